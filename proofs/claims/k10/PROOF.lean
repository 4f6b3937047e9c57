import PyProof.Rows.All
import Wide.All
import OpenK.AllK
import Wide.FinOn
import PyProof.EqAt
import PyProof.EqKinds
import PyProof.TupleCall
import KE.KTryMore
import KE.KIsNot
import PyProof.MeetsStr
import PyProof.Rows.RuleM_int
import PyProof.CompFree
import PyProof.WalksEnum
import PyProof.EnumMake
import PyProof.NeKinds
import PyProof.ConsumeWalk
import PyProof.CompMap
import PyProof.Rows.EqBoolInt
import KE.IntBitsLaws
import PyProof.ZipIter
import PyProof.Rows.ZipGen
import PyProof.MinMaxWalk
import PyProof.WalkInts
import PyProof.Rows.CallKwBuiltin
import PyProof.CompUse
import KE.KRevIter
import PyProof.Rows.Range3
import PyProof.NsDelKeeps
import PyProof.SumAny
import PyProof.TupleIter
import PyProof.WalksMore
import PyProof.ListRange
import PyProof.CollectStr
import PyProof.TupleOfStr
import PySem.Challenge.RW_restward_k10_roots_counted
set_option Elab.async false
set_option linter.all false
-- CHANGE: your row's module here,as the last of these rows
set_option maxRecDepth 100000
namespace L2
open PySem PySem.Spec PyProof.Rows
abbrev Key:=Sum Int Str
def bs3:Key→Value→Bool
 | .inl k,v=>Value.isInt k v
 | .inr x,v=>Value.isStrOf x v
def bF5 (w:World):Key→Int
 | .inl k=>hashInt k
 | .inr x=>hashStr w x
theorem D3:∀ {k:Key} {v:Value},bs3 k v=true→(∃ i t,k=Sum.inl i∧v=Value.int i t) ∨ (∃ x t,k=Sum.inr x∧v=Value.str x t)
 | .inl i,v,h=>by
  obtain ⟨t,e⟩:=Value.isInt_shape (k:=i) (v:=v) h
  exact .inl ⟨i,t,rfl,e⟩
 | .inr x,v,h=>by
  obtain ⟨t,e⟩:=Value.isStrOf_shape (x:=x) (v:=v) h
  exact .inr ⟨x,t,rfl,e⟩
theorem by9 (a b:Int):decide ((Sum.inl a:Key)=Sum.inl b)=(a == b):=by
 by_cases e:a=b
 ·subst e;simp
 ·have h:¬ (Sum.inl a:Key)=Sum.inl b:=fun q=>e (Sum.inl.inj q)
  rw [decide_eq_false h]
  exact (beq_eq_false_iff_ne.mpr e).symm
theorem by6 (a b:Str):decide ((Sum.inr a:Key)=Sum.inr b)=decide (a=b):=by
 by_cases e:a=b
 ·subst e;simp
 ·have h:¬ (Sum.inr a:Key)=Sum.inr b:=fun q=>e (Sum.inr.inj q)
  rw [decide_eq_false h,decide_eq_false e]
theorem by8 (a:Int) (b:Str):decide ((Sum.inl a:Key)=Sum.inr b)=false:=decide_eq_false (fun q=>nomatch q)
theorem by7 (a:Str) (b:Int):decide ((Sum.inr a:Key)=Sum.inl b)=false:=decide_eq_false (fun q=>nomatch q)
def aD8 (prog:Program) (w:World):PySem.KeyKind prog w Key where
 is:=bs3
 hash:=bF5 w
 inj:=fun v a b ha hb=>by
  rcases D3 ha with ⟨i,t,rfl,rfl⟩ | ⟨x,t,rfl,rfl⟩
  ·rcases D3 hb with ⟨j,u,rfl,e⟩ | ⟨y,u,rfl,e⟩
   ·injection e with e1 _;rw [e1]
   ·exact nomatch e
  ·rcases D3 hb with ⟨j,u,rfl,e⟩ | ⟨y,u,rfl,e⟩
   ·exact nomatch e
   ·injection e with e1 _;rw [e1]
 byValue:=fun k v h=>by
  rcases D3 h with ⟨i,t,rfl,rfl⟩ | ⟨x,t,rfl,rfl⟩ <;> rfl
 pyHash:=fun hv h=>by
  rcases D3 hv with ⟨i,t,rfl,rfl⟩ | ⟨x,t,rfl,rfl⟩
  ·exact wpAny_pyHash_int h
  ·exact wpAny_pyHash_str h
 eqBool:=fun hu hv h=>by
  rcases D3 hu with ⟨i,t,rfl,rfl⟩ | ⟨x,t,rfl,rfl⟩
  ·rcases D3 hv with ⟨j,u,rfl,rfl⟩ | ⟨y,u,rfl,rfl⟩
   ·rw [by9] at h;exact wpAny_eqBool_int h
   ·rw [by8] at h;exact SeqAt.EqAt.int_str i t y u _ _ _ _ h
  ·rcases D3 hv with ⟨j,u,rfl,rfl⟩ | ⟨y,u,rfl,rfl⟩
   ·rw [by7] at h;exact SeqAt.EqAt.str_int x t j u _ _ _ _ h
   ·rw [by6] at h;exact wpAny_eqBool_str h
 «strs» := fun k x t v h=>by
  rcases D3 h with ⟨i,u,rfl,e⟩ | ⟨y,u,rfl,e⟩
  ·exact nomatch e
  ·injection e with e1 _
   subst e1
   cases v <;> rfl
inductive V where
 | non | bl (b:Bool) | int (i:Int) | str (x:Str) | byt (b:Array UInt8) | flt (b:UInt64) | ref (a:Addr) | ty (n:String)
 deriving DecidableEq
def A7:V→Value→Prop
 | .non,u=>u=Value.none
 | .bl b,u=>u=Value.bool b
 | .int i,u => ∃ t,u=Value.int i t
 | .str x,u => ∃ t,u=Value.str x t
 | .byt b,u => ∃ t,u=Value.bytes b t
 | .flt b,u => ∃ t,u=Value.float b t
 | .ref a,u=>u=Value.ref a
 | .ty n,u=>u=Value.type n
abbrev t8:List V→List Value→Prop:=Paired A7
theorem t8.length {xs:List V} {us:List Value} (r:t8 xs us):xs.length=us.length:=Paired.length r
theorem t8.get:∀ {xs:List V} {us:List Value} {i:Nat} {x:V},t8 xs us→xs[i]? = some x→∃ u,us[i]? = some u∧A7 x u
 | _,_,_,_,.nil,e=>by simp at e
 | _,_,0,_,.cons r _,e=>by simp at e;subst e;exact ⟨_,rfl,r⟩
 | _,_,i + 1,x,.cons _ t,e=>by
  obtain ⟨u,h1,h2⟩:=t8.get (i:=i) (x:=x) t (by simpa using e)
  exact ⟨u,by simpa using h1,h2⟩
theorem t8.set {x:V} {u:Value} (r:A7 x u):∀ {xs:List V} {us:List Value} (i:Nat),t8 xs us→t8 (xs.set i x) (us.set i u)
 | _,_,_,.nil=>.nil
 | _,_,0,.cons _ t=>.cons r t
 | _,_,i + 1,.cons q t=>.cons q (t8.set r i t)
theorem t8.append:∀ {xs ys:List V} {us ws:List Value},t8 xs us→t8 ys ws→t8 (xs ++ ys) (us ++ ws)
 | _,_,_,_,.nil,s=>s
 | _,_,_,_,.cons r t,s=>.cons r (t8.append t s)
theorem t8.take:∀ {xs:List V} {us:List Value} (n:Nat),t8 xs us→t8 (xs.take n) (us.take n)
 | _,_,0,_=>.nil
 | _,_,_ + 1,.nil=>.nil
 | _,_,n + 1,.cons r t=>.cons r (t8.take n t)
theorem t8.drop:∀ {xs:List V} {us:List Value} (n:Nat),t8 xs us→t8 (xs.drop n) (us.drop n)
 | _,_,0,r=>r
 | _,_,_ + 1,.nil=>.nil
 | _,_,n + 1,.cons _ t=>t8.drop n t
def bB4:Option V→Option Value→Prop
 | some v,some u=>A7 v u
 | none,none=>True
 | _,_=>False
def KV {κ:Type}:List (κ × V)→List (κ × Value)→Prop:=Paired fun (p:κ × V) (q:κ × Value)=>p.1=q.1∧A7 p.2 q.2
def kV:Key→V
 | .inl i=>.int i
 | .inr x=>.str x
inductive HO where
 /-- a list -/
 | lst (xs:List V)
 /-- a tuple (never changes) -/
 | tup (xs:List V)
 /-- a dict whose keys are ints and texts;one whose keys are tuples of ints and texts (the empty one is both) -/
 | dK (kvs:List (Key × V)) | dT (kvs:List (List Key × V))
 /-- a set of ints: its members,its size -/
 | set (S:Int→Bool) (n:Nat)
 /-- an instance of the class at C,its dict at dx,its attributes -/
 | ins (C dx:Addr) (fs:List (Str × V))
 /-- the dict of the instance at x -/
 | own (x:Addr)
 /-- the dict of an exception -/
 | xd (fs:List (Str × V))
 /-- a bound method,f of x -/
 | met (f x:Addr)
 /-- a range object lo,lo + 1,.. S8 hi -/
 | rng (lo hi:Int)
 /-- a thing that is known to the object (the script;a dict while a loop walks it): read,never written while it is so -/
 | frz (o:Obj) (u:HO)
 /-- a code object's table -/
 | tbl (ps:Array Value)
 /-- any other thing,by what is true of its one object (a def of one's own: SetO a S n:=HO.ext fun h=>..) -/
 | ext (φ:Heap→Prop)
abbrev Hp:=Addr→Option HO
def upd (H:Hp) (a:Addr) (o:HO):Hp:=fun b=>if b=a then some o else H b
theorem d7 {H:Hp} {a:Addr} {o:HO}:upd H a o a=some o:=by unfold upd;rw [if_pos rfl]
theorem j3 {H:Hp} {a b:Addr} {o:HO} (h:b ≠ a):upd H a o b=H b:=by unfold upd;rw [if_neg h]
theorem br9 {H:Hp} {a b:Addr} {o u:HO} (h:H a=some o) (h':H b=some u) (d:o ≠ u):a ≠ b:=by
 intro e;subst e;rw [h] at h';exact d (Option.some.inj h')
theorem i5 {H:Hp} {a b:Addr} {o:HO} (h:H a=some o) (h':H b=none):a ≠ b:=by
 intro e;subst e;rw [h] at h';cases h'
section
variable (P:Program) (w:World)
def G2 (H:Hp) (h:Heap) (a:Addr):HO→Prop
 | .lst xs=>xs.length≤sizeLine∧∃ (its:List Value) (n:Nat),t8 xs its∧h.get? a=some { cls:=.type "list",data:=.seq its.toArray n }
 | .tup xs=>xs.length≤sizeLine∧∃ its:List Value,t8 xs its∧IsTup h a its.toArray
 | .dK kvs=>kvs.length≤sizeLine∧(a == sysModules)=false∧∃ vs,KV kvs vs∧h.DictOf (aD8 P w) a vs
 | .dT kvs=>kvs.length≤sizeLine∧(a == sysModules)=false∧∃ xs:List (List Key × Addr × Value),
   Paired (fun (p:List Key × V) (q:List Key × Addr × Value)=>p.1=q.1∧H q.2.1=some (.tup (p.1.map kV))∧A7 p.2 q.2.2) kvs xs ∧
   ∃ o es ep,h.get? a=some o∧o.ExactDict∧o.data=.dict es ep∧es.toList=xs.map (entryOfKey (tupleKind (aD8 P w)))∧(xs.map (·.1)).Nodup
 | .set S n=>h.SetOf (intKind P w) a S n
 | .ins C dx fs=>H dx=some (.own a)∧fs.length≤1000∧dx ≠ a∧h.get? a=some (PySem.W.instObj C dx) ∧
   ∃ mA,h.Ns1 dx mA∧(∀ f,bB4 (fs.lookup f) (mA f))∧PySem.Within mA (fs.map (·.1))
 | .own _ => ∃ o,h.get? a=some o
 | .xd fs => ∃ mA,h.Ns1 a mA∧∀ f,bB4 (fs.lookup f) (mA f)
 | .rng lo hi => ∃ t u v,h.get? a=some { cls:=.type "range",data:=.fields #[.int lo t,.int hi u,.int 1 v] }
 | .frz o u=>h.get? a=some o∧G2 H h a u
 | .tbl ps=>h.get? a=some { cls:=.none,data:=.fields ps }
 | .met f x=>h.get? a=some (PySem.W.methodObj (.ref f) (.ref x))
 | .ext φ=>φ h∧(∃ o,h.get? a=some o)∧∀ h1 h2:Heap,φ h1→(∀ o,h1.get? a=some o→h2.get? a=some o)→φ h2
def HOk (H:Hp) (h:Heap):Prop:=∀ a o,H a=some o→G2 P w H h a o
end
section
variable {P:Program} {w:World} {H H':Hp} {h h':Heap} {a:Addr} {o:HO}
theorem G2.lt (x:G2 P w H h a o):a < h.objs.size:=by
 cases o with
 | lst xs=>obtain ⟨_,_,_,_,e⟩:=x;exact Heap.lt_size e
 | tup xs=>obtain ⟨_,_,_,p⟩:=x;exact p.lt
 | dK kvs=>obtain ⟨_,_,_,_,o,_,_,e,_⟩:=x;exact Heap.lt_size e
 | dT kvs=>obtain ⟨_,_,_,_,o,_,_,e,_⟩:=x;exact Heap.lt_size e
 | set S n=>obtain ⟨o,_,_,_,e,_⟩:=x;exact Heap.lt_size e
 | ins C dx fs=>obtain ⟨_,_,_,e,_⟩:=x;exact Heap.lt_size e
 | own y=>obtain ⟨_,e⟩:=x;exact Heap.lt_size e
 | xd fs=>obtain ⟨_,⟨_,_,_,e,_⟩,_⟩:=x;exact Heap.lt_size e
 | rng lo hi=>obtain ⟨_,_,_,e⟩:=x;exact Heap.lt_size e
 | frz ob u=>obtain ⟨e,_⟩:=x;exact Heap.lt_size e
 | tbl ps=>exact Heap.lt_size (show h.get? a=some _ from x)
 | met f y=>exact Heap.lt_size (show h.get? a=some _ from x)
 | ext φ=>obtain ⟨_,⟨_,e⟩,_⟩:=x;exact Heap.lt_size e
theorem Paired.mapP {α β:Type} {F G:α→β→Prop}:∀ {l₁:List α} {l₂:List β},Paired F l₁ l₂→(∀ a b,F a b→G a b)→Paired G l₁ l₂
 | _,_,.nil,_=>.nil
 | _,_,.cons r t,f=>.cons (f _ _ r) (Paired.mapP t f)
theorem G2.stay (x:G2 P w H h a o) (k:∀ b u,(b=a ∨ H b=some (.own a))→h.get? b=some u→h'.get? b=some u)
  (ho:∀ b,H b=some (.own a)→H' b=some (.own a)) (ht:∀ b xs,H b=some (.tup xs)→H' b=some (.tup xs)):G2 P w H' h' a o:=by
 induction o with
 | lst xs=>obtain ⟨z,its,n,r,e⟩:=x;exact ⟨z,its,n,r,k _ _ (.inl rfl) e⟩
 | tup xs=>obtain ⟨z,its,r,ob,e,c⟩:=x;exact ⟨z,its,r,ob,k _ _ (.inl rfl) e,c⟩
 | dK kvs=>obtain ⟨z,y,vs,r,ob,es,ep,e,c⟩:=x;exact ⟨z,y,vs,r,ob,es,ep,k _ _ (.inl rfl) e,c⟩
 | dT kvs =>
  obtain ⟨z,y,xs,r,ob,es,ep,e,c⟩:=x
  exact ⟨z,y,xs,Paired.mapP r fun p q z=>⟨z.1,ht _ _ z.2.1,z.2.2⟩,ob,es,ep,k _ _ (.inl rfl) e,c⟩
 | set S n=>obtain ⟨ob,es,ep,t,e,c⟩:=x;exact ⟨ob,es,ep,t,k _ _ (.inl rfl) e,c⟩
 | ins C dx fs =>
  obtain ⟨d,z,ne,e,mA,⟨od,es,ep,e2,c⟩,r⟩:=x
  exact ⟨ho _ d,z,ne,k _ _ (.inl rfl) e,mA,⟨od,es,ep,k _ _ (.inr d) e2,c⟩,r⟩
 | own y=>obtain ⟨ob,e⟩:=x;exact ⟨ob,k _ _ (.inl rfl) e⟩
 | xd fs=>obtain ⟨mA,⟨od,es,ep,e,c⟩,r⟩:=x;exact ⟨mA,⟨od,es,ep,k _ _ (.inl rfl) e,c⟩,r⟩
 | rng lo hi=>obtain ⟨t,u,v,e⟩:=x;exact ⟨t,u,v,k _ _ (.inl rfl) e⟩
 | frz ob u ih=>obtain ⟨e,q⟩:=x;exact ⟨k _ _ (.inl rfl) e,ih q⟩
 | tbl ps =>
  have e:h.get? a=some { cls:=.none,data:=.fields ps }:=x
  show h'.get? a=some { cls:=.none,data:=.fields ps }
  exact k a _ (.inl rfl) e
 | met f y =>
  have e:h.get? a=some (PySem.W.methodObj (.ref f) (.ref y)):=x
  show h'.get? a=some (PySem.W.methodObj (.ref f) (.ref y))
  exact k a _ (.inl rfl) e
 | ext φ=>obtain ⟨p,⟨o,e⟩,st⟩:=x;exact ⟨st _ _ p fun o q=>k _ _ (.inl rfl) q,⟨o,k _ _ (.inl rfl) e⟩,st⟩
theorem HOk.lt (x:HOk P w H h) (e:H a=some o):a < h.objs.size:=(x a o e).lt
theorem HOk.fresh (x:HOk P w H h) (e:h.objs.size≤a):H a=none:=by
 cases q:H a with
 | none=>rfl
 | some u=>exact absurd (Nat.lt_of_lt_of_le (x.lt q) e) (Nat.lt_irrefl _)
theorem HOk.kept (x:HOk P w H h) (k:∀ b u,h.get? b=some u→h'.get? b=some u):HOk P w H h':=fun a o e =>
 (x a o e).stay (fun b u _ q=>k b u q) (fun _ q=>q) fun _ _ q=>q
theorem HOk.laid (x:HOk P w H h) (k:∀ b u,h.get? b=some u→h'.get? b=some u) (hp:h.objs.size≤a) (new:G2 P w (upd H a o) h' a o):HOk P w (upd H a o) h':=fun b u e=>by
 have hn:=x.fresh hp
 by_cases hb:b=a
 ·subst hb;rw [d7] at e;cases e;exact new
 ·rw [j3 hb] at e
  exact (x b u e).stay (fun c v _ q=>k c v q) (fun c q=>by rw [j3 (i5 q hn)];exact q) fun c xs q=>by rw [j3 (i5 q hn)];exact q
end
def Rd (H:Hp) (a:Addr) (u:HO):Prop:=H a=some u ∨ ∃ o,H a=some (.frz o u)
theorem Rd.ok {P:Program} {w:World} {H:Hp} {h:Heap} {a:Addr} {u:HO} (r:Rd H a u) (x:HOk P w H h):G2 P w H h a u:=by
 rcases r with r | ⟨o,r⟩
 ·exact x a u r
 ·obtain ⟨_,q⟩:=x a _ r
  exact q
def Mut:Option HO→Prop
 | some (.lst _)=>True
 | some (.dK _)=>True
 | some (.dT _)=>True
 | some (.set _ _)=>True
 | some (.ins _ _ _)=>True
 | some (.ext _)=>True
 | _=>False
section
variable {P:Program} {w:World} {H:Hp} {h h':Heap} {x e:Addr} {o':HO}
theorem HOk.write (ok:HOk P w H h) (mu:Mut (H x)) (he:e=x ∨ H e=some (.own x)) (k:∀ b u,b ≠ e→h.get? b=some u→h'.get? b=some u) (heo:∃ u,h'.get? e=some u)
  (new:G2 P w (upd H x o') h' x o'):HOk P w (upd H x o') h':=fun b u q=>by
 have nown:∀ c y,H c=some (.own y)→c ≠ x:=fun c y r z=>by subst z;rw [r] at mu;exact mu
 have ntup:∀ c xs,H c=some (.tup xs)→c ≠ x:=fun c xs r z=>by subst z;rw [r] at mu;exact mu
 by_cases hb:b=x
 ·subst hb;rw [d7] at q;cases q;exact new
 ·rw [j3 hb] at q
  by_cases hbe:b=e
  ·have q':H b=some (.own x):=by
    rcases he with z | z
    ·exact absurd (hbe.trans z) hb
    ·rw [hbe];exact z
   rw [q] at q';cases q'
   obtain ⟨v,hv⟩:=heo
   exact ⟨v,by rw [hbe];exact hv⟩
  ·refine (ok b u q).stay (fun c v hc r=>k c v ?_ r) (fun c r=>by rw [j3 (nown c b r)];exact r) fun c xs r=>by rw [j3 (ntup c xs r)];exact r
   rcases hc with rfl | hc
   ·exact hbe
   ·rintro rfl
    rcases he with z | z
    ·exact nown c b hc z
    ·rw [hc] at z;cases z;exact hb rfl
end
structure Un (fs ex:List Addr) (H H':Hp) (h h':Heap):Prop where
 keep:∀ b o,h.get? b=some o→H b=none→b ∉ fs→b ∉ ex→h'.get? b=some o
 slot:∀ b o,h.get? b=some o→H b=none→b ∈ fs→b ∉ ex→∃ sl,h'.get? b=some { o with slots:=sl }
 free:∀ b o,h.get? b=some o→H b=none→b ∉ ex→H' b=none
 there:∀ b o,h.get? b=some o→b ∉ ex→∃ o',h'.get? b=some o'
 tups:∀ b xs,H b=some (.tup xs)→H' b=some (.tup xs)
 frzs:∀ b o u,H b=some (.frz o u)→H' b=some (.frz o u)
 tbls:∀ b ps,H b=some (.tbl ps)→∃ more,H' b=some (.tbl (ps ++ more))
section
variable {fs fs' ex ex':List Addr} {H H1 H2:Hp} {h h1 h2 h':Heap} {a x e:Addr} {o:HO}
theorem Un.any (u:Un fs ex H H1 h h1) {b:Addr} {ob:Obj} (q:h.get? b=some ob) (n:H b=none) (hx:b ∉ ex):∃ sl,h1.get? b=some { ob with slots:=sl }:=by
 by_cases hb:b ∈ fs
 ·exact u.slot b ob q n hb hx
 ·exact ⟨ob.slots,u.keep b ob q n hb hx⟩
theorem Un.kept (k:∀ b u,h.get? b=some u→h'.get? b=some u):Un fs ex H H h h' :=
 ⟨fun b ob q _ _ _=>k b ob q,fun b ob q _ _ _=>⟨ob.slots,k b ob q⟩,fun _ _ _ n _=>n,fun b ob q _=>⟨ob,k b ob q⟩,fun _ _ q=>q,fun _ _ _ q=>q,fun _ ps q=>⟨#[],by rw [q];simp⟩⟩
theorem Un.refl:Un fs ex H H h h:=Un.kept fun _ _ q=>q
theorem Un.laid (k:∀ b u,h.get? b=some u→h'.get? b=some u) (hp:h.objs.size≤a) (hn:H a=none):Un fs ex H (upd H a o) h h' where
 keep:=fun b u q _ _ _=>k b u q
 slot:=fun b u q _ _ _=>⟨u.slots,k b u q⟩
 free:=fun b u q n _=>by rw [j3 (Nat.ne_of_lt (Nat.lt_of_lt_of_le (Heap.lt_size q) hp))];exact n
 there:=fun b u q _=>⟨u,k b u q⟩
 tups:=fun b xs q=>by rw [j3 (i5 q hn)];exact q
 frzs:=fun b u xs q=>by rw [j3 (i5 q hn)];exact q
 tbls:=fun b ps q=>⟨#[],by rw [j3 (i5 q hn),q];simp⟩
theorem Un.write (mu:Mut (H x)) (he:e=x ∨ H e=some (.own x)) (k:∀ b u,b ≠ e→h.get? b=some u→h'.get? b=some u) (heo:∃ u,h'.get? e=some u):Un fs ex H (upd H x o) h h':=by
 have hx:∀ b,H b=none→b ≠ x:=fun b n z=>by subst z;rw [n] at mu;exact mu
 have hb:∀ b,H b=none→b ≠ e:=fun b n z=>by
  subst z
  rcases he with r | r
  ·exact hx b n r
  ·rw [n] at r;cases r
 have hm:∀ b u,H b=some u→¬ Mut (some u)→b ≠ x:=fun b u q nm z=>by subst z;rw [q] at mu;exact nm mu
 refine ⟨fun b u q n _ _=>k b u (hb b n) q,fun b u q n _ _=>⟨u.slots,k b u (hb b n) q⟩,fun b u q n _=>by rw [j3 (hx b n)];exact n,fun b u q _=>?_,
  fun b xs q=>by rw [j3 (hm b _ q fun z=>z)];exact q,fun b u xs q=>by rw [j3 (hm b _ q fun z=>z)];exact q,fun b ps q=>⟨#[],by rw [j3 (hm b _ q fun z=>z),q];simp⟩⟩
 by_cases hbe:b=e
 ·subst hbe;exact heo
 ·exact ⟨u,k b u hbe q⟩
end
def trk (h:Heap) (H:Hp):List Addr:=(List.range h.objs.size).filter fun a=>(H a).isSome
def aE5 (h:Heap) (H:Hp):Heap:=PySem.W.hideAll h (trk h H)
theorem aV9 (h:Heap) (H:Hp):(aE5 h H).objs.size=h.objs.size:=PySem.W.hideAll_size _ _
theorem bf4 {h:Heap} {H:Hp} {b:Addr} {o:Obj} (e:h.get? b=some o) (n:H b=none):(aE5 h H).get? b=some o :=
 PySem.W.hideAll_get _ e fun hm=>by
  have q:(H b).isSome=true:=(List.mem_filter.mp hm).2
  rw [n] at q;simp at q
theorem bm9 {h:Heap} {H:Hp} {b:Addr} {o:Obj} (e:(aE5 h H).get? b=some o):h.get? b=some o∧H b=none:=by
 have e':h.get? b=some o:=PySem.W.of_hideAll (trk h H) e
 refine ⟨e',?_⟩
 cases q:H b with
 | none=>rfl
 | some x =>
  have hm:b ∈ trk h H:=List.mem_filter.mpr ⟨List.mem_range.mpr (Heap.lt_size e'),by simp [q]⟩
  have z:(aE5 h H).get? b=none:=PySem.W.hideAll_none (trk h H) hm
  rw [z] at e;cases e
def bp7 (g h:Heap) (L:Addr):List (Addr × Obj):=(List.range h.objs.size).filterMap fun a=>if a=L ∨ (g.get? a).isSome=true then none else (h.get? a).map fun o=>(a,o)
def ab2 (g h:Heap) (L d:Addr):List (Addr × Obj):=(bp7 g h L).filter fun p=>decide (p.1 ≠ d)
structure Mod (K:PySem.W.Frag) (mg:Str→Option Value) (base:Heap):Prop where
 kin:K.In base
 glob:base.Ns mainGlobals mg
 blt:∃ mb,base.Ns builtinsNs mb∧∀ x:Str,x ≠ "__name__"→mb x=bootBuiltins x
 nolimit:base.NoLimit
structure Cx where
 prog:Program
 w:World
 K:PySem.W.Frag
 mg:Str→Option Value
 base:Heap
 A:Around
 N:List Str
 s₀:Shared
 H₀:Hp
 env:Env
 outer:List Env
 stack:List Env
 ex:List Addr
 fn:Str→Bool
 calm:Bool
 pn:List (Addr × Obj)
 xe:Value→Shared→Prop
def frs (l:List Env):List Addr:=l.filterMap (·.frame)
abbrev Cx.fs (X:Cx):List Addr:=frs X.outer
def Vis (sc:Scope) (x:Str):Prop:=sc.names.lookup x=some .local ∨ sc.names.lookup x=some .cell ∨ sc.names.lookup x=some .free
def Loc (sc:Scope) (x:Str):Prop:=sc.names.lookup x=some .local ∨ sc.names.lookup x=some .cell
def bG6 (env:Env) (h:Heap) (m:Str→Option Value) (x:Str) (u:Value):Prop :=
 (env.kindOf x=some .local∧m x=some u) ∨ ((env.kindOf x=some .cell ∨ env.kindOf x=some .free)∧∃ c,env.cells.lookup x=some c∧h.IsCell c (some u))
structure Cx.Ok (X:Cx):Prop where
 mod:Mod X.K X.mg X.base
 kind:X.env.scope.kind=.function
 glob:X.env.globals=mainGlobals
 blt:X.env.builtins=builtinsNs
 above:X.s₀.heap.objs.size≤X.env.locals
 inj:∀ x y c,X.env.cells.lookup x=some c→X.env.cells.lookup y=some c→x=y
 has:∀ x,(X.env.kindOf x=some .cell ∨ X.env.kindOf x=some .free)→∃ c,X.env.cells.lookup x=some c
 cab:∀ x c,X.fn x=true→X.env.cells.lookup x=some c→X.s₀.heap.objs.size≤c
 hd:X.calm=true→X.A.handled=none
 frames:X.A.frames=some X.stack
 stk:X.stack=X.outer ∨ (X.stack=X.env :: X.outer∧X.env.frame=some X.env.locals)
 exf:∀ b ∈ X.ex,b ≠ X.env.locals∧∀ x c,X.env.cells.lookup x=some c→c ≠ b
 bs:∀ b o,X.base.get? b=some o→X.s₀.heap.get? b=some o∧X.H₀ b=none
 bsz:X.base.objs.size≤X.s₀.heap.objs.size
 noex:∀ b o,X.base.get? b=some o→b ∉ X.ex
 exfs:∀ b ∈ X.ex,b ∉ X.fs
 funs:X.s₀.heap.FunFrames X.base X.outer
 frf:∀ b ∈ X.fs,X.H₀ b=none
structure Inv (X:Cx) (pins:List (Addr × Obj)) (σ:List (Option V)) (H:Hp) (s:Shared):Prop where
 ok:X.Ok
 os:s.os=X.s₀.os
 bare:AllBare s.gens
 base:Un X.fs X.ex X.H₀ H X.s₀.heap s.heap
 loc:∃ m,s.heap.Ns X.env.locals m∧∀ (i:Nat) (x:Str) (v:V),X.N[i]? = some x→σ[i]? = some (some v)→Vis X.env.scope x→∃ u,A7 v u∧bG6 X.env s.heap m x u
 cell:∀ x c,X.env.cells.lookup x=some c→∃ v,s.heap.IsCell c v
 free:H X.env.locals=none
 freeC:∀ x c,X.env.cells.lookup x=some c→H c=none
 pin:∀ p ∈ X.pn ++ pins,s.heap.get? p.1=some p.2∧H p.1=none∧p.1 ≠ X.env.locals∧p.1 ∉ X.fs∧∀ v,p.2.data ≠ .cell v
 hok:HOk X.prog X.w H s.heap
 len:σ.length=X.N.length
section
variable {X:Cx} {pins:List (Addr × Obj)} {σ:List (Option V)} {H H':Hp} {s:Shared} {h':Heap}
theorem Cx.Ok.nofr (ok:X.Ok) {b:Addr} {o:Obj} (e:X.base.get? b=some o):b ∉ X.fs:=fun hb=>by
 have:=(ok.funs.mem hb).1
 rw [e] at this;cases this
theorem Inv.bs (I:Inv X pins σ H s):∀ b o,X.base.get? b=some o→s.heap.get? b=some o∧H b=none:=fun b o e =>
 ⟨I.base.keep b o (I.ok.bs b o e).1 (I.ok.bs b o e).2 (I.ok.nofr e) (I.ok.noex b o e),I.base.free b o (I.ok.bs b o e).1 (I.ok.bs b o e).2 (I.ok.noex b o e)⟩
theorem Inv.bk (I:Inv X pins σ H s):∀ b o,X.base.get? b=some o→s.heap.get? b=some o:=fun b o e=>(I.bs b o e).1
theorem Inv.mod (I:Inv X pins σ H s):Mod X.K X.mg X.base:=I.ok.mod
theorem Inv.kIn (I:Inv X pins σ H s):X.K.In s.heap:=I.ok.mod.kin.keeps I.bk
theorem Inv.fr (I:Inv X pins σ H s):∃ m,Fr X.base X.env.locals s.heap m :=
 let ⟨m,hn,_⟩:=I.loc
 ⟨m,hn,I.bk,Nat.le_trans I.ok.bsz I.ok.above⟩
theorem Inv.lt (I:Inv X pins σ H s):X.env.locals < s.heap.objs.size:=let ⟨_,hn,_⟩:=I.loc;hn.lt
theorem Inv.sz (I:Inv X pins σ H s):X.s₀.heap.objs.size≤s.heap.objs.size:=Nat.le_trans I.ok.above (Nat.le_of_lt I.lt)
theorem Inv.nofs (I:Inv X pins σ H s) {a:Addr} (h:s.heap.objs.size≤a):a ∉ X.fs:=fun hb=>by
 obtain ⟨_,o,ho,_⟩:=I.ok.funs.mem hb
 exact absurd (Nat.lt_of_lt_of_le (Heap.lt_size ho) (Nat.le_trans I.sz h)) (Nat.lt_irrefl _)
theorem Inv.cne (I:Inv X pins σ H s):∀ x c,X.env.cells.lookup x=some c→c ≠ X.env.locals:=fun x c e z=>by
 obtain ⟨v,o,ho,hd⟩:=I.cell x c e
 obtain ⟨m,⟨o',es,ep,ho',hd',_⟩,_⟩:=I.loc
 rw [z,ho'] at ho;cases ho;rw [hd'] at hd;cases hd
theorem Inv.funs (I:Inv X pins σ H s):s.heap.FunFrames X.base X.outer:=by
 have all:∀ (l:List Env),(∀ b ∈ frs l,b ∈ X.fs)→X.s₀.heap.FunFrames X.base l→s.heap.FunFrames X.base l:=by
  intro l
  induction l with
  | nil=>intro _ _;trivial
  | cons env r ih =>
   intro hs hl
   obtain ⟨hk,⟨L,o,hf,hn,ho,hd⟩,hr⟩:=hl
   have hL:L ∈ X.fs:=hs L (by unfold frs;rw [List.filterMap_cons,hf];exact List.mem_cons_self)
   obtain ⟨sl,e⟩:=I.base.slot L o ho (I.ok.frf L hL) hL fun z=>I.ok.exfs L z hL
   exact ⟨hk,⟨L,_,hf,hn,e,hd⟩,ih (fun b hb=>hs b (by unfold frs;rw [List.filterMap_cons,hf];exact List.mem_cons_of_mem _ hb)) hr⟩
 exact all X.outer (fun _ hb=>hb) I.ok.funs
theorem Inv.stack (I:Inv X pins σ H s):s.heap.FunFrames X.base X.stack:=by
 rcases I.ok.stk with e | ⟨e,hf⟩
 ·rw [e];exact I.funs
 ·rw [e]
  obtain ⟨m,hn,_⟩:=I.loc
  refine .cons (by rw [I.ok.kind];decide) hf hn ?_ I.funs
  exact Heap.get?_none_of_le (Nat.le_trans I.ok.bsz I.ok.above)
theorem Inv.stkSub (I:Inv X pins σ H s):∀ b ∈ frs X.stack,b ∈ X.env.locals :: X.fs:=fun b hb=>by
 rcases I.ok.stk with e | ⟨e,hf⟩
 ·rw [e] at hb;exact List.mem_cons_of_mem _ hb
 ·rw [e] at hb
  unfold frs at hb
  rw [List.filterMap_cons,hf] at hb
  exact hb
theorem Inv.stkFree (I:Inv X pins σ H s):∀ b ∈ frs X.stack,H b=none:=fun b hb=>by
 rcases List.mem_cons.mp (I.stkSub b hb) with e | hb
 ·rw [e];exact I.free
 ·obtain ⟨_,o,ho,_⟩:=I.ok.funs.mem hb
  exact I.base.free b o ho (I.ok.frf b hb) fun z=>I.ok.exfs b z hb
theorem Inv.step {g':Array GenState} {t':Nat} {d':Drawn} {ch:List Addr} (I:Inv X pins σ H s)
  (hch:∀ b ∈ ch,(b ∈ X.ex ∨ X.s₀.heap.objs.size≤b)∧b ≠ X.env.locals∧(∀ x c,X.env.cells.lookup x=some c→c ≠ b)∧∀ p ∈ X.pn ++ pins,p.1 ≠ b)
  (keep:∀ b o,b ≠ X.env.locals→b ∉ X.fs→b ∉ ch→s.heap.get? b=some o→H b=none→h'.get? b=some o)
  (slot:∀ b o,b ≠ X.env.locals→b ∈ X.fs→b ∉ ch→s.heap.get? b=some o→H b=none→∃ sl,h'.get? b=some { o with slots:=sl }) (free:∀ b o,b ∉ ch→s.heap.get? b=some o→H b=none→H' b=none)
  (there:∀ b o,b ∉ ch→s.heap.get? b=some o→∃ o',h'.get? b=some o')
  (tups:∀ b xs,H b=some (.tup xs)→H' b=some (.tup xs)) (frzs:∀ b o u,H b=some (.frz o u)→H' b=some (.frz o u)) (tbls:∀ b ps,H b=some (.tbl ps)→∃ more,H' b=some (.tbl (ps ++ more)))
  (ns:∀ m,s.heap.Ns X.env.locals m→h'.Ns X.env.locals m) (hok:HOk X.prog X.w H' h') (hg:AllBare g') :
  Inv X pins σ H' { s with heap:=h',gens:=g',drawn:=d',toks:=t' }:=by
 have neL:∀ b o,X.s₀.heap.get? b=some o→b ≠ X.env.locals:=fun b o e=>Nat.ne_of_lt (Nat.lt_of_lt_of_le (Heap.lt_size e) I.ok.above)
 have neC:∀ b o,X.s₀.heap.get? b=some o→b ∉ X.ex→b ∉ ch:=fun b o e hx hb=>by
  rcases (hch b hb).1 with z | z
  ·exact hx z
  ·exact absurd (Nat.lt_of_lt_of_le (Heap.lt_size e) z) (Nat.lt_irrefl _)
 have cellK:∀ x c,X.env.cells.lookup x=some c→∀ v,s.heap.IsCell c v→h'.IsCell c v:=fun x c e v ⟨o,ho,hd⟩=>by
  have nch:c ∉ ch:=fun z=>(hch c z).2.2.1 x c e rfl
  by_cases hc:c ∈ X.fs
  ·obtain ⟨sl,q⟩:=slot c o (I.cne x c e) hc nch ho (I.freeC x c e)
   exact ⟨_,q,hd⟩
  ·exact ⟨o,keep c o (I.cne x c e) hc nch ho (I.freeC x c e),hd⟩
 refine ⟨I.ok,I.os,hg,⟨fun b o e n hb hx=>?_,fun b o e n hb hx=>?_,fun b o e n hx=>?_,fun b o e hx=>?_,fun b xs e=>tups b xs (I.base.tups b xs e),fun b o xs e=>frzs b o xs (I.base.frzs b o xs e),fun b ps e=>?_⟩,?_,fun x c e=>?_,?_,fun x c e=>?_,fun p hp=>?_,hok,I.len⟩
 ·exact keep b o (neL b o e) hb (neC b o e hx) (I.base.keep b o e n hb hx) (I.base.free b o e n hx)
 ·obtain ⟨sl,e1⟩:=I.base.slot b o e n hb hx
  obtain ⟨sl',e2⟩:=slot b _ (neL b o e) hb (neC b o e hx) e1 (I.base.free b o e n hx)
  exact ⟨sl',e2⟩
 ·obtain ⟨o',e1⟩:=I.base.there b o e hx
  exact free b o' (neC b o e hx) e1 (I.base.free b o e n hx)
 ·obtain ⟨o',e1⟩:=I.base.there b o e hx
  exact there b o' (neC b o e hx) e1
 ·obtain ⟨m1,e1⟩:=I.base.tbls b ps e
  obtain ⟨m2,e2⟩:=tbls b _ e1
  exact ⟨m1 ++ m2,by rw [e2,Array.append_assoc]⟩
 ·obtain ⟨m,hn,hl⟩:=I.loc
  refine ⟨m,ns m hn,fun i x v e1 e2 e3=>?_⟩
  obtain ⟨u,r,l⟩:=hl i x v e1 e2 e3
  refine ⟨u,r,?_⟩
  rcases l with l | ⟨k,c,e,z⟩
  ·exact .inl l
  ·exact .inr ⟨k,c,e,cellK x c e _ z⟩
 ·obtain ⟨v,z⟩:=I.cell x c e
  exact ⟨v,cellK x c e v z⟩
 ·obtain ⟨m,⟨o,_,_,ho,_⟩,_⟩:=I.loc
  exact free _ o (fun z=>(hch _ z).2.1 rfl) ho I.free
 ·obtain ⟨v,o,ho,hd⟩:=I.cell x c e
  exact free c o (fun z=>(hch c z).2.2.1 x c e rfl) ho (I.freeC x c e)
 ·obtain ⟨e,n,ne,nf,d⟩:=I.pin p hp
  have nch:p.1 ∉ ch:=fun z=>(hch p.1 z).2.2.2 p hp rfl
  exact ⟨keep p.1 p.2 ne nf nch e n,free p.1 p.2 nch e n,ne,nf,d⟩
theorem Inv.un {t':Nat} (I:Inv X pins σ H s) (u:Un X.fs [] H H' s.heap h') (hok:HOk X.prog X.w H' h'):Inv X pins σ H' { s with heap:=h',toks:=t' }:=by
 obtain ⟨m,⟨o,es,ep,ho,r⟩,_⟩:=id I.loc
 obtain ⟨sl,hL⟩:=u.any ho I.free (by simp)
 exact I.step (g':=s.gens) (d':=s.drawn) (ch:=[]) (fun _ z=>nomatch z) (fun b o _ hb _ e n=>u.keep b o e n hb (by simp)) (fun b o _ hb _ e n=>u.slot b o e n hb (by simp)) (fun b o _ e n=>u.free b o e n (by simp)) (fun b o _ e=>u.there b o e (by simp)) u.tups u.frzs u.tbls (fun m' hm=>by
  obtain ⟨o',es',ep',ho',r'⟩:=hm
  rw [ho] at ho';cases ho'
  exact ⟨_,es',ep',hL,r'⟩) hok I.bare
theorem Inv.call {g':Array GenState} {t':Nat} {d':Drawn} {ch:List Addr} (I:Inv X pins σ H s) (u:Un (frs X.stack) ch H H' s.heap h') (hok:HOk X.prog X.w H' h') (hg:AllBare g')
  (hch:∀ b ∈ ch,(b ∈ X.ex ∨ X.s₀.heap.objs.size≤b)∧b ≠ X.env.locals∧(∀ x c,X.env.cells.lookup x=some c→c ≠ b)∧∀ p ∈ X.pn ++ pins,p.1 ≠ b) :
  Inv X pins σ H' { s with heap:=h',gens:=g',drawn:=d',toks:=t' }:=by
 obtain ⟨m,⟨o,es,ep,ho,r⟩,_⟩:=id I.loc
 obtain ⟨sl,hL⟩:=u.any ho I.free fun z=>(hch _ z).2.1 rfl
 exact I.step (ch:=ch) hch (fun b o hL hb hc e n=>u.keep b o e n (fun z=>(List.mem_cons.mp (I.stkSub b z)).elim hL hb) hc) (fun b o _ _ hc e n=>u.any e n hc) (fun b o hc e n=>u.free b o e n hc) (fun b o hc e=>u.there b o e hc) u.tups u.frzs u.tbls (fun m' hm=>by
  obtain ⟨o',es',ep',ho',r'⟩:=hm
  rw [ho] at ho';cases ho'
  exact ⟨_,es',ep',hL,r'⟩) hok hg
theorem Inv.turned {t':Nat} {it:Addr} (I:Inv X pins σ H s) (k:∀ b o,b ≠ it→s.heap.get? b=some o→h'.get? b=some o) (hn:H it=none) (hL:it ≠ X.env.locals)
  (h1:it ∈ X.ex ∨ X.s₀.heap.objs.size≤it) (h2:∀ x c,X.env.cells.lookup x=some c→c ≠ it) (h3:∀ p ∈ X.pn ++ pins,p.1 ≠ it):Inv X pins σ H { s with heap:=h',toks:=t' }:=by
 have nit:∀ b u,H b=some u→b ≠ it:=fun b u e z=>by rw [z,hn] at e;cases e
 refine I.step (g':=s.gens) (d':=s.drawn) (ch:=[it]) (fun b hb=>?_) (fun b o _ _ hc e _=>k b o (fun z=>hc (by simp [z])) e) (fun b o _ _ hc e _=>⟨o.slots,k b o (fun z=>hc (by simp [z])) e⟩) (fun _ _ _ _ n=>n)
  (fun b o hc e=>⟨o,k b o (fun z=>hc (by simp [z])) e⟩) (fun _ _ e=>e) (fun _ _ _ e=>e) (fun b ps e=>⟨#[],by rw [e];simp⟩) (fun m hm=>?_) (fun b u e=>?_) I.bare
 ·have e:b=it:=by simpa using hb
  subst e
  exact ⟨h1,hL,h2,h3⟩
 ·obtain ⟨o,es,ep,ho,r⟩:=hm
  exact ⟨o,es,ep,k _ o (Ne.symm hL) ho,r⟩
 ·refine (I.hok b u e).stay (fun c v hc q=>k c v ?_ q) (fun _ q=>q) fun _ _ q=>q
  rcases hc with z | z
  ·rw [z];exact nit b u e
  ·exact nit c _ z
theorem Inv.tok (I:Inv X pins σ H s) (t:Nat):Inv X pins σ H { s with toks:=t }:=I.un (h':=s.heap) (t':=t) Un.refl I.hok
theorem Inv.kept {t':Nat} (I:Inv X pins σ H s) (k:∀ b u,s.heap.get? b=some u→h'.get? b=some u):Inv X pins σ H { s with heap:=h',toks:=t' }:=I.un (Un.kept k) (I.hok.kept k)
theorem Inv.laid {a:Addr} {o:HO} {t':Nat} (I:Inv X pins σ H s) (k:∀ b u,s.heap.get? b=some u→h'.get? b=some u) (hp:s.heap.objs.size≤a) (new:G2 X.prog X.w (upd H a o) h' a o) :
  Inv X pins σ (upd H a o) { s with heap:=h',toks:=t' }:=I.un (Un.laid k hp (I.hok.fresh hp)) (I.hok.laid k hp new)
theorem Inv.write {x e:Addr} {o:HO} {t':Nat} (I:Inv X pins σ H s) (mu:Mut (H x)) (he:e=x ∨ H e=some (.own x)) (k:∀ b u,b ≠ e→s.heap.get? b=some u→h'.get? b=some u) (heo:∃ u,h'.get? e=some u)
  (new:G2 X.prog X.w (upd H x o) h' x o):Inv X pins σ (upd H x o) { s with heap:=h',toks:=t' }:=I.un (Un.write mu he k heo) (I.hok.write mu he k heo new)
theorem Inv.weak {σ':List (Option V)} (I:Inv X pins σ H s) (hl:σ'.length=σ.length) (w:∀ (i:Nat) v,σ'[i]? = some (some v)→σ[i]? = some (some v)):Inv X pins σ' H s :=
 ⟨I.ok,I.os,I.bare,I.base,let ⟨m,hn,hl'⟩:=I.loc;⟨m,hn,fun i x v e1 e2 e3=>hl' i x v e1 (w i v e2) e3⟩,I.cell,I.free,I.freeC,I.pin,I.hok,hl.trans I.len⟩
theorem Inv.pins_of {pins':List (Addr × Obj)} (I:Inv X pins σ H s) (h:∀ p ∈ pins',s.heap.get? p.1=some p.2∧H p.1=none∧p.1 ≠ X.env.locals∧p.1 ∉ X.fs∧∀ v,p.2.data ≠ .cell v):Inv X pins' σ H s :=
 ⟨I.ok,I.os,I.bare,I.base,I.loc,I.cell,I.free,I.freeC,fun p hp=>(List.mem_append.mp hp).elim (fun z=>I.pin p (List.mem_append_left _ z)) (h p),I.hok,I.len⟩
theorem aI4 {N:List Str} (hN:N.Nodup) {i j:Nat} {x:Str} (a:N[i]? = some x) (b:N[j]? = some x):i=j:=by
 obtain ⟨h1,e1⟩:=List.getElem?_eq_some_iff.mp a
 obtain ⟨h2,e2⟩:=List.getElem?_eq_some_iff.mp b
 exact (List.getElem_inj hN).mp (e1.trans e2.symm)
theorem aU3 {M:Model} {A:Around} {E:Value→Shared→Prop} {i:Nat} {x:Str} {v:V} {u:Value} {Q:Unit→Shared→Prop} (I:Inv X pins σ H s) (hN:X.N.Nodup) (hi:X.N[i]? = some x) (hx:Loc X.env.scope x) (r:A7 v u)
  (h:∀ s',Inv X pins (σ.set i (some v)) H s'→(∃ a,Heap.SameBut a s.heap s'.heap∧(a=X.env.locals ∨ X.env.cells.lookup x=some a))→Q () s') (hf:X.fn x=true ∨ X.env.scope.names.lookup x=some .local:=by first | exact .inl rfl | exact .inr rfl | assumption):wpAny M A (storeName X.env x u) Q E s:=by
 obtain ⟨m,hn,hl⟩:=id I.loc
 have hcls:(X.env.scope.kind == .class || (X.env.scope.kind == .module && X.env.locals != X.env.globals))=false:=by rw [I.ok.kind];rfl
 have hiσ:i < σ.length:=by rw [I.len];exact (List.getElem?_eq_some_iff.mp hi).1
 have cne:=I.cne
 have tracked:∀ {a:Addr} {h':Heap},(∃ o,s.heap.get? a=some o∧H a=none)→Heap.SameBut a s.heap h'→HOk X.prog X.w H h':=fun {a h'} ha hs b ob e=>by
  obtain ⟨_,_,hfree⟩:=ha
  refine (I.hok b ob e).stay (fun c w' hc q=>(hs.2 c ?_).trans q) (fun _ q=>q) fun _ _ q=>q
  rintro rfl
  rcases hc with rfl | hc
  ·rw [hfree] at e;cases e
  ·rw [hfree] at hc;cases hc
 rcases hx with hk | hk
 ·refine wpAny_storeName_local hk hn (fun h' hn' hs=>?_) hcls
  obtain ⟨oL,_,_,hoL,_⟩:=id hn
  refine h _ ⟨I.ok,I.os,I.bare,⟨fun b o e n hb hx=>?_,fun b o e n hb hx=>?_,I.base.free,fun b o e hx=>?_,I.base.tups,I.base.frzs,I.base.tbls⟩,⟨_,hn',fun j y v' e1 e2 e3=>?_⟩,fun y c e=>?_,I.free,I.freeC,fun p hp=>?_,tracked ⟨oL,hoL,I.free⟩ hs,by simpa using I.len⟩ ⟨_,hs,.inl rfl⟩
  ·exact (hs.2 b (Nat.ne_of_lt (Nat.lt_of_lt_of_le (Heap.lt_size e) I.ok.above))).trans (I.base.keep b o e n hb hx)
  ·obtain ⟨sl,e1⟩:=I.base.slot b o e n hb hx
   exact ⟨sl,(hs.2 b (Nat.ne_of_lt (Nat.lt_of_lt_of_le (Heap.lt_size e) I.ok.above))).trans e1⟩
  ·obtain ⟨o',e1⟩:=I.base.there b o e hx
   exact ⟨o',(hs.2 b (Nat.ne_of_lt (Nat.lt_of_lt_of_le (Heap.lt_size e) I.ok.above))).trans e1⟩
  ·by_cases hj:j=i
   ·subst hj
    rw [hi] at e1;cases e1
    rw [List.getElem?_set_self hiσ] at e2
    cases e2
    exact ⟨u,r,.inl ⟨hk,by simp⟩⟩
   ·rw [List.getElem?_set_ne (Ne.symm hj)] at e2
    obtain ⟨u',r',q⟩:=hl j y v' e1 e2 e3
    refine ⟨u',r',?_⟩
    rcases q with ⟨k,e⟩ | ⟨k,c,e,z⟩
    ·refine .inl ⟨k,?_⟩
     have:y ≠ x:=fun e=>hj (aI4 hN e1 (e ▸ hi))
     simp [this,e]
    ·exact .inr ⟨k,c,e,z.sameBut hs (cne y c e)⟩
  ·obtain ⟨w',z⟩:=I.cell y c e
   exact ⟨w',z.sameBut hs (cne y c e)⟩
  ·obtain ⟨e,n,ne,nf,d⟩:=I.pin p hp
   exact ⟨(hs.2 p.1 ne).trans e,n,ne,nf,d⟩
 ·have hfn:X.fn x=true:=by
   rcases hf with z | z
   ·exact z
   ·rw [z] at hk;cases hk
  obtain ⟨c,hc⟩:=I.ok.has x (.inl hk)
  obtain ⟨w',z⟩:=I.cell x c hc
  refine wpAny_storeName_cell I.ok.kind hk hc z (fun h' hc' hs=>?_)
  obtain ⟨oc,hoc,hocd⟩:=id z
  refine h { s with heap:=h' } ⟨I.ok,I.os,I.bare,⟨fun b o e n hb hx=>?_,fun b o e n hb hx=>?_,I.base.free,fun b o e hx=>?_,I.base.tups,I.base.frzs,I.base.tbls⟩,⟨m,hn.sameBut hs (Ne.symm (cne x c hc)),fun j y v' e1 e2 e3=>?_⟩,fun y c' e=>?_,I.free,I.freeC,fun p hp=>?_,tracked ⟨oc,hoc,I.freeC x c hc⟩ hs,by simpa using I.len⟩ ⟨c,hs,.inr hc⟩
  ·exact (hs.2 b (Nat.ne_of_lt (Nat.lt_of_lt_of_le (Heap.lt_size e) (I.ok.cab x c hfn hc)))).trans (I.base.keep b o e n hb hx)
  ·obtain ⟨sl,e1⟩:=I.base.slot b o e n hb hx
   exact ⟨sl,(hs.2 b (Nat.ne_of_lt (Nat.lt_of_lt_of_le (Heap.lt_size e) (I.ok.cab x c hfn hc)))).trans e1⟩
  ·obtain ⟨o',e1⟩:=I.base.there b o e hx
   exact ⟨o',(hs.2 b (Nat.ne_of_lt (Nat.lt_of_lt_of_le (Heap.lt_size e) (I.ok.cab x c hfn hc)))).trans e1⟩
  ·by_cases hj:j=i
   ·subst hj
    rw [hi] at e1;cases e1
    rw [List.getElem?_set_self hiσ] at e2
    cases e2
    exact ⟨u,r,.inr ⟨.inl hk,c,hc,hc'⟩⟩
   ·rw [List.getElem?_set_ne (Ne.symm hj)] at e2
    obtain ⟨u',r',q⟩:=hl j y v' e1 e2 e3
    refine ⟨u',r',?_⟩
    rcases q with q | ⟨k,c',e,z'⟩
    ·exact .inl q
    ·refine .inr ⟨k,c',e,z'.sameBut hs ?_⟩
     rintro rfl
     exact hj (aI4 hN e1 (I.ok.inj _ _ _ e hc ▸ hi))
  ·by_cases hcc:c'=c
   ·subst hcc;exact ⟨_,hc'⟩
   ·obtain ⟨w2,z2⟩:=I.cell y c' e
    exact ⟨w2,z2.sameBut hs hcc⟩
  ·obtain ⟨e,n,ne,nf,d⟩:=I.pin p hp
   refine ⟨(hs.2 p.1 ?_).trans e,n,ne,nf,d⟩
   intro q
   rw [q,hoc] at e
   have q':oc=p.2:=Option.some.inj e
   exact d w' (by rw [← q'];exact hocd)
theorem W7 {M:Model} {A:Around} {E:Value→Shared→Prop} {i:Nat} {x:Str} {v:V} {u:Value} {Q:Unit→Shared→Prop} (I:Inv X pins σ H s) (hN:X.N.Nodup) (hi:X.N[i]? = some x) (hx:Loc X.env.scope x) (r:A7 v u)
  (h:∀ s',Inv X pins (σ.set i (some v)) H s'→Q () s') (hf:X.fn x=true ∨ X.env.scope.names.lookup x=some .local:=by first | exact .inl rfl | exact .inr rfl | assumption):wpAny M A (storeName X.env x u) Q E s :=
 aU3 I hN hi hx r (fun s' I' _=>h s' I') hf
theorem Inv.call' {s':Shared} {ch:List Addr} (I:Inv X pins σ H s) (ho:s'.os=s.os) (u:Un (frs X.stack) ch H H' s.heap s'.heap) (hok:HOk X.prog X.w H' s'.heap) (hg:AllBare s'.gens)
  (hch:∀ b ∈ ch,(b ∈ X.ex ∨ X.s₀.heap.objs.size≤b)∧b ≠ X.env.locals∧(∀ x c,X.env.cells.lookup x=some c→c ≠ b)∧∀ p ∈ X.pn ++ pins,p.1 ≠ b):Inv X pins σ H' s':=by
 obtain ⟨h',g',d',t',o'⟩:=s'
 have e:o'=s.os:=ho
 subst e
 exact I.call (g':=g') (t':=t') (d':=d') u hok hg hch
end
abbrev XK:=Value→Option Addr→Hp→Prop
abbrev St:=List (Option V)
abbrev VK:=V→Hp→Prop
abbrev TE:=St→Hp→VK→Prop
abbrev TT:=St→Hp→(Bool→Hp→Prop)→Prop
abbrev TA:=St→Hp→(List V→Hp→Prop)→Prop
structure aa5 where
 nx:St→Hp→Prop
 rt:VK
 bk:St→Hp→Prop:=fun _ _=>False
 ct:St→Hp→Prop:=fun _ _=>False
abbrev TS:=aa5→St→Hp→Prop
def EP (X:Cx) (pins:List (Addr × Obj)) (σ:St) (Q:VK) (u:Value) (s':Shared):Prop:=∃ v H',Inv X pins σ H' s'∧A7 v u∧Q v H'
def TP (X:Cx) (pins:List (Addr × Obj)) (σ:St) (Q:Bool→Hp→Prop) (b:Bool) (s':Shared):Prop:=∃ H',Inv X pins σ H' s'∧Q b H'
def AP (X:Cx) (pins:List (Addr × Obj)) (σ:St) (Q:List V→Hp→Prop) (us:List Value) (s':Shared):Prop:=∃ vs H',Inv X pins σ H' s'∧t8 vs us∧Q vs H'
def SP (X:Cx) (pins:List (Addr × Obj)) (D:aa5) (f:Flow) (s':Shared):Prop :=
 match f with
 | .next => ∃ σ' H',Inv X pins σ' H' s'∧D.nx σ' H'
 | .brk => ∃ σ' H',Inv X pins σ' H' s'∧D.bk σ' H'
 | .cont => ∃ σ' H',Inv X pins σ' H' s'∧D.ct σ' H'
 | .ret u => ∃ v σ' H',Inv X pins σ' H' s'∧A7 v u∧D.rt v H'
def PE (X:Cx) (e:Expr) (t:TE):Prop :=
 ∀ (pins:List (Addr × Obj)) (s:Shared) (σ:St) (H:Hp) (Q:VK),Inv X pins σ H s→t σ H Q→wpAny (model X.prog X.w) X.A (eval e X.env) (EP X pins σ Q) X.xe s
def PT (X:Cx) (e:Expr) (t:TT):Prop :=
 ∀ (pins:List (Addr × Obj)) (s:Shared) (σ:St) (H:Hp) (Q:Bool→Hp→Prop),Inv X pins σ H s→t σ H Q→wpAny (model X.prog X.w) X.A (isTrue e X.env (eval e X.env)) (TP X pins σ Q) X.xe s
def PW (X:Cx) (e:Expr) (t:TT):Prop :=
 ∀ (whole:Sem Value) (pins:List (Addr × Obj)) (s:Shared) (σ:St) (H:Hp) (Q:Bool→Hp→Prop),Inv X pins σ H s→t σ H Q→wpAny (model X.prog X.w) X.A (isTrue e X.env whole) (TP X pins σ Q) X.xe s
theorem PW.pt {X:Cx} {e:Expr} {t:TT} (h:PW X e t):PT X e t:=h _
def PA (X:Cx) (es:List Expr) (t:TA):Prop :=
 ∀ (pos:Pos) (pins:List (Addr × Obj)) (s:Shared) (σ:St) (H:Hp) (Q:List V→Hp→Prop),Inv X pins σ H s→t σ H Q→wpAny (model X.prog X.w) X.A (spliced (backTo pos (starEach es X.env))) (AP X pins σ Q) X.xe s
def PS (X:Cx) (st:Stmt) (t:TS):Prop :=
 ∀ (pins:List (Addr × Obj)) (s:Shared) (σ:St) (H:Hp) (D:aa5),Inv X pins σ H s→t D σ H→wpAny (model X.prog X.w) X.A (exec st X.env) (SP X pins D) X.xe s
def PSs (X:Cx) (st:List Stmt) (t:TS):Prop :=
 ∀ (pins:List (Addr × Obj)) (s:Shared) (σ:St) (H:Hp) (D:aa5),Inv X pins σ H s→t D σ H→wpAny (model X.prog X.w) X.A (execs st X.env) (SP X pins D) X.xe s
theorem thn {α:Type} {t:Sem α} {Q Q':α→Shared→Prop} {M:Model} {A:Around} {E:Value→Shared→Prop} {s:Shared} (h:wpAny M A t Q E s) (hQ:∀ a s,Q a s→Q' a s):wpAny M A t Q' E s:=wpAny_mono h hQ fun _ _ x=>x
section
variable {X:Cx}
def Y7 (i:Nat):TE:=fun σ H Q => ∃ v,σ[i]? = some (some v)∧Q v H
def tC (v:V):TE:=fun _ H Q=>Q v H
theorem bw5 {i:Nat} {x:Str} {pos:Pos} (hN:X.N[i]? = some x) (hv:Vis X.env.scope x) (hd:(x == ("__debug__" : Str))=false:=by decide) (hcd:(x == ("__classdict__" : Str))=false:=by decide):PE X (.Name x pos) (Y7 i):=by
 intro pins s σ H Q I h
 obtain ⟨v,e,h⟩:=h
 obtain ⟨m,hn,hl⟩:=I.loc
 obtain ⟨u,r,l⟩:=hl i x v hN e hv
 have fin:EP X pins σ Q u s:=⟨v,H,I,r,h⟩
 rcases l with ⟨hk,hm⟩ | ⟨hk,c,hc,hcell⟩
 ·exact wpAny_Name (wpAny_loadName_local I.ok.kind hk hn hm fin) hd
 ·rcases hk with hk | hk
  ·exact wpAny_Name (wpAny_loadName_cell I.ok.kind hk hc hcell fin) hd
  ·exact wpAny_Name (wpAny_loadName_free I.ok.kind hk hc hcell fin hcd) hd
theorem d4 {i j pos}:PE X (.Constant (.int i) j pos) (tC (.int i)):=fun _ _ _ H _ I h=>wpAny_Constant_int ⟨.int i,H,I.tok _,⟨_,rfl⟩,h⟩
theorem ax4 {b j pos}:PE X (.Constant (.bool b) j pos) (tC (.bl b)):=fun _ _ _ H _ I h=>Constant_bool ⟨.bl b,H,I,rfl,h⟩
theorem U9 {j pos}:PE X (.Constant .none j pos) (tC .non):=fun _ _ _ H _ I h=>Constant_none ⟨.non,H,I,rfl,h⟩
theorem O1 {x j pos}:PE X (.Constant (.str x) j pos) (tC (.str x)):=fun _ _ _ H _ I h=>Calls.Constant_str ⟨.str x,H,I.tok _,⟨_,rfl⟩,h⟩
def Gl (X:Cx) (x:Str):Prop:=X.env.kindOf x=some .globalImplicit
theorem ah8 {E:Value→Shared→Prop} {pins:List (Addr × Obj)} {s:Shared} {σ:St} {H:Hp} {x:Str} {u:Value} {pos:Pos} {Q:Value→Shared→Prop} (I:Inv X pins σ H s) (hg:Gl X x) (hm:X.mg x=some u) (h:Q u s)
  (hd:(x == ("__debug__" : Str))=false:=by decide):wpAny (model X.prog X.w) X.A (eval (.Name x pos) X.env) Q E s :=
 Calls.Name_function_global I.ok.kind hg (Calls.loadGlobal_global (by rw [I.ok.glob];exact I.mod.glob.keeps I.bk) hm h) hd
theorem af8 {E:Value→Shared→Prop} {pins:List (Addr × Obj)} {s:Shared} {σ:St} {H:Hp} {x:Str} {u:Value} {pos:Pos} {Q:Value→Shared→Prop} (I:Inv X pins σ H s) (hg:Gl X x) (hm:X.mg x=none) (hv:bootBuiltins x=some u) (h:Q u s)
  (hn:x ≠ "__name__" := by decide) (hd:(x == ("__debug__" : Str))=false:=by decide):wpAny (model X.prog X.w) X.A (eval (.Name x pos) X.env) Q E s:=by
 obtain ⟨mb,h1,h2⟩:=I.mod.blt
 exact Calls.Name_function_global I.ok.kind hg (Calls.loadGlobal_builtin (by rw [I.ok.glob];exact I.mod.glob.keeps I.bk) hm (by rw [I.ok.blt];exact h1.keeps I.bk) ((h2 x hn).trans hv) h) hd
theorem C6 {x:Str} {v:V} {u:Value} {pos:Pos} (hg:Gl X x) (hm:X.mg x=some u) (r:A7 v u) (hd:(x == ("__debug__" : Str))=false:=by decide):PE X (.Name x pos) (tC v) :=
 fun _ _ _ H _ I h=>ah8 I hg hm ⟨v,H,I,r,h⟩ hd
theorem aC6 {x:Str} {v:V} {u:Value} {pos:Pos} (hg:Gl X x) (hm:X.mg x=none) (hv:bootBuiltins x=some u) (r:A7 v u) (hn:x ≠ "__name__" := by decide) (hd:(x == ("__debug__" : Str))=false:=by decide):PE X (.Name x pos) (tC v) :=
 fun _ _ _ H _ I h=>af8 I hg hm hv ⟨v,H,I,r,h⟩ hn hd
variable {a b:Expr} {ta tb:TE} {pos:Pos}
def PC (X:Cx) (op:CmpOp) (a b:Expr) (t:TE):Prop :=
 ∀ (pins:List (Addr × Obj)) (s:Shared) (σ:St) (H:Hp) (Q:VK),Inv X pins σ H s→t σ H Q →
  wpAny (model X.prog X.w) X.A (eval a X.env) (fun v s₁=>wpAny (model X.prog X.w) X.A (eval b X.env) (fun u s₂=>wpAny (model X.prog X.w) X.A (compareOp op v u) (EP X pins σ Q) X.xe s₂) X.xe s₁) X.xe s
def tB (t:TE):TT:=fun σ H Q=>t σ H fun x H1 => ∃ c,x=.bl c∧Q c H1
theorem Z1 {e:Expr} {t:TE} (h:PE X e t) (he:∀ whole,isTrue e X.env whole=(do let v ← whole;standAt e.pos;holding [v] (truthy v)):=by intro _;rfl):PT X e (tB t):=by
 intro pins s σ H Q I hw
 refine isTrue_plain (thn (h pins s σ H _ I hw) fun v s1 ⟨x,H1,I1,r1,q1⟩=>?_) (he _)
 obtain ⟨d,rfl,q⟩:=q1
 cases r1
 exact wpAny_truthy_bool ⟨H1,I1,q⟩
variable {tA tB':TT} {ab2:List Expr}
def bu3 (t u:TT):TT:=fun σ H Q=>t σ H fun c H1=>if c=true then u σ H1 Q else Q false H1
def tOr (t u:TT):TT:=fun σ H Q=>t σ H fun c H1=>if c=true then Q true H1 else u σ H1 Q
def bt8 (t:TT):TT:=fun σ H Q=>t σ H fun c H1=>Q (!c) H1
theorem W0 (ha:PT X a tA):PW X (.BoolOp .And [a] pos) tA:=by
 intro wh pins s σ H Q I h
 refine isTrue_and (thn (ha pins s σ H Q I h) fun c s1 e=>?_)
 cases c with
 | true=>exact isTrue_and_nil e
 | false=>exact e
theorem aL6 (ha:PT X a tA):PW X (.BoolOp .Or [a] pos) tA:=by
 intro wh pins s σ H Q I h
 refine isTrue_or (thn (ha pins s σ H Q I h) fun c s1 e=>?_)
 cases c with
 | false=>exact isTrue_or_nil e
 | true=>exact e
theorem W5 (ha:PT X a tA) (hb:PW X (.BoolOp .And (b :: ab2) pos) tB'):PW X (.BoolOp .And (a :: b :: ab2) pos) (bu3 tA tB'):=by
 intro wh pins s σ H Q I h
 refine isTrue_and (thn (ha pins s σ H _ I h) fun c s1 ⟨H1,I1,q1⟩=>?_)
 cases c with
 | true=>exact hb wh pins s1 σ H1 Q I1 q1
 | false=>exact ⟨H1,I1,q1⟩
theorem aQ7 (ha:PT X a tA) (hb:PW X (.BoolOp .Or (b :: ab2) pos) tB'):PW X (.BoolOp .Or (a :: b :: ab2) pos) (tOr tA tB'):=by
 intro wh pins s σ H Q I h
 refine isTrue_or (thn (ha pins s σ H _ I h) fun c s1 ⟨H1,I1,q1⟩=>?_)
 cases c with
 | true=>exact ⟨H1,I1,q1⟩
 | false=>exact hb wh pins s1 σ H1 Q I1 q1
theorem af2 (ha:PT X a tA):PT X (.UnaryOp .Not a pos) (bt8 tA):=by
 intro pins s σ H Q I h
 exact isTrue_not (ha pins s σ H (fun c H1=>Q (!c) H1) I h)
def aZ3 (ta tb:TE):TE:=fun σ H Q=>ta σ H fun x H1 => ∃ c,x=.bl c∧if c=true then tb σ H1 Q else Q (.bl false) H1
def bt6 (ta tb:TE):TE:=fun σ H Q=>ta σ H fun x H1 => ∃ c,x=.bl c∧if c=true then Q (.bl true) H1 else tb σ H1 Q
def aY8 (ta:TE):TE:=fun σ H Q=>ta σ H fun x H1 => ∃ c,x=.bl c∧Q (.bl (!c)) H1
theorem aj4 {op} {t:TE} (h:PE X a t):PE X (.BoolOp op [a] pos) t:=fun pins s σ H Q I hw=>BoolOp_one (h pins s σ H Q I hw)
theorem aM0 (ha:PE X a ta) (hb:PE X (.BoolOp .And (b :: ab2) pos) tb):PE X (.BoolOp .And (a :: b :: ab2) pos) (aZ3 ta tb):=by
 intro pins s σ H Q I h
 refine BoolOp_and (thn (ha pins s σ H _ I h) fun v s1 ⟨x,H1,I1,r1,q1⟩=>?_)
 obtain ⟨c,rfl,q1⟩:=q1
 cases r1
 refine wpAny_truthy_bool ?_
 cases c with
 | true=>exact hb pins s1 σ H1 Q I1 q1
 | false=>exact ⟨.bl false,H1,I1,rfl,q1⟩
theorem br6 (ha:PE X a ta) (hb:PE X (.BoolOp .Or (b :: ab2) pos) tb):PE X (.BoolOp .Or (a :: b :: ab2) pos) (bt6 ta tb):=by
 intro pins s σ H Q I h
 refine BoolOp_or (thn (ha pins s σ H _ I h) fun v s1 ⟨x,H1,I1,r1,q1⟩=>?_)
 obtain ⟨c,rfl,q1⟩:=q1
 cases r1
 refine wpAny_truthy_bool ?_
 cases c with
 | false=>exact hb pins s1 σ H1 Q I1 q1
 | true=>exact ⟨.bl true,H1,I1,rfl,q1⟩
theorem bb9 (ha:PE X a ta):PE X (.UnaryOp .Not a pos) (aY8 ta):=by
 intro pins s σ H Q I h
 refine UnaryOp_ (thn (ha pins s σ H _ I h) fun v s1 ⟨x,H1,I1,r1,q1⟩=>?_)
 obtain ⟨c,rfl,q1⟩:=q1
 cases r1
 exact not_of (wpAny_truthy_bool ⟨.bl (!c),H1,I1,rfl,q1⟩)
def tIf (t:TT) (ta tb:TE):TE:=fun σ H Q=>t σ H fun c H1=>if c=true then ta σ H1 Q else tb σ H1 Q
theorem ab4 {c:Expr} (hc:PT X c tA) (ha:PE X a ta) (hb:PE X b tb):PE X (.IfExp c a b pos) (tIf tA ta tb):=by
 intro pins s σ H Q I h
 refine wpAny_IfExp (thn (hc pins s σ H _ I h) fun d s1 ⟨H1,I1,q1⟩=>?_)
 cases d with
 | true=>exact ha pins s1 σ H1 Q I1 q1
 | false=>exact hb pins s1 σ H1 Q I1 q1
end
def SqL (K:PySem.W.Frag) (H:Hp) (a:Addr) (xs:List V):Prop :=
 Rd H a (.lst xs) ∨
  ∃ (o:Obj) (its:Array Value) (n:Nat),K.lookup a=some o∧o.cls=.type "list"∧o.dict=none∧o.data=.seq its n∧its.size≤sizeLine∧t8 xs its.toList
def SqT (K:PySem.W.Frag) (H:Hp) (a:Addr) (xs:List V):Prop :=
 Rd H a (.tup xs) ∨
  ∃ (o:Obj) (its:Array Value) (n:Nat),K.lookup a=some o∧o.cls=.type "tuple"∧o.data=.seq its n∧its.size≤sizeLine∧t8 xs its.toList
def bG4:Value→Option V
 | .none=>some .non
 | .bool b=>some (.bl b)
 | .int i _=>some (.int i)
 | .str x _=>some (.str x)
 | .bytes b _=>some (.byt b)
 | .float b _=>some (.flt b)
 | .ref a=>some (.ref a)
 | .type n=>some (.ty n)
 | _=>none
theorem A7.abs {x:V} {u:Value} (r:A7 x u):bG4 u=some x:=by
 cases x with
 | non=>cases r;rfl
 | bl _=>cases r;rfl
 | int _=>obtain ⟨t,rfl⟩:=r;rfl
 | str _=>obtain ⟨t,rfl⟩:=r;rfl
 | byt _=>obtain ⟨t,rfl⟩:=r;rfl
 | flt _=>obtain ⟨t,rfl⟩:=r;rfl
 | ref _=>cases r;rfl
 | ty _=>cases r;rfl
theorem A7.inj {x y:V} {u:Value} (r:A7 x u) (q:A7 y u):x=y:=Option.some.inj (r.abs.symm.trans q.abs)
theorem t8.inj:∀ {xs ys:List V} {us:List Value},t8 xs us→t8 ys us→xs=ys
 | _,_,_,.nil,.nil=>rfl
 | _,_,_,.cons r t,.cons r' t'=>by rw [r.inj r',t8.inj t t']
section
variable {X:Cx} {pins:List (Addr × Obj)} {σ:St} {H:Hp} {s:Shared} {a:Addr} {xs ys:List V}
theorem SqL.of {K:PySem.W.Frag} (h:H a=some (.lst xs)):SqL K H a xs:=.inl (.inl h)
theorem SqT.of {K:PySem.W.Frag} (h:H a=some (.tup xs)):SqT K H a xs:=.inl (.inl h)
theorem Inv.list (I:Inv X pins σ H s) (h:SqL X.K H a xs):∃ its:List Value,t8 xs its∧PlainL s.heap a its.toArray∧xs.length≤sizeLine:=by
 rcases h with h | ⟨o,its,n,hk,hc,hd,hs,hz,r⟩
 ·obtain ⟨z,its,n,r,e⟩:=h.ok I.hok
  exact ⟨its,r,⟨_,n,e,rfl,rfl,rfl⟩,z⟩
 ·refine ⟨its.toList,r,⟨o,n,I.kIn a o hk,hc,hd,by simpa using hs⟩,?_⟩
  have e:=r.length
  simp only [Array.length_toList] at e
  omega
theorem Inv.tuple (I:Inv X pins σ H s) (h:SqT X.K H a xs):∃ its:List Value,t8 xs its∧IsTup s.heap a its.toArray∧xs.length≤sizeLine:=by
 rcases h with h | ⟨o,its,n,hk,hc,hs,hz,r⟩
 ·obtain ⟨z,its,r,p⟩:=h.ok I.hok
  exact ⟨its,r,p,z⟩
 ·refine ⟨its.toList,r,⟨o,I.kIn a o hk,hc,n,by simpa using hs⟩,?_⟩
  have e:=r.length
  simp only [Array.length_toList] at e
  omega
theorem Inv.list_inj (I:Inv X pins σ H s) (h:SqL X.K H a xs) (h':SqL X.K H a ys):xs=ys:=by
 obtain ⟨its,r,⟨o,n,e,_,_,d⟩,_⟩:=I.list h
 obtain ⟨its',r',⟨o',n',e',_,_,d'⟩,_⟩:=I.list h'
 rw [e] at e';cases e'
 rw [d] at d'
 injection d' with d1 _
 have:its=its':=by simpa using congrArg Array.toList d1
 subst this
 exact r.inj r'
theorem Inv.tuple_inj (I:Inv X pins σ H s) (h:SqT X.K H a xs) (h':SqT X.K H a ys):xs=ys:=by
 obtain ⟨its,r,⟨o,e,_,n,d⟩,_⟩:=I.tuple h
 obtain ⟨its',r',⟨o',e',_,n',d'⟩,_⟩:=I.tuple h'
 rw [e] at e';cases e'
 rw [d] at d'
 injection d' with d1 _
 have:its=its':=by simpa using congrArg Array.toList d1
 subst this
 exact r.inj r'
end
abbrev Cx.wish (X:Cx) (E:Value→Shared→Prop):Cx:={ X with xe:=E }
abbrev Cx.nox (X:Cx):Cx:=X.wish fun _ _=>False
theorem Cx.Ok.wish {X:Cx} (ok:X.Ok) (E:Value→Shared→Prop):(X.wish E).Ok :=
 ⟨ok.mod,ok.kind,ok.glob,ok.blt,ok.above,ok.inj,ok.has,ok.cab,ok.hd,ok.frames,ok.stk,ok.exf,ok.bs,ok.bsz,ok.noex,ok.exfs,ok.funs,ok.frf⟩
theorem Cx.Ok.unwish {X:Cx} {E:Value→Shared→Prop} (ok:(X.wish E).Ok):X.Ok :=
 ⟨ok.mod,ok.kind,ok.glob,ok.blt,ok.above,ok.inj,ok.has,ok.cab,ok.hd,ok.frames,ok.stk,ok.exf,ok.bs,ok.bsz,ok.noex,ok.exfs,ok.funs,ok.frf⟩
section
variable {X:Cx} {pins:List (Addr × Obj)} {σ:St} {H:Hp} {s:Shared} {E:Value→Shared→Prop}
theorem Inv.wish (I:Inv X pins σ H s) (E:Value→Shared→Prop):Inv (X.wish E) pins σ H s:=⟨I.ok.wish E,I.os,I.bare,I.base,I.loc,I.cell,I.free,I.freeC,I.pin,I.hok,I.len⟩
theorem Inv.unwish (I:Inv (X.wish E) pins σ H s):Inv X pins σ H s:=⟨I.ok.unwish,I.os,I.bare,I.base,I.loc,I.cell,I.free,I.freeC,I.pin,I.hok,I.len⟩
theorem SP.unwish {D:aa5} {f:Flow} {s':Shared} (h:SP (X.wish E) pins D f s'):SP X pins D f s':=by
 cases f with
 | next=>obtain ⟨σ',H',I,q⟩:=h;exact ⟨σ',H',I.unwish,q⟩
 | brk=>obtain ⟨σ',H',I,q⟩:=h;exact ⟨σ',H',I.unwish,q⟩
 | cont=>obtain ⟨σ',H',I,q⟩:=h;exact ⟨σ',H',I.unwish,q⟩
 | ret u=>obtain ⟨v,σ',H',I,r,q⟩:=h;exact ⟨v,σ',H',I.unwish,r,q⟩
theorem PSs.nox {st:List Stmt} {t:TS} (h:PSs X.nox st t):PSs X st t:=fun pins s σ H D I hw =>
 wpAny_mono (h pins s σ H D (I.wish _) hw) (fun _ _ q=>q.unwish) fun _ _ z=>False.elim z
end
section
variable {X:Cx} {st:Stmt} {ab2:List Stmt} {t u:TS} {e:Expr} {te:TE} {pos:Pos}
def aY9:TS:=fun D σ H=>D.nx σ H
def bk1 (t u:TS):TS:=fun D σ H=>t { D with nx:=u D } σ H
theorem v8:PSs X [] aY9:=fun _ _ σ H _ I h=>wpAny_execs_nil ⟨σ,H,I,h⟩
theorem d6 (h1:PS X st t) (h2:PSs X ab2 u):PSs X (st :: ab2) (bk1 t u):=by
 intro pins s σ H D I h
 refine wpAny_execs_cons (thn (h1 pins s σ H { D with nx:=u D } I h) fun f s1 q=>?_)
 cases f with
 | next =>
  obtain ⟨σ',H',I',q⟩:=q
  exact h2 pins s1 σ' H' D I' q
 | ret v=>exact q
 | brk=>exact q
 | cont=>exact q
theorem d8 (h1:PS X st t):PSs X [st] t:=by
 intro pins s σ H D I h
 refine wpAny_execs_cons (thn (h1 pins s σ H D I h) fun f s1 q=>?_)
 cases f with
 | next=>exact wpAny_execs_nil q
 | ret v=>exact q
 | brk=>exact q
 | cont=>exact q
theorem Inv.quiet {pins:List (Addr × Obj)} {σ:St} {H:Hp} {s:Shared} (I:Inv X pins σ H s):interactive X.env=false:=by simp [interactive,I.ok.kind]
def aZ0 (te:TE):TS:=fun D σ H=>te σ H fun _ H1=>D.nx σ H1
theorem aQ8 (he:PE X e te) (hs:swapsWith e none pos.line X.env=pure false:=by rfl):PS X (.Expr e pos) (aZ0 te):=by
 intro pins s σ H D I h
 exact wpAny_Expr_any (thn (he pins s σ H _ I h) fun v s1 ⟨x,H1,I1,r1,q1⟩=>⟨σ,H1,I1,q1⟩) I.quiet hs
def bk2 (te:TE):TS:=fun D σ H=>te σ H D.rt
theorem j8 (he:PE X e te):PS X (.Return (some e) pos) (bk2 te):=by
 intro pins s σ H D I h
 exact wpAny_Return_some (thn (he pins s σ H _ I h) fun v s1 ⟨x,H1,I1,r1,q1⟩=>⟨x,σ,H1,I1,r1,q1⟩)
def bu0 (c:TT) (t u:TS):TS:=fun D σ H=>c σ H fun b H1=>if b=true then t D σ H1 else u D σ H1
theorem C9 {c:Expr} {a b:List Stmt} {tc:TT} (hc:PT X c tc) (ha:PSs X a t) (hb:PSs X b u):PS X (.If c a b pos) (bu0 tc t u):=by
 intro pins s σ H D I h
 refine wpAny_If (thn (hc pins s σ H _ I h) fun d s1 ⟨H1,I1,q1⟩=>?_)
 cases d with
 | true=>exact ha pins s1 σ H1 D I1 q1
 | false=>exact hb pins s1 σ H1 D I1 q1
def aK7:TS:=fun _ _ _=>False
theorem bb3:PS X st aK7:=fun _ _ _ _ _ _ h=>h.elim
end
abbrev TG:=V→St→Hp→(St→Hp→Prop)→Prop
abbrev TGs:=List V→St→Hp→(St→Hp→Prop)→Prop
def PG (X:Cx) (target:Expr) (t:TG):Prop :=
 ∀ (pins:List (Addr × Obj)) (s:Shared) (σ:St) (H:Hp) (v:V) (u:Value) (Q:St→Hp→Prop),Inv X pins σ H s→A7 v u→t v σ H Q →
  wpAny (model X.prog X.w) X.A (assign target X.env u) (fun _ s' => ∃ σ' H',Inv X pins σ' H' s'∧Q σ' H') X.xe s
def PGs (X:Cx) (ts:List Expr) (t:TGs):Prop :=
 ∀ (pins:List (Addr × Obj)) (s:Shared) (σ:St) (H:Hp) (vs:List V) (us:List Value) (Q:St→Hp→Prop),Inv X pins σ H s→t8 vs us→t vs σ H Q →
  wpAny (model X.prog X.w) X.A (assignInOrder ((assignEach ts X.env).map (·.2)) us) (fun _ s' => ∃ σ' H',Inv X pins σ' H' s'∧Q σ' H') X.xe s
abbrev bj0:=V→V→V→Hp→(Hp→Prop)→Prop
def bB6 (X:Cx) (t:bj0):Prop :=
 ∀ (pins:List (Addr × Obj)) (s:Shared) (σ:St) (H:Hp) (o i v:V) (ov iv u:Value) (Q:Hp→Prop),Inv X pins σ H s→A7 o ov→A7 i iv→A7 v u→t o i v H Q →
  wpAny (model X.prog X.w) X.A (setItem ov iv u) (fun _ s' => ∃ H',Inv X pins σ H' s'∧Q H') X.xe s
abbrev TIp:=V→V→Hp→VK→Prop
def PIp (X:Cx) (op:Operator) (t:TIp):Prop :=
 ∀ (pins:List (Addr × Obj)) (s:Shared) (σ:St) (H:Hp) (x y:V) (v u:Value) (Q:VK),Inv X pins σ H s→A7 x v→A7 y u→t x y H Q →
  wpAny (model X.prog X.w) X.A (inplaceOp op v u) (EP X pins σ Q) X.xe s
section
variable {X:Cx} {pos:Pos}
def C1 (i:Nat):TG:=fun v σ H Q=>Q (σ.set i (some v)) H
theorem m6 {i:Nat} {x:Str} (hN:X.N.Nodup) (hi:X.N[i]? = some x) (hx:Loc X.env.scope x) (hf:X.fn x=true ∨ X.env.scope.names.lookup x=some .local:=by first | exact .inl rfl | exact .inr rfl | assumption):PG X (.Name x pos) (C1 i):=by
 intro pins s σ H v u Q I r h
 exact wpAny_assign_Name (W7 I hN hi hx r (fun s' I'=>⟨_,H,I',h⟩) hf)
def ao1:TGs:=fun vs σ H Q=>vs=[]∧Q σ H
def L9 (t:TG) (u:TGs):TGs:=fun vs σ H Q => ∃ v r,vs=v :: r∧t v σ H fun σ' H'=>u r σ' H' Q
theorem T4:PGs X [] ao1:=by
 intro pins s σ H vs us Q I r h
 obtain ⟨e,h⟩:=h
 subst e
 cases r
 exact assignInOrder_nil ⟨σ,H,I,h⟩
theorem z8 {e:Expr} {es:List Expr} {t:TG} {u:TGs} (h1:PG X e t) (h2:PGs X es u)
  (hs:(assignEach (e :: es) X.env).map (·.2)=assign e X.env :: (assignEach es X.env).map (·.2):=by rfl):PGs X (e :: es) (L9 t u):=by
 intro pins s σ H vs us Q I r h
 obtain ⟨v,vr,e1,h⟩:=h
 subst e1
 cases r with
 | cons r rr =>
  rw [hs]
  refine assignInOrder_cons (thn (h1 pins s σ H _ _ _ I r h) fun _ s1 ⟨σ1,H1,I1,q1⟩=>?_)
  exact h2 pins s1 σ1 H1 _ _ Q I1 rr q1
def ao0 (K:PySem.W.Frag) (n:Nat) (t:TGs):TG:=fun v σ H Q => ∃ a xs,v=.ref a∧SqT K H a xs∧xs.length=n∧t xs σ H Q
theorem Z3 {es:List Expr} {k:Nat} {t:TGs} {n:Nat} (hc:X.calm=true) (h:PGs X es t)
  (hn:(assignEach es X.env).length=n:=by rfl) (hst:(assignEach es X.env).findIdx? (·.1)=none:=by rfl):PG X (.Tuple es k pos) (ao0 X.K n t):=by
 intro pins s σ H v u Q I r hw
 obtain ⟨a,xs,e1,hq,hl,hw⟩:=hw
 subst e1
 cases r
 obtain ⟨its,rv,ht,hz⟩:=I.tuple hq
 refine assign_Tuple_tuple (I.ok.hd hc) ht (by simp [hn,← hl,rv.length]) hst fun h' hx=>?_
 have I1:Inv X pins σ H { s with heap:=h' }:=I.kept (t':=s.toks) fun b o e=>hx b o (Nat.ne_of_lt (Heap.lt_size e)) e
 exact h pins _ σ H xs _ Q I1 (by simpa using rv) hw
def bz5 (to ti:TE) (t:bj0):TG:=fun v σ H Q=>to σ H fun o H1=>ti σ H1 fun i H2=>t o i v H2 fun H3=>Q σ H3
theorem aC5 {o i:Expr} {to ti:TE} {t:bj0} (ho:PE X o to) (hi:PE X i ti) (hs:bB6 X t)
  (ha:∀ v,assign (.Subscript o i pos) X.env v=(do
   let ov ← holding [v] (eval o X.env)
   let iv ← holding [v,ov] (eval i X.env)
   standAt pos
   holding [v,ov,iv] (setItem ov iv v)
   release [v,ov,iv] []):=by intro _;rfl):PG X (.Subscript o i pos) (bz5 to ti t):=by
 intro pins s σ H v u Q I r h
 rw [ha]
 refine wpAny_bind (wpAny_holding (thn (ho pins s σ H _ I h) fun ov s1 ⟨x,H1,I1,r1,q1⟩=>?_))
 refine wpAny_bind (wpAny_holding (thn (hi pins s1 σ H1 _ I1 q1) fun iv s2 ⟨y,H2,I2,r2,q2⟩=>?_))
 refine wpAny_bind (wpAny_standAt (wpAny_bind (wpAny_holding (thn (hs pins s2 σ H2 x y v ov iv u _ I2 r1 r2 r q2) fun _ s3 ⟨H3,I3,q3⟩=>?_))))
 exact wpAny_release ⟨σ,H3,I3,q3⟩
def aU1 (te:TE) (g:TG):TS:=fun D σ H=>te σ H fun x H1=>g x σ H1 D.nx
theorem Z2 {tg e : Expr} {te : TE} {g : TG} (he : PE X e te) (hg : PG X tg g) (hs : swapsWithSole [tg] e pos.line X.env = pure false := by rfl) (hw : swappedStores [tg] e X.env = pure none := by rfl)
    (h1 : (assignEach [tg] X.env).map (·.2) = [assign tg X.env] := by rfl) : PS X (.Assign [tg] e pos) (aU1 te g) := by
  intro pins s σ H D I h
  refine wpAny_Assign_stores (thn (he pins s σ H _ I h) fun v s1 ⟨x, H1, I1, r1, q1⟩ => ?_) hs hw
  rw [h1]
  exact thn (hg pins s1 σ H1 x v _ I1 r1 q1) fun _ s2 q => q
theorem i4 {i:Nat} {x:Str} {e:Expr} {te:TE} {pos':Pos} (hN:X.N.Nodup) (hi:X.N[i]? = some x) (hx:Loc X.env.scope x) (he:PE X e te) (hs:swapsWith e (some (.Name x pos')) pos.line X.env=pure false:=by rfl) (hf:X.fn x=true ∨ X.env.scope.names.lookup x=some .local:=by first | exact .inl rfl | exact .inr rfl | assumption) :
  PS X (.Assign [.Name x pos'] e pos) (aU1 te (C1 i)):=by
 intro pins s σ H D I h
 refine wpAny_Assign_Name (thn (he pins s σ H _ I h) fun v s1 ⟨y,H1,I1,r1,q1⟩=>?_) hs
 exact W7 I1 hN hi hx r1 (fun s2 I2=>⟨_,H1,I2,q1⟩) hf
def bk3 (i j:Nat) (ta:TA):TS:=fun D σ H=>ta σ H fun vs H1 => ∃ v w,vs=[v,w]∧D.nx ((σ.set i (some v)).set j (some w)) H1
theorem aL7 {i j:Nat} {x y:Str} {a b:Expr} {ta:TA} {px py pt:Pos} {kt k2 pt2} (hc:X.calm=true) (hN:X.N.Nodup) (hi:X.N[i]? = some x) (hj:X.N[j]? = some y) (hij:i ≠ j)
  (hx:X.env.scope.names.lookup x=some .local) (hy:X.env.scope.names.lookup y=some .local) (ha:PA X [a,b] ta)
  (hw:swappedStores [.Tuple [.Name x px,.Name y py] kt pt] (.Tuple [a,b] k2 pt2) X.env=pure (some [x,y]))
  (hs:swapsWithSole [.Tuple [.Name x px,.Name y py] kt pt] (.Tuple [a,b] k2 pt2) pos.line X.env=pure false:=by rfl) :
  PS X (.Assign [.Tuple [.Name x px,.Name y py] kt pt] (.Tuple [a,b] k2 pt2) pos) (bk3 i j ta):=by
 intro pins s σ H D I h
 rw [exec_Assign_arm]
 refine wpAny_bind (wpAny_standAt ?_)
 rw [hs]
 refine wpAny_bind (wpAny_pure ?_)
 rw [if_neg (by decide)]
 refine wpAny_bind (Tuple_ (thn (ha _ pins s σ H _ I h) fun us s1 ⟨vs,H1,I1,r1,q1⟩=>?_))
 obtain ⟨v,w,e1,q1⟩:=q1
 subst e1
 obtain ⟨u1,u2,rfl,rv,rw'⟩:∃ u1 u2,us=[u1,u2]∧A7 v u1∧A7 w u2:=by
  cases r1 with
  | cons p q =>
   cases q with
   | cons p' q' =>
    cases q'
    exact ⟨_,_,rfl,p,p'⟩
 refine wpAny_newObj_type ?_ (by show 2≤sizeLine;decide)
 have I2:Inv X pins σ H1 { s1 with heap:=s1.heap.push { cls:=.type "tuple",data:=.seq [u1,u2].toArray } }:=I1.kept (t':=s1.toks) fun b o e=>Heap.get?_push_of_some _ e
 rw [hw]
 refine wpAny_bind (wpAny_pure ?_)
 show wpAny (model X.prog X.w) X.A (do rule "assign.swapped-stores";let items ← unpackItems (.ref s1.heap.objs.size) 2 none;assignInOrder [fun v=>bindName X.env y v,fun v=>bindName X.env x v] items.reverse;pure Flow.next) _ _ _
 refine wpAny_bind (wpAny_rule (wpAny_bind (unpackItems_tuple (items:=#[u1,u2]) (I.ok.hd hc) (IsTup.new s1.heap _) fun h' hx'=>?_)))
 have I3:=I2.kept (h':=h') (t':=s1.toks) fun b o e=>hx' b o (Nat.ne_of_lt (Heap.lt_size e)) e
 show wpAny _ _ (assignInOrder [fun v=>bindName X.env y v,fun v=>bindName X.env x v] [u2,u1] >>= fun _=>pure Flow.next) _ _ _
 refine wpAny_bind (assignInOrder_cons (wpAny_bindName (W7 I3 hN hj (.inl hy) rw' (fun s2 I4=>?_) (.inr hy))))
 refine assignInOrder_cons (wpAny_bindName (W7 I4 hN hi (.inl hx) rv (fun s3 I5=>assignInOrder_nil (wpAny_pure ?_)) (.inr hx)))
 rw [List.set_comm _ _ (Ne.symm hij)] at I5
 exact ⟨_,H1,I5,q1⟩
def bu2 (i:Nat) (te:TE) (ti:TIp):TS:=fun D σ H => ∃ x,σ[i]? = some (some x)∧te σ H fun y H1=>ti x y H1 fun z H2=>D.nx (σ.set i (some z)) H2
theorem aC2 {i:Nat} {x:Str} {e:Expr} {te:TE} {op:Operator} {ti:TIp} {pos':Pos} (hN:X.N.Nodup) (hi:X.N[i]? = some x) (hx:Loc X.env.scope x) (he:PE X e te) (ho:PIp X op ti) (hf:X.fn x=true ∨ X.env.scope.names.lookup x=some .local:=by first | exact .inl rfl | exact .inr rfl | assumption) :
  PS X (.AugAssign (.Name x pos') op e pos) (bu2 i te ti):=by
 intro pins s σ H D I h
 obtain ⟨v,e1,h⟩:=h
 obtain ⟨m,hn,hl⟩:=I.loc
 have vis:Vis X.env.scope x:=by rcases hx with k | k;exact .inl k;exact .inr (.inl k)
 obtain ⟨u,r,l⟩:=hl i x v hi e1 vis
 refine wpAny_AugAssign_Name ?_
 have go:wpAny (model X.prog X.w) X.A (eval e X.env) (fun w s₂=>wpAny (model X.prog X.w) X.A (inplaceOp op u w) (fun r s₃=>wpAny (model X.prog X.w) X.A (storeName X.env x r) (fun _=>SP X pins D .next) X.xe s₃) X.xe s₂) X.xe s:=by
  refine thn (he pins s σ H _ I h) fun w s1 ⟨y,H1,I1,r1,q1⟩=>?_
  refine thn (ho pins s1 σ H1 v y u w _ I1 r r1 q1) fun z s2 ⟨zv,H2,I2,r2,q2⟩=>?_
  exact W7 I2 hN hi hx r2 (fun s3 I3=>⟨_,H2,I3,q2⟩) hf
 rcases l with ⟨hk,hm⟩ | ⟨hk,c,hc,hcell⟩
 ·exact wpAny_loadName_local I.ok.kind hk hn hm go
 ·rcases hk with hk | hk
  ·exact wpAny_loadName_cell I.ok.kind hk hc hcell go
  ·rcases hx with k | k
   ·have:X.env.scope.names.lookup x=some .free:=hk
    rw [k] at this;cases this
   ·have:X.env.scope.names.lookup x=some .free:=hk
    rw [k] at this;cases this
def aZ2 (to ti te:TE) (tget:V→V→Hp→VK→Prop) (tip:TIp) (tset:bj0):TS:=fun D σ H=>to σ H fun o H1=>ti σ H1 fun i H2=>tget o i H2 fun x H3=>te σ H3 fun y H4=>tip x y H4 fun z H5=>tset o i z H5 fun H6=>D.nx σ H6
def bE6 (X:Cx) (t:V→V→Hp→VK→Prop):Prop :=
 ∀ (pins:List (Addr × Obj)) (s:Shared) (σ:St) (H:Hp) (o i:V) (ov iv:Value) (Q:VK),Inv X pins σ H s→A7 o ov→A7 i iv→t o i H Q →
  wpAny (model X.prog X.w) X.A (getItem ov iv) (EP X pins σ Q) X.xe s
theorem bm0 {o i e:Expr} {to ti te:TE} {tget:V→V→Hp→VK→Prop} {tip:TIp} {tset:bj0} {op:Operator} {tpos:Pos} (ho:PE X o to) (hi:PE X i ti) (hg:bE6 X tget) (he:PE X e te) (hp:PIp X op tip) (hs:bB6 X tset)
  (ha:∀ ov iv new,augStore i ov iv new=(do holding [new,ov,iv] (setItem ov iv new);release [new,ov,iv] [];pure .next):=by intros;rfl):PS X (.AugAssign (.Subscript o i tpos) op e pos) (aZ2 to ti te tget tip tset):=by
 intro pins s σ H D I h
 refine wpAny_AugAssign_SubscriptAny (thn (ho pins s σ H _ I h) fun ov s1 ⟨x1,H1,I1,r1,q1⟩=>?_) ha
 refine thn (hi pins s1 σ H1 _ I1 q1) fun iv s2 ⟨x2,H2,I2,r2,q2⟩=>?_
 refine thn (hg pins s2 σ H2 x1 x2 ov iv _ I2 r1 r2 q2) fun old s3 ⟨x3,H3,I3,r3,q3⟩=>?_
 refine thn (he pins s3 σ H3 _ I3 q3) fun v s4 ⟨x4,H4,I4,r4,q4⟩=>?_
 refine thn (hp pins s4 σ H4 x3 x4 old v _ I4 r3 r4 q4) fun new s5 ⟨x5,H5,I5,r5,q5⟩=>?_
 exact thn (hs pins s5 σ H5 x1 x2 x5 ov iv new _ I5 r1 r2 r5 q5) fun _ s6 ⟨H6,I6,q6⟩=>⟨σ,H6,I6,q6⟩
def ipI (f:Int→Int→Int):TIp:=fun x y H Q => ∃ i j,x=.int i∧y=.int j∧Q (.int (f i j)) H
theorem bz0:PIp X .Add (ipI fun i j=>i + j):=by
 intro pins s σ H x y v u Q I r1 r2 h
 obtain ⟨i,j,e1,e2,q⟩:=h
 subst e1;subst e2
 obtain ⟨t,rfl⟩:=r1
 obtain ⟨t',rfl⟩:=r2
 exact iadd_int ⟨.int _,H,I.tok _,⟨_,rfl⟩,q⟩
theorem be8:PIp X .Sub (ipI fun i j=>i - j):=by
 intro pins s σ H x y v u Q I r1 r2 h
 obtain ⟨i,j,e1,e2,q⟩:=h
 subst e1;subst e2
 obtain ⟨t,rfl⟩:=r1
 obtain ⟨t',rfl⟩:=r2
 exact isub_int ⟨.int _,H,I.tok _,⟨_,rfl⟩,q⟩
end
section
variable {X:Cx} {pos:Pos}
def aj0 (c:TT) (tb:TS):TS:=fun D σ H => ∃ W:Nat→St→Hp→Prop,(∃ m,W m σ H)∧∀ m σ H,W m σ H →
 c σ H fun b H1=>if b=true then ∃ N:St→Hp→Prop,(∀ σ' H',N σ' H'→∃ m',m' < m∧W m' σ' H')∧tb { D with nx:=N,ct:=N,bk:=D.nx } σ H1 else D.nx σ H1
theorem X5 {c:Expr} {body:List Stmt} {tc:TT} {tb:TS} (hp:PassesOwn (model X.prog X.w) X.A X.env X.xe) (hc:PT X c tc) (hb:PSs X body tb):PS X (.While c body [] pos) (aj0 tc tb):=by
 intro pins s σ H D I h
 obtain ⟨W,⟨m0,w0⟩,turn⟩:=h
 refine wpAny_While (codeAny_whileLoop (fun n s' => ∃ σ' H',Inv X pins σ' H' s'∧W n σ' H') ?_ m0 ⟨σ,H,I,w0⟩)
 rintro n s1 ⟨σ1,H1,I1,w1⟩
 refine wpAny_passesOwn hp (thn (hc pins s1 σ1 H1 _ I1 (turn n σ1 H1 w1)) fun b s2 ⟨H2,I2,q2⟩=>?_)
 cases b with
 | true =>
  obtain ⟨N,hN,q2⟩:=q2
  rw [if_pos rfl]
  refine wpAny_passesOwn hp (thn (hb pins s2 σ1 H2 _ I2 q2) fun f s3 q3=>?_)
  cases f with
  | next =>
   obtain ⟨σ3,H3,I3,n3⟩:=q3
   obtain ⟨m',hm,w3⟩:=hN σ3 H3 n3
   exact ⟨m',hm,σ3,H3,I3,w3⟩
  | cont =>
   obtain ⟨σ3,H3,I3,n3⟩:=q3
   obtain ⟨m',hm,w3⟩:=hN σ3 H3 n3
   exact ⟨m',hm,σ3,H3,I3,w3⟩
  | brk=>exact q3
  | ret v=>exact q3
 | false =>
  rw [if_neg Bool.false_ne_true]
  exact wpAny_execs_nil ⟨σ1,H2,I2,q2⟩
end
structure It where
 go:Nat→Hp→Prop
 yld:Nat→Hp→V→Hp→Prop
 stop:Nat→Hp→Prop
def P8 (X:Cx) (pins:List (Addr × Obj)) (H:Hp) (b:Addr):Prop :=
 H b=none∧b ≠ X.env.locals∧b ∉ X.fs∧(b ∈ X.ex ∨ X.s₀.heap.objs.size≤b)∧(∀ x c,X.env.cells.lookup x=some c→c ≠ b)∧∀ p ∈ X.pn ++ pins,p.1 ≠ b
theorem Inv.fpOk {X:Cx} {pins:List (Addr × Obj)} {σ:St} {H H':Hp} {s:Shared} {b:Addr} (I:Inv X pins σ H s) (hb:s.heap.objs.size≤b) (hn:H' b=none):P8 X pins H' b:=by
 refine ⟨hn,Nat.ne_of_gt (Nat.lt_of_lt_of_le I.lt hb),I.nofs hb,.inr (Nat.le_trans I.sz hb),fun x c e z=>?_,fun p hp z=>?_⟩
 ·obtain ⟨v,q⟩:=I.cell x c e
  exact absurd (Nat.lt_of_lt_of_le q.lt (by rw [z];exact hb)) (Nat.lt_irrefl _)
 ·exact absurd (Nat.lt_of_lt_of_le (Heap.lt_size (I.pin p hp).1) (by rw [z];exact hb)) (Nat.lt_irrefl _)
structure bi9 (P:Program) (w:World) (K:PySem.W.Frag) (tg:Expr) (J:It) (fp:List Addr) (it:Addr) (tn:Nat→Heap→Prop):Prop where
 mem:it ∈ fp
 obj:∀ i h,tn i h→∀ b ∈ fp,∃ o,h.get? b=some o∧∀ v,o.data ≠ .cell v
 keep:∀ i h h',tn i h→(∀ b ∈ fp,∀ o,h.get? b=some o→h'.get? b=some o)→tn i h'
 item:∀ (X:Cx),X.prog=P→X.w=w→X.K=K→X.calm=true→∀ (i:Nat) (pins:List (Addr × Obj)) (s:Shared) (σ:St) (H:Hp) (E:Value→Shared→Prop),Inv X pins σ H s→(∀ b ∈ fp,P8 X pins H b)→tn i s.heap→J.go i H →
  wpAny (model P w) X.A (pyNext (.ref it)) (fun r s1 => ∃ u,r=some u ∧
   wpAny (model P w) X.A (letOwnedTupleGo tg (.ref it) u) (fun _ s2 => ∃ x H',Inv X pins σ H' s2∧A7 x u∧J.yld i H x H'∧tn (i + 1) s2.heap∧∀ b ∈ fp,H' b=none) E s1) E s
 done:∀ (X:Cx),X.prog=P→X.w=w→X.K=K→X.calm=true→∀ (i:Nat) (pins:List (Addr × Obj)) (s:Shared) (σ:St) (H:Hp) (E:Value→Shared→Prop),Inv X pins σ H s→(∀ b ∈ fp,P8 X pins H b)→tn i s.heap→J.stop i H →
  wpAny (model P w) X.A (pyNext (.ref it)) (fun r s1=>r=none∧Inv X pins σ H s1) E s
 self:∀ (A:Around) (i:Nat) (s:Shared) (Q:Value→Shared→Prop) (E:Value→Shared→Prop),tn i s.heap→Q (.ref it) s→wpAny (model P w) A (pyIter (.ref it)) Q E s
abbrev TI:=St→Hp→(It→Hp→Prop)→Prop
def PIE (X:Cx) (pins:List (Addr × Obj)) (σ:St) (tg:Expr) (R:It→Hp→Prop) (itv:Value) (s2:Shared):Prop :=
 ∃ (it:Addr) (fp:List Addr) (tn:Nat→Heap→Prop) (J:It) (H':Hp),itv=.ref it∧Inv X pins σ H' s2∧bi9 X.prog X.w X.K tg J fp it tn∧tn 0 s2.heap∧(∀ b ∈ fp,P8 X pins H' b)∧R J H'
def PI (X:Cx) (tg iter:Expr) (wi:TI):Prop :=
 ∀ (pins:List (Addr × Obj)) (s:Shared) (σ:St) (H:Hp) (R:It→Hp→Prop),Inv X pins σ H s→wi σ H R →
  wpAny (model X.prog X.w) X.A (eval iter X.env) (fun v s1=>wpAny (model X.prog X.w) X.A (pyIter v) (PIE X pins σ tg R) X.xe s1) X.xe s
theorem bf6 {M : Model} {A : Around} {E : Value → Shared → Prop} {s : Shared} {tg : Expr} {it : Addr} {u : Value} {o : Obj} {n : String} {vs : Array Value} {Q : Unit → Shared → Prop} (ho : s.heap.get? it = some o) (hc : o.cls = .type n) (hd : o.data = .fields vs)
    (hn : ["enumerate", "zip", "dict_itemiterator", "dict_reverseitemiterator", "odict_iterator", "itertools.zip_longest", "itertools.pairwise"].contains n = false) (hQ : Q () s) : wpAny M A (letOwnedTupleGo tg (.ref it) u) Q E s := by
  unfold letOwnedTupleGo
  cases tg <;> first
    | exact wpAny_pure hQ
    | (cases u <;> first
        | exact wpAny_pure hQ
        | (refine wpAny_bind (wpAny_load ho ?_)
           rw [hc, hd]
           show wpAny M A (if (["enumerate", "zip", "dict_itemiterator", "dict_reverseitemiterator", "odict_iterator", "itertools.zip_longest", "itertools.pairwise"].contains n && vs[0]? == some (rawInt _)) = true then _ else _) Q E s
           rw [if_neg (by intro h; rw [hn, Bool.false_and] at h; cases h)]
           exact wpAny_pure hQ))
def Itl (K:PySem.W.Frag) (a:Addr):It :=
 ⟨fun i H => ∃ xs x,SqL K H a xs∧xs[i]? = some x,fun i H x H'=>H'=H∧∀ xs,SqL K H a xs→xs[i]? = some x,fun i H => ∃ xs,SqL K H a xs∧xs.length≤i⟩
def Itr (lo:Int) (n:Nat):It:=⟨fun i _=>i < n,fun i H x H'=>H'=H∧x=.int (lo + i),fun i _=>n≤i⟩
theorem aT7 {P:Program} {w:World} {K:PySem.W.Frag} {tg:Expr} (a it:Addr):bi9 P w K tg (Itl K a) [it] it (fun i h=>h.IsListIter it a i) where
 mem:=by simp
 obj:=fun i h st b hb=>by
  have e:b=it:=by simpa using hb
  subst e
  obtain ⟨o,e,c,d⟩:=st
  exact ⟨o,e,fun v z=>by rw [d] at z;cases z⟩
 keep:=fun i h h' st k=>st.at fun o e=>k it (by simp) o e
 item:=by
  intro X hP hw hK hc i pins s σ H E I hf st hg
  subst hP hw hK
  obtain ⟨xs,x,hq,hx⟩:=hg
  obtain ⟨its,rv,p,hz⟩:=I.list hq
  obtain ⟨u,hu,ru⟩:=rv.get hx
  obtain ⟨f0,f1,f2,f3,f4,f5⟩:=hf it (by simp)
  refine wpAny_pyNext_list_item st p.isList (x:=u) (by simpa using hu) fun h' st' sb=>?_
  have I1:Inv X pins σ H { s with heap:=h' }:=I.turned (t':=s.toks) (fun b o hb e=>(sb.2 b hb).trans e) f0 f1 f3 f4 f5
  obtain ⟨o,e,c,d⟩:=id st'
  exact ⟨u,rfl,bf6 (s:={ s with heap:=h' }) e c d (by decide) ⟨x,H,I1,ru,⟨rfl,fun ys hy=>by rw [I.list_inj hy hq];exact hx⟩,st',fun b hb=>(hf b hb).1⟩⟩
 done:=by
  intro X hP hw hK hc i pins s σ H E I hf st hg
  subst hP hw hK
  obtain ⟨xs,hq,hx⟩:=hg
  obtain ⟨its,rv,p,hz⟩:=I.list hq
  obtain ⟨f0,f1,f2,f3,f4,f5⟩:=hf it (by simp)
  have hl:=rv.length
  exact wpAny_pyNext_list_end (I.ok.hd hc) st p.isList (by simp;omega) fun h' eb=>⟨rfl,I.turned (t':=s.toks) (fun b o hb e=>eb b o hb e) f0 f1 f3 f4 f5⟩
 self:=fun _ _ _ _ _ st h=>wpAny_pyIter_listiter st h
theorem aK3 {P:Program} {w:World} {K:PySem.W.Frag} {tg:Expr} (it:Addr) (lo:Int) (n:Nat):bi9 P w K tg (Itr lo n) [it] it (fun i h=>IsRangeIter h it (lo + (i:Nat) * 1) ((n:Int) - (i:Nat)) 1) where
 mem:=by simp
 obj:=fun i h st b hb=>by
  have e:b=it:=by simpa using hb
  subst e
  exact ⟨_,st,fun v z=>by
   have z':Data.fields _=Data.cell v:=z
   cases z'⟩
 keep:=fun i h h' st k=>k it (by simp) _ st
 item:=by
  intro X hP hw hK hc i pins s σ H E I hf st hg
  subst hP hw hK
  obtain ⟨f0,f1,f2,f3,f4,f5⟩:=hf it (by simp)
  have W:=Walks.range (prog:=X.prog) (w:=X.w) (I.ok.hd hc) it lo 1 n
  refine W.item i s _ _ hg st fun v h' tk hv st' kk=>?_
  obtain ⟨t,rfl⟩:=hv
  have I1:Inv X pins σ H { s with heap:=h',toks:=tk }:=I.turned (fun b o hb e=>kk b o (by simpa using hb) e) f0 f1 f3 f4 f5
  refine ⟨_,rfl,bf6 (s:={ s with heap:=h',toks:=tk }) (n := "range_iterator") st' rfl rfl (by decide) ⟨.int (lo + i),H,I1,⟨t,?_⟩,⟨rfl,rfl⟩,st',fun b hb=>(hf b hb).1⟩⟩
  rw [Int.mul_one]
 done:=by
  intro X hP hw hK hc i pins s σ H E I hf st hg
  subst hP hw hK
  obtain ⟨f0,f1,f2,f3,f4,f5⟩:=hf it (by simp)
  exact wpAny_pyNext_range_end (I.ok.hd hc) st (by have:n≤i:=hg;omega) fun h' eb=>⟨rfl,I.turned (t':=s.toks) (fun b o hb e=>eb b o hb e) f0 f1 f3 f4 f5⟩
 self:=fun _ _ _ _ _ st h=>wpAny_pyIter_rangeiter st h
section
variable {X:Cx} {tg:Expr}
def bf2 (K:PySem.W.Frag) (tl:TE):TI:=fun σ H R=>tl σ H fun x H1 => ∃ a,x=.ref a∧(∃ xs,SqL K H1 a xs)∧R (Itl K a) H1
theorem E1 {l:Expr} {tl:TE} (hl:PE X l tl):PI X tg l (bf2 X.K tl):=by
 intro pins s σ H R I h
 refine thn (hl pins s σ H _ I h) fun v s1 ⟨x,H1,I1,r1,q1⟩=>?_
 obtain ⟨a,e,⟨xs,hq⟩,q⟩:=q1
 subst e
 cases r1
 obtain ⟨its,rv,p,hz⟩:=I1.list hq
 refine wpAny_pyIter_list p.isList ?_
 refine ⟨s1.heap.objs.size,[s1.heap.objs.size],_,_,H1,rfl,I1.kept (t':=s1.toks) fun b o e=>Heap.get?_push_of_some _ e,aT7 a _,⟨_,Heap.get?_push_size _ rfl,rfl,rfl⟩,fun b hb=>?_,q⟩
 have e:b=s1.heap.objs.size:=by simpa using hb
 subst e
 exact I1.fpOk (Nat.le_refl _) (I1.hok.fresh (Nat.le_refl _))
theorem aH5 {pins:List (Addr × Obj)} {σ:St} {H:Hp} {s:Shared} {R:It→Hp→Prop} {E:Value→Shared→Prop} {lo hi:Int} {t u v:Tok} {tk:Nat} (I:Inv X pins σ H s) (h1:-(2 ^ 62)≤lo) (h2:lo < 2 ^ 62) (h3:-(2 ^ 62)≤hi) (h4:hi < 2 ^ 62)
  (q:R (Itr lo (hi - lo).toNat) H):wpAny (model X.prog X.w) X.A (pyIter (.ref s.heap.objs.size)) (PIE X pins σ tg R) E { s with heap:=s.heap.push { cls:=.type "range",data:=.fields #[.int lo t,.int hi u,.int 1 v] },toks:=tk }:=by
 refine wpAny_pyIter_range (IsRange.new ..) (small_one h1 h2 h3 h4) ?_
 have I1:Inv X pins σ H { s with heap:=s.heap.push { cls:=.type "range",data:=.fields #[.int lo t,.int hi u,.int 1 v] },toks:=tk }:=I.kept fun b o e=>Heap.get?_push_of_some _ e
 refine ⟨(s.heap.push { cls:=.type "range",data:=.fields #[.int lo t,.int hi u,.int 1 v] }).objs.size,[(s.heap.push { cls:=.type "range",data:=.fields #[.int lo t,.int hi u,.int 1 v] }).objs.size],_,_,H,rfl,
  I1.kept (t':=tk) fun b o e=>Heap.get?_push_of_some _ e,aK3 _ lo (hi - lo).toNat,?_,fun b hb=>?_,q⟩
 ·have e1:lo + ((0:Nat):Int) * 1=lo:=by simp
  have e2:(((hi - lo).toNat:Nat):Int) - ((0:Nat):Int)=Builtin.Range.rangeSize lo hi 1:=by rw [rangeSize_one];split <;> omega
  show IsRangeIter _ _ (lo + ((0:Nat):Int) * 1) ((((hi - lo).toNat:Nat):Int) - ((0:Nat):Int)) 1
  rw [e1,e2]
  exact Heap.get?_push_size _ rfl
 ·have e:b=(s.heap.push { cls:=.type "range",data:=.fields #[.int lo t,.int hi u,.int 1 v] }).objs.size:=by simpa using hb
  subst e
  exact I1.fpOk (Nat.le_refl _) (I1.hok.fresh (Nat.le_refl _))
def bf1 (ta:TA):TI:=fun σ H R=>ta σ H fun vs H1 => ∃ j:Int,vs=[.int j]∧-(2 ^ 62)≤j∧j < 2 ^ 62∧R (Itr 0 j.toNat) H1
def bf0 (ta:TA):TI:=fun σ H R=>ta σ H fun vs H1 => ∃ i j:Int,vs=[.int i,.int j]∧(-(2 ^ 62)≤i∧i < 2 ^ 62∧-(2 ^ 62)≤j∧j < 2 ^ 62)∧R (Itr i (j - i).toNat) H1
theorem U5 {a:Expr} {ta:TA} {p pos:Pos} (hg:Gl X "range") (hm:X.mg "range" = none) (ha:PA X [a] ta) (hs:starEach [a] X.env=[(false,eval a X.env)]:=by rfl):PI X tg (.Call (.Name "range" p) [a] [] pos) (bf1 ta):=by
 intro pins s σ H R I h
 refine Call_ (af8 I hg hm boot_range (PyProof.Rows.callWith_type1 (thn (ha pos pins s σ H _ I h) fun us s1 ⟨vs,H1,I1,r1,q1⟩=>?_) hs rfl))
 obtain ⟨j,e,q1,q2,q⟩:=q1
 subst e
 cases r1 with
 | cons r rr =>
  cases rr
  obtain ⟨t,rfl⟩:=r
  exact call_range_1 (aH5 I1 (by omega) (by omega) q1 q2 (by simpa using q))
theorem aV2 {a b:Expr} {ta:TA} {p pos:Pos} (hg:Gl X "range") (hm:X.mg "range" = none) (ha:PA X [a,b] ta) (hs:starEach [a,b] X.env=[(false,eval a X.env),(false,eval b X.env)]:=by rfl) (hs2:starEach [b] X.env=[(false,eval b X.env)]:=by rfl) :
  PI X tg (.Call (.Name "range" p) [a,b] [] pos) (bf0 ta):=by
 intro pins s σ H R I h
 refine Call_ (af8 I hg hm boot_range (PyProof.Rows.callWith_type1 (thn (ha pos pins s σ H _ I h) fun us s1 ⟨vs,H1,I1,r1,q1⟩=>?_) (by rw [hs,hs2]) (by rw [hs2];rfl)))
 obtain ⟨i,j,e,⟨q1,q2,q3,q4⟩,q⟩:=q1
 subst e
 cases r1 with
 | cons r rr =>
  cases rr with
  | cons r' rr =>
   cases rr
   obtain ⟨t,rfl⟩:=r
   obtain ⟨t',rfl⟩:=r'
   exact call_range_2 (aH5 I1 q1 q2 q3 q4 q)
def bF1 (wi:TI) (g:TG) (tb:TS):TS:=fun D σ H=>wi σ H fun J H1 => ∃ W:Nat→Nat→St→Hp→Prop,(∃ m,W 0 m σ H1)∧∀ i m σ H,W i m σ H →
 (J.stop i H∧D.nx σ H) ∨ (J.go i H∧∃ N:St→Hp→Prop,(∀ σ' H',N σ' H'→∃ m',m' < m∧W (i + 1) m' σ' H')∧∀ x H',J.yld i H x H'→g x σ H' fun σ2 H2=>tb { D with nx:=N,ct:=N,bk:=D.nx } σ2 H2)
def aC3 (fp:List Addr) (h:Heap):List (Addr × Obj):=fp.filterMap fun b=>(h.get? b).map fun o=>(b,o)
theorem v4 {fp:List Addr} {h:Heap} {b:Addr} {o:Obj} (hb:b ∈ fp) (e:h.get? b=some o):(b,o) ∈ aC3 fp h:=List.mem_filterMap.mpr ⟨b,hb,by rw [e];rfl⟩
theorem aV4 {fp:List Addr} {h:Heap} {p:Addr × Obj} (hp:p ∈ aC3 fp h):p.1 ∈ fp∧h.get? p.1=some p.2:=by
 obtain ⟨b,hb,e⟩:=List.mem_filterMap.mp hp
 cases q:h.get? b with
 | none=>rw [q] at e;cases e
 | some o =>
  rw [q] at e
  have e':(b,o)=p:=Option.some.inj e
  subst e'
  exact ⟨hb,q⟩
theorem Inv.pinned {pins:List (Addr × Obj)} {σ:St} {H:Hp} {s:Shared} {fp:List Addr} (I:Inv X pins σ H s) (hf:∀ b ∈ fp,P8 X pins H b) (ho:∀ b ∈ fp,∃ o,s.heap.get? b=some o∧∀ v,o.data ≠ .cell v):Inv X (pins ++ aC3 fp s.heap) σ H s :=
 I.pins_of fun p hp=>(List.mem_append.mp hp).elim (fun z=>I.pin p (List.mem_append_right _ z)) fun z=>by
  obtain ⟨hb,e⟩:=aV4 z
  obtain ⟨f0,f1,f2,_⟩:=hf p.1 hb
  obtain ⟨o,e',d⟩:=ho p.1 hb
  rw [e] at e';cases e'
  exact ⟨e,f0,f1,f2,d⟩
theorem Inv.unpinned {pins pl:List (Addr × Obj)} {σ:St} {H:Hp} {s:Shared} (I:Inv X (pins ++ pl) σ H s):Inv X pins σ H s:=I.pins_of fun p hp=>I.pin p (List.mem_append_right _ (List.mem_append_left _ hp))
theorem O0 {iter:Expr} {body:List Stmt} {wi:TI} {g:TG} {tb:TS} {pos:Pos} (hp:PassesOwn (model X.prog X.w) X.A X.env X.xe) (hc:X.calm=true) (hi:PI X tg iter wi) (hg:PG X tg g) (hb:PSs X body tb)
  (hs:∀ x,foldedSetIterable iter X.env x=pure x:=by intro _;rfl):PS X (.For tg iter body [] pos) (bF1 wi g tb):=by
 intro pins s σ H D I h
 refine wpAny_For (thn (hi pins s σ H _ I h) fun v s1 h1=>thn h1 fun itv s2 h2=>?_) hs
 obtain ⟨it,fp,tn,J,H2,e,I2,T,st2,f2,W,⟨m0,w0⟩,turn⟩:=h2
 subst e
 -- what stays true of the iterator's objects through the loop
 have stat:∀ {H':Hp},(∀ b ∈ fp,H' b=none)→∀ b ∈ fp,P8 X pins H' b:=fun hn b hb=>⟨hn b hb,(f2 b hb).2⟩
 refine codeAny_forLoop_any (fun n s' => ∃ i σ' H',Inv X pins σ' H' s'∧tn i s'.heap∧(∀ b ∈ fp,H' b=none)∧W i n σ' H') ?_ m0 ⟨0,σ,H2,I2,st2,fun b hb=>(f2 b hb).1,w0⟩
 rintro n s3 ⟨i,σ3,H3,I3,st3,fr3,w3⟩
 rcases turn i n σ3 H3 w3 with ⟨stop,qn⟩ | ⟨go,N,hN,step⟩
 ·refine wpAny_passesOwn hp (thn (T.done X rfl rfl rfl hc i pins s3 σ3 H3 X.xe I3 (stat fr3) st3 stop) fun r s4 ⟨hr,I4⟩=>?_)
  subst hr
  exact wpAny_execs_nil ⟨σ3,H3,I4,qn⟩
 ·refine wpAny_passesOwn hp (thn (T.item X rfl rfl rfl hc i pins s3 σ3 H3 X.xe I3 (stat fr3) st3 go) fun r s4 ⟨u,hr,h4⟩=>?_)
  subst hr
  refine wpAny_passesOwn hp (thn h4 fun _ s5 ⟨x,H5,I5,r5,y5,st5,fr5⟩=>?_)
  have I5':=I5.pinned (stat fr5) (T.obj _ _ st5)
  refine wpAny_passesOwn hp (thn (hg _ s5 σ3 H5 x u _ I5' r5 (step x H5 y5)) fun _ s6 ⟨σ6,H6,I6,q6⟩=>?_)
  refine wpAny_passesOwn hp (thn (hb _ s6 σ6 H6 _ I6 q6) fun f s7 q7=>?_)
  have again:∀ {σ7:St} {H7:Hp},Inv X (pins ++ aC3 fp s5.heap) σ7 H7 s7→N σ7 H7→∃ m,m < n∧∃ i σ' H',Inv X pins σ' H' s7∧tn i s7.heap∧(∀ b ∈ fp,H' b=none)∧W i m σ' H':=fun {σ7 H7} I7 n7=>by
   obtain ⟨m',hm,w7⟩:=hN σ7 H7 n7
   refine ⟨m',hm,i + 1,σ7,H7,I7.unpinned,T.keep _ _ _ st5 fun b hb o e=>(I7.pin (b,o) (List.mem_append_right _ (List.mem_append_right _ (v4 hb e)))).1,fun b hb=>?_,w7⟩
   obtain ⟨o,e,d⟩:=T.obj _ _ st5 b hb
   exact (I7.pin (b,o) (List.mem_append_right _ (List.mem_append_right _ (v4 hb e)))).2.1
  cases f with
  | next=>obtain ⟨σ7,H7,I7,n7⟩:=q7;exact again I7 n7
  | cont=>obtain ⟨σ7,H7,I7,n7⟩:=q7;exact again I7 n7
  | brk=>obtain ⟨σ7,H7,I7,q7⟩:=q7;exact ⟨σ7,H7,I7.unpinned,q7⟩
  | ret v=>obtain ⟨x7,σ7,H7,I7,r7,q7⟩:=q7;exact ⟨x7,σ7,H7,I7.unpinned,r7,q7⟩
end
theorem ai3 {K:PySem.W.Frag} {a:Addr} {xs:List V} {g:TG} {tb:TS} {D:aa5} {σ:St} {H:Hp} (Pv:Nat→St→Hp→Prop) (h0:Pv 0 σ H) (hl:∀ i σ H,i≤xs.length→Pv i σ H→SqL K H a xs)
  (hs:∀ i x σ H,xs[i]? = some x→Pv i σ H→g x σ H fun σ2 H2=>tb { D with nx:=Pv (i + 1),ct:=Pv (i + 1),bk:=D.nx } σ2 H2) (hd:∀ σ H,Pv xs.length σ H→D.nx σ H) :
  ∃ W:Nat→Nat→St→Hp→Prop,(∃ m,W 0 m σ H)∧∀ i m σ H,W i m σ H →
   ((Itl K a).stop i H∧D.nx σ H) ∨ ((Itl K a).go i H∧∃ N:St→Hp→Prop,(∀ σ' H',N σ' H'→∃ m',m' < m∧W (i + 1) m' σ' H')∧∀ x H',(Itl K a).yld i H x H'→g x σ H' fun σ2 H2=>tb { D with nx:=N,ct:=N,bk:=D.nx } σ2 H2):=by
 refine ⟨fun i m σ H=>m=xs.length - i∧i≤xs.length∧Pv i σ H,⟨xs.length,by simp,Nat.zero_le _,h0⟩,?_⟩
 rintro i m σ H ⟨rfl,hi,p⟩
 have q:=hl i σ H hi p
 by_cases hlt:i < xs.length
 ·refine .inr ⟨⟨xs,xs[i],q,by simp [hlt]⟩,Pv (i + 1),fun σ' H' p'=>⟨xs.length - (i + 1),by omega,rfl,hlt,p'⟩,fun x H' y=>?_⟩
  obtain ⟨e,y⟩:=y
  subst e
  exact hs i x σ _ (y xs q) p
 ·have e:i=xs.length:=by omega
  subst e
  exact .inl ⟨⟨xs,q,Nat.le_refl _⟩,hd σ H p⟩
theorem U7 {lo:Int} {n:Nat} {g:TG} {tb:TS} {D:aa5} {σ:St} {H:Hp} (Pv:Nat→St→Hp→Prop) (h0:Pv 0 σ H)
  (hs:∀ i σ H,i < n→Pv i σ H→g (.int (lo + i)) σ H fun σ2 H2=>tb { D with nx:=Pv (i + 1),ct:=Pv (i + 1),bk:=D.nx } σ2 H2) (hd:∀ σ H,Pv n σ H→D.nx σ H) :
  ∃ W:Nat→Nat→St→Hp→Prop,(∃ m,W 0 m σ H)∧∀ i m σ H,W i m σ H →
   ((Itr lo n).stop i H∧D.nx σ H) ∨ ((Itr lo n).go i H∧∃ N:St→Hp→Prop,(∀ σ' H',N σ' H'→∃ m',m' < m∧W (i + 1) m' σ' H')∧∀ x H',(Itr lo n).yld i H x H'→g x σ H' fun σ2 H2=>tb { D with nx:=N,ct:=N,bk:=D.nx } σ2 H2):=by
 refine ⟨fun i m σ H=>m=n - i∧i≤n∧Pv i σ H,⟨n,by simp,Nat.zero_le _,h0⟩,?_⟩
 rintro i m σ H ⟨rfl,hi,p⟩
 by_cases hlt:i < n
 ·refine .inr ⟨hlt,Pv (i + 1),fun σ' H' p'=>⟨n - (i + 1),by omega,rfl,hlt,p'⟩,fun x H' y=>?_⟩
  obtain ⟨e,y⟩:=y
  subst e y
  exact hs i σ _ hlt p
 ·have e:i=n:=by omega
  subst e
  exact .inl ⟨Nat.le_refl _,hd σ H p⟩
theorem aG4 {c:TT} {tb:TS} {D:aa5} {σ:St} {H:Hp} (Pv:St→Hp→Prop) (μ:St→Hp→Nat) (h0:Pv σ H)
  (hs:∀ σ H,Pv σ H→c σ H fun b H1=>if b=true then tb { D with nx:=fun σ' H'=>Pv σ' H'∧μ σ' H' < μ σ H,ct:=fun σ' H'=>Pv σ' H'∧μ σ' H' < μ σ H,bk:=D.nx } σ H1 else D.nx σ H1)
  (mono:∀ σ H Q Q',(∀ b H1,Q b H1→Q' b H1)→c σ H Q→c σ H Q'):aj0 c tb D σ H:=by
 refine ⟨fun m σ H=>m=μ σ H∧Pv σ H,⟨_,rfl,h0⟩,?_⟩
 rintro m σ H ⟨rfl,p⟩
 refine mono σ H _ _ (fun b H1 q=>?_) (hs σ H p)
 cases b with
 | true=>exact ⟨_,fun σ' H' ⟨p',l⟩=>⟨_,l,rfl,p'⟩,q⟩
 | false=>exact q
abbrev R2:=V→V→Hp→VK→Prop
def OpR (X:Cx) (f:Value→Value→Sem Value) (r:R2):Prop :=
 ∀ (pins:List (Addr × Obj)) (s:Shared) (σ:St) (H:Hp) (x y:V) (v u:Value) (Q:VK),Inv X pins σ H s→A7 x v→A7 y u→r x y H Q →
  wpAny (model X.prog X.w) X.A (f v u) (EP X pins σ Q) X.xe s
def UnR (X:Cx) (f:Value→Sem Value) (r:V→Hp→VK→Prop):Prop :=
 ∀ (pins:List (Addr × Obj)) (s:Shared) (σ:St) (H:Hp) (x:V) (v:Value) (Q:VK),Inv X pins σ H s→A7 x v→r x H Q →
  wpAny (model X.prog X.w) X.A (f v) (EP X pins σ Q) X.xe s
def ae9 (X:Cx) (f:Value) (r:List V→Hp→VK→Prop):Prop :=
 ∀ (pins:List (Addr × Obj)) (s:Shared) (σ:St) (H:Hp) (xs:List V) (us:List Value) (Q:VK),Inv X pins σ H s→t8 xs us→r xs H Q →
  wpAny (model X.prog X.w) X.A (call f us) (EP X pins σ Q) X.xe s
def bG5 (X:Cx) (r:V→Hp→(Bool→Hp→Prop)→Prop):Prop :=
 ∀ (pins:List (Addr × Obj)) (s:Shared) (σ:St) (H:Hp) (x:V) (v:Value) (Q:Bool→Hp→Prop),Inv X pins σ H s→A7 x v→r x H Q →
  wpAny (model X.prog X.w) X.A (truthy v) (TP X pins σ Q) X.xe s
def tOp (r:R2) (ta tb:TE):TE:=fun σ H Q=>ta σ H fun x H1=>tb σ H1 fun y H2=>r x y H2 Q
def tUn (r:V→Hp→VK→Prop) (ta:TE):TE:=fun σ H Q=>ta σ H fun x H1=>r x H1 Q
def rI (C:Int→Int→Prop) (g:Int→Int→V):R2:=fun x y H Q => ∃ i j,x=.int i∧y=.int j∧C i j∧Q (g i j) H
def rI0 (g:Int→Int→V):R2:=fun x y H Q => ∃ i j,x=.int i∧y=.int j∧Q (g i j) H
def rU (g:Int→V):V→Hp→VK→Prop:=fun x H Q => ∃ i,x=.int i∧Q (g i) H
section
variable {X:Cx} {a b c:Expr} {ta tb tc:TE} {pos:Pos}
theorem bB1 (ha:PE X a ta) (hb:PE X b tb) {pins:List (Addr × Obj)} {s:Shared} {σ:St} {H:Hp} {R:V→V→Hp→Prop} (I:Inv X pins σ H s)
  (h:ta σ H fun x H1=>tb σ H1 fun y H2=>R x y H2) {Q:Value→Shared→Prop} {f:Value→Value→Sem Value}
  (hf:∀ v u s2 x y H2,Inv X pins σ H2 s2→A7 x v→A7 y u→R x y H2→wpAny (model X.prog X.w) X.A (f v u) Q X.xe s2) :
  wpAny (model X.prog X.w) X.A (eval a X.env) (fun v s₁=>wpAny (model X.prog X.w) X.A (eval b X.env) (fun u s₂=>wpAny (model X.prog X.w) X.A (f v u) Q X.xe s₂) X.xe s₁) X.xe s:=by
 refine thn (ha pins s σ H _ I h) fun v s1 ⟨x,H1,I1,r1,q1⟩=>?_
 refine thn (hb pins s1 σ H1 _ I1 q1) fun u s2 ⟨y,H2,I2,r2,q2⟩=>?_
 exact hf v u s2 x y H2 I2 r1 r2 q2
theorem i6 {op:Operator} {r:R2} (ho:OpR X (binaryOp op) r) (ha:PE X a ta) (hb:PE X b tb):PE X (.BinOp a op b pos) (tOp r ta tb):=by
 intro pins s σ H Q I h
 exact wpAny_BinOp (bB1 ha hb I h fun v u s2 x y H2 I2 rx ry q=>ho pins s2 σ H2 x y v u Q I2 rx ry q)
theorem Q7 {op:UnaryOp} {r:V→Hp→VK→Prop} (ho:UnR X (unaryOp op) r) (ha:PE X a ta):PE X (.UnaryOp op a pos) (tUn r ta):=by
 intro pins s σ H Q I h
 exact UnaryOp_ (thn (ha pins s σ H _ I h) fun v s1 ⟨x,H1,I1,r1,q1⟩=>ho pins s1 σ H1 x v Q I1 r1 q1)
theorem opI {f:Value→Value→Sem Value} {C:Int→Int→Prop} {g:Int→Int→Int}
  (rule:∀ (i j:Int) (t u:Tok) (s:Shared) (Q:Value→Shared→Prop) (E:Value→Shared→Prop),C i j→Q (.int (g i j) s.toks) { s with toks:=s.toks + 1 }→wpAny (model X.prog X.w) X.A (f (.int i t) (.int j u)) Q E s) :
  OpR X f (rI C fun i j=>.int (g i j)):=by
 intro pins s σ H x y v u Q I rx ry h
 obtain ⟨i,j,rfl,rfl,hc,q⟩:=h
 obtain ⟨t,rfl⟩:=rx
 obtain ⟨t',rfl⟩:=ry
 exact rule i j t t' s _ _ hc ⟨.int (g i j),H,I.tok _,⟨_,rfl⟩,q⟩
theorem bw9 {f:Value→Value→Sem Value} {g:Int→Int→Int}
  (rule:∀ (i j:Int) (t u:Tok) (s:Shared) (Q:Value→Shared→Prop) (E:Value→Shared→Prop),Q (.int (g i j) s.toks) { s with toks:=s.toks + 1 }→wpAny (model X.prog X.w) X.A (f (.int i t) (.int j u)) Q E s) :
  OpR X f (rI0 fun i j=>.int (g i j)):=by
 intro pins s σ H x y v u Q I rx ry h
 obtain ⟨i,j,rfl,rfl,q⟩:=h
 obtain ⟨t,rfl⟩:=rx
 obtain ⟨t',rfl⟩:=ry
 exact rule i j t t' s _ _ ⟨.int (g i j),H,I.tok _,⟨_,rfl⟩,q⟩
theorem bm7 {f:Value→Value→Sem Value} {g:Int→Int→Bool}
  (rule:∀ (i j:Int) (t u:Tok) (s:Shared) (Q:Value→Shared→Prop) (E:Value→Shared→Prop),Q (.bool (g i j)) s→wpAny (model X.prog X.w) X.A (f (.int i t) (.int j u)) Q E s) :
  OpR X f (rI0 fun i j=>.bl (g i j)):=by
 intro pins s σ H x y v u Q I rx ry h
 obtain ⟨i,j,rfl,rfl,q⟩:=h
 obtain ⟨t,rfl⟩:=rx
 obtain ⟨t',rfl⟩:=ry
 exact rule i j t t' s _ _ ⟨.bl (g i j),H,I,rfl,q⟩
def bG7 (i j:Int):Prop:=0≤j∧j≤1000000∧i.natAbs < 2 ^ 64
theorem G8:OpR X (binaryOp .Add) (rI0 fun i j=>.int (i + j)):=bw9 fun _ _ _ _ _ _ _ q=>add_int q
theorem N0:OpR X (binaryOp .Sub) (rI0 fun i j=>.int (i - j)):=bw9 fun _ _ _ _ _ _ _ q=>sub_int q
theorem O3:OpR X (binaryOp .Mod) (rI (fun _ j=>j ≠ 0) fun i j=>.int (i.fmod j)):=opI fun _ _ _ _ _ _ _ hc q=>mod_int' hc q
theorem ab5:OpR X (binaryOp .Pow) (rI bG7 fun i j=>.int (i ^ j.toNat)):=opI fun _ _ _ _ _ _ _ hc q=>pow_int_small hc.1 hc.2.1 hc.2.2 q
theorem bw8:OpR X (binaryOp .BitAnd) (rI0 fun i j=>.int (Builtin.bitAnd i j)):=bw9 fun _ _ _ _ _ _ _ q=>and_int q
theorem unI {f:Value→Sem Value} {g:Int→Int}
  (rule:∀ (i:Int) (t:Tok) (s:Shared) (Q:Value→Shared→Prop) (E:Value→Shared→Prop),Q (.int (g i) s.toks) { s with toks:=s.toks + 1 }→wpAny (model X.prog X.w) X.A (f (.int i t)) Q E s) :
  UnR X f (rU fun i=>.int (g i)):=by
 intro pins s σ H x v Q I rx h
 obtain ⟨i,rfl,q⟩:=h
 obtain ⟨t,rfl⟩:=rx
 exact rule i t s _ _ ⟨.int (g i),H,I.tok _,⟨_,rfl⟩,q⟩
theorem J4:UnR X (unaryOp .USub) (rU fun i=>.int (-i)):=unI fun _ _ _ _ _ q=>neg_int q
end
def bl1:V→V→Bool
 | .non,.non=>true | .non,.int _=>true | .int _,.non=>true | .non,.bl _=>true | .bl _,.non=>true | .non,.str _=>true | .str _,.non=>true
 | .int _,.int _=>true | .bl _,.bl _=>true | .str _,.str _=>true | .byt _,.byt _=>true
 | .int _,.str _=>true | .str _,.int _=>true | .bl _,.str _=>true | .str _,.bl _=>true
 | _,_=>false
def rEq:R2:=fun x y H Q=>bl1 x y=true∧Q (.bl (decide (x=y))) H
def rNe:R2:=fun x y H Q=>bl1 x y=true∧Q (.bl (!decide (x=y))) H
theorem aS7 {i j:Int}:decide (V.int i=V.int j)=(i == j):=by
 rw [Bool.eq_iff_iff]
 simp
theorem bh4 {i j:Bool}:decide (V.bl i=V.bl j)=(i == j):=by
 rw [Bool.eq_iff_iff]
 simp
theorem aS6 {i j:Str}:decide (V.str i=V.str j)=(i == j):=by
 rw [Bool.eq_iff_iff]
 simp
theorem aS8 {i j:Array UInt8}:decide (V.byt i=V.byt j)=(i.toList == j.toList):=by
 rw [Bool.eq_iff_iff]
 cases i
 cases j
 simp
section
variable {X:Cx} {a b c:Expr} {ta tb tc:TE} {pos:Pos}
theorem x6 {pins:List (Addr × Obj)} {σ:St} {H:Hp} {s:Shared} {Q:VK} {k k':Bool} (I:Inv X pins σ H s) (q:Q (.bl k) H) (e:k=k'):EP X pins σ Q (.bool k') s:=by
 subst e
 exact ⟨.bl k,H,I,rfl,q⟩
theorem aa1:OpR X (compareOp .Eq) rEq:=by
 intro pins s σ H x y v u Q I rx ry h
 obtain ⟨hs,q⟩:=h
 cases x with
 | non =>
  cases rx
  cases y with
  | non=>cases ry;exact PySem.EqNone.eq_none_none (x6 I q (by simp))
  | bl j=>cases ry;exact PySem.EqNone.eq_none_bool (x6 I q (by simp))
  | int j=>obtain ⟨t',rfl⟩:=ry;exact PySem.EqNone.eq_none_int (x6 I q (by simp))
  | str j=>obtain ⟨t',rfl⟩:=ry;exact PySem.EqNone.eq_none_str (x6 I q (by simp))
  | _=>exact absurd (show false=true from hs) Bool.false_ne_true
 | bl i =>
  cases rx
  cases y with
  | non=>cases ry;exact PySem.EqNone.eq_bool_none (x6 I q (by simp))
  | bl j=>cases ry;exact eq_bool (x6 I q bh4)
  | str j=>obtain ⟨t',rfl⟩:=ry;exact PySem.EqMixed.eq_bool_str (x6 I q (by simp))
  | _=>exact absurd (show false=true from hs) Bool.false_ne_true
 | int i =>
  obtain ⟨t,rfl⟩:=rx
  cases y with
  | non=>cases ry;exact PySem.EqNone.eq_int_none (x6 I q (by simp))
  | int j=>obtain ⟨t',rfl⟩:=ry;exact eq_int (x6 I q aS7)
  | str j=>obtain ⟨t',rfl⟩:=ry;exact PySem.EqMixed.eq_int_str (x6 I q (by simp))
  | _=>exact absurd (show false=true from hs) Bool.false_ne_true
 | str i =>
  obtain ⟨t,rfl⟩:=rx
  cases y with
  | non=>cases ry;exact PySem.EqNone.eq_str_none (x6 I q (by simp))
  | bl j=>cases ry;exact PySem.EqMixed.eq_str_bool (x6 I q (by simp))
  | int j=>obtain ⟨t',rfl⟩:=ry;exact PySem.EqMixed.eq_str_int (x6 I q (by simp))
  | str j=>obtain ⟨t',rfl⟩:=ry;exact eq_str (x6 I q aS6)
  | _=>exact absurd (show false=true from hs) Bool.false_ne_true
 | byt i =>
  obtain ⟨t,rfl⟩:=rx
  cases y with
  | byt j=>obtain ⟨t',rfl⟩:=ry;exact PySem.W.eq_bytes (x6 I q aS8)
  | _=>exact absurd (show false=true from hs) Bool.false_ne_true
 | _=>cases y <;> exact absurd (show false=true from hs) Bool.false_ne_true
theorem br7:OpR X (compareOp .NotEq) rNe:=by
 intro pins s σ H x y v u Q I rx ry h
 obtain ⟨hs,q⟩:=h
 cases x with
 | non =>
  cases rx
  cases y with
  | non=>cases ry;exact PySem.EqNone.ne_none_none (x6 I q (by simp))
  | bl j=>cases ry;exact PySem.EqNone.ne_none_bool (x6 I q (by simp))
  | int j=>obtain ⟨t',rfl⟩:=ry;exact PySem.EqNone.ne_none_int (x6 I q (by simp))
  | str j=>obtain ⟨t',rfl⟩:=ry;exact PySem.EqNone.ne_none_str (x6 I q (by simp))
  | _=>exact absurd (show false=true from hs) Bool.false_ne_true
 | bl i =>
  cases rx
  cases y with
  | non=>cases ry;exact PySem.EqNone.ne_bool_none (x6 I q (by simp))
  | bl j=>cases ry;exact ne_bool (x6 I q (congrArg not bh4))
  | str j=>obtain ⟨t',rfl⟩:=ry;exact PySem.EqMixed.ne_bool_str (x6 I q (by simp))
  | _=>exact absurd (show false=true from hs) Bool.false_ne_true
 | int i =>
  obtain ⟨t,rfl⟩:=rx
  cases y with
  | non=>cases ry;exact PySem.EqNone.ne_int_none (x6 I q (by simp))
  | int j=>obtain ⟨t',rfl⟩:=ry;exact ne_int (x6 I q (congrArg not aS7))
  | str j=>obtain ⟨t',rfl⟩:=ry;exact PySem.EqMixed.ne_int_str (x6 I q (by simp))
  | _=>exact absurd (show false=true from hs) Bool.false_ne_true
 | str i =>
  obtain ⟨t,rfl⟩:=rx
  cases y with
  | non=>cases ry;exact PySem.EqNone.ne_str_none (x6 I q (by simp))
  | bl j=>cases ry;exact PySem.EqMixed.ne_str_bool (x6 I q (by simp))
  | int j=>obtain ⟨t',rfl⟩:=ry;exact PySem.EqMixed.ne_str_int (x6 I q (by simp))
  | str j=>obtain ⟨t',rfl⟩:=ry;exact ne_str (x6 I q (congrArg not aS6))
  | _=>exact absurd (show false=true from hs) Bool.false_ne_true
 | byt i =>
  obtain ⟨t,rfl⟩:=rx
  cases y with
  | byt j=>obtain ⟨t',rfl⟩:=ry;exact PySem.W.ne_bytes (x6 I q (congrArg not aS8))
  | _=>exact absurd (show false=true from hs) Bool.false_ne_true
 | _=>cases y <;> exact absurd (show false=true from hs) Bool.false_ne_true
theorem ae4:OpR X (compareOp .Lt) (rI0 fun i j=>.bl (decide (i < j))):=bm7 fun _ _ _ _ _ _ _ q=>lt_int q
theorem br8:OpR X (compareOp .LtE) (rI0 fun i j=>.bl (decide (i≤j))):=bm7 fun _ _ _ _ _ _ _ q=>le_int q
theorem al4:OpR X (compareOp .Gt) (rI0 fun i j=>.bl (decide (j < i))):=bm7 fun _ _ _ _ _ _ _ q=>gt_int q
theorem bc5:OpR X (compareOp .GtE) (rI0 fun i j=>.bl (decide (j≤i))):=bm7 fun _ _ _ _ _ _ _ q=>ge_int q
theorem aC7:OpR X (compareOp .Is) (fun x y H Q=>y=.non∧Q (.bl (decide (x=.non))) H):=by
 intro pins s σ H x y v u Q I rx ry h
 obtain ⟨rfl,q⟩:=h
 cases ry
 refine is_none_gen (x6 I q ?_)
 cases x <;> first
  | (cases rx;rfl)
  | (obtain ⟨t,rfl⟩:=rx;rfl)
theorem ao4:OpR X (compareOp .IsNot) (fun x y H Q=>y=.non∧Q (.bl (!decide (x=.non))) H):=by
 intro pins s σ H x y v u Q I rx ry h
 obtain ⟨rfl,q⟩:=h
 cases ry
 refine isnot_none_gen (x6 I q ?_)
 cases x <;> first
  | (cases rx;rfl)
  | (obtain ⟨t,rfl⟩:=rx;rfl)
theorem n5 (b:Expr) {op:CmpOp} (h:op ≠ .In:=by decide) (h2:op ≠ .NotIn:=by decide):behindInMarks op b=false:=by
 have e1:(op == CmpOp.In)=false:=by cases op <;> first | rfl | exact absurd rfl h
 have e2:(op == CmpOp.NotIn)=false:=by cases op <;> first | rfl | exact absurd rfl h2
 cases b <;> simp [behindInMarks,e1,e2]
theorem O2 {op:CmpOp} {r:R2} (ho:OpR X (compareOp op) r) (ha:PE X a ta) (hb:PE X b tb) (hm:behindInMarks op b=false):PE X (.Compare a [op] [b] pos) (tOp r ta tb):=by
 intro pins s σ H Q I h
 exact wpAny_Compare1 (bB1 ha hb I h fun v u s2 x y H2 I2 rx ry q=>ho pins s2 σ H2 x y v u Q I2 rx ry q) hm
def aP3 (t:TE):TT:=fun σ H Q=>t σ H fun x H' => ∃ k,x=.bl k∧Q k H'
theorem p5 {op:CmpOp} {r:R2} (ho:OpR X (compareOp op) r) (ha:PE X a ta) (hb:PE X b tb) (hm:behindInMarks op b=false):PT X (.Compare a [op] [b] pos) (aP3 (tOp r ta tb)):=by
 intro pins s σ H Q I h
 refine wpAny_isTrue_Compare1 (thn (ha pins s σ H _ I h) fun v s1 ⟨x,H1,I1,r1,q1⟩=>thn (hb pins s1 σ H1 _ I1 q1) fun u s2 ⟨y,H2,I2,r2,q2⟩ =>
  thn (ho pins s2 σ H2 x y v u _ I2 r1 r2 q2) fun c s3 ⟨z,H3,I3,r3,k,e,q3⟩=>?_) hm
 subst e
 cases r3
 exact wpAny_truthy_bool ⟨H3,I3,q3⟩
def av6 (K:PySem.W.Frag) (x:V) (H:Hp) (k:Bool):Prop :=
 match x with
 | .non=>k=false
 | .bl b=>k=b
 | .int i=>k=(i != 0)
 | .str y=>y.length≤sizeLine∧k=((y.length:Int) != 0)
 | .byt y=>y.size≤sizeLine∧k=((y.size:Int) != 0)
 | .ref p=>(∃ xs,SqL K H p xs∧k = !xs.isEmpty) ∨ (∃ xs,SqT K H p xs∧k = !xs.isEmpty) ∨ ∃ kvs,H p=some (.dK kvs)∧k = !kvs.isEmpty
 | _=>False
theorem aM9 {κ:Type} {kvs:List (κ × V)} {vs:List (κ × Value)} (r:KV kvs vs):(!vs.isEmpty) = !kvs.isEmpty:=by
 cases r <;> rfl
theorem ar8 {xs:List V} {its:List Value} (r:t8 xs its):(!its.toArray.isEmpty) = !xs.isEmpty:=by
 cases r <;> simp
theorem af7:(sizeLine:Nat) < 2 ^ 63:=by rw [sizeLine_eq];decide
theorem aY5:bG5 X (fun x H Q => ∃ k,av6 X.K x H k∧Q k H):=by
 intro pins s σ H x v Q I rx h
 obtain ⟨k,e,q⟩:=h
 have hl:=af7
 have hs:sizeLine=16777216:=sizeLine_eq
 cases x with
 | non =>
  cases rx
  have e':k=false:=e
  subst e'
  exact truthy_none ⟨H,I,q⟩
 | bl b =>
  cases rx
  have e':k=b:=e
  subst e'
  exact wpAny_truthy_bool ⟨H,I,q⟩
 | int i =>
  obtain ⟨t,rfl⟩:=rx
  have e':k=(i != 0):=e
  subst e'
  exact PySem.P.truthy_int ⟨H,I,q⟩
 | str y =>
  obtain ⟨t,rfl⟩:=rx
  obtain ⟨hy,e'⟩:y.length≤sizeLine∧k=((y.length:Int) != 0):=e
  subst e'
  exact PySem.P.truthy_str (by omega) ⟨H,I.tok _,q⟩
 | byt y =>
  obtain ⟨t,rfl⟩:=rx
  obtain ⟨hy,e'⟩:y.size≤sizeLine∧k=((y.size:Int) != 0):=e
  subst e'
  exact PySem.W.truthy_bytes (by omega) ⟨H,I.tok _,q⟩
 | ref p =>
  cases rx
  have e':(∃ xs,SqL X.K H p xs∧k = !xs.isEmpty) ∨ (∃ xs,SqT X.K H p xs∧k = !xs.isEmpty) ∨ ∃ kvs,H p=some (.dK kvs)∧k = !kvs.isEmpty:=e
  rcases e' with ⟨xs,hx,e'⟩ | ⟨xs,hx,e'⟩ | ⟨kvs,hx,e'⟩
  ·subst e'
   obtain ⟨its,r,pl,hz⟩:=I.list hx
   have hlen:=r.length
   exact wpAny_truthy_list pl.isList (by simp only [List.size_toArray];omega) ⟨H,I.tok _,by rw [ar8 r];exact q⟩
  ·subst e'
   obtain ⟨its,r,pl,hz⟩:=I.tuple hx
   have hlen:=r.length
   exact truthy_tuple pl (by simp only [List.size_toArray];omega) ⟨H,I.tok _,by rw [ar8 r];exact q⟩
  ·subst e'
   obtain ⟨hz,hS,vs,r,m⟩:kvs.length≤sizeLine∧(p == sysModules)=false∧∃ vs,KV kvs vs∧s.heap.DictOf (aD8 X.prog X.w) p vs:=I.hok p _ hx
   have hlen:kvs.length=vs.length:=Paired.length r
   exact wpAny_truthy_dict hS m (by omega) ⟨H,I.tok _,by rw [aM9 r];exact q⟩
 | _=>exact (show False from e).elim
theorem ab3 (ha:PE X a ta) (he:∀ whole,isTrue a X.env whole=(do let v ← whole;standAt a.pos;holding [v] (truthy v))) :
  PT X a (fun σ H Q=>ta σ H fun x H' => ∃ k,av6 X.K x H' k∧Q k H'):=by
 intro pins s σ H Q I h
 exact isTrue_plain (thn (ha pins s σ H _ I h) fun v s1 ⟨x,H1,I1,r1,q1⟩=>aY5 pins s1 σ H1 x v Q I1 r1 q1) (he _)
theorem ap1 {x:V} {us:List Value} (r:t8 [x] us):∃ u,us=[u]∧A7 x u:=by
 cases r with
 | cons r1 r2=>cases r2;exact ⟨_,rfl,r1⟩
theorem bq7 {x y:V} {us:List Value} (r:t8 [x,y] us):∃ u w',us=[u,w']∧A7 x u∧A7 y w':=by
 cases r with
 | cons r1 r2 =>
  cases r2 with
  | cons r3 r4=>cases r4;exact ⟨_,_,rfl,r1,r3⟩
theorem V3:ae9 X (.builtin "abs") (fun xs H Q => ∃ i,xs=[.int i]∧Q (.int (if i < 0 then -i else i)) H):=by
 intro pins s σ H xs us Q I r h
 obtain ⟨i,rfl,q⟩:=h
 obtain ⟨u,rfl,t,rfl⟩:=ap1 r
 exact call_abs_int fun u tk=>⟨.int (if i < 0 then -i else i),H,I.tok _,⟨_,rfl⟩,q⟩
theorem az0 (hc:X.calm=true):ae9 X (.builtin "max") (fun xs H Q => ∃ i j,xs=[.int i,.int j]∧Q (.int (if j > i then j else i)) H):=by
 intro pins s σ H xs us Q I r h
 obtain ⟨i,j,rfl,q⟩:=h
 obtain ⟨u,w',rfl,⟨t,rfl⟩,⟨t',rfl⟩⟩:=bq7 r
 refine max_two_ints (I.ok.hd hc) fun h' tk k=>⟨_,H,I.kept k,?_,q⟩
 by_cases hj:j > i
 ·rw [if_pos hj,if_pos hj];exact ⟨_,rfl⟩
 ·rw [if_neg hj,if_neg hj];exact ⟨_,rfl⟩
theorem aX3 (hc:X.calm=true):ae9 X (.builtin "min") (fun xs H Q => ∃ i j,xs=[.int i,.int j]∧Q (.int (if j < i then j else i)) H):=by
 intro pins s σ H xs us Q I r h
 obtain ⟨i,j,rfl,q⟩:=h
 obtain ⟨u,w',rfl,⟨t,rfl⟩,⟨t',rfl⟩⟩:=bq7 r
 refine min_two_ints (I.ok.hd hc) fun h' tk k=>⟨_,H,I.kept k,?_,q⟩
 by_cases hj:j < i
 ·rw [if_pos hj,if_pos hj];exact ⟨_,rfl⟩
 ·rw [if_neg hj,if_neg hj];exact ⟨_,rfl⟩
theorem ad6:ae9 X (.type "int") (fun xs H Q=>(∃ i,xs=[.int i]∧Q (.int i) H) ∨ ∃ k,xs=[.bl k]∧Q (.int (if k then 1 else 0)) H):=by
 intro pins s σ H xs us Q I r h
 rcases h with ⟨i,rfl,q⟩ | ⟨k,rfl,q⟩
 ·obtain ⟨u,rfl,t,rfl⟩:=ap1 r
  exact call_int_int ⟨.int i,H,I,⟨_,rfl⟩,q⟩
 ·obtain ⟨u,rfl,r1⟩:=ap1 r
  cases r1
  exact call_int_bool ⟨.int (if k then 1 else 0),H,I.tok _,⟨_,rfl⟩,q⟩
end
structure bB8 (h:Heap) (x dx C:Addr) (mA:Str→Option Value):Prop where
 obj:h.get? x=some (PySem.W.instObj C dx)
 ns:h.Ns1 dx mA
 ne:dx ≠ x
theorem aV5 {h:Heap} {dx:Addr} {mA:Str→Option Value} (n:h.Ns1 dx mA):∃ od,h.get? dx=some od∧∀ name,PySem.W.lookIn name od=some (mA name):=by
 obtain ⟨o,es,ep,ho,hd,hk,_,hm⟩:=n
 refine ⟨o,ho,fun name=>?_⟩
 have e:=hm name
 unfold nsFind findBy at e
 rw [← Array.find?_toList] at e
 unfold PySem.W.lookIn
 rw [hd]
 dsimp only
 split
 ·rename_i y q
  rw [q] at e
  exact congrArg some e
 ·rename_i q
  rw [q] at e
  have a:es.toList.any (·.refKey)=false:=by
   rw [List.any_eq_false]
   intro y hy
   obtain ⟨z,t,hkey⟩:=hk y (Array.mem_toList_iff.mp hy)
   simp [DictEntry.refKey,hkey]
  have a':¬ es.toList.any (·.refKey)=true:=by rw [a];exact Bool.false_ne_true
  rw [if_neg a']
  exact congrArg some e
theorem bB8.look {h:Heap} {x dx C:Addr} {mA:Str→Option Value} (I:bB8 h x dx C mA):∃ od,PySem.W.InstAt h x (PySem.W.instObj C dx) C (some od)∧∀ name,PySem.W.lookIn name od=some (mA name) :=
 let ⟨od,ho,hl⟩:=aV5 I.ns
 ⟨od,⟨I.obj,rfl,rfl,ho⟩,hl⟩
section
variable {P:Program} {w:World} {H H':Hp} {h h':Heap} {a C dx:Addr} {fs fs':List (Str × V)}
theorem bn7 (hok:HOk P w H h) (e:H a=some (.ins C dx fs)):∃ mA,bB8 h a dx C mA∧(∀ f,bB4 (fs.lookup f) (mA f))∧PySem.Within mA (fs.map (·.1))∧fs.length≤1000∧H dx=some (.own a):=by
 obtain ⟨d,z,ne,ob,mA,n,r,q⟩:=(show G2 P w H h a (.ins C dx fs) from hok a _ e)
 exact ⟨mA,⟨ob,n,ne⟩,r,q,z,d⟩
end
structure Cls (K:PySem.W.Frag) (C:Addr):Prop where
 pg:PySem.W.plainGet K C Str.empty=true
 hd:PySem.W.hasDictIn K C=true
 po:PySem.W.plainOver K C=true
 sa:PySem.W.findIn K (.ref C) "__setattr__" = some (some (.builtin "object.__setattr__"))
theorem Cls.get {K:PySem.W.Frag} {C:Addr} (c:Cls K C) (f:Str):PySem.W.plainGet K C f=true:=c.pg
structure Con (K:PySem.W.Frag) (C:Addr) (f:Str) (v:V) (u:Value):Prop where
 at_:PySem.W.findIn K (.ref C) f=some (some u)
 rel:A7 v u
 get:PySem.W.specialIn K u "__get__" = some none
 cp:PySem.W.copiedNames.contains f=false
structure Meth (K:PySem.W.Frag) (C:Addr) (m:Str) (f:Addr):Prop where
 at_:PySem.W.findIn K (.ref C) m=some (some (.ref f))
 fn:PySem.W.isFn K (.ref f)=true
 kp:PySem.W.keepIn K (.ref f)=true
section
variable {X:Cx} {pins:List (Addr × Obj)} {σ:St} {H:Hp} {s:Shared} {A:Around} {E:Value→Shared→Prop} {Q:Value→Shared→Prop} {c:Value} {b:Bool}
inductive ak9 (K:PySem.W.Frag) (H:Hp):V→Value→Prop where
 | non:ak9 K H .non (.type "NoneType")
 | bl (x:Bool):ak9 K H (.bl x) (.type "bool")
 | int (i:Int):ak9 K H (.int i) (.type "int")
 | str (x:Str):ak9 K H (.str x) (.type "str")
 | flt (x:UInt64):ak9 K H (.flt x) (.type "float")
 | lst {a:Addr} {xs:List V} (e:H a=some (.lst xs)):ak9 K H (.ref a) (.type "list")
 | frz {a:Addr} {o:Obj} {xs:List V} (e:H a=some (.frz o (.lst xs))):ak9 K H (.ref a) (.type "list")
 | tup {a:Addr} {xs:List V} (e:H a=some (.tup xs)):ak9 K H (.ref a) (.type "tuple")
 | dK {a:Addr} {kvs:List (Key × V)} (e:H a=some (.dK kvs)):ak9 K H (.ref a) (.type "dict")
 | dT {a:Addr} {kvs:List (List Key × V)} (e:H a=some (.dT kvs)):ak9 K H (.ref a) (.type "dict")
 | ins {a C dx:Addr} {fs:List (Str × V)} (e:H a=some (.ins C dx fs)) (cl:Cls K C) (ha:PySem.W.findIn K (.ref C) "__class__" = some (some (.builtin "object.__class__")))
   (hn:PySem.W.specialIn K (.builtin "object.__class__") "__get__" = some (some (.builtin "getset_descriptor.__get__"))) (htk:PySem.W.takesIn K (.builtin "object.__class__")=some true)
   (hm:PySem.W.mroIn K C (.type "object")=some true):ak9 K H (.ref a) (.ref C)
theorem aV8 {x:V} {u t:Value} (I:Inv X pins σ H s) (rx:A7 x u) (ty:ak9 X.K H x t) (e:PySem.W.kitOne X.K t c=some b) (h:∀ tk,Q (.bool b) { s with toks:=tk }) :
  wpAny (model X.prog X.w) A (call (.builtin "isinstance") [u,c]) Q E s:=by
 cases ty with
 | non=>cases (show u=Value.none from rx);exact PySem.W.kia_one PySem.W.kitx_none I.kIn True.intro e (fun z=>nomatch z) h
 | bl y=>cases (show u=Value.bool y from rx);exact PySem.W.kia_one PySem.W.kitx_bool I.kIn True.intro e (fun z=>nomatch z) h
 | int i=>obtain ⟨t,q⟩:=(show ∃ t,u=Value.int i t from rx);cases q;exact PySem.W.kia_one PySem.W.kitx_int I.kIn True.intro e (fun z=>nomatch z) h
 | str y=>obtain ⟨t,q⟩:=(show ∃ t,u=Value.str y t from rx);cases q;exact PySem.W.kia_one PySem.W.kitx_str I.kIn True.intro e (fun z=>nomatch z) h
 | flt y=>obtain ⟨t,q⟩:=(show ∃ t,u=Value.float y t from rx);cases q;exact PySem.W.kia_one PySem.W.kitx_float I.kIn True.intro e (fun z=>nomatch z) h
 | @lst a xs ea =>
  cases (show u=Value.ref a from rx)
  obtain ⟨_,_,n,_,h1⟩:=(show G2 X.prog X.w H s.heap a (.lst xs) from I.hok a _ ea)
  exact PySem.W.kia_one PySem.W.kitx_list I.kIn ⟨_,h1,rfl⟩ e (fun z=>nomatch z) h
 | @frz a ob xs ea =>
  cases (show u=Value.ref a from rx)
  obtain ⟨_,_,_,n,_,h1⟩:=(show G2 X.prog X.w H s.heap a (.frz ob (.lst xs)) from I.hok a _ ea)
  exact PySem.W.kia_one PySem.W.kitx_list I.kIn ⟨_,h1,rfl⟩ e (fun z=>nomatch z) h
 | @tup a xs ea =>
  cases (show u=Value.ref a from rx)
  obtain ⟨_,_,_,p⟩:=(show G2 X.prog X.w H s.heap a (.tup xs) from I.hok a _ ea)
  obtain ⟨o,h1,h2,_⟩:=p
  exact PySem.W.kia_one PySem.W.kitx_tuple I.kIn ⟨o,h1,h2⟩ e (fun z=>nomatch z) h
 | @dK a kvs ea =>
  cases (show u=Value.ref a from rx)
  obtain ⟨_,_,vs,_,p⟩:=(show G2 X.prog X.w H s.heap a (.dK kvs) from I.hok a _ ea)
  obtain ⟨o,es,ep,h1,h2,_⟩:=p
  exact PySem.W.kia_one PySem.W.kitx_dict I.kIn ⟨o,h1,h2.1⟩ e (fun z=>nomatch z) h
 | @dT a kvs ea =>
  cases (show u=Value.ref a from rx)
  obtain ⟨_,_,xs,_,o,es,ep,h1,h2,_⟩:=(show G2 X.prog X.w H s.heap a (.dT kvs) from I.hok a _ ea)
  exact PySem.W.kia_one PySem.W.kitx_dict I.kIn ⟨o,h1,h2.1⟩ e (fun z=>nomatch z) h
 | @ins a C dx fs ea cl ha hn htk hm =>
  cases (show u=Value.ref a from rx)
  obtain ⟨mA,O,_⟩:=bn7 I.hok ea
  obtain ⟨od,J,_⟩:=O.look
  exact PySem.W.kia_one (PySem.W.kitx_own (cl.get _) cl.hd ha hn htk hm) I.kIn J e (fun z=>nomatch z) h
end
structure V6 (k:Nat) (A:Around):Prop where
 hd:A.handled=none
 dp:A.depth + 3 * k + 5 < recursionLimit
 un:A.units + 16 * k + 200 < cLine
theorem V6.mono {j k:Nat} {A:Around} (r:V6 k A) (h:j≤k):V6 j A:=⟨r.hd,by have:=r.dp;omega,by have:=r.un;omega⟩
theorem V6.deeper {k:Nat} {A:Around} (r:V6 (k + 1) A) (env:Env):V6 k (A.deeper env) :=
 ⟨r.hd,by have:=r.dp;show A.depth + 1 + 3 * k + 5 < _;omega,by have:=r.un;show A.units + 3 + 16 * k + 200 < _;omega⟩
theorem V6.depth {k:Nat} {A:Around} (r:V6 k A):A.depth < recursionLimit:=by have:=r.dp;omega
theorem V6.units {k:Nat} {A:Around} (r:V6 k A):A.units + 64 < cLine:=by have:=r.un;omega
def aU0:TA:=fun _ H Q=>Q [] H
def ap4 (ta:TE) (tr:TA):TA:=fun σ H Q=>ta σ H fun x H1=>tr σ H1 fun xs H2=>Q (x :: xs) H2
section
variable {X:Cx} {e:Expr} {es:List Expr} {te:TE} {t:TA} {pos:Pos}
theorem b9:PA X [] aU0:=fun _ _ _ _ H Q I h=>Calls.spliced_nil ⟨[],H,I,.nil,h⟩
theorem b7 (ha:PE X e te) (hr:PA X es t) (hs:starEach (e :: es) X.env=(false,eval e X.env) :: starEach es X.env:=by rfl):PA X (e :: es) (ap4 te t):=by
 intro pos pins s σ H Q I h
 rw [hs]
 show wpAny _ _ (spliced ((false,eval e X.env) :: backTo pos (starEach es X.env))) _ _ s
 refine Calls.spliced_cons (thn (ha pins s σ H _ I h) fun u s1 ⟨x,H1,I1,r1,q1⟩=>?_)
 exact thn (hr pos pins s1 σ H1 _ I1 q1) fun us s2 ⟨xs,H2,I2,r2,q2⟩=>⟨x :: xs,H2,I2,.cons r1 r2,q2⟩
def bt5 (t:TA):TE:=fun σ H Q=>t σ H fun xs H1=>xs.length≤sizeLine∧∀ p,H1 p=none→Q (.ref p) (upd H1 p (.tup xs))
def bt9 (t:TA):TE:=fun σ H Q=>t σ H fun xs H1=>xs.length≤sizeLine∧∀ p,H1 p=none→Q (.ref p) (upd H1 p (.lst xs))
theorem w8 {x1} (h:PA X es t):PE X (.Tuple es x1 pos) (bt5 t):=by
 intro pins s σ H Q I hq
 refine wpAny_Tuple_spliced (thn (h pos pins s σ H _ I hq) fun us s1 ⟨xs,H1,I1,r,z,q⟩=>⟨by rw [← r.length];exact z,?_⟩)
 have hf:H1 s1.heap.objs.size=none:=I1.hok.fresh (Nat.le_refl _)
 refine ⟨.ref s1.heap.objs.size,upd H1 s1.heap.objs.size (.tup xs),I1.laid (t':=s1.toks) (fun b u e=>Heap.get?_push_of_some _ e) (Nat.le_refl _) ?_,rfl,q _ hf⟩
 exact ⟨z,us,r,⟨_,Heap.get?_push_size _ rfl,rfl,_,rfl⟩⟩
theorem C4 (h:PA X es t):PE X (.List es pos) (bt9 t):=by
 intro pins s σ H Q I hq
 refine wpAny_List_spliced (thn (h pos pins s σ H _ I hq) fun us s1 ⟨xs,H1,I1,r,z,q⟩=>⟨by rw [← r.length];exact z,?_⟩)
 have hf:H1 s1.heap.objs.size=none:=I1.hok.fresh (Nat.le_refl _)
 refine ⟨.ref s1.heap.objs.size,upd H1 s1.heap.objs.size (.lst xs),I1.laid (t':=s1.toks) (fun b u e=>Heap.get?_push_of_some _ e) (Nat.le_refl _) ?_,rfl,q _ hf⟩
 exact ⟨z,us,0,r,Heap.get?_push_size _ rfl⟩
end
abbrev Sp:=List V→Hp→VK→XK→Prop
abbrev CXT:=List Env→Hp→Shared→XK→Value→Shared→Prop
structure aX9 (P:Program) (w:World) (K:PySem.W.Frag) (mg:Str→Option Value) (base:Heap) (A:Around) (outer:List Env) (s:Shared) (H:Hp):Prop where
 frames:A.frames=some outer
 mod:Mod K mg base
 bs:∀ b o,base.get? b=some o→s.heap.get? b=some o∧H b=none
 bsz:base.objs.size≤s.heap.objs.size
 funs:s.heap.FunFrames base outer
 frf:∀ b ∈ frs outer,H b=none
 hok:HOk P w H s.heap
 bare:AllBare s.gens
def CE (outer:List Env) (P:Program) (w:World) (H:Hp) (s:Shared) (Q:VK) (u:Value) (s':Shared):Prop :=
 ∃ v H',s'.os=s.os∧AllBare s'.gens∧Un (frs outer) [] H H' s.heap s'.heap∧HOk P w H' s'.heap∧A7 v u∧Q v H'
def CR (CX:CXT) (outer:List Env) (P:Program) (w:World) (H:Hp) (s:Shared) (Q:VK) (E:XK) (r:Result) (s':Shared):Prop :=
 match r with
 | .ok (.ret u)=>CE outer P w H s Q u s'
 | .ok _=>False
 | .error e=>CX outer H s E e s'
structure ai9 (P:Program) (w:World) (K:PySem.W.Frag) (mg:Str→Option Value) (base:Heap) (CX:CXT) (k:Nat) (f:Addr) (fd:FuncData) (ps:List Str) (sp:Sp):Prop where
 len:∀ vs H Q E,sp vs H Q E→vs.length=ps.length
 run:∀ (A:Around) (outer:List Env) (s:Shared) (H:Hp) (args:Args) (us:List Value) (vs:List V) (Q:VK) (E:XK),V6 k A→aX9 P w K mg base A outer s H→BindsTo s fd args (ps.zip us)→t8 vs us→sp vs H Q E →
  codeAny (model P w) A (.call (.ref f) args) (CR CX outer P w H s Q E) s
theorem ai9.mono {P:Program} {w:World} {K:PySem.W.Frag} {mg:Str→Option Value} {base:Heap} {CX:CXT} {j k:Nat} {f:Addr} {fd:FuncData} {ps:List Str} {sp:Sp} (F:ai9 P w K mg base CX j f fd ps sp) (h:j≤k) :
  ai9 P w K mg base CX k f fd ps sp:=⟨F.len,fun A outer s H args us vs Q E hr=>F.run A outer s H args us vs Q E (hr.mono h)⟩
section
variable {X:Cx} {pins:List (Addr × Obj)} {σ:St} {H:Hp} {s s':Shared}
theorem Inv.env0 (I:Inv X pins σ H s):aX9 X.prog X.w X.K X.mg X.base X.A X.stack s H :=
 ⟨I.ok.frames,I.ok.mod,I.bs,Nat.le_trans I.ok.bsz I.sz,I.stack,I.stkFree,I.hok,I.bare⟩
theorem Inv.after {Q:VK} {u:Value} (I:Inv X pins σ H s) (h:CE X.stack X.prog X.w H s Q u s'):EP X pins σ Q u s':=by
 obtain ⟨v,H',os,bare,un,hok,r,q⟩:=h
 obtain ⟨hh,g,d,t,os'⟩:=s'
 obtain rfl:os'=s.os:=os
 exact ⟨v,H',I.call (h':=hh) (g':=g) (d':=d) (t':=t) (ch:=[]) un hok bare (fun b z=>absurd z (by simp)),r,q⟩
end
def bq9 (sp:Sp) (dvs:List V) (E:XK) (t:TA):TE:=fun σ H Q=>t σ H fun vs H1=>sp (vs ++ dvs) H1 Q E
def ac7 (K:PySem.W.Frag) (fd:FuncData) (ps:List Str) (ds:List Value):Prop :=
 ∀ (s:Shared) (us:List Value),K.In s.heap→(us ++ ds).length=ps.length→BindsTo s fd ⟨us,[]⟩ (ps.zip (us ++ ds))
theorem ac7.all {K:PySem.W.Frag} {fd:FuncData} {ps:List Str} (h:∀ us:List Value,us.length=ps.length→bindArgs fd ⟨us,[]⟩=pure (ps.zip us)):ac7 K fd ps []:=fun s us _ hl=>by
 rw [List.append_nil] at hl ⊢
 exact .of_eq (h us hl)
def at7 (CX:CXT) (X:Cx) (E:XK):Prop:=∀ (pins:List (Addr × Obj)) (σ:St) (H:Hp) (s:Shared) (e:Value) (s':Shared),Inv X pins σ H s→CX X.stack H s E e s'→X.xe e s'
section
variable {X:Cx} {CX:CXT} {k:Nat} {f C:Addr} {fd:FuncData} {ps:List Str} {sp:Sp} {dvs:List V} {ds:List Value} {E:XK} {x m:Str} {p pos apos:Pos} {e o:Expr} {es:List Expr} {ta:TE} {t:TA}
theorem bu9 {pins:List (Addr × Obj)} {σ:St} {H:Hp} {s:Shared} {Q:VK} {us:List Value} {vs:List V} (F:ai9 X.prog X.w X.K X.mg X.base CX k f fd ps sp) (hr:V6 k X.A) (hb:ac7 X.K fd ps ds) (hd:t8 dvs ds) (hx:at7 CX X E)
  (I:Inv X pins σ H s) (r:t8 vs us) (h:sp (vs ++ dvs) H Q E):wpAny (model X.prog X.w) X.A (call (.ref f) us) (EP X pins σ Q) X.xe s:=by
 have r2:t8 (vs ++ dvs) (us ++ ds):=r.append hd
 have hl:(us ++ ds).length=ps.length:=by rw [← r2.length];exact F.len _ _ _ _ h
 refine wpAny_call (codeAny_mono (F.run X.A X.stack s H ⟨us,[]⟩ (us ++ ds) (vs ++ dvs) Q E hr I.env0 (hb s us I.kIn hl) r2 h) fun r s' hq=>?_)
 cases r with
 | error e=>exact hx pins σ H s e s' I hq
 | ok fl =>
  cases fl with
  | ret u=>exact I.after hq
  | next=>exact False.elim hq
  | brk=>exact False.elim hq
  | cont=>exact False.elim hq
theorem bm5 (F:ai9 X.prog X.w X.K X.mg X.base CX k f fd ps sp) (hr:V6 k X.A) (hg:Gl X x) (hm:X.mg x=some (.ref f)) (hk:PySem.W.keepIn X.K (.ref f)=true) (hb:ac7 X.K fd ps ds) (hd:t8 dvs ds) (hx:at7 CX X E)
  (ha:PA X (e :: es) t) (hdb:(x == ("__debug__" : Str))=false:=by decide) (he:starEach (e :: es) X.env=(false,eval e X.env) :: starEach es X.env:=by rfl) (hpl:(backTo pos (starEach es X.env)).any (·.1)=false:=by rfl) :
  PE X (.Call (.Name x p) (e :: es) [] pos) (bq9 sp dvs E t):=by
 intro pins s σ H Q I h
 refine wpAny_Call_Name_kw (ah8 I hg hm ?_ hdb)
 refine PySem.W.callWith_K (h₀:=X.base) I.ok.mod.kin hk (thn (ha pos pins s σ H _ I h) fun us s1 ⟨vs,H1,I1,r,q⟩=>⟨I1.kIn,?_⟩) he hpl
 exact bu9 F hr hb hd hx I1 r q
structure Mk (K:PySem.W.Frag) (C f:Addr):Prop where
 makes:PySem.W.makesIn K C=true
 init:PySem.W.findIn K (.ref C) "__init__" = some (some (.ref f))
 fn:PySem.W.isFn K (.ref f)=true
 kp:PySem.W.keepIn K (.ref C)=true
end
section
variable {X:Cx} {CX:CXT} {k:Nat} {f C:Addr} {fd:FuncData} {ps ks:List Str} {sp:Sp} {E:XK} {x m:Str} {p pos apos kpos:Pos} {e o:Expr} {es:List Expr} {kws:List Keyword} {te ta:TE} {t tk:TA} {nm:Option Str}
structure KBinds (K:PySem.W.Frag) (fd:FuncData) (ps ks:List Str) (g:List Value→List Value→List Value) (gV:List V→List V→List V):Prop where
 to:∀ (s:Shared) (us ws:List Value),K.In s.heap→(g us ws).length=ps.length→BindsTo s fd ⟨us,ks.zip ws⟩ (ps.zip (g us ws))
 rel:∀ {vs:List V} {us:List Value} {zs:List V} {ws:List Value},t8 vs us→t8 zs ws→t8 (gV vs zs) (g us ws)
variable {g:List Value→List Value→List Value} {gV:List V→List V→List V}
end
structure j7 (N P:List Str) (sc:Scope):Prop where
 kind:sc.kind=.function
 co:sc.isCoroutine=false
 gen:sc.isGenerator=false
 nd:N.Nodup
 pre:N.take P.length=P
 par:∀ x ∈ P,sc.names.lookup x=some .local ∨ sc.names.lookup x=some .cell
 nofree:∀ y ∈ sc.names,y.2 ≠ .free
theorem az1 {kindOf:Str→Option NameKind} {x:Str}:∀ {binds:List (Str × Value)} {m:Str→Option Value},(∀ v,(x,v) ∉ binds)→bindL kindOf binds m x=m x
 | [],_,_=>rfl
 | (n,v) :: r,m,h=>by
  unfold bindL
  rw [az1 fun w hw=>h w (List.mem_cons_of_mem _ hw)]
  split
  ·have:x ≠ n:=by rintro rfl;exact h v List.mem_cons_self
   simp [this]
  ·rfl
theorem az3 {kindOf:Str→Option NameKind} {x:Str}:∀ {binds:List (Str × Value)} {m:Str→Option Value},(∀ v,(x,v) ∉ binds)→bindC kindOf binds m x=m x
 | [],_,_=>rfl
 | (n,v) :: r,m,h=>by
  unfold bindC
  rw [az3 fun w hw=>h w (List.mem_cons_of_mem _ hw)]
  split
  ·rfl
  ·have:x ≠ n:=by rintro rfl;exact h v List.mem_cons_self
   simp [this]
theorem az2 {kindOf:Str→Option NameKind} {x:Str} {v:Value}:∀ {P:List Str} {vs:List Value} {i:Nat} {m:Str→Option Value},P.Nodup→P[i]? = some x→vs[i]? = some v→kindOf x=some .local →
  bindL kindOf (P.zip vs) m x=some v
 | [],_,_,_,_,h,_,_=>by simp at h
 | _ :: _,[],_,_,_,_,h,_=>by simp at h
 | p :: P,w :: vs,0,m,nd,h1,h2,hk=>by
  simp at h1 h2;subst h1;subst h2
  show bindL kindOf ((p,w) :: P.zip vs) m p=_
  unfold bindL
  rw [az1 fun v hv=>(List.nodup_cons.mp nd).1 (List.of_mem_zip hv).1,if_pos hk]
  simp
 | p :: P,w :: vs,i + 1,m,nd,h1,h2,hk=>by
  show bindL kindOf ((p,w) :: P.zip vs) m x=_
  unfold bindL
  exact az2 (i:=i) (List.nodup_cons.mp nd).2 (by simpa using h1) (by simpa using h2) hk
theorem az4 {kindOf:Str→Option NameKind} {x:Str} {v:Value}:∀ {P:List Str} {vs:List Value} {i:Nat} {m:Str→Option Value},P.Nodup→P[i]? = some x→vs[i]? = some v→kindOf x ≠ some .local →
  bindC kindOf (P.zip vs) m x=some v
 | [],_,_,_,_,h,_,_=>by simp at h
 | _ :: _,[],_,_,_,_,h,_=>by simp at h
 | p :: P,w :: vs,0,m,nd,h1,h2,hk=>by
  simp at h1 h2;subst h1;subst h2
  show bindC kindOf ((p,w) :: P.zip vs) m p=_
  unfold bindC
  rw [az3 fun v hv=>(List.nodup_cons.mp nd).1 (List.of_mem_zip hv).1,if_neg hk]
  simp
 | p :: P,w :: vs,i + 1,m,nd,h1,h2,hk=>by
  show bindC kindOf ((p,w) :: P.zip vs) m x=_
  unfold bindC
  exact az4 (i:=i) (List.nodup_cons.mp nd).2 (by simpa using h1) (by simpa using h2) hk
def start (N:List Str) (vs:List V):St:=vs.map some ++ List.replicate (N.length - vs.length) none
def ao2 (CX:CXT) (P:Program) (w:World) (K:PySem.W.Frag) (mg:Str→Option Value) (base:Heap) (N:List Str) (qual:Str) (scope:Scope) (f:Addr) (cd:Value) (A:Around) (outer:List Env) (s:Shared) (H:Hp) (E:XK):Cx where
 prog:=P
 w:=w
 K:=K
 mg:=mg
 base:=base
 A:=A.deeper (envOfC qual scope s.heap.objs.size f cd)
 N:=N
 s₀:=s
 H₀:=H
 env:=envOfC qual scope s.heap.objs.size f cd
 outer:=outer
 stack:=envOfC qual scope s.heap.objs.size f cd :: outer
 ex:=[]
 calm:=true
 fn:=fun _=>true
 pn:=[]
 xe:=fun e s'=>wpAny (model P w) (A.deeper (envOfC qual scope s.heap.objs.size f cd)) (leaving (envOfC qual scope s.heap.objs.size f cd) e) (fun _ s''=>CX outer H s E e s'') (fun e' s''=>CX outer H s E e' s'') s'
theorem aK1 {sc:Scope} {n:Nat} {x:Str} (h:sc.names.lookup x=some .cell):∃ c,(cellsFrom n sc.names []).lookup x=some c:=by
 have q:=PySem.W.cellsFrom_some sc.names n [] (.inl h)
 exact Option.isSome_iff_exists.mp q
theorem ay0 {CX:CXT} {P:Program} {w:World} {K:PySem.W.Frag} {mg:Str→Option Value} {base:Heap} {N ps:List Str} {qual:Str} {scope:Scope} {f:Addr} {cd:Value} {A:Around} {outer:List Env} {s s1:Shared} {H:Hp} {E:XK} {us:List Value} {vs:List V}
  (S:j7 N ps scope) (hd:A.handled=none) (e0:aX9 P w K mg base A outer s H) (hl:vs.length=ps.length) (r:t8 vs us)
  (x:InCallC s s.heap.objs.size (bindL (envOfC qual scope s.heap.objs.size f cd).kindOf (ps.zip us) fun _=>none) (cellsFrom (s.heap.objs.size + 1) scope.names []) (bindC (envOfC qual scope s.heap.objs.size f cd).kindOf (ps.zip us) fun _=>none) s1) :
  Inv (ao2 CX P w K mg base N qual scope f cd A outer s H E) [] (start N vs) H s1:=by
 have hpl:ps.length≤N.length:=by have:=congrArg List.length S.pre;rw [List.length_take] at this;omega
 obtain ⟨h1,tk,rfl,hk⟩:=x.done
 have noA:∀ b:Addr,b ∉ (ao2 CX P w K mg base N qual scope f cd A outer s H E).ex:=fun b z=>absurd (show b ∈ ([]:List Addr) from z) (by simp)
 refine ⟨⟨e0.mod,S.kind,rfl,rfl,Nat.le_refl _,fun y z c h1 h2=>?_,fun y hy=>?_,fun y c _ h=>?_,fun _=>hd,Around.frames_deeper e0.frames,.inr ⟨rfl,rfl⟩,fun b z=>absurd z (noA b),e0.bs,e0.bsz,fun b _ _=>noA b,fun b z=>absurd z (noA b),e0.funs,e0.frf⟩,
  rfl,e0.bare,Un.kept hk,⟨_,x.toInCall.ns,fun i y v h1 h2 h3=>?_⟩,fun y c h=>⟨_,x.cell y c h⟩,e0.hok.fresh (Nat.le_refl _),fun y c h=>?_,fun p hp=>absurd (show p ∈ ([]:List (Addr × Obj)) from hp) (by simp),e0.hok.kept hk,?_⟩
 ·exact name_of_addr x.apart (PySem.mem_of_lookup h1) (PySem.mem_of_lookup h2)
 ·have hy:scope.names.lookup y=some .cell ∨ scope.names.lookup y=some .free:=hy
  rcases hy with hy | hy
  ·exact aK1 hy
  ·exact absurd rfl (S.nofree _ (PySem.mem_of_lookup hy))
 ·exact Nat.le_of_lt (x.above y c (PySem.mem_of_lookup h))
 ·have hi:i < vs.length:=by
   unfold start at h2
   by_cases hi:i < vs.length
   ·exact hi
   ·rw [List.getElem?_append_right (by simpa using hi)] at h2
    rw [List.getElem?_replicate] at h2
    split at h2 <;> cases h2
  have ha:vs[i]? = some v:=by
   unfold start at h2
   rw [List.getElem?_append_left (by simpa using hi),List.getElem?_map] at h2
   cases e:vs[i]? with
   | none=>rw [e] at h2;cases h2
   | some a=>rw [e] at h2;cases h2;rfl
  obtain ⟨u,hu,rv⟩:=r.get ha
  have hp:ps[i]? = some y:=by
   rw [← S.pre,List.getElem?_take_of_lt (by omega)];exact h1
  have ndP:ps.Nodup:=by rw [← S.pre];exact S.nd.sublist (List.take_sublist _ _)
  refine ⟨u,rv,?_⟩
  rcases S.par y (List.mem_of_getElem? hp) with k | k
  ·exact .inl ⟨k,az2 ndP hp hu k⟩
  ·obtain ⟨c,e⟩:=aK1 (n:=s.heap.objs.size + 1) k
   refine .inr ⟨.inl k,c,e,?_⟩
   have q:=x.cell y c e
   rw [az4 ndP hp hu (by show scope.names.lookup y ≠ _;rw [k];decide)] at q
   exact q
 ·exact e0.hok.fresh (Nat.le_of_lt (x.above y c (PySem.mem_of_lookup h)))
 ·unfold start
  show _=N.length
  rw [List.length_append,List.length_map,List.length_replicate]
  omega
theorem bs8 {CX:CXT} {P:Program} {w:World} {K:PySem.W.Frag} {mg:Str→Option Value} {base:Heap} {k:Nat} {f:Addr} {name qual:Str} {params:Arguments} {body:List Stmt} {scope:Scope} {dV kV doc pm cdv ct oc:Value} {an od:Option Addr}
  {osl:Array (Option Value)} {N ps:List Str} {sp:Sp} (lk:K.lookup f=some ⟨oc,od,.func (PySem.W.fnOf name qual params body scope dV kV doc pm an cdv ct),osl⟩) (hcd:PySem.W.codeIn K cdv qual=true) (S:j7 N ps scope)
  (len:∀ vs H Q E,sp vs H Q E→vs.length=ps.length)
  (hbody:∀ (A:Around) (outer:List Env) (s:Shared) (H:Hp) (vs:List V) (Q:VK) (E:XK),V6 k (A.deeper (envOfC qual scope s.heap.objs.size f cdv))→sp vs H Q E →
   ∃ t,PSs (ao2 CX P w K mg base N qual scope f cdv A outer s H E) body t∧t { nx:=fun _ H'=>Q .non H',rt:=Q } (start N vs) H) :
  ai9 P w K mg base CX (k + 1) f (PySem.W.fnOf name qual params body scope dV kV doc pm an cdv ct) ps sp:=by
 refine ⟨len,fun A outer s H args us vs Q E hr e0 hb r hsp=>?_⟩
 have hl:=len _ _ _ _ hsp
 have KX:K.In s.heap:=e0.mod.kin.keeps fun b o e=>(e0.bs b o e).1
 have lim:s.heap.NoLimit:=e0.mod.nolimit.keeps fun b o e=>(e0.bs b o e).1
 have hkind:∀ y ∈ ps.zip us,scope.names.lookup y.1=some .local ∨ (scope.names.lookup y.1=some .cell∧((cellsFrom (s.heap.objs.size + 1) scope.names []).lookup y.1).isSome=true):=fun ⟨n,v⟩ hy=>by
  rcases S.par n (List.of_mem_zip hy).1 with q | q
  ·exact .inl q
  ·exact .inr ⟨q,PySem.W.cellsFrom_some _ _ _ (.inl q)⟩
 refine codeAny_call_function hr.depth (KX _ _ lk) rfl S.co S.gen rfl (PySem.W.codeRec_of KX hcd) (hb _ _ _ _ ?_)
 refine wpAny_newFunctionEnv_cells S.kind hkind fun env he s1 x=>?_
 subst he
 refine ⟨lim.keeps x.toInCall.keep,codeAny_func ?_⟩
 obtain ⟨t,ht,hq⟩:=hbody A outer s H vs Q E (hr.deeper _) hsp
 have I:Inv (ao2 CX P w K mg base N qual scope f cdv A outer s H E) [] (start N vs) H s1:=ay0 S hr.hd e0 hl r x
 refine wpAny_mono (ht [] s1 (start N vs) H _ I hq) (fun fl s' hs=>?_) fun e s' hs=>hs
 have fin:∀ {σ':St} {H':Hp} {v:V} {u:Value},Inv (ao2 CX P w K mg base N qual scope f cdv A outer s H E) [] σ' H' s'→A7 v u→Q v H'→CE outer P w H s Q u s' :=
  fun {σ' H' v u} J rv q=>⟨v,H',J.os,J.bare,J.base,J.hok,rv,q⟩
 cases fl with
 | ret u =>
  obtain ⟨v,σ',H',J,rv,q⟩:=hs
  exact fin J rv q
 | next =>
  obtain ⟨σ',H',J,q⟩:=hs
  exact fin (v:=V.non) (u:=Value.none) J rfl q
 | brk =>
  obtain ⟨_,_,_,q⟩:=hs
  exact False.elim q
 | cont =>
  obtain ⟨_,_,_,q⟩:=hs
  exact False.elim q
section
variable {X:Cx} {x:Str} {p pos:Pos} {e:Expr} {es:List Expr} {t:TA} {id T:String} {r:List V→Hp→VK→Prop}
def tCB (r:List V→Hp→VK→Prop) (t:TA):TE:=fun σ H Q=>t σ H fun vs H1=>r vs H1 Q
theorem i9 (hc : ae9 X (.builtin id) r) (hg : Gl X x) (hm : X.mg x = none) (hv : bootBuiltins x = some (.builtin id)) (ha : PA X (e :: es) t) (hn : x ≠ "__name__" := by decide) (hdb : (x == ("__debug__" : Str)) = false := by decide)
    (he : starEach (e :: es) X.env = (false, eval e X.env) :: starEach es X.env := by rfl) (hpl : (backTo pos (starEach es X.env)).any (·.1) = false := by rfl) : PE X (.Call (.Name x p) (e :: es) [] pos) (tCB r t) := by
  intro pins s σ H Q I h
  refine wpAny_Call_Name_kw (af8 I hg hm hv ?_ hn hdb)
  exact PyProof.Rows.callWith_builtin1 (thn (ha pos pins s σ H _ I h) fun us s1 ⟨vs, H1, I1, r1, q1⟩ => hc pins s1 σ H1 vs us Q I1 r1 q1) he hpl
theorem N4 (hc : ae9 X (.type T) r) (hg : Gl X x) (hm : X.mg x = none) (hv : bootBuiltins x = some (.type T)) (ha : PA X (e :: es) t) (hn : x ≠ "__name__" := by decide) (hdb : (x == ("__debug__" : Str)) = false := by decide)
    (he : starEach (e :: es) X.env = (false, eval e X.env) :: starEach es X.env := by rfl) (hpl : (backTo pos (starEach es X.env)).any (·.1) = false := by rfl) : PE X (.Call (.Name x p) (e :: es) [] pos) (tCB r t) := by
  intro pins s σ H Q I h
  refine wpAny_Call_Name_kw (af8 I hg hm hv ?_ hn hdb)
  exact PyProof.Rows.callWith_type1 (thn (ha pos pins s σ H _ I h) fun us s1 ⟨vs, H1, I1, r1, q1⟩ => hc pins s1 σ H1 vs us Q I1 r1 q1) he hpl
end
end L2
namespace HT
open PySem PyProof.Rows
section
open PySem.SeqAt
open PySem.AutoSeq1 (wpAny_loadPart')
open PySem.MeetsSeq PySem.MeetsSeq2 PySem.MeetsSeq3
end
section
variable {prog:Program} {w:World} {A:Around} {E:Value→Shared→Prop} {s:Shared}
def sIx (n d:Nat):Option Int→Nat
 | none=>d
 | some v=>if v < 0 then (v + (n:Int)).toNat else min v.toNat n
end
end HT
namespace L2
open PySem PySem.Spec PyProof.Rows
abbrev TO:=St→Hp→(Option Int→Hp→Prop)→Prop
def PO (X:Cx) (e:Option Expr) (t:TO):Prop :=
 ∀ (pins:List (Addr × Obj)) (s:Shared) (σ:St) (H:Hp) (Q:Option Int→Hp→Prop),Inv X pins σ H s→t σ H Q →
  wpAny (model X.prog X.w) X.A (evalPart e X.env) (fun u s' => ∃ o H',Inv X pins σ H' s'∧IsPart u o∧Q o H') X.xe s
def aA2:TO:=fun _ H Q=>Q none H
def aY7 (t:TE):TO:=fun σ H Q=>t σ H fun x H1 => ∃ i,x=.int i∧Q (some i) H1
section
variable {X:Cx} {e:Expr} {te:TE} {lo hi:Option Expr} {tl th:TO} {pos p2:Pos}
theorem bm3:PO X none aA2:=by
 intro pins s σ H Q I h
 rw [evalPart_none]
 exact wpAny_pure ⟨none,H,I,.none,h⟩
theorem bm2 (h:PE X e te):PO X (some e) (aY7 te):=by
 intro pins s σ H Q I hw
 rw [evalPart_some]
 refine thn (h pins s σ H _ I hw) fun u s1 ⟨x,H1,I1,r1,q1⟩=>?_
 obtain ⟨i,rfl,q⟩:=q1
 obtain ⟨t,rfl⟩:=r1
 exact ⟨some i,H1,I1,.int i t,q⟩
def SlR (X:Cx) (r:V→Option Int→Option Int→Hp→VK→Prop):Prop :=
 ∀ (pins:List (Addr × Obj)) (s:Shared) (σ:St) (H:Hp) (x:V) (v vl vu:Value) (lo hi:Option Int) (sl:Addr) (Q:VK),Inv X pins σ H s→A7 x v→s.heap.IsSliceOf sl vl vu .none→IsPart vl lo→IsPart vu hi→r x lo hi H Q →
  ∃ T id,typeLookup (.type T) "__getitem__" = pure (some (.builtin id))∧s.TypeIs v T∧wpAny (model X.prog X.w) X.A (getItem v (.ref sl)) (EP X pins σ Q) X.xe s
def tSl (r:V→Option Int→Option Int→Hp→VK→Prop) (te:TE) (tl th:TO):TE:=fun σ H Q=>te σ H fun x H1=>tl σ H1 fun l H2=>th σ H2 fun u H3=>r x l u H3 Q
theorem bb8 {r:V→Option Int→Option Int→Hp→VK→Prop} (hr:SlR X r) (he:PE X e te) (hl:PO X lo tl) (hu:PO X hi th):PE X (.Subscript e (.Slice lo hi none p2) pos) (tSl r te tl th):=by
 intro pins s σ H Q I h
 refine Subscript_ (thn (he pins s σ H _ I h) fun v s1 ⟨x,H1,I1,r1,q1⟩=>?_)
 refine wpAny_Slice (thn (hl pins s1 σ H1 _ I1 q1) fun vl s2 ⟨l,H2,I2,pl,q2⟩=>thn (hu pins s2 σ H2 _ I2 q2) fun vu s3 ⟨u,H3,I3,pu,q3⟩=>?_)
 rw [evalPart_none]
 refine wpAny_pure ?_
 have I4:Inv X pins σ H3 { s3 with heap:=s3.heap.push { cls:=.type "slice",data:=.fields #[vl,vu,.none] } }:=I3.kept (t':=s3.toks) fun b ob q=>Heap.get?_push_of_some _ q
 obtain ⟨T,id,hT,ht,hg⟩:=hr pins { s3 with heap:=s3.heap.push { cls:=.type "slice",data:=.fields #[vl,vu,.none] } } σ H3 x v vl vu l u s3.heap.objs.size Q I4 r1 (Heap.IsSliceOf.new ..) pl pu q3
 show wpAny (model X.prog X.w) X.A (subscriptTail e (.Slice lo hi none p2) v (.ref s3.heap.objs.size)) (EP X pins σ Q) X.xe { s3 with heap:=s3.heap.push { cls:=.type "slice",data:=.fields #[vl,vu,.none] } }
 exact tail_any (ops:=[.ref s3.heap.objs.size,v]) ht hT hg (by with_unfolding_all rfl)
def aW8 (xs:List V) (lo hi:Option Int):List V:=(xs.drop (HT.sIx xs.length 0 lo)).take (HT.sIx xs.length xs.length hi - HT.sIx xs.length 0 lo)
theorem aJ9 (xs:List V) (lo hi:Option Int):(aW8 xs lo hi).length≤xs.length:=by
 unfold aW8
 rw [List.length_take,List.length_drop]
 omega
end
def ixN (n:Nat) (i:Int):Option Nat:=if 0≤i then (if i < n then some i.toNat else none) else if -(n:Int)≤i then some (i + n).toNat else none
def atI {α:Type} (xs:List α) (i:Int):Option α:=(ixN xs.length i).bind fun j=>xs[j]?
theorem aR8 {n:Nat} {i:Int} {j:Nat} (h:ixN n i=some j):seqIndex? i n=some j∧j < n∧-(n:Int)≤i∧i < n:=by
 unfold ixN at h
 by_cases h0:0≤i
 ·rw [if_pos h0] at h
  by_cases h1:i < n
  ·rw [if_pos h1] at h
   have e:i.toNat=j:=Option.some.inj h
   exact ⟨by rw [seqIndex_of h0 h1,e],by omega,by omega,h1⟩
  ·rw [if_neg h1] at h;cases h
 ·rw [if_neg h0] at h
  by_cases h1:-(n:Int)≤i
  ·rw [if_pos h1] at h
   have e:(i + n).toNat=j:=Option.some.inj h
   exact ⟨by rw [seqIndex_neg (by omega) h1,e],by omega,h1,by omega⟩
  ·rw [if_neg h1] at h;cases h
theorem aG0 {α:Type} {xs:List α} {i:Int} {v:α} (h:atI xs i=some v):∃ j,seqIndex? i xs.length=some j∧xs[j]? = some v∧j < xs.length∧-(xs.length:Int)≤i∧i < xs.length:=by
 unfold atI at h
 cases e:ixN xs.length i with
 | none=>rw [e] at h;cases h
 | some j =>
  rw [e] at h
  obtain ⟨h1,h2,h3,h4⟩:=aR8 e
  exact ⟨j,h1,h,h2,h3,h4⟩
theorem Z8 {α:Type} {xs:List α} {j:Nat} {v:α} (h:xs[j]? = some v):atI xs (j:Int)=some v:=by
 have hj:j < xs.length:=(List.getElem?_eq_some_iff.mp h).1
 have e:ixN xs.length (j:Int)=some j:=by
  unfold ixN
  rw [if_pos (by omega),if_pos (by omega)];simp
 unfold atI;rw [e];exact h
def bq3 (b:Expr):Prop:=∀ o i,subscripted b false o i=operate [o,i] (getItem o i)
def IxR (X:Cx) (r:R2):Prop :=
 ∀ (value slice:Expr) (pins:List (Addr × Obj)) (s:Shared) (σ:St) (H:Hp) (x y:V) (v u:Value) (Q:VK),Inv X pins σ H s→A7 x v→A7 y u→r x y H Q →
  subscripted slice false v u=operate [v,u] (getItem v u)→wpAny (model X.prog X.w) X.A (subscriptTail value slice v u) (EP X pins σ Q) X.xe s
def MtR (X:Cx) (id:String) (r:V→List V→Hp→VK→Prop):Prop :=
 ∀ (pins:List (Addr × Obj)) (s:Shared) (σ:St) (H:Hp) (x:V) (xs:List V) (v:Value) (us:List Value) (Q:VK),Inv X pins σ H s→A7 x v→t8 xs us→r x xs H Q →
  wpAny (model X.prog X.w) X.A (call (.builtin id) (v :: us)) (EP X pins σ Q) X.xe s
section
variable {X:Cx} {a b:Expr} {ta tb:TE} {pos:Pos}
theorem m8 {r:R2} (hr:IxR X r) (ha:PE X a ta) (hb:PE X b tb) (hs:bq3 b):PE X (.Subscript a b pos) (tOp r ta tb):=by
 intro pins s σ H Q I h
 exact Subscript_ (bB1 ha hb I h fun v u s2 x y H2 I2 rx ry q=>hr a b pins s2 σ H2 x y v u Q I2 rx ry q (hs _ _))
def aB7 (K:PySem.W.Frag):R2:=fun x y H Q => ∃ p xs i v,x=.ref p∧y=.int i∧SqL K H p xs∧atI xs i=some v∧Q v H
def bb0 (K:PySem.W.Frag):R2:=fun x y H Q => ∃ p xs i v,x=.ref p∧y=.int i∧SqT K H p xs∧atI xs i=some v∧Q v H
theorem y9:IxR X (aB7 X.K):=by
 intro value slice pins s σ H x y v u Q I rx ry h hs
 obtain ⟨p,xs,i,z,rfl,rfl,hq,he,q⟩:=h
 cases rx
 obtain ⟨t,rfl⟩:=ry
 obtain ⟨its,r,pl,hz⟩:=I.list hq
 obtain ⟨j,h1,h2,h3,h4,h5⟩:=aG0 he
 obtain ⟨w,ew,rw'⟩:=r.get h2
 have hl:=r.length
 have hn:=af7
 have fin:EP X pins σ Q w s:=⟨z,H,I,rw',q⟩
 by_cases h0:0≤i
 ·have hj:i.toNat=j:=by
   rw [seqIndex_of h0 h5] at h1
   exact Option.some.inj h1
  exact item_listR pl.isList h0 (by omega) (by rw [hj];simpa using ew) fin hs
 ·have hj:(i + (its.toArray.size:Int)).toNat=j:=by
   rw [seqIndex_neg (by omega) h4] at h1
   rw [List.size_toArray,← hl]
   exact Option.some.inj h1
  exact subscriptTail_builtinR (x:=w) pl.isList.typeIs slot_list_getitem.lookup
   (wpAny_getItem_list_neg (Q:=fun r s'=>r=w∧EP X pins σ Q r s') pl.isList (by omega) (by rw [List.size_toArray] <;> omega) (by omega) (by rw [hj];simpa using ew) ⟨rfl,fin⟩) hs
theorem p8:IxR X (bb0 X.K):=by
 intro value slice pins s σ H x y v u Q I rx ry h hs
 obtain ⟨p,xs,i,z,rfl,rfl,hq,he,q⟩:=h
 cases rx
 obtain ⟨t,rfl⟩:=ry
 obtain ⟨its,r,pl,hz⟩:=I.tuple hq
 obtain ⟨j,h1,h2,h3,h4,h5⟩:=aG0 he
 obtain ⟨w,ew,rw'⟩:=r.get h2
 have hl:=r.length
 have hn:=af7
 have fin:EP X pins σ Q w s:=⟨z,H,I,rw',q⟩
 exact subscriptTail_builtinR (x:=w) pl.typeIs slot_tuple_getitem.lookup
  (getItem_tuple (j:=j) (Q:=fun r s'=>r=w∧EP X pins σ Q r s') pl (by omega) (by omega) (by rw [List.size_toArray,← hl];exact h1) (by simpa using ew) ⟨rfl,fin⟩) hs
theorem aM7 (its:List Value) (n j:Nat) (u:Value):Obj.mapSeq (·.setIfInBounds j u) { cls:=.type "list",data:=.seq its.toArray n }={ cls:=.type "list",data:=.seq (its.set j u).toArray n }:=by
 simp [Obj.mapSeq]
theorem Inv.lst {pins:List (Addr × Obj)} {σ:St} {H:Hp} {s:Shared} {p:Addr} {xs:List V} (I:Inv X pins σ H s) (h:H p=some (.lst xs)) :
  ∃ (its:List Value) (n:Nat),t8 xs its∧s.heap.get? p=some { cls:=.type "list",data:=.seq its.toArray n }∧xs.length≤sizeLine:=by
 obtain ⟨z,its,n,r,e⟩:=I.hok p _ h
 exact ⟨its,n,r,e,z⟩
theorem Inv.lstUpd {pins:List (Addr × Obj)} {σ:St} {H:Hp} {s:Shared} {p:Addr} {xs ys:List V} {its its':List Value} {n n':Nat} {f:Obj→Obj} (I:Inv X pins σ H s) (h:H p=some (.lst xs))
  (ho:s.heap.get? p=some { cls:=.type "list",data:=.seq its.toArray n }) (hf:f { cls:=.type "list",data:=.seq its.toArray n }={ cls:=.type "list",data:=.seq its'.toArray n' }) (r:t8 ys its') (hz:ys.length≤sizeLine) (t:Nat) :
  Inv X pins σ (upd H p (.lst ys)) { s with heap:=s.heap.update p f,toks:=t }:=by
 have e:(s.heap.update p f).get? p=some { cls:=.type "list",data:=.seq its'.toArray n' }:=by
  rw [Heap.get?_update_self f ho (by rw [hf] <;> rfl),hf]
 refine I.write (x:=p) (e:=p) (by rw [h];trivial) (.inl rfl) (fun b u hb q=>(Heap.get?_update_other _ _ (Ne.symm hb)).trans q) ⟨_,e⟩ ?_
 exact ⟨hz,its',n',r,e⟩
def ba9:V→V→V→Hp→(Hp→Prop)→Prop:=fun o i v H Q => ∃ p xs k j,o=.ref p∧i=.int k∧H p=some (.lst xs)∧ixN xs.length k=some j∧Q (upd H p (.lst (xs.set j v)))
theorem aa7:bB6 X ba9:=by
 intro pins s σ H o i v ov iv u Q I ro ri rv h
 obtain ⟨p,xs,k,j,rfl,rfl,hp,hj,q⟩:=h
 cases ro
 obtain ⟨t,rfl⟩:=ri
 obtain ⟨its,n,r,ho,hz⟩:=I.lst hp
 obtain ⟨h1,h2,h3,h4⟩:=aR8 hj
 have hl:=r.length
 have hn:=af7
 have I':Inv X pins σ (upd H p (.lst (xs.set j v))) { s with heap:=s.heap.update p (Obj.mapSeq (·.setIfInBounds j u)) } :=
  I.lstUpd hp ho (aM7 its n j u) (r.set rv j) (by rw [List.length_set];exact hz) s.toks
 by_cases h0:0≤k
 ·have hk:k.toNat=j:=by
   rw [seqIndex_of h0 h4] at h1
   exact Option.some.inj h1
  exact PySem.W.ki_setAt ho h0 (by omega) (by rw [List.size_toArray,← hl];exact h4) (by rw [hk];exact ⟨_,I',q⟩)
 ·have hk:(k + (its.toArray.size:Int)).toNat=j:=by
   rw [seqIndex_neg (by omega) h3] at h1
   rw [List.size_toArray,← hl]
   exact Option.some.inj h1
  exact PySem.W.ki_setBack ho (by omega) (by rw [List.size_toArray,← hl];exact h3) (by omega) (by rw [hk];exact ⟨_,I',q⟩)
theorem aB1 (lo hi:Option Int) (n:Nat):(sliceBounds lo hi none n).1=((HT.sIx n 0 lo:Nat):Int)∧(sliceBounds lo hi none n).2.1=((HT.sIx n n hi:Nat):Int)∧(sliceBounds lo hi none n).2.2=1:=by
 refine ⟨?_,?_,rfl⟩
 ·cases lo with
  | none=>simp [sliceBounds,HT.sIx]
  | some i =>
   simp only [sliceBounds,HT.sIx,Option.getD_none,show (1:Int) > 0 by decide,if_true]
   by_cases h:i < 0
   ·simp only [h,if_true] <;> omega
   ·simp only [h,if_false] <;> omega
 ·cases hi with
  | none=>simp [sliceBounds,HT.sIx]
  | some i =>
   simp only [sliceBounds,HT.sIx,Option.getD_none,show (1:Int) > 0 by decide,if_true]
   by_cases h:i < 0
   ·simp only [h,if_true] <;> omega
   ·simp only [h,if_false] <;> omega
theorem at8 (its:List Value) (lo hi:Option Int):slicePick its.toArray lo hi none=((its.drop (HT.sIx its.length 0 lo)).take (HT.sIx its.length its.length hi - HT.sIx its.length 0 lo)).toArray:=by
 obtain ⟨h1,h2,h3⟩:=aB1 lo hi its.toArray.size
 unfold slicePick
 rw [h1,h2,h3]
 simp only [sliceRange_one,pick_run,List.size_toArray] <;> rfl
def bv1 (K:PySem.W.Frag):V→Option Int→Option Int→Hp→VK→Prop:=fun x lo hi H Q => ∃ a xs,x=.ref a∧SqL K H a xs∧∀ p,H p=none→Q (.ref p) (upd H p (.lst (aW8 xs lo hi)))
theorem bk7:SlR X (bv1 X.K):=by
 intro pins s σ H x v vl vu lo hi sl Q I rx hs pl pu h
 obtain ⟨a,xs,rfl,hx,q⟩:=h
 cases rx
 obtain ⟨its,r,ht,hz⟩:=I.list hx
 have hlen:=r.length
 refine ⟨"list",_,slot_list_getitem.lookup,ht.isList.typeIs,?_⟩
 refine wpAny_getItem_list_slice ht.isList hs pl pu .none (by simp) ?_ (by rw [List.size_toArray] <;> omega)
 rw [at8,← hlen]
 refine ⟨.ref s.heap.objs.size,_,I.laid (t':=s.toks) (o:=.lst (aW8 xs lo hi)) (fun b ob q=>Heap.get?_push_of_some _ q) (Nat.le_refl _) ?_,rfl,q _ (I.hok.fresh (Nat.le_refl _))⟩
 exact ⟨Nat.le_trans (aJ9 xs lo hi) hz,_,0,(r.drop (HT.sIx xs.length 0 lo)).take (HT.sIx xs.length xs.length hi - HT.sIx xs.length 0 lo),Heap.get?_push_size _ rfl⟩
def V2:V→Bool
 | .non=>true
 | .bl _=>true
 | .int _=>true
 | .str _=>true
 | _=>false
def eqV:V→V→Bool
 | .non,.non=>true
 | .bl a,.bl b=>a == b
 | .bl a,.int b=>(if a then 1 else 0) == b
 | .int a,.bl b=>a == (if b then 1 else 0)
 | .int a,.int b=>a == b
 | .str a,.str b=>a == b
 | _,_=>false
theorem bh0 {A:Around} {s:Shared} {y x:V} {u v:Value} (ry:A7 y u) (rx:A7 x v) (fy:V2 y=true) (fx:V2 x=true):SeqAt.EqAt A s u v (eqV y x):=by
 cases y with
 | non =>
  cases ry
  cases x with
  | non=>cases rx;exact SeqAt.EqAt.same _
  | bl b=>cases rx;exact SeqAt.EqAt.none_bool b
  | int b=>obtain ⟨t,rfl⟩:=rx;exact SeqAt.EqAt.none_int b t
  | str b=>obtain ⟨t,rfl⟩:=rx;exact SeqAt.EqAt.none_str b t
  | _=>exact absurd (show false=true from fx) Bool.false_ne_true
 | bl a =>
  cases ry
  cases x with
  | non=>cases rx;exact SeqAt.EqAt.bool_none a
  | bl b=>cases rx;exact SeqAt.EqAt.bool_bool a b
  | int b=>obtain ⟨t,rfl⟩:=rx;exact SeqAt.EqAt.bool_int a b t
  | str b=>obtain ⟨t,rfl⟩:=rx;exact SeqAt.EqAt.bool_str a b t
  | _=>exact absurd (show false=true from fx) Bool.false_ne_true
 | int a =>
  obtain ⟨t',rfl⟩:=ry
  cases x with
  | non=>cases rx;exact SeqAt.EqAt.int_none a t'
  | bl b=>cases rx;exact SeqAt.EqAt.int_bool a t' b
  | int b=>obtain ⟨t,rfl⟩:=rx;exact SeqAt.EqAt.int_int a t' b t
  | str b=>obtain ⟨t,rfl⟩:=rx;exact SeqAt.EqAt.int_str a t' b t
  | _=>exact absurd (show false=true from fx) Bool.false_ne_true
 | str a =>
  obtain ⟨t',rfl⟩:=ry
  cases x with
  | non=>cases rx;exact SeqAt.EqAt.str_none a t'
  | bl b=>cases rx;exact SeqAt.EqAt.str_bool a t' b
  | int b=>obtain ⟨t,rfl⟩:=rx;exact SeqAt.EqAt.str_int a t' b t
  | str b=>obtain ⟨t,rfl⟩:=rx;exact SeqAt.EqAt.str_str a t' b t
  | _=>exact absurd (show false=true from fx) Bool.false_ne_true
 | _=>exact absurd (show false=true from fy) Bool.false_ne_true
def eqU (x:V) (u:Value):Bool:=match u with
 | .none=>eqV .non x
 | .bool b=>eqV (.bl b) x
 | .int i _=>eqV (.int i) x
 | .str z _=>eqV (.str z) x
 | _=>false
theorem aN3 {x y:V} {u:Value} (r:A7 y u) (f:V2 y=true):eqU x u=eqV y x:=by
 cases y with
 | non=>cases r;rfl
 | bl b=>cases r;rfl
 | int i=>obtain ⟨t,rfl⟩:=r;rfl
 | str z=>obtain ⟨t,rfl⟩:=r;rfl
 | _=>exact absurd (show false=true from f) Bool.false_ne_true
theorem ar4 {A:Around} {s:Shared} {x:V} {v:Value} (rx:A7 x v) (fx:V2 x=true):∀ {xs:List V} {us:List Value},t8 xs us→xs.all V2=true→∀ u ∈ us,SeqAt.EqAt A s u v (eqU x u)
 | _,_,.nil,_=>fun u hu=>by cases hu
 | y :: xs,u :: us,.cons r t,f=>fun u' hu=>by
  rw [List.all_cons,Bool.and_eq_true] at f
  rcases List.mem_cons.mp hu with rfl | hu
  ·rw [aN3 r f.1];exact bh0 r rx f.1 fx
  ·exact ar4 rx fx t f.2 u' hu
theorem q8:ae9 X (.builtin "len") (fun xs H Q => ∃ p ys,xs=[.ref p]∧(SqL X.K H p ys ∨ SqT X.K H p ys)∧Q (.int ys.length) H):=by
 intro pins s σ H xs us Q I r h
 obtain ⟨p,ys,rfl,hq,q⟩:=h
 obtain ⟨u,rfl,rx⟩:=ap1 r
 cases rx
 have hn:=af7
 rcases hq with hq | hq
 ·obtain ⟨its,r',pl,hz⟩:=I.list hq
  have hlen:=r'.length
  exact Calls.call_len_list pl.isList (by simp only [List.size_toArray] <;> omega) ⟨.int ys.length,H,I.tok _,⟨s.toks + 1,by rw [List.size_toArray,hlen]⟩,q⟩
 ·obtain ⟨its,r',pl,hz⟩:=I.tuple hq
  have hlen:=r'.length
  exact len_tuple pl (by simp only [List.size_toArray] <;> omega) ⟨.int ys.length,H,I.tok _,⟨s.toks + 1,by rw [List.size_toArray,hlen]⟩,q⟩
theorem T8:ae9 X (.type "list") (fun xs H Q => ∃ p ys,xs=[.ref p]∧(SqL X.K H p ys ∨ SqT X.K H p ys)∧∀ l,H l=none→Q (.ref l) (upd H l (.lst ys))):=by
 intro pins s σ H xs us Q I r h
 obtain ⟨p,ys,rfl,hq,q⟩:=h
 obtain ⟨u,rfl,rx⟩:=ap1 r
 cases rx
 have fin:∀ (its:List Value),t8 ys its→ys.length≤sizeLine→∀ (h':Heap) (c':Nat),(∀ b o',s.heap.get? b=some o'→h'.get? b=some o') →
   h'.get? s.heap.objs.size=some { cls:=.type "list",dict:=none,data:=.seq its.toArray c',slots:=#[] }→EP X pins σ Q (.ref s.heap.objs.size) { s with heap:=h' }:=fun its r' hz h' c' kp e =>
  ⟨.ref s.heap.objs.size,_,I.laid (t':=s.toks) kp (Nat.le_refl _) (show G2 X.prog X.w _ h' _ (.lst ys) from ⟨hz,its,c',r',e⟩),rfl,q _ (I.hok.fresh (Nat.le_refl _))⟩
 rcases hq with hq | hq
 ·obtain ⟨its,r',pl,hz⟩:=I.list hq
  have hlen:=r'.length
  obtain ⟨o,ho,hc,n,hd⟩:=pl.isList
  exact call_list_seq p (.inl rfl) ho hc hd (fun h' c' kp e=>fin its r' hz h' c' kp e) (by simp only [List.size_toArray] <;> omega)
 ·obtain ⟨its,r',pl,hz⟩:=I.tuple hq
  have hlen:=r'.length
  obtain ⟨o,ho,hc,n,hd⟩:=pl
  exact call_list_seq p (.inr rfl) ho hc hd (fun h' c' kp e=>fin its r' hz h' c' kp e) (by simp only [List.size_toArray] <;> omega)
def tyV (K : PySem.W.Frag) (T : String) (x : V) (H : Hp) : Prop := match x with
  | .str _ => T = "str"
  | .int _ => T = "int"
  | .ref p => (T = "list" ∧ ∃ xs, SqL K H p xs) ∨ (T = "tuple" ∧ ∃ o, K.lookup p = some o ∧ o.cls = .type "tuple" ∧ o.dict = none) ∨
      (T = "dict" ∧ ((∃ kvs, H p = some (.dK kvs)) ∨ ∃ kvs, H p = some (.dT kvs))) ∨ (T = "set" ∧ ∃ S n, H p = some (.set S n))
  | _ => False
theorem aY3 {pins:List (Addr × Obj)} {σ:St} {H:Hp} {s:Shared} {T:String} {x:V} {v:Value} (I:Inv X pins σ H s) (r:A7 x v) (ty:tyV X.K T x H) :
  s.TypeIs v T∧∀ a,v=.ref a→∃ ob,s.heap.get? a=some ob∧ob.dict=none:=by
 cases x with
 | str z =>
  obtain ⟨t,rfl⟩:=r
  cases (show T = "str" from ty)
  exact ⟨typeIs_str s z t,fun _ e=>nomatch e⟩
 | int i =>
  obtain ⟨t,rfl⟩:=r
  cases (show T = "int" from ty)
  exact ⟨typeIs_int s i t,fun _ e=>nomatch e⟩
 | ref p =>
  cases r
  rcases ty with ⟨rfl,xs,hq⟩ | ⟨rfl,o,hk,hc,hd⟩ | ⟨rfl,hk⟩ | ⟨rfl,S,n,hk⟩
  ·obtain ⟨its,_,pl,_⟩:=I.list hq
   refine ⟨pl.isList.typeIs,fun a e=>?_⟩
   cases e
   obtain ⟨o,n,e,c,hd,_⟩:=pl
   exact ⟨o,e,hd⟩
  ·refine ⟨⟨o,I.kIn p o hk,hc⟩,fun a e=>?_⟩
   cases e
   exact ⟨o,I.kIn _ o hk,hd⟩
  ·have z:∃ o,s.heap.get? p=some o∧o.ExactDict:=by
    rcases hk with ⟨kvs,hk⟩ | ⟨kvs,hk⟩
    ·obtain ⟨_,_,_,_,o,_,_,e,ex,_⟩:=I.hok p _ hk
     exact ⟨o,e,ex⟩
    ·obtain ⟨_,_,_,_,o,_,_,e,ex,_⟩:=I.hok p _ hk
     exact ⟨o,e,ex⟩
   obtain ⟨o,e,ex⟩:=z
   refine ⟨⟨o,e,ex.1⟩,fun a e2=>?_⟩
   cases e2
   exact ⟨o,e,ex.2.1⟩
  ·obtain ⟨o,_,_,_,e,ex,_⟩:=I.hok p _ hk
   refine ⟨⟨o,e,ex.1⟩,fun a e2=>?_⟩
   cases e2
   exact ⟨o,e,ex.2.1⟩
 | _=>exact False.elim ty
def bu1 (K:PySem.W.Frag) (T:String) (r:V→List V→Hp→VK→Prop) (to:TE):TE:=fun σ H Q=>to σ H fun x H1=>tyV K T x H1∧r x [] H1 Q
def tBM (K:PySem.W.Frag) (T:String) (r:V→List V→Hp→VK→Prop) (to:TE) (t:TA):TE:=fun σ H Q=>to σ H fun x H1=>tyV K T x H1∧t σ H1 fun xs H2=>r x xs H2 Q
variable {o e:Expr} {es:List Expr} {to:TE} {t:TA} {name:Str} {apos cpos:Pos} {T id:String} {r:V→List V→Hp→VK→Prop}
theorem aL9 (pa:PlainAttrs T) (slot:Slot T name id) (hty:typeOf (.builtin id)=pure (.type "method_descriptor")) (hm:MtR X id r) (ho:PE X o to)
  (hbase:attributeBase o name X.env (eval o X.env)=eval o X.env:=by rfl) (hline:(apos.endLine == cpos.line)=true:=by rfl):PE X (.Call (.Attribute o name apos) [] [] cpos) (bu1 X.K T r to):=by
 intro pins s σ H Q I h
 refine wpAny_Call_method0_late hbase hline (thn (ho pins s σ H _ I h) fun v s1 ⟨x,H1,I1,r1,ty,q1⟩=>?_)
 obtain ⟨h1,h2⟩:=aY3 I1 r1 ty
 exact ⟨T,id,pa,slot,hty,h1,h2,Calls.callWith_builtin rfl (PySem.evalArgs_none (hm pins s1 σ H1 x [] v [] Q I1 r1 .nil q1))⟩
theorem aR0 (pa:PlainAttrs T) (slot:Slot T name id) (hty:typeOf (.builtin id)=pure (.type "method_descriptor")) (hm:MtR X id r) (ho:PE X o to) (ha:PA X (e :: es) t)
  (hbase:attributeBase o name X.env (eval o X.env)=eval o X.env:=by rfl)
  (hfew:((backTo cpos (starEach (e :: es) X.env)).all (fun x => !x.1) && (backToKw cpos (keywordEach [] X.env)).all (fun x=>x.1.isSome)
   && decide ((e :: es).length + ([]:List Keyword).length + (if ([]:List Keyword).isEmpty then 0 else 1) < 30))=true:=by rfl)
  (hline:(apos.endLine == cpos.line)=true:=by rfl) (hs:starEach (e :: es) X.env=(false,eval e X.env) :: starEach es X.env:=by rfl) (hplain:(backTo cpos (starEach es X.env)).any (·.1)=false:=by rfl) :
  PE X (.Call (.Attribute o name apos) (e :: es) [] cpos) (tBM X.K T r to t):=by
 intro pins s σ H Q I h
 refine wpAny_Call_method_late hbase hfew hline rfl (thn (ho pins s σ H _ I h) fun v s1 ⟨x,H1,I1,r1,ty,q1⟩=>?_)
 obtain ⟨h1,h2⟩:=aY3 I1 r1 ty
 refine ⟨T,id,pa,slot,hty,h1,h2,?_⟩
 have hA:=ha cpos pins s1 σ H1 _ I1 q1
 rw [hs] at hA ⊢
 refine Calls.callWith_builtin (by show (false || (backTo cpos (starEach es X.env)).any (·.1))=false;rw [hplain] <;> rfl) (Calls.evalArgs_plain ?_)
 exact thn hA fun us s2 ⟨vs,H2,I2,r2,q2⟩=>hm pins s2 σ H2 x vs v us Q I2 r1 r2 q2
/- xs.append(e),list.index on a module's tuple .. are MtR facts of 06m -/
end
def MtM (X:Cx) (id:String) (r:V→List V→Hp→VK→Prop):Prop :=
 ∀ (pins:List (Addr × Obj)) (s:Shared) (σ:St) (H:Hp) (x:V) (xs:List V) (v:Value) (us:List Value) (Q:VK),Inv X pins σ H s→A7 x v→t8 xs us→r x xs H Q →
  wpAny (model X.prog X.w) X.A (call (.builtin id) (v :: us)) (EP X pins σ Q) X.xe s
theorem t8.one:∀ {x:V} {us:List Value},t8 [x] us→∃ u,us=[u]∧A7 x u
 | _,_,.cons r .nil=>⟨_,rfl,r⟩
theorem t8.two:∀ {x y:V} {us:List Value},t8 [x,y] us→∃ u v,us=[u,v]∧A7 x u∧A7 y v
 | _,_,_,.cons r (.cons q .nil)=>⟨_,_,rfl,r,q⟩
theorem t8.zero:∀ {us:List Value},t8 [] us→us=[]
 | _,.nil=>rfl
theorem t8.dropLast {xs:List V} {us:List Value} (h:t8 xs us):t8 xs.dropLast us.dropLast:=by
 induction h with
 | nil=>exact .nil
 | cons r t ih =>
  cases t with
  | nil=>exact .nil
  | cons q t'=>exact .cons r ih
theorem t8.rep {xs:List V} {us:List Value} (h:t8 xs us):∀ k:Nat,t8 (List.replicate k xs).flatten (List.replicate k us).flatten
 | 0=>.nil
 | k + 1=>by
  rw [List.replicate_succ,List.replicate_succ,List.flatten_cons,List.flatten_cons]
  exact t8.append h (t8.rep h k)
theorem aN2 {α:Type} (l:List α):l.eraseIdx (l.length - 1)=l.dropLast:=by
 induction l with
 | nil=>rfl
 | cons a r ih =>
  cases r with
  | nil=>rfl
  | cons b r =>
   have e:(a :: b :: r).length - 1=((b :: r).length - 1) + 1:=by
    have h1:(a :: b :: r).length=r.length + 2:=rfl
    have h2:(b :: r).length=r.length + 1:=rfl
    omega
   rw [e,List.eraseIdx_cons_succ,ih]
   all_goals rfl
theorem ay2 (its:List Value):∀ (k:Nat) (acc:List Value),
  List.foldl (fun x1 x2=>x1 ++ x2) acc.toArray (List.replicate k its.toArray)=(acc ++ (List.replicate k its).flatten).toArray
 | 0,acc=>by simp
 | k + 1,acc=>by
  have e:acc.toArray ++ its.toArray=(acc ++ its).toArray:=by simp
  have e2:(acc ++ its) ++ (List.replicate k its).flatten=acc ++ (List.replicate (k + 1) its).flatten:=by
   rw [List.replicate_succ,List.flatten_cons,List.append_assoc]
  rw [← e2,← ay2 its k (acc ++ its),← e,List.replicate_succ,List.foldl_cons]
section
variable {X:Cx} {pins:List (Addr × Obj)} {σ:St} {H:Hp} {s:Shared} {l b:Addr} {xs ys zs:List V}
theorem Inv.lset {its its':List Value} {n:Nat} {f:Array Value→Array Value} {t':Nat} (I:Inv X pins σ H s) (hH:H l=some (.lst xs))
  (e:s.heap.get? l=some { cls:=.type "list",data:=.seq its.toArray n }) (hf:f its.toArray=its'.toArray) (hv:t8 ys its') (hz:ys.length≤sizeLine) :
  Inv X pins σ (upd H l (.lst ys)) { s with heap:=s.heap.update l (Obj.mapSeq f),toks:=t' }:=by
 have q:=PySem.IsL.update e f
 rw [hf] at q
 refine I.write (x:=l) (e:=l) (by rw [hH];exact trivial) (.inl rfl) (fun b' u hb hu=>(Heap.get?_update_other s.heap (Obj.mapSeq f) (Ne.symm hb)).trans hu) ⟨_,q⟩ ?_
 exact ⟨hz,its',_,hv,q⟩
theorem Inv.lnew {its:List Value} {t':Nat} (I:Inv X pins σ H s) (hv:t8 ys its) (hz:ys.length≤sizeLine) :
  Inv X pins σ (upd H s.heap.objs.size (.lst ys)) { s with heap:=s.heap.push { cls:=.type "list",data:=.seq its.toArray },toks:=t' } :=
 I.laid (fun _ _ q=>Heap.get?_push_of_some _ q) (Nat.le_refl _) ⟨hz,its,0,hv,Heap.get?_push_size _ rfl⟩
theorem Inv.fresh (I:Inv X pins σ H s):H s.heap.objs.size=none:=I.hok.fresh (Nat.le_refl _)
theorem Inv.lstM (I:Inv X pins σ H s) (hH:H l=some (.lst xs)):xs.length≤sizeLine∧∃ (its:List Value) (n:Nat),t8 xs its∧xs.length=its.length∧s.heap.get? l=some { cls:=.type "list",data:=.seq its.toArray n }:=by
 obtain ⟨z,its,n,r,e⟩:=I.hok l _ hH
 exact ⟨z,its,n,r,r.length,e⟩
theorem bd0 {n:Nat} (h:n≤sizeLine):Builtin.List.listTooLong n=false:=by
 unfold Builtin.List.listTooLong
 exact decide_eq_false (by omega)
end
section
variable {X:Cx}
def aB9:V→List V→Hp→VK→Prop:=fun x vs H Q => ∃ l xs y,x=.ref l∧vs=[y]∧H l=some (.lst xs)∧xs.length < sizeLine∧Q .non (upd H l (.lst (xs ++ [y])))
theorem X7:MtM X "list.append" aB9:=by
 intro pins s σ H x vs v us Q I rx rv h
 obtain ⟨l,xs,y,rfl,rfl,hH,hz,q⟩:=h
 cases rx
 obtain ⟨u,rfl,ru⟩:=rv.one
 obtain ⟨z,its,n,r,hl,e⟩:=I.lstM hH
 refine call_meets F.slot_list_append ⟨_,e,rfl⟩ F.entry_list_append (F.args_list_append_2 _ _) (PySem.list_append l its.toArray n u (by rw [List.size_toArray];omega)) ⟨e,?_⟩
 refine ⟨.non,_,I.lset (its':=its ++ [u]) hH e (by simp) (r.append (.cons ru .nil)) ?_,rfl,q⟩
 rw [List.length_append,List.length_singleton]
 omega
def rExtend:V→List V→Hp→VK→Prop:=fun x vs H Q => ∃ l b xs zs,x=.ref l∧vs=[.ref b]∧H l=some (.lst xs)∧H b=some (.lst zs)∧xs.length + zs.length≤sizeLine∧Q .non (upd H l (.lst (xs ++ zs)))
def bv3:V→List V→Hp→VK→Prop:=fun x vs H Q => ∃ l xs y,x=.ref l∧vs=[]∧H l=some (.lst xs)∧xs[xs.length - 1]? = some y∧Q y (upd H l (.lst xs.dropLast))
theorem by1:MtM X "list.pop" bv3:=by
 intro pins s σ H x vs v us Q I rx rv h
 obtain ⟨l,xs,y,rfl,rfl,hH,hy,q⟩:=h
 cases rx
 have hus:=rv.zero
 subst hus
 obtain ⟨z,its,n,r,hl,e⟩:=I.lstM hH
 obtain ⟨u,hu,ru⟩:=r.get hy
 have hy':its.toArray[its.toArray.size - 1]? = some u:=by
  show its.toArray[its.length - 1]? = some u
  rw [← Array.getElem?_toList,← hl]
  exact hu
 refine call_meets F.slot_list_pop ⟨_,e,rfl⟩ F.entry_list_pop (F.args_list_pop_1 _) (MeetsSeq.list_pop_last l its.toArray n u hy' (by rw [List.size_toArray];omega)) ⟨e,?_⟩
 refine ⟨y,_,I.lset (its':=its.dropLast) hH e ?_ r.dropLast ?_,ru,q⟩
 ·show its.toArray.eraseIdxIfInBounds (its.toArray.size - 1)=its.dropLast.toArray
  rw [List.size_toArray,List.eraseIdxIfInBounds_toArray,aN2]
 ·rw [List.length_dropLast]
  omega
def bv6:R2:=fun x y H Q => ∃ l b xs zs,x=.ref l∧y=.ref b∧H l=some (.lst xs)∧H b=some (.lst zs)∧xs.length + zs.length≤sizeLine∧∀ p,H p=none→Q (.ref p) (upd H p (.lst (xs ++ zs)))
theorem aq4:OpR X (binaryOp .Add) bv6:=by
 intro pins s σ H x y v u Q I rx ry h
 obtain ⟨l,b,xs,zs,rfl,rfl,hH,hB,hz,q⟩:=h
 cases rx
 cases ry
 obtain ⟨z,its,n,r,hl,e⟩:=I.lstM hH
 obtain ⟨z2,its2,n2,r2,hl2,e2⟩:=I.lstM hB
 refine PySem.P.add_list e e2 ?_ (by rw [List.size_toArray,List.size_toArray];omega)
 have ea:its.toArray ++ its2.toArray=(its ++ its2).toArray:=by simp
 rw [ea]
 exact ⟨.ref _,_,I.lnew (t':=s.toks) (r.append r2) (by rw [List.length_append];omega),rfl,q _ I.fresh⟩
def bv2:R2:=fun x y H Q => ∃ l k xs,x=.ref l∧y=.int k∧H l=some (.lst xs)∧-(2 ^ 63)≤k∧k < 2 ^ 63∧xs.length * k.toNat≤sizeLine ∧
 ∀ p,H p=none→Q (.ref p) (upd H p (.lst (List.replicate k.toNat xs).flatten))
theorem bn4 {α:Type} (xs:List α) (k:Nat):(List.replicate k xs).flatten.length=k * xs.length:=by
 induction k with
 | zero=>simp
 | succ k ih=>rw [List.replicate_succ,List.flatten_cons,List.length_append,ih,Nat.succ_mul,Nat.add_comm]
theorem bc4:OpR X (binaryOp .Mult) bv2:=by
 intro pins s σ H x y v u Q I rx ry h
 obtain ⟨l,k,xs,rfl,rfl,hH,h1,h2,hz,q⟩:=h
 cases rx
 obtain ⟨t,rfl⟩:=ry
 obtain ⟨z,its,n,r,hl,e⟩:=I.lstM hH
 have hlen:its.toArray.size * k.toNat≤sizeLine:=by rw [List.size_toArray,← hl];exact hz
 have hcap:¬ its.toArray.size * k.toNat > (2 ^ 63 - 1) / 8:=by
  have:(sizeLine:Nat)≤(2 ^ 63 - 1) / 8:=by decide
  omega
 have hfit:¬ (!Builtin.List.listFitsIndex k)=true:=by
  rw [fitsIndex_both h1 h2]
  exact Bool.false_ne_true
 have hlong:¬ Builtin.List.listTooLong (its.toArray.size * k.toNat)=true:=by
  rw [bd0 hlen]
  exact Bool.false_ne_true
 have hnew:List.foldl (fun x1 x2=>x1 ++ x2) #[] (List.replicate (if its.toArray.isEmpty=true then 0 else k.toNat) its.toArray)=(List.replicate k.toNat its).flatten.toArray:=by
  have f0:∀ m:Nat,List.foldl (fun x1 x2=>x1 ++ x2) #[] (List.replicate m its.toArray)=(List.replicate m its).flatten.toArray:=fun m=>by
   have:=ay2 its m []
   rw [List.nil_append] at this
   exact this
  rw [f0]
  cases its with
  | nil=>simp
  | cons a r'=>rw [if_neg (by simp)]
 refine wpAny_binaryOp_repeat_ref (T := "list") (U := "int") (by decide) ⟨_,e,rfl⟩ (fun s'=>typeIs_int s' k t) noFill_list_mul F.fills_int_mul F.slot_int_rmul repeat_list F.slot_int_index.lookup
  (call_meets F.slot_int_rmul (typeIs_int s k t) F.entry_int_rmul (F.args_int_rmul_2 _ _) (int___rmul___int_list k t l its.toArray n)
   ⟨e,rfl,⟨_,e,rfl⟩,call_meets F.slot_list_mul ⟨_,e,rfl⟩ F.entry_list_mul (F.args_list_mul_2 _ _) (AutoListH.list___mul___list_int_3 l its.toArray n k t hfit hcap hlong) ⟨e,?_⟩⟩)
 rw [hnew]
 exact ⟨.ref _,_,I.lnew (t':=s.toks) (r.rep k.toNat) (by rw [bn4,Nat.mul_comm];exact hz),rfl,q _ I.fresh⟩
end
end L2
namespace Att
open PySem PySem.W PySem.Calls PyProof.Rows
theorem am9 {P:Params} {h:Heap}:∀ (ns:List Int) (vs:List Value),WellAll P h vs (ns.map WData.int)→IntsAre vs ns:=by
 intro ns
 induction ns with
 | nil =>
  intro vs w
  rw [List.map_nil] at w
  cases w
  exact .nil
 | cons n ns ih =>
  intro vs w
  rw [List.map_cons] at w
  cases w with
  | cons a b =>
   cases a
   exact .cons _ _ (ih _ b)
theorem aU6 {l:OpenLaw} {n:Nat} (hn:l.most=some n) {P:Params} {h:Heap} {args:List WData} {vals:List Value}
  (hpre:l.row.toRowW.claim.pre args=true) (hwl:WellAll P h vals args) :
  ∃ a vs ns,vals=[Value.ref a]∧args=[WData.list (ns.map WData.int)]∧h.get? a=some { cls:=.type "list",data:=.seq vs.toArray }∧IntsAre vs ns∧ns.length≤n:=by
 have hsh:WShape.hasAll [] args [.list .int]=true:=(pre_splitW hpre).1
 have hc:l.pre.holds [] { args:=args }=true:=(pre_splitW hpre).2
 obtain ⟨d,r,rfl,h1,h2⟩:=hasAllW_cons hsh
 obtain rfl:=hasAllW_nil h2
 obtain ⟨xs,rfl,h3⟩:=hasW_list h1
 obtain ⟨ns,rfl⟩:=items_int h3
 have hlen:ns.length≤n:=by
  unfold OpenLaw.pre at hc
  have h4:(WTm.not (.lt (.lit (.int (n:Int))) (.len (.arg 0)))).holds [] { args:=[.list (ns.map .int)] }=true:=by
   have h4:=(holds_andW hc).1
   rw [hn] at h4
   exact h4
  have h5:=condW_of h4 (w_not (w_lt w_lit (w_len_list (w_arg rfl))))
  rw [List.length_map] at h5
  refine Nat.le_of_not_lt fun q=>?_
  have q':(n:Int) < ((ns.length:Nat):Int):=by omega
  first
   | (rw [decide_eq_true q'] at h5;exact absurd h5 (by decide))
   | (simp at h5;omega)
 cases hwl with
 | cons w1 w2 =>
  cases w2
  cases w1 with
  | list ho hall=>exact ⟨_,_,ns,rfl,rfl,ho,am9 ns _ hall,hlen⟩
theorem aV1 (l:OpenLaw) (args:List WData):l.row.toRowW.claim.post args (.bool true) args=true :=
 postW_of (r:=l.row.toRowW) (X:=(true == true))
  (show WShape.has [] (.bool true) .bool=true by first | rfl | decide | simp [WShape.has,WShape.arms,WShape.armsAll])
  (show (WTm.eq .res (.lit (.bool true))).value [] { args:=args,res:=some (.bool true),after:=args }=some (.bool (true == true)) from w_eq_bool (w_res rfl) w_lit) rfl
theorem attach_call {l:OpenLaw} {n:Nat} {q:Program} {loose:List Str} {XP:(Str→Option Value)→Heap→Prop} {YP:World→Heap→Prop} {d:DefRec}
  (hn:l.most=some n) (hdf:d.params.defaults=[])
  (call:∀ (w:World) (s₀ s₁:Shared) (mg mb:Str→Option Value) (fa:Addr) (o:Obj) (pm cd doc:Value) (a:Addr) (vs:List Value) (ns:List Int),
   Ground q loose [] XP w s₀ mg mb s₁.heap→YP w s₁.heap →
   s₁.heap.get? fa=some o→o.data=.func (docDef d.name d.params d.body d.scope pm cd doc)→s₁.heap.CodeRec cd d.name→mg d.name=some (.ref fa) →
   s₁.heap.get? a=some { cls:=.type "list",data:=.seq vs.toArray }→IntsAre vs ns→ns.length≤n→s₁.gens = #[] →
   codeAny (model l.prog w) callerA (.call (.ref fa) ⟨[.ref a],[]⟩) (fun r s'=>r=.ok (.ret (.bool true))∧OldK s₁.heap s'.heap∧s'.os=s₁.os∧AllBare s'.gens) s₁) :
  WalkO q loose XP YP l.row.toRowW d [] (fun f vs=>PySem.call f vs):=by
 intro w s₀ s₁ mg mb G Y fa o pm cd doc dV kV ho hd hcd hD hmg hg args vals as hpre hlay hrd hwl hlo
 obtain rfl:dV=.none:=Dflts.none hD hdf
 obtain rfl:kV=.none:=Dflts.noKw hD
 obtain ⟨a,vs,ns,rfl,rfl,hobj,hints,hlen⟩:=aU6 hn hpre hwl
 refine enter_call (codeAny_mono (call w s₀ s₁ mg mb fa o pm cd doc a vs ns G Y ho (fd_plain hd) hcd hmg hobj hints hlen hg) fun r s' hq=>?_)
 obtain ⟨rfl,h2,h3,h4⟩:=hq
 exact ⟨.inl ⟨.bool true,.bool true,[],rfl,fun _=>rfl,.bool true,aV1 l _,fun _=>⟨List.Pairwise.nil,fun _ hm=>(nomatch hm)⟩⟩,h2,h3,h4⟩
end Att
namespace L2
open PySem PySem.Spec PyProof.Rows
theorem aw0:∀ {vs:List Value} {ns:List Int},IntsAre vs ns→t8 (ns.map V.int) vs
 | _,_,.nil=>.nil
 | _,_,.cons n t h=>.cons ⟨t,rfl⟩ (aw0 h)
def bB7 (H:Hp):Prop:=∀ b,H b=none ∨ ∃ o xs,H b=some (.frz o (.lst xs))
theorem be4 {P:Program} {w:World} {K:PySem.W.Frag} {mg mb:Str→Option Value} {CX:CXT} {k:Nat} {fa a:Addr} {fd:FuncData} {x:Str} {sp:Sp} {s₁:Shared} {vs:List Value} {ns:List Int}
  (KX:K.In s₁.heap) (hns:s₁.heap.Ns mainGlobals mg) (hb:s₁.heap.Ns builtinsNs mb) (hbb:∀ x:Str,x ≠ "__name__"→mb x=bootBuiltins x) (hlim:s₁.heap.NoLimit) (hg:s₁.gens = #[])
  (ha:s₁.heap.get? a=some { cls:=.type "list",data:=.seq vs.toArray }) (hi:IntsAre vs ns) (hl:ns.length≤sizeLine) (hr:V6 k callerA)
  (F:∀ base:Heap,K.In base→base.Ns mainGlobals mg→ai9 P w K mg base CX k fa fd [x] sp) (hbind:∀ (s:Shared) (u:Value),BindsTo s fd ⟨[u],[]⟩ [(x,u)])
  (hsp:∀ H:Hp,bB7 H→SqL K H a (ns.map V.int)→sp [.ref a] H (fun v _=>v=.bl true) fun _ _ _=>False)
  (hCX:∀ H e s',CX [] H s₁ (fun _ _ _=>False) e s'→False) :
  codeAny (model P w) callerA (.call (.ref fa) ⟨[.ref a],[]⟩) (fun r s'=>r=.ok (.ret (.bool true))∧OldK s₁.heap s'.heap∧s'.os=s₁.os∧AllBare s'.gens) s₁:=by
 have rv:=aw0 hi
 have lenV:=hi.length
 -- from an abstract heap in which nothing but the script may be tracked
 have core:∀ H:Hp,bB7 H→SqL K H a (ns.map V.int)→HOk P w H s₁.heap→(∀ b,H b ≠ none→b=a)→(H a ≠ none→K.lookup a=none) →
   codeAny (model P w) callerA (.call (.ref fa) ⟨[.ref a],[]⟩) (fun r s'=>r=.ok (.ret (.bool true))∧OldK s₁.heap s'.heap∧s'.os=s₁.os∧AllBare s'.gens) s₁:=by
  intro H hO hS hok hA hK
  have base_of:∀ {b:Addr} {o:Obj},s₁.heap.get? b=some o→H b=none→(aE5 s₁.heap H).get? b=some o:=fun e n=>bf4 e n
  have noA:∀ {b:Addr} {o:Obj} {es:Array DictEntry} {ep:Nat},s₁.heap.get? b=some o→o.data=.dict es ep→H b=none:=fun {b o es ep} e d=>by
   cases q:H b with
   | none=>rfl
   | some u =>
    have e':b=a:=hA b (by rw [q];simp)
    subst e'
    rw [ha] at e;cases e
    have d':Data.seq vs.toArray _=Data.dict es ep:=d
    cases d'
  have nsK:∀ {b:Addr} {m:Str→Option Value},s₁.heap.Ns b m→(aE5 s₁.heap H).Ns b m:=fun {b m} ⟨o,es,ep,e,d,r⟩=>⟨o,es,ep,base_of e (noA e d),d,r⟩
  have hKb:K.In (aE5 s₁.heap H):=fun b o e=>base_of (KX b o e) (by
   cases q:H b with
   | none=>rfl
   | some u =>
    have e':b=a:=hA b (by rw [q];simp)
    subst e'
    rw [hK (by rw [q];simp)] at e;cases e)
  have hM:Mod K mg (aE5 s₁.heap H):=⟨hKb,nsK hns,⟨mb,nsK hb,hbb⟩,let ⟨mc,h1,h2⟩:=hlim;⟨mc,nsK h1,h2⟩⟩
  have e0:aX9 P w K mg (aE5 s₁.heap H) callerA [] s₁ H:=⟨rfl,hM,fun b o e=>bm9 e,Nat.le_of_eq (aV9 _ _),trivial,fun b hb=>absurd (show b ∈ ([]:List Addr) from hb) (by simp),hok,.of_eq hg⟩
  refine codeAny_mono ((F _ hKb (nsK hns)).run callerA [] s₁ H ⟨[.ref a],[]⟩ [.ref a] [.ref a] _ _ hr e0 (hbind s₁ (.ref a)) (.cons rfl .nil) (hsp H hO hS)) fun r s' h=>?_
  cases r with
  | error e=>exact (hCX H e s' h).elim
  | ok fl =>
   cases fl with
   | next=>exact False.elim h
   | brk=>exact False.elim h
   | cont=>exact False.elim h
   | ret u =>
    obtain ⟨v,H',os,bare,un,hok',r',q⟩:=h
    have q':v=.bl true:=q
    subst q'
    obtain rfl:u=Value.bool true:=r'
    refine ⟨rfl,OldK.of_keep fun b o e=>?_,os,bare⟩
    cases q:H b with
    | none=>exact un.keep b o e q (by intro z;exact absurd (show b ∈ ([]:List Addr) from z) (by simp)) (by simp)
    | some u =>
     rcases hO b with z | ⟨ob,xs,z⟩
     ·rw [q] at z;cases z
     ·have z2:=un.frzs b ob _ z
      obtain ⟨e1,_⟩:=hok b _ z
      obtain ⟨e2,_⟩:=hok' b _ z2
      rw [e] at e1;cases e1
      exact e2
 cases hk:K.lookup a with
 | some o =>
  -- the script is one of the module's own objects
  have e:=KX a o hk
  rw [ha] at e
  cases e
  refine core (fun _=>none) (fun _=>.inl rfl) (.inr ⟨_,vs.toArray,_,hk,rfl,rfl,rfl,by rw [List.size_toArray,lenV];exact hl,by simpa using rv⟩) (fun b u z=>by have z':(none:Option HO)=some u:=z;cases z') (fun b z=>absurd rfl z) fun z=>absurd rfl z
 | none =>
  refine core (fun b=>if b=a then some (.frz { cls:=.type "list",data:=.seq vs.toArray } (.lst (ns.map V.int))) else none) (fun b=>?_) (.inl (.inr ⟨{ cls:=.type "list",data:=.seq vs.toArray },if_pos rfl⟩)) (fun b u z=>?_) (fun b z=>?_) fun _=>hk
  ·by_cases hb:b=a
   ·exact .inr ⟨_,_,if_pos hb⟩
   ·exact .inl (if_neg hb)
  ·by_cases hb:b=a
   ·have z':=(if_pos hb).symm.trans z
    cases z'
    subst hb
    exact ⟨ha,by rw [List.length_map];exact hl,vs,_,rv,ha⟩
   ·have z':=(if_neg hb).symm.trans z
    cases z'
  ·by_cases hb:b=a
   ·exact hb
   ·exact absurd (if_neg hb) z
abbrev KOf {K:PySem.W.Frag} {h:Heap} (_:K.In h):PySem.W.Frag:=K
theorem aP0 {l:PySem.W.OpenLaw} {n k:Nat} {q:Program} {loose:List Str} {XP:(Str→Option Value)→Heap→Prop} {YP:World→Heap→Prop} {d:DefRec} {K:Params→PySem.W.Frag} {CX:World→CXT} {sp:World→Sp} {x:Str}
  (hn:l.most=some n) (hn2:n≤sizeLine) (hdf:d.params.defaults=[]) (hr:V6 k callerA)
  (hY:∀ (w:World) (h:Heap),YP w h→(K w.params).In h)
  (F:∀ (w:World) (mg:Str→Option Value) (fa:Addr) (h:Heap),(K w.params).In h→h.Ns mainGlobals mg→mg d.name=some (.ref fa) →
   ∃ fd:FuncData,(∀ (s:Shared) (u:Value),BindsTo s fd ⟨[u],[]⟩ [(x,u)]) ∧
    ∀ base:Heap,(K w.params).In base→base.Ns mainGlobals mg→ai9 l.prog w (K w.params) mg base (CX w) k fa fd [x] (sp w))
  (hsp:∀ (w:World) (H:Hp) (a:Addr) (ns:List Int),ns.length≤n→bB7 H→SqL (K w.params) H a (ns.map V.int)→sp w [.ref a] H (fun v _=>v=.bl true) fun _ _ _=>False)
  (hCX:∀ (w:World) (H:Hp) (s:Shared) (e:Value) (s':Shared),CX w [] H s (fun _ _ _=>False) e s'→False) :
  PySem.W.WalkO q loose XP YP l.row.toRowW d [] (fun f vs=>PySem.call f vs):=by
 refine Att.attach_call hn hdf fun w s₀ s₁ mg mb fa o pm cd doc a vs ns G Y ho hd hcd hmg hobj hints hlen hg=>?_
 have KX:=hY w _ Y
 obtain ⟨fd,hb,hF⟩:=F w mg fa _ KX G.T.g hmg
 exact be4 KX G.T.g G.T.b G.T.builtins G.T.nolimit hg hobj hints (Nat.le_trans hlen hn2) hr hF hb (fun H hO hS=>hsp w H a ns hlen hO hS) fun H e s'=>hCX w H s₁ e s'
end L2
/- THE LAST THEOREM (shape; LID, My.* are yours):
   My.Adr: a structure of the addresses that your layer names (classes, functions); My.Txt K t: a structure (Prop) of the equations over K;
   My.txt_mk : {K} {implicit addresses ..} (e1 : nsIn K mainGlobals "law" = some (some (.ref f))) (e2 : K.lookup f = some ⟨oc, od, .func (fnOf "law" "law" params body scope dV kV doc pm an cdv ct), sl⟩) (e3 : codeIn K cdv "law" = true) .. : ∃ t, My.Txt K t
set_option maxRecDepth 100000 in
set_option maxHeartbeats 0 in
theorem PySem.Challenge.cw_LID_holds : PySem.Challenge.rw_LID.Holds := by
  w_on; o_law; k_head; (case hw => w_witness2)
  k_fill
  refine L2.aP0 (l := PySem.Challenge.rw_LID) (n := 63) (k := 40) (x := "script") (CX := fun w => ..) (sp := fun _ => My.sp_law) rfl (by decide) rfl ⟨rfl, by decide, by decide⟩ (fun w h Y => PySem.W.kIn_of Y) ?F ?S ?C
  case F =>
    intro w mg fa h KX G hmg
    have T : ∃ t, My.Txt (L2.KOf KX) t := by
      dsimp only [L2.KOf]                          -- K must stand as «<heap const> w.params» for k_is
      refine' My.txt_mk ?e1 ?e2 ?e3 ..
      (case e1 => PySem.W.k_is)                    -- in the order: a name -> its address -> its object -> its parts
      (case e2 => PySem.W.k_is)
      ..
    obtain ⟨t, T⟩ := T
    have e0 := hmg.symm.trans (PySem.W.mg_of KX G T.law)
    cases e0                                       -- fa is the law's own address
    exact ⟨_, fun s u => .of_eq rfl, fun base kb nb => My.law_fn T kb nb⟩     -- if «.of_eq rfl» comes too early: refine' ⟨_, ?b, fun base kb nb => My.law_fn T kb nb⟩; exact fun s u => .of_eq rfl
  case S => exact fun w H a ns hl hO hS => ..
  case C => exact ..
(the tactic k_is has no namespace: write k_is) -/
namespace L2
open PySem PySem.Spec PyProof.Rows
def j9 (s:Stmt):Arguments:=match s with
 | .FunctionDef _ a _ _ _ _ _ _ _ _=>a
 | _=>{ posonlyargs:=[],args:=[],vararg:=none,kwonlyargs:=[],kw_defaults:=[],kwarg:=none,defaults:=[] }
def j6 (s:Stmt):List Stmt:=match s with
 | .FunctionDef _ _ b _ _ _ _ _ _ _=>b
 | _=>[]
def d5 (s:Stmt):Scope:=match s with
 | .FunctionDef _ _ _ _ _ _ sc _ _ _=>sc
 | _=>{ kind:=.function,names:=[],isGenerator:=false,isCoroutine:=false }
abbrev CX0:CXT:=fun _ _ _ _ _ _=>False
abbrev E0:XK:=fun _ _ _=>False
theorem j5 {X:Cx}:at7 CX0 X E0:=fun _ _ _ _ _ _ _ h=>h.elim
structure Fun (K:PySem.W.Frag) (x qual:Str) (st:Stmt) (f:Addr) (fd:FuncData):Prop where
 ex:∃ (oc:Value) (od:Option Addr) (kV doc pm:Value) (an:Option Addr) (cdv ct:Value) (osl:Array (Option Value)),
  fd=PySem.W.fnOf x qual (j9 st) (j6 st) (d5 st) .none kV doc pm an cdv ct∧K.lookup f=some ⟨oc,od,.func fd,osl⟩∧PySem.W.codeIn K cdv qual=true
 kp:PySem.W.keepIn K (.ref f)=true
section
variable {P:Program} {w:World} {K:PySem.W.Frag} {mg:Str→Option Value} {base:Heap}
theorem Fun.ok {x qual:Str} {st:Stmt} {f:Addr} {fd:FuncData} {N ps:List Str} {k:Nat} {sp:Sp} (F:Fun K x qual st f fd) (S:j7 N ps (d5 st)) (len:∀ vs H Q E,sp vs H Q E→vs.length=ps.length)
  (hbody:∀ (cdv:Value) (A:Around) (outer:List Env) (s:Shared) (H:Hp) (vs:List V) (Q:VK) (E:XK),V6 k (A.deeper (envOfC qual (d5 st) s.heap.objs.size f cdv))→sp vs H Q E →
   ∃ t,PSs (ao2 CX0 P w K mg base N qual (d5 st) f cdv A outer s H E).nox (j6 st) t∧t { nx:=fun _ H'=>Q .non H',rt:=Q } (start N vs) H):ai9 P w K mg base CX0 (k + 1) f fd ps sp:=by
 obtain ⟨oc,od,kV,doc,pm,an,cdv,ct,osl,rfl,lk,hcd⟩:=F.ex
 refine bs8 lk hcd S len fun A outer s H vs Q E hr hsp=>?_
 obtain ⟨t,h,q⟩:=hbody cdv A outer s H vs Q E hr hsp
 exact ⟨t,h.nox,q⟩
theorem Fun.binds {x qual:Str} {st:Stmt} {f:Addr} {fd:FuncData} {ps:List Str} (F:Fun K x qual st f fd)
  (h:∀ (kV doc pm:Value) (an:Option Addr) (cdv ct:Value) (us:List Value),us.length=ps.length→bindArgs (PySem.W.fnOf x qual (j9 st) (j6 st) (d5 st) .none kV doc pm an cdv ct) ⟨us,[]⟩=pure (ps.zip us)):ac7 K fd ps []:=by
 obtain ⟨oc,od,kV,doc,pm,an,cdv,ct,osl,rfl,lk,hcd⟩:=F.ex
 exact .all (h kV doc pm an cdv ct)
theorem t5 {x qual:Str} {st:Stmt} {f:Addr} {oc:Value} {od an:Option Addr} {osl:Array (Option Value)} {kV doc pm cdv ct:Value} (l:K.lookup f=some ⟨oc,od,.func (PySem.W.fnOf x qual (j9 st) (j6 st) (d5 st) .none kV doc pm an cdv ct),osl⟩)
  (c:PySem.W.codeIn K cdv qual=true) (k:PySem.W.keepIn K (.ref f)=true):Fun K x qual st f (PySem.W.fnOf x qual (j9 st) (j6 st) (d5 st) .none kV doc pm an cdv ct):=⟨⟨oc,od,kV,doc,pm,an,cdv,ct,osl,rfl,l,c⟩,k⟩
end
section
variable {X:Cx}
theorem pv (i : Nat) {x : Str} {pos : Pos} (hN : X.N[i]? = some x := by rfl) (hv : Vis X.env.scope x := by first | exact Or.inl rfl | exact Or.inr (Or.inl rfl) | exact Or.inr (Or.inr rfl)) (hd : (x == ("__debug__" : Str)) = false := by decide)
    (hcd : (x == ("__classdict__" : Str)) = false := by decide) : PE X (.Name x pos) (Y7 i) := bw5 hN hv hd hcd
end
theorem bF6 {A B:Prop} (h:A):if true=true then A else B:=by
 rw [if_pos rfl]
 exact h
theorem D5 {c A B:Prop} [Decidable c] (h1:c→A) (h2:¬ c→B):if c then A else B:=by
 by_cases h:c
 ·rw [if_pos h]
  exact h1 h
 ·rw [if_neg h]
  exact h2 h
def d9 (H H':Hp):Prop:=∀ b o,H b=some o→H' b=some o
theorem d9.refl (H:Hp):d9 H H:=fun _ _ h=>h
theorem d9.trans {H H1 H2:Hp} (a:d9 H H1) (b:d9 H1 H2):d9 H H2:=fun c o h=>b c o (a c o h)
theorem d9.free {H H':Hp} (e:d9 H H') {l:Addr} (h:H' l=Option.none):H l=Option.none:=by
 cases q:H l with
 | none=>rfl
 | some o =>
  rw [e l o q] at h
  cases h
theorem d9.seq {K:PySem.W.Frag} {H H':Hp} {a:Addr} {xs:List V} (e:d9 H H') (h:SqL K H a xs):SqL K H' a xs:=by
 rcases h with (h | ⟨o,h⟩) | h
 ·exact .inl (.inl (e _ _ h))
 ·exact .inl (.inr ⟨o,e _ _ h⟩)
 ·exact .inr h
section
variable {P:Program} {w:World} {H:Hp} {h:Heap} {a:Addr} {o:HO}
theorem G2.there (x:G2 P w H h a o):∃ ob,h.get? a=some ob:=by
 cases o with
 | lst xs=>obtain ⟨_,_,_,_,e⟩:=x;exact ⟨_,e⟩
 | tup xs=>obtain ⟨_,_,_,ob,e,_⟩:=x;exact ⟨_,e⟩
 | dK kvs=>obtain ⟨_,_,_,_,o,_,_,e,_⟩:=x;exact ⟨_,e⟩
 | dT kvs=>obtain ⟨_,_,_,_,o,_,_,e,_⟩:=x;exact ⟨_,e⟩
 | set S n=>obtain ⟨o,_,_,_,e,_⟩:=x;exact ⟨_,e⟩
 | ins C dx fs=>obtain ⟨_,_,_,e,_⟩:=x;exact ⟨_,e⟩
 | own y=>obtain ⟨_,e⟩:=x;exact ⟨_,e⟩
 | xd fs=>obtain ⟨_,⟨_,_,_,e,_⟩,_⟩:=x;exact ⟨_,e⟩
 | rng lo hi=>obtain ⟨_,_,_,e⟩:=x;exact ⟨_,e⟩
 | frz ob u=>obtain ⟨e,_⟩:=x;exact ⟨_,e⟩
 | tbl ps=>exact ⟨_,(show h.get? a=some _ from x)⟩
 | met f y=>exact ⟨_,(show h.get? a=some _ from x)⟩
 | ext φ=>obtain ⟨_,e,_⟩:=x;exact e
end
def CXR (P:Program) (w:World):CXT:=fun outer H s E e s' => ∃ (a:Addr) (cls a0:Value) (H':Hp) (B:Heap),e=.ref a∧s'.os=s.os∧AllBare s'.gens ∧
 Heap.FlyingW B outer a cls a0 s'.heap∧(∀ b o,s.heap.get? b=some o→H b=none→b ∉ frs outer→B.get? b=some o)∧(∀ b o,s.heap.get? b=some o→b ∉ frs outer→∃ o',B.get? b=some o') ∧
 HOk P w H' B∧Un (frs outer) [] H H' s.heap s'.heap∧H' a=none∧E cls none H'
def bj2 (X:Cx) (R:Value→Hp→Prop):Prop:=∀ (pins:List (Addr × Obj)) (σ:St) (H:Hp) (s:Shared) (h':Heap) (e:Addr) (cls:Value) (vs:List Value),Inv X pins σ H s→Heap.MadeExcOf s.heap h' e cls vs→R cls H →
 X.xe (.ref e) { s with heap:=h' }
section
variable {CX:CXT} {P:Program} {w:World} {K:PySem.W.Frag} {mg:Str→Option Value} {base:Heap} {N:List Str} {qual:Str} {scope:Scope} {f:Addr} {cd:Value} {A:Around} {outer:List Env} {s₀:Shared} {H₀:Hp} {E:XK}
abbrev cxR (P:Program) (w:World) (K:PySem.W.Frag) (mg:Str→Option Value) (base:Heap) (N:List Str) (qual:Str) (scope:Scope) (f:Addr) (cd:Value) (A:Around) (outer:List Env) (s₀:Shared) (H₀:Hp) (E:XK):Cx:=ao2 (CXR P w) P w K mg base N qual scope f cd A outer s₀ H₀ E
theorem bz4 {X:Cx} {pins:List (Addr × Obj)} {σ:St} {H:Hp} {s:Shared} (I:Inv X pins σ H s):HOk X.prog X.w H (PySem.W.hideAll s.heap (frs X.stack)):=fun b u e=>by
 refine (I.hok b u e).stay (fun c v hc q=>PySem.W.hideAll_get _ q fun hm=>?_) (fun _ q=>q) fun _ _ q=>q
 have z:=I.stkFree c hm
 rcases hc with rfl | hc
 ·rw [z] at e;cases e
 ·rw [z] at hc;cases hc
theorem aw9:bj2 (cxR P w K mg base N qual scope f cd A outer s₀ H₀ E) (fun cls H'=>E cls none H'):=by
 intro pins σ H s h' e cls vs I hx hE
 have frS:=I.stack
 have hin:∀ env ∈ (cxR P w K mg base N qual scope f cd A outer s₀ H₀ E).stack,∀ b,env.frame=some b→b ∈ frs (cxR P w K mg base N qual scope f cd A outer s₀ H₀ E).stack:=fun env he b hb=>List.mem_filterMap.mpr ⟨env,he,hb⟩
 have lo:∀ b o,s₀.heap.get? b=some o→b ∉ frs outer→b ∉ frs (cxR P w K mg base N qual scope f cd A outer s₀ H₀ E).stack:=fun b o q hb hm=>by
  rcases List.mem_cons.mp (I.stkSub b hm) with z | z
  ·exact absurd z (Nat.ne_of_lt (Nat.lt_of_lt_of_le (Heap.lt_size q) I.ok.above))
  ·exact hb z
 refine wpAny_leaves_madeW (base:=PySem.W.hideAll s.heap (frs (cxR P w K mg base N qual scope f cd A outer s₀ H₀ E).stack)) I.ok.frames rfl (fun b o q=>PySem.W.of_hideAll _ q) (PySem.W.funFrames_hide frS hin) hx fun h2 t x1 x2 x3 x4=>?_
 have hk:∀ b o,s.heap.get? b=some o→b ∉ frs (cxR P w K mg base N qual scope f cd A outer s₀ H₀ E).stack→h2.get? b=some o:=fun b o q hb=>x1.1 b o (PySem.W.hideAll_get _ q hb)
 have hfr:∀ b o,s.heap.get? b=some o→b ∈ frs (cxR P w K mg base N qual scope f cd A outer s₀ H₀ E).stack→∃ sl,h2.get? b=some { o with slots:=sl }:=fun b o q hb=>by
  obtain ⟨_,ob,hob,hnf⟩:=frS.mem hb
  rw [q] at hob;cases hob
  exact x4 b o (hx.keeps b o q) hnf
 have hany:∀ b o,s.heap.get? b=some o→∃ o',h2.get? b=some o':=fun b o q=>by
  by_cases hb:b ∈ frs (cxR P w K mg base N qual scope f cd A outer s₀ H₀ E).stack
  ·obtain ⟨sl,z⟩:=hfr b o q hb;exact ⟨_,z⟩
  ·exact ⟨_,hk b o q hb⟩
 have nx:∀ b:Addr,b ∉ (cxR P w K mg base N qual scope f cd A outer s₀ H₀ E).ex:=fun b z=>absurd (show b ∈ ([]:List Addr) from z) (by simp)
 refine ⟨e,cls,.ref t,H,_,rfl,I.os,I.bare,x1,fun b o q n hb=>PySem.W.hideAll_get _ (I.base.keep b o q n hb (nx b)) (lo b o q hb),fun b o q hb=>?_,bz4 I,⟨fun b o q n hb _=>?_,fun b o q n hb _=>?_,fun b o q n _=>I.base.free b o q n (nx b),fun b o q _=>?_,I.base.tups,I.base.frzs,I.base.tbls⟩,?_,hE⟩
 ·obtain ⟨o',z⟩:=I.base.there b o q (nx b)
  exact ⟨o',PySem.W.hideAll_get _ z (lo b o q hb)⟩
 ·exact hk b o (I.base.keep b o q n hb (nx b)) (lo b o q hb)
 ·obtain ⟨sl,z⟩:=I.base.slot b o q n hb (nx b)
  have hm:b ∈ frs (cxR P w K mg base N qual scope f cd A outer s₀ H₀ E).stack:=by
   show b ∈ frs (_ :: outer)
   unfold frs at hb ⊢
   rw [List.filterMap_cons]
   exact List.mem_cons_of_mem _ hb
  obtain ⟨sl',z'⟩:=hfr b _ z hm
  exact ⟨sl',z'⟩
 ·obtain ⟨o',z⟩:=I.base.there b o q (nx b)
  exact hany b o' z
 ·cases q:H e with
  | none=>rfl
  | some u =>
   obtain ⟨ob,z⟩:=(I.hok e u q).there
   rw [hx.new] at z;cases z
end
structure bq4 (K:PySem.W.Frag) (C:Addr) (bm:List Value) (newId:String):Prop where
 ok:PySem.W.excIn K C bm newId=true
theorem bq4.obj {K:PySem.W.Frag} {C:Addr} {bm:List Value} {newId:String} (O:bq4 K C bm newId) {h:Heap} (X:K.In h) :
  ∃ tl N nm q bs hdct sn sub ab col dd k0 k1 k2 k3 k5 mN,h.get? C=some (excClassObj nm q C N bs tl hdct sn sub ab col dd k0 k1 k2 k3 k5 newId)∧h.Ns N mN∧mN "__init__" = none∧OwnTail h bm tl:=by
 have q:=O.ok
 unfold PySem.W.excIn at q
 split at q
 ·rename_i dd cd sl ho
  split at q
  ·rename_i C' bm' k0 k1 k2 k3 n k5 hm hs
   simp only [Bool.and_eq_true,beq_iff_eq,Bool.not_eq_true'] at q
   obtain ⟨⟨⟨⟨⟨rfl,rfl⟩,hdel⟩,ht⟩,hok⟩,hni⟩:=q
   obtain ⟨nm,bs,mro,ns,qn,hd,sn,sub,ab,col,del⟩:=cd
   dsimp only at hm hdel hok hni
   subst hm hdel
   have hsl:sl = #[k0,k1,k2,k3,some (.builtin n),k5]:=by
    obtain ⟨l⟩:=sl
    simp only at hs
    rw [hs]
   subst hsl
   exact ⟨bm',ns,nm,qn,bs,hd,sn,sub,ab,col,dd,k0,k1,k2,k3,k5,_,X _ _ ho,.of_isNs (PySem.W.isNs_of_in X hok),PySem.W.nsMap_none_of_in X hok hni,PySem.W.tail_of_in X ht⟩
  ·cases q
 ·cases q
section
variable {X:Cx} {x:Str} {C:Addr} {bm:List Value} {newId B initId:String} {e:Expr} {es:List Expr} {te:TA} {np cpos pos:Pos} {R:Value→Hp→Prop}
def aK6 (C:Addr) (te:TA) (R:Value→Hp→Prop):TS:=fun _ σ H=>te σ H fun vs H1=>vs.length≤sizeLine∧R (.ref C) H1
theorem aH6 (O:bq4 X.K C bm newId) (FB:ExcBaseFacts B newId initId bm) (hc:X.calm=true) (hg:Gl X x) (hm:X.mg x=some (.ref C)) (hr:bj2 X R) (he:PA X (e :: es) te)
  (hst:starEach (e :: es) X.env=(false,eval e X.env) :: starEach es X.env:=by rfl) (hplain:(backTo cpos (starEach es X.env)).any (·.1)=false:=by rfl) (hd:(x == ("__debug__" : Str))=false:=by decide) :
  PS X (.Raise (some (.Call (.Name x np) (e :: es) [] cpos)) none pos) (aK6 C te R):=by
 intro pins s σ H D I h
 obtain ⟨tl,N,nm,q,bs,hdct,sn,sub,ab,col,dd,k0,k1,k2,k3,k5,mN,hC,hN,hni,T⟩:=O.obj I.ok.mod.kin
 refine wpAny_Raise_call_subT (C:=C) (nm:=nm) (q:=q) (N:=N) (bs:=bs) (bm:=tl) (hdct:=hdct) (sn:=sn) (sub:=sub) (ab:=ab) (col:=col) (dd:=dd) (k0:=k0) (k1:=k1) (k2:=k2) (k3:=k3) (k5:=k5)
  FB (mN:=mN) (T.hasType FB.hasBase) (I.ok.hd hc) (by rw [hst];show (false || (backTo cpos (starEach es X.env)).any (·.1))=false;rw [hplain];rfl) hni (ah8 I hg hm ⟨rfl,?_⟩ hd)
 have hA:=he cpos pins s σ H _ I h
 rw [hst] at hA ⊢
 refine Calls.evalArgs_plain (thn hA fun us s2 ⟨vs,H1,I1,r1,hl,q1⟩=>⟨rfl,?_,I1.bk _ _ hC,hN.keeps I1.bk,T.keeps I1.bk,fun h' a hx=>hr pins σ H1 s2 h' a _ us I1 hx q1⟩)
 show us.length≤sizeLine
 rw [← r1.length];exact hl
end
section
variable {X:Cx} {pins:List (Addr × Obj)} {σ:St} {H H':Hp} {s s':Shared}
theorem Inv.reA {A2:Around} {c2:Bool} {E2:Value→Shared→Prop} (I:Inv X pins σ H s) (hf:A2.frames=X.A.frames) (hc:c2=true→A2.handled=none):Inv { X with A:=A2,calm:=c2,xe:=E2 } pins σ H s :=
 ⟨⟨I.ok.mod,I.ok.kind,I.ok.glob,I.ok.blt,I.ok.above,I.ok.inj,I.ok.has,I.ok.cab,hc,hf.trans I.ok.frames,I.ok.stk,I.ok.exf,I.ok.bs,I.ok.bsz,I.ok.noex,I.ok.exfs,I.ok.funs,I.ok.frf⟩,
  I.os,I.bare,I.base,I.loc,I.cell,I.free,I.freeC,I.pin,I.hok,I.len⟩
theorem Inv.unA {A2:Around} {c2:Bool} {E2:Value→Shared→Prop} (I:Inv { X with A:=A2,calm:=c2,xe:=E2 } pins σ H s) (ok:X.Ok):Inv X pins σ H s :=
 ⟨ok,I.os,I.bare,I.base,I.loc,I.cell,I.free,I.freeC,I.pin,I.hok,I.len⟩
theorem Inv.bear {E2:Value→Shared→Prop} (I:Inv X pins σ H s):Inv { X with xe:=E2,pn:=X.pn ++ pins } [] σ H s :=
 ⟨⟨I.ok.mod,I.ok.kind,I.ok.glob,I.ok.blt,I.ok.above,I.ok.inj,I.ok.has,I.ok.cab,I.ok.hd,I.ok.frames,I.ok.stk,I.ok.exf,I.ok.bs,I.ok.bsz,I.ok.noex,I.ok.exfs,I.ok.funs,I.ok.frf⟩,
  I.os,I.bare,I.base,I.loc,I.cell,I.free,I.freeC,fun p hp=>I.pin p (by simpa using hp),I.hok,I.len⟩
theorem Inv.unbear {E2:Value→Shared→Prop} {pins':List (Addr × Obj)} (I:Inv { X with xe:=E2,pn:=X.pn ++ pins } pins' σ H s):Inv X pins σ H s :=
 ⟨⟨I.ok.mod,I.ok.kind,I.ok.glob,I.ok.blt,I.ok.above,I.ok.inj,I.ok.has,I.ok.cab,I.ok.hd,I.ok.frames,I.ok.stk,I.ok.exf,I.ok.bs,I.ok.bsz,I.ok.noex,I.ok.exfs,I.ok.funs,I.ok.frf⟩,
  I.os,I.bare,I.base,I.loc,I.cell,I.free,I.freeC,fun p hp=>I.pin p (List.mem_append_left _ hp),I.hok,I.len⟩
def al5 (X:Cx):St:=List.replicate X.N.length none
theorem Inv.forget (I:Inv X pins σ H s):Inv X pins (al5 X) H s :=
 I.weak (by unfold al5;rw [List.length_replicate];exact I.len.symm) fun i v e=>by
  unfold al5 at e
  rw [List.getElem?_replicate] at e
  split at e <;> cases e
theorem Inv.relocal {h':Heap} {m':Str→Option Value} {t':Nat} (I:Inv X pins σ H s) (hn':h'.Ns X.env.locals m') (hs:Heap.SameBut X.env.locals s.heap h'):Inv X pins (al5 X) H { s with heap:=h',toks:=t' }:=by
 have cne:=I.cne
 refine ⟨I.ok,I.os,I.bare,⟨fun b o e n hb hx=>?_,fun b o e n hb hx=>?_,I.base.free,fun b o e hx=>?_,I.base.tups,I.base.frzs,I.base.tbls⟩,⟨_,hn',fun j y v' e1 e2 e3=>?_⟩,fun y c e=>?_,I.free,I.freeC,fun p hp=>?_,fun b ob e=>?_,?_⟩
 ·exact (hs.2 b (Nat.ne_of_lt (Nat.lt_of_lt_of_le (Heap.lt_size e) I.ok.above))).trans (I.base.keep b o e n hb hx)
 ·obtain ⟨sl,e1⟩:=I.base.slot b o e n hb hx
  exact ⟨sl,(hs.2 b (Nat.ne_of_lt (Nat.lt_of_lt_of_le (Heap.lt_size e) I.ok.above))).trans e1⟩
 ·obtain ⟨o',e1⟩:=I.base.there b o e hx
  exact ⟨o',(hs.2 b (Nat.ne_of_lt (Nat.lt_of_lt_of_le (Heap.lt_size e) I.ok.above))).trans e1⟩
 ·unfold al5 at e2
  rw [List.getElem?_replicate] at e2
  split at e2 <;> cases e2
 ·obtain ⟨w',z⟩:=I.cell y c e
  exact ⟨w',z.sameBut hs (cne y c e)⟩
 ·obtain ⟨e,n,ne,nf,d⟩:=I.pin p hp
  exact ⟨(hs.2 p.1 ne).trans e,n,ne,nf,d⟩
 ·refine (I.hok b ob e).stay (fun c w' hc q=>(hs.2 c ?_).trans q) (fun _ q=>q) fun _ _ q=>q
  rintro rfl
  rcases hc with rfl | hc
  ·rw [I.free] at e;cases e
  ·rw [I.free] at hc;cases hc
 ·show (List.replicate X.N.length none).length=_
  exact List.length_replicate
def Exc (cls:Value) (a:Addr):HO:=.ext fun h => ∃ o vs,h.get? a=some o∧o.cls=cls∧o.data=.fields vs
end
theorem Exc.ok {P:Program} {w:World} {H:Hp} {h:Heap} {cls:Value} {a:Addr} {o:Obj} {vs:Array Value} (h1:h.get? a=some o) (h2:o.cls=cls) (h3:o.data=.fields vs):G2 P w H h a (Exc cls a) :=
 ⟨⟨o,vs,h1,h2,h3⟩,⟨o,h1⟩,fun _ _ ⟨o,vs,q1,q2,q3⟩ k=>⟨o,vs,k o q1,q2,q3⟩⟩
theorem Inv.track {X:Cx} {pins:List (Addr × Obj)} {σ:St} {H:Hp} {s:Shared} {o:HO} {a:Addr} (I:Inv X pins σ H s) (hn:H a=none) (new:G2 X.prog X.w (upd H a o) s.heap a o)
  (h1:∀ b ob,X.s₀.heap.get? b=some ob→X.H₀ b=none→b ∉ X.ex→b ≠ a) (h2:X.env.locals ≠ a) (h3:∀ x c,X.env.cells.lookup x=some c→c ≠ a) (h4:∀ p ∈ X.pn ++ pins,p.1 ≠ a):Inv X pins σ (upd H a o) s :=
 ⟨I.ok,I.os,I.bare,⟨I.base.keep,I.base.slot,fun b ob q n hx=>by rw [j3 (h1 b ob q n hx)];exact I.base.free b ob q n hx,I.base.there,fun b xs q=>by rw [j3 (i5 (I.base.tups b xs q) hn)];exact I.base.tups b xs q,
   fun b ob u q=>by rw [j3 (i5 (I.base.frzs b ob u q) hn)];exact I.base.frzs b ob u q,fun b ps q=>by obtain ⟨m,z⟩:=I.base.tbls b ps q;exact ⟨m,by rw [j3 (i5 z hn)];exact z⟩⟩,
  I.loc,I.cell,by rw [j3 h2];exact I.free,fun x c q=>by rw [j3 (h3 x c q)];exact I.freeC x c q,fun p hp=>let ⟨e1,e2,e3⟩:=I.pin p hp;⟨e1,by rw [j3 (h4 p hp)];exact e2,e3⟩,
  fun b u e=>by
   by_cases hb:b=a
   ·subst hb;rw [d7] at e;cases e;exact new
   ·rw [j3 hb] at e
    exact (I.hok b u e).stay (fun _ _ _ q=>q) (fun c q=>by rw [j3 (i5 q hn)];exact q) fun c xs q=>by rw [j3 (i5 q hn)];exact q,
  I.len⟩
theorem Inv.caught {X:Cx} {pins:List (Addr × Obj)} {σ:St} {H:Hp} {s s':Shared} {a:Addr} {cls a0:Value} {H':Hp} {B h6:Heap} (I:Inv X pins σ H s) (os:s'.os=s.os) (bare:AllBare s'.gens) (fl:Heap.FlyingW B X.stack a cls a0 s'.heap)
  (hB:∀ b o,s.heap.get? b=some o→H b=none→b ∉ frs X.stack→B.get? b=some o) (hth:∀ b o,s.heap.get? b=some o→b ∉ frs X.stack→∃ o',B.get? b=some o') (hok:HOk X.prog X.w H' B)
  (un:Un (frs X.stack) [] H H' s.heap s'.heap) (st:B.StaysIn h6) (up:s'.heap.UpToSlots h6):Inv X pins σ H' { s' with heap:=h6 }:=by
 have hfr:∀ b o,s'.heap.get? b=some o→b ∈ frs X.stack→∃ sl,h6.get? b=some { o with slots:=sl }:=fun b o q hb=>by
  obtain ⟨_,ob,hob,hnf⟩:=fl.2.2.1.mem hb
  rw [q] at hob;cases hob
  exact up b o q hnf
 refine I.call' (s':={ s' with heap:=h6 }) (ch:=[]) os ⟨fun b o q n hb _=>st b o (hB b o q n hb),fun b o q n hb _=>?_,un.free,fun b o q _=>?_,un.tups,un.frzs,un.tbls⟩ (hok.kept fun b u q=>st b u q) bare (fun b z=>absurd z (by simp))
 ·obtain ⟨sl,z⟩:=un.slot b o q n hb (by simp)
  obtain ⟨sl2,z2⟩:=hfr b _ z hb
  exact ⟨sl2,z2⟩
 ·by_cases hb:b ∈ frs X.stack
  ·obtain ⟨o2,z2⟩:=un.there b o q (by simp)
   obtain ⟨sl,z3⟩:=hfr b o2 z2 hb
   exact ⟨_,z3⟩
  ·obtain ⟨o2,z2⟩:=hth b o q hb
   exact ⟨o2,st b o2 z2⟩
abbrev Cx.body (X:Cx) (xe:Value→Shared→Prop) (pn:List (Addr × Obj)):Cx:={ X with xe:=xe,pn:=pn }
abbrev Cx.suite (X:Cx) (a:Addr):Cx:={ X with A:=X.A.mark (some (.ref a)),calm:=false,xe:=fun _ _=>False }
def bC1 (K:PySem.W.Frag) (n C i:Nat) (tb:XK→TS) (th:Addr→TS):TS:=fun D σ H =>
 tb (fun cls _ H'=>PySem.W.exmOne K cls (.ref C)=some true∧∀ a,H' a=none→th a { nx:=fun _ _=>False,rt:=D.rt } ((List.replicate n none).set i (some (.ref a))) (upd H' a (Exc cls a))) D σ H
section
variable {X:Cx}
theorem bw0 {body:List Stmt} {x n:Str} {C:Addr} {i:Nat} {b₀:Stmt} {suite:List Stmt} {tb:XK→TS} {th:Addr→TS} {np hpos pos:Pos} {l:List Env} (hst:X.stack=X.env :: l) (hfr:X.env.frame=some X.env.locals)
  (hex0:X.ex=[]) (hN:X.N.Nodup) (hi:X.N[i]? = some n) (hl:X.env.kindOf n=some .local) (hg:Gl X x) (hm:X.mg x=some (.ref C)) 
  (hb:∀ (E:XK) (xe:Value→Shared→Prop) (pn:List (Addr × Obj)),at7 (CXR X.prog X.w) (X.body xe pn) E→PSs (X.body xe pn) body (tb E))
  (hs:∀ a,PSs (X.suite a) (b₀ :: suite) (th a)) (hd:(x == ("__debug__" : Str))=false:=by decide) :
  PS X (.Try body [.ExceptHandler (some (.Name x np)) (some n) (b₀ :: suite) hpos] [] [] pos) (bC1 X.K X.N.length C i tb th):=by
 intro pins s σ H D I h
 refine wpAny_Try_except ?_
 refine wpAny_mono (hb _ (fun e s₁=>wpAny (model X.prog X.w) X.A (noteFrame e X.env) (fun _ s₂=>wpAny (model X.prog X.w) X.A (setFlight e none) (fun _ s₃=>wpAny (model X.prog X.w) X.A (handleBy e X.env [.ExceptHandler (some (.Name x np)) (some n) (b₀ :: suite) hpos]) (SP X pins D) X.xe s₃) X.xe s₂) X.xe s₁) (X.pn ++ pins) ?_ [] s σ H D I.bear h) ?_ fun _ _ z=>z
 case refine_2 =>
  intro f s1 hf
  cases f with
  | next =>
   obtain ⟨σ',H',J,q⟩:=hf
   exact wpAny_execs_nil ⟨σ',H',J.unbear,q⟩
  | brk =>
   obtain ⟨σ',H',J,q⟩:=hf
   exact ⟨σ',H',J.unbear,q⟩
  | cont =>
   obtain ⟨σ',H',J,q⟩:=hf
   exact ⟨σ',H',J.unbear,q⟩
  | ret u =>
   obtain ⟨v,σ',H',J,r,q⟩:=hf
   exact ⟨v,σ',H',J.unbear,r,q⟩
 case refine_1 =>
  intro pins' σ' H1 s1 e s2 J0 hcx
  have J:Inv X pins σ' H1 s1:=J0.unbear
  obtain ⟨a,cls,a0,H2,B,rfl,os,bare,fl,hB,hth,hok,un,hn,hE⟩:=hcx
  obtain ⟨hex,hsu⟩:=hE
  have fl':Heap.FlyingW B (X.env :: l) a cls a0 s2.heap:=by rw [← hst];exact fl
  refine wpAny_looks_onW (by rw [J.ok.frames,hst]) hfr fl' fun h4 held4 up4=>?_
  refine wpAny_landsW held4 fun h5 fl5 up5=>?_
  have J5:Inv X pins σ' H2 { s2 with heap:=h5 }:=J.caught os bare fl hB hth hok un fl5.1 (up4.trans up5)
  obtain ⟨ob,hob,hobc⟩:=fl5.there
  have LT:PySem.W.Looks (model X.prog X.w) h5 (typeOf (.ref a)) cls:=hobc ▸ (PySem.W.Looks.ld hob).andThen .now
  have J5h:Inv (X.suite a) pins σ' H2 { s2 with heap:=h5 }:=J5.reA rfl (fun z=>nomatch z)
  refine wpAny_handleBy_cons (codeAny_handlers_test (ah8 (X:=X.suite a) J5h hg hm ?_ hd)) (by intro q;cases q)
  refine (PySem.W.exm_one (M:=model X.prog X.w) J5.kIn LT hex).at ?_
  refine codeAny_handlers_suite_as ?_
  refine lands_againW fl5 fun h6 fl6 up6=>?_
  have J6:Inv X pins σ' H2 { s2 with heap:=h6 }:=J.caught os bare fl hB hth hok un fl6.1 ((up4.trans up5).trans up6)
  have J6h:Inv (X.suite a) pins (al5 X) H2 { s2 with heap:=h6 }:=(show Inv (X.suite a) pins σ' H2 { s2 with heap:=h6 } from J6.reA rfl (fun z=>nomatch z)).forget
  -- the exception is tracked
  obtain ⟨oe,ws,hoe,hoec,hoed,_⟩:=fl6.first
  have nfr:∀ b ∈ frs X.stack,b ≠ a:=fun b hb z=>by
   obtain ⟨_,o',ho',hnf⟩:=fl6.2.2.1.mem (show b ∈ frs (X.env :: l) from hst ▸ hb)
   subst z
   have ho6:h6.get? b=some o':=ho'
   rw [hoe] at ho6;cases ho6
   exact hnf ws hoed
  have nB:∀ b o,B.get? b=some o→b ≠ a:=fun b o q z=>by rw [z,fl.2.1] at q;cases q
  have nL:X.env.locals ≠ a:=nfr _ (by rw [hst];unfold frs;rw [List.filterMap_cons,hfr];exact List.mem_cons_self)
  have J7:Inv (X.suite a) pins (al5 X) (upd H2 a (Exc cls a)) { s2 with heap:=h6 }:=by
   refine J6h.track hn (Exc.ok hoe hoec hoed) (fun b ob q n hx=>?_) nL (fun y c q=>?_) (fun p hp=>?_)
   ·have hx':b ∉ X.ex:=hx
    by_cases hbf:b ∈ frs X.stack
    ·exact nfr b hbf
    ·have z1:b ∉ X.fs:=fun z=>hbf (by
      rcases J.ok.stk with e | ⟨e,_⟩
      ·rw [e];exact z
      ·rw [e];unfold frs;rw [List.filterMap_cons,hfr];exact List.mem_cons_of_mem _ z)
     exact nB b ob (hB b ob (J.base.keep b ob q n z1 hx') (J.base.free b ob q n hx') hbf)
   ·obtain ⟨v,o',ho',hd'⟩:=J6h.cell y c q
    intro z
    subst z
    have z1:h6.get? c=some o':=ho'
    rw [hoe] at z1;cases z1
    rw [hoed] at hd';cases hd'
   ·have hp':p ∈ X.pn ++ pins:=hp
    obtain ⟨e1,e2,e3,e4,_⟩:=J.pin p hp'
    refine nB p.1 p.2 (hB p.1 p.2 e1 e2 fun z=>?_)
    rcases List.mem_cons.mp (J.stkSub p.1 z) with y | y
    ·exact e3 y
    ·exact e4 y
  refine W7 (X:=X.suite a) J7 hN hi (.inl hl) (v:=.ref a) (u:=.ref a) rfl (fun s8 J8=>?_) (.inr hl)
  refine wpAny_mono (hs a pins s8 _ _ { nx:=fun _ _=>False,rt:=D.rt } J8 (hsu a hn)) (fun f s9 hf=>?_) fun _ _ z=>False.elim z
  cases f with
  | next=>obtain ⟨_,_,_,q⟩:=hf;exact False.elim q
  | brk=>obtain ⟨_,_,_,q⟩:=hf;exact False.elim q
  | cont=>obtain ⟨_,_,_,q⟩:=hf;exact False.elim q
  | ret u =>
   obtain ⟨v,σ9,H9,J9,r9,q9⟩:=hf
   obtain ⟨m9,hn9,_⟩:=id J9.loc
   have J9':Inv X pins σ9 H9 s9:=J9.unA J.ok
   refine wpAny_nameGoes hl hn9 (by rw [J.ok.kind];rfl) fun h' m' hn' hs'=>?_
   exact ⟨v,al5 X,H9,J9'.relocal hn' hs',r9,q9⟩
end
structure P1 (k:Nat) (A:Around):Prop where
 dp:A.depth + 3 * k + 5 < recursionLimit
 un:A.units + 16 * k + 200 < cLine
theorem V6.toX {k:Nat} {A:Around} (r:V6 k A):P1 k A:=⟨r.dp,r.un⟩
theorem P1.mono {j k:Nat} {A:Around} (r:P1 k A) (h:j≤k):P1 j A:=⟨by have:=r.dp;omega,by have:=r.un;omega⟩
theorem P1.deeper {k:Nat} {A:Around} (r:P1 (k + 1) A) (env:Env):P1 k (A.deeper env) :=
 ⟨by have:=r.dp;show A.depth + 1 + 3 * k + 5 < _;omega,by have:=r.un;show A.units + 3 + 16 * k + 200 < _;omega⟩
theorem P1.mark {k:Nat} {A:Around} (r:P1 k A) (v:Option Value):P1 k (A.mark v):=⟨r.dp,r.un⟩
theorem P1.depth {k:Nat} {A:Around} (r:P1 k A):A.depth < recursionLimit:=by have:=r.dp;omega
structure aT5 (P:Program) (w:World) (K:PySem.W.Frag) (mg:Str→Option Value) (base:Heap) (k:Nat) (f:Addr) (fd:FuncData) (ps:List Str) (sp:Sp):Prop where
 len:∀ vs H Q E,sp vs H Q E→vs.length=ps.length
 run:∀ (A:Around) (outer:List Env) (s:Shared) (H:Hp) (args:Args) (us:List Value) (vs:List V) (Q:VK) (E:XK),P1 k A→aX9 P w K mg base A outer s H→BindsTo s fd args (ps.zip us)→t8 vs us→sp vs H Q E →
  codeAny (model P w) A (.call (.ref f) args) (CR CX0 outer P w H s Q E) s
abbrev cxX (P:Program) (w:World) (K:PySem.W.Frag) (mg:Str→Option Value) (base:Heap) (N:List Str) (qual:Str) (scope:Scope) (f:Addr) (cd:Value) (A:Around) (outer:List Env) (s₀:Shared) (H₀:Hp) (E:XK):Cx :=
 { ao2 CX0 P w K mg base N qual scope f cd A outer s₀ H₀ E with calm:=false,xe:=fun _ _=>False }
theorem Fun.okX {P:Program} {w:World} {K:PySem.W.Frag} {mg:Str→Option Value} {base:Heap} {x qual:Str} {st:Stmt} {f:Addr} {fd:FuncData} {N ps:List Str} {k:Nat} {sp:Sp} (F:Fun K x qual st f fd) (S:j7 N ps (d5 st)) (len:∀ vs H Q E,sp vs H Q E→vs.length=ps.length)
  (hbody:∀ (cdv:Value) (A:Around) (outer:List Env) (s:Shared) (H:Hp) (vs:List V) (Q:VK) (E:XK),P1 k (A.deeper (envOfC qual (d5 st) s.heap.objs.size f cdv))→sp vs H Q E →
   ∃ t,PSs (cxX P w K mg base N qual (d5 st) f cdv A outer s H E) (j6 st) t∧t { nx:=fun _ H'=>Q .non H',rt:=Q } (start N vs) H):aT5 P w K mg base (k + 1) f fd ps sp:=by
 obtain ⟨oc,od,kV,doc,pm,an,cdv,ct,osl,rfl,lk,hcd⟩:=F.ex
 refine ⟨len,fun A outer s H args us vs Q E hr e0 hb r hsp=>?_⟩
 have hl:=len _ _ _ _ hsp
 have KX:K.In s.heap:=e0.mod.kin.keeps fun b o e=>(e0.bs b o e).1
 have lim:s.heap.NoLimit:=e0.mod.nolimit.keeps fun b o e=>(e0.bs b o e).1
 have hkind:∀ y ∈ ps.zip us,(d5 st).names.lookup y.1=some .local ∨ ((d5 st).names.lookup y.1=some .cell∧((cellsFrom (s.heap.objs.size + 1) (d5 st).names []).lookup y.1).isSome=true):=fun ⟨n,v⟩ hy=>by
  rcases S.par n (List.of_mem_zip hy).1 with q | q
  ·exact .inl q
  ·exact .inr ⟨q,PySem.W.cellsFrom_some _ _ _ (.inl q)⟩
 refine codeAny_call_function hr.depth (KX _ _ lk) rfl S.co S.gen rfl (PySem.W.codeRec_of KX hcd) (hb _ _ _ _ ?_)
 refine wpAny_newFunctionEnv_cells S.kind hkind fun env he s1 x=>?_
 subst he
 refine ⟨lim.keeps x.toInCall.keep,codeAny_func ?_⟩
 obtain ⟨t,ht,hq⟩:=hbody cdv A outer s H vs Q E (hr.deeper _) hsp
 have e0':aX9 P w K mg base { A with handled:=none } outer s H:=⟨e0.frames,e0.mod,e0.bs,e0.bsz,e0.funs,e0.frf,e0.hok,e0.bare⟩
 have I0:Inv (ao2 CX0 P w K mg base N qual (d5 st) f cdv { A with handled:=none } outer s H E) [] (start N vs) H s1:=ay0 S rfl e0' hl r x
 have I:Inv (cxX P w K mg base N qual (d5 st) f cdv A outer s H E) [] (start N vs) H s1:=I0.reA (A2:=A.deeper (envOfC qual (d5 st) s.heap.objs.size f cdv)) (by rfl) (fun z=>nomatch z)
 refine wpAny_mono (ht [] s1 (start N vs) H _ I hq) (fun fl s' hs=>?_) fun e s' hs=>False.elim hs
 have fin:∀ {σ':St} {H':Hp} {v:V} {u:Value},Inv (cxX P w K mg base N qual (d5 st) f cdv A outer s H E) [] σ' H' s'→A7 v u→Q v H'→CE outer P w H s Q u s' :=
  fun {σ' H' v u} J rv q=>⟨v,H',J.os,J.bare,J.base,J.hok,rv,q⟩
 cases fl with
 | ret u =>
  obtain ⟨v,σ',H',J,rv,q⟩:=hs
  exact fin J rv q
 | next =>
  obtain ⟨σ',H',J,q⟩:=hs
  exact fin (v:=V.non) (u:=Value.none) J rfl q
 | brk =>
  obtain ⟨_,_,_,q⟩:=hs
  exact False.elim q
 | cont =>
  obtain ⟨_,_,_,q⟩:=hs
  exact False.elim q
section
variable {X:Cx} {CX:CXT} {k:Nat} {f:Addr} {fd:FuncData} {ps:List Str} {sp:Sp} {E:XK} {x:Str} {p pos:Pos} {e:Expr} {es:List Expr} {t:TA}
theorem bl2 {pins:List (Addr × Obj)} {σ:St} {H:Hp} {s:Shared} {Q:VK} {us:List Value} {vs:List V} (F:aT5 X.prog X.w X.K X.mg X.base k f fd ps sp) (hr:P1 k X.A) (hb:ac7 X.K fd ps [])
  (I:Inv X pins σ H s) (r:t8 vs us) (h:sp vs H Q E):wpAny (model X.prog X.w) X.A (call (.ref f) us) (EP X pins σ Q) X.xe s:=by
 have hl:(us ++ []).length=ps.length:=by rw [List.append_nil,← r.length];exact F.len _ _ _ _ h
 have hb':=hb s us I.kIn hl
 rw [List.append_nil] at hb'
 refine wpAny_call (codeAny_mono (F.run X.A X.stack s H ⟨us,[]⟩ us vs Q E hr I.env0 hb' r h) fun r s' hq=>?_)
 cases r with
 | error e=>exact False.elim hq
 | ok fl =>
  cases fl with
  | ret u=>exact I.after hq
  | next=>exact False.elim hq
  | brk=>exact False.elim hq
  | cont=>exact False.elim hq
def aA4 (sp:Sp) (t:TA):TE:=fun σ H Q=>t σ H fun vs H1=>sp vs H1 Q E0
theorem bc0 (F:aT5 X.prog X.w X.K X.mg X.base k f fd ps sp) (hr:P1 k X.A) (hg:Gl X x) (hm:X.mg x=some (.ref f)) (hk:PySem.W.keepIn X.K (.ref f)=true) (hb:ac7 X.K fd ps [])
  (ha:PA X (e :: es) t) (hdb:(x == ("__debug__" : Str))=false:=by decide) (he:starEach (e :: es) X.env=(false,eval e X.env) :: starEach es X.env:=by rfl) (hpl:(backTo pos (starEach es X.env)).any (·.1)=false:=by rfl) :
  PE X (.Call (.Name x p) (e :: es) [] pos) (aA4 sp t):=by
 intro pins s σ H Q I h
 refine wpAny_Call_Name_kw (ah8 I hg hm ?_ hdb)
 refine PySem.W.callWith_K (h₀:=X.base) I.ok.mod.kin hk (thn (ha pos pins s σ H _ I h) fun us s1 ⟨vs,H1,I1,r,q⟩=>⟨I1.kIn,?_⟩) he hpl
 exact bl2 F hr hb I1 r q
structure FnV (P:Program) (w:World) (K:PySem.W.Frag) (mg:Str→Option Value) (base:Heap) (k:Nat) (f:Addr) (sp:Sp):Prop where
 ex:∃ fd ps,ai9 P w K mg base (CXR P w) k f fd ps sp∧ac7 K fd ps []
 kp:PySem.W.keepIn K (.ref f)=true
end
end L2
-- the class of an exception,isinstance,great numbers
set_option maxRecDepth 100000
namespace L2
open PySem PySem.W PySem.Spec PyProof.Rows Builtin Builtin.ObjectAttr Builtin.Getset_descriptor
section
variable {prog:Program} {w:World} {A:Around} {E:Value→Shared→Prop} {s:Shared} {K:Frag} {a C:Addr} {o:Obj}
theorem av4 {R:Result→Shared→Prop} {tp:Value} (X:K.In s.heap) (hx:s.heap.get? a=some o) (hc:o.cls=.ref C) (hm:mroIn K C (.type "object")=some true)
  (h:R (.ok (.ret (.ref C))) s):codeAny (model prog w) A (.call (.builtin "getset_descriptor.__get__") ⟨[.builtin "object.__class__",.ref a,tp],[]⟩) R s:=by
 obtain ⟨hh,g,dr,t,os⟩:=s
 have L0:Looks (model prog w) hh (typeOf (.ref a)) (.ref C):=hc ▸ (Looks.ld hx).andThen .now
 have L1:=looks_mroIn (M:=model prog w) X hm
 refine codeAny_call_builtin KF.slot_gs.plain KF.entry_gs (KF.slot_gs.check _ _ _ _ _ _ _ _ KF.type_class (KF.args_gs _ _ _) ?_)
 unfold Builtin.«getset_descriptor.__get__» descrGet
 rw [dga_obj]
 refine wpAny_bind (wpAny_pure ?_)
 unfold descrGetter descrCheckInstance descrNameAndClass isInstance
 simp only [KF.owner_class]
 repeat lk
 refine ⟨Code.quiet_builtin _ (by decide +kernel),codeAny_builtin KF.entry_class ?_⟩
 unfold Builtin.«object.__class__» shownTypeOf
 repeat lk
 exact h
theorem aW3 {tk:Tok} {Q:Fin→Shared→Prop} (X:K.In s.heap) (hx:s.heap.get? a=some o) (hc:o.cls=.ref C) (g3:findIn K (.ref C) "__class__" = some (some (.builtin "object.__class__"))) (hm:mroIn K C (.type "object")=some true)
  (hq:Q (.done (.ret (.ref C))) s):wpAny (model prog w) A (Builtin.«object.__getattribute__» ⟨[.ref a,.str "__class__" tk],[]⟩) Q E s:=by
 obtain ⟨hh,g,dr,t,os⟩:=s
 have L0:Looks (model prog w) hh (typeOf (.ref a)) (.ref C):=hc ▸ (Looks.ld hx).andThen .now
 have L1:=looks_findIn (M:=model prog w) X g3
 have f5:typeOf (.builtin "object.__class__")=pure (.type "getset_descriptor"):=KF.type_class
 have f6:=F.slot_gs_get.lookup
 have f7:=F.slot_gs_set.lookup
 repeat (any_goals (first | assumption | (with_reducible refine wpAny_loadPart_at hx ?_;rw [hc]) | with_reducible refine L1.at ?_ | wp_step))
 refine av4 X hx hc hm ?_
 repeat (any_goals (first | assumption | wp_step))
theorem aW5 {M:Model} {nameV:Value} {Q:Unit→Shared→Prop} (X:K.In s.heap) (hx:s.heap.get? a=some o) (hc:o.cls=.ref C) (hmB:mroIn K C (.type "BaseException")=some true) (hq:Q () s) :
  wpAny M A (checkBuiltinCall "BaseException.__getattribute__" ⟨[.ref a,nameV],[]⟩) Q E s:=by
 obtain ⟨hh,g,d,t,os⟩:=s
 have L3:=looks_mroIn (M:=M) X hmB
 have hk:builtinKind "BaseException.__getattribute__" = some .slot:=by decide +kernel
 have hsplit:splitId "BaseException.__getattribute__" = some ("BaseException","__getattribute__"):=by decide +kernel
 have ha:=F.args_bexc_ga (.ref a) nameV
 simp only [checkBuiltinCall,hk,hsplit]
 refine wpAny_bind ?_
 ·unfold isInstance
  repeat (first | (with_reducible refine wpAny_loadPart_at hx ?_;rw [hc]) | with_reducible refine L3.at ?_ | wp_step)
  exact hq
theorem aW4 {Q:Option Value→Shared→Prop} (X:K.In s.heap) (hx:s.heap.get? a=some o) (hc:o.cls=.ref C) (g1:findIn K (.ref C) "__getattribute__" = some (some (.builtin "BaseException.__getattribute__"))) (g2:findIn K (.ref C) "__getattr__" = some none)
  (g3:findIn K (.ref C) "__class__" = some (some (.builtin "object.__class__"))) (hm:mroIn K C (.type "object")=some true) (hmB:mroIn K C (.type "BaseException")=some true) 
  (h:Q (some (.ref C)) { s with toks:=s.toks + 1 }):wpAny (model prog w) A (getAttr? (.ref a) "__class__") Q E s:=by
 obtain ⟨hh,g,d,t,os⟩:=s
 have L0:Looks (model prog w) hh (typeOf (.ref a)) (.ref C):=hc ▸ (Looks.ld hx).andThen .now
 have L1:=looks_findIn (M:=model prog w) X g1
 have L2:=looks_findIn (M:=model prog w) X g2
 have L3:=looks_mroIn (M:=model prog w) X hmB
 unfold getAttr? getAttrBy? getAttrBy
 refine wpAny_bind (wpAny_mkText (wpAny_bind (wpAny_attempt (wpAny_holding (wpAny_bind (L0.at (wpAny_bind (L1.at ?_))))))))
 have hx2:(Value.builtin "BaseException.__getattribute__" == Value.builtin "object.__getattribute__")=false:=by decide +kernel
 have hx1:(onTheHeap (Value.ref C) && Value.builtin "BaseException.__getattribute__" == Value.builtin "object.__getattribute__")=false:=by rw [hx2];rfl
 show wpAny _ _ (if (onTheHeap (Value.ref C) && Value.builtin "BaseException.__getattribute__" == Value.builtin "object.__getattribute__")=true then _ else _) _ _ _
 rw [if_neg (by rw [hx1];decide)]
 have f3:=PySem.F.attr_ValueError.ga.bind (.ref a)
 have hx0:(false && onTheHeap (Value.builtin "BaseException.__getattribute__"))=false:=rfl
 unfold getAttrByItsOwn hookBefore
 repeat (any_goals (first | assumption | (with_reducible refine wpAny_loadPart_at hx ?_;rw [hc]) | with_reducible refine L1.at ?_ | with_reducible refine L2.at ?_ | wp_step))
 refine codeAny_call_builtin PySem.F.attr_ValueError.ga.plain F.entry_bexc_ga (aW5 X hx hc hmB (aW3 X hx hc g3 hm ?_))
 dsimp only
 unfold handedOut
 exact wpAny_pure (wpAny_pure h)
structure D9 (K:Frag) (C:Addr):Prop where
 cl:(clsIn K C).isSome=true
 g1:findIn K (.ref C) "__getattribute__" = some (some (.builtin "BaseException.__getattribute__"))
 g2:findIn K (.ref C) "__getattr__" = some none
 g3:findIn K (.ref C) "__class__" = some (some (.builtin "object.__class__"))
 hm:mroIn K C (.type "object")=some true
 hB:mroIn K C (.type "BaseException")=some true
theorem be6 (c:D9 K C):KitX K (.ref a) (.ref C) (fun h => ∃ o,h.get? a=some o∧o.cls=.ref C) where
 ty:=fun _ _ _ ⟨o,hx,hc⟩=>hc ▸ (Looks.ld hx).andThen .now
 it:=fun _ _ X _=>by
  obtain ⟨cdD,hcD⟩:=Option.isSome_iff_exists.mp c.cl
  unfold clsIn at hcD
  split at hcD
  ·rename_i c' d' cd' sl' ho
   intro A' Q' E' s' k q
   unfold isType loadHead
   exact wpAny_bind (wpAny_loadPart (k _ _ (X _ _ ho)) (wpAny_pure q))
  ·cases hcD
 ne:=fun h tp dd its n sl X htp=>by
  obtain ⟨cdD,hcD⟩:=Option.isSome_iff_exists.mp c.cl
  refine Bool.eq_false_iff.mpr fun q=>?_
  have e:C=tp:=Value.ref.inj (beq_iff_eq.mp q)
  subst e
  unfold clsIn at hcD
  split at hcD
  ·rename_i c' d' cd' sl' ho
   have z:=(X _ _ ho).symm.trans htp
   cases z
  ·cases hcD
 ca:=fun X ⟨o,hx,hc⟩ k=>aW4 X hx hc c.g1 c.g2 c.g3 c.hm c.hB k
end
section
variable {X:Cx}
def bD8:V→Value
 | .ty n=>.type n
 | .ref a=>.ref a
 | _=>.none
def isC:V→Prop
 | .ty _=>True
 | .ref _=>True
 | _=>False
inductive TyX (K:Frag) (H:Hp):V→Value→Prop where
 | of {x:V} {t:Value} (h:ak9 K H x t):TyX K H x t
 | exc {a C:Addr} (e:H a=some (Exc (.ref C) a)) (c:D9 K C):TyX K H (.ref a) (.ref C)
 | sqt {a:Addr} {xs:List V} (h:SqT K H a xs):TyX K H (.ref a) (.type "tuple")
 | sql {a:Addr} {xs:List V} (h:SqL K H a xs):TyX K H (.ref a) (.type "list")
def bv5 (K:Frag):List V→Hp→VK→Prop:=fun xs H Q => ∃ x c t b,xs=[x,c]∧isC c∧TyX K H x t∧kitOne K t (bD8 c)=some b∧Q (.bl b) H
theorem t3:ae9 X (.builtin "isinstance") (bv5 X.K):=by
 intro pins s σ H us vs Q I r h
 obtain ⟨x,c,t,b,rfl,ic,ty,e,q⟩:=h
 obtain ⟨u,cu,rfl,rx,rc⟩:=t8.two r
 have ec:cu=bD8 c:=by
  cases c with
  | ty n=>exact rc
  | ref a=>exact rc
  | _=>exact False.elim ic
 subst ec
 have fin:∀ tk,EP X pins σ Q (.bool b) { s with toks:=tk }:=fun tk=>⟨.bl b,H,I.tok tk,rfl,q⟩
 cases ty with
 | of ty=>exact aV8 I rx ty e fin
 | @exc a C ea cl =>
  cases (show u=Value.ref a from rx)
  obtain ⟨⟨o,_,h1,h2,_⟩,_⟩:=(show G2 X.prog X.w H s.heap a (Exc (.ref C) a) from I.hok a _ ea)
  exact kia_one (be6 cl) I.kIn ⟨o,h1,h2⟩ e (fun z=>nomatch z) fin
 | @sqt a xs h =>
  cases (show u=Value.ref a from rx)
  obtain ⟨_,_,⟨o,h1,h2,_⟩,_⟩:=I.tuple h
  exact kia_one kitx_tuple I.kIn ⟨o,h1,h2⟩ e (fun z=>nomatch z) fin
 | @sql a xs h =>
  cases (show u=Value.ref a from rx)
  obtain ⟨_,_,⟨o,n,h1,h2,_⟩,_⟩:=I.list h
  exact kia_one kitx_list I.kIn ⟨o,h1,h2⟩ e (fun z=>nomatch z) fin
theorem v1:OpR X (binaryOp .Mult) (rI IntMulOk fun i j=>.int (i * j)):=opI fun _ _ _ _ _ _ _ hc q=>mul_int q hc
def az8 (_ j:Int):Prop:=j ≠ 0∧j.natAbs.log2 < 9000
theorem M3:OpR X (binaryOp .FloorDiv) (rI az8 fun i j=>.int (i.fdiv j)):=opI fun _ _ _ _ _ _ _ hc q=>floordiv_int hc.1 q (.inl (PyProof.noPylong_of_log2 hc.2))
end
open PySem PySem.Spec PyProof.Rows
inductive D where
 | v (x:V)
 | tup (ds:List D)
 | lst (ds:List D)
mutual
def eqD:D→D→Bool
 | .v x,.v y=>eqV x y
 | .tup a,.tup b=>O9 a b
 | .lst a,.lst b=>O9 a b
 | _,_=>false
def O9:List D→List D→Bool
 | [],[]=>true
 | x :: xs,y :: ys=>eqD x y && O9 xs ys
 | _,_=>false
end
mutual
def okD:D→D→Bool
 | .v _,.v _=>true
 | .tup a,.tup b=>ad8 a b
 | .lst a,.lst b=>ad8 a b
 | _,_=>false
def ad8:List D→List D→Bool
 | x :: xs,y :: ys=>okD x y && ad8 xs ys
 | _,_=>true
end
mutual
def dpD:D→Nat
 | .v _=>0
 | .tup a=>ag0 a + 1
 | .lst a=>ag0 a + 1
def ag0:List D→Nat
 | []=>0
 | x :: xs=>max (dpD x) (ag0 xs)
end
mutual
inductive IsD (K:PySem.W.Frag) (H:Hp):V→D→Prop where
 | v {x:V} (f:V2 x=true):IsD K H x (.v x)
 | tup {p:Addr} {xs:List V} {ds:List D} (h:SqT K H p xs) (t:ac6 K H xs ds):IsD K H (.ref p) (.tup ds)
 | lst {p:Addr} {xs:List V} {ds:List D} (h:SqL K H p xs) (t:ac6 K H xs ds):IsD K H (.ref p) (.lst ds)
inductive ac6 (K:PySem.W.Frag) (H:Hp):List V→List D→Prop where
 | nil:ac6 K H [] []
 | cons {x:V} {xs:List V} {d:D} {ds:List D} (h:IsD K H x d) (t:ac6 K H xs ds):ac6 K H (x :: xs) (d :: ds)
end
theorem ac6.length {K:PySem.W.Frag} {H:Hp}:∀ {xs:List V} {ds:List D},ac6 K H xs ds→xs.length=ds.length
 | _,_,.nil=>rfl
 | _,_,.cons _ t=>congrArg (· + 1) t.length
theorem bg6:∀ {x:V},V2 x=true→eqV x x=true
 | .non,_=>rfl
 | .bl a,_=>by simp [eqV]
 | .int a,_=>by simp [eqV]
 | .str a,_=>by simp [eqV]
 | .byt _,h=>absurd (show false=true from h) Bool.false_ne_true
 | .flt _,h=>absurd (show false=true from h) Bool.false_ne_true
 | .ref _,h=>absurd (show false=true from h) Bool.false_ne_true
 | .ty _,h=>absurd (show false=true from h) Bool.false_ne_true
section
variable {X:Cx} {pins:List (Addr × Obj)} {σ:St} {H:Hp} {s:Shared}
mutual
theorem as3 (I:Inv X pins σ H s):∀ {x:V} {d d':D},IsD X.K H x d→IsD X.K H x d'→okD d d'=true→eqD d d'=true
 | _,_,_,.v f,.v _,_=>by rw [eqD];exact bg6 f
 | _,_,_,.tup h t,.tup h' t',ok=>by
  have e:=I.tuple_inj h h'
  subst e
  rw [eqD]
  rw [okD] at ok
  exact ak2 I t t' ok
 | _,_,_,.lst h t,.lst h' t',ok=>by
  have e:=I.list_inj h h'
  subst e
  rw [eqD]
  rw [okD] at ok
  exact ak2 I t t' ok
 | _,_,_,.v f,.tup _ _,_=>absurd (show false=true from f) Bool.false_ne_true
 | _,_,_,.v f,.lst _ _,_=>absurd (show false=true from f) Bool.false_ne_true
 | _,_,_,.tup _ _,.v f,_=>absurd (show false=true from f) Bool.false_ne_true
 | _,_,_,.lst _ _,.v f,_=>absurd (show false=true from f) Bool.false_ne_true
 | _,_,_,.tup _ _,.lst _ _,ok=>by simp [okD] at ok
 | _,_,_,.lst _ _,.tup _ _,ok=>by simp [okD] at ok
theorem ak2 (I:Inv X pins σ H s):∀ {xs:List V} {ds ds':List D},ac6 X.K H xs ds→ac6 X.K H xs ds'→ad8 ds ds'=true→O9 ds ds'=true
 | _,_,_,.nil,.nil,_=>by rw [O9]
 | _,_,_,.cons h t,.cons h' t',ok=>by
  rw [ad8,Bool.and_eq_true] at ok
  rw [O9,as3 I h h' ok.1,ak2 I t t' ok.2]
  rfl
end
def ac1 (ds ds':List D) (j:Nat):Bool:=match ds[j]?,ds'[j]? with
 | some d,some d'=>eqD d d'
 | _,_=>true
theorem at3 (n:Nat) (e:Nat→Bool):(List.range (n + 1)).all e=(e 0 && (List.range n).all fun j=>e (j + 1)):=by
 rw [List.range_succ_eq_map,List.all_cons,List.all_map];rfl
theorem ad7:∀ (ds ds':List D),((List.range (min ds.length ds'.length)).all (ac1 ds ds') && ds.length == ds'.length)=O9 ds ds'
 | [],[]=>by rw [O9];rfl
 | [],_ :: _=>by simp [O9]
 | _ :: _,[]=>by simp [O9]
 | x :: xs,y :: ys=>by
  have ih:=ad7 xs ys
  rw [O9,← ih]
  have e1:min (x :: xs).length (y :: ys).length=min xs.length ys.length + 1:=by simp only [List.length_cons];omega
  rw [e1,at3]
  have e2:((x :: xs).length == (y :: ys).length)=(xs.length == ys.length):=by
   by_cases h:xs.length=ys.length <;> simp [h]
  rw [e2,Bool.and_assoc]
  rfl
theorem ae8 (ds ds':List D) (h:ds.length=ds'.length):(List.range ds.length).all (ac1 ds ds')=O9 ds ds':=by
 rw [← ad7,← h,Nat.min_self];simp
theorem as2:∀ (ds ds':List D),ds.length ≠ ds'.length→O9 ds ds'=false
 | [],[],h=>absurd rfl h
 | [],_ :: _,_=>by simp [O9]
 | _ :: _,[],_=>by simp [O9]
 | x :: xs,y :: ys,h=>by
  rw [O9,as2 xs ys (fun e=>h (by simp [e]))];simp
theorem aw7 (I:Inv X pins σ H s) {p p':Addr} {xs ys:List V} {ds ds':List D} {A:Around} (h:SqT X.K H p xs) (t:ac6 X.K H xs ds) (h':SqT X.K H p' ys) (t':ac6 X.K H ys ds') (hu:A.units < cLine)
  (q:∀ {us vs:List Value},t8 xs us→t8 ys vs→∀ (j:Nat) (h1:j < us.length) (h2:j < vs.length),SeqAt.EqAt A.in1 s us[j] vs[j] (ac1 ds ds' j)):SeqAt.RcAt A s (.ref p) (.ref p') (O9 ds ds'):=by
  obtain ⟨its,r1,i1,_⟩:=I.tuple h
  obtain ⟨its',r2,i2,_⟩:=I.tuple h'
  have z:=SeqAt.RcAt.tuples (A:=A) (items:=its.toArray) (items2:=its'.toArray) (e:=ac1 ds ds') i1 i2 hu (fun j h1 h2=>q r1 r2 j (by simpa using h1) (by simpa using h2))
  have e1:its.toArray.size=ds.length:=by rw [List.size_toArray,← r1.length,t.length]
  have e2:its'.toArray.size=ds'.length:=by rw [List.size_toArray,← r2.length,t'.length]
  rw [e1,e2,ad7] at z
  exact z
theorem aw8 (I:Inv X pins σ H s) {p p':Addr} {xs ys:List V} {ds ds':List D} {A:Around} (h:SqL X.K H p xs) (t:ac6 X.K H xs ds) (h':SqL X.K H p' ys) (t':ac6 X.K H ys ds') (hu:A.units < cLine)
  (q:∀ {us vs:List Value},t8 xs us→t8 ys vs→∀ (j:Nat) (h1:j < us.length) (h2:j < vs.length),SeqAt.EqAt A.in1 s us[j] vs[j] (ac1 ds ds' j)):SeqAt.RcAt A s (.ref p) (.ref p') (O9 ds ds'):=by
  obtain ⟨its,r1,i1,_⟩:=I.list h
  obtain ⟨its',r2,i2,_⟩:=I.list h'
  have e1:its.toArray.size=ds.length:=by rw [List.size_toArray,← r1.length,t.length]
  have e2:its'.toArray.size=ds'.length:=by rw [List.size_toArray,← r2.length,t'.length]
  by_cases hl:ds.length=ds'.length
  ·have z:=SeqAt.RcAt.lists (A:=A) (items:=its.toArray) (items2:=its'.toArray) (e:=ac1 ds ds') i1.isList i2.isList (by rw [e1,e2,hl]) hu (fun j h1 h2=>q r1 r2 j (by simpa using h1) (by simpa using h2))
   rw [e1,ae8 ds ds' hl] at z
   exact z
  ·rw [as2 ds ds' hl]
   exact SeqAt.RcAt.lists_lengths i1.isList i2.isList (by rw [e1,e2];simpa using hl) hu
mutual
theorem bA3 (I:Inv X pins σ H s):∀ {x y:V} {d d':D} {u v:Value} {A:Around},IsD X.K H x d→IsD X.K H y d'→okD d d'=true→A7 x u→A7 y v→A.units + dpD d < cLine→SeqAt.EqAt A s u v (eqD d d')
 | _,_,_,_,_,_,_,.v f,.v f',_,r,r',_=>by rw [eqD];exact bh0 r r' f f'
 | _,_,_,_,u,v,A,.tup (p:=p) h t,.tup (p:=p') h' t',ok,r,r',hu=>by
  cases (show u=Value.ref p from r)
  cases (show v=Value.ref p' from r')
  by_cases hp:p=p'
  ·subst hp
   rw [as3 I (.tup h t) (.tup h' t') ok]
   exact SeqAt.EqAt.same _
  ·rw [okD] at ok
   rw [dpD] at hu
   rw [eqD]
   exact SeqAt.EqAt.of_refs hp (aw7 I h t h' t' (by omega) fun r1 r2 j h1 h2=>Z6 (A:=A.in1) I t t' ok r1 r2 (by show A.units + 1 + _ < _;omega) j h1 h2)
 | _,_,_,_,u,v,A,.lst (p:=p) h t,.lst (p:=p') h' t',ok,r,r',hu=>by
  cases (show u=Value.ref p from r)
  cases (show v=Value.ref p' from r')
  by_cases hp:p=p'
  ·subst hp
   rw [as3 I (.lst h t) (.lst h' t') ok]
   exact SeqAt.EqAt.same _
  ·rw [okD] at ok
   rw [dpD] at hu
   rw [eqD]
   exact SeqAt.EqAt.of_refs hp (aw8 I h t h' t' (by omega) fun r1 r2 j h1 h2=>Z6 (A:=A.in1) I t t' ok r1 r2 (by show A.units + 1 + _ < _;omega) j h1 h2)
 | _,_,_,_,_,_,_,.v _,.tup _ _,ok,_,_,_=>by simp [okD] at ok
 | _,_,_,_,_,_,_,.v _,.lst _ _,ok,_,_,_=>by simp [okD] at ok
 | _,_,_,_,_,_,_,.tup _ _,.v _,ok,_,_,_=>by simp [okD] at ok
 | _,_,_,_,_,_,_,.lst _ _,.v _,ok,_,_,_=>by simp [okD] at ok
 | _,_,_,_,_,_,_,.tup _ _,.lst _ _,ok,_,_,_=>by simp [okD] at ok
 | _,_,_,_,_,_,_,.lst _ _,.tup _ _,ok,_,_,_=>by simp [okD] at ok
theorem Z6 (I:Inv X pins σ H s):∀ {xs ys:List V} {ds ds':List D} {us vs:List Value} {A:Around},ac6 X.K H xs ds→ac6 X.K H ys ds'→ad8 ds ds'=true→t8 xs us→t8 ys vs→A.units + ag0 ds < cLine →
  ∀ (j:Nat) (h1:j < us.length) (h2:j < vs.length),SeqAt.EqAt A s us[j] vs[j] (ac1 ds ds' j)
 | _,_,_,_,_,_,_,.nil,_,_,.nil,_,_=>fun j h1 _=>absurd h1 (Nat.not_lt_zero _)
 | _,_,_,_,_,_,_,.cons _ _,.nil,_,_,.nil,_=>fun j _ h2=>absurd h2 (Nat.not_lt_zero _)
 | _,_,_,_,_,_,A,.cons h t,.cons h' t',ok,.cons r rs,.cons r' rs',hu=>fun j h1 h2=>by
  rw [ad8,Bool.and_eq_true] at ok
  rw [ag0] at hu
  cases j with
  | zero=>exact bA3 I h h' ok.1 r r' (by omega)
  | succ j=>exact Z6 I t t' ok.2 rs rs' (by omega) j (by simpa using h1) (by simpa using h2)
end
def D.isV:D→Bool
 | .v _=>true
 | _=>false
def bF2 (K:PySem.W.Frag):R2:=fun x y H Q => ∃ d d',d.isV=false∧IsD K H x d∧IsD K H y d'∧okD d d'=true∧dpD d≤60∧Q (.bl (eqD d d')) H
theorem bc6 (hu:X.A.units + 64 < cLine):OpR X (compareOp .Eq) (bF2 X.K):=by
 intro pins s σ H x y v u Q I rx ry h
 obtain ⟨d,d',nf,h1,h2,ok,dp,q⟩:=h
 have fin:EP X pins σ Q (.bool (eqD d d')) s:=⟨.bl _,H,I,rfl,q⟩
 cases h1 with
 | v f =>
  cases h2 with
  | v f'=>exact absurd (show true=false from nf) (by decide)
  | tup _ _=>simp [okD] at ok
  | lst _ _=>simp [okD] at ok
 | @tup p xs ds h t =>
  cases h2 with
  | v f'=>simp [okD] at ok
  | @tup p' ys ds' h' t' =>
   cases (show v=Value.ref p from rx)
   cases (show u=Value.ref p' from ry)
   rw [okD] at ok
   rw [dpD] at dp
   rw [eqD] at fin
   exact aw7 I h t h' t' (by omega) (fun r1 r2 j h1 h2=>Z6 (A:=X.A.in1) I t t' ok r1 r2 (by show X.A.units + 1 + _ < _;omega) j h1 h2) X.prog X.w X.xe _ fin
  | lst _ _=>simp [okD] at ok
 | @lst p xs ds h t =>
  cases h2 with
  | v f'=>simp [okD] at ok
  | tup _ _=>simp [okD] at ok
  | @lst p' ys ds' h' t' =>
   cases (show v=Value.ref p from rx)
   cases (show u=Value.ref p' from ry)
   rw [okD] at ok
   rw [dpD] at dp
   rw [eqD] at fin
   exact aw8 I h t h' t' (by omega) (fun r1 r2 j h1 h2=>Z6 (A:=X.A.in1) I t t' ok r1 r2 (by show X.A.units + 1 + _ < _;omega) j h1 h2) X.prog X.w X.xe _ fin
end
open PySem PySem.Spec PyProof.Rows
section
variable {X:Cx}
def aB8:V→List V→Hp→VK→Prop:=fun x vs H Q => ∃ i,x=.int i∧vs=[]∧Q (.int (Builtin.Int.intBits i)) H
theorem ax8:MtM X "int.bit_length" aB8:=by
 intro pins s σ H x vs v us Q I rx rv h
 obtain ⟨i,rfl,rfl,q⟩:=h
 obtain ⟨t,rfl⟩:=rx
 cases t8.zero rv
 exact call_int_bit_length ⟨.int _,H,I.tok _,⟨_,rfl⟩,q⟩
theorem ay8 {x:V}:∀ {xs:List V} {us:List Value},t8 xs us→xs.all V2=true→us.countP (eqU x)=xs.countP fun y=>eqV y x
 | _,_,.nil,_=>rfl
 | y :: xs,u :: us,.cons r t,f=>by
  rw [List.all_cons,Bool.and_eq_true] at f
  rw [List.countP_cons,List.countP_cons,aN3 r f.1,ay8 t f.2]
def aL4:V→List V→Hp→VK→Prop:=fun x vs H Q => ∃ l xs y,x=.ref l∧vs=[y]∧H l=some (.lst xs)∧V2 y=true∧xs.all V2=true∧Q (.int (xs.countP fun z=>eqV z y)) H
theorem bd6:MtM X "list.count" aL4:=by
 intro pins s σ H x vs v us Q I rx rv h
 obtain ⟨l,xs,y,rfl,rfl,hH,fy,fx,q⟩:=h
 cases rx
 obtain ⟨u,rfl,ru⟩:=rv.one
 obtain ⟨z,its,n,r,hl,e⟩:=I.lstM hH
 refine call_meets F.slot_list_count ⟨_,e,rfl⟩ F.entry_list_count (F.args_list_count_2 _ _) (SeqAt.list_countAt l its.toArray n none #[] u (eqU y)) ⟨e,fun w hw=>ar4 ru fy r fx w (by simpa using hw),?_⟩
 refine ⟨.int _,H,I.tok _,⟨_,rfl⟩,?_⟩
 rw [show its.toArray.toList=its from rfl,ay8 r fx]
 exact q
theorem aS4 {y:V} {xs:List V} {us:List Value} (r:t8 xs us) (f:xs.all V2=true) (j:Nat) (hj:j < us.length) (hx:j < xs.length):eqU y us[j]=eqV xs[j] y:=by
 obtain ⟨u,e1,e2⟩:=r.get (List.getElem?_eq_getElem hx)
 have e3:us[j]=u:=by rw [List.getElem?_eq_getElem hj] at e1;exact Option.some.inj e1
 rw [e3]
 exact aN3 e2 (List.all_eq_true.mp f _ (List.getElem_mem hx))
def aL3:V→List V→Hp→VK→Prop:=fun x vs H Q => ∃ l xs y j,x=.ref l∧vs=[y]∧H l=some (.lst xs)∧V2 y=true∧xs.all V2=true∧(xs.findIdx? fun z=>eqV z y)=some j∧Q (.int (j:Nat)) H
theorem bd5 : MtM X "list.index" aL3 := by
  intro pins s σ H x vs v us Q I rx rv h
  obtain ⟨l, xs, y, j, rfl, rfl, hH, fy, fx, hi, q⟩ := h
  cases rx
  obtain ⟨u, rfl, ru⟩ := rv.one
  obtain ⟨z, its, n, r, hl, e⟩ := I.lstM hH
  obtain ⟨hj, h1, h2⟩ := List.findIdx?_eq_some_iff_getElem.mp hi
  have hz : xs.length < 2 ^ 63 := Nat.lt_of_le_of_lt z af7
  refine call_meets F.slot_list_index ⟨_, e, rfl⟩ F.entry_list_index (F.args_list_index_2 _ _) (SeqAt.list_indexAt l its.toArray n none #[] u (eqU y) j (by simpa [← hl] using hj) (by have : (xs.length : Int) < 2 ^ 63 := by exact_mod_cast hz
                                                                                                                                                                                       omega) ?_ ?_) ⟨e, fun w hw => ar4 ru fy r fx w (by simpa using hw), ?_⟩
  · rw [show its.toArray[j]'(by simpa [← hl] using hj) = its[j]'(by rw [← hl]; exact hj) from rfl, aS4 r fx j _ hj]; exact h1
  · intro m hm hlt
    have hm' : m < its.length := by simpa using hm
    rw [show its.toArray[m]'hm = its[m]'hm' from rfl, aS4 r fx m _ (by rw [hl]; exact hm')]
    have := h2 m hlt
    simpa using this
  · exact ⟨.int _, H, I.tok _, ⟨_, rfl⟩, q⟩
theorem av9:∀ (t:Nat) (ps:List Str),t8 (ps.map V.str) (strsFrom t ps)
 | _,[]=>.nil
 | t,p :: ps=>.cons ⟨_,rfl⟩ (av9 (t + 1) ps)
def ad1 (x y:Str):List Str:=Builtin.Str.partsBetween x (Builtin.Str.occurrences x y 0 x.length (x.length + 1)) y.length
def aL2:V→List V→Hp→VK→Prop:=fun v vs H Q => ∃ x y,v=.str x∧vs=[.str y]∧(decide (x.length < y.length) || decide (Builtin.Str.strKind x < Builtin.Str.strKind y))=false∧(y.length == 0)=false ∧
 (Builtin.Str.occurrences x y 0 x.length (x.length + 1)).isEmpty=false∧x.length≤sizeLine∧(ad1 x y).length≤sizeLine∧∀ l,H l=none→Q (.ref l) (upd H l (.lst ((ad1 x y).map V.str)))
theorem bd4:MtM X "str.split" aL2:=by
 intro pins s σ H x vs v us Q I rx rv h
 obtain ⟨x',y,rfl,rfl,h1,h2,h3,h4,h5,q⟩:=h
 obtain ⟨t,rfl⟩:=rx
 obtain ⟨u,rfl,t',rfl⟩:=rv.one
 refine call_meets F.slot_str_split rfl F.entry_str_split (F.args_str_split_2 _ _) (meets_str_split_sep x' y t t' h1 h2 h3 h4 h5) ?_
 exact ⟨.ref _,_,I.lnew (ys:=(ad1 x' y).map V.str) (av9 _ _) (by rw [List.length_map];exact h5),rfl,q _ I.fresh⟩
end
open PySem PySem.Spec PyProof.Rows
structure Df (K:PySem.W.Frag) (mg:Str→Option Value) (x:Str) (st:Stmt) (ps:List Str) (f:Addr):Prop where
 ex:∃ fd,Fun K x x st f fd∧ac7 K fd ps []
 m:mg x=some (.ref f)
structure Def (P:Program) (w:World) (K:PySem.W.Frag) (mg:Str→Option Value) (base:Heap) (CX:CXT) (k:Nat) (x:Str) (f:Addr) (ps:List Str) (sp:Sp):Prop where
 ex:∃ fd,ai9 P w K mg base CX k f fd ps sp∧ac7 K fd ps []
 m:mg x=some (.ref f)
 kp:PySem.W.keepIn K (.ref f)=true
structure bq5 (P:Program) (w:World) (K:PySem.W.Frag) (mg:Str→Option Value) (base:Heap) (k:Nat) (x:Str) (f:Addr) (ps:List Str) (sp:Sp):Prop where
 ex:∃ fd,aT5 P w K mg base k f fd ps sp∧ac7 K fd ps []
 m:mg x=some (.ref f)
 kp:PySem.W.keepIn K (.ref f)=true
section
variable {P:Program} {w:World} {K:PySem.W.Frag} {mg:Str→Option Value} {base:Heap} {k:Nat} {x:Str} {f:Addr} {ps N:List Str} {sp:Sp} {st:Stmt} {CX:CXT}
theorem Df.ok (d:Df K mg x st ps f) (S:j7 N ps (d5 st)) (len:∀ vs H Q E,sp vs H Q E→vs.length=ps.length)
  (hbody:∀ (cdv:Value) (A:Around) (outer:List Env) (s:Shared) (H:Hp) (vs:List V) (Q:VK) (E:XK),V6 k (A.deeper (envOfC x (d5 st) s.heap.objs.size f cdv))→sp vs H Q E →
   ∃ t,PSs (ao2 CX0 P w K mg base N x (d5 st) f cdv A outer s H E).nox (j6 st) t∧t { nx:=fun _ H'=>Q .non H',rt:=Q } (start N vs) H):Def P w K mg base CX0 (k + 1) x f ps sp:=by
 obtain ⟨fd,F,b⟩:=d.ex
 exact ⟨⟨fd,F.ok S len hbody,b⟩,d.m,F.kp⟩
theorem Df.okR (d:Df K mg x st ps f) (S:j7 N ps (d5 st)) (len:∀ vs H Q E,sp vs H Q E→vs.length=ps.length)
  (hbody:∀ (cdv:Value) (A:Around) (outer:List Env) (s:Shared) (H:Hp) (vs:List V) (Q:VK) (E:XK),V6 k (A.deeper (envOfC x (d5 st) s.heap.objs.size f cdv))→sp vs H Q E →
   ∃ t,PSs (cxR P w K mg base N x (d5 st) f cdv A outer s H E) (j6 st) t∧t { nx:=fun _ H'=>Q .non H',rt:=Q } (start N vs) H):Def P w K mg base (CXR P w) (k + 1) x f ps sp:=by
 obtain ⟨fd,F,b⟩:=d.ex
 have kp:=F.kp
 obtain ⟨oc,od,kV,doc,pm,an,cdv,ct,osl,rfl,lk,hcd⟩:=F.ex
 exact ⟨⟨_,bs8 lk hcd S len fun A outer s H vs Q E hr hsp=>hbody cdv A outer s H vs Q E hr hsp,b⟩,d.m,kp⟩
theorem Df.okX (d:Df K mg x st ps f) (S:j7 N ps (d5 st)) (len:∀ vs H Q E,sp vs H Q E→vs.length=ps.length)
  (hbody:∀ (cdv:Value) (A:Around) (outer:List Env) (s:Shared) (H:Hp) (vs:List V) (Q:VK) (E:XK),P1 k (A.deeper (envOfC x (d5 st) s.heap.objs.size f cdv))→sp vs H Q E →
   ∃ t,PSs (cxX P w K mg base N x (d5 st) f cdv A outer s H E) (j6 st) t∧t { nx:=fun _ H'=>Q .non H',rt:=Q } (start N vs) H):bq5 P w K mg base (k + 1) x f ps sp:=by
 obtain ⟨fd,F,b⟩:=d.ex
 exact ⟨⟨fd,F.okX S len hbody,b⟩,d.m,F.kp⟩
end
section
variable {X:Cx} {CX:CXT} {k j:Nat} {f:Addr} {ps:List Str} {sp:Sp} {E:XK} {x:Str} {p pos:Pos} {e:Expr} {es:List Expr} {t:TA}
def bk4 (sp:Sp) (E:XK) (t:TA):TE:=fun σ H Q=>t σ H fun vs H1=>sp vs H1 Q E
theorem i3 (d : Def X.prog X.w X.K X.mg X.base CX j x f ps sp) (hr : V6 k X.A) (ha : PA X (e :: es) t) (hx : at7 CX X E) (hj : j ≤ k := by decide) (hg : Gl X x := by rfl)
    (hdb : (x == ("__debug__" : Str)) = false := by decide) (he : starEach (e :: es) X.env = (false, eval e X.env) :: starEach es X.env := by rfl) (hpl : (backTo pos (starEach es X.env)).any (·.1) = false := by rfl) :
    PE X (.Call (.Name x p) (e :: es) [] pos) (bk4 sp E t) := by
  obtain ⟨fd, F, b⟩ := d.ex
  have z := bm5 (E := E) (es := es) (e := e) (p := p) (pos := pos) (F.mono hj) hr hg d.m d.kp b .nil hx ha hdb he hpl
  intro pins s σ H Q I h
  refine z pins s σ H Q I ?_
  unfold bq9
  simpa only [List.append_nil, bk4] using h
theorem bm4 (d : bq5 X.prog X.w X.K X.mg X.base j x f ps sp) (hr : P1 k X.A) (ha : PA X (e :: es) t) (hj : j ≤ k := by decide) (hg : Gl X x := by rfl)
    (hdb : (x == ("__debug__" : Str)) = false := by decide) (he : starEach (e :: es) X.env = (false, eval e X.env) :: starEach es X.env := by rfl) (hpl : (backTo pos (starEach es X.env)).any (·.1) = false := by rfl) :
    PE X (.Call (.Name x p) (e :: es) [] pos) (aA4 sp t) := by
  obtain ⟨fd, F, b⟩ := d.ex
  exact bc0 F (hr.mono hj) hg d.m d.kp b ha hdb he hpl
end
theorem d9.new {H:Hp} {p:Addr} (h:H p=none) (o:HO):d9 H (upd H p o):=fun b u q=>by rw [j3 (i5 q h)];exact q
theorem d9.tup {K:PySem.W.Frag} {H H':Hp} {a:Addr} {xs:List V} (e:d9 H H') (h:SqT K H a xs):SqT K H' a xs:=by
 rcases h with h | h
 ·rcases h with h | ⟨o,h⟩
  ·exact .inl (.inl (e _ _ h))
  ·exact .inl (.inr ⟨o,e _ _ h⟩)
 ·exact .inr h
open PySem PySem.Spec PyProof.Rows
section
variable {prog:Program} {w:World} {A:Around} {R:Result→Shared→Prop} {s:Shared}
theorem ay9 {elt target iter:Expr} {scope:Scope} {pos:Pos} {it acc:Value} {env:Env} (I:Nat→Shared→Prop)
  (turn:∀ n s,I n s→wpAny (model prog w) A (pyNext it) (fun r s₁=>match r with
   | none=>R (.ok .next) s₁
   | some v=>wpAny (model prog w) A (letOwnedTupleGo target it v) (fun _ s₁'=>wpAny (model prog w) A (assign target env v) (fun _ s₂=>wpAny (model prog w) A (eval elt env) (fun x s₃ =>
     wpAny (model prog w) A (call (.builtin "list.append") [acc,x]) (fun _ s₄ => ∃ m,m < n∧I m s₄) (fun _ _=>False) s₃)
     (fun _ _=>False) s₂) (fun _ _=>False) s₁') (fun _ _=>False) s₁) (fun _ _=>False) s)
  (n:Nat) (h:I n s) :
  codeAny (model prog w) A (.compLoop (.ListComp elt [⟨target,iter,[],0⟩] scope pos) 0 it acc env) R s:=by
 refine codeAny_loop rfl I (fun n s hI=>?_) n h
 show wpAny _ _ ((compTurn (.ListComp elt [⟨target,iter,[],0⟩] scope pos) 0 it acc env).onRaise (fun x=>do noteFrame x env;theTreesLotGoes x)) _ _ s
 refine wpAny_noted ?_
 rw [compTurn_list1]
 have no:∀ {P:Value→Shared→Prop} (e:Value) (s:Shared),False→P e s:=fun _ _ h=>h.elim
 refine wpAny_bind (wpAny_standAt (wpAny_bind (wpAny_mono (turn n s hI) (fun r s₁ h₁=>?_) no)))
 cases r with
 | none=>exact wpAny_pure h₁
 | some v =>
  refine wpAny_bind (wpAny_mono h₁ (fun _ s₁' h₁'=>?_) no)
  exact wpAny_bind (wpAny_mono h₁' (fun _ s₂ h₂=>wpAny_bind (wpAny_bind (wpAny_mono h₂ (fun x s₃ h₃=>wpAny_bind (wpAny_mono h₃
   (fun _ s₄ h₄=>wpAny_pure (wpAny_pure ⟨rfl,h₄⟩)) no)) no))) no)
end
abbrev Cx.block (X:Cx) (scope:Scope) (cl:List (Str × Addr)) (C:Addr) (Nc:List Str) (s₂:Shared) (H₂:Hp) (fp:List Addr) (pins:List (Addr × Obj)):Cx :=
 { X with N:=Nc,s₀:=s₂,H₀:=H₂,env:=compEnvC scope cl C X.env,outer:=X.stack,ex:=fp,fn:=fun _=>false,pn:=X.pn ++ pins,xe:=fun _ _=>False }
def M0 (caps:List (Option Nat)) (σ:St):St:=caps.map fun o=>o.bind fun j=>(σ[j]?).join
def aZ1 (wi:TI) (caps:List (Option Nat)) (g:TG) (te:TE):TE:=fun σ H Q=>wi σ H fun J H1 => ∀ D,H1 D=none→∃ W:Nat→Nat→St→Hp→Prop,(∃ m,W 0 m (M0 caps σ) (upd H1 D (.lst []))) ∧
 ∀ i m σc H2,W i m σc H2→(J.stop i H2∧Q (.ref D) H2) ∨
  (J.go i H2∧∀ x H3,J.yld i H2 x H3→g x σc H3 fun σ4 H4=>te σ4 H4 fun y H5 => ∃ ys,H5 D=some (.lst ys)∧ys.length < sizeLine∧∃ m',m' < m∧W (i + 1) m' σ4 (upd H5 D (.lst (ys ++ [y]))))
section
variable {X:Cx}
structure Z9 (X:Cx) (scope:Scope) (cl:List (Str × Addr)) (Nc:List Str) (caps:List (Option Nat)):Prop where
 clos:closureFor scope X.env=pure cl
 sub:∀ x c,cl.lookup x=some c→X.env.cells.lookup x=some c
 has:∀ x,(relabel scope X.env).names.lookup x=some .cell ∨ (relabel scope X.env).names.lookup x=some .free→∃ c,cl.lookup x=some c
 nocell:∀ x ∈ scope.names,x.2 ≠ .cell
 kind:scope.kind=.function
 names:∀ x ∈ scope.names,x.2=.local→scope.names.lookup x.1=some .local
 len:caps.length=Nc.length
 cap:∀ (i j:Nat) (x:Str),caps[i]? = some (some j)→Nc[i]? = some x→X.N[j]? = some x∧Vis X.env.scope x∧X.env.kindOf x ≠ some .local∧((relabel scope X.env).names.lookup x=some .cell ∨ (relabel scope X.env).names.lookup x=some .free)
theorem Inv.sameC {pins:List (Addr × Obj)} {σ:St} {H H':Hp} {s s':Shared} {h'':Heap} {fp:List Addr} {C:Addr} (I:Inv X pins σ H s) (hf:∀ b ∈ fp,P8 X pins H b) (os:s'.os=s.os) (bare:AllBare s'.gens)
  (un:Un (frs X.stack) fp H H' s.heap s'.heap) (hok:HOk X.prog X.w H' s'.heap) (hC:s.heap.objs.size≤C) (hCn:H' C=none) (sb:Heap.SameBut C s'.heap h''):Inv X pins σ H' { s' with heap:=h'' }:=by
 have ne:∀ b o,s.heap.get? b=some o→b ≠ C:=fun b o e=>Nat.ne_of_lt (Nat.lt_of_lt_of_le (Heap.lt_size e) hC)
 refine I.call' (s':={ s' with heap:=h'' }) (ch:=fp) os ⟨fun b o e n h1 h2=>(sb.2 b (ne b o e)).trans (un.keep b o e n h1 h2),fun b o e n h1 h2=>?_,un.free,fun b o e h2=>?_,un.tups,un.frzs,un.tbls⟩ (fun b u e=>?_) bare (fun b hb=>?_)
 ·obtain ⟨sl,z⟩:=un.slot b o e n h1 h2
  exact ⟨sl,(sb.2 b (ne b o e)).trans z⟩
 ·obtain ⟨o',z⟩:=un.there b o e h2
  exact ⟨o',(sb.2 b (ne b o e)).trans z⟩
 ·refine (hok b u e).stay (fun c v hc q=>(sb.2 c ?_).trans q) (fun _ q=>q) fun _ _ q=>q
  rintro rfl
  rcases hc with rfl | hc
  ·rw [hCn] at e;cases e
  ·rw [hCn] at hc;cases hc
 ·obtain ⟨_,f1,_,f3,f4,f5⟩:=hf b hb
  exact ⟨f3,f1,f4,f5⟩
theorem T5 {elt tg iter:Expr} {scope:Scope} {pos:Pos} {cl:List (Str × Addr)} {Nc:List Str} {caps:List (Option Nat)} {wi:TI} {g:TG} {te:TE} (hc:X.calm=true) (cp:Z9 X scope cl Nc caps) (hi:PI X tg iter wi)
  (hg:∀ C s₂ H₂ fp pins,PG (X.block scope cl C Nc s₂ H₂ fp pins) tg g) (he:∀ C s₂ H₂ fp pins,PE (X.block scope cl C Nc s₂ H₂ fp pins) elt te) (hs:∀ x,foldedSetIterable iter X.env x=pure x:=by intro _;rfl) :
  PE X (.ListComp elt [⟨tg,iter,[],0⟩] scope pos) (aZ1 wi caps g te):=by
 intro pins s σ H Q I h
 rw [eval_ListComp]
 refine wpAny_comprehension_free (use:=none) rfl hs cp.clos cp.kind cp.names ?_
 refine thn (hi pins s σ H _ I h) fun v s1 h1=>thn h1 fun itv s2 h2=>?_
 obtain ⟨it,fp,tn,J,H2,e,I2,T,st2,f2,hW⟩:=h2
 subst e
 refine wpAny_newObj_type ?_ (by show 0≤sizeLine;exact Nat.zero_le _)
 refine wpAny_newFunctionEnv cp.nocell (by intro y hy;simp at hy) (fun h4 hns hsb=>?_) cp.kind
 dsimp only at hns hsb ⊢
 generalize hH3:s2.heap.push { cls:=.type "list",dict:=none,data:=.seq ([]:List Value).toArray }=H3 at hns hsb ⊢
 have hCe:H3.objs.size=s2.heap.objs.size + 1:=by rw [← hH3,Heap.size_push]
 have S8:∀ b o,s2.heap.get? b=some o→b ≠ H3.objs.size:=fun b o e=>by rw [hCe];exact Nat.ne_of_lt (Nat.lt_succ_of_lt (Heap.lt_size e))
 have old:∀ b o,s2.heap.get? b=some o→h4.get? b=some o:=fun b o e=>hsb.extBut b o (S8 b o e) (Heap.get?_push_of_some _ (hH3 ▸ Heap.get?_push_of_some _ e))
 have hD:h4.get? s2.heap.objs.size=some { cls:=.type "list",dict:=none,data:=.seq ([]:List Value).toArray } :=
  hsb.extBut _ _ (by rw [hCe];exact Nat.ne_of_lt (Nat.lt_succ_self _)) (Heap.get?_push_of_some _ (hH3 ▸ Heap.get?_push_size _ rfl))
 have hDn:H2 s2.heap.objs.size=none:=I2.fresh
 have hCn:H2 H3.objs.size=none:=I2.hok.fresh (by rw [hCe];exact Nat.le_succ _)
 have hCs:s2.heap.objs.size≤H3.objs.size:=by rw [hCe];exact Nat.le_succ _
 have hDC:s2.heap.objs.size ≠ H3.objs.size:=by rw [hCe];exact Nat.ne_of_lt (Nat.lt_succ_self _)
 have fpl:∀ b ∈ fp,∃ o,s2.heap.get? b=some o:=fun b hb=>let ⟨o,e,_⟩:=T.obj _ _ st2 b hb;⟨o,e⟩
 have fpC:∀ b ∈ fp,b ≠ H3.objs.size:=fun b hb=>let ⟨o,e⟩:=fpl b hb;S8 b o e
 have fpD:∀ b ∈ fp,b ≠ s2.heap.objs.size:=fun b hb=>let ⟨o,e⟩:=fpl b hb;Nat.ne_of_lt (Heap.lt_size e)
 have stkN:∀ b,b ≠ X.env.locals→b ∉ X.fs→b ∉ frs X.stack:=fun b h1 h2 z=>(List.mem_cons.mp (I2.stkSub b z)).elim h1 h2
 obtain ⟨W,⟨m0,w0⟩,turn⟩:=hW s2.heap.objs.size hDn
 have okB:(X.block scope cl H3.objs.size Nc s2 H2 fp pins).Ok:=by
  refine ⟨I2.ok.mod,?_,I2.ok.glob,I2.ok.blt,hCs,fun x y c h1 h2=>I2.ok.inj x y c (cp.sub x c h1) (cp.sub y c h2),fun x hx=>cp.has x hx,fun x c h=>(by cases h),I2.ok.hd,I2.ok.frames,.inl rfl,fun b hb=>⟨fpC b hb,fun x c h=>(f2 b hb).2.2.2.2.1 x c (cp.sub x c h)⟩,I2.bs,Nat.le_trans I2.ok.bsz I2.sz,fun b o e hb=>?_,fun b hb=>stkN b (f2 b hb).2.1 (f2 b hb).2.2.1,I2.stack,I2.stkFree⟩
  ·exact cp.kind
  ·rcases (f2 b hb).2.2.2.1 with z | z
   ·exact I2.ok.noex b o e z
   ·exact absurd (Nat.lt_of_lt_of_le (Heap.lt_size e) (Nat.le_trans I2.ok.bsz z)) (Nat.lt_irrefl _)
 have hokB:HOk X.prog X.w (upd H2 s2.heap.objs.size (.lst [])) h4:=I2.hok.laid old (Nat.le_refl _) ⟨Nat.zero_le _,[],_,.nil,hD⟩
 have IB:Inv (X.block scope cl H3.objs.size Nc s2 H2 fp pins) [] (M0 caps σ) (upd H2 s2.heap.objs.size (.lst [])) { s2 with heap:=h4,toks:=s2.toks + ([]:List (Str × Value)).length }:=by
  refine ⟨okB,rfl,I2.bare,Un.laid old (Nat.le_refl _) hDn,⟨_,hns,fun i x v e1 e2 e3=>?_⟩,fun x c e=>?_,(show upd H2 s2.heap.objs.size (.lst []) H3.objs.size=none by rw [j3 (Ne.symm hDC)];exact hCn),fun x c e=>?_,fun p hp=>?_,hokB,?_⟩
  ·unfold M0 at e2
   rw [List.getElem?_map] at e2
   cases hcap:caps[i]? with
   | none=>rw [hcap] at e2;cases e2
   | some o =>
    rw [hcap] at e2
    cases o with
    | none=>cases e2
    | some j =>
     have hj:σ[j]? = some (some v):=by
      have e2':(σ[j]?).join=some v:=Option.some.inj e2
      cases q:σ[j]? with
      | none=>rw [q] at e2';cases e2'
      | some z=>rw [q] at e2';exact congrArg some e2'
     obtain ⟨n1,n2,n3,n4⟩:=cp.cap i j x hcap e1
     obtain ⟨m,hm,hl⟩:=I2.loc
     obtain ⟨u,r,q⟩:=hl j x v n1 hj n2
     rcases q with ⟨k,_⟩ | ⟨k,c,ec,z⟩
     ·exact absurd k n3
     ·obtain ⟨c',ec'⟩:=cp.has x n4
      have:=cp.sub x c' ec'
      rw [ec] at this;cases this
      obtain ⟨oc,ho,hd⟩:=z
      exact ⟨u,r,.inr ⟨n4,c,ec',oc,old _ _ ho,hd⟩⟩
  ·obtain ⟨v,oc,ho,hd⟩:=I2.cell x c (cp.sub x c e)
   exact ⟨v,oc,old _ _ ho,hd⟩
  ·obtain ⟨v,oc,ho,hd⟩:=I2.cell x c (cp.sub x c e)
   rw [j3 (Nat.ne_of_lt (Heap.lt_size ho))]
   exact I2.freeC x c (cp.sub x c e)
  ·have hp':p ∈ X.pn ++ pins:=by simpa using hp
   obtain ⟨e1,e2,e3,e4,e5⟩:=I2.pin p hp'
   exact ⟨old _ _ e1,by rw [j3 (Nat.ne_of_lt (Heap.lt_size e1))];exact e2,S8 _ _ e1,stkN _ e3 e4,e5⟩
  ·show (M0 caps σ).length=Nc.length
   unfold M0
   rw [List.length_map];exact cp.len
 have stat:∀ {H':Hp},(∀ b ∈ fp,H' b=none)→∀ b ∈ fp,P8 (X.block scope cl H3.objs.size Nc s2 H2 fp pins) [] H' b:=fun hn b hb =>
  ⟨hn b hb,fpC b hb,stkN b (f2 b hb).2.1 (f2 b hb).2.2.1,.inl hb,fun x c h=>(f2 b hb).2.2.2.2.1 x c (cp.sub x c h),fun p hp=>(f2 b hb).2.2.2.2.2 p (by simpa using hp)⟩
 have loop:∀ s5:Shared,s5={ s2 with heap:=h4,toks:=s2.toks + ([]:List (Str × Value)).length } →
   codeAny (model X.prog X.w) X.A (.compLoop (.ListComp elt [⟨tg,iter,[],0⟩] scope pos) 0 (.ref it) (.ref s2.heap.objs.size) (compEnvC scope cl H3.objs.size X.env))
    (compPost (model X.prog X.w) X.A X.xe none (EP X pins σ Q) (.ref s2.heap.objs.size) H3.objs.size) s5:=by
  rintro s5 rfl
  refine ay9 (fun n s' => ∃ i σ' H',Inv (X.block scope cl H3.objs.size Nc s2 H2 fp pins) [] σ' H' s'∧tn i s'.heap∧(∀ b ∈ fp,H' b=none)∧W i n σ' H') ?_ m0 ⟨0,_,_,IB,T.keep _ _ _ st2 fun b hb o e=>old b o e,fun b hb=>by rw [j3 (fpD b hb)];exact (f2 b hb).1,w0⟩
  rintro n s6 ⟨i,σ6,H6,I6,st6,fr6,w6⟩
  rcases turn i n σ6 H6 w6 with ⟨stop,qn⟩ | ⟨go,step⟩
  ·refine thn (T.done (X.block scope cl H3.objs.size Nc s2 H2 fp pins) rfl rfl rfl hc i [] s6 σ6 H6 _ I6 (stat fr6) st6 stop) fun r s7 ⟨hr,I7⟩=>?_
   subst hr
   obtain ⟨m7,hn7,_⟩:=id I7.loc
   exact ⟨m7,hn7,fun h' sb=>⟨.ref s2.heap.objs.size,H6,I2.sameC f2 I7.os I7.bare I7.base I7.hok hCs I7.free sb,rfl,qn⟩⟩
  ·refine thn (T.item (X.block scope cl H3.objs.size Nc s2 H2 fp pins) rfl rfl rfl hc i [] s6 σ6 H6 _ I6 (stat fr6) st6 go) fun r s7 ⟨u,hr,h7⟩=>?_
   subst hr
   refine thn h7 fun _ s8 ⟨x,H8,I8,r8,y8,st8,fr8⟩=>?_
   have I8':=I8.pinned (stat fr8) (T.obj _ _ st8)
   refine thn (hg _ _ _ _ _ _ s8 σ6 H8 x u _ I8' r8 (step x H8 y8)) fun _ s9 ⟨σ9,H9,I9,q9⟩=>?_
   refine thn (he _ _ _ _ _ _ s9 σ9 H9 _ I9 q9) fun u10 s10 ⟨v10,H10,I10,r10,ys,hys,hlen,m',hm',w'⟩=>?_
   refine thn (X7 _ s10 σ9 H10 (.ref s2.heap.objs.size) [v10] (.ref s2.heap.objs.size) [u10] (fun _ H11=>H11=upd H10 s2.heap.objs.size (.lst (ys ++ [v10]))) I10 rfl (.cons r10 .nil) ⟨_,ys,v10,rfl,rfl,hys,hlen,rfl⟩) fun _ s11 ⟨_,H11,I11,_,hH11⟩=>?_
   subst hH11
   refine ⟨m',hm',i + 1,σ9,_,I11.unpinned,T.keep _ _ _ st8 fun b hb o e=>(I11.pin (b,o) (List.mem_append_right _ (List.mem_append_right _ (v4 hb e)))).1,fun b hb=>?_,w'⟩
   obtain ⟨o,e,d⟩:=T.obj _ _ st8 b hb
   exact (I11.pin (b,o) (List.mem_append_right _ (List.mem_append_right _ (v4 hb e)))).2.1
 exact codeAny_compStart_list (loop _ rfl) (T.self _ 0 _ _ _ (T.keep _ _ _ st2 fun b hb o e=>old b o e) (loop _ rfl))
end
open PySem PySem.Spec PyProof.Rows
def ah2 (scope osc:Scope):List (Str × NameKind):=scope.names.map fun (n,k)=>if (k == .free && osc.kind == .function && osc.names.lookup n == some .cell) then (n,.cell) else (n,k)
def bn6 (o:Option NameKind):Bool:=o == some .cell || o == some .free
def bi6 (scope osc:Scope) (N ks Nc:List Str) (caps:List (Option Nat)):Bool :=
 ((ah2 scope osc).all fun y => !(y.2 == .cell || y.2 == .free) || ks.contains y.1) && (scope.names.all fun y=>y.2 != .cell) && scope.kind == .function &&
 (scope.names.all fun y=>y.2 != .local || scope.names.lookup y.1 == some .local) && caps.length == Nc.length &&
 ((caps.zip Nc).all fun p=>match p.1 with
  | none=>true
  | some j=>N[j]? == some p.2 && bn6 (osc.names.lookup p.2) && bn6 ((ah2 scope osc).lookup p.2))
theorem ar5 {α β:Type} [BEq α] [LawfulBEq α]:∀ {l:List (α × β)} {x:α} {v:β},l.lookup x=some v→(x,v) ∈ l
 | [],_,_,h=>by simp at h
 | (a,b) :: r,x,v,h=>by
  rw [List.lookup_cons] at h
  split at h
  ·rename_i e
   have:=eq_of_beq e
   subst this
   cases h
   exact List.mem_cons_self
  ·exact List.mem_cons_of_mem _ (ar5 h)
theorem ae6 {β:Type}:∀ {l:List (Str × β)} {x:Str},x ∈ l.map (·.1)→∃ c,l.lookup x=some c
 | [],_,h=>by simp at h
 | (a,b) :: r,x,h=>by
  rw [List.lookup_cons]
  by_cases e:x=a
  ·subst e;exact ⟨b,by simp⟩
  ·have:(x == a)=false:=by simpa using e
   rw [this]
   rcases List.mem_cons.mp h with z | z
   ·exact absurd z e
   ·exact ae6 z
theorem aS0 {o:Option NameKind} (h:bn6 o=true):o=some .cell ∨ o=some .free:=by
 unfold bn6 at h
 simp only [Bool.or_eq_true,beq_iff_eq] at h
 exact h
theorem Z9.of {X:Cx} {scope osc:Scope} {cl:List (Str × Addr)} {N ks Nc:List Str} {caps:List (Option Nat)} (clos:closureFor scope X.env=pure cl) (hN:X.N=N) (hosc:X.env.scope=osc) (hks:cl.map (·.1)=ks)
  (sub:∀ x c,cl.lookup x=some c→X.env.cells.lookup x=some c) (ok:bi6 scope osc N ks Nc caps=true):Z9 X scope cl Nc caps:=by
 unfold bi6 at ok
 simp only [Bool.and_eq_true,List.all_eq_true,beq_iff_eq,Bool.or_eq_true,Bool.not_eq_true',bne_iff_ne,ne_eq] at ok
 obtain ⟨⟨⟨⟨⟨o1,o2⟩,o3⟩,o4⟩,o5⟩,o6⟩:=ok
 have er:(relabel scope X.env).names=ah2 scope osc:=by subst hosc;rfl
 have kof:∀ x,X.env.kindOf x=osc.names.lookup x:=fun x=>by subst hosc;rfl
 refine ⟨clos,sub,fun x h=>?_,fun x hx=>o2 x hx,o3,fun x hx hl=>?_,o5,fun i j x h1 h2=>?_⟩
 ·rw [er] at h
  refine ae6 ?_
  rw [hks]
  have key:∀ k,(ah2 scope osc).lookup x=some k→(k=.cell ∨ k=.free)→x ∈ ks:=fun k hk hcf=>by
   rcases o1 (x,k) (ar5 hk) with z | z
   ·rcases hcf with rfl | rfl <;> simp at z
   ·simpa using z
  rcases h with h | h
  ·exact key _ h (.inl rfl)
  ·exact key _ h (.inr rfl)
 ·rcases o4 x hx with z | z
  ·exact absurd hl z
  ·exact z
 ·have hm:(some j,x) ∈ caps.zip Nc:=by
   have:(caps.zip Nc)[i]? = some (some j,x):=by
    rw [List.getElem?_zip_eq_some];exact ⟨h1,h2⟩
   exact List.mem_of_getElem? this
  have z:=o6 _ hm
  simp only [Bool.and_eq_true,beq_iff_eq] at z
  obtain ⟨⟨z1,z2⟩,z3⟩:=z
  have c2:=aS0 z2
  have c3:=aS0 z3
  refine ⟨by rw [hN];exact z1,?_,?_,?_⟩
  ·rw [hosc]
   rcases c2 with c | c
   ·exact .inr (.inl c)
   ·exact .inr (.inr c)
  ·rw [kof]
   rcases c2 with c | c <;> rw [c] <;> decide
  ·rw [er];exact c3
open PySem PySem.Spec PyProof.Rows
section
variable {X:Cx} {pins:List (Addr × Obj)} {σ:St} {H:Hp} {s:Shared}
theorem Inv.turnLaid {h':Heap} {t':Nat} {fp:List Addr} {a:Addr} {o:HO} (I:Inv X pins σ H s) (hf:∀ b ∈ fp,P8 X pins H b)
  (k:∀ b u,b ∉ fp→s.heap.get? b=some u→h'.get? b=some u) (hp:s.heap.objs.size≤a) (new:G2 X.prog X.w (upd H a o) h' a o):Inv X pins σ (upd H a o) { s with heap:=h',toks:=t' }:=by
 have hn:H a=none:=I.hok.fresh hp
 have nf:∀ b u,H b=some u→b ∉ fp:=fun b u e z=>by rw [(hf b z).1] at e;cases e
 have ne:∀ b u,s.heap.get? b=some u→b ≠ a:=fun b u e=>Nat.ne_of_lt (Nat.lt_of_lt_of_le (Heap.lt_size e) hp)
 refine I.step (g':=s.gens) (d':=s.drawn) (ch:=fp) (fun b hb=>?_) (fun b o _ _ hc e _=>k b o hc e) (fun b o _ _ hc e _=>⟨o.slots,k b o hc e⟩) (fun b o _ e n=>by rw [j3 (ne b o e)];exact n)
  (fun b o hc e=>⟨o,k b o hc e⟩) (fun b xs e=>by rw [j3 (i5 e hn)];exact e) (fun b o u e=>by rw [j3 (i5 e hn)];exact e) (fun b ps e=>⟨#[],by rw [j3 (i5 e hn),e];simp⟩) (fun m hm=>?_) (fun b u e=>?_) I.bare
 ·obtain ⟨_,f1,_,f3,f4,f5⟩:=hf b hb
  exact ⟨f3,f1,f4,f5⟩
 ·obtain ⟨o,es,ep,ho,r⟩:=hm
  exact ⟨o,es,ep,k _ o (fun z=>(hf _ z).2.1 rfl) ho,r⟩
 ·by_cases hb:b=a
  ·subst hb;rw [d7] at e;cases e;exact new
  ·rw [j3 hb] at e
   refine (I.hok b u e).stay (fun c v hc q=>k c v ?_ q) (fun c q=>by rw [j3 (i5 q hn)];exact q) fun c xs q=>by rw [j3 (i5 q hn)];exact q
   rcases hc with z | z
   ·rw [z];exact nf b u e
   ·exact nf c _ z
end
def Ite (K:PySem.W.Frag) (a:Addr):It :=
 ⟨fun i H => ∃ xs x,SqL K H a xs∧xs[i]? = some x,fun i H y H' => ∀ xs,SqL K H a xs→∃ x p,xs[i]? = some x∧H p=none∧y=.ref p∧H'=upd H p (.tup [.int i,x]),fun i H => ∃ xs,SqL K H a xs∧xs.length≤i⟩
theorem aT8 {P:Program} {w:World} {K:PySem.W.Frag} {elts:List Expr} {k:Nat} {tpos:Pos} (a e it:Addr) (hei:e ≠ it) :
  bi9 P w K (.Tuple elts k tpos) (Ite K a) [e,it] e (fun i h=>(∃ old,IsEnum h e it ((i:Nat):Int) old)∧h.IsListIter it a i) where
 mem:=by simp
 obj:=fun i h st b hb=>by
  obtain ⟨⟨old,he⟩,hit⟩:=st
  rcases (by simpa using hb:b=e ∨ b=it) with z | z
  ·subst z
   exact ⟨_,he,fun v z=>by cases z⟩
  ·subst z
   obtain ⟨o,e,c,d⟩:=hit
   exact ⟨o,e,fun v z=>by rw [d] at z;cases z⟩
 keep:=fun i h h' st k=>⟨let ⟨old,he⟩:=st.1;⟨old,k e (by simp) _ he⟩,st.2.at fun o e=>k it (by simp) o e⟩
 item:=by
  intro X hP hw hK hc i pins s σ H E I hf st hg
  subst hP hw hK
  obtain ⟨xs,x,hq,hx⟩:=hg
  obtain ⟨its,rv,p,hz⟩:=I.list hq
  obtain ⟨u,hu,ru⟩:=rv.get hx
  obtain ⟨⟨old,he⟩,hit⟩:=st
  have helt:e < s.heap.objs.size:=Heap.lt_size he
  have hilt:it < s.heap.objs.size:=by obtain ⟨_,x,_⟩:=id hit;exact Heap.lt_size x
  refine wpAny_pyNext_enum_item he hit p.isList (x:=u) (by simpa using hu) hei fun h' ho hit' hT hsz kk=>?_
  refine ⟨_,rfl,?_⟩
  refine wpAny_letOwnedTupleGo_enum (s:={ s with heap:=h',toks:=s.toks + 1 }) ho fun h'' he' sb=>?_
  have hT':h''.get? s.heap.objs.size=some { cls:=.type "tuple",data:=.seq #[.int i s.toks,u] }:=(sb.2 _ (Nat.ne_of_gt helt)).trans hT
  refine ⟨.ref s.heap.objs.size,upd H s.heap.objs.size (.tup [.int i,x]),I.turnLaid (fp:=[e,it]) (t':=s.toks + 1) hf (fun b v hb q=>?_) (Nat.le_refl _) ?_,rfl,?_,?_,fun b hb=>?_⟩
  ·have h1:b ≠ e:=fun z=>hb (by simp [z])
   have h2:b ≠ it:=fun z=>hb (by simp [z])
   exact (sb.2 b h1).trans (kk b v h1 h2 q)
  ·exact ⟨(show 2≤sizeLine by decide +kernel),[.int i s.toks,u],.cons ⟨_,rfl⟩ (.cons ru .nil),_,hT',rfl,_,rfl⟩
  ·intro ys hy
   rw [I.list_inj hy hq]
   exact ⟨x,_,hx,I.fresh,rfl,rfl⟩
  ·refine ⟨⟨u,by have:=he';simpa using this⟩,hit'.at fun o q=>(sb.2 it hei.symm).trans q⟩
  ·have hlt:b < s.heap.objs.size:=by
    rcases (by simpa using hb:b=e ∨ b=it) with z | z
    ·rw [z];exact helt
    ·rw [z];exact hilt
   rw [j3 (Nat.ne_of_lt hlt)]
   exact (hf b hb).1
 done:=by
  intro X hP hw hK hc i pins s σ H E I hf st hg
  subst hP hw hK
  obtain ⟨xs,hq,hx⟩:=hg
  obtain ⟨its,rv,p,hz⟩:=I.list hq
  obtain ⟨⟨old,he⟩,hit⟩:=st
  obtain ⟨f0,f1,f2,f3,f4,f5⟩:=hf it (by simp)
  have hl:=rv.length
  exact wpAny_pyNext_enum_end (I.ok.hd hc) he hit p.isList (by simp;omega) fun h' eb=>⟨rfl,I.turned (t':=s.toks) (fun b o hb e=>eb b o hb e) f0 f1 f3 f4 f5⟩
 self:=fun _ _ _ _ _ st h=>by
  obtain ⟨⟨old,he⟩,_⟩:=st
  exact wpAny_pyIter_enum he h
section
variable {X:Cx}
def bf3 (K:PySem.W.Frag) (ta:TA):TI:=fun σ H R=>ta σ H fun vs H1 => ∃ a,vs=[.ref a]∧(∃ xs,SqL K H1 a xs)∧R (Ite K a) H1
theorem aC4 {elts:List Expr} {k:Nat} {tpos:Pos} {l:Expr} {ta:TA} {p pos:Pos} (hg:Gl X "enumerate") (hm:X.mg "enumerate" = none) (ha:PA X [l] ta) (hs:starEach [l] X.env=[(false,eval l X.env)]:=by rfl) :
  PI X (.Tuple elts k tpos) (.Call (.Name "enumerate" p) [l] [] pos) (bf3 X.K ta):=by
 intro pins s σ H R I h
 refine Call_ (af8 I hg hm (u:=.type "enumerate") (by decide +kernel) (PyProof.Rows.callWith_type1 (thn (ha pos pins s σ H _ I h) fun us s1 ⟨vs,H1,I1,r1,q1⟩=>?_) hs rfl))
 obtain ⟨a,e,⟨xs,hq⟩,q⟩:=q1
 subst e
 obtain ⟨u,rfl,rx⟩:=ap1 r1
 cases rx
 obtain ⟨its,rv,p,hz⟩:=I1.list hq
 refine call_enumerate_list p.isList fun h' he hit hsz kk=>?_
 refine wpAny_pyIter_enum he ?_
 have I2:Inv X pins σ H1 { s1 with heap:=h' }:=I1.kept (t':=s1.toks) kk
 refine ⟨s1.heap.objs.size + 1,[s1.heap.objs.size + 1,s1.heap.objs.size],_,_,H1,rfl,I2,aT8 a _ _ (Nat.succ_ne_self _),⟨⟨_,he⟩,hit⟩,fun b hb=>?_,q⟩
 have hb':s1.heap.objs.size≤b:=by
  rcases (by simpa using hb:b=s1.heap.objs.size + 1 ∨ b=s1.heap.objs.size) with z | z
  ·rw [z];exact Nat.le_succ _
  ·rw [z];exact Nat.le_refl _
 obtain ⟨f0,f1,f2,f3,f4,f5⟩:=I1.fpOk (H':=H1) hb' (I1.hok.fresh hb')
 exact ⟨f0,f1,f2,f3,f4,f5⟩
end
section
variable {prog:Program} {w:World} {A:Around} {R:Result→Shared→Prop} {s:Shared}
theorem am2 {elt target iter c:Expr} {scope:Scope} {pos:Pos} {it acc:Value} {env:Env} (I:Nat→Shared→Prop)
  (turn:∀ n s,I n s→wpAny (model prog w) A (pyNext it) (fun r s₁=>match r with
   | none=>R (.ok .next) s₁
   | some v=>wpAny (model prog w) A (letOwnedTupleGo target it v) (fun _ s₁'=>wpAny (model prog w) A (assign target env v) (fun _ s₂ =>
     wpAny (model prog w) A (isTrue c env (eval c env)) (fun ok s₂'=>if ok=true then wpAny (model prog w) A (eval elt env) (fun x s₃ =>
     wpAny (model prog w) A (call (.builtin "list.append") [acc,x]) (fun _ s₄ => ∃ m,m < n∧I m s₄) (fun _ _=>False) s₃)
     (fun _ _=>False) s₂' else ∃ m,m < n∧I m s₂') (fun _ _=>False) s₂) (fun _ _=>False) s₁') (fun _ _=>False) s₁) (fun _ _=>False) s)
  (n:Nat) (h:I n s) :
  codeAny (model prog w) A (.compLoop (.ListComp elt [⟨target,iter,[c],0⟩] scope pos) 0 it acc env) R s:=by
 refine codeAny_loop rfl I (fun n s hI=>?_) n h
 show wpAny _ _ ((compTurn (.ListComp elt [⟨target,iter,[c],0⟩] scope pos) 0 it acc env).onRaise (fun x=>do noteFrame x env;theTreesLotGoes x)) _ _ s
 refine wpAny_noted ?_
 rw [compTurn_list]
 have no:∀ {P:Value→Shared→Prop} (e:Value) (s:Shared),False→P e s:=fun _ _ h=>h.elim
 refine wpAny_bind (wpAny_standAt (wpAny_bind (wpAny_mono (turn n s hI) (fun r s₁ h₁=>?_) no)))
 cases r with
 | none=>exact wpAny_pure h₁
 | some v =>
  refine wpAny_bind (wpAny_mono h₁ (fun _ s₁' h₁'=>?_) no)
  refine wpAny_bind (wpAny_mono h₁' (fun _ s₂ h₂=>?_) no)
  refine wpAny_bind (wpAny_tests_one (wpAny_mono h₂ (fun ok s₂' h₂'=>?_) no))
  cases ok with
  | true =>
   rw [if_pos rfl] at h₂' ⊢
   exact wpAny_bind (wpAny_bind (wpAny_mono h₂' (fun x s₃ h₃=>wpAny_bind (wpAny_mono h₃ (fun _ s₄ h₄=>wpAny_pure (wpAny_pure ⟨rfl,h₄⟩)) no)) no))
  | false =>
   rw [if_neg (by decide)] at h₂' ⊢
   exact wpAny_pure ⟨rfl,h₂'⟩
end
def aA3 (wi:TI) (caps:List (Option Nat)) (g:TG) (tt:TT) (te:TE):TE:=fun σ H Q=>wi σ H fun J H1 => ∀ D,H1 D=none→∃ W:Nat→Nat→St→Hp→Prop,(∃ m,W 0 m (M0 caps σ) (upd H1 D (.lst []))) ∧
 ∀ i m σc H2,W i m σc H2→(J.stop i H2∧Q (.ref D) H2) ∨
  (J.go i H2∧∀ x H3,J.yld i H2 x H3→g x σc H3 fun σ4 H4=>tt σ4 H4 fun b H4'=>if b=true then te σ4 H4' fun y H5 => ∃ ys,H5 D=some (.lst ys)∧ys.length < sizeLine∧∃ m',m' < m∧W (i + 1) m' σ4 (upd H5 D (.lst (ys ++ [y])))
   else ∃ m',m' < m∧W (i + 1) m' σ4 H4')
section
variable {X:Cx}
theorem aV3 {elt tg iter c:Expr} {scope:Scope} {pos:Pos} {cl:List (Str × Addr)} {Nc:List Str} {caps:List (Option Nat)} {wi:TI} {g:TG} {tt:TT} {te:TE} (hc:X.calm=true) (cp:Z9 X scope cl Nc caps) (hi:PI X tg iter wi)
  (hg:∀ C s₂ H₂ fp pins,PG (X.block scope cl C Nc s₂ H₂ fp pins) tg g) (ht:∀ C s₂ H₂ fp pins,PT (X.block scope cl C Nc s₂ H₂ fp pins) c tt) (he:∀ C s₂ H₂ fp pins,PE (X.block scope cl C Nc s₂ H₂ fp pins) elt te) (hs:∀ x,foldedSetIterable iter X.env x=pure x:=by intro _;rfl) :
  PE X (.ListComp elt [⟨tg,iter,[c],0⟩] scope pos) (aA3 wi caps g tt te):=by
 intro pins s σ H Q I h
 rw [eval_ListComp]
 refine wpAny_comprehension_free (use:=none) rfl hs cp.clos cp.kind cp.names ?_
 refine thn (hi pins s σ H _ I h) fun v s1 h1=>thn h1 fun itv s2 h2=>?_
 obtain ⟨it,fp,tn,J,H2,e,I2,T,st2,f2,hW⟩:=h2
 subst e
 refine wpAny_newObj_type ?_ (by show 0≤sizeLine;exact Nat.zero_le _)
 refine wpAny_newFunctionEnv cp.nocell (by intro y hy;simp at hy) (fun h4 hns hsb=>?_) cp.kind
 dsimp only at hns hsb ⊢
 generalize hH3:s2.heap.push { cls:=.type "list",dict:=none,data:=.seq ([]:List Value).toArray }=H3 at hns hsb ⊢
 have hCe:H3.objs.size=s2.heap.objs.size + 1:=by rw [← hH3,Heap.size_push]
 have S8:∀ b o,s2.heap.get? b=some o→b ≠ H3.objs.size:=fun b o e=>by rw [hCe];exact Nat.ne_of_lt (Nat.lt_succ_of_lt (Heap.lt_size e))
 have old:∀ b o,s2.heap.get? b=some o→h4.get? b=some o:=fun b o e=>hsb.extBut b o (S8 b o e) (Heap.get?_push_of_some _ (hH3 ▸ Heap.get?_push_of_some _ e))
 have hD:h4.get? s2.heap.objs.size=some { cls:=.type "list",dict:=none,data:=.seq ([]:List Value).toArray } :=
  hsb.extBut _ _ (by rw [hCe];exact Nat.ne_of_lt (Nat.lt_succ_self _)) (Heap.get?_push_of_some _ (hH3 ▸ Heap.get?_push_size _ rfl))
 have hDn:H2 s2.heap.objs.size=none:=I2.fresh
 have hCn:H2 H3.objs.size=none:=I2.hok.fresh (by rw [hCe];exact Nat.le_succ _)
 have hCs:s2.heap.objs.size≤H3.objs.size:=by rw [hCe];exact Nat.le_succ _
 have hDC:s2.heap.objs.size ≠ H3.objs.size:=by rw [hCe];exact Nat.ne_of_lt (Nat.lt_succ_self _)
 have fpl:∀ b ∈ fp,∃ o,s2.heap.get? b=some o:=fun b hb=>let ⟨o,e,_⟩:=T.obj _ _ st2 b hb;⟨o,e⟩
 have fpC:∀ b ∈ fp,b ≠ H3.objs.size:=fun b hb=>let ⟨o,e⟩:=fpl b hb;S8 b o e
 have fpD:∀ b ∈ fp,b ≠ s2.heap.objs.size:=fun b hb=>let ⟨o,e⟩:=fpl b hb;Nat.ne_of_lt (Heap.lt_size e)
 have stkN:∀ b,b ≠ X.env.locals→b ∉ X.fs→b ∉ frs X.stack:=fun b h1 h2 z=>(List.mem_cons.mp (I2.stkSub b z)).elim h1 h2
 obtain ⟨W,⟨m0,w0⟩,turn⟩:=hW s2.heap.objs.size hDn
 have okB:(X.block scope cl H3.objs.size Nc s2 H2 fp pins).Ok:=by
  refine ⟨I2.ok.mod,?_,I2.ok.glob,I2.ok.blt,hCs,fun x y c h1 h2=>I2.ok.inj x y c (cp.sub x c h1) (cp.sub y c h2),fun x hx=>cp.has x hx,fun x c h=>(by cases h),I2.ok.hd,I2.ok.frames,.inl rfl,fun b hb=>⟨fpC b hb,fun x c h=>(f2 b hb).2.2.2.2.1 x c (cp.sub x c h)⟩,I2.bs,Nat.le_trans I2.ok.bsz I2.sz,fun b o e hb=>?_,fun b hb=>stkN b (f2 b hb).2.1 (f2 b hb).2.2.1,I2.stack,I2.stkFree⟩
  ·exact cp.kind
  ·rcases (f2 b hb).2.2.2.1 with z | z
   ·exact I2.ok.noex b o e z
   ·exact absurd (Nat.lt_of_lt_of_le (Heap.lt_size e) (Nat.le_trans I2.ok.bsz z)) (Nat.lt_irrefl _)
 have hokB:HOk X.prog X.w (upd H2 s2.heap.objs.size (.lst [])) h4:=I2.hok.laid old (Nat.le_refl _) ⟨Nat.zero_le _,[],_,.nil,hD⟩
 have IB:Inv (X.block scope cl H3.objs.size Nc s2 H2 fp pins) [] (M0 caps σ) (upd H2 s2.heap.objs.size (.lst [])) { s2 with heap:=h4,toks:=s2.toks + ([]:List (Str × Value)).length }:=by
  refine ⟨okB,rfl,I2.bare,Un.laid old (Nat.le_refl _) hDn,⟨_,hns,fun i x v e1 e2 e3=>?_⟩,fun x c e=>?_,(show upd H2 s2.heap.objs.size (.lst []) H3.objs.size=none by rw [j3 (Ne.symm hDC)];exact hCn),fun x c e=>?_,fun p hp=>?_,hokB,?_⟩
  ·unfold M0 at e2
   rw [List.getElem?_map] at e2
   cases hcap:caps[i]? with
   | none=>rw [hcap] at e2;cases e2
   | some o =>
    rw [hcap] at e2
    cases o with
    | none=>cases e2
    | some j =>
     have hj:σ[j]? = some (some v):=by
      have e2':(σ[j]?).join=some v:=Option.some.inj e2
      cases q:σ[j]? with
      | none=>rw [q] at e2';cases e2'
      | some z=>rw [q] at e2';exact congrArg some e2'
     obtain ⟨n1,n2,n3,n4⟩:=cp.cap i j x hcap e1
     obtain ⟨m,hm,hl⟩:=I2.loc
     obtain ⟨u,r,q⟩:=hl j x v n1 hj n2
     rcases q with ⟨k,_⟩ | ⟨k,c,ec,z⟩
     ·exact absurd k n3
     ·obtain ⟨c',ec'⟩:=cp.has x n4
      have:=cp.sub x c' ec'
      rw [ec] at this;cases this
      obtain ⟨oc,ho,hd⟩:=z
      exact ⟨u,r,.inr ⟨n4,c,ec',oc,old _ _ ho,hd⟩⟩
  ·obtain ⟨v,oc,ho,hd⟩:=I2.cell x c (cp.sub x c e)
   exact ⟨v,oc,old _ _ ho,hd⟩
  ·obtain ⟨v,oc,ho,hd⟩:=I2.cell x c (cp.sub x c e)
   rw [j3 (Nat.ne_of_lt (Heap.lt_size ho))]
   exact I2.freeC x c (cp.sub x c e)
  ·have hp':p ∈ X.pn ++ pins:=by simpa using hp
   obtain ⟨e1,e2,e3,e4,e5⟩:=I2.pin p hp'
   exact ⟨old _ _ e1,by rw [j3 (Nat.ne_of_lt (Heap.lt_size e1))];exact e2,S8 _ _ e1,stkN _ e3 e4,e5⟩
  ·show (M0 caps σ).length=Nc.length
   unfold M0
   rw [List.length_map];exact cp.len
 have stat:∀ {H':Hp},(∀ b ∈ fp,H' b=none)→∀ b ∈ fp,P8 (X.block scope cl H3.objs.size Nc s2 H2 fp pins) [] H' b:=fun hn b hb =>
  ⟨hn b hb,fpC b hb,stkN b (f2 b hb).2.1 (f2 b hb).2.2.1,.inl hb,fun x c h=>(f2 b hb).2.2.2.2.1 x c (cp.sub x c h),fun p hp=>(f2 b hb).2.2.2.2.2 p (by simpa using hp)⟩
 have loop:∀ s5:Shared,s5={ s2 with heap:=h4,toks:=s2.toks + ([]:List (Str × Value)).length } →
   codeAny (model X.prog X.w) X.A (.compLoop (.ListComp elt [⟨tg,iter,[c],0⟩] scope pos) 0 (.ref it) (.ref s2.heap.objs.size) (compEnvC scope cl H3.objs.size X.env))
    (compPost (model X.prog X.w) X.A X.xe none (EP X pins σ Q) (.ref s2.heap.objs.size) H3.objs.size) s5:=by
  rintro s5 rfl
  refine am2 (fun n s' => ∃ i σ' H',Inv (X.block scope cl H3.objs.size Nc s2 H2 fp pins) [] σ' H' s'∧tn i s'.heap∧(∀ b ∈ fp,H' b=none)∧W i n σ' H') ?_ m0 ⟨0,_,_,IB,T.keep _ _ _ st2 fun b hb o e=>old b o e,fun b hb=>by rw [j3 (fpD b hb)];exact (f2 b hb).1,w0⟩
  rintro n s6 ⟨i,σ6,H6,I6,st6,fr6,w6⟩
  rcases turn i n σ6 H6 w6 with ⟨stop,qn⟩ | ⟨go,step⟩
  ·refine thn (T.done (X.block scope cl H3.objs.size Nc s2 H2 fp pins) rfl rfl rfl hc i [] s6 σ6 H6 _ I6 (stat fr6) st6 stop) fun r s7 ⟨hr,I7⟩=>?_
   subst hr
   obtain ⟨m7,hn7,_⟩:=id I7.loc
   exact ⟨m7,hn7,fun h' sb=>⟨.ref s2.heap.objs.size,H6,I2.sameC f2 I7.os I7.bare I7.base I7.hok hCs I7.free sb,rfl,qn⟩⟩
  ·refine thn (T.item (X.block scope cl H3.objs.size Nc s2 H2 fp pins) rfl rfl rfl hc i [] s6 σ6 H6 _ I6 (stat fr6) st6 go) fun r s7 ⟨u,hr,h7⟩=>?_
   subst hr
   refine thn h7 fun _ s8 ⟨x,H8,I8,r8,y8,st8,fr8⟩=>?_
   have I8':=I8.pinned (stat fr8) (T.obj _ _ st8)
   refine thn (hg _ _ _ _ _ _ s8 σ6 H8 x u _ I8' r8 (step x H8 y8)) fun _ s9 ⟨σ9,H9,I9,q9⟩=>?_
   refine thn (ht _ _ _ _ _ _ s9 σ9 H9 _ I9 q9) fun bb s9' ⟨H9',I9',q9'⟩=>?_
   cases bb with
   | false =>
    rw [if_neg (by decide)] at q9' ⊢
    obtain ⟨m',hm',w'⟩:=q9'
    refine ⟨m',hm',i + 1,σ9,H9',I9'.unpinned,T.keep _ _ _ st8 fun b hb o e=>(I9'.pin (b,o) (List.mem_append_right _ (List.mem_append_right _ (v4 hb e)))).1,fun b hb=>?_,w'⟩
    obtain ⟨o,e,d⟩:=T.obj _ _ st8 b hb
    exact (I9'.pin (b,o) (List.mem_append_right _ (List.mem_append_right _ (v4 hb e)))).2.1
   | true =>
    rw [if_pos rfl] at q9' ⊢
    refine thn (he _ _ _ _ _ _ s9' σ9 H9' _ I9' q9') fun u10 s10 ⟨v10,H10,I10,r10,ys,hys,hlen,m',hm',w'⟩=>?_
    refine thn (X7 _ s10 σ9 H10 (.ref s2.heap.objs.size) [v10] (.ref s2.heap.objs.size) [u10] (fun _ H11=>H11=upd H10 s2.heap.objs.size (.lst (ys ++ [v10]))) I10 rfl (.cons r10 .nil) ⟨_,ys,v10,rfl,rfl,hys,hlen,rfl⟩) fun _ s11 ⟨_,H11,I11,_,hH11⟩=>?_
    subst hH11
    refine ⟨m',hm',i + 1,σ9,_,I11.unpinned,T.keep _ _ _ st8 fun b hb o e=>(I11.pin (b,o) (List.mem_append_right _ (List.mem_append_right _ (v4 hb e)))).1,fun b hb=>?_,w'⟩
    obtain ⟨o,e,d⟩:=T.obj _ _ st8 b hb
    exact (I11.pin (b,o) (List.mem_append_right _ (List.mem_append_right _ (v4 hb e)))).2.1
 exact codeAny_compStart_list (loop _ rfl) (T.self _ 0 _ _ _ (T.keep _ _ _ st2 fun b hb o e=>old b o e) (loop _ rfl))
end
open PySem PySem.Spec PyProof.Rows
section
variable {X:Cx}
def bC5 (K:PySem.W.Frag):R2:=fun x y H Q => ∃ d d',d.isV=false∧IsD K H x d∧IsD K H y d'∧okD d d'=true∧dpD d≤60∧Q (.bl (!eqD d d')) H
theorem aj6 (hu:X.A.units + 64 < cLine):OpR X (compareOp .NotEq) (bC5 X.K):=by
 intro pins s σ H x y v u Q I rx ry h
 obtain ⟨d,d',nf,h1,h2,ok,dp,q⟩:=h
 have fin:EP X pins σ Q (.bool (!eqD d d')) s:=⟨.bl _,H,I,rfl,q⟩
 cases h1 with
 | v f =>
  cases h2 with
  | v f'=>exact absurd (show true=false from nf) (by decide)
  | tup _ _=>simp [okD] at ok
  | lst _ _=>simp [okD] at ok
 | @tup p xs ds h t =>
  cases h2 with
  | v f'=>simp [okD] at ok
  | @tup p' ys ds' h' t' =>
   cases (show v=Value.ref p from rx)
   cases (show u=Value.ref p' from ry)
   rw [okD] at ok
   rw [dpD] at dp
   rw [eqD] at fin
   obtain ⟨its,r1,i1,_⟩:=I.tuple h
   obtain ⟨its',r2,i2,_⟩:=I.tuple h'
   have q':∀ (j:Nat) (h1:j < its.length) (h2:j < its'.length),SeqAt.EqAt X.A.in1 s its[j] its'[j] (ac1 ds ds' j):=fun j h1 h2=>Z6 (A:=X.A.in1) I t t' ok r1 r2 (by show X.A.units + 1 + _ < _;omega) j h1 h2
   have z:=SeqAt.RcNeAt.tuples (A:=X.A) (items:=its.toArray) (items2:=its'.toArray) (e:=ac1 ds ds') i1 i2 (by omega) (fun j h1 h2=>q' j (by simpa using h1) (by simpa using h2))
   have e1:its.toArray.size=ds.length:=by rw [List.size_toArray,← r1.length,t.length]
   have e2:its'.toArray.size=ds'.length:=by rw [List.size_toArray,← r2.length,t'.length]
   rw [e1,e2,ad7] at z
   exact PySem.EqBoolInt.of_rcne z fin
  | lst _ _=>simp [okD] at ok
 | @lst p xs ds h t =>
  cases h2 with
  | v f'=>simp [okD] at ok
  | tup _ _=>simp [okD] at ok
  | @lst p' ys ds' h' t' =>
   cases (show v=Value.ref p from rx)
   cases (show u=Value.ref p' from ry)
   rw [okD] at ok
   rw [dpD] at dp
   rw [eqD] at fin
   obtain ⟨its,r1,i1,_⟩:=I.list h
   obtain ⟨its',r2,i2,_⟩:=I.list h'
   have q':∀ (j:Nat) (h1:j < its.length) (h2:j < its'.length),SeqAt.EqAt X.A.in1 s its[j] its'[j] (ac1 ds ds' j):=fun j h1 h2=>Z6 (A:=X.A.in1) I t t' ok r1 r2 (by show X.A.units + 1 + _ < _;omega) j h1 h2
   have e1:its.toArray.size=ds.length:=by rw [List.size_toArray,← r1.length,t.length]
   have e2:its'.toArray.size=ds'.length:=by rw [List.size_toArray,← r2.length,t'.length]
   by_cases hl:ds.length=ds'.length
   ·have z:=SeqAt.RcNeAt.lists (A:=X.A) (items:=its.toArray) (items2:=its'.toArray) (e:=ac1 ds ds') i1.isList i2.isList (by rw [e1,e2,hl]) (by omega) (fun j h1 h2=>q' j (by simpa using h1) (by simpa using h2))
    rw [e1,ae8 ds ds' hl] at z
    exact PySem.EqBoolInt.of_rcne z fin
   ·rw [as2 ds ds' hl] at fin
    exact PySem.EqBoolInt.of_rcne (SeqAt.RcNeAt.lists_lengths (A:=X.A) i1.isList i2.isList (by rw [e1,e2];simpa using hl) (by omega)) fin
end
def N5 (D:Addr) (n:Nat) (Pv:Nat→St→Hp→Prop) (i:Nat) (σ4:St) (y:V) (H5:Hp):Prop :=
 ∃ ys,H5 D=some (.lst ys)∧ys.length < sizeLine∧∃ m',m' < n - i∧(m'=n - (i + 1)∧i + 1≤n∧Pv (i + 1) σ4 (upd H5 D (.lst (ys ++ [y]))))
theorem N5.mk {D:Addr} {n:Nat} {Pv:Nat→St→Hp→Prop} {i:Nat} {σ4:St} {y:V} {H5:Hp} {ys:List V} (hi:i < n) (h:H5 D=some (.lst ys)) (hl:ys.length < sizeLine) (p:Pv (i + 1) σ4 (upd H5 D (.lst (ys ++ [y])))):N5 D n Pv i σ4 y H5 :=
 ⟨ys,h,hl,_,by omega,rfl,hi,p⟩
def aT6 (n:Nat) (Pv:Nat→St→Hp→Prop) (i:Nat) (σ4:St) (H5:Hp):Prop:=∃ m',m' < n - i∧(m'=n - (i + 1)∧i + 1≤n∧Pv (i + 1) σ4 H5)
theorem aT6.mk {n:Nat} {Pv:Nat→St→Hp→Prop} {i:Nat} {σ4:St} {H5:Hp} (hi:i < n) (p:Pv (i + 1) σ4 H5):aT6 n Pv i σ4 H5:=⟨_,by omega,rfl,hi,p⟩
section
variable {K:PySem.W.Frag} {a D:Addr} {xs:List V} {g:TG} {te:TE} {σ0:St} {H0:Hp} {Q:VK}
theorem aX0 (Pv:Nat→St→Hp→Prop) (h0:Pv 0 σ0 H0) (hl:∀ i σ H,i≤xs.length→Pv i σ H→SqL K H a xs)
  (hs:∀ i x σ H,xs[i]? = some x→Pv i σ H→g x σ H fun σ4 H4=>te σ4 H4 fun y H5=>N5 D xs.length Pv i σ4 y H5) (hd:∀ σ H,Pv xs.length σ H→Q (.ref D) H) :
  ∃ W:Nat→Nat→St→Hp→Prop,(∃ m,W 0 m σ0 H0)∧∀ i m σc H2,W i m σc H2→((Itl K a).stop i H2∧Q (.ref D) H2) ∨
   ((Itl K a).go i H2∧∀ x H3,(Itl K a).yld i H2 x H3→g x σc H3 fun σ4 H4=>te σ4 H4 fun y H5 => ∃ ys,H5 D=some (.lst ys)∧ys.length < sizeLine∧∃ m',m' < m∧W (i + 1) m' σ4 (upd H5 D (.lst (ys ++ [y])))):=by
 refine ⟨fun i m σ H=>m=xs.length - i∧i≤xs.length∧Pv i σ H,⟨xs.length,by simp,Nat.zero_le _,h0⟩,?_⟩
 rintro i m σ H ⟨rfl,hi,p⟩
 have q:=hl i σ H hi p
 by_cases hlt:i < xs.length
 ·refine .inr ⟨⟨xs,xs[i],q,List.getElem?_eq_getElem hlt⟩,?_⟩
  rintro x H3 ⟨rfl,hx⟩
  exact hs i x σ _ (hx xs q) p
 ·have e:i=xs.length:=by omega
  subst e
  exact .inl ⟨⟨xs,q,Nat.le_refl _⟩,hd σ H p⟩
theorem aO1 {lo:Int} {n:Nat} (Pv:Nat→St→Hp→Prop) (h0:Pv 0 σ0 H0)
  (hs:∀ i σ H,i < n→Pv i σ H→g (.int (lo + i)) σ H fun σ4 H4=>te σ4 H4 fun y H5=>N5 D n Pv i σ4 y H5) (hd:∀ σ H,Pv n σ H→Q (.ref D) H) :
  ∃ W:Nat→Nat→St→Hp→Prop,(∃ m,W 0 m σ0 H0)∧∀ i m σc H2,W i m σc H2→((Itr lo n).stop i H2∧Q (.ref D) H2) ∨
   ((Itr lo n).go i H2∧∀ x H3,(Itr lo n).yld i H2 x H3→g x σc H3 fun σ4 H4=>te σ4 H4 fun y H5 => ∃ ys,H5 D=some (.lst ys)∧ys.length < sizeLine∧∃ m',m' < m∧W (i + 1) m' σ4 (upd H5 D (.lst (ys ++ [y])))):=by
 refine ⟨fun i m σ H=>m=n - i∧i≤n∧Pv i σ H,⟨n,by simp,Nat.zero_le _,h0⟩,?_⟩
 rintro i m σ H ⟨rfl,hi,p⟩
 by_cases hlt:i < n
 ·refine .inr ⟨hlt,?_⟩
  rintro x H3 ⟨rfl,rfl⟩
  exact hs i σ _ hlt p
 ·have e:i=n:=by omega
  subst e
  exact .inl ⟨Nat.le_refl _,hd σ H p⟩
end
end L2
namespace R
theorem af5 {n d:Int} (hd:0 < d) (hc:Int.gcd n d=1):(Rat.divInt n d).num=n∧((Rat.divInt n d).den:Int)=d:=by
 obtain ⟨k,rfl⟩:∃ k:Nat,d=k:=⟨d.toNat,by omega⟩
 have hk:k ≠ 0:=by omega
 have hc':n.natAbs.Coprime k:=by
  rw [Int.gcd_eq_natAbs_gcd_natAbs] at hc
  simpa [Nat.Coprime] using hc
 have e:(⟨n,k,hk,hc'⟩:Rat)=Rat.divInt n k:=Rat.mk_eq_divInt
 rw [← e]
 exact ⟨rfl,rfl⟩
theorem ai5 {n d t b:Int} (hd:0 < d) (hc:Int.gcd n d=1) (hb:b ≠ 0) (h:n * b=t * d):n=(Rat.divInt t b).num∧d=((Rat.divInt t b).den:Int):=by
 have e:Rat.divInt n d=Rat.divInt t b:=(Rat.divInt_eq_divInt_iff (by omega) hb).mpr h
 obtain ⟨h1,h2⟩:=af5 hd hc
 rw [e] at h1 h2
 exact ⟨h1.symm,h2.symm⟩
theorem t7 {g n:Int} (hg:g ≠ 0):(g * n).fdiv g=n:=by
 rw [Int.mul_comm];exact Int.mul_fdiv_cancel n hg
theorem ad4 {t b:Int} (hb:b ≠ 0):0 < Int.gcd t b:=Int.gcd_pos_of_ne_zero_right t hb
theorem av5 {t b n d:Int} (hb:b ≠ 0) (h1:t=(Int.gcd t b:Int) * n) (h2:b=(Int.gcd t b:Int) * d):Int.gcd n d=1:=by
 have hg:=ad4 (t:=t) hb
 have e:Int.gcd ((Int.gcd t b:Int) * n) ((Int.gcd t b:Int) * d)=Int.gcd t b * Int.gcd n d:=by
  rw [Int.gcd_mul_left];simp
 rw [← h1,← h2] at e
 exact Nat.eq_of_mul_eq_mul_left hg (by rw [← e,Nat.mul_one])
theorem aD9 {t b g : Int} (hb : b ≠ 0) (hg : g = if b < 0 then -(Int.gcd t b : Int) else (Int.gcd t b : Int)) : t.fdiv g = (Rat.divInt t b).num ∧ b.fdiv g = ((Rat.divInt t b).den : Int) := by
  have hp : (0 : Int) < Int.gcd t b := by have := ad4 (t := t) hb; omega
  obtain ⟨n, hn⟩ := Int.gcd_dvd_left t b
  obtain ⟨d, hd⟩ := Int.gcd_dvd_right t b
  have hc := av5 hb hn hd
  by_cases hs : b < 0
  · rw [if_pos hs] at hg
    subst hg
    have hg0 : (-(Int.gcd t b : Int)) ≠ 0 := by omega
    have e1 : t = -(Int.gcd t b : Int) * (-n) := by rw [Int.neg_mul_neg]; exact hn
    have e2 : b = -(Int.gcd t b : Int) * (-d) := by rw [Int.neg_mul_neg]; exact hd
    have f1 : t.fdiv (-(Int.gcd t b : Int)) = -n := by conv => lhs; arg 1; rw [e1]
                                                       exact t7 hg0
    have f2 : b.fdiv (-(Int.gcd t b : Int)) = -d := by conv => lhs; arg 1; rw [e2]
                                                       exact t7 hg0
    rw [f1, f2]
    have hd0 : 0 < -d := by
      rcases Int.lt_or_le d 0 with z | z
      · omega
      · have := Int.mul_nonneg (Int.le_of_lt hp) z; omega
    refine ai5 hd0 (by rw [Int.gcd_neg, Int.neg_gcd]; exact hc) hb ?_
    conv => lhs; rw [hd]
    conv => rhs; rw [hn]
    generalize (Int.gcd t b : Int) = g
    grind
  · rw [if_neg hs] at hg
    subst hg
    have hg0 : ((Int.gcd t b : Int)) ≠ 0 := by omega
    have f1 : t.fdiv (Int.gcd t b : Int) = n := by conv => lhs; arg 1; rw [hn]
                                                   exact t7 hg0
    have f2 : b.fdiv (Int.gcd t b : Int) = d := by conv => lhs; arg 1; rw [hd]
                                                   exact t7 hg0
    rw [f1, f2]
    have hd0 : 0 < d := by
      rcases Int.lt_or_le 0 d with z | z
      · exact z
      · have := Int.mul_nonneg (Int.le_of_lt hp) (show 0 ≤ -d by omega); rw [Int.mul_neg] at this; omega
    refine ai5 hd0 hc hb ?_
    conv => lhs; rw [hd]
    conv => rhs; rw [hn]
    generalize (Int.gcd t b : Int) = g
    grind
theorem y7 (q:Rat):(0:Int) < q.den:=by have:=q.den_nz;omega
theorem at4 (p q:Rat):p + q=Rat.divInt (p.num * q.den + q.num * p.den) (p.den * q.den):=by
 have h1:=y7 p
 have h2:=y7 q
 conv=>lhs;rw [← Rat.num_divInt_den p,← Rat.num_divInt_den q]
 exact Rat.divInt_add_divInt _ _ (by omega) (by omega)
theorem aK8 (p q:Rat):p - q=Rat.divInt (p.num * q.den - q.num * p.den) (p.den * q.den):=by
 have h1:=y7 p
 have h2:=y7 q
 conv=>lhs;rw [← Rat.num_divInt_den p,← Rat.num_divInt_den q]
 exact Rat.divInt_sub_divInt _ _ (by omega) (by omega)
theorem ar3 (p q:Rat):p * q=Rat.divInt (p.num * q.num) (p.den * q.den):=by
 conv=>lhs;rw [← Rat.num_divInt_den p,← Rat.num_divInt_den q]
 exact Rat.divInt_mul_divInt _ _
theorem aJ3 (a b:Int):Int.gcd b (a.fmod b)=Int.gcd a b:=by
 have e:=Int.mul_fdiv_add_fmod a b
 rw [Int.gcd_comm a b]
 conv=>rhs;rw [← e]
 rw [show b * a.fdiv b + a.fmod b=a.fmod b + a.fdiv b * b by rw [Int.mul_comm,Int.add_comm]]
 simp
theorem ab9 (a:Int) {b:Int} (hb:b ≠ 0):(a.fmod b).natAbs < b.natAbs:=by
 rcases Int.lt_or_le b 0 with h | h
 ·have e:=Int.neg_fmod_neg a b
  have h1:=Int.fmod_nonneg_of_pos (-a) (show 0 < -b by omega)
  have h2:=Int.fmod_lt_of_pos (-a) (show 0 < -b by omega)
  omega
 ·have h1:=Int.fmod_nonneg_of_pos a (show 0 < b by omega)
  have h2:=Int.fmod_lt_of_pos a (show 0 < b by omega)
  omega
open PySem L2 PyProof.Rows
section
variable {P:Program} {w:World} {K:PySem.W.Frag} {mg:Str→Option Value} {base:Heap}
theorem P6 {a:Int} {m:Nat} (h:a.natAbs < 2 ^ m):Builtin.Int.intBits a≤m:=by
 unfold Builtin.Int.intBits
 split
 ·exact Nat.zero_le _
 ·rename_i hz
  have h0:a.natAbs ≠ 0:=by
   intro z
   have:a=0:=by omega
   simp [this] at hz
  have:=(Nat.log2_lt h0).mpr h
  omega
theorem J2 {a b:Int} {m n:Nat} (ha:a.natAbs < 2 ^ m) (hb:b.natAbs < 2 ^ n) (h:m + n≤134217728:=by decide):IntMulOk a b:=IntMulOk.of_le (P6 ha) (P6 hb) h
theorem ae7 {j:Int} (h0:j ≠ 0) (h:j.natAbs < 2 ^ 9000):az8 i j:=⟨h0,(Nat.log2_lt (by omega)).mpr h⟩
theorem h8 {m n:Nat} (h:m≤n):2 ^ m≤2 ^ n:=Nat.pow_le_pow_right (by decide) h
theorem ae5 {a:Nat} {m n:Nat} (h:a < 2 ^ m) (hm:m≤n:=by decide):a < 2 ^ n:=Nat.lt_of_lt_of_le h (h8 hm)
def B5 (q:Rat):List V:=[.int q.num,.int (q.den:Int)]
structure Bd (q:Rat):Prop where
 n:q.num.natAbs < 2 ^ 3000
 d:q.den < 2 ^ 3000
def Num (K:PySem.W.Frag) (H:Hp) (v:V) (q:Rat):Prop:=∃ p,v=.ref p∧SqT K H p (B5 q)
def bj4 (H:Hp) (Q:VK) (q:Rat):Prop:=∀ r H',d9 H H'→H' r=some (.tup (B5 q))→Q (.ref r) H'
theorem x9:(2:Nat)≤sizeLine:=by decide
theorem ba1:(1:Nat)≤sizeLine:=by decide
theorem bf8 {a b:Int} {n:Nat} (hb:b ≠ 0) (h:b.natAbs < n):((Int.gcd a b:Nat):Int).natAbs < n:=by
 have h1:Int.gcd a b ∣ b.natAbs:=by
  have:=Int.natAbs_dvd_natAbs.mpr (Int.gcd_dvd_right a b)
  simpa using this
 have h2:=Nat.le_of_dvd (by omega) h1
 simp only [Int.natAbs_natCast]
 omega
theorem aE6 {a g:Int} (hg:0 < g) (hd:g ∣ a):(a.fdiv g).natAbs≤a.natAbs:=by
 obtain ⟨n,rfl⟩:=hd
 rw [t7 (by omega),Int.natAbs_mul]
 exact Nat.le_mul_of_pos_left _ (by omega)
theorem ar0 {q:Rat}:q.num=0 ↔ q=0:=by
 constructor
 ·intro h;exact Rat.num_eq_zero.mp h
 ·intro h;rw [h];rfl
theorem at0 (q:Rat):atI (B5 q) 0=some (.int q.num):=rfl
theorem at1 (q:Rat):atI (B5 q) 1=some (.int (q.den:Int)):=rfl
theorem bD0 {a b:Int} (h:a.natAbs < 2 ^ 64):IntMulOk a b:=IntMulOk.of_left (P6 h)
theorem bs1 {a b:Int} (h:b.natAbs < 2 ^ 64):IntMulOk a b:=IntMulOk.of_right (P6 h)
def aH1:Sp:=fun vs H Q _ => ∃ t b:Int,vs=[.int t,.int b]∧b ≠ 0∧b.natAbs < 2 ^ 6000∧bj4 H Q (Rat.divInt t b)
def v7 (H:Hp) (u:Addr):Prop:=∃ g m p:Int,H u=some (.lst [.int g,.int m,.int p])∧0≤g∧0≤m∧m < 2 ^ 40∧0 < p∧p < 2 ^ 40
def v9 (u:Addr) (H H':Hp):Prop:=∀ b o,H b=some o→b ≠ u→H' b=some o
theorem d9.x {H H':Hp} (s:d9 H H') (u:Addr):v9 u H H':=fun b o h _=>s b o h
theorem v9.trans {u:Addr} {H H1 H2:Hp} (a:v9 u H H1) (b:v9 u H1 H2):v9 u H H2:=fun c o h n=>b c o (a c o h n) n
theorem v9.upd (u:Addr) (H:Hp) (o:HO):v9 u H (upd H u o):=fun b p h n=>by rw [j3 n];exact h
theorem d9.urn {H H':Hp} {u:Addr} (s:d9 H H') (h:v7 H u):v7 H' u:=let ⟨g,m,p,h1,r⟩:=h;⟨g,m,p,s _ _ h1,r⟩
def br2 (K:PySem.W.Frag):Sp:=fun vs H Q _ => ∃ (a:Addr) (ns:List Int) (k:Int),vs=[.ref a,.int k]∧SqL K H a (ns.map V.int)∧0≤k∧k < 64∧∀ r H',d9 H H'→H r=none→v7 H' r→Q (.ref r) H'
def bw1:List V:=[.int 1899999979,.int 1899998977,.int 1899997949,.int 1899996929,.int 1899995927,.int 1899994903,.int 1899993877,.int 1899992839]
theorem bb5 {k:Int} (h0:0≤k):∃ p:Int,atI bw1 (k.fmod 8)=some (.int p)∧1899992839≤p∧p≤1899999979:=by
 have h1:=Int.fmod_nonneg_of_pos k (show (0:Int) < 8 by decide)
 have h2:=Int.fmod_lt_of_pos k (show (0:Int) < 8 by decide)
 have h3:k.fmod 8=0 ∨ k.fmod 8=1 ∨ k.fmod 8=2 ∨ k.fmod 8=3 ∨ k.fmod 8=4 ∨ k.fmod 8=5 ∨ k.fmod 8=6 ∨ k.fmod 8=7:=by omega
 rcases h3 with h | h | h | h | h | h | h | h <;> rw [h] <;> exact ⟨_,rfl,by decide,by decide⟩
theorem aX4 {ns:List Int} {k:Int} (h0:0≤k) (h:k < (ns.length:Int)):∃ v:Int,atI (ns.map V.int) k=some (.int v):=by
 have hk:k.toNat < ns.length:=by omega
 have ek:k=((k.toNat:Nat):Int):=by omega
 have q:atI (ns.map V.int) ((k.toNat:Nat):Int)=some (.int ns[k.toNat]):=Z8 (by rw [List.getElem?_map,List.getElem?_eq_getElem hk] <;> rfl)
 rw [← ek] at q
 exact ⟨_,q⟩
def N7:Sp:=fun vs H Q _ => ∃ (u:Addr) (n:Int),vs=[.ref u,.int n]∧v7 H u∧0 < n∧n < 2 ^ 40∧∀ r H',0≤r→r < n→v9 u H H'→v7 H' u→Q (.int r) H'
structure Sm (q:Rat):Prop where
 n:q.num.natAbs≤10 ^ 12
 d:q.den≤10 ^ 12
theorem ad5 {t b:Int} (hb:b ≠ 0):(Rat.divInt t b).num.natAbs≤t.natAbs∧(Rat.divInt t b).den≤b.natAbs:=by
 have hp:=ad4 (t:=t) hb
 obtain ⟨e1,e2⟩:=aD9 (t:=t) (b:=b) (g:=if b < 0 then -(Int.gcd t b:Int) else (Int.gcd t b:Int)) hb rfl
 have key:∀ x:Int,(Int.gcd t b:Int) ∣ x→(x.fdiv (if b < 0 then -(Int.gcd t b:Int) else (Int.gcd t b:Int))).natAbs≤x.natAbs:=by
  rintro x ⟨n,hn⟩
  split
  ·have:x=-(Int.gcd t b:Int) * (-n):=by rw [Int.neg_mul_neg];exact hn
   rw [this,t7 (by omega),Int.natAbs_mul]
   exact Nat.le_mul_of_pos_left _ (by omega)
  ·rw [hn,t7 (by omega),Int.natAbs_mul]
   exact Nat.le_mul_of_pos_left _ (by omega)
 have k1:=key t (Int.gcd_dvd_left t b)
 have k2:=key b (Int.gcd_dvd_right t b)
 rw [e1] at k1
 rw [e2] at k2
 exact ⟨k1,by omega⟩
def aZ9:Sp:=fun vs H Q _ => ∃ u,vs=[.ref u]∧v7 H u∧∀ r H',r=0 ∨ r=1 ∨ r=2→v9 u H H'→v7 H' u→Q (.int r) H'
theorem ap2 {H:Hp} {u l:Addr} (hu:v7 H u) (hl:H l=none):l ≠ u:=by
 obtain ⟨g,m,p,h,r⟩:=hu
 exact (i5 h hl).symm
theorem ag7 {H:Hp} {u l:Addr} {o:HO} (hu:v7 H u) (hl:H l=none):v7 (upd H l o) u:=by
 obtain ⟨g,m,p,h,r⟩:=hu
 exact ⟨g,m,p,by rw [j3 (i5 h hl)];exact h,r⟩
def spNumber:Sp:=fun vs H Q _ => ∃ u kd,vs=[.ref u,.int kd]∧v7 H u∧∀ r q H',Sm q→v9 u H H'→v7 H' u→H' r=some (.tup (B5 q))→Q (.ref r) H'
def aA7:Sp:=fun vs H Q _ => ∃ i:Int,vs=[.int i]∧Q (.bl true) H
theorem aI9:PySem.W.kitOne K (.type "int") (.type "int")=some true:=by unfold PySem.W.kitOne;rw [if_pos (by decide)]
theorem aE2:PySem.W.kitOne K (.type "int") (.type "bool")=some false:=by kernel_rfl
def V5 (q:Rat):D:=.tup [.v (.int q.num),.v (.int (q.den:Int))]
theorem aE4 {H:Hp} {a:Addr} {q:Rat} (h:SqT K H a (B5 q)):IsD K H (.ref a) (V5 q):=.tup h (.cons (.v rfl) (.cons (.v rfl) .nil))
theorem bo6 (q:Rat):eqD (V5 q) (V5 q)=true:=by simp [V5,eqD,O9,eqV]
theorem bm8 (p q:Rat):okD (V5 p) (V5 q)=true:=by simp [V5,okD,ad8]
end
open PySem L2 PyProof.Rows
inductive B4 (H:Hp):List V→List Rat→Prop where
 | nil:B4 H [] []
 | cons {p:Addr} {q:Rat} {vs:List V} {qs:List Rat} (h:H p=some (.tup (B5 q))) (t:B4 H vs qs):B4 H (.ref p :: vs) (q :: qs)
def ag6 (H H':Hp):Prop:=∀ b xs,H b=some (.tup xs)→H' b=some (.tup xs)
theorem _root_.L2.d9.tups {H H':Hp} (s:d9 H H'):ag6 H H':=fun b xs h=>s b _ h
theorem v9.tups {u:Addr} {H H':Hp} (s:v9 u H H') (hu:v7 H u):ag6 H H':=fun b xs h=>by
 obtain ⟨g,m,p,e,_⟩:=hu
 exact s b _ h (br9 h e (by intro z;cases z))
theorem ag6.lst {H:Hp} {a:Addr} {xs:List V} {o:HO} (h:H a=some (.lst xs)):ag6 H (upd H a o):=fun b ys e=>by
 rw [j3 (br9 e h (by intro z;cases z))];exact e
theorem ag6.new {H:Hp} {a:Addr} {o:HO} (h:H a=none):ag6 H (upd H a o):=(d9.new h o).tups
theorem B4.mono {H H':Hp} (e:ag6 H H'):∀ {vs:List V} {qs:List Rat},B4 H vs qs→B4 H' vs qs
 | _,_,.nil=>.nil
 | _,_,.cons h t=>.cons (e _ _ h) (t.mono e)
theorem B4.length {H:Hp}:∀ {vs:List V} {qs:List Rat},B4 H vs qs→vs.length=qs.length
 | _,_,.nil=>rfl
 | _,_,.cons _ t=>congrArg (· + 1) t.length
theorem B4.take {H:Hp}:∀ {vs:List V} {qs:List Rat} (m:Nat),B4 H vs qs→B4 H (vs.take m) (qs.take m)
 | _,_,0,_=>by simp;exact .nil
 | _,_,_ + 1,.nil=>.nil
 | _,_,m + 1,.cons h t=>.cons h (t.take m)
theorem B4.get {H:Hp}:∀ {vs:List V} {qs:List Rat} {i:Nat} {q:Rat},B4 H vs qs→qs[i]? = some q→∃ p,vs[i]? = some (.ref p)∧H p=some (.tup (B5 q))
 | _,_,_,_,.nil,e=>by simp at e
 | _,_,0,_,.cons h t,e=>by
  have:=Option.some.inj e
  subst this
  exact ⟨_,rfl,h⟩
 | _,_,i + 1,_,.cons h t,e=>by
  obtain ⟨p,e1,e2⟩:=t.get (i:=i) (by simpa using e)
  exact ⟨p,by simpa using e1,e2⟩
theorem B4.getV {H:Hp}:∀ {vs:List V} {qs:List Rat} {i:Nat} {v:V},B4 H vs qs→vs[i]? = some v→∃ p q,v=.ref p∧qs[i]? = some q∧H p=some (.tup (B5 q))
 | _,_,_,_,.nil,e=>by simp at e
 | _,_,0,_,.cons h t,e=>by
  have:=Option.some.inj e
  subst this
  exact ⟨_,_,rfl,rfl,h⟩
 | _,_,i + 1,_,.cons h t,e=>by
  obtain ⟨p,q,e0,e1,e2⟩:=t.getV (i:=i) (by simpa using e)
  exact ⟨p,q,e0,by simpa using e1,e2⟩
theorem B4.isDs {K:PySem.W.Frag} {H:Hp}:∀ {vs:List V} {qs:List Rat},B4 H vs qs→ac6 K H vs (qs.map V5)
 | _,_,.nil=>.nil
 | _,_,.cons h t=>.cons (aE4 (SqT.of h)) t.isDs
theorem bl5 {p q:Rat} (h1:p.num=q.num) (h2:p.den=q.den):p=q:=by
 cases p;cases q;simp at h1 h2;subst h1 h2;rfl
theorem bg9 (p q:Rat):eqD (V5 p) (V5 q)=decide (p=q):=by
 by_cases h:p=q
 ·subst h;rw [bo6];simp
 ·rw [decide_eq_false h]
  simp only [V5,eqD,O9,eqV,Bool.and_true]
  by_cases h1:p.num=q.num
  ·have h2:p.den ≠ q.den:=fun z=>h (bl5 h1 z)
   have:((p.den:Int) == (q.den:Int))=false:=by
    rw [beq_eq_false_iff_ne];intro z;exact h2 (by omega)
   rw [this,Bool.and_false]
  ·have:(p.num == q.num)=false:=by rw [beq_eq_false_iff_ne];exact h1
   rw [this,Bool.false_and]
theorem ay3:∀ ps qs:List Rat,O9 (ps.map V5) (qs.map V5)=decide (ps=qs)
 | [],[]=>by simp [O9]
 | [],_ :: _=>by simp [O9]
 | _ :: _,[]=>by simp [O9]
 | p :: ps,q :: qs=>by
  rw [List.map_cons,List.map_cons,O9,bg9,ay3 ps qs]
  by_cases h1:p=q <;> by_cases h2:ps=qs <;> simp [h1,h2]
theorem ax6:∀ ps qs:List Rat,ad8 (ps.map V5) (qs.map V5)=true
 | [],[]=>by simp [ad8]
 | [],_ :: _=>by simp [ad8]
 | _ :: _,[]=>by simp [ad8]
 | p :: ps,q :: qs=>by rw [List.map_cons,List.map_cons,ad8,bm8,ax6 ps qs];rfl
theorem ay6:∀ qs:List Rat,ag0 (qs.map V5)≤1
 | []=>by simp [ag0]
 | q :: qs=>by
  have h1:dpD (V5 q)≤1:=by simp [V5,dpD,ag0]
  have h2:=ay6 qs
  rw [List.map_cons,ag0]
  omega
def O4 (qs:List Rat):D:=.lst (qs.map V5)
theorem Q9 {K:PySem.W.Frag} {H:Hp} {a:Addr} {vs:List V} {qs:List Rat} (h:SqL K H a vs) (n:B4 H vs qs):IsD K H (.ref a) (O4 qs):=.lst h n.isDs
theorem ai6 (ps qs:List Rat):eqD (O4 ps) (O4 qs)=decide (ps=qs):=by unfold O4;rw [eqD,ay3]
theorem ah6 (ps qs:List Rat):okD (O4 ps) (O4 qs)=true:=by unfold O4;rw [okD,ax6]
theorem ao5 (qs:List Rat):dpD (O4 qs)≤2:=by unfold O4;rw [dpD];have:=ay6 qs;omega
structure T9 (qs:List Rat) (m:Nat):Prop where
 le:m≤qs.length
 zero:∀ (i:Nat) (q:Rat),m≤i→qs[i]? = some q→q=0
 last:m ≠ 0→∀ q,qs[m - 1]? = some q→q ≠ 0
theorem T9.self {qs:List Rat} {m:Nat} (a:T9 qs m):T9 (qs.take m) m:=by
 have hl:(qs.take m).length=m:=by rw [List.length_take];have:=a.le;omega
 refine ⟨by omega,fun i q hi e=>?_,fun h q e=>?_⟩
 ·rw [List.getElem?_eq_none (by omega)] at e;cases e
 ·rw [List.getElem?_take_of_lt (by omega)] at e
  exact a.last h q e
def evs {α:Type}:List α→List α
 | []=>[]
 | [x]=>[x]
 | x :: _ :: r=>x :: evs r
def ods {α:Type} (xs:List α):List α:=evs xs.tail
theorem bh7 (vs:List V) {m:Nat} (h:m≤vs.length):aW8 vs none (some (m:Int))=vs.take m:=by
 unfold aW8
 have e1:HT.sIx vs.length 0 none=0:=by simp [HT.sIx]
 have e2:HT.sIx vs.length vs.length (some (m:Int))=m:=by
  simp only [HT.sIx]
  split <;> omega
 rw [e1,e2];simp
end R
set_option maxRecDepth 100000
namespace L2
open PySem PySem.Spec PyProof.Rows
def WhN (Pv:St→Hp→Prop) (μ:St→Hp→Nat) (m:Nat):St→Hp→Prop:=fun σ' H' => ∃ m',m' < m∧(m'=μ σ' H'∧Pv σ' H')
theorem WhN.mk {Pv:St→Hp→Prop} {μ:St→Hp→Nat} {m:Nat} {σ':St} {H':Hp} (h:Pv σ' H') (l:μ σ' H' < m):WhN Pv μ m σ' H':=⟨_,l,rfl,h⟩
def WhB (tb:TS) (D:aa5) (Pv:St→Hp→Prop) (μ:St→Hp→Nat) (m:Nat) (σ:St) (H1:Hp):Prop :=
 ∃ N:St→Hp→Prop,(∀ σ' H',N σ' H'→∃ m',m' < m∧(m'=μ σ' H'∧Pv σ' H'))∧tb { D with nx:=N,ct:=N,bk:=D.nx } σ H1
theorem WhB.mk {tb:TS} {D:aa5} {Pv:St→Hp→Prop} {μ:St→Hp→Nat} {m:Nat} {σ:St} {H1:Hp} (h:tb { D with nx:=WhN Pv μ m,ct:=WhN Pv μ m,bk:=D.nx } σ H1):WhB tb D Pv μ m σ H1:=⟨_,fun _ _ n=>n,h⟩
theorem ao9 {c:TT} {tb:TS} {D:aa5} {σ:St} {H:Hp} (Pv:St→Hp→Prop) (μ:St→Hp→Nat) (h0:Pv σ H)
  (hs:∀ σ H,Pv σ H→c σ H fun b H1=>if b=true then WhB tb D Pv μ (μ σ H) σ H1 else D.nx σ H1):aj0 c tb D σ H:=by
 refine ⟨fun m σ H=>m=μ σ H∧Pv σ H,⟨_,rfl,h0⟩,?_⟩
 rintro m σ H ⟨rfl,p⟩
 exact hs σ H p
theorem d9.over {H H1:Hp} {l:Addr} (s:d9 H H1) (hl:H l=none) (o:HO):d9 H (upd H1 l o):=fun b u h=>by
 rw [j3 (i5 h hl)];exact s b u h
def am4 (J:It) (D:Addr) (σ0:St) (H0:Hp) (g:TG) (te:TE) (Q:VK):Prop:=∃ W:Nat→Nat→St→Hp→Prop,(∃ m,W 0 m σ0 H0) ∧
 ∀ i m σc H2,W i m σc H2→(J.stop i H2∧Q (.ref D) H2) ∨
  (J.go i H2∧∀ x H3,J.yld i H2 x H3→g x σc H3 fun σ4 H4=>te σ4 H4 fun y H5 => ∃ ys,H5 D=some (.lst ys)∧ys.length < sizeLine∧∃ m',m' < m∧W (i + 1) m' σ4 (upd H5 D (.lst (ys ++ [y]))))
theorem aG6 (wi:TI) (caps:List (Option Nat)) (g:TG) (te:TE):aZ1 wi caps g te=fun σ H Q=>wi σ H fun J H1 => ∀ D,H1 D=none→am4 J D (M0 caps σ) (upd H1 D (.lst [])) g te Q:=rfl
def aO8 (J:It) (D:Addr) (σ0:St) (H0:Hp) (g:TG) (tt:TT) (te:TE) (Q:VK):Prop:=∃ W:Nat→Nat→St→Hp→Prop,(∃ m,W 0 m σ0 H0) ∧
 ∀ i m σc H2,W i m σc H2→(J.stop i H2∧Q (.ref D) H2) ∨
  (J.go i H2∧∀ x H3,J.yld i H2 x H3→g x σc H3 fun σ4 H4=>tt σ4 H4 fun b H4'=>if b=true then te σ4 H4' fun y H5 => ∃ ys,H5 D=some (.lst ys)∧ys.length < sizeLine∧∃ m',m' < m∧W (i + 1) m' σ4 (upd H5 D (.lst (ys ++ [y])))
   else ∃ m',m' < m∧W (i + 1) m' σ4 H4')
theorem ap5 (wi:TI) (caps:List (Option Nat)) (g:TG) (tt:TT) (te:TE):aA3 wi caps g tt te=fun σ H Q=>wi σ H fun J H1 => ∀ D,H1 D=none→aO8 J D (M0 caps σ) (upd H1 D (.lst [])) g tt te Q:=rfl
section
variable {K:PySem.W.Frag} {a D:Addr} {xs:List V} {g:TG} {te:TE} {σ0:St} {H0:Hp} {Q:VK}
theorem T7 (xs:List V) (Pv:Nat→St→Hp→Prop) (h0:Pv 0 σ0 H0) (hl:∀ i σ H,i≤xs.length→Pv i σ H→SqL K H a xs)
  (hs:∀ i x σ H,xs[i]? = some x→Pv i σ H→g x σ H fun σ4 H4=>te σ4 H4 fun y H5=>N5 D xs.length Pv i σ4 y H5) (hd:∀ σ H,Pv xs.length σ H→Q (.ref D) H):am4 (Itl K a) D σ0 H0 g te Q:=aX0 Pv h0 hl hs hd
theorem bh5 {lo:Int} {n:Nat} (Pv:Nat→St→Hp→Prop) (h0:Pv 0 σ0 H0)
  (hs:∀ i σ H,i < n→Pv i σ H→g (.int (lo + i)) σ H fun σ4 H4=>te σ4 H4 fun y H5=>N5 D n Pv i σ4 y H5) (hd:∀ σ H,Pv n σ H→Q (.ref D) H):am4 (Itr lo n) D σ0 H0 g te Q:=aO1 Pv h0 hs hd
end
theorem L8 {cells:List (Str × Addr)}:∀ (x:Str) (c:Addr),([]:List (Str × Addr)).lookup x=some c→cells.lookup x=some c:=fun x c h=>by cases h
theorem G1 {cells cl:List (Str × Addr)} {k:Str} {a:Addr} (h:cells.lookup k=some a) (r:∀ (x:Str) (c:Addr),cl.lookup x=some c→cells.lookup x=some c):∀ (x:Str) (c:Addr),((k,a) :: cl).lookup x=some c→cells.lookup x=some c:=fun x c e=>by
 rw [List.lookup_cons] at e
 split at e
 ·rename_i q
  have:=eq_of_beq q
  subst this
  cases e
  exact h
 ·exact r x c e
end L2
namespace R
open PySem L2 PyProof.Rows
theorem bd1 {H:Hp} {p l:Addr} {o:HO} (h:upd H p o l=none):H l=none:=by
 by_cases q:l=p
 ·subst q;rw [d7] at h;cases h
 ·rw [j3 q] at h;exact h
theorem bx9 {H:Hp} {p l:Addr} {o:HO} (h:upd H p o l=none):l ≠ p:=fun q=>by
 subst q;rw [d7] at h;cases h
end R
set_option maxRecDepth 100000
namespace L2
open PySem PySem.Spec PyProof.Rows
end L2
set_option maxRecDepth 100000
namespace R
open PySem L2 PyProof.Rows
structure BdN (k:Nat) (q:Rat):Prop where
 n:q.num.natAbs < 2 ^ k
 d:q.den < 2 ^ k
theorem BdN.mono {m n:Nat} {q:Rat} (h:BdN m q) (l:m≤n):BdN n q:=⟨Nat.lt_of_lt_of_le h.n (h8 l),Nat.lt_of_lt_of_le h.d (h8 l)⟩
theorem BdN.mul {m n:Nat} {p q:Rat} (a:BdN m p) (b:BdN n q):BdN (m + n) (p * q):=by
 rw [ar3]
 have hb:(p.den:Int) * q.den ≠ 0:=Int.ne_of_gt (Int.mul_pos (y7 p) (y7 q))
 obtain ⟨e1,e2⟩:=ad5 (t:=p.num * q.num) hb
 rw [Int.natAbs_mul] at e1 e2
 refine ⟨Nat.lt_of_le_of_lt e1 ?_,Nat.lt_of_le_of_lt e2 ?_⟩
 ·rw [Nat.pow_add];exact Nat.mul_lt_mul'' a.n b.n
 ·rw [Nat.pow_add,Int.natAbs_natCast,Int.natAbs_natCast];exact Nat.mul_lt_mul'' a.d b.d
theorem BdN.add {m n:Nat} {p q:Rat} (a:BdN m p) (b:BdN n q):BdN (m + n + 1) (p + q):=by
 rw [at4]
 have hb:(p.den:Int) * q.den ≠ 0:=Int.ne_of_gt (Int.mul_pos (y7 p) (y7 q))
 obtain ⟨e1,e2⟩:=ad5 (t:=p.num * q.den + q.num * p.den) hb
 have h1:(p.num * q.den).natAbs < 2 ^ (m + n):=by
  rw [Int.natAbs_mul,Nat.pow_add,Int.natAbs_natCast];exact Nat.mul_lt_mul'' a.n b.d
 have h2:(q.num * p.den).natAbs < 2 ^ (m + n):=by
  rw [Int.natAbs_mul,Nat.pow_add,Nat.mul_comm (2 ^ m),Int.natAbs_natCast];exact Nat.mul_lt_mul'' b.n a.d
 rw [Int.natAbs_mul] at e2
 have e3:=Int.natAbs_add_le (p.num * q.den) (q.num * p.den)
 refine ⟨by rw [Nat.pow_succ];omega,Nat.lt_of_le_of_lt e2 ?_⟩
 have:p.den * q.den < 2 ^ (m + n):=by rw [Nat.pow_add];exact Nat.mul_lt_mul'' a.d b.d
 rw [Int.natAbs_natCast,Int.natAbs_natCast,Nat.pow_succ];omega
structure SmW (q:Rat):Prop where
 n:q.num.natAbs < 2 ^ 42
 d:q.den < 2 ^ 40
section
variable {α β:Type}
def Y5 [Add α]:List α→Nat→α→List α
 | [],_,_=>[]
 | y :: r,0,x=>(y + x) :: r
 | y :: r,k + 1,x=>y :: Y5 r k x
theorem az6 [Add α]:∀ (f:List α) (k:Nat) (x:α),(Y5 f k x).length=f.length
 | [],_,_=>rfl
 | _ :: _,0,_=>rfl
 | _ :: r,k + 1,x=>by simp [Y5,az6 r k x]
theorem ak7 [Add α]:∀ (f:List α) (k:Nat) (x y:α),f[k]? = some y→f.set k (y + x)=Y5 f k x
 | [],_,_,_,h=>by simp at h
 | z :: r,0,x,y,h=>by cases h;rfl
 | z :: r,k + 1,x,y,h=>by
  rw [List.set_cons_succ,Y5,ak7 r k x y (by simpa using h)]
theorem ac4 [Add α]:∀ (f:List α) (k i:Nat) (x:α),i ≠ k→(Y5 f k x)[i]? = f[i]?
 | [],_,_,_,_=>rfl
 | _ :: _,0,0,_,h=>absurd rfl h
 | _ :: _,0,i + 1,_,_=>rfl
 | _ :: _,k + 1,0,_,_=>rfl
 | _ :: r,k + 1,i + 1,x,h=>by
  simp only [Y5,List.getElem?_cons_succ];exact ac4 r k i x (by omega)
theorem ag5 [Add α]:∀ (f:List α) (k:Nat) (x y:α),f[k]? = some y→(Y5 f k x)[k]? = some (y + x)
 | [],_,_,_,h=>by simp at h
 | z :: r,0,x,y,h=>by cases h;rfl
 | z :: r,k + 1,x,y,h=>by simp only [Y5,List.getElem?_cons_succ];exact ag5 r k x y (by simpa using h)
def C5 [Add α] [Mul α] (z:α) (f:List α) (i:Nat) (x:α) (q:List α):Nat→List α
 | 0=>f
 | j + 1=>Y5 (C5 z f i x q j) (i + j) (x * (q[j]?).getD z)
def G7 [Add α] [Mul α] (z:α) (f p q:List α):Nat→List α
 | 0=>f
 | i + 1=>C5 z (G7 z f p q i) i ((p[i]?).getD z) q q.length
theorem X8 [Add α] [Mul α] (z:α) (f:List α) (i:Nat) (x:α) (q:List α):∀ j,(C5 z f i x q j).length=f.length
 | 0=>rfl
 | j + 1=>by rw [C5,az6,X8 z f i x q j]
theorem aj5 [Add α] [Mul α] (z:α) (f p q:List α):∀ n,(G7 z f p q n).length=f.length
 | 0=>rfl
 | n + 1=>by rw [G7,X8,aj5 z f p q n]
end
def V4 (p q:List Rat):List Rat:=if p=[] ∨ q=[] then [] else G7 0 (List.replicate (p.length + q.length - 1) 0) p q p.length
def scl (s:Rat) (ws:List Int):List Rat:=ws.map fun w:Int=>s * (w:Rat)
theorem bl0 (s:Rat) (ws:List Int):(scl s ws).length=ws.length:=by simp [scl]
theorem bd2 {p q:List Rat} (hp:p ≠ []) (hq:q ≠ []):(V4 p q).length=p.length + q.length - 1:=by
 unfold V4
 rw [if_neg (by simp [hp,hq]),aj5,List.length_replicate]
def t4 (qs:List Rat):Nat:=qs.foldl (fun b q=>Nat.lcm b q.den) 1
theorem aV6 (qs:List Rat) (q:Rat):t4 (qs ++ [q])=Nat.lcm (t4 qs) q.den:=by simp [t4]
theorem al9:∀ (qs:List Rat) (b m:Nat),b ∣ m→(∀ q ∈ qs,q.den ∣ m)→qs.foldl (fun b q=>Nat.lcm b q.den) b ∣ m
 | [],_,_,h,_=>h
 | q :: qs,b,m,h,k=>al9 qs _ m (Nat.lcm_dvd h (k q List.mem_cons_self)) fun r hr=>k r (List.mem_cons_of_mem _ hr)
theorem ar6 {qs:List Rat} {m:Nat} (h:∀ q ∈ qs,q.den ∣ m):t4 qs ∣ m:=al9 qs 1 m (Nat.one_dvd _) h
theorem ai4:∀ (qs:List Rat) (b:Nat),b ∣ qs.foldl (fun b q=>Nat.lcm b q.den) b
 | [],_=>Nat.dvd_refl _
 | q :: qs,b=>Nat.dvd_trans (Nat.dvd_lcm_left _ _) (ai4 qs _)
theorem al8:∀ (qs:List Rat) (b:Nat) (q:Rat),q ∈ qs→q.den ∣ qs.foldl (fun b q=>Nat.lcm b q.den) b
 | r :: qs,b,q,h=>by
  rcases List.mem_cons.mp h with e | e
  ·subst e;exact Nat.dvd_trans (Nat.dvd_lcm_right _ _) (ai4 qs _)
  ·exact al8 qs _ q e
theorem T6 {qs:List Rat} {q:Rat} (h:q ∈ qs):q.den ∣ t4 qs:=al8 qs 1 q h
def t9 (ws:List Int):Nat:=ws.foldl (fun c w=>Int.gcd w c) 0
theorem aW0 (ws:List Int) (w:Int):t9 (ws ++ [w])=Int.gcd w (t9 ws):=by simp [t9]
theorem am1:∀ (ws:List Int) (c:Nat),(ws.foldl (fun c w=>Int.gcd w c) c ∣ c)∧∀ w ∈ ws,((ws.foldl (fun c w=>Int.gcd w c) c:Nat):Int) ∣ w
 | [],c=>⟨Nat.dvd_refl _,by simp⟩
 | w :: ws,c=>by
  obtain ⟨h1,h2⟩:=am1 ws (Int.gcd w c)
  have a1:Int.gcd w c ∣ c:=by have:=Int.gcd_dvd_right w (c:Int);exact Int.natCast_dvd_natCast.mp this
  refine ⟨Nat.dvd_trans h1 a1,fun v hv=>?_⟩
  rcases List.mem_cons.mp hv with e | e
  ·subst e
   exact Int.dvd_trans (Int.natCast_dvd_natCast.mpr h1) (Int.gcd_dvd_left v (c:Int))
  ·exact h2 v e
theorem L7 {ws:List Int} {w:Int} (h:w ∈ ws):((t9 ws:Nat):Int) ∣ w:=(am1 ws 0).2 w h
theorem am0:∀ (ws:List Int),ws.foldl (fun c w=>Int.gcd w c) 1=1
 | []=>rfl
 | w :: ws=>by
  rw [List.foldl_cons]
  have:Int.gcd w ((1:Nat):Int)=1:=by simp
  rw [this,am0 ws]
theorem bg0 {ws:List Int} (i:Nat) (h:t9 (ws.take i)=1):t9 ws=1:=by
 have e:ws=ws.take i ++ ws.drop i:=(List.take_append_drop i ws).symm
 rw [e]
 unfold t9 at h ⊢
 rw [List.foldl_append,h,am0]
def p7 (B:Nat) (qs:List Rat):List Int:=qs.map fun q=>q.num * (B:Int).fdiv (q.den:Int)
theorem aY1 {B:Nat} {q:Rat} (hB:0 < B) (h:q.den ∣ B):q=Rat.divInt (q.num * (B:Int).fdiv (q.den:Int)) B:=by
 obtain ⟨e,he⟩:=h
 have hd:(q.den:Int) ≠ 0:=by have:=q.den_nz;omega
 have e1:(B:Int).fdiv (q.den:Int)=(e:Int):=by
  rw [he,Int.natCast_mul];exact t7 hd
 rw [e1]
 conv=>lhs;rw [← Rat.num_divInt_den q]
 rw [Rat.divInt_eq_divInt_iff hd (by omega),he,Int.natCast_mul]
 grind
end R
namespace L2
open PySem PySem.Spec PyProof.Rows
section
variable {K:PySem.W.Frag} {a b D:Addr} {xs ys:List V} {g:TG} {te:TE} {σ0:St} {H0:Hp} {Q:VK}
theorem cw_enum (xs:List V) (Pv:Nat→St→Hp→Prop) (h0:Pv 0 σ0 H0) (hl:∀ i σ H,Pv i σ H→SqL K H a xs)
  (hs:∀ i x σ H p,xs[i]? = some x→Pv i σ H→H p=none→g (.ref p) σ (upd H p (.tup [.int i,x])) fun σ4 H4=>te σ4 H4 fun v H5=>N5 D xs.length Pv i σ4 v H5)
  (hd:∀ σ H,Pv xs.length σ H→Q (.ref D) H):am4 (Ite K a) D σ0 H0 g te Q:=by
 refine ⟨fun i m σ H=>m=xs.length - i∧i≤xs.length∧Pv i σ H,⟨_,rfl,Nat.zero_le _,h0⟩,?_⟩
 rintro i m σ H ⟨rfl,hi,p⟩
 have q:=hl i σ H p
 by_cases hlt:i < xs.length
 ·refine .inr ⟨⟨xs,xs[i],q,List.getElem?_eq_getElem hlt⟩,?_⟩
  intro x H3 hy
  obtain ⟨y,r,hy1,hr,rfl,rfl⟩:=hy xs q
  exact hs i y σ _ r hy1 p hr
 ·have e:i=xs.length:=by omega
  subst e
  exact .inl ⟨⟨xs,q,Nat.le_refl _⟩,hd σ H p⟩
theorem as0 {tb:TS} {E:aa5} {σ:St} {H:Hp} (xs:List V) (Pv:Nat→St→Hp→Prop) (h0:Pv 0 σ H) (hl:∀ i σ H,Pv i σ H→SqL K H a xs)
  (hs:∀ i x σ H p,xs[i]? = some x→Pv i σ H→H p=none→g (.ref p) σ (upd H p (.tup [.int i,x])) fun σ2 H2=>tb { E with nx:=Pv (i + 1),ct:=Pv (i + 1),bk:=E.nx } σ2 H2) (hd:∀ σ H,Pv xs.length σ H→E.nx σ H) :
  ∃ W:Nat→Nat→St→Hp→Prop,(∃ m,W 0 m σ H)∧∀ i m σ H,W i m σ H →
   ((Ite K a).stop i H∧E.nx σ H) ∨ ((Ite K a).go i H∧∃ N:St→Hp→Prop,(∀ σ' H',N σ' H'→∃ m',m' < m∧W (i + 1) m' σ' H')∧∀ x H',(Ite K a).yld i H x H'→g x σ H' fun σ2 H2=>tb { E with nx:=N,ct:=N,bk:=E.nx } σ2 H2):=by
 refine ⟨fun i m σ H=>m=xs.length - i∧i≤xs.length∧Pv i σ H,⟨_,rfl,Nat.zero_le _,h0⟩,?_⟩
 rintro i m σ H ⟨rfl,hi,p⟩
 have q:=hl i σ H p
 by_cases hlt:i < xs.length
 ·refine .inr ⟨⟨xs,xs[i],q,List.getElem?_eq_getElem hlt⟩,Pv (i + 1),fun σ' H' n=>⟨_,by omega,rfl,hlt,n⟩,?_⟩
  intro x H3 hy
  obtain ⟨y,r,hy1,hr,rfl,rfl⟩:=hy xs q
  exact hs i y σ _ r hy1 p hr
 ·have e:i=xs.length:=by omega
  subst e
  exact .inl ⟨⟨xs,q,Nat.le_refl _⟩,hd σ H p⟩
end
section
variable {X:Cx}
theorem bf7:bE6 X (aB7 X.K):=by
 intro pins s σ H x y v u Q I rx ry h
 obtain ⟨p,xs,i,z,rfl,rfl,hq,he,q⟩:=h
 cases rx
 obtain ⟨t,rfl⟩:=ry
 obtain ⟨its,r,pl,hz⟩:=I.list hq
 obtain ⟨j,h1,h2,h3,h4,h5⟩:=aG0 he
 obtain ⟨w,ew,rw'⟩:=r.get h2
 have hl:=r.length
 have hn:=af7
 have fin:EP X pins σ Q w s:=⟨z,H,I,rw',q⟩
 by_cases h0:0≤i
 ·have hj:i.toNat=j:=by
   rw [seqIndex_of h0 h5] at h1
   exact Option.some.inj h1
  exact wpAny_getItem_list pl.isList h0 (by omega) (by rw [hj];simpa using ew) fin
 ·have hj:(i + (its.toArray.size:Int)).toNat=j:=by
   rw [seqIndex_neg (by omega) h4] at h1
   rw [List.size_toArray,← hl]
   exact Option.some.inj h1
  exact wpAny_getItem_list_neg pl.isList (by omega) (by rw [List.size_toArray] <;> omega) (by omega) (by rw [hj];simpa using ew) fin
end
theorem ax7 {h:Heap} {a:Addr} {m:Str→Option Value} {o:Obj} (n:h.Ns a m) (e:h.get? a=some o) (v:Option Value) (z:o.data=.cell v):False:=by
 obtain ⟨o',es,ep,e',r⟩:=n
 rw [e] at e'
 cases e'
 have d:=r.1
 rw [d] at z;cases z
section
variable {X:Cx}
theorem aq0 {elt tg iter:Expr} {scope:Scope} {pos spos py:Pos} {y:Str} {i₀:Nat} {cl:List (Str × Addr)} {Nc:List Str} {caps:List (Option Nat)} {wi:TI} {g:TG} {te:TE} (hN:X.N.Nodup) (hi₀:X.N[i₀]? = some y) (hx:Loc X.env.scope y) (hc:X.calm=true) (cp:Z9 X scope cl Nc caps) (hi:PI X tg iter wi)
  (hg:∀ C s₂ H₂ fp pins,PG (X.block scope cl C Nc s₂ H₂ fp pins) tg g) (he:∀ C s₂ H₂ fp pins,PE (X.block scope cl C Nc s₂ H₂ fp pins) elt te) (hs:∀ x,foldedSetIterable iter X.env x=pure x:=by intro _;rfl) (hsw:swapsWith (.ListComp elt [⟨tg,iter,[],0⟩] scope pos) (some (.Name y py)) spos.line X.env=pure true:=by rfl)
  (hf:X.fn y=true ∨ X.env.scope.names.lookup y=some .local:=by first | exact .inl rfl | exact .inr rfl | assumption) :
  PS X (.Assign [.Name y py] (.ListComp elt [⟨tg,iter,[],0⟩] scope pos) spos) (aU1 (aZ1 wi caps g te) (C1 i₀)):=by
 intro pins s σ H DD I h
 rw [exec_Assign_Name_used _ _ _ _ hsw]
 refine wpAny_bind (wpAny_standAt (wpAny_bind ?_))
 show wpAny _ X.A (do let _ ← comprehension (.ListComp elt [⟨tg,iter,[],0⟩] scope pos) scope X.env _ (newList []) false (eval iter X.env) (some (assign (.Name y py) X.env))) _ _ s
 refine wpAny_bind (wpAny_mono (wpAny_comprehension_free (use:=some (assign (.Name y py) X.env)) (Q:=fun _ s'=>SP X pins DD .next s') rfl hs cp.clos cp.kind cp.names ?_) (fun _ s' hq=>wpAny_pure (wpAny_pure hq)) fun _ _ e=>e)
 refine thn (hi pins s σ H _ I h) fun v s1 h1=>thn h1 fun itv s2 h2=>?_
 obtain ⟨it,fp,tn,J,H2,e,I2,T,st2,f2,hW⟩:=h2
 subst e
 refine wpAny_newObj_type ?_ (by show 0≤sizeLine;exact Nat.zero_le _)
 refine wpAny_newFunctionEnv cp.nocell (by intro y hy;simp at hy) (fun h4 hns hsb=>?_) cp.kind
 dsimp only at hns hsb ⊢
 generalize hH3:s2.heap.push { cls:=.type "list",dict:=none,data:=.seq ([]:List Value).toArray }=H3 at hns hsb ⊢
 have hCe:H3.objs.size=s2.heap.objs.size + 1:=by rw [← hH3,Heap.size_push]
 have S8:∀ b o,s2.heap.get? b=some o→b ≠ H3.objs.size:=fun b o e=>by rw [hCe];exact Nat.ne_of_lt (Nat.lt_succ_of_lt (Heap.lt_size e))
 have old:∀ b o,s2.heap.get? b=some o→h4.get? b=some o:=fun b o e=>hsb.extBut b o (S8 b o e) (Heap.get?_push_of_some _ (hH3 ▸ Heap.get?_push_of_some _ e))
 have hD:h4.get? s2.heap.objs.size=some { cls:=.type "list",dict:=none,data:=.seq ([]:List Value).toArray } :=
  hsb.extBut _ _ (by rw [hCe];exact Nat.ne_of_lt (Nat.lt_succ_self _)) (Heap.get?_push_of_some _ (hH3 ▸ Heap.get?_push_size _ rfl))
 have hDn:H2 s2.heap.objs.size=none:=I2.fresh
 have hCn:H2 H3.objs.size=none:=I2.hok.fresh (by rw [hCe];exact Nat.le_succ _)
 have hCs:s2.heap.objs.size≤H3.objs.size:=by rw [hCe];exact Nat.le_succ _
 have hDC:s2.heap.objs.size ≠ H3.objs.size:=by rw [hCe];exact Nat.ne_of_lt (Nat.lt_succ_self _)
 have fpl:∀ b ∈ fp,∃ o,s2.heap.get? b=some o:=fun b hb=>let ⟨o,e,_⟩:=T.obj _ _ st2 b hb;⟨o,e⟩
 have fpC:∀ b ∈ fp,b ≠ H3.objs.size:=fun b hb=>let ⟨o,e⟩:=fpl b hb;S8 b o e
 have fpD:∀ b ∈ fp,b ≠ s2.heap.objs.size:=fun b hb=>let ⟨o,e⟩:=fpl b hb;Nat.ne_of_lt (Heap.lt_size e)
 have stkN:∀ b,b ≠ X.env.locals→b ∉ X.fs→b ∉ frs X.stack:=fun b h1 h2 z=>(List.mem_cons.mp (I2.stkSub b z)).elim h1 h2
 obtain ⟨W,⟨m0,w0⟩,turn⟩:=hW s2.heap.objs.size hDn
 have okB:(X.block scope cl H3.objs.size Nc s2 H2 fp pins).Ok:=by
  refine ⟨I2.ok.mod,?_,I2.ok.glob,I2.ok.blt,hCs,fun x y c h1 h2=>I2.ok.inj x y c (cp.sub x c h1) (cp.sub y c h2),fun x hx=>cp.has x hx,fun x c h=>(by cases h),I2.ok.hd,I2.ok.frames,.inl rfl,fun b hb=>⟨fpC b hb,fun x c h=>(f2 b hb).2.2.2.2.1 x c (cp.sub x c h)⟩,I2.bs,Nat.le_trans I2.ok.bsz I2.sz,fun b o e hb=>?_,fun b hb=>stkN b (f2 b hb).2.1 (f2 b hb).2.2.1,I2.stack,I2.stkFree⟩
  ·exact cp.kind
  ·rcases (f2 b hb).2.2.2.1 with z | z
   ·exact I2.ok.noex b o e z
   ·exact absurd (Nat.lt_of_lt_of_le (Heap.lt_size e) (Nat.le_trans I2.ok.bsz z)) (Nat.lt_irrefl _)
 have hokB:HOk X.prog X.w (upd H2 s2.heap.objs.size (.lst [])) h4:=I2.hok.laid old (Nat.le_refl _) ⟨Nat.zero_le _,[],_,.nil,hD⟩
 have IB:Inv (X.block scope cl H3.objs.size Nc s2 H2 fp pins) [] (M0 caps σ) (upd H2 s2.heap.objs.size (.lst [])) { s2 with heap:=h4,toks:=s2.toks + ([]:List (Str × Value)).length }:=by
  refine ⟨okB,rfl,I2.bare,Un.laid old (Nat.le_refl _) hDn,⟨_,hns,fun i x v e1 e2 e3=>?_⟩,fun x c e=>?_,(show upd H2 s2.heap.objs.size (.lst []) H3.objs.size=none by rw [j3 (Ne.symm hDC)];exact hCn),fun x c e=>?_,fun p hp=>?_,hokB,?_⟩
  ·unfold M0 at e2
   rw [List.getElem?_map] at e2
   cases hcap:caps[i]? with
   | none=>rw [hcap] at e2;cases e2
   | some o =>
    rw [hcap] at e2
    cases o with
    | none=>cases e2
    | some j =>
     have hj:σ[j]? = some (some v):=by
      have e2':(σ[j]?).join=some v:=Option.some.inj e2
      cases q:σ[j]? with
      | none=>rw [q] at e2';cases e2'
      | some z=>rw [q] at e2';exact congrArg some e2'
     obtain ⟨n1,n2,n3,n4⟩:=cp.cap i j x hcap e1
     obtain ⟨m,hm,hl⟩:=I2.loc
     obtain ⟨u,r,q⟩:=hl j x v n1 hj n2
     rcases q with ⟨k,_⟩ | ⟨k,c,ec,z⟩
     ·exact absurd k n3
     ·obtain ⟨c',ec'⟩:=cp.has x n4
      have:=cp.sub x c' ec'
      rw [ec] at this;cases this
      obtain ⟨oc,ho,hd⟩:=z
      exact ⟨u,r,.inr ⟨n4,c,ec',oc,old _ _ ho,hd⟩⟩
  ·obtain ⟨v,oc,ho,hd⟩:=I2.cell x c (cp.sub x c e)
   exact ⟨v,oc,old _ _ ho,hd⟩
  ·obtain ⟨v,oc,ho,hd⟩:=I2.cell x c (cp.sub x c e)
   rw [j3 (Nat.ne_of_lt (Heap.lt_size ho))]
   exact I2.freeC x c (cp.sub x c e)
  ·have hp':p ∈ X.pn ++ pins:=by simpa using hp
   obtain ⟨e1,e2,e3,e4,e5⟩:=I2.pin p hp'
   exact ⟨old _ _ e1,by rw [j3 (Nat.ne_of_lt (Heap.lt_size e1))];exact e2,S8 _ _ e1,stkN _ e3 e4,e5⟩
  ·show (M0 caps σ).length=Nc.length
   unfold M0
   rw [List.length_map];exact cp.len
 have stat:∀ {H':Hp},(∀ b ∈ fp,H' b=none)→∀ b ∈ fp,P8 (X.block scope cl H3.objs.size Nc s2 H2 fp pins) [] H' b:=fun hn b hb =>
  ⟨hn b hb,fpC b hb,stkN b (f2 b hb).2.1 (f2 b hb).2.2.1,.inl hb,fun x c h=>(f2 b hb).2.2.2.2.1 x c (cp.sub x c h),fun p hp=>(f2 b hb).2.2.2.2.2 p (by simpa using hp)⟩
 have loop:∀ s5:Shared,s5={ s2 with heap:=h4,toks:=s2.toks + ([]:List (Str × Value)).length } →
   codeAny (model X.prog X.w) X.A (.compLoop (.ListComp elt [⟨tg,iter,[],0⟩] scope pos) 0 (.ref it) (.ref s2.heap.objs.size) (compEnvC scope cl H3.objs.size X.env))
    (compPost (model X.prog X.w) X.A X.xe (some (assign (.Name y py) X.env)) (fun _ s'=>SP X pins DD .next s') (.ref s2.heap.objs.size) H3.objs.size) s5:=by
  rintro s5 rfl
  refine ay9 (fun n s' => ∃ i σ' H',Inv (X.block scope cl H3.objs.size Nc s2 H2 fp pins) [] σ' H' s'∧tn i s'.heap∧(∀ b ∈ fp,H' b=none)∧W i n σ' H') ?_ m0 ⟨0,_,_,IB,T.keep _ _ _ st2 fun b hb o e=>old b o e,fun b hb=>by rw [j3 (fpD b hb)];exact (f2 b hb).1,w0⟩
  rintro n s6 ⟨i,σ6,H6,I6,st6,fr6,w6⟩
  rcases turn i n σ6 H6 w6 with ⟨stop,qn⟩ | ⟨go,step⟩
  ·refine thn (T.done (X.block scope cl H3.objs.size Nc s2 H2 fp pins) rfl rfl rfl hc i [] s6 σ6 H6 _ I6 (stat fr6) st6 stop) fun r s7 ⟨hr,I7⟩=>?_
   subst hr
   obtain ⟨m7,hn7,_⟩:=id I7.loc
   have Io:Inv X pins σ H6 s7:=I2.sameC (h'':=s7.heap) f2 I7.os I7.bare I7.base I7.hok hCs I7.free ⟨rfl,fun _ _=>rfl⟩
   have fC:P8 X pins H6 H3.objs.size:=I2.fpOk hCs I7.free
   have fC':∀ b ∈ [H3.objs.size],P8 X pins H6 b:=fun b hb=>by rw [List.mem_singleton.mp hb];exact fC
   obtain ⟨oC,esC,epC,hoC,restC⟩:=id hn7
   have obC:∀ b ∈ [H3.objs.size],∃ o,s7.heap.get? b=some o∧∀ v,o.data ≠ .cell v:=fun b hb=>by
    rw [List.mem_singleton.mp hb]
    exact ⟨oC,hoC,fun v z=>ax7 hn7 hoC v z⟩
   have Ip:=Io.pinned fC' obC
   show wpAny (model X.prog X.w) X.A (assign (.Name y py) X.env (.ref s2.heap.objs.size)) _ _ s7
   refine thn (m6 (pos:=py) hN hi₀ hx hf _ s7 σ H6 (.ref s2.heap.objs.size) (.ref s2.heap.objs.size) DD.nx Ip rfl qn) fun _ s9 ⟨σ9,H9,I9,q9⟩=>?_
   have keepC:=(I9.pin (H3.objs.size,oC) (List.mem_append_right _ (List.mem_append_right _ (v4 (by simp) hoC)))).1
   have H9C:=(I9.pin (H3.objs.size,oC) (List.mem_append_right _ (List.mem_append_right _ (v4 (by simp) hoC)))).2.1
   refine ⟨m7,hn7.at' fun o e=>by rw [hoC] at e;cases e;exact keepC,fun h' sb=>?_⟩
   obtain ⟨_,g1,g2,g3,g4,g5⟩:=fC
   exact ⟨σ9,H9,I9.unpinned.turned (t':=s9.toks) (fun b o hb e=>(sb.2 b hb).trans e) H9C g1 g3 g4 g5,q9⟩
  ·refine thn (T.item (X.block scope cl H3.objs.size Nc s2 H2 fp pins) rfl rfl rfl hc i [] s6 σ6 H6 _ I6 (stat fr6) st6 go) fun r s7 ⟨u,hr,h7⟩=>?_
   subst hr
   refine thn h7 fun _ s8 ⟨x,H8,I8,r8,y8,st8,fr8⟩=>?_
   have I8':=I8.pinned (stat fr8) (T.obj _ _ st8)
   refine thn (hg _ _ _ _ _ _ s8 σ6 H8 x u _ I8' r8 (step x H8 y8)) fun _ s9 ⟨σ9,H9,I9,q9⟩=>?_
   refine thn (he _ _ _ _ _ _ s9 σ9 H9 _ I9 q9) fun u10 s10 ⟨v10,H10,I10,r10,ys,hys,hlen,m',hm',w'⟩=>?_
   refine thn (X7 _ s10 σ9 H10 (.ref s2.heap.objs.size) [v10] (.ref s2.heap.objs.size) [u10] (fun _ H11=>H11=upd H10 s2.heap.objs.size (.lst (ys ++ [v10]))) I10 rfl (.cons r10 .nil) ⟨_,ys,v10,rfl,rfl,hys,hlen,rfl⟩) fun _ s11 ⟨_,H11,I11,_,hH11⟩=>?_
   subst hH11
   refine ⟨m',hm',i + 1,σ9,_,I11.unpinned,T.keep _ _ _ st8 fun b hb o e=>(I11.pin (b,o) (List.mem_append_right _ (List.mem_append_right _ (v4 hb e)))).1,fun b hb=>?_,w'⟩
   obtain ⟨o,e,d⟩:=T.obj _ _ st8 b hb
   exact (I11.pin (b,o) (List.mem_append_right _ (List.mem_append_right _ (v4 hb e)))).2.1
 exact codeAny_compStart_list (loop _ rfl) (T.self _ 0 _ _ _ (T.keep _ _ _ st2 fun b hb o e=>old b o e) (loop _ rfl))
end
def Itv (K:PySem.W.Frag) (a:Addr) (n:Nat):It :=
 ⟨fun i H=>i < n∧∃ xs x,SqL K H a xs∧xs[n - 1 - i]? = some x,fun i H x H'=>H'=H∧∀ xs,SqL K H a xs→xs[n - 1 - i]? = some x,fun i H=>i=n⟩
theorem aY4 {P:Program} {w:World} {K:PySem.W.Frag} {tg:Expr} (a it:Addr) (n:Nat):bi9 P w K tg (Itv K a n) [it] it (fun i h=>h.IsRevIter it a ((n:Int) - 1 - (i:Int))) where
 mem:=by simp
 obj:=fun i h st b hb=>by
  have e:b=it:=by simpa using hb
  subst e
  obtain ⟨o,e,c,d⟩:=st
  exact ⟨o,e,fun v z=>by rw [d] at z;cases z⟩
 keep:=fun i h h' st k=>st.at fun o e=>k it (by simp) o e
 item:=by
  intro X hP hw hK hc i pins s σ H E I hf st hg
  subst hP hw hK
  obtain ⟨hi,xs,x,hq,hx⟩:=hg
  obtain ⟨its,rv,p,hz⟩:=I.list hq
  obtain ⟨u,hu,ru⟩:=rv.get hx
  obtain ⟨f0,f1,f2,f3,f4,f5⟩:=hf it (by simp)
  have e:(n:Int) - 1 - (i:Int)=((n - 1 - i:Nat):Int):=by omega
  rw [e] at st
  refine wpAny_pyNext_rev_item st p.isList (x:=u) (by simpa using hu) fun h' st' sb=>?_
  have I1:Inv X pins σ H { s with heap:=h' }:=I.turned (t':=s.toks) (fun b o hb e=>(sb.2 b hb).trans e) f0 f1 f3 f4 f5
  have e2:((n - 1 - i:Nat):Int) - 1=(n:Int) - 1 - ((i + 1:Nat):Int):=by omega
  rw [e2] at st'
  obtain ⟨o,e,c,d⟩:=id st'
  exact ⟨u,rfl,bf6 (s:={ s with heap:=h' }) e c d (by decide) ⟨x,H,I1,ru,⟨rfl,fun ys hy=>by rw [I.list_inj hy hq];exact hx⟩,st',fun b hb=>(hf b hb).1⟩⟩
 done:=by
  intro X hP hw hK hc i pins s σ H E I hf st hg
  subst hP hw hK
  have e:i=n:=hg
  subst e
  have e:(i:Int) - 1 - (i:Int)=-1:=by omega
  rw [e] at st
  obtain ⟨f0,f1,f2,f3,f4,f5⟩:=hf it (by simp)
  exact wpAny_pyNext_rev_end (I.ok.hd hc) st fun h' eb=>⟨rfl,I.turned (t':=s.toks) (fun b o hb e=>eb b o hb e) f0 f1 f3 f4 f5⟩
 self:=fun _ _ _ _ _ st h=>wpAny_pyIter_revIter st h
section
variable {X:Cx}
def bz3 (K:PySem.W.Frag) (ta:TA):TI:=fun σ H R=>ta σ H fun vs H1 => ∃ a xs,vs=[.ref a]∧SqL K H1 a xs∧R (Itv K a xs.length) H1
theorem bw3 {tg l:Expr} {ta:TA} {p pos:Pos} (hg:Gl X "reversed") (hm:X.mg "reversed" = none) (ha:PA X [l] ta) (hs:starEach [l] X.env=[(false,eval l X.env)]:=by rfl) :
  PI X tg (.Call (.Name "reversed" p) [l] [] pos) (bz3 X.K ta):=by
 intro pins s σ H R I h
 refine Call_ (af8 I hg hm (u:=.type "reversed") (by decide +kernel) (PyProof.Rows.callWith_type1 (thn (ha pos pins s σ H _ I h) fun us s1 ⟨vs,H1,I1,r1,q1⟩=>?_) hs rfl))
 obtain ⟨a,xs,e,hq,q⟩:=q1
 subst e
 obtain ⟨u,rfl,rx⟩:=ap1 r1
 cases rx
 obtain ⟨its,rv,p,hz⟩:=I1.list hq
 refine call_reversed_list p.isList ?_
 have hl:=rv.length
 have e:((its.toArray.size:Nat):Int) - 1=(xs.length:Int) - 1 - ((0:Nat):Int):=by simp;omega
 rw [e]
 have I2:Inv X pins σ H1 { s1 with heap:=s1.heap.push (revObj a ((xs.length:Int) - 1 - ((0:Nat):Int))) }:=I1.kept (t':=s1.toks) fun b o e=>Heap.get?_push_of_some _ e
 refine wpAny_pyIter_revIter (it:=s1.heap.objs.size) (l:=a) (i:=(xs.length:Int) - 1 - ((0:Nat):Int)) ⟨_,Heap.get?_push_size _ rfl,rfl,rfl⟩ ?_
 refine ⟨s1.heap.objs.size,[s1.heap.objs.size],_,_,H1,rfl,I2,aY4 a _ xs.length,⟨_,Heap.get?_push_size _ rfl,rfl,rfl⟩,fun b hb=>?_,q⟩
 have e:b=s1.heap.objs.size:=by simpa using hb
 subst e
 exact I1.fpOk (Nat.le_refl _) (I1.hok.fresh (Nat.le_refl _))
end
section
variable {X:Cx}
def ipM (c:Int→Int→Prop) (f:Int→Int→Int):TIp:=fun x y H Q => ∃ i j,x=.int i∧y=.int j∧c i j∧Q (.int (f i j)) H
theorem be9:PIp X .Mult (ipM IntMulOk fun i j=>i * j):=by
 intro pins s σ H x y v u Q I r1 r2 h
 obtain ⟨i,j,e1,e2,hc,q⟩:=h
 subst e1;subst e2
 obtain ⟨t,rfl⟩:=r1
 obtain ⟨t',rfl⟩:=r2
 exact imul_int ⟨.int _,H,I.tok _,⟨_,rfl⟩,q⟩ hc
end
theorem bo3 {K:PySem.W.Frag} {a:Addr} {xs:List V} {g:TG} {tb:TS} {D:aa5} {σ:St} {H:Hp} (Pv:Nat→St→Hp→Prop) (h0:Pv 0 σ H) (hl:∀ i σ H,i≤xs.length→Pv i σ H→SqL K H a xs)
  (hs:∀ i x σ H,i < xs.length→xs[xs.length - 1 - i]? = some x→Pv i σ H→g x σ H fun σ2 H2=>tb { D with nx:=Pv (i + 1),ct:=Pv (i + 1),bk:=D.nx } σ2 H2) (hd:∀ σ H,Pv xs.length σ H→D.nx σ H) :
  ∃ W:Nat→Nat→St→Hp→Prop,(∃ m,W 0 m σ H)∧∀ i m σ H,W i m σ H →
   ((Itv K a xs.length).stop i H∧D.nx σ H) ∨ ((Itv K a xs.length).go i H∧∃ N:St→Hp→Prop,(∀ σ' H',N σ' H'→∃ m',m' < m∧W (i + 1) m' σ' H')∧∀ x H',(Itv K a xs.length).yld i H x H'→g x σ H' fun σ2 H2=>tb { D with nx:=N,ct:=N,bk:=D.nx } σ2 H2):=by
 refine ⟨fun i m σ H=>m=xs.length - i∧i≤xs.length∧Pv i σ H,⟨xs.length,by simp,Nat.zero_le _,h0⟩,?_⟩
 rintro i m σ H ⟨rfl,hi,p⟩
 have q:=hl i σ H hi p
 by_cases hlt:i < xs.length
 ·refine .inr ⟨⟨hlt,xs,xs[xs.length - 1 - i],q,List.getElem?_eq_getElem (by omega)⟩,Pv (i + 1),fun σ' H' p'=>⟨xs.length - (i + 1),by omega,rfl,hlt,p'⟩,fun x H' y=>?_⟩
  obtain ⟨e,y⟩:=y
  subst e
  exact hs i x σ _ hlt (y xs q) p
 ·have e:i=xs.length:=by omega
  subst e
  exact .inl ⟨rfl,hd σ H p⟩
def bv4 (K:PySem.W.Frag):List V→Hp→VK→Prop:=fun xs H Q => ∃ p ys,xs=[.ref p]∧(SqL K H p ys ∨ SqT K H p ys)∧Q (.int ys.length) H
structure OwnCells (h h':Heap) (names:List (Str × NameKind)) (acc cs:List (Str × Addr)):Prop where
 cell:∀ x c,cs.lookup x=some c→∃ v,h'.IsCell c v
 inj:∀ x y c,cs.lookup x=some c→cs.lookup y=some c→x=y
 old:∀ x c,cs.lookup x=some c→acc.lookup x=some c ∨ h.objs.size≤c
 fresh:∀ x,(x,NameKind.cell) ∈ names→∀ c,cs.lookup x=some c→h.objs.size≤c
structure CapsC (X:Cx) (scope:Scope) (cl:List (Str × Addr)) (Nc:List Str) (caps:List (Option Nat)):Prop where
 clos:closureFor scope X.env=pure cl
 sub:∀ x c,cl.lookup x=some c→X.env.cells.lookup x=some c
 has:∀ n x,(relabel scope X.env).names.lookup x=some .cell ∨ (relabel scope X.env).names.lookup x=some .free→∃ c,(cellsFrom n scope.names cl).lookup x=some c
 kind:scope.kind=.function
 names:∀ x ∈ scope.names,x.2=.local→scope.names.lookup x.1=some .local
 len:caps.length=Nc.length
 cap:∀ (i j:Nat) (x:Str),caps[i]? = some (some j)→Nc[i]? = some x→X.N[j]? = some x∧Vis X.env.scope x∧X.env.kindOf x ≠ some .local∧((relabel scope X.env).names.lookup x=some .cell ∨ (relabel scope X.env).names.lookup x=some .free) ∧
  (∃ c,cl.lookup x=some c)∧∀ n c,cl.lookup x=some c→(cellsFrom n scope.names cl).lookup x=some c
structure Stp (prog:Program) (w:World) (it src:Addr) (ar:Array Value) (st:Nat→Heap→Prop):Prop where
 stay:∀ {k:Nat} {h h':Heap},st k h→(∀ o,h.get? it=some o→h'.get? it=some o)→(∀ o,h.get? src=some o→h'.get? src=some o)→st k h'
 item:∀ {A:Around} {E:Value→Shared→Prop} {s:Shared} {k:Nat} {v:Value} {Q:Value→Shared→Prop},st k s.heap→ar[k]? = some v→(∀ h',st (k + 1) h'→Heap.SameBut it s.heap h'→Q v { s with heap:=h' })→wpAny (model prog w) A (Builtin.SmallTypes.nextOf (.ref it)) Q E s
 fin:∀ {A:Around} {E:Value→Shared→Prop} {s:Shared} {k:Nat} {Q:Value→Shared→Prop},A.handled=none→st k s.heap→ar[k]? = none→(∀ h' e,Heap.ExtBut it s.heap h'→(∃ o,h'.get? e=some o∧o.cls=.type "StopIteration")→E (.ref e) { s with heap:=h' })→wpAny (model prog w) A (Builtin.SmallTypes.nextOf (.ref it)) Q E s
open PySem PyProof.Rows
section
variable {X:Cx}
theorem aC1 {elt tg iter cnd:Expr} {scope:Scope} {pos spos py:Pos} {y:Str} {i₀:Nat} {cl:List (Str × Addr)} {Nc:List Str} {caps:List (Option Nat)} {wi:TI} {g:TG} {tt:TT} {te:TE} (hN:X.N.Nodup) (hi₀:X.N[i₀]? = some y) (hx:Loc X.env.scope y) (hc:X.calm=true) (cp:Z9 X scope cl Nc caps) (hi:PI X tg iter wi)
  (hg:∀ C s₂ H₂ fp pins,PG (X.block scope cl C Nc s₂ H₂ fp pins) tg g) (ht:∀ C s₂ H₂ fp pins,PT (X.block scope cl C Nc s₂ H₂ fp pins) cnd tt) (he:∀ C s₂ H₂ fp pins,PE (X.block scope cl C Nc s₂ H₂ fp pins) elt te) (hs:∀ x,foldedSetIterable iter X.env x=pure x:=by intro _;rfl) (hsw:swapsWith (.ListComp elt [⟨tg,iter,[cnd],0⟩] scope pos) (some (.Name y py)) spos.line X.env=pure true:=by rfl)
  (hf:X.fn y=true ∨ X.env.scope.names.lookup y=some .local:=by first | exact .inl rfl | exact .inr rfl | assumption) :
  PS X (.Assign [.Name y py] (.ListComp elt [⟨tg,iter,[cnd],0⟩] scope pos) spos) (aU1 (aA3 wi caps g tt te) (C1 i₀)):=by
 intro pins s σ H DD I h
 rw [exec_Assign_Name_used _ _ _ _ hsw]
 refine wpAny_bind (wpAny_standAt (wpAny_bind ?_))
 show wpAny _ X.A (do let _ ← comprehension (.ListComp elt [⟨tg,iter,[cnd],0⟩] scope pos) scope X.env _ (newList []) false (eval iter X.env) (some (assign (.Name y py) X.env))) _ _ s
 refine wpAny_bind (wpAny_mono (wpAny_comprehension_free (use:=some (assign (.Name y py) X.env)) (Q:=fun _ s'=>SP X pins DD .next s') rfl hs cp.clos cp.kind cp.names ?_) (fun _ s' hq=>wpAny_pure (wpAny_pure hq)) fun _ _ e=>e)
 refine thn (hi pins s σ H _ I h) fun v s1 h1=>thn h1 fun itv s2 h2=>?_
 obtain ⟨it,fp,tn,J,H2,e,I2,T,st2,f2,hW⟩:=h2
 subst e
 refine wpAny_newObj_type ?_ (by show 0≤sizeLine;exact Nat.zero_le _)
 refine wpAny_newFunctionEnv cp.nocell (by intro y hy;simp at hy) (fun h4 hns hsb=>?_) cp.kind
 dsimp only at hns hsb ⊢
 generalize hH3:s2.heap.push { cls:=.type "list",dict:=none,data:=.seq ([]:List Value).toArray }=H3 at hns hsb ⊢
 have hCe:H3.objs.size=s2.heap.objs.size + 1:=by rw [← hH3,Heap.size_push]
 have S8:∀ b o,s2.heap.get? b=some o→b ≠ H3.objs.size:=fun b o e=>by rw [hCe];exact Nat.ne_of_lt (Nat.lt_succ_of_lt (Heap.lt_size e))
 have old:∀ b o,s2.heap.get? b=some o→h4.get? b=some o:=fun b o e=>hsb.extBut b o (S8 b o e) (Heap.get?_push_of_some _ (hH3 ▸ Heap.get?_push_of_some _ e))
 have hD:h4.get? s2.heap.objs.size=some { cls:=.type "list",dict:=none,data:=.seq ([]:List Value).toArray } :=
  hsb.extBut _ _ (by rw [hCe];exact Nat.ne_of_lt (Nat.lt_succ_self _)) (Heap.get?_push_of_some _ (hH3 ▸ Heap.get?_push_size _ rfl))
 have hDn:H2 s2.heap.objs.size=none:=I2.fresh
 have hCn:H2 H3.objs.size=none:=I2.hok.fresh (by rw [hCe];exact Nat.le_succ _)
 have hCs:s2.heap.objs.size≤H3.objs.size:=by rw [hCe];exact Nat.le_succ _
 have hDC:s2.heap.objs.size ≠ H3.objs.size:=by rw [hCe];exact Nat.ne_of_lt (Nat.lt_succ_self _)
 have fpl:∀ b ∈ fp,∃ o,s2.heap.get? b=some o:=fun b hb=>let ⟨o,e,_⟩:=T.obj _ _ st2 b hb;⟨o,e⟩
 have fpC:∀ b ∈ fp,b ≠ H3.objs.size:=fun b hb=>let ⟨o,e⟩:=fpl b hb;S8 b o e
 have fpD:∀ b ∈ fp,b ≠ s2.heap.objs.size:=fun b hb=>let ⟨o,e⟩:=fpl b hb;Nat.ne_of_lt (Heap.lt_size e)
 have stkN:∀ b,b ≠ X.env.locals→b ∉ X.fs→b ∉ frs X.stack:=fun b h1 h2 z=>(List.mem_cons.mp (I2.stkSub b z)).elim h1 h2
 obtain ⟨W,⟨m0,w0⟩,turn⟩:=hW s2.heap.objs.size hDn
 have okB:(X.block scope cl H3.objs.size Nc s2 H2 fp pins).Ok:=by
  refine ⟨I2.ok.mod,?_,I2.ok.glob,I2.ok.blt,hCs,fun x y c h1 h2=>I2.ok.inj x y c (cp.sub x c h1) (cp.sub y c h2),fun x hx=>cp.has x hx,fun x c h=>(by cases h),I2.ok.hd,I2.ok.frames,.inl rfl,fun b hb=>⟨fpC b hb,fun x c h=>(f2 b hb).2.2.2.2.1 x c (cp.sub x c h)⟩,I2.bs,Nat.le_trans I2.ok.bsz I2.sz,fun b o e hb=>?_,fun b hb=>stkN b (f2 b hb).2.1 (f2 b hb).2.2.1,I2.stack,I2.stkFree⟩
  ·exact cp.kind
  ·rcases (f2 b hb).2.2.2.1 with z | z
   ·exact I2.ok.noex b o e z
   ·exact absurd (Nat.lt_of_lt_of_le (Heap.lt_size e) (Nat.le_trans I2.ok.bsz z)) (Nat.lt_irrefl _)
 have hokB:HOk X.prog X.w (upd H2 s2.heap.objs.size (.lst [])) h4:=I2.hok.laid old (Nat.le_refl _) ⟨Nat.zero_le _,[],_,.nil,hD⟩
 have IB:Inv (X.block scope cl H3.objs.size Nc s2 H2 fp pins) [] (M0 caps σ) (upd H2 s2.heap.objs.size (.lst [])) { s2 with heap:=h4,toks:=s2.toks + ([]:List (Str × Value)).length }:=by
  refine ⟨okB,rfl,I2.bare,Un.laid old (Nat.le_refl _) hDn,⟨_,hns,fun i x v e1 e2 e3=>?_⟩,fun x c e=>?_,(show upd H2 s2.heap.objs.size (.lst []) H3.objs.size=none by rw [j3 (Ne.symm hDC)];exact hCn),fun x c e=>?_,fun p hp=>?_,hokB,?_⟩
  ·unfold M0 at e2
   rw [List.getElem?_map] at e2
   cases hcap:caps[i]? with
   | none=>rw [hcap] at e2;cases e2
   | some o =>
    rw [hcap] at e2
    cases o with
    | none=>cases e2
    | some j =>
     have hj:σ[j]? = some (some v):=by
      have e2':(σ[j]?).join=some v:=Option.some.inj e2
      cases q:σ[j]? with
      | none=>rw [q] at e2';cases e2'
      | some z=>rw [q] at e2';exact congrArg some e2'
     obtain ⟨n1,n2,n3,n4⟩:=cp.cap i j x hcap e1
     obtain ⟨m,hm,hl⟩:=I2.loc
     obtain ⟨u,r,q⟩:=hl j x v n1 hj n2
     rcases q with ⟨k,_⟩ | ⟨k,c,ec,z⟩
     ·exact absurd k n3
     ·obtain ⟨c',ec'⟩:=cp.has x n4
      have:=cp.sub x c' ec'
      rw [ec] at this;cases this
      obtain ⟨oc,ho,hd⟩:=z
      exact ⟨u,r,.inr ⟨n4,c,ec',oc,old _ _ ho,hd⟩⟩
  ·obtain ⟨v,oc,ho,hd⟩:=I2.cell x c (cp.sub x c e)
   exact ⟨v,oc,old _ _ ho,hd⟩
  ·obtain ⟨v,oc,ho,hd⟩:=I2.cell x c (cp.sub x c e)
   rw [j3 (Nat.ne_of_lt (Heap.lt_size ho))]
   exact I2.freeC x c (cp.sub x c e)
  ·have hp':p ∈ X.pn ++ pins:=by simpa using hp
   obtain ⟨e1,e2,e3,e4,e5⟩:=I2.pin p hp'
   exact ⟨old _ _ e1,by rw [j3 (Nat.ne_of_lt (Heap.lt_size e1))];exact e2,S8 _ _ e1,stkN _ e3 e4,e5⟩
  ·show (M0 caps σ).length=Nc.length
   unfold M0
   rw [List.length_map];exact cp.len
 have stat:∀ {H':Hp},(∀ b ∈ fp,H' b=none)→∀ b ∈ fp,P8 (X.block scope cl H3.objs.size Nc s2 H2 fp pins) [] H' b:=fun hn b hb =>
  ⟨hn b hb,fpC b hb,stkN b (f2 b hb).2.1 (f2 b hb).2.2.1,.inl hb,fun x c h=>(f2 b hb).2.2.2.2.1 x c (cp.sub x c h),fun p hp=>(f2 b hb).2.2.2.2.2 p (by simpa using hp)⟩
 have loop:∀ s5:Shared,s5={ s2 with heap:=h4,toks:=s2.toks + ([]:List (Str × Value)).length } →
   codeAny (model X.prog X.w) X.A (.compLoop (.ListComp elt [⟨tg,iter,[cnd],0⟩] scope pos) 0 (.ref it) (.ref s2.heap.objs.size) (compEnvC scope cl H3.objs.size X.env))
    (compPost (model X.prog X.w) X.A X.xe (some (assign (.Name y py) X.env)) (fun _ s'=>SP X pins DD .next s') (.ref s2.heap.objs.size) H3.objs.size) s5:=by
  rintro s5 rfl
  refine am2 (fun n s' => ∃ i σ' H',Inv (X.block scope cl H3.objs.size Nc s2 H2 fp pins) [] σ' H' s'∧tn i s'.heap∧(∀ b ∈ fp,H' b=none)∧W i n σ' H') ?_ m0 ⟨0,_,_,IB,T.keep _ _ _ st2 fun b hb o e=>old b o e,fun b hb=>by rw [j3 (fpD b hb)];exact (f2 b hb).1,w0⟩
  rintro n s6 ⟨i,σ6,H6,I6,st6,fr6,w6⟩
  rcases turn i n σ6 H6 w6 with ⟨stop,qn⟩ | ⟨go,step⟩
  ·refine thn (T.done (X.block scope cl H3.objs.size Nc s2 H2 fp pins) rfl rfl rfl hc i [] s6 σ6 H6 _ I6 (stat fr6) st6 stop) fun r s7 ⟨hr,I7⟩=>?_
   subst hr
   obtain ⟨m7,hn7,_⟩:=id I7.loc
   have Io:Inv X pins σ H6 s7:=I2.sameC (h'':=s7.heap) f2 I7.os I7.bare I7.base I7.hok hCs I7.free ⟨rfl,fun _ _=>rfl⟩
   have fC:P8 X pins H6 H3.objs.size:=I2.fpOk hCs I7.free
   have fC':∀ b ∈ [H3.objs.size],P8 X pins H6 b:=fun b hb=>by rw [List.mem_singleton.mp hb];exact fC
   obtain ⟨oC,esC,epC,hoC,restC⟩:=id hn7
   have obC:∀ b ∈ [H3.objs.size],∃ o,s7.heap.get? b=some o∧∀ v,o.data ≠ .cell v:=fun b hb=>by
    rw [List.mem_singleton.mp hb]
    exact ⟨oC,hoC,fun v z=>ax7 hn7 hoC v z⟩
   have Ip:=Io.pinned fC' obC
   show wpAny (model X.prog X.w) X.A (assign (.Name y py) X.env (.ref s2.heap.objs.size)) _ _ s7
   refine thn (m6 (pos:=py) hN hi₀ hx hf _ s7 σ H6 (.ref s2.heap.objs.size) (.ref s2.heap.objs.size) DD.nx Ip rfl qn) fun _ s9 ⟨σ9,H9,I9,q9⟩=>?_
   have keepC:=(I9.pin (H3.objs.size,oC) (List.mem_append_right _ (List.mem_append_right _ (v4 (by simp) hoC)))).1
   have H9C:=(I9.pin (H3.objs.size,oC) (List.mem_append_right _ (List.mem_append_right _ (v4 (by simp) hoC)))).2.1
   refine ⟨m7,hn7.at' fun o e=>by rw [hoC] at e;cases e;exact keepC,fun h' sb=>?_⟩
   obtain ⟨_,g1,g2,g3,g4,g5⟩:=fC
   exact ⟨σ9,H9,I9.unpinned.turned (t':=s9.toks) (fun b o hb e=>(sb.2 b hb).trans e) H9C g1 g3 g4 g5,q9⟩
  ·refine thn (T.item (X.block scope cl H3.objs.size Nc s2 H2 fp pins) rfl rfl rfl hc i [] s6 σ6 H6 _ I6 (stat fr6) st6 go) fun r s7 ⟨u,hr,h7⟩=>?_
   subst hr
   refine thn h7 fun _ s8 ⟨x,H8,I8,r8,y8,st8,fr8⟩=>?_
   have I8':=I8.pinned (stat fr8) (T.obj _ _ st8)
   refine thn (hg _ _ _ _ _ _ s8 σ6 H8 x u _ I8' r8 (step x H8 y8)) fun _ s9 ⟨σ9,H9,I9,q9⟩=>?_
   refine thn (ht _ _ _ _ _ _ s9 σ9 H9 _ I9 q9) fun bb s9' ⟨H9',I9',q9'⟩=>?_
   cases bb with
   | false =>
    rw [if_neg (by decide)] at q9' ⊢
    obtain ⟨m',hm',w'⟩:=q9'
    refine ⟨m',hm',i + 1,σ9,H9',I9'.unpinned,T.keep _ _ _ st8 fun b hb o e=>(I9'.pin (b,o) (List.mem_append_right _ (List.mem_append_right _ (v4 hb e)))).1,fun b hb=>?_,w'⟩
    obtain ⟨o,e,d⟩:=T.obj _ _ st8 b hb
    exact (I9'.pin (b,o) (List.mem_append_right _ (List.mem_append_right _ (v4 hb e)))).2.1
   | true =>
    rw [if_pos rfl] at q9' ⊢
    refine thn (he _ _ _ _ _ _ s9' σ9 H9' _ I9' q9') fun u10 s10 ⟨v10,H10,I10,r10,ys,hys,hlen,m',hm',w'⟩=>?_
    refine thn (X7 _ s10 σ9 H10 (.ref s2.heap.objs.size) [v10] (.ref s2.heap.objs.size) [u10] (fun _ H11=>H11=upd H10 s2.heap.objs.size (.lst (ys ++ [v10]))) I10 rfl (.cons r10 .nil) ⟨_,ys,v10,rfl,rfl,hys,hlen,rfl⟩) fun _ s11 ⟨_,H11,I11,_,hH11⟩=>?_
    subst hH11
    refine ⟨m',hm',i + 1,σ9,_,I11.unpinned,T.keep _ _ _ st8 fun b hb o e=>(I11.pin (b,o) (List.mem_append_right _ (List.mem_append_right _ (v4 hb e)))).1,fun b hb=>?_,w'⟩
    obtain ⟨o,e,d⟩:=T.obj _ _ st8 b hb
    exact (I11.pin (b,o) (List.mem_append_right _ (List.mem_append_right _ (v4 hb e)))).2.1
 exact codeAny_compStart_list (loop _ rfl) (T.self _ 0 _ _ _ (T.keep _ _ _ st2 fun b hb o e=>old b o e) (loop _ rfl))
end
end L2
set_option maxRecDepth 100000
namespace HT
open PySem PyProof.Rows
end HT
namespace L2
open PySem PySem.Spec PyProof.Rows
end L2
set_option maxRecDepth 100000
namespace PySem
open Sem (wp)
open AutoSeq1 (wpAny_loadPart')
end PySem
namespace L2
open PySem PySem.Spec PyProof.Rows
section
variable {X:Cx} {pos:Pos} {a b:Expr} {ab2:List Expr} {ta tb:TE}
def bt7 (K:PySem.W.Frag) (ta tb:TE):TE:=fun σ H Q=>ta σ H fun x H1 => ∃ k,av6 K x H1 k∧if k=true then Q x H1 else tb σ H1 Q
theorem bw6 (ha:PE X a ta) (hb:PE X (.BoolOp .Or (b :: ab2) pos) tb):PE X (.BoolOp .Or (a :: b :: ab2) pos) (bt7 X.K ta tb):=by
 intro pins s σ H Q I h
 refine BoolOp_or (thn (ha pins s σ H _ I h) fun v s1 ⟨x,H1,I1,r1,q1⟩=>?_)
 obtain ⟨k,hk,q⟩:=q1
 refine thn (aY5 pins s1 σ H1 x v (fun c H'=>if c=true then Q x H' else tb σ H' Q) I1 r1 ⟨k,hk,q⟩) fun c s2 ⟨H2,I2,q2⟩=>?_
 cases c with
 | false=>exact hb pins s2 σ H2 Q I2 q2
 | true=>exact ⟨x,H2,I2,r1,q2⟩
end
end L2
set_option maxRecDepth 100000
namespace R
open PySem L2 PyProof.Rows
def j4 (f:Nat→Rat):Nat→Rat
 | 0=>0
 | n + 1=>j4 f n + f n
theorem K0 (f:Nat→Rat):∀ n,j4 f (n + 1)=f 0 + j4 (fun i=>f (i + 1)) n
 | 0=>by simp only [j4];grind
 | n + 1=>by
  rw [j4,K0 f n,j4];grind
theorem i8 {f g:Nat→Rat}:∀ {n},(∀ i,i < n→f i=g i)→j4 f n=j4 g n
 | 0,_=>rfl
 | n + 1,h=>by rw [j4,j4,i8 fun i hi=>h i (by omega),h n (by omega)]
theorem ae0:∀ (n:Nat) (f:Nat→Rat),j4 f n=j4 (fun i=>f (n - 1 - i)) n
 | 0,_=>rfl
 | n + 1,f=>by
  rw [K0 (fun i=>f (n + 1 - 1 - i)) n,j4,ae0 n f]
  have:j4 (fun i=>f (n - 1 - i)) n=j4 (fun i=>f (n + 1 - 1 - (i + 1))) n:=i8 fun i hi=>by congr 1;omega
  rw [this]
  show _=f (n + 1 - 1 - 0) + _
  rw [show n + 1 - 1 - 0=n by omega]
  grind
theorem U8 {f:Nat→Rat} {m:Nat}:∀ {n},m≤n→(∀ i,m≤i→i < n→f i=0)→j4 f n=j4 f m
 | 0,h,_=>by rw [show m=0 by omega]
 | n + 1,h,z=>by
  by_cases e:m=n + 1
  ·rw [e]
  ·rw [j4,z n (by omega) (by omega),U8 (n:=n) (by omega) fun i a b=>z i a (by omega)]
   grind
theorem ay1 (f:List Rat) (i:Nat) (x:Rat) (q:List Rat) {k:Nat} (y:Rat) (hy:f[k]? = some y):∀ j,(C5 0 f i x q j)[k]? = some (y + if i≤k∧k < i + j then x * (q[k - i]?).getD 0 else 0)
 | 0=>by
  rw [C5,hy,if_neg (by omega)];congr 1;grind
 | j + 1=>by
  have ih:=ay1 f i x q y hy j
  rw [C5]
  by_cases e:k=i + j
  ·subst e
   rw [ag5 _ _ _ _ ih,if_neg (by omega),if_pos (by omega),show i + j - i=j by omega]
   congr 1;grind
  ·rw [ac4 _ _ _ _ e,ih]
   by_cases h:i≤k∧k < i + j
   ·rw [if_pos h,if_pos (by omega)]
   ·rw [if_neg h,if_neg (by omega)]
def aA1 (p q:List Rat) (k i:Nat):Rat:=if i≤k then (p[i]?).getD 0 * (q[k - i]?).getD 0 else 0
theorem ax5 (f p q:List Rat) {k:Nat} (hy:f[k]? = some 0):∀ n,(G7 0 f p q n)[k]? = some (j4 (aA1 p q k) n)
 | 0=>hy
 | n + 1=>by
  rw [G7,ay1 _ _ _ _ _ (ax5 f p q hy n),j4]
  congr 2
  unfold aA1
  by_cases h:n≤k
  ·rw [if_pos h]
   by_cases h2:k < n + q.length
   ·rw [if_pos ⟨h,h2⟩]
   ·rw [if_neg (by omega),List.getElem?_eq_none (l:=q) (by omega)]
    show (0:Rat)=_ * 0
    grind
  ·rw [if_neg h,if_neg (by omega)]
theorem bd3 {p q:List Rat} (hp:p ≠ []) (hq:q ≠ []) {k:Nat} (hk:k < p.length + q.length - 1):(V4 p q)[k]? = some (j4 (fun i=>(p[i]?).getD 0 * (q[k - i]?).getD 0) (k + 1)):=by
 unfold V4
 rw [if_neg (by simp [hp,hq]),ax5 _ _ _ (by rw [List.getElem?_replicate,if_pos hk])]
 congr 1
 have h1:j4 (aA1 p q k) (max p.length (k + 1))=j4 (aA1 p q k) p.length:=U8 (by omega) fun i a _=>by
  unfold aA1
  rw [List.getElem?_eq_none a]
  split
  ·show (0:Rat) * _=0;grind
  ·rfl
 have h2:j4 (aA1 p q k) (max p.length (k + 1))=j4 (aA1 p q k) (k + 1):=U8 (by omega) fun i a _=>by
  unfold aA1
  rw [if_neg (by omega)]
 rw [← h1,h2]
 exact i8 fun i hi=>by unfold aA1;rw [if_pos (by omega)]
end R
namespace L2
theorem i7 {t R:TS} {D:aa5} {σ:St} {H:Hp} (P:St→Hp→Prop) (first:∀ N:St→Hp→Prop,(∀ σ H,P σ H→N σ H)→t { D with nx:=N } σ H) (ab2:∀ σ H,P σ H→R D σ H):bk1 t R D σ H:=first _ ab2
end L2
set_option maxRecDepth 100000
namespace R
section
variable {α:Type} [Lean.Grind.CommRing α]
def syn (c:α):List α→List α
 | []=>[]
 | a :: p=>match syn c p with
  | []=>[a]
  | h :: t=>(a + c * h) :: h :: t
def pass (c:α) (k:Nat) (l:List α):List α:=l.take k ++ syn c (l.drop k)
end
def evQ (x:Rat):List Rat→Rat
 | []=>0
 | a :: p=>a + x * evQ x p
open PySem L2 PyProof.Rows
structure Bd6 (q:Rat):Prop where
 n:q.num.natAbs < 2 ^ 6000
 d:q.den < 2 ^ 6000
theorem al7:∀ (qs:List Rat) (b:Nat),0 < b→0 < qs.foldl (fun b q=>Nat.lcm b q.den) b
 | [],b,h=>h
 | q :: qs,b,h=>al7 qs _ (Nat.lcm_pos h (by have:=q.den_nz;omega))
theorem V1 (qs:List Rat):0 < t4 qs:=al7 qs 1 (by decide)
theorem aF6 (qs:List Rat):Int.gcd (t9 (p7 (t4 qs) qs):Int) (t4 qs:Int)=1:=by
 have hB:=V1 qs
 have key:∀ c:Nat,c ∣ t9 (p7 (t4 qs) qs)→c ∣ t4 qs→c=1:=by
  intro c h1 h2
  have hc:0 < c:=Nat.pos_of_dvd_of_pos h2 hB
  have h3:t4 qs ∣ t4 qs / c:=by
   refine ar6 fun q hq=>?_
   obtain ⟨e,he⟩:=T6 hq
   have hd:(q.den:Int) ≠ 0:=by have:=q.den_nz;omega
   have e1:(t4 qs:Int).fdiv (q.den:Int)=(e:Int):=by
    rw [he,Int.natCast_mul];exact t7 hd
   have m1:(c:Int) ∣ q.num * (e:Int):=by
    have:=Int.dvd_trans (Int.natCast_dvd_natCast.mpr h1) (L7 (List.mem_map.mpr ⟨q,hq,rfl⟩))
    rw [e1] at this;exact this
   have m2:c ∣ q.num.natAbs * e:=by
    have:=Int.natAbs_dvd_natAbs.mpr m1
    rw [Int.natAbs_mul] at this
    simpa using this
   have m3:c ∣ q.den * e:=by rw [← he];exact h2
   have m4:c ∣ e:=by
    have:=Nat.dvd_gcd m2 m3
    rw [Nat.gcd_mul_right] at this
    have hg:Nat.gcd q.num.natAbs q.den=1:=q.reduced
    rw [hg,Nat.one_mul] at this
    exact this
   obtain ⟨f,hf⟩:=m4
   rw [he,hf]
   refine ⟨f,?_⟩
   rw [show q.den * (c * f)=c * (q.den * f) by grind,Nat.mul_div_cancel_left _ hc]
  have h4:=Nat.le_of_dvd (Nat.div_pos (Nat.le_of_dvd hB h2) hc) h3
  have h5:=Nat.div_mul_cancel h2
  by_cases hc1:c=1
  ·exact hc1
  ·have:t4 qs / c * 2≤t4 qs / c * c:=Nat.mul_le_mul_left _ (by omega)
   omega
 have z:=key (Int.gcd (t9 (p7 (t4 qs) qs):Int) (t4 qs:Int))
 refine z ?_ ?_
 ·exact Int.natCast_dvd_natCast.mp (Int.gcd_dvd_left _ _)
 ·exact Int.natCast_dvd_natCast.mp (Int.gcd_dvd_right _ _)
theorem z5 {f:Nat→Rat}:∀ n,(∀ i,i < n→f i=0)→j4 f n=0
 | 0,_=>rfl
 | n + 1,h=>by
  rw [j4,z5 n (fun i hi=>h i (by omega)),h n (by omega)]
  grind
open PySem L2 PyProof.Rows
structure ClN (W:Nat) (qs:List Rat):Prop where
 l:t4 qs < 2 ^ W
 w:∀ v ∈ p7 (t4 qs) qs,Int.natAbs v < 2 ^ W
theorem ClN.den {W:Nat} {qs:List Rat} (h:ClN W qs) {q:Rat} (hq:q ∈ qs):q.den < 2 ^ W:=Nat.lt_of_le_of_lt (Nat.le_of_dvd (V1 qs) (T6 hq)) h.l
theorem ClN.num {W:Nat} {qs:List Rat} (h:ClN W qs) {q:Rat} (hq:q ∈ qs):q.num.natAbs < 2 ^ W:=by
 have h1:=h.w _ (List.mem_map.mpr ⟨q,hq,rfl⟩)
 obtain ⟨e,he⟩:=T6 hq
 have hp:=V1 qs
 have h0:(q.den:Int) ≠ 0:=by have:=q.den_nz;omega
 have e1:(t4 qs:Int).fdiv (q.den:Int)=(e:Int):=by
  rw [he,Int.natCast_mul];exact t7 h0
 rw [e1,Int.natAbs_mul,Int.natAbs_natCast] at h1
 refine Nat.lt_of_le_of_lt (Nat.le_mul_of_pos_right _ ?_) h1
 rcases Nat.eq_zero_or_pos e with z | z
 ·rw [z] at he;omega
 ·exact z
theorem ClN.take {W:Nat} {qs:List Rat} (h:ClN W qs) (i:Nat):t4 (qs.take i) < 2 ^ W :=
 Nat.lt_of_le_of_lt (Nat.le_of_dvd (V1 qs) (ar6 fun q hq=>T6 (List.mem_of_mem_take hq))) h.l
theorem ClN.mono {V W:Nat} {qs:List Rat} (h:ClN V qs) (l:V≤W):ClN W qs:=⟨Nat.lt_of_lt_of_le h.l (h8 l),fun v hv=>Nat.lt_of_lt_of_le (h.w v hv) (h8 l)⟩
theorem aq5 (v:Int) (L:Nat):Rat.divInt 1 L * (v:Rat)=Rat.divInt v L:=by
 have h1:=Rat.num_divInt_den (v:Rat)
 rw [Rat.num_intCast,Rat.den_intCast] at h1
 conv=>lhs;rw [← h1]
 rw [Rat.divInt_mul_divInt]
 simp
theorem as4 (v:Int) {L:Nat} (h:0 < L):(Rat.divInt v L).den ∣ L:=by
 have hL:(L:Int) ≠ 0:=by omega
 obtain ⟨_,e2⟩:=aD9 (t:=v) (b:=(L:Int)) (g:=(Int.gcd v L:Int)) hL (by rw [if_neg (by omega)])
 obtain ⟨k,hk⟩:=Int.gcd_dvd_right v (L:Int)
 have hg:=ad4 (t:=v) hL
 have e3:(L:Int).fdiv (Int.gcd v L:Int)=k:=by
  conv=>lhs;arg 1;rw [hk]
  exact t7 (by omega)
 rw [e3] at e2
 have:((Rat.divInt v L).den:Int) ∣ (L:Int):=⟨_,by rw [Int.mul_comm,← e2];exact hk⟩
 exact Int.natCast_dvd_natCast.mp this
theorem aE7 (v:Int) {L:Nat} (h:0 < L):(Rat.divInt v L).num * L=v * ((Rat.divInt v L).den:Int):=by
 have hL:(L:Int) ≠ 0:=by omega
 have hd:((Rat.divInt v L).den:Int) ≠ 0:=by have:=(Rat.divInt v L).den_nz;omega
 exact (Rat.divInt_eq_divInt_iff hd hL).mp (Rat.num_divInt_den _)
theorem aX1 {L W:Nat} {vs:List Int} (hL0:0 < L) (hL:L < 2 ^ W) (hv:∀ v ∈ vs,Int.natAbs v < 2 ^ W):ClN W (scl (Rat.divInt 1 L) vs):=by
 have hd:t4 (scl (Rat.divInt 1 L) vs) ∣ L:=ar6 fun q hq=>by
  obtain ⟨v,_,rfl⟩:=List.mem_map.mp hq
  rw [aq5]
  exact as4 v hL0
 have hle:=Nat.le_of_dvd hL0 hd
 refine ⟨Nat.lt_of_le_of_lt hle hL,fun u hu=>?_⟩
 obtain ⟨q,hq,rfl⟩:=List.mem_map.mp hu
 obtain ⟨e,he⟩:=T6 hq
 have h0:(q.den:Int) ≠ 0:=by have:=q.den_nz;omega
 have e1:(t4 (scl (Rat.divInt 1 L) vs):Int).fdiv (q.den:Int)=(e:Int):=by
  rw [he,Int.natCast_mul];exact t7 h0
 obtain ⟨v,hvm,hvq⟩:=List.mem_map.mp hq
 rw [aq5] at hvq
 have hc:=aE7 v hL0
 rw [hvq] at hc
 have hc':q.num.natAbs * L=v.natAbs * q.den:=by
  have:=congrArg Int.natAbs hc
  rwa [Int.natAbs_mul,Int.natAbs_mul,Int.natAbs_natCast,Int.natAbs_natCast] at this
 rw [e1,Int.natAbs_mul,Int.natAbs_natCast]
 refine Nat.lt_of_le_of_lt ?_ (hv v hvm)
 have h2:(q.num.natAbs * e) * L≤v.natAbs * L:=by
  calc (q.num.natAbs * e) * L=(q.num.natAbs * L) * e:=by rw [Nat.mul_right_comm]
   _=v.natAbs * (q.den * e):=by rw [hc',Nat.mul_assoc]
   _≤v.natAbs * L:=Nat.mul_le_mul_left _ (by rw [← he];exact hle)
 exact Nat.le_of_mul_le_mul_right h2 hL0
open PySem L2 PyProof.Rows
structure bB5 (H:Hp) (p:Addr) (qs:List Rat):Prop where
 ex:∃ xs,H p=some (.lst xs)∧B4 H xs qs
 bd:∀ q ∈ qs,q.den < 2 ^ 6000
 len:qs.length < 900
 tl:T9 qs qs.length
inductive bj3 (H:Hp):List Addr→List (List Rat)→Prop where
 | nil:bj3 H [] []
 | cons {p:Addr} {ps:List Addr} {L:List Rat} {Ls:List (List Rat)} (h:bB5 H p L) (t:bj3 H ps Ls):bj3 H (p :: ps) (L :: Ls)
open PySem L2 PyProof.Rows
theorem W3 {α:Type} {l:List α} {i:Nat} {x:α} (h:l[i]? = some x):l.take (i + 1)=l.take i ++ [x]:=by rw [List.take_succ,h];rfl
theorem aK5 {qs:List Rat} (h:∀ x,qs[qs.length - 1]? = some x→x ≠ 0):T9 qs qs.length :=
 ⟨Nat.le_refl _,fun i q hi e=>(by rw [List.getElem?_eq_none hi] at e;cases e),fun _ q e=>h q e⟩
theorem v9.seq {K:PySem.W.Frag} {u:Addr} {H H':Hp} {b:Addr} {xs:List V} (s:v9 u H H') (hu:H u=none) (h:SqL K H b xs):SqL K H' b xs:=by
 rcases h with h | h
 ·rcases h with h | ⟨o,h⟩
  ·exact .inl (.inl (s _ _ h (i5 h hu)))
  ·exact .inl (.inr ⟨o,s _ _ h (i5 h hu)⟩)
 ·exact .inr h
theorem bk0 {qs:List Rat} {m:Nat} (h:T9 qs m):T9 (qs.take m) (qs.take m).length:=by
 have:=h.self
 rw [List.length_take,Nat.min_eq_left h.le];exact this
def aP8 (K:PySem.W.Frag):Sp:=fun vs H Q _ => ∃ (a:Addr) (ns:List Int),vs=[.ref a]∧SqL K H a (ns.map V.int)∧ns.length≤63∧∀ H',Q (.bl true) H'
structure ExT (K:PySem.W.Frag) (mg:Str→Option Value) (x:Str) (C:Addr):Prop where
 m:mg x=some (.ref C)
 ox:bq4 K C [.type "ValueError",.type "Exception",.type "BaseException",.type "object"] "ValueError.__new__"
 ec:D9 K C
structure CAd where
 c_NoFraction:Addr
 c_NoPolynomial:Addr
 c_NoStretch:Addr
 c_NoRow:Addr
 c_NoPair:Addr
 c_NoBack:Addr
 c_NoForm:Addr
 c_NoParts:Addr
 c_NoDegree:Addr
 c_NoSteps:Addr
 c_NoBox:Addr
 c_NoGain:Addr
 c_NoText:Addr
 c_NoLine:Addr
 c_NoName:Addr
 c_NoDeed:Addr
 c_RestError:Addr
structure XTx (K:PySem.W.Frag) (mg:Str→Option Value) (a:CAd):Prop where
 x_NoFraction:ExT K mg "NoFraction" a.c_NoFraction
 x_NoPolynomial:ExT K mg "NoPolynomial" a.c_NoPolynomial
 x_NoStretch:ExT K mg "NoStretch" a.c_NoStretch
 x_NoRow:ExT K mg "NoRow" a.c_NoRow
 x_NoPair:ExT K mg "NoPair" a.c_NoPair
 x_NoBack:ExT K mg "NoBack" a.c_NoBack
 x_NoForm:ExT K mg "NoForm" a.c_NoForm
 x_NoParts:ExT K mg "NoParts" a.c_NoParts
 x_NoDegree:ExT K mg "NoDegree" a.c_NoDegree
 x_NoSteps:ExT K mg "NoSteps" a.c_NoSteps
 x_NoBox:ExT K mg "NoBox" a.c_NoBox
 x_NoGain:ExT K mg "NoGain" a.c_NoGain
 x_NoText:ExT K mg "NoText" a.c_NoText
 x_NoLine:ExT K mg "NoLine" a.c_NoLine
 x_NoName:ExT K mg "NoName" a.c_NoName
 x_NoDeed:ExT K mg "NoDeed" a.c_NoDeed
structure bj6 (K:PySem.W.Frag) (a:CAd) (C:Addr) (j:Nat):Prop where
 k_NoFraction:PySem.W.kitOne K (.ref C) (.ref a.c_NoFraction)=some (decide (j=0))
 k_NoPolynomial:PySem.W.kitOne K (.ref C) (.ref a.c_NoPolynomial)=some (decide (j=1))
 k_NoStretch:PySem.W.kitOne K (.ref C) (.ref a.c_NoStretch)=some (decide (j=2))
 k_NoRow:PySem.W.kitOne K (.ref C) (.ref a.c_NoRow)=some (decide (j=3))
 k_NoPair:PySem.W.kitOne K (.ref C) (.ref a.c_NoPair)=some (decide (j=4))
 k_NoBack:PySem.W.kitOne K (.ref C) (.ref a.c_NoBack)=some (decide (j=5))
 k_NoForm:PySem.W.kitOne K (.ref C) (.ref a.c_NoForm)=some (decide (j=6))
 k_NoParts:PySem.W.kitOne K (.ref C) (.ref a.c_NoParts)=some (decide (j=7))
 k_NoDegree:PySem.W.kitOne K (.ref C) (.ref a.c_NoDegree)=some (decide (j=8))
 k_NoSteps:PySem.W.kitOne K (.ref C) (.ref a.c_NoSteps)=some (decide (j=9))
 k_NoBox:PySem.W.kitOne K (.ref C) (.ref a.c_NoBox)=some (decide (j=10))
 k_NoGain:PySem.W.kitOne K (.ref C) (.ref a.c_NoGain)=some (decide (j=11))
 k_NoText:PySem.W.kitOne K (.ref C) (.ref a.c_NoText)=some (decide (j=12))
 k_NoLine:PySem.W.kitOne K (.ref C) (.ref a.c_NoLine)=some (decide (j=13))
 k_NoName:PySem.W.kitOne K (.ref C) (.ref a.c_NoName)=some (decide (j=14))
 k_NoDeed:PySem.W.kitOne K (.ref C) (.ref a.c_NoDeed)=some (decide (j=15))
 kV:PySem.W.kitOne K (.ref C) (.type "ValueError")=some true
 ec:D9 K C
 ex:PySem.W.exmOne K (.ref C) (.ref a.c_RestError)=some true
def aM6 (j:Nat):Str:=[("fraction" : Str),"polynomial","stretch","row","pair","back","form","parts","degree","steps","box","gain","text","line","name","deed"].getD j ""
def aA8 (K:PySem.W.Frag) (a:CAd):Sp:=fun vs H Q _ => ∃ e C j,vs=[.ref e]∧bj6 K a C j∧j < 16∧H e=some (Exc (.ref C) e)∧∀ H',d9 H H'→Q (.str (aM6 j)) H'
def told (j:Nat):List V:=[V.bl (decide (j=0)),V.bl (decide (j=1)),V.bl (decide (j=2)),V.bl (decide (j=3))] ++ [V.bl (decide (j=4)),V.bl (decide (j=5)),V.bl (decide (j=6)),V.bl (decide (j=7))] ++ [V.bl (decide (j=8)),V.bl (decide (j=9)),V.bl (decide (j=10)),V.bl (decide (j=11))] ++ [V.bl (decide (j=12)),V.bl (decide (j=13)),V.bl (decide (j=14)),V.bl (decide (j=15))]
theorem aK4:∀ j,j < 16→(told j).countP (fun z=>eqV z (V.bl true))=1:=by decide
theorem aY6:∀ j,j < 16→(told j).findIdx? (fun z=>eqV z (V.bl true))=some j:=by decide
theorem aw1:∀ j,j < 16→(told j).all V2=true:=by decide
theorem al3:ad1 "fraction polynomial stretch row pair back form parts degree steps box gain text line name deed" " " = [("fraction" : Str),"polynomial","stretch","row","pair","back","form","parts","degree","steps","box","gain","text","line","name","deed"]:=by decide +kernel
theorem bn0 {j:Nat} (hj:j < 16):atI ((ad1 "fraction polynomial stretch row pair back form parts degree steps box gain text line name deed" " ").map V.str) (j:Int)=some (.str (aM6 j)):=by
 rw [al3]
 refine Z8 ?_
 have:∀ j,j < 16→((["fraction","polynomial","stretch","row","pair","back","form","parts","degree","steps","box","gain","text","line","name","deed"]:List Str).map V.str)[j]? = some (.str (aM6 j)):=by decide
 exact this j hj
theorem ac0 {ws:List Int} {i:Nat} {x:V} (h:(ws.map V.int)[i]? = some x):∃ v,ws[i]? = some v∧x=.int v:=by
 rw [List.getElem?_map] at h
 cases hw:ws[i]? with
 | none=>rw [hw] at h;cases h
 | some v=>rw [hw] at h;cases h;exact ⟨v,rfl,rfl⟩
open PySem L2 PyProof.Rows
def top (i:Nat):Stmt:=PySem.Challenge.pw_restward_k10_roots_counted.main.body.getD i (.Pass ⟨0,0,0,0⟩)
open PySem L2 PyProof.Rows
end R
namespace L2
open PySem PyProof.Rows
end L2
set_option maxRecDepth 100000
namespace R
open PySem L2 PyProof.Rows
mutual
def noU:D→Bool
 | .v _=>true
 | .tup ds=>bx8 ds
 | .lst ds=>(ds.length != 3) && bx8 ds
def bx8:List D→Bool
 | []=>true
 | d :: ds=>noU d && bx8 ds
end
end R
set_option maxRecDepth 100000
namespace L2
open PySem PyProof.Rows
end L2
namespace R
open PySem L2 PyProof.Rows
inductive Rws (H:Hp):List Addr→List (List Rat)→Prop where
 | nil:Rws H [] []
 | cons {p:Addr} {xs:List V} {ps:List Addr} {L:List Rat} {Ls:List (List Rat)} (h:H p=some (.lst xs)) (n:B4 H xs L) (t:Rws H ps Ls):Rws H (p :: ps) (L :: Ls)
structure TabAt (H:Hp) (D:Addr) (M:List (List Rat)) (H2:Hp):Prop where
 same:d9 H H2
 at':∃ ts:List Addr,H2 D=some (.lst (ts.map V.ref))∧(∀ t ∈ ts,H t=none∧t ≠ D)∧ts.Nodup∧Rws H2 ts M
structure RowAt (H:Hp) (D:Addr) (L:List Rat) (H2:Hp):Prop where
 same:d9 H H2
 at':∃ xs:List V,H2 D=some (.lst xs)∧B4 H2 xs L
def NmC (K:PySem.W.Frag) (H:Hp) (p:Addr) (q:Rat):Prop:=H p=some (.tup (B5 q)) ∨ ∀ H',SqT K H' p (B5 q)
theorem NmC.sqt {K:PySem.W.Frag} {H:Hp} {p:Addr} {q:Rat}:NmC K H p q→SqT K H p (B5 q)
 | .inl h=>SqT.of h
 | .inr h=>h H
theorem NmC.mono {K:PySem.W.Frag} {H H':Hp} {p:Addr} {q:Rat} (e:ag6 H H'):NmC K H p q→NmC K H' p q
 | .inl h=>.inl (e _ _ h)
 | .inr h=>.inr h
inductive T2 (K:PySem.W.Frag) (H:Hp):List V→List Rat→Prop where
 | nil:T2 K H [] []
 | cons {p:Addr} {q:Rat} {vs:List V} {qs:List Rat} (h:NmC K H p q) (t:T2 K H vs qs):T2 K H (.ref p :: vs) (q :: qs)
theorem T2.mono {K:PySem.W.Frag} {H H':Hp} (e:ag6 H H'):∀ {vs:List V} {qs:List Rat},T2 K H vs qs→T2 K H' vs qs
 | _,_,.nil=>.nil
 | _,_,.cons h t=>.cons (h.mono e) (t.mono e)
theorem T2.length {K:PySem.W.Frag} {H:Hp}:∀ {vs:List V} {qs:List Rat},T2 K H vs qs→vs.length=qs.length
 | _,_,.nil=>rfl
 | _,_,.cons _ t=>congrArg (· + 1) t.length
theorem T2.getV {K:PySem.W.Frag} {H:Hp}:∀ {vs:List V} {qs:List Rat} {i:Nat} {v:V},T2 K H vs qs→vs[i]? = some v→∃ p q,v=.ref p∧qs[i]? = some q∧NmC K H p q
 | _,_,_,_,.nil,e=>by simp at e
 | _,_,0,_,.cons h t,e=>by cases e;exact ⟨_,_,rfl,rfl,h⟩
 | _,_,i + 1,_,.cons _ t,e=>t.getV (i:=i) (by simpa using e)
theorem B4.toC {K:PySem.W.Frag} {H:Hp}:∀ {vs:List V} {qs:List Rat},B4 H vs qs→T2 K H vs qs
 | _,_,.nil=>.nil
 | _,_,.cons h t=>.cons (.inl h) t.toC
inductive bq2 (K:PySem.W.Frag) (H:Hp):List Addr→List (List Rat)→Prop where
 | nil:bq2 K H [] []
 | cons {p:Addr} {xs:List V} {ps:List Addr} {L:List Rat} {Ls:List (List Rat)} (h:H p=some (.lst xs)) (n:T2 K H xs L) (t:bq2 K H ps Ls):bq2 K H (p :: ps) (L :: Ls)
structure TabC (K:PySem.W.Frag) (H:Hp) (D:Addr) (M:List (List Rat)) (H2:Hp):Prop where
 same:d9 H H2
 at':∃ ts:List Addr,H2 D=some (.lst (ts.map V.ref))∧(∀ t ∈ ts,H t=none∧t ≠ D)∧ts.Nodup∧bq2 K H2 ts M
structure RowC (K:PySem.W.Frag) (H:Hp) (D:Addr) (L:List Rat) (H2:Hp):Prop where
 same:d9 H H2
 at':∃ xs:List V,H2 D=some (.lst xs)∧T2 K H2 xs L
theorem Z5 {n:Nat} (h:n≤100):n < sizeLine:=Nat.lt_of_le_of_lt h (by decide)
def ClA (D:Addr) (H:Hp) (v:V) (p:List Rat):Prop:=∃ r l,v=.ref r∧H r=some (.tup [.ref l,.int (t4 p)])∧H l=some (.lst ((p7 (t4 p) p).map V.int))∧l ≠ D
inductive ClL (D:Addr) (H:Hp):List V→List (List Rat)→Prop where
 | nil:ClL D H [] []
 | cons {v:V} {p:List Rat} {vs:List V} {ps:List (List Rat)} (h:ClA D H v p) (t:ClL D H vs ps):ClL D H (v :: vs) (p :: ps)
structure ClR (H:Hp) (D:Addr) (M:List (List Rat)) (H2:Hp):Prop where
 same:d9 H H2
 at':∃ vs:List V,H2 D=some (.lst vs)∧ClL D H2 vs M
def bt4:List D→Bool
 | [.v (.int _),.v (.int _),.v (.int _)]=>true
 | _=>false
mutual
def noW:D→Bool
 | .v _=>true
 | .tup ds=>bx7 ds
 | .lst ds => !bt4 ds && bx7 ds
def bx7:List D→Bool
 | []=>true
 | d :: ds=>noW d && bx7 ds
end
mutual
def smD (m:Nat):D→Prop
 | .v (.int i)=>i.natAbs < 2 ^ m
 | .v _=>True
 | .tup ds=>bu6 m ds
 | .lst ds=>bu6 m ds
def bu6 (m:Nat):List D→Prop
 | []=>True
 | d :: ds=>smD m d∧bu6 m ds
end
def S8 (p q:Rat):Bool:=decide (p.num * (q.den:Int) < q.num * (p.den:Int))
structure IsBox (B:List (Rat × Rat)):Prop where
 l2:2≤B.length
 l8:B.length≤8
 le:∀ s ∈ B,s.1≤s.2
 last:∀ s,B[B.length - 1]? = some s→0 < s.1
def zs (t b a:Int):List Int→List Int
 | []=>[b * a]
 | x :: r=>(b * a + t * x) :: zs t b x r
structure MidN (n:Nat) (R:List Rat):Prop where
 ex:∃ (B:Nat) (ws:List Int),0 < B∧B < 2 ^ (40 * n + 1)∧R=scl (Rat.divInt 1 B) ws∧∀ v ∈ ws,Int.natAbs v < 2 ^ (41 * n + 1)
 len:R.length=n + 1
 last:R[n]? = some 1
theorem BdN.neg {m:Nat} {q:Rat} (b:BdN m q):BdN m (-q):=⟨by rw [Rat.neg_num,Int.natAbs_neg];exact b.n,by rw [Rat.neg_den];exact b.d⟩
theorem BdN.sub {m n:Nat} {p q:Rat} (a:BdN m p) (b:BdN n q):BdN (m + n + 1) (p - q):=by
 rw [Rat.sub_eq_add_neg];exact a.add b.neg
inductive bj1 (H:Hp):List V→List (Rat × Rat)→Prop where
 | nil:bj1 H [] []
 | cons {p a b:Addr} {s:Rat × Rat} {vs:List V} {B:List (Rat × Rat)} (h:H p=some (.tup [.ref a,.ref b])) (ha:H a=some (.tup (B5 s.1))) (hb:H b=some (.tup (B5 s.2))) (t:bj1 H vs B):bj1 H (.ref p :: vs) (s :: B)
def Y4 (a b:Str):D:=.tup [.v (.str a),.v (.str b)]
theorem aJ6 (a b:Str):eqD (Y4 a b) (Y4 a b)=true:=by simp [Y4,eqD,O9,eqV]
theorem aI3 (a b c d:Str):okD (Y4 a b) (Y4 c d)=true:=by simp [Y4,okD,ad8]
theorem aS5 (a b:Str):dpD (Y4 a b)≤60:=by simp [Y4,dpD,ag0]
theorem ai0 {K:PySem.W.Frag} {H:Hp} {p:Addr} {a b:Str} (h:SqT K H p [.str a,.str b]):IsD K H (.ref p) (Y4 a b):=.tup h (.cons (.v rfl) (.cons (.v rfl) .nil))
structure TbX (u:Addr) (H:Hp) (a:Addr) (ts:List Addr) (M:List (List Rat)):Prop where
 au:a ≠ u
 tu:∀ t ∈ ts,t ≠ u
 at':H a=some (.lst (ts.map V.ref))
 rws:Rws H ts M
structure LsX (u:Addr) (H:Hp) (a:Addr) (xs:List V) (qs:List Rat):Prop where
 au:a ≠ u
 at':H a=some (.lst xs)
 nums:B4 H xs qs
def hc (a:Nat→Rat) (i j:Nat):Rat:=if (i + j) % 2=1 then a i * a j else 0
def hf (a:Nat→Rat):Nat→Nat→Rat
 | 0,j=>hc a 0 (j + 1)
 | i + 1,j=>hc a (i + 1) (j + 1) - hf a i (j + 1)
def pw (x:Rat):Nat→Rat
 | 0=>1
 | i + 1=>pw x i * x
theorem G3 (c:Rat) (f:Nat→Rat):∀ n,c * j4 f n=j4 (fun i=>c * f i) n
 | 0=>by simp [j4]
 | n + 1=>by rw [j4,j4,← G3 c f n];grind
theorem P2 (f g:Nat→Rat):∀ n,j4 f n + j4 g n=j4 (fun i=>f i + g i) n
 | 0=>by simp [j4];grind
 | n + 1=>by rw [j4,j4,j4,← P2 f g n];grind
def hR (a:Nat→Rat) (n i:Nat) (y:Rat):Rat:=j4 (fun j=>hf a i j * pw y j) n
def hC (a:Nat→Rat) (n i:Nat) (y:Rat):Rat:=j4 (fun j=>hc a i j * pw y j) (n + 1)
def sg (i:Nat):Rat:=if i % 2=0 then 1 else -1
def OvB (B W:Nat) (q:Rat):Prop:=∃ v:Int,q=Rat.divInt v B∧v.natAbs < 2 ^ W
theorem OvB.mono {B V W:Nat} {q:Rat} (h:OvB B V q) (l:V≤W):OvB B W q:=let ⟨v,e,b⟩:=h;⟨v,e,Nat.lt_of_lt_of_le b (h8 l)⟩
theorem OvB.zero (B W:Nat):OvB B W 0:=⟨0,by rw [Rat.zero_divInt],Nat.two_pow_pos _⟩
theorem OvB.mul {B C V W:Nat} {p q:Rat} (h:OvB B V p) (k:OvB C W q):OvB (B * C) (V + W) (p * q):=by
 obtain ⟨v,rfl,b⟩:=h
 obtain ⟨u,rfl,c⟩:=k
 refine ⟨v * u,by rw [Rat.divInt_mul_divInt,Int.natCast_mul],?_⟩
 rw [Int.natAbs_mul,Nat.pow_add]
 exact Nat.mul_lt_mul'' b c
theorem OvB.neg {B W:Nat} {q:Rat} (h:OvB B W q):OvB B W (-q):=by
 obtain ⟨v,rfl,b⟩:=h
 exact ⟨-v,by rw [Rat.neg_divInt],by rw [Int.natAbs_neg];exact b⟩
theorem OvB.add {B W:Nat} (hB:0 < B) {p q:Rat} (h:OvB B W p) (k:OvB B W q):OvB B (W + 1) (p + q):=by
 obtain ⟨v,rfl,b⟩:=h
 obtain ⟨u,rfl,c⟩:=k
 refine ⟨v + u,?_,?_⟩
 ·have hz:(B:Int) ≠ 0:=by omega
  rw [Rat.divInt_add_divInt _ _ hz hz]
  refine (Rat.divInt_eq_divInt_iff (Int.mul_ne_zero hz hz) hz).mpr ?_
  grind
 ·have:=Int.natAbs_add_le v u
  rw [Nat.pow_succ];omega
theorem ar7 {α:Type} {xs:List α} {x:α} (h:xs[xs.length - 1]? = some x):atI xs (-1)=some x:=by
 have hp:xs.length - 1 < xs.length:=(List.getElem?_eq_some_iff.mp h).1
 have e:ixN xs.length (-1)=some (xs.length - 1):=by
  unfold ixN
  rw [if_neg (by decide)]
  rw [if_pos (by omega)]
  congr 1
  omega
 unfold atI
 rw [e]
 exact h
def aQ (qs:List Rat) (k:Nat):Rat:=(qs[k]?).getD 0
def aZ (ws:List Int) (k:Nat):Int:=(ws[k]?).getD 0
theorem bB3 (s:Rat) (ws:List Int):aQ (scl s ws)=fun k=>s * (aZ ws k:Rat):=by
 funext k
 unfold aQ aZ scl
 rw [List.getElem?_map]
 cases ws[k]? with
 | none=>simp [Rat.intCast_zero]
 | some v=>simp
theorem am3 {ws:List Int} {W:Nat} (h:∀ v ∈ ws,Int.natAbs v < 2 ^ W):∀ k,(aZ ws k).natAbs < 2 ^ W:=fun k=>by
 unfold aZ
 cases q:ws[k]? with
 | none=>exact Nat.two_pow_pos _
 | some v=>exact h v (List.mem_of_getElem? q)
theorem az5 {α:Type} [Add α]:∀ (f:List α) (k:Nat) (x v:α),v ∈ Y5 f k x→v ∈ f ∨ ∃ y ∈ f,v=y + x
 | [],_,_,_,h=>by cases h
 | y :: r,0,x,v,h=>by
  rcases List.mem_cons.mp h with z | z
  ·exact .inr ⟨y,List.mem_cons_self,z⟩
  ·exact .inl (List.mem_cons_of_mem _ z)
 | y :: r,k + 1,x,v,h=>by
  rcases List.mem_cons.mp h with z | z
  ·exact .inl (by rw [z];exact List.mem_cons_self)
  ·rcases az5 r k x v z with w | ⟨u,hu,e⟩
   ·exact .inl (List.mem_cons_of_mem _ w)
   ·exact .inr ⟨u,List.mem_cons_of_mem _ hu,e⟩
theorem aX6 {B W:Nat} (hB:0 < B) {f:List Rat} {k:Nat} {x:Rat} (hf:∀ v ∈ f,OvB B W v) (hx:OvB B W x):∀ v ∈ Y5 f k x,OvB B (W + 1) v:=fun v hv=>by
 rcases az5 f k x v hv with h | ⟨y,hy,rfl⟩
 ·exact (hf v h).mono (by omega)
 ·exact (hf y hy).add hB hx
def cv (f g:Nat→Rat) (k:Nat):Rat:=j4 (fun i=>f i * g (k - i)) (k + 1)
theorem bq0 (p q:List Rat) (k:Nat):aQ (V4 p q) k=cv (aQ p) (aQ q) k:=by
 by_cases hp:p=[]
 ·subst hp
  have:V4 [] q=[]:=by unfold V4;rw [if_pos (.inl rfl)]
  rw [this]
  symm
  exact z5 _ fun i _=>by show (0:Rat) * _=0;grind
 by_cases hq:q=[]
 ·subst hq
  have:V4 p []=[]:=by unfold V4;rw [if_pos (.inr rfl)]
  rw [this]
  symm
  exact z5 _ fun i _=>by show _ * (0:Rat)=0;grind
 by_cases hk:k < p.length + q.length - 1
 ·have:=bd3 hp hq hk
  unfold aQ
  rw [this];rfl
 ·have h1:aQ (V4 p q) k=0:=by
   unfold aQ
   rw [List.getElem?_eq_none (by rw [bd2 hp hq];omega)];rfl
  rw [h1]
  symm
  refine z5 _ fun i hi=>?_
  by_cases h2:i < p.length
  ·have:aQ q (k - i)=0:=by unfold aQ;rw [List.getElem?_eq_none (by omega)];rfl
   rw [this];grind
  ·have:aQ p i=0:=by unfold aQ;rw [List.getElem?_eq_none (by omega)];rfl
   rw [this];grind
theorem bp9 {qs:List Rat} {m:Nat} (t:T9 qs m) (k:Nat):aQ (qs.take m) k=aQ qs k:=by
 unfold aQ
 rw [List.getElem?_take]
 split
 ·rfl
 ·cases h:qs[k]? with
  | none=>rfl
  | some v=>rw [t.zero k v (by omega) h];rfl
theorem ak6 (f g h:Nat→Rat) (k:Nat):cv (fun i=>f i + g i) h k=cv f h k + cv g h k:=by
 unfold cv
 rw [P2]
 exact i8 fun i _=>by grind
theorem as5 (c:Rat) (f h:Nat→Rat) (k:Nat):cv (fun i=>c * f i) h k=c * cv f h k:=by
 unfold cv
 rw [G3]
 exact i8 fun i _=>by grind
theorem N6 (g:Nat→Rat) (t:Nat):∀ n,j4 (fun i=>if i=t then g i else 0) n=if t < n then g t else 0
 | 0=>by rw [if_neg (by omega)];rfl
 | n + 1=>by
  rw [j4,N6 g t n]
  by_cases h:t < n
  ·rw [if_pos h,if_neg (by omega),if_pos (by omega)];grind
  ·by_cases h2:n=t
   ·rw [if_neg h,if_pos h2,if_pos (by omega),h2];grind
   ·rw [if_neg h,if_neg h2,if_neg (by omega)];grind
theorem ak4 (d:Rat) (t:Nat) (h:Nat→Rat) (k:Nat):cv (fun i=>if i=t then d else 0) h k=if t≤k then d * h (k - t) else 0:=by
 unfold cv
 have:j4 (fun i=>(if i=t then d else 0) * h (k - i)) (k + 1)=j4 (fun i=>if i=t then d * h (k - i) else 0) (k + 1):=i8 fun i _=>by split <;> grind
 rw [this,N6]
 by_cases e:t≤k
 ·rw [if_pos (by omega),if_pos e]
 ·rw [if_neg (by omega),if_neg e]
def zc (ws:List Int) (k:Nat):Rat:=(aZ ws k:Rat)
theorem ar9 (f:List Int) (i:Nat) (x:Int) (q:List Int) {k:Nat} (y:Int) (hy:f[k]? = some y):∀ j,(C5 0 f i x q j)[k]? = some (y + if i≤k∧k < i + j then x * (q[k - i]?).getD 0 else 0)
 | 0=>by
  rw [C5,hy,if_neg (by omega)];congr 1;omega
 | j + 1=>by
  have ih:=ar9 f i x q y hy j
  rw [C5]
  by_cases e:k=i + j
  ·subst e
   rw [ag5 _ _ _ _ ih,if_neg (by omega),if_pos (by omega),show i + j - i=j by omega]
   congr 1;omega
  ·rw [ac4 _ _ _ _ e,ih]
   by_cases h:i≤k∧k < i + j
   ·rw [if_pos h,if_pos (by omega)]
   ·rw [if_neg h,if_neg (by omega)]
structure A8 (ws:List Int) (m:Nat):Prop where
 le:m≤ws.length
 zero:∀ i v,m≤i→ws[i]? = some v→v=0
 last:m ≠ 0→∀ v,ws[m - 1]? = some v→v ≠ 0
theorem aT4 {ws:List Int} {m:Nat} (t:A8 ws m) (k:Nat):aZ (ws.take m) k=aZ ws k:=by
 unfold aZ
 rw [List.getElem?_take]
 split
 ·rfl
 ·cases h:ws[k]? with
  | none=>rfl
  | some v=>rw [t.zero k v (by omega) h];rfl
theorem A8.self {ws:List Int} {m:Nat} (t:A8 ws m):A8 (ws.take m) (ws.take m).length:=by
 have hm:(ws.take m).length=m:=by rw [List.length_take];have:=t.le;omega
 refine ⟨Nat.le_refl _,fun i v hi h=>?_,fun hn v h=>?_⟩
 ·rw [List.getElem?_eq_none hi] at h;cases h
 ·rw [hm] at hn h
  rw [List.getElem?_take,if_pos (by omega)] at h
  exact t.last hn v h
def Dv (one other Q R:List Int) (many:Int):Prop:=∀ k,(many:Rat) * zc one k=cv (zc Q) (zc other) k + zc R k
theorem bo8 {one other Q R R':List Int} {many c d:Int} {t:Nat} (h:Dv one other Q R many) (ht:t < Q.length) (hQ:aZ Q t=0) (hR:∀ k,aZ R' k=c * aZ R k - if t≤k then d * aZ other (k - t) else 0) :
  Dv one other ((Q.map (c * ·)).set t d) R' (many * c):=by
 intro k
 have e1:zc ((Q.map (c * ·)).set t d)=fun i=>(c:Rat) * zc Q i + if i=t then (d:Rat) else 0:=by
  funext i
  unfold zc aZ
  rw [List.getElem?_set]
  by_cases z:t=i
  ·subst z
   rw [if_pos rfl,if_pos (by rw [List.length_map];exact ht),if_pos rfl]
   unfold aZ at hQ
   rw [hQ,Rat.intCast_zero]
   simp only [Option.getD_some]
   grind
  ·rw [if_neg z,if_neg (fun w=>z w.symm),List.getElem?_map]
   cases Q[i]? with
   | none=>simp [Rat.intCast_zero];grind
   | some v=>simp [Rat.intCast_mul];grind
 have e2:zc R' k=(c:Rat) * zc R k - if t≤k then (d:Rat) * zc other (k - t) else 0:=by
  unfold zc
  rw [hR k,Rat.intCast_sub,Rat.intCast_mul]
  split
  ·rw [Rat.intCast_mul]
  ·rw [Rat.intCast_zero]
 rw [e1,ak6 (fun i=>(c:Rat) * zc Q i) (fun i=>if i=t then (d:Rat) else 0),as5,ak4,e2,Rat.intCast_mul]
 have:=h k
 have e3:(many:Rat) * (c:Rat) * zc one k=(c:Rat) * ((many:Rat) * zc one k):=by grind
 rw [e3,this]
 grind
theorem aX2 {B W:Nat} (hB:0 < B) (hW:B < 2 ^ W) {qs:List Rat} (h:∀ x ∈ qs,OvB B W x):ClN W qs:=by
 have:∃ vs:List Int,qs=scl (Rat.divInt 1 B) vs∧∀ v ∈ vs,Int.natAbs v < 2 ^ W:=by
  induction qs with
  | nil=>exact ⟨[],rfl,by simp⟩
  | cons q qs ih =>
   obtain ⟨vs,e,hv⟩:=ih fun x hx=>h x (List.mem_cons_of_mem _ hx)
   obtain ⟨v,e2,b⟩:=h q List.mem_cons_self
   refine ⟨v :: vs,?_,fun u hu=>?_⟩
   ·rw [e]
    show q :: _=(Rat.divInt 1 B * (v:Rat)) :: _
    rw [aq5,← e2];rfl
   ·rcases List.mem_cons.mp hu with z | z
    ·rw [z];exact b
    ·exact hv u z
 obtain ⟨vs,rfl,hv⟩:=this
 exact aX1 hB hW hv
def bE7 (u:Addr) (H:Hp) (v:V) (ps qs:List Rat):Prop:=v=.non ∨ ∃ td l1 l2 zs1 zs2 g0 g1,v=.ref td∧td ≠ u∧H td=some (.tup [.ref l1,.ref l2])∧LsX u H l1 zs1 g0∧LsX u H l2 zs2 g1∧T9 g0 g0.length∧T9 g1 g1.length∧g1.length < qs.length∧∀ k,aQ ps k=cv (aQ qs) (aQ g0) k + aQ g1 k
structure PairOk (u:Addr) (H:Hp) (ap aq:Addr) (due:V) (xs ys:List V) (ps qs:List Rat) (S W1 W2:Nat):Prop where
 lp:LsX u H ap xs ps
 lq:LsX u H aq ys qs
 tp:T9 ps ps.length
 tq:T9 qs qs.length
 q0:qs ≠ []
 c1:ClN W1 ps
 c2:ClN W2 qs
 w1:1≤W1
 w2:1≤W2
 w3:W2≤690
 t:W1 + S * (W2 + 1) + W2≤2300
 s:ps.length + 1≤qs.length + S
 pl:ps.length≤16
 ql:qs.length≤16
 due:bE7 u H due ps qs
theorem aR3 {B W:Nat} (hB:0 < B) {f:Nat→Rat} (h:∀ i,OvB B W (f i)):∀ n,OvB B (W + n) (j4 f n)
 | 0=>OvB.zero _ _
 | n + 1=>((aR3 hB h n).add hB ((h n).mono (by omega))).mono (by omega)
theorem php:∀ (m n:Nat) (f:Nat→Nat),(∀ i,i < n→f i < m)→m < n→∃ i j,i < j∧j < n∧f i=f j
 | 0,n,f,hf,h=>absurd (hf 0 h) (by omega)
 | m + 1,0,f,hf,h=>by omega
 | m + 1,n + 1,f,hf,h=>by
  by_cases c:∃ i,i < n∧f i=f n
  ·obtain ⟨i,hi,e⟩:=c
   exact ⟨i,n,hi,by omega,e⟩
  ·have hn:=hf n (by omega)
   have ne:∀ i,i < n→f i ≠ f n:=fun i hi e=>c ⟨i,hi,e⟩
   obtain ⟨i,j,h1,h2,h3⟩:=php m n (fun i=>if f i < f n then f i else f i - 1) (fun i hi=>by
    have:=hf i (by omega)
    have:=ne i hi
    show (if f i < f n then f i else f i - 1) < m
    split <;> omega) (by omega)
   refine ⟨i,j,h1,by omega,?_⟩
   have a:=ne i (by omega)
   have b:=ne j h2
   split at h3 <;> split at h3 <;> omega
def cod (b:Nat) (y:Nat→Nat):Nat→Nat
 | 0=>0
 | M + 1=>y 0 + b * cod b (fun e=>y (e + 1)) M
def dig (b t:Nat):Nat→Nat
 | 0=>t % b
 | i + 1=>dig b (t / b) i
theorem aE8 {b:Nat} (hb:0 < b):∀ i t,dig b t i < b
 | 0,t=>Nat.mod_lt _ hb
 | i + 1,t=>aE8 hb i (t / b)
theorem aF7 {b:Nat} (hb:0 < b):∀ N t,t < b ^ N→cod b (dig b t) N=t
 | 0,t,h=>by simp at h;rw [h];rfl
 | N + 1,t,h=>by
  have h1:t / b < b ^ N:=by rw [Nat.pow_succ] at h;exact Nat.div_lt_of_lt_mul (by rw [Nat.mul_comm];exact h)
  have ih:=aF7 hb N (t / b) h1
  show t % b + b * cod b (dig b (t / b)) N=t
  rw [ih]
  exact Nat.mod_add_div t b
theorem bh9 {b:Nat}:∀ M (y:Nat→Nat),(∀ e,e < M→y e < b)→cod b y M < b ^ M
 | 0,y,h=>by simp [cod]
 | M + 1,y,h=>by
  have ih:=bh9 M (fun e=>y (e + 1)) fun e he=>h (e + 1) (by omega)
  have h0:=h 0 (by omega)
  show y 0 + b * cod b (fun e=>y (e + 1)) M < b ^ (M + 1)
  rw [Nat.pow_succ,Nat.mul_comm (b ^ M)]
  have:b * (cod b (fun e=>y (e + 1)) M + 1)≤b * b ^ M:=Nat.mul_le_mul_left _ ih
  rw [Nat.mul_add] at this
  omega
theorem aT0 {b:Nat} (hb:0 < b):∀ M (y z:Nat→Nat),(∀ e,e < M→y e < b)→(∀ e,e < M→z e < b)→cod b y M=cod b z M→∀ e,e < M→y e=z e
 | 0,_,_,_,_,_,e,he=>by omega
 | M + 1,y,z,hy,hz,h,e,he=>by
  have h':y 0 + b * cod b (fun e=>y (e + 1)) M=z 0 + b * cod b (fun e=>z (e + 1)) M:=h
  have y0:=hy 0 (by omega)
  have z0:=hz 0 (by omega)
  have m1:=congrArg (· % b) h'
  simp only [Nat.add_mul_mod_self_left,Nat.mod_eq_of_lt y0,Nat.mod_eq_of_lt z0] at m1
  have m2:cod b (fun e=>y (e + 1)) M=cod b (fun e=>z (e + 1)) M:=by
   rw [m1] at h'
   exact Nat.eq_of_mul_eq_mul_left hb (by omega)
  cases e with
  | zero=>exact m1
  | succ e=>exact aT0 hb M (fun e=>y (e + 1)) (fun e=>z (e + 1)) (fun e he=>hy (e + 1) (by omega)) (fun e he=>hz (e + 1) (by omega)) m2 e (by omega)
def sZ (f:Nat→Int):Nat→Int
 | 0=>0
 | n + 1=>sZ f n + f n
theorem ba5 (f g:Nat→Int):∀ n,sZ (fun i=>f i - g i) n=sZ f n - sZ g n
 | 0=>rfl
 | n + 1=>by rw [sZ,ba5 f g n,sZ,sZ];omega
theorem ap9 {f g:Nat→Int}:∀ {n},(∀ i,i < n→f i=g i)→sZ f n=sZ g n
 | 0,_=>rfl
 | n + 1,h=>by rw [sZ,sZ,ap9 fun i hi=>h i (by omega),h n (by omega)]
theorem aQ5 {f:Nat→Int} {C:Nat}:∀ {n},(∀ i,i < n→(f i).natAbs≤C)→(sZ f n).natAbs≤n * C
 | 0,_=>by simp [sZ]
 | n + 1,h=>by
  have ih:=aQ5 (n:=n) fun i hi=>h i (by omega)
  have h1:=h n (by omega)
  rw [sZ,Nat.succ_mul]
  omega
theorem ba2 (A:Nat→Nat→Int) {M N B:Nat} (hA:∀ e,e < M→∀ i,i < N→(A e i).natAbs≤B) (hN:M < N) (hB:1≤B) :
  ∃ d:Nat→Int,(∃ i,i < N∧d i ≠ 0)∧(∀ i,i < N→(d i).natAbs≤(2 * N * B) ^ M)∧∀ e,e < M→sZ (fun i=>A e i * d i) N=0:=by
 obtain ⟨c,hc⟩:∃ c,c=2 * N * B:=⟨_,rfl⟩
 have c1:1≤c:=by
  rw [hc]
  have:1 * 1≤2 * N * B:=Nat.mul_le_mul (by omega) hB
  omega
 obtain ⟨X,hX⟩:∃ X,X=c ^ M:=⟨_,rfl⟩
 have hb:0 < c * (X + 1):=Nat.mul_pos (by omega) (by omega)
 obtain ⟨L,hL⟩:∃ L:Nat→Nat→Int,∀ t e,L t e=sZ (fun i=>A e i * (dig (X + 1) t i:Int)) N:=⟨_,fun _ _=>rfl⟩
 have Lb:∀ t e,e < M→(L t e).natAbs≤N * (B * X):=fun t e he=>by
  rw [hL]
  refine aQ5 fun i hi=>?_
  rw [Int.natAbs_mul,Int.natAbs_natCast]
  have:=aE8 (b:=X + 1) (by omega) i t
  exact Nat.mul_le_mul (hA e he i hi) (by omega)
 have yb:∀ t e,e < M→(L t e + (N * (B * X):Nat)).toNat < c * (X + 1):=fun t e he=>by
  have:=Lb t e he
  have e1:c * (X + 1)=2 * (N * (B * X)) + c:=by
   rw [hc,Nat.mul_add,Nat.mul_one]
   have:2 * N * B * X=2 * (N * (B * X)):=by rw [Nat.mul_assoc,Nat.mul_assoc]
   omega
  omega
 have big:(c * (X + 1)) ^ M < (X + 1) ^ N:=by
  rw [Nat.mul_pow]
  have h1:c ^ M * (X + 1) ^ M < (X + 1) * (X + 1) ^ M:=Nat.mul_lt_mul_of_pos_right (by omega) (Nat.pow_pos (by omega))
  have h2:(X + 1) * (X + 1) ^ M=(X + 1) ^ (M + 1):=by rw [Nat.pow_succ,Nat.mul_comm]
  have h3:(X + 1) ^ (M + 1)≤(X + 1) ^ N:=Nat.pow_le_pow_right (by omega) (by omega)
  omega
 obtain ⟨t1,t2,h12,h2n,he⟩:=php _ _ (fun t=>cod (c * (X + 1)) (fun e=>(L t e + (N * (B * X):Nat)).toNat) M) (fun t _=>bh9 M _ fun e he=>yb t e he) big
 have heq:∀ e,e < M→L t1 e=L t2 e:=fun e hee=>by
  have:=aT0 hb M _ _ (fun e he=>yb t1 e he) (fun e he=>yb t2 e he) he e hee
  have b1:=Lb t1 e hee
  have b2:=Lb t2 e hee
  omega
 refine ⟨fun i=>(dig (X + 1) t1 i:Int) - (dig (X + 1) t2 i:Int),?_,fun i hi=>?_,fun e hee=>?_⟩
 ·refine Classical.byContradiction fun z=>?_
  have alle:∀ i,i < N→dig (X + 1) t1 i=dig (X + 1) t2 i:=fun i hi=>by
   refine Classical.byContradiction fun w=>z ⟨i,hi,?_⟩
   show (dig (X + 1) t1 i:Int) - (dig (X + 1) t2 i:Int) ≠ 0
   omega
  have cc:∀ (N:Nat) (y z:Nat→Nat),(∀ i,i < N→y i=z i)→cod (X + 1) y N=cod (X + 1) z N:=by
   intro N
   induction N with
   | zero=>intro _ _ _;rfl
   | succ N ih=>intro y z h;show y 0 + _ * _=z 0 + _ * _;rw [h 0 (by omega),ih _ _ fun i hi=>h (i + 1) (by omega)]
  have e1:=aF7 (b:=X + 1) (by omega) N t1 (by omega)
  have e2:=aF7 (b:=X + 1) (by omega) N t2 h2n
  rw [cc N _ _ alle] at e1
  omega
 ·have d1:=aE8 (b:=X + 1) (by omega) i t1
  have d2:=aE8 (b:=X + 1) (by omega) i t2
  show ((dig (X + 1) t1 i:Int) - (dig (X + 1) t2 i:Int)).natAbs≤(2 * N * B) ^ M
  rw [← hc,← hX]
  omega
 ·have:=heq e hee
  rw [hL,hL] at this
  have e2:sZ (fun i=>A e i * ((dig (X + 1) t1 i:Int) - (dig (X + 1) t2 i:Int))) N=sZ (fun i=>A e i * (dig (X + 1) t1 i:Int) - A e i * (dig (X + 1) t2 i:Int)) N:=ap9 fun i _=>by rw [Int.mul_sub]
  rw [e2,ba5,this];omega
theorem ac2 (f g:Nat→Rat) (k:Nat):cv f g (k + 1)=f 0 * g (k + 1) + cv (fun i=>f (i + 1)) g k:=by
 unfold cv
 rw [K0]
 congr 1
 exact i8 fun i _=>by rw [show k + 1 - (i + 1)=k - i by omega]
theorem O5 (f g:Nat→Rat) (k:Nat):cv f g k=cv g f k:=by
 unfold cv
 rw [ae0]
 exact i8 fun i hi=>by
  rw [show k + 1 - 1 - i=k - i by omega,show k - (k - i)=i by omega];grind
theorem as7 {f g h l:Nat→Rat} {k:Nat} (a:∀ i,i≤k→f i=g i) (b:∀ i,i≤k→h i=l i):cv f h k=cv g l k :=
 i8 fun i hi=>by rw [a i (by omega),b (k - i) (by omega)]
theorem ak5 (f g:Nat→Rat):cv f g 0=f 0 * g 0:=by
 show (0:Rat) + f 0 * g 0=_
 grind
theorem as8:∀ (k:Nat) (f g h:Nat→Rat),cv (cv f g) h k=cv f (cv g h) k
 | 0,f,g,h=>by rw [ak5,ak5,ak5,ak5];grind
 | k + 1,f,g,h=>by
  rw [ac2,ac2 f]
  have e1:cv (fun i=>cv f g (i + 1)) h k=cv (fun i=>f 0 * g (i + 1) + cv (fun i=>f (i + 1)) g i) h k:=as7 (fun i _=>ac2 f g i) fun _ _=>rfl
  rw [e1,ak6 (fun i=>f 0 * g (i + 1)) (cv (fun i=>f (i + 1)) g),as5 (f 0) (fun i=>g (i + 1)),as8 k,ac2 g]
  rw [ak5];grind
theorem aF2 {f:Nat→Rat} (h:∀ k,f k=0) (g:Nat→Rat) (k:Nat):cv f g k=0:=z5 _ fun i _=>by rw [h];grind
def Dg (f:Nat→Rat) (n:Nat):Prop:=∀ k,n≤k→f k=0
theorem Dg.cv {f g:Nat→Rat} {m n:Nat} (hf:Dg f m) (hg:Dg g n):Dg (cv f g) (m + n - 1):=fun k hk=>z5 _ fun i hi=>by
 by_cases h:m≤i
 ·rw [hf i h];grind
 ·rw [hg (k - i) (by omega)];grind
theorem aE9 {f B:Nat→Rat} {nf n N:Nat} (hf:Dg f nf) (hB:Dg B (n + 1)) (hn:B n ≠ 0) (h:Dg (cv f B) N):Dg f (N - n):=by
 have key:∀ j,∀ k,nf - j≤k→N - n≤k→f k=0:=by
  intro j
  induction j with
  | zero=>intro k hk _;exact hf k (by omega)
  | succ j ih =>
   intro k hk hN
   by_cases h1:nf - j≤k
   ·exact ih k h1 hN
   have e:=h (k + n) (by omega)
   have one:cv f B (k + n)=f k * B n:=by
    unfold R.cv
    have:j4 (fun i=>f i * B (k + n - i)) (k + n + 1)=j4 (fun i=>if i=k then f k * B n else 0) (k + n + 1):=i8 fun i _=>by
     by_cases z:i=k
     ·rw [if_pos z,z,Nat.add_sub_cancel_left]
     ·rw [if_neg z]
      by_cases y:i < k
      ·rw [hB _ (by omega)];grind
      ·rw [ih i (by omega) (by omega)];grind
    rw [this,N6,if_pos (by omega)]
   rw [one] at e
   have:=Rat.mul_inv_cancel _ hn
   generalize (B n)⁻¹=u at this
   generalize B n=y at *
   grind
 exact fun k hk=>key nf k (by omega) hk
structure Eu (p q A B:Nat→Rat) (lp lq la lb:Nat):Prop where
 inv:∀ m,m < la→∀ u v,Dg u (lq - m)→Dg v (lp - m)→Dg (fun k=>cv u p k + cv v q k) m →
  ∃ a b,(∀ k,cv u p k + cv v q k=cv a A k + cv b B k)∧Dg a (lb - m)∧Dg b (la - m)∧((∀ k,a k=0)→(∀ k,b k=0)→∀ k,u k=0∧v k=0)
 le:la≤max lp lq
theorem Eu.base {p q:Nat→Rat} {lp lq:Nat}:Eu p q p q lp lq lp lq :=
 ⟨fun m hm u v hu hv hs=>⟨u,v,fun _=>rfl,hu,hv,fun a b k=>⟨a k,b k⟩⟩,by omega⟩
theorem Eu.step {p q A B C Q:Nat→Rat} {lp lq la lb lc:Nat} {c d:Rat} (e:Eu p q A B lp lq la lb) (hl:lb≤la) (hB:Dg B lb) (h0:0 < lb) (hn:B (lb - 1) ≠ 0)
  (hC:Dg C lc) (hlc:lc < lb) (hc:c ≠ 0) (hd:d ≠ 0) {lQ:Nat} (hQ:Dg Q lQ) (h:∀ k,c * A k=cv Q B k + d * C k):Eu p q B C lp lq lb lc:=by
 refine ⟨fun m hm u v hu hv hs=>?_,by have:=e.le;omega⟩
 obtain ⟨a,b,eq,ha,hb,hz⟩:=e.inv m (by omega) u v hu hv hs
 have hA:∀ k,A k=cv (fun i=>c⁻¹ * Q i) B k + c⁻¹ * d * C k:=fun k=>by
  rw [as5]
  have:=h k
  have:=Rat.mul_inv_cancel _ hc
  generalize c⁻¹=x at *
  grind
 have dis:∀ k,cv a A k=cv (cv a (fun i=>c⁻¹ * Q i)) B k + cv (fun i=>c⁻¹ * d * a i) C k:=fun k=>by
  rw [as8,as5,O5 a A,O5 a,O5 a C,← as5,← ak6 (cv (fun i=>c⁻¹ * Q i) B) (fun i=>c⁻¹ * d * C i)]
  exact as7 (fun i _=>hA i) fun _ _=>rfl
 obtain ⟨a',ha'⟩:∃ a',a'=fun i=>cv a (fun i=>c⁻¹ * Q i) i + b i:=⟨_,rfl⟩
 have tot:∀ k,cv u p k + cv v q k=cv a' B k + cv (fun i=>c⁻¹ * d * a i) C k:=fun k=>by
  rw [eq,dis,ha',ak6 (cv a (fun i=>c⁻¹ * Q i)) b];grind
 have hb':Dg (fun i=>c⁻¹ * d * a i) (lb - m):=fun k hk=>by
  show c⁻¹ * d * a k=0
  rw [ha k hk];grind
 have hq':Dg (fun i=>c⁻¹ * Q i) lQ:=fun k hk=>by
  show c⁻¹ * Q k=0
  rw [hQ k hk];grind
 have some:Dg a' (max ((lb - m) + lQ - 1) (la - m)):=fun k hk=>by
  rw [ha']
  show cv a (fun i=>c⁻¹ * Q i) k + b k=0
  rw [ha.cv hq' k (by omega),hb k (by omega)];grind
 have hprod:Dg (cv a' B) (max m ((lb - m) + lc - 1)):=fun k hk=>by
  have h1:=tot k
  have h2:cv u p k + cv v q k=0:=hs k (by omega)
  have h3:=hb'.cv hC k (by omega)
  grind
 have hn':B (lb - 1) ≠ 0:=hn
 have back:=aE9 (n:=lb - 1) some (by rw [Nat.sub_add_cancel h0];exact hB) hn hprod
 refine ⟨a',fun i=>c⁻¹ * d * a i,tot,fun k hk=>back k (by omega),hb',fun za zb=>?_⟩
 have ci:c⁻¹ ≠ 0:=fun w=>by
  have:=Rat.mul_inv_cancel _ hc
  rw [w] at this
  grind
 have a0:∀ k,a k=0:=fun k=>by
  have:=zb k
  have e1:=Rat.mul_inv_cancel _ hd
  have e2:=Rat.mul_inv_cancel _ hc
  generalize d⁻¹=x at *
  generalize c⁻¹=y at *
  grind
 refine hz a0 fun k=>?_
 have:=za k
 rw [ha'] at this
 have z:cv a (fun i=>c⁻¹ * Q i) k=0:=aF2 a0 _ k
 grind
theorem al0 (f:Nat→Rat) (n:Nat):∀ m,j4 f (n + m)=j4 f n + j4 (fun i=>f (n + i)) m
 | 0=>by simp only [j4,Nat.add_zero];grind
 | m + 1=>by rw [← Nat.add_assoc,j4,al0 f n m,j4];grind
theorem ao8 (f:Nat→Int):∀ n,((sZ f n:Int):Rat)=j4 (fun i=>(f i:Rat)) n
 | 0=>by simp [sZ,j4,Rat.intCast_zero]
 | n + 1=>by rw [sZ,j4,Rat.intCast_add,ao8 f n]
theorem aF4 {u:Nat→Rat} {n:Nat} (hu:Dg u n) (p:Nat→Rat) (k:Nat):cv u p k=j4 (fun i=>u i * if i≤k then p (k - i) else 0) n:=by
 unfold cv
 rw [← U8 (f:=fun i=>u i * if i≤k then p (k - i) else 0) (m:=n) (n:=max n (k + 1)) (by omega) (fun i hi _=>by rw [hu i hi];grind),
  U8 (f:=fun i=>u i * if i≤k then p (k - i) else 0) (m:=k + 1) (n:=max n (k + 1)) (by omega) (fun i hi _=>by rw [if_neg (by omega)];grind)]
 exact i8 fun i hi=>by rw [if_pos (by omega)]
theorem X9 {d:Nat}:∀ (ws:List Int) (c:Nat),d ∣ c→(∀ w ∈ ws,(d:Int) ∣ w)→d ∣ ws.foldl (fun c w=>Int.gcd w c) c
 | [],c,h,_=>h
 | w :: r,c,h,hw=>X9 r _ (Int.dvd_gcd (hw w List.mem_cons_self) (by exact Int.natCast_dvd_natCast.mpr h)) fun x hx=>hw x (List.mem_cons_of_mem _ hx)
theorem bm1 {b:Rat} (hb:b ≠ 0) {ws:List Int} (hg:t9 ws=1) {s:Nat→Int} (h:∀ k,(s k:Rat)=b * zc ws k):∀ k,(aZ ws k).natAbs≤(s k).natAbs:=by
 have e:∀ k,(b.den:Int) * s k=b.num * aZ ws k:=fun k=>by
  have h1:=h k
  have h2:(b.den:Rat) * b=(b.num:Rat):=by
   have h3:(b.den:Rat) ≠ 0:=fun w=>b.den_nz (Rat.natCast_inj.mp (by rw [w];rfl))
   have h4:b=(b.num:Rat) / (b.den:Rat):=by
    have:=Rat.num_divInt_den b
    rw [Rat.divInt_eq_div] at this
    exact this.symm
   have h5:=Rat.mul_inv_cancel _ h3
   rw [Rat.div_def] at h4
   generalize (b.den:Rat)=y at *
   generalize y⁻¹=z at *
   generalize (b.num:Rat)=n at *
   grind
  have h3:(((b.den:Int) * s k:Int):Rat)=((b.num * aZ ws k:Int):Rat):=by
   rw [Rat.intCast_mul,Rat.intCast_mul,h1,Rat.intCast_natCast]
   unfold zc
   grind
  exact Rat.intCast_inj.mp h3
 have d1:b.den=1:=by
  have:b.den ∣ t9 ws:=X9 ws 0 (Nat.dvd_zero _) fun w hw=>by
   obtain ⟨k,hk,ek⟩:=List.getElem_of_mem hw
   have h1:=e k
   have h2:aZ ws k=w:=by unfold aZ;rw [List.getElem?_eq_getElem hk,ek];rfl
   rw [h2] at h1
   have:(b.den:Int) ∣ b.num * w:=⟨s k,by rw [← h1]⟩
   have h3:b.den ∣ b.num.natAbs * w.natAbs:=by
    have:=Int.natAbs_dvd_natAbs.mpr this
    rw [Int.natAbs_natCast,Int.natAbs_mul] at this
    exact this
   exact Int.natAbs_dvd_natAbs.mp (by rw [Int.natAbs_natCast];exact Nat.Coprime.dvd_of_dvd_mul_left (Nat.Coprime.symm b.reduced) h3)
  rw [hg] at this
  exact Nat.dvd_one.mp this
 intro k
 have h1:=e k
 rw [d1] at h1
 have n0:b.num ≠ 0:=fun w=>hb (Rat.num_eq_zero.mp w)
 have h2:s k=b.num * aZ ws k:=by rw [← h1];simp
 rw [h2,Int.natAbs_mul]
 exact Nat.le_mul_of_pos_left _ (by omega)
theorem Eu.bound {P Qs Bs:List Int} {A:Nat→Rat} {la K N:Nat} (e:Eu (zc P) (zc Qs) A (zc Bs) P.length Qs.length la Bs.length) (hl:Bs.length < la) (hB:0 < Bs.length) (hg:t9 Bs=1)
  (hP:∀ k,(aZ P k).natAbs≤K) (hQ:∀ k,(aZ Qs k).natAbs≤K) (hK:1≤K) (hN:N=(Qs.length - (la - 1)) + (P.length - (la - 1))):∀ k,(aZ Bs k).natAbs≤N * (K * (2 * N * K) ^ (N - 1)):=by
 have hle:=e.le
 obtain ⟨m,hm⟩:∃ m,m=la - 1:=⟨_,rfl⟩
 obtain ⟨n1,h1⟩:∃ n1,n1=Qs.length - m:=⟨_,rfl⟩
 obtain ⟨n2,h2⟩:∃ n2,n2=P.length - m:=⟨_,rfl⟩
 obtain ⟨M,hM⟩:∃ M,M=N - 1:=⟨_,rfl⟩
 obtain ⟨G,hG⟩:∃ G:Nat→Nat→Int,∀ k i,G k i=if i < n1 then (if i≤k then aZ P (k - i) else 0) else (if i - n1≤k then aZ Qs (k - (i - n1)) else 0):=⟨_,fun _ _=>rfl⟩
 have Gb:∀ k i,(G k i).natAbs≤K:=fun k i=>by
  rw [hG]
  split
  ·split
   ·exact hP _
   ·simp
  ·split
   ·exact hQ _
   ·simp
 obtain ⟨d,⟨i0,hi0,hd0⟩,hdb,hd⟩:=ba2 (fun e i=>G (m + e) i) (M:=M) (N:=N) (B:=K) (fun e _ i _=>Gb _ _) (by omega) hK
 obtain ⟨s,hs⟩:∃ s:Nat→Int,∀ k,s k=sZ (fun i=>G k i * d i) N:=⟨_,fun _=>rfl⟩
 obtain ⟨u,hu⟩:∃ u:Nat→Rat,∀ i,u i=if i < n1 then (d i:Rat) else 0:=⟨_,fun _=>rfl⟩
 obtain ⟨v,hv⟩:∃ v:Nat→Rat,∀ i,v i=if i < n2 then (d (n1 + i):Rat) else 0:=⟨_,fun _=>rfl⟩
 have du:Dg u n1:=fun k hk=>by rw [hu,if_neg (by omega)]
 have dv:Dg v n2:=fun k hk=>by rw [hv,if_neg (by omega)]
 have sr:∀ k,(s k:Rat)=cv u (zc P) k + cv v (zc Qs) k:=fun k=>by
  rw [hs,ao8,show N=n1 + n2 by omega,al0,aF4 du,aF4 dv]
  congr 1
  ·refine i8 fun i hi=>?_
   rw [Rat.intCast_mul,hG,if_pos hi,hu,if_pos hi]
   split
   ·unfold zc;grind
   ·rw [Rat.intCast_zero];grind
  ·refine i8 fun i hi=>?_
   rw [Rat.intCast_mul,hG,if_neg (by omega),hv,if_pos hi,show n1 + i - n1=i by omega]
   split
   ·unfold zc;grind
   ·rw [Rat.intCast_zero];grind
 have ds:∀ k,m≤k→s k=0:=fun k hk=>by
  by_cases h:k < m + M
  ·have:=hd (k - m) (by omega)
   rw [show m + (k - m)=k by omega] at this
   rw [hs];exact this
  ·rw [hs]
   have:∀ i,i < N→G k i * d i=0:=fun i hi=>by
    have:G k i=0:=by
     rw [hG]
     split
     ·split
      ·unfold aZ;rw [List.getElem?_eq_none (by omega)];rfl
      ·rfl
     ·split
      ·unfold aZ;rw [List.getElem?_eq_none (by omega)];rfl
      ·rfl
    rw [this,Int.zero_mul]
   have:=aQ5 (f:=fun i=>G k i * d i) (C:=0) (n:=N) fun i hi=>by rw [this i hi];simp
   omega
 obtain ⟨a,b,eq,ha,hb,hz⟩:=e.inv m (by omega) u v (by rw [← h1];exact du) (by rw [← h2];exact dv) (fun k hk=>by
  show cv u (zc P) k + cv v (zc Qs) k=0
  rw [← sr,ds k hk,Rat.intCast_zero])
 have a0:∀ k,a k=0:=fun k=>ha k (by omega)
 have b1:∀ k,1≤k→b k=0:=fun k hk=>hb k (by omega)
 have sb:∀ k,(s k:Rat)=b 0 * zc Bs k:=fun k=>by
  rw [sr,eq,aF2 a0]
  have:cv b (zc Bs) k=cv (fun i=>if i=0 then b 0 else 0) (zc Bs) k:=as7 (fun i _=>by
   by_cases z:i=0
   ·rw [if_pos z,z]
   ·rw [if_neg z,b1 i (by omega)]) fun _ _=>rfl
  rw [this,ak4,if_pos (by omega),Nat.sub_zero];grind
 have bn:b 0 ≠ 0:=fun w=>by
  have all:=hz a0 fun k=>by
   by_cases z:k=0
   ·rw [z,w]
   ·exact b1 k (by omega)
  by_cases c:i0 < n1
  ·have:=(all i0).1
   rw [hu,if_pos c] at this
   exact hd0 (Rat.intCast_inj.mp (by rw [this,Rat.intCast_zero]))
  ·have:=(all (i0 - n1)).2
   rw [hv,if_pos (by omega),show n1 + (i0 - n1)=i0 by omega] at this
   exact hd0 (Rat.intCast_inj.mp (by rw [this,Rat.intCast_zero]))
 intro k
 refine Nat.le_trans (bm1 bn hg sb k) ?_
 rw [hs]
 refine aQ5 fun i hi=>?_
 rw [Int.natAbs_mul]
 exact Nat.mul_le_mul (Gb k i) (by rw [← hM];exact hdb i hi)
def bF (c x:Nat):Nat:=(c + 1) * (x * (x + 1))
theorem aW2 {ws vs:List Int} {g:Nat} (hg:t9 ws=g) (h0:g ≠ 0) (hl:vs.length=ws.length) (h:∀ k,aZ ws k=(g:Int) * aZ vs k):t9 vs=1:=by
 have hd:(g * t9 vs) ∣ t9 ws:=X9 ws 0 (Nat.dvd_zero _) fun w hw=>by
  obtain ⟨k,hk,ek⟩:=List.getElem_of_mem hw
  have h1:=h k
  have h2:aZ ws k=w:=by unfold aZ;rw [List.getElem?_eq_getElem hk,ek];rfl
  have h3:aZ vs k=vs[k]'(by omega):=by unfold aZ;rw [List.getElem?_eq_getElem (by omega)];rfl
  rw [h2,h3] at h1
  rw [h1]
  obtain ⟨e,he⟩:=L7 (List.getElem_mem (h:=by omega):vs[k]'(by omega) ∈ vs)
  exact ⟨e,by rw [he,Int.natCast_mul];grind⟩
 rw [hg] at hd
 obtain ⟨e,he⟩:=hd
 have:g * 1=g * (t9 vs * e):=by rw [Nat.mul_one,← Nat.mul_assoc];exact he
 have:=Nat.eq_of_mul_eq_mul_left (by omega) this
 exact Nat.dvd_one.mp ⟨e,this⟩
structure SgS (c d0 L K:Nat) (P0 Q0:List Int) (s t:Rat) (A B:List Int):Prop where
 tA:A8 A A.length
 tB:A8 B B.length
 lA:A.length≤L
 lB:B.length < A.length
 gB:B ≠ []→t9 B=1
 eu:Eu (zc P0) (zc Q0) (zc A) (zc B) P0.length Q0.length A.length B.length
 s0:s ≠ 0
 t0:t ≠ 0
 wA:∀ k,(aZ A k).natAbs < 2 ^ (c * (2 * (L - A.length) + 1))
 wB:∀ k,(aZ B k).natAbs < 2 ^ (c * (2 * (L - A.length) + 1))
 sd:s.den < 2 ^ (d0 + bF c (L - A.length - 1))
 sn:s.num.natAbs < 2 ^ (d0 + 2 * bF c (L - A.length - 1))
 td:t.den < 2 ^ (d0 + bF c (L - A.length))
 tn:t.num.natAbs < 2 ^ (d0 + 2 * bF c (L - A.length))
theorem Y6 {B:List Int} (t:A8 B B.length) (h:0 < B.length):aZ B (B.length - 1) ≠ 0:=by
 have:=t.last (by omega) _ (List.getElem?_eq_getElem (by omega))
 unfold aZ
 rw [List.getElem?_eq_getElem (by omega)]
 exact this
theorem aa6 (B:List Int):Dg (zc B) B.length:=fun k hk=>by
 unfold zc aZ
 rw [List.getElem?_eq_none hk]
 exact Rat.intCast_zero
theorem aO9 {B:List Int} {k:Nat} (h:aZ B k ≠ 0):zc B k ≠ 0:=fun w=>h (Rat.intCast_inj.mp (by unfold zc at w;rw [w,Rat.intCast_zero]))
theorem bg4 {P0 Q0 A B:List Int} {L K c:Nat} (hP:P0.length=L) (hQ:Q0.length + 1=L) (kP:∀ k,(aZ P0 k).natAbs≤K) (kQ:∀ k,(aZ Q0 k).natAbs≤K) (hK:1≤K) (hc:2 * (2 * L - 5) * K≤2 ^ c) (hc1:1≤c)
  (eu:Eu (zc P0) (zc Q0) (zc A) (zc B) P0.length Q0.length A.length B.length) (lA:A.length≤L) (lB:B.length < A.length) (tB:A8 B B.length) (gB:B ≠ []→t9 B=1):∀ k,(aZ B k).natAbs < 2 ^ (c * (2 * (L - A.length) + 1)):=by
 intro k
 have cpos:1≤c * (2 * (L - A.length) + 1):=by
  have:1 * 1≤c * (2 * (L - A.length) + 1):=Nat.mul_le_mul hc1 (by omega)
  omega
 have p1:2 ^ 1≤2 ^ (c * (2 * (L - A.length) + 1)):=Nat.pow_le_pow_right (by omega) cpos
 by_cases h0:B=[]
 ·subst h0
  show (0:Int).natAbs < _
  simp only [Int.natAbs_zero];omega
 have bpos:0 < B.length:=by
  cases B with
  | nil=>exact absurd rfl h0
  | cons=>simp
 by_cases h1:B.length=1
 ·obtain ⟨v,rfl⟩:∃ v,B=[v]:=by
   match B,h1 with
   | [v],_=>exact ⟨v,rfl⟩
  have g:=gB h0
  have gv:v.natAbs=1:=by
   have:t9 [v]=Int.gcd v 0:=rfl
   rw [this] at g
   simpa using g
  cases k with
  | zero =>
   show v.natAbs < _
   omega
  | succ k =>
   show (0:Int).natAbs < _
   simp only [Int.natAbs_zero];omega
 have hb:=Eu.bound (K:=K) eu lB bpos (gB h0) kP kQ hK rfl k
 obtain ⟨N,hN⟩:∃ N,N=2 * (L - A.length) + 1:=⟨_,rfl⟩
 rw [show (Q0.length - (A.length - 1)) + (P0.length - (A.length - 1))=N by omega] at hb
 rw [← hN]
 refine Nat.lt_of_le_of_lt hb ?_
 have h2:2 * N * K≤2 ^ c:=Nat.le_trans (Nat.mul_le_mul_right _ (by omega)) hc
 have e1:N=(N - 1) + 1:=by omega
 have h3:(2 * N * K) ^ N≤(2 ^ c) ^ N:=Nat.pow_le_pow_left h2 _
 rw [← Nat.pow_mul] at h3
 refine Nat.lt_of_lt_of_le ?_ h3
 have h4:0 < (2 * N * K) ^ (N - 1):=Nat.pow_pos (Nat.mul_pos (by omega) (by omega))
 have h5:0 < N * (K * (2 * N * K) ^ (N - 1)):=Nat.mul_pos (by omega) (Nat.mul_pos (by omega) h4)
 have h6:(2 * N * K) ^ N=2 * (N * (K * (2 * N * K) ^ (N - 1))):=by
  conv=>lhs;rw [e1,Nat.pow_succ]
  rw [← e1]
  generalize (2 * N * K) ^ (N - 1)=y
  grind
 omega
def FmX (K:PySem.W.Frag) (D:Addr) (H:Hp) (r:Addr) (s:Rat) (ws:List Int):Prop:=∃ rs l,SqT K H r [.ref rs,.ref l]∧SqT K H rs (B5 s)∧H l=some (.lst (ws.map V.int))∧l ≠ D
inductive Fms (K:PySem.W.Frag) (D:Addr) (H:Hp):List V→List (Rat × List Int)→Prop where
 | nil:Fms K D H [] []
 | cons {r:Addr} {s:Rat} {ws:List Int} {xs:List V} {fs:List (Rat × List Int)} (h:FmX K D H r s ws) (t:Fms K D H xs fs):Fms K D H (.ref r :: xs) ((s,ws) :: fs)
theorem bb6 {b:Rat} {ws:List Int} (hg:t9 ws=1) {s:Nat→Int} (h:∀ k,(s k:Rat)=b * zc ws k):∃ g:Int,b=(g:Rat):=by
 have hb2:(b.den:Rat) * b=(b.num:Rat):=by
  have h3:(b.den:Rat) ≠ 0:=fun w=>b.den_nz (Rat.natCast_inj.mp (by rw [w];rfl))
  have h4:b=(b.num:Rat) / (b.den:Rat):=by
   have:=Rat.num_divInt_den b
   rw [Rat.divInt_eq_div] at this
   exact this.symm
  have h5:=Rat.mul_inv_cancel _ h3
  rw [Rat.div_def] at h4
  generalize (b.den:Rat)=y at *
  generalize y⁻¹=z at *
  generalize (b.num:Rat)=n at *
  grind
 have e:∀ k,(b.den:Int) * s k=b.num * aZ ws k:=fun k=>by
  have h1:=h k
  have h3:(((b.den:Int) * s k:Int):Rat)=((b.num * aZ ws k:Int):Rat):=by
   rw [Rat.intCast_mul,Rat.intCast_mul,h1,Rat.intCast_natCast]
   unfold zc
   grind
  exact Rat.intCast_inj.mp h3
 have d1:b.den=1:=by
  have:b.den ∣ t9 ws:=X9 ws 0 (Nat.dvd_zero _) fun w hw=>by
   obtain ⟨k,hk,ek⟩:=List.getElem_of_mem hw
   have h1:=e k
   have h2:aZ ws k=w:=by unfold aZ;rw [List.getElem?_eq_getElem hk,ek];rfl
   rw [h2] at h1
   have:(b.den:Int) ∣ b.num * w:=⟨s k,by rw [← h1]⟩
   have h3:b.den ∣ b.num.natAbs * w.natAbs:=by
    have:=Int.natAbs_dvd_natAbs.mpr this
    rw [Int.natAbs_natCast,Int.natAbs_mul] at this
    exact this
   exact Int.natAbs_dvd_natAbs.mp (by rw [Int.natAbs_natCast];exact Nat.Coprime.dvd_of_dvd_mul_left (Nat.Coprime.symm b.reduced) h3)
  rw [hg] at this
  exact Nat.dvd_one.mp this
 refine ⟨b.num,?_⟩
 rw [← hb2,d1]
 show b=((1:Nat):Rat) * b
 have:((1:Nat):Rat)=1:=rfl
 rw [this];grind
theorem ak8 {ws:List Int} {X:Nat} (h:∀ k,(aZ ws k).natAbs < X):∀ v ∈ ws,Int.natAbs v < X:=fun v hv=>by
 obtain ⟨k,hk,ek⟩:=List.getElem_of_mem hv
 have h2:aZ ws k=v:=by unfold aZ;rw [List.getElem?_eq_getElem hk,ek];rfl
 rw [← h2];exact h k
structure Pf where
 f:Nat→Rat
theorem Pf.ext {a b:Pf} (h:∀ k,a.f k=b.f k):a=b:=by
 cases a;cases b;congr 1;exact funext h
def b8 (c:Rat):Pf:=⟨fun k=>if k=0 then c else 0⟩
def aM1 (a b:Pf):Pf:=⟨cv a.f b.f⟩
def bC8 (a:Pf):Nat→Pf
 | 0=>b8 1
 | n + 1=>aM1 (bC8 a n) a
theorem as6 (c:Rat) (h:Nat→Rat) (k:Nat):cv (fun k=>if k=0 then c else 0) h k=c * h k:=by
 rw [ak4,if_pos (by omega),Nat.sub_zero]
theorem aq2 (c:Rat) (a:Pf) (k:Nat):(aM1 (b8 c) a).f k=c * a.f k:=as6 c a.f k
instance instPf:Lean.Grind.CommRing Pf where
 add a b:=⟨fun k=>a.f k + b.f k⟩
 mul:=aM1
 neg a:=⟨fun k=>- a.f k⟩
 sub a b:=⟨fun k=>a.f k - b.f k⟩
 natCast:=⟨fun n=>b8 n⟩
 ofNat n:=⟨b8 n⟩
 intCast:=⟨fun n=>b8 n⟩
 nsmul:=⟨fun n a=>aM1 (b8 n) a⟩
 zsmul:=⟨fun n a=>aM1 (b8 n) a⟩
 npow:=⟨bC8⟩
 add_zero a:=Pf.ext fun k=>by
  show a.f k + (if k=0 then ((0:Nat):Rat) else 0)=a.f k
  have:((0:Nat):Rat)=0:=rfl
  rw [this];split <;> grind
 add_comm a b:=Pf.ext fun k=>by show a.f k + b.f k=b.f k + a.f k;grind
 add_assoc a b c:=Pf.ext fun k=>by show a.f k + b.f k + c.f k=a.f k + (b.f k + c.f k);grind
 mul_assoc a b c:=Pf.ext fun k=>as8 k a.f b.f c.f
 one_mul a:=Pf.ext fun k=>by
  show cv (fun k=>if k=0 then ((1:Nat):Rat) else 0) a.f k=a.f k
  rw [as6]
  have:((1:Nat):Rat)=1:=rfl
  rw [this];grind
 right_distrib a b c:=Pf.ext fun k=>ak6 a.f b.f c.f k
 mul_zero a:=Pf.ext fun k=>by
  show cv a.f (fun k=>if k=0 then ((0:Nat):Rat) else 0) k=(if k=0 then ((0:Nat):Rat) else 0)
  rw [O5,as6]
  have:((0:Nat):Rat)=0:=rfl
  rw [this];split <;> grind
 mul_comm a b:=Pf.ext fun k=>O5 a.f b.f k
 mul_one a:=Pf.ext fun k=>by
  show cv a.f (fun k=>if k=0 then ((1:Nat):Rat) else 0) k=a.f k
  rw [O5,as6]
  have:((1:Nat):Rat)=1:=rfl
  rw [this];grind
 left_distrib a b c:=Pf.ext fun k=>by
  show cv a.f (fun k=>b.f k + c.f k) k=cv a.f b.f k + cv a.f c.f k
  rw [O5,ak6,O5 b.f,O5 c.f]
 zero_mul a:=Pf.ext fun k=>by
  show cv (fun k=>if k=0 then ((0:Nat):Rat) else 0) a.f k=(if k=0 then ((0:Nat):Rat) else 0)
  rw [as6]
  have:((0:Nat):Rat)=0:=rfl
  rw [this];split <;> grind
 pow_zero a:=Pf.ext fun k=>by
  show (if k=0 then (1:Rat) else 0)=if k=0 then ((1:Nat):Rat) else 0
  rfl
 pow_succ a n:=rfl
 ofNat_succ n:=Pf.ext fun k=>by
  show (if k=0 then ((n + 1:Nat):Rat) else 0)=(if k=0 then (n:Rat) else 0) + (if k=0 then ((1:Nat):Rat) else 0)
  split
  ·rw [Rat.natCast_add]
  ·grind
 neg_add_cancel a:=Pf.ext fun k=>by
  show - a.f k + a.f k=if k=0 then ((0:Nat):Rat) else 0
  have:((0:Nat):Rat)=0:=rfl
  rw [this];split <;> grind
 sub_eq_add_neg a b:=Pf.ext fun k=>by show a.f k - b.f k=a.f k + - b.f k;grind
 neg_zsmul i a:=Pf.ext fun k=>by
  show (aM1 (b8 ((-i:Int):Rat)) a).f k=- (aM1 (b8 (i:Rat)) a).f k
  rw [aq2,aq2,Rat.intCast_neg];grind
 intCast_neg i:=Pf.ext fun k=>by
  show (if k=0 then ((-i:Int):Rat) else 0)=- (if k=0 then (i:Rat) else 0)
  split
  ·rw [Rat.intCast_neg]
  ·grind
theorem F8 (a b:Pf) (k:Nat):(a + b).f k=a.f k + b.f k:=rfl
theorem F7 (a b:Pf) (k:Nat):(a - b).f k=a.f k - b.f k:=rfl
theorem bw4 (a b:Pf) (k:Nat):(a * b).f k=cv a.f b.f k:=rfl
theorem M1 (c:Rat) (a:Pf) (k:Nat):(b8 c * a).f k=c * a.f k:=aq2 c a k
theorem z4 (c d:Rat):b8 (c * d)=b8 c * b8 d:=Pf.ext fun k=>by
 rw [M1]
 show (if k=0 then c * d else 0)=c * (if k=0 then d else 0)
 split <;> grind
theorem p9:b8 1=1:=Pf.ext fun k=>rfl
theorem B8 {c:Rat} (h:c ≠ 0):b8 c * b8 c⁻¹=1:=by rw [← z4,Rat.mul_inv_cancel _ h,p9]
theorem L6 (c:Rat):b8 (-c)=- b8 c:=Pf.ext fun k=>by
 show (if k=0 then -c else 0)=- (if k=0 then c else 0)
 split <;> grind
def zp (ws:List Int):Pf:=⟨zc ws⟩
theorem aK2:zp []=0:=Pf.ext fun k=>by
 show zc [] k=(if k=0 then ((0:Nat):Rat) else 0)
 cases k with
 | zero=>rfl
 | succ k=>rfl
theorem v6 (k:Nat):(0:Pf).f k=0:=by
 show (if k=0 then ((0:Nat):Rat) else 0)=0
 have:((0:Nat):Rat)=0:=rfl
 rw [this];split <;> rfl
theorem G6 (k:Nat):(1:Pf).f k=if k=0 then 1 else 0:=rfl
structure Ev (p q A B fa ha fb hb:Pf) (lp lq la lb:Nat):Prop where
 inv:∀ m,m < la→∀ u v:Pf,Dg u.f (lq - m)→Dg v.f (lp - m)→Dg (u * p + v * q).f m →
  ∃ a b:Pf,u=a * fa + b * fb∧v=a * ha + b * hb∧Dg a.f (lb - m)∧Dg b.f (la - m)
 idA:A=fa * p + ha * q
 idB:B=fb * p + hb * q
 cr:∃ δ:Rat,δ ≠ 0∧b8 δ * p=hb * A - ha * B∧b8 δ * q=fa * B - fb * A
 le:la≤max lp lq
theorem bz1 {g:Int} (g0:(g:Rat) ≠ 0) {x y:Int} (h:(y:Rat)=(g:Rat) * (x:Rat)):x.natAbs≤y.natAbs:=by
 have e:y=g * x:=Rat.intCast_inj.mp (by rw [h,Rat.intCast_mul])
 have:g ≠ 0:=fun z=>g0 (by rw [z];rfl)
 rw [e,Int.natAbs_mul]
 exact Nat.le_mul_of_pos_left _ (by omega)
theorem bb4:∀ n:Nat,2≤n→∃ p,2≤p∧p ∣ n∧∀ d,d ∣ p→d=1 ∨ d=p:=by
 intro n
 induction n using Nat.strongRecOn with
 | ind n ih =>
  intro h
  by_cases c:∃ d,d ∣ n∧d ≠ 1∧d ≠ n
  ·obtain ⟨d,d1,d2,d3⟩:=c
   have dle:=Nat.le_of_dvd (by omega) d1
   have d0:d ≠ 0:=fun z=>by rw [z] at d1;have:=Nat.eq_zero_of_zero_dvd d1;omega
   obtain ⟨p,p1,p2,p3⟩:=ih d (by omega) (by omega)
   exact ⟨p,p1,Nat.dvd_trans p2 d1,p3⟩
  ·refine ⟨n,h,Nat.dvd_refl _,fun d hd=>?_⟩
   by_cases e1:d=1
   ·exact .inl e1
   ·by_cases e2:d=n
    ·exact .inr e2
    ·exact absurd ⟨d,hd,e1,e2⟩ c
theorem aV0 {p:Nat} (hp:∀ d,d ∣ p→d=1 ∨ d=p) {a b:Int} (h:(p:Int) ∣ a * b):(p:Int) ∣ a ∨ (p:Int) ∣ b:=by
 have h1:p ∣ a.natAbs * b.natAbs:=by
  have:=Int.natAbs_dvd_natAbs.mpr h
  rwa [Int.natAbs_natCast,Int.natAbs_mul] at this
 rcases hp _ (Nat.gcd_dvd_left p a.natAbs) with g | g
 ·right
  exact Int.natAbs_dvd_natAbs.mp (by rw [Int.natAbs_natCast];exact Nat.Coprime.dvd_of_dvd_mul_left g h1)
 ·left
  have:=Nat.gcd_dvd_right p a.natAbs
  rw [g] at this
  exact Int.natAbs_dvd_natAbs.mp (by rw [Int.natAbs_natCast];exact this)
theorem bh1 {p:Int} {f:Nat→Int}:∀ {n},(∀ i,i < n→p ∣ f i)→p ∣ sZ f n
 | 0,_=>⟨0,by simp [sZ]⟩
 | n + 1,h=>by rw [sZ];exact Int.dvd_add (bh1 fun i hi=>h i (by omega)) (h n (by omega))
theorem aJ7 {p:Int} {f:Nat→Int} {j:Nat}:∀ {n},j < n→(∀ i,i < n→i ≠ j→p ∣ f i)→p ∣ sZ f n→p ∣ f j
 | 0,h,_,_=>by omega
 | n + 1,h,ha,hs=>by
  rw [sZ] at hs
  by_cases e:j=n
  ·subst e
   exact (Int.dvd_add_right (bh1 fun i hi=>ha i (by omega) (by omega))).mp hs
  ·exact aJ7 (n:=n) (by omega) (fun i hi=>ha i (by omega)) ((Int.dvd_add_left (ha n (by omega) (fun z=>e z.symm))).mp hs)
theorem bo2 {p:Nat} (hp2:2≤p) (hp:∀ d,d ∣ p→d=1 ∨ d=p) {Q:List Int} (hg:t9 Q=1) {V:Nat→Int} {n:Nat} (hV:∀ k,n≤k→V k=0) (h:∀ k,(p:Int) ∣ sZ (fun i=>V i * aZ Q (k - i)) (k + 1)):∀ k,(p:Int) ∣ V k:=by
 obtain ⟨j,j1,j2⟩:∃ j,¬ (p:Int) ∣ aZ Q j∧∀ i,j < i→(p:Int) ∣ aZ Q i:=by
  have key:∀ m,(∀ i,m≤i→(p:Int) ∣ aZ Q i)→∃ j,¬ (p:Int) ∣ aZ Q j∧∀ i,j < i→(p:Int) ∣ aZ Q i:=by
   intro m
   induction m with
   | zero =>
    intro hm
    have:p ∣ t9 Q:=X9 Q 0 (Nat.dvd_zero _) fun w hw=>by
     obtain ⟨k,hk,ek⟩:=List.getElem_of_mem hw
     have h2:aZ Q k=w:=by unfold aZ;rw [List.getElem?_eq_getElem hk,ek];rfl
     rw [← h2];exact hm k (by omega)
    rw [hg] at this
    have:=Nat.dvd_one.mp this
    omega
   | succ m ih =>
    intro hm
    by_cases c:(p:Int) ∣ aZ Q m
    ·exact ih fun i hi=>by
      by_cases e:i=m
      ·rw [e];exact c
      ·exact hm i (by omega)
    ·exact ⟨m,c,fun i hi=>hm i hi⟩
  exact key Q.length fun i hi=>by unfold aZ;rw [List.getElem?_eq_none hi];exact ⟨0,by simp⟩
 have key:∀ t,∀ k,n - t≤k→(p:Int) ∣ V k:=by
  intro t
  induction t with
  | zero=>intro k hk;rw [hV k (by omega)];exact ⟨0,by simp⟩
  | succ t ih =>
   intro k hk
   by_cases c:n - t≤k
   ·exact ih k c
   have:=aJ7 (p:=(p:Int)) (f:=fun i=>V i * aZ Q (k + j - i)) (j:=k) (n:=k + j + 1) (by omega) (fun i hi hne=>by
    by_cases z:i < k
    ·obtain ⟨y,hy⟩:=j2 (k + j - i) (by omega)
     exact ⟨V i * y,by show V i * aZ Q (k + j - i)=_;rw [hy];grind⟩
    ·obtain ⟨y,hy⟩:=ih i (by omega)
     exact ⟨y * aZ Q (k + j - i),by show V i * aZ Q (k + j - i)=_;rw [hy];grind⟩) (h (k + j))
   have h2:(p:Int) ∣ V k * aZ Q j:=by
    have e:k + j - k=j:=by omega
    rw [e] at this;exact this
   rcases aV0 hp h2 with z | z
   ·exact z
   ·exact absurd z j1
 exact fun k=>key n k (by omega)
theorem ba6 (c:Int) (f:Nat→Int):∀ n,sZ (fun i=>c * f i) n=c * sZ f n
 | 0=>by simp [sZ]
 | n + 1=>by rw [sZ,sZ,ba6 c f n];grind
theorem bo1 {Q:List Int} (hg:t9 Q=1) {n:Nat}:∀ (d:Nat),0 < d→∀ V:Nat→Int,(∀ k,n≤k→V k=0)→(∀ k,(d:Int) ∣ sZ (fun i=>V i * aZ Q (k - i)) (k + 1))→∀ k,(d:Int) ∣ V k:=by
 intro d
 induction d using Nat.strongRecOn with
 | ind d ih =>
  intro d0 V hV h
  by_cases d1:d=1
  ·intro k;rw [d1];exact ⟨V k,by simp⟩
  obtain ⟨p,p2,⟨e,he⟩,pp⟩:=bb4 d (by omega)
  have e0:0 < e:=Nat.pos_of_ne_zero fun z=>by rw [z] at he;omega
  have ed:e < d:=by
   have:2 * e≤p * e:=Nat.mul_le_mul_right _ p2
   omega
  have all:=bo2 p2 pp hg hV fun k=>Int.dvd_trans ⟨(e:Int),by rw [he,Int.natCast_mul]⟩ (h k)
  have pz:(p:Int) ≠ 0:=by omega
  obtain ⟨V',hV'⟩:∃ V':Nat→Int,∀ k,V k=(p:Int) * V' k:=⟨fun k=>V k / (p:Int),fun k=>(Int.mul_ediv_cancel' (all k)).symm⟩
  have r:=ih e ed e0 V' (fun k hk=>by
   have h1:=hV' k
   rw [hV k hk] at h1
   rcases Int.mul_eq_zero.mp h1.symm with z | z
   ·exact absurd z pz
   ·exact z) fun k=>by
    have h1:=h k
    have h2:sZ (fun i=>V i * aZ Q (k - i)) (k + 1)=(p:Int) * sZ (fun i=>V' i * aZ Q (k - i)) (k + 1):=by
     rw [← ba6]
     exact ap9 fun i _=>by rw [hV' i];grind
    rw [h2,he,Int.natCast_mul] at h1
    exact Int.dvd_of_mul_dvd_mul_left pz h1
  intro k
  obtain ⟨y,hy⟩:=r k
  exact ⟨y,by rw [hV' k,hy,he,Int.natCast_mul];grind⟩
theorem aN5 (h:Nat→Rat):∀ n,∃ D:Nat,0 < D∧∀ k,k < n→∃ y:Int,(D:Rat) * h k=(y:Rat)
 | 0=>⟨1,by omega,fun k hk=>by omega⟩
 | n + 1=>by
  obtain ⟨D,D0,hD⟩:=aN5 h n
  refine ⟨D * (h n).den,Nat.mul_pos D0 (h n).den_pos,fun k hk=>?_⟩
  have hn:((h n).den:Rat) * h n=((h n).num:Rat):=by
   have h3:((h n).den:Rat) ≠ 0:=fun w=>(h n).den_nz (Rat.natCast_inj.mp (by rw [w];rfl))
   have h4:h n=((h n).num:Rat) / ((h n).den:Rat):=by
    have:=Rat.num_divInt_den (h n)
    rw [Rat.divInt_eq_div] at this
    exact this.symm
   have h5:=Rat.mul_inv_cancel _ h3
   rw [Rat.div_def] at h4
   generalize ((h n).den:Rat)=y at *
   generalize y⁻¹=z at *
   generalize ((h n).num:Rat)=n at *
   grind
  by_cases e:k=n
  ·subst e
   exact ⟨(D:Int) * (h k).num,by rw [Rat.natCast_mul,Rat.intCast_mul,← hn,Rat.intCast_natCast];grind⟩
  ·obtain ⟨y,hy⟩:=hD k (by omega)
   exact ⟨((h n).den:Int) * y,by rw [Rat.natCast_mul,Rat.intCast_mul,← hy,Rat.intCast_natCast];grind⟩
theorem bD5 {Q:List Int} (hg:t9 Q=1) {h:Pf} {n:Nat} (hd:Dg h.f n) {z:Nat→Int} (e:∀ k,(h * zp Q).f k=(z k:Rat)):∃ y:Nat→Int,∀ k,h.f k=(y k:Rat):=by
 obtain ⟨D,D0,hD⟩:=aN5 h.f n
 have DR:(D:Rat) ≠ 0:=fun w=>by
  have:=Rat.natCast_inj.mp (show (D:Rat)=((0:Nat):Rat) by rw [w];rfl)
  omega
 obtain ⟨V,hV⟩:∃ V:Nat→Int,∀ k,(D:Rat) * h.f k=(V k:Rat):=by
  have:∀ k,∃ y:Int,(D:Rat) * h.f k=(y:Rat):=fun k=>by
   by_cases c:k < n
   ·exact hD k c
   ·exact ⟨0,by rw [hd k (by omega),Rat.intCast_zero];grind⟩
  exact ⟨fun k=>Classical.choose (this k),fun k=>Classical.choose_spec (this k)⟩
 have all:=bo1 hg (n:=n) D D0 V (fun k hk=>by
  have h1:=hV k
  rw [hd k hk] at h1
  exact Rat.intCast_inj.mp (by rw [← h1,Rat.intCast_zero];grind)) fun k=>by
   refine ⟨z k,Rat.intCast_inj.mp ?_⟩
   rw [ao8,Rat.intCast_mul,← e k,bw4]
   show _=_ * cv h.f (zc Q) k
   unfold cv
   rw [Rat.intCast_natCast,G3]
   exact i8 fun i _=>by
    rw [Rat.intCast_mul,← hV]
    unfold zc
    grind
 refine ⟨fun k=>Classical.choose (all k),fun k=>?_⟩
 have h1:V k=(D:Int) * Classical.choose (all k):=Classical.choose_spec (all k)
 have h2:=hV k
 rw [h1,Rat.intCast_mul,Rat.intCast_natCast] at h2
 have:=Rat.mul_inv_cancel _ DR
 generalize (D:Rat)⁻¹=di at *
 generalize (D:Rat)=d0 at *
 generalize ((Classical.choose (all k):Int):Rat)=y at *
 grind
theorem aF3 {f g:Nat→Rat} {a b:Nat} (hf:Dg f (a + 1)) (hg:Dg g (b + 1)):cv f g (a + b)=f a * g b:=by
 unfold cv
 have:j4 (fun i=>f i * g (a + b - i)) (a + b + 1)=j4 (fun i=>if i=a then f a * g b else 0) (a + b + 1):=i8 fun i _=>by
  by_cases z:i=a
  ·rw [if_pos z,z,Nat.add_sub_cancel_left]
  ·rw [if_neg z]
   by_cases y:i < a
   ·rw [hg _ (by omega)];grind
   ·rw [hf i (by omega)];grind
 rw [this,N6,if_pos (by omega)]
def ExZ (one other:List Int):Prop:=∃ (V:Nat→Int) (n:Nat),(∀ k,n≤k→V k=0)∧∀ k,zc one k=cv (fun i=>(V i:Rat)) (zc other) k
theorem be1 {one other Qz Rz:List Int} {n t:Nat} (hx:ExZ one other) (dv:Dv one other Qz Rz 1) (ho:other.length=n + 1) (h0:aZ other n ≠ 0) (hr:Rz.length=n + 1 + t):aZ other n ∣ aZ Rz (t + n):=by
 obtain ⟨V,nv,hV,e⟩:=hx
 obtain ⟨D,hD⟩:∃ D:Pf,D=⟨fun i=>(V i:Rat)⟩ - zp Qz:=⟨_,rfl⟩
 have eD:D * zp other=zp Rz:=by
  have e1:zp one=⟨fun i=>(V i:Rat)⟩ * zp other:=Pf.ext e
  have e2:zp one=zp Qz * zp other + zp Rz:=Pf.ext fun k=>by
   have:=dv k
   rw [show ((1:Int):Rat)=1 from rfl] at this
   show zc one k=cv (zc Qz) (zc other) k + zc Rz k
   rw [← this];grind
  rw [hD]
  generalize (⟨fun i=>(V i:Rat)⟩:Pf)=x at *
  grind
 have dD:Dg D.f (max nv Qz.length):=fun k hk=>by
  rw [hD,F7]
  show (V k:Rat) - zc Qz k=0
  rw [hV k (by omega),aa6 Qz k (by omega),Rat.intCast_zero];grind
 have oD:Dg (zc other) (n + 1):=by rw [← ho];exact aa6 other
 have back:Dg D.f (t + 1):=by
  have:=aE9 (f:=D.f) (B:=zc other) (N:=n + 1 + t) dD oD (aO9 h0) (fun k hk=>by
   have:(D * zp other).f k=(zp Rz).f k:=by rw [eD]
   rw [show cv D.f (zc other) k=(D * zp other).f k from rfl,this]
   exact aa6 Rz k (by omega))
  rwa [show n + 1 + t - n=t + 1 by omega] at this
 have top:=aF3 back oD
 have h1:zc Rz (t + n)=D.f t * zc other n:=by
  rw [← top,show cv D.f (zc other) (t + n)=(D * zp other).f (t + n) from rfl,eD];rfl
 refine ⟨V t - aZ Qz t,Rat.intCast_inj.mp ?_⟩
 have h2:D.f t=(V t:Rat) - zc Qz t:=by rw [hD];rfl
 rw [h2] at h1
 unfold zc at h1
 rw [h1,Rat.intCast_mul,Rat.intCast_sub];grind
def fz (v:Nat→Int):Pf:=⟨fun k=>(v k:Rat)⟩
theorem ad3 {z:Int} (h:z ≠ 0):(z:Rat) ≠ 0:=fun w=>h (Rat.intCast_inj.mp (by rw [w,Rat.intCast_zero]))
def wL (c L la:Nat):Nat:=c * (2 * (L + 1 - la))
structure LC (P0 Q0:List Int) (K c L:Nat):Prop where
 tP:A8 P0 P0.length
 tQ:A8 Q0 Q0.length
 lp:P0.length≤L
 lq:Q0.length≤L
 kP:∀ k,(aZ P0 k).natAbs≤K
 kQ:∀ k,(aZ Q0 k).natAbs≤K
 k1:1≤K
 l1:1≤L
 hc:4 * L * K≤2 ^ c
structure LS (P0 Q0:List Int) (c L w:Nat) (A Fa B Fb:List Int) (ha hb:Pf):Prop where
 ev:Ev (zp P0) (zp Q0) (zp A) (zp B) (zp Fa) ha (zp Fb) hb P0.length Q0.length A.length B.length
 tA:A8 A A.length
 tB:A8 B B.length
 lA:A.length≤L
 lB:B.length≤L
 st:(A=P0∧B=Q0∧Fa=[1]∧Fb=[]∧ha=0∧hb=1∧w=c) ∨ (B.length < A.length∧A.length≤Q0.length∧w=wL c L A.length)
 bA:∀ k,(aZ A k).natAbs < 2 ^ w
 bFa:∀ k,(aZ Fa k).natAbs < 2 ^ w
 bB:B ≠ []→∀ k,(aZ B k).natAbs < 2 ^ w
 bFb:B ≠ []→∀ k,(aZ Fb k).natAbs < 2 ^ w
 hA:∀ k (z:Int),ha.f k=(z:Rat)→z.natAbs < 2 ^ w
 hB:B ≠ []→∀ k (z:Int),hb.f k=(z:Rat)→z.natAbs < 2 ^ w
 dA:∃ n,Dg ha.f n
 dB:∃ n,Dg hb.f n
 lFa:Fa.length≤max 1 (Q0.length + 1 - A.length)
 lFb:Fb.length≤Q0.length + 1 - A.length
 tFa:A8 Fa Fa.length
 tFb:A8 Fb Fb.length
theorem bg3 {ws:List Int} {g:Nat} (hg:g ≠ 0) (h:∀ v ∈ ws,(g:Int) ∣ v) (k:Nat):aZ ws k=(g:Int) * aZ (ws.map fun v=>v.fdiv (g:Int)) k:=by
 have gi:(g:Int) ≠ 0:=by omega
 unfold aZ
 rw [List.getElem?_map]
 cases hk:ws[k]? with
 | none=>simp
 | some v =>
  obtain ⟨y,hy⟩:=h v (List.mem_of_getElem? hk)
  have h1:v.fdiv (g:Int)=y:=by
   conv=>lhs;arg 1;rw [hy]
   exact t7 gi
  show v=(g:Int) * v.fdiv (g:Int)
  rw [h1];exact hy
theorem aP1 {ws vs:List Int} {g:Int} (t:A8 ws ws.length) (hl:vs.length=ws.length) (h:∀ k,aZ ws k=g * aZ vs k):A8 vs vs.length:=by
 refine ⟨Nat.le_refl _,(fun i v hi e=>by rw [List.getElem?_eq_none hi] at e;cases e),fun h0 v hv z=>?_⟩
 have h1:=Y6 t (by omega)
 rw [h,← hl] at h1
 have:aZ vs (vs.length - 1)=v:=by unfold aZ;rw [hv];rfl
 rw [this,z,Int.mul_zero] at h1
 exact h1 rfl
structure LRes (P0 Q0 A F:List Int) (w L c:Nat):Prop where
 tA:A8 A A.length
 nA:A ≠ []
 lA:A.length≤L
 lF:F.length≤L
 lF2:F.length≤max 1 (Q0.length + 1 - A.length)
 tF:A8 F F.length
 bA:∀ k,(aZ A k).natAbs < 2 ^ w
 bF:∀ k,(aZ F k).natAbs < 2 ^ w
 bA2:∀ k,(aZ A k).natAbs < 2 ^ wL c L A.length
 idA:∃ h:Pf,(∃ n,Dg h.f n)∧zp A=zp F * zp P0 + h * zp Q0∧∀ k (z:Int),h.f k=(z:Rat)→z.natAbs < 2 ^ w
 p1:∃ (κ:Rat) (v:Nat→Int),(∃ n,∀ k,n≤k→v k=0)∧zp P0=b8 κ * (fz v * zp A)∧(∀ k,(v k).natAbs < 2 ^ wL c L A.length)∧κ.num.natAbs < 2 ^ c∧κ.den < 2 ^ (wL c L A.length + wL c L A.length)
 q1:∃ (κ:Rat) (v:Nat→Int),(∃ n,∀ k,n≤k→v k=0)∧zp Q0=b8 κ * (fz v * zp A)∧(∀ k,(v k).natAbs < 2 ^ wL c L A.length)∧κ.num.natAbs < 2 ^ c∧κ.den < 2 ^ (wL c L A.length + wL c L A.length)
 q0:Q0=[]→A=P0∧F=[1]
def OvP (B W:Nat) (p:Pf):Prop:=∀ k,OvB B W (p.f k)
theorem OvP.mono {B V W:Nat} {p:Pf} (h:OvP B V p) (l:V≤W):OvP B W p:=fun k=>(h k).mono l
theorem OvP.mul {B C V W n:Nat} (hB:0 < B) (hC:0 < C) {p q:Pf} (hp:OvP B V p) (hq:OvP C W q) (dp:Dg p.f n):OvP (B * C) (V + W + n) (p * q):=fun k=>by
 have e:(p * q).f k=j4 (fun i=>p.f i * if i≤k then q.f (k - i) else 0) n:=aF4 dp q.f k
 rw [e]
 refine aR3 (Nat.mul_pos hB hC) (fun i=>?_) n
 split
 ·exact (hp i).mul (hq _)
 ·have:p.f i * 0=0:=by grind
  rw [this];exact OvB.zero _ _
def qp (l:List Rat):Pf:=⟨aQ l⟩
theorem bv7 (s:Rat) (ws:List Int):qp (scl s ws)=b8 s * zp ws:=Pf.ext fun k=>by
 rw [M1]
 show aQ (scl s ws) k=s * zc ws k
 rw [bB3];rfl
theorem bv8 (p q:List Rat):qp (V4 p q)=qp p * qp q:=Pf.ext fun k=>bq0 p q k
theorem ax0 (l:List Rat):Dg (qp l).f l.length:=fun k hk=>by
 show aQ l k=0
 unfold aQ;rw [List.getElem?_eq_none hk];rfl
theorem bb1 {B W:Nat} {l:List Rat} (h:∀ x ∈ l,OvB B W x):OvP B W (qp l):=fun k=>by
 show OvB B W (aQ l k)
 unfold aQ
 cases hk:l[k]? with
 | none=>exact OvB.zero _ _
 | some x=>exact h x (List.mem_of_getElem? hk)
theorem bw7 {B W:Nat} {l:List Rat} (h:OvP B W (qp l)):∀ x ∈ l,OvB B W x:=fun x hx=>by
 obtain ⟨k,hk,e⟩:=List.getElem_of_mem hx
 have:=h k
 have e2:(qp l).f k=x:=by
  show aQ l k=x
  unfold aQ;rw [List.getElem?_eq_getElem hk,e];rfl
 rw [e2] at this;exact this
def fld (M:List (List Rat)) (last:List Rat):Nat→Pf × Pf
 | 0=>(qp last,0)
 | n + 1=>(qp ((M[M.length - 1 - n]?).getD []) * (fld M last n).1 + (fld M last n).2,(fld M last n).1)
def dP (p:Pf):Pf:=⟨fun k=>((k + 1:Nat):Rat) * p.f (k + 1)⟩
theorem ag1 (p q:Pf):dP (p * q)=dP p * q + p * dP q:=Pf.ext fun k=>by
 show ((k + 1:Nat):Rat) * cv p.f q.f (k + 1)=cv (fun i=>((i + 1:Nat):Rat) * p.f (i + 1)) q.f k + cv p.f (fun i=>((i + 1:Nat):Rat) * q.f (i + 1)) k
 unfold cv
 rw [G3,i8 (g:=fun i=>((i:Nat):Rat) * (p.f i * q.f (k + 1 - i)) + ((k + 1 - i:Nat):Rat) * (p.f i * q.f (k + 1 - i))) fun i hi=>?_,← P2]
 ·congr 1
  ·rw [K0]
   have h0:(((0:Nat)):Rat)=0:=rfl
   simp only [h0]
   rw [i8 (g:=fun i=>((i + 1:Nat):Rat) * p.f (i + 1) * q.f (k - i)) fun i hi=>?_]
   ·grind
   ·show ((i + 1:Nat):Rat) * (p.f (i + 1) * q.f (k + 1 - (i + 1)))=_
    rw [show k + 1 - (i + 1)=k - i by omega];grind
  ·rw [show k + 1 + 1=(k + 1) + 1 from rfl]
   show j4 _ (k + 1) + ((k + 1 - (k + 1):Nat):Rat) * (p.f (k + 1) * q.f (k + 1 - (k + 1)))=_
   have h0:(((k + 1 - (k + 1):Nat)):Rat)=0:=by rw [Nat.sub_self];rfl
   rw [h0,i8 (g:=fun i=>p.f i * (((k - i + 1:Nat):Rat) * q.f (k - i + 1))) fun i hi=>?_]
   ·grind
   ·show ((k + 1 - i:Nat):Rat) * (p.f i * q.f (k + 1 - i))=_
    rw [show k + 1 - i=k - i + 1 by omega];grind
 ·have:((k + 1:Nat):Rat)=((i:Nat):Rat) + ((k + 1 - i:Nat):Rat):=by
   rw [← Rat.natCast_add];congr 1;omega
  rw [this];grind
theorem bA6 (p q:Pf):dP (p + q)=dP p + dP q:=Pf.ext fun k=>by
 show _ * (p.f (k + 1) + q.f (k + 1))=_ * p.f (k + 1) + _ * q.f (k + 1);grind
theorem aF1 (c:Rat):dP (b8 c)=0:=Pf.ext fun k=>by
 show _ * (if k + 1=0 then c else 0)=(0:Pf).f k
 rw [if_neg (by omega),v6];grind
theorem aN7:dP 1=0:=by rw [← p9];exact aF1 1
theorem bF9 (c:Rat) (p:Pf):dP (b8 c * p)=b8 c * dP p:=by
 have h:=aF1 c
 rw [ag1];grind
def Fn (p:Pf):Prop:=∃ n,Dg p.f n
theorem Fn.mul {p q:Pf} (h:Fn p) (k:Fn q):Fn (p * q):=by
 obtain ⟨m,hm⟩:=h
 obtain ⟨n,hn⟩:=k
 exact ⟨_,hm.cv hn⟩
theorem Fn.add {p q:Pf} (h:Fn p) (k:Fn q):Fn (p + q):=by
 obtain ⟨m,hm⟩:=h
 obtain ⟨n,hn⟩:=k
 exact ⟨max m n,fun i hi=>by show p.f i + q.f i=0;rw [hm i (by omega),hn i (by omega)];grind⟩
theorem Fn.sub {p q:Pf} (h:Fn p) (k:Fn q):Fn (p - q):=by
 obtain ⟨m,hm⟩:=h
 obtain ⟨n,hn⟩:=k
 exact ⟨max m n,fun i hi=>by show p.f i - q.f i=0;rw [hm i (by omega),hn i (by omega)];grind⟩
theorem w9 (c:Rat):Fn (b8 c):=⟨1,fun i hi=>by show (if i=0 then c else 0)=0;rw [if_neg (by omega)]⟩
theorem G9:Fn 1:=by rw [← p9];exact w9 1
theorem J3:Fn 0:=⟨0,fun i _=>v6 i⟩
theorem Fn.d {p:Pf} (h:Fn p):Fn (dP p):=by
 obtain ⟨m,hm⟩:=h
 exact ⟨m,fun i hi=>by show _ * p.f (i + 1)=0;rw [hm (i + 1) (by omega)];grind⟩
theorem bs6 (ws:List Int):Fn (zp ws):=⟨_,aa6 ws⟩
theorem bs7 (l:List Rat):Fn (qp l):=⟨_,ax0 l⟩
def Cop (p q:Pf):Prop:=∃ u v,Fn u∧Fn v∧u * p + v * q=1
theorem Cop.symm {p q:Pf} (h:Cop p q):Cop q p:=by
 obtain ⟨u,v,hu,hv,e⟩:=h
 exact ⟨v,u,hv,hu,by grind⟩
theorem aF5 (p:Pf):Cop p 1:=⟨0,1,J3,G9,by grind⟩
theorem Cop.mul {a b c:Pf} (fa:Fn a) (fb:Fn b) (fc:Fn c) (h:Cop a b) (k:Cop a c):Cop a (b * c):=by
 obtain ⟨u,v,hu,hv,e⟩:=h
 obtain ⟨u',v',hu',hv',e'⟩:=k
 refine ⟨u * u' * a + u * v' * c + v * b * u',v * v',(((hu.mul hu').mul fa).add ((hu.mul hv').mul fc)).add ((hv.mul fb).mul hu'),hv.mul hv',?_⟩
 have:(u * a + v * b) * (u' * a + v' * c)=1:=by rw [e,e'];grind
 grind
theorem Cop.addl {a b c:Pf} (fc:Fn c) (h:Cop a b):Cop a (b + a * c):=by
 obtain ⟨u,v,hu,hv,e⟩:=h
 exact ⟨u - v * c,v,hu.sub (hv.mul fc),hv,by grind⟩
theorem Cop.scale {a b:Pf} {c:Rat} (hc:c ≠ 0) (h:Cop a b):Cop a (b8 c * b):=by
 obtain ⟨u,v,hu,hv,e⟩:=h
 have ec:=B8 hc
 exact ⟨u,v * b8 c⁻¹,hu,hv.mul (w9 _),by grind⟩
def TF:List (Pf × Nat)→Prop
 | []=>True
 | x :: r=>Fn x.1∧Cop x.1 (dP x.1)∧(∀ y ∈ r,Cop x.1 y.1)∧TF r
def aP:List (Pf × Nat)→Nat→Pf
 | [],_=>1
 | x :: r,j=>if j≤x.2 then x.1 * aP r j else aP r j
def sP:List (Pf × Nat)→Nat→Pf
 | [],_=>0
 | x :: r,j=>if j≤x.2 then b8 ((x.2 + 1 - j:Nat):Rat) * (dP x.1 * aP r j) + x.1 * sP r j else sP r j
def eP:List (Pf × Nat)→Nat→Pf
 | [],_=>1
 | x :: r,j=>if x.2=j then x.1 * eP r j else eP r j
def wP (q:Pf):Nat→Pf
 | 0=>1
 | n + 1=>q * wP q n
def fP:List (Pf × Nat)→Pf
 | []=>1
 | x :: r=>wP x.1 x.2 * fP r
def gP1:List (Pf × Nat)→Pf
 | []=>1
 | x :: r=>wP x.1 (x.2 - 1) * gP1 r
theorem as1:∀ {fs:List (Pf × Nat)},(∀ x ∈ fs,Fn x.1)→∀ j,Fn (aP fs j)
 | [],_,_=>G9
 | x :: r,h,j=>by
  unfold aP
  have hr:=as1 (fs:=r) (fun y hy=>h y (List.mem_cons_of_mem _ hy)) j
  split
  ·exact (h x List.mem_cons_self).mul hr
  ·exact hr
theorem aJ4:∀ {fs:List (Pf × Nat)},(∀ x ∈ fs,Fn x.1)→∀ j,Fn (sP fs j)
 | [],_,_=>J3
 | x :: r,h,j=>by
  unfold sP
  have hx:=h x List.mem_cons_self
  have hr:=aJ4 (fs:=r) (fun y hy=>h y (List.mem_cons_of_mem _ hy)) j
  have ha:=as1 (fs:=r) (fun y hy=>h y (List.mem_cons_of_mem _ hy)) j
  split
  ·exact ((w9 _).mul (hx.d.mul ha)).add (hx.mul hr)
  ·exact hr
theorem TF.fn:∀ {fs:List (Pf × Nat)},TF fs→∀ x ∈ fs,Fn x.1
 | [],_,x,hx=>by simp at hx
 | y :: r,h,x,hx=>by
  rcases List.mem_cons.mp hx with z | z
  ·rw [z];exact h.1
  ·exact TF.fn h.2.2.2 x z
theorem aO0 {q:Pf} (fq:Fn q):∀ {fs:List (Pf × Nat)},(∀ x ∈ fs,Fn x.1)→(∀ x ∈ fs,Cop q x.1)→∀ j,Cop q (aP fs j)
 | [],_,_,_=>aF5 q
 | x :: r,h,k,j=>by
  unfold aP
  have fr:=as1 (fs:=r) (fun y hy=>h y (List.mem_cons_of_mem _ hy)) j
  have hr:=aO0 fq (fs:=r) (fun y hy=>h y (List.mem_cons_of_mem _ hy)) (fun y hy=>k y (List.mem_cons_of_mem _ hy)) j
  split
  ·exact Cop.mul fq (h x List.mem_cons_self) fr (k x List.mem_cons_self) hr
  ·exact hr
theorem aG1:∀ {fs:List (Pf × Nat)},TF fs→∀ j,Cop (aP fs j) (sP fs j)
 | [],_,_=>(aF5 _).symm
 | x :: r,h,j=>by
  obtain ⟨fx,cx,ca,hr⟩:=h
  have ih:=aG1 hr j
  have fr:=hr.fn
  unfold aP sP
  split
  ·rename_i hj
   have wz:((x.2 + 1 - j:Nat):Rat) ≠ 0:=fun z=>by
    have z':((x.2 + 1 - j:Nat):Rat)=((0:Nat):Rat):=z
    have:=Rat.natCast_inj.mp z'
    omega
   have FA:=as1 fr j
   have FS:=aJ4 fr j
   have cR:=aO0 fx fr ca j
   have k1:Cop x.1 (b8 ((x.2 + 1 - j:Nat):Rat) * (dP x.1 * aP r j) + x.1 * sP r j):=Cop.addl FS ((Cop.mul fx fx.d FA cx cR).scale wz)
   have k2:Cop (aP r j) (x.1 * sP r j + aP r j * (b8 ((x.2 + 1 - j:Nat):Rat) * dP x.1)):=Cop.addl ((w9 _).mul fx.d) (Cop.mul FA fx FS cR.symm ih)
   have e:x.1 * sP r j + aP r j * (b8 ((x.2 + 1 - j:Nat):Rat) * dP x.1)=b8 ((x.2 + 1 - j:Nat):Rat) * (dP x.1 * aP r j) + x.1 * sP r j:=by grind
   rw [e] at k2
   have FT:Fn (b8 ((x.2 + 1 - j:Nat):Rat) * (dP x.1 * aP r j) + x.1 * sP r j):=((w9 _).mul (fx.d.mul FA)).add (fx.mul FS)
   exact (Cop.mul FT fx FA k1.symm k2.symm).symm
  ·exact ih
theorem bt2:∀ (fs:List (Pf × Nat)) (j:Nat),aP fs j=eP fs j * aP fs (j + 1)
 | [],_=>by show (1:Pf)=1 * 1;grind
 | x :: r,j=>by
  have ih:=bt2 r j
  unfold aP eP
  by_cases h1:x.2=j
  ·rw [if_pos h1,if_pos (by omega),if_neg (by omega),ih];grind
  ·rw [if_neg h1]
   by_cases h2:j≤x.2
   ·rw [if_pos h2,if_pos (by omega),ih];grind
   ·rw [if_neg h2,if_neg (by omega),ih]
theorem bC4:∀ (fs:List (Pf × Nat)) (j:Nat),sP fs j - dP (aP fs j)=eP fs j * sP fs (j + 1)
 | [],_=>by
  show (0:Pf) - dP 1=1 * 0
  rw [aN7];grind
 | x :: r,j=>by
  have ih:=bC4 r j
  have ia:=bt2 r j
  unfold aP eP sP
  by_cases h1:x.2=j
  ·rw [if_pos h1,if_pos (by omega),if_pos (by omega),if_neg (by omega),ag1,show x.2 + 1 - j=1 by omega,show ((1:Nat):Rat)=1 from rfl,p9]
   grind
  ·rw [if_neg h1]
   by_cases h2:j≤x.2
   ·simp only [if_pos h2,if_pos (show j + 1≤x.2 by omega)]
    rw [ag1,show x.2 + 1 - j=(x.2 + 1 - (j + 1)) + 1 by omega,Rat.natCast_add]
    have e:b8 (((x.2 + 1 - (j + 1):Nat):Rat) + ((1:Nat):Rat))=b8 ((x.2 + 1 - (j + 1):Nat):Rat) + 1:=by
     rw [← p9]
     refine Pf.ext fun k=>?_
     show (if k=0 then _ else 0)=(if k=0 then _ else 0) + (if k=0 then (1:Rat) else 0)
     split
     ·rfl
     ·grind
    rw [e]
    generalize b8 ((x.2 + 1 - (j + 1):Nat):Rat)=w
    grind
   ·simp only [if_neg h2,if_neg (show ¬ j + 1≤x.2 by omega)]
    exact ih
theorem dwP (q:Pf):∀ n,dP (wP q (n + 1))=b8 ((n + 1:Nat):Rat) * (wP q n * dP q)
 | 0=>by
  show dP (q * 1)=b8 ((1:Nat):Rat) * (1 * dP q)
  rw [ag1,aN7,show ((1:Nat):Rat)=1 from rfl,p9];grind
 | n + 1=>by
  have ih:=dwP q n
  show dP (q * wP q (n + 1))=b8 ((n + 1 + 1:Nat):Rat) * (wP q (n + 1) * dP q)
  rw [ag1,ih,Rat.natCast_add (n + 1) 1]
  have e:b8 (((n + 1:Nat):Rat) + ((1:Nat):Rat))=b8 ((n + 1:Nat):Rat) + 1:=by
   rw [← p9]
   refine Pf.ext fun k=>?_
   show (if k=0 then _ else 0)=(if k=0 then _ else 0) + (if k=0 then (1:Rat) else 0)
   split
   ·rfl
   ·grind
  rw [e]
  show dP q * (q * wP q n) + _=_ * ((q * wP q n) * dP q)
  generalize b8 ((n + 1:Nat):Rat)=w
  grind
theorem aJ5:∀ {fs:List (Pf × Nat)},(∀ x ∈ fs,1≤x.2)→fP fs=gP1 fs * aP fs 1∧dP (fP fs)=gP1 fs * sP fs 1
 | [],_=>⟨by show (1:Pf)=1 * 1;grind,by show dP 1=1 * 0;rw [aN7];grind⟩
 | x :: r,h=>by
  obtain ⟨i1,i2⟩:=aJ5 (fs:=r) fun y hy=>h y (List.mem_cons_of_mem _ hy)
  have h1:=h x List.mem_cons_self
  obtain ⟨n,hn⟩:∃ n,x.2=n + 1:=⟨x.2 - 1,by omega⟩
  have dw:=dwP x.1 n
  unfold fP gP1 aP sP
  rw [if_pos h1,if_pos h1,hn,Nat.add_sub_cancel]
  refine ⟨?_,?_⟩
  ·show x.1 * wP x.1 n * fP r=_
   rw [i1];grind
  ·rw [ag1,dw,i2,i1]
   show _ + x.1 * wP x.1 n * _=_
   rw [show n + 1 + 1 - 1=n + 1 by omega]
   generalize b8 ((n + 1:Nat):Rat)=w
   grind
structure CC (G P Q:List Int) (K c L g bG:Nat):Prop where
 lG:G.length=g + 1
 tG:A8 G G.length
 gG:t9 G=1
 bG:∀ k,(aZ G k).natAbs < 2 ^ bG
 tP:A8 P P.length
 tQ:A8 Q Q.length
 lp:P.length≤L
 lq:Q.length < P.length
 kP:∀ k,(aZ P k).natAbs≤K
 kQ:∀ k,(aZ Q k).natAbs≤K
 k1:1≤K
 hc:4 * L * K≤2 ^ c
 l9:L≤16
def wG (c L g bG la:Nat):Nat:=wL c L (la - g) + bG + 5
structure CS (G P Q:List Int) (c L g bG:Nat) (A B:List Int):Prop where
 tA:A8 A A.length
 tB:A8 B B.length
 lt:B.length < A.length
 ex:∃ A' B' fa ha fb hb:Pf,Fn A'∧Fn B'∧Fn fa∧Fn ha∧Fn fb∧Fn hb∧zp A=A' * zp G∧zp B=B' * zp G∧Ev (zp P) (zp Q) A' B' fa ha fb hb P.length Q.length (A.length - g) (B.length - g)
 bA:∀ k,(aZ A k).natAbs < 2 ^ wG c L g bG A.length
 bB:∀ k,(aZ B k).natAbs < 2 ^ wG c L g bG A.length
theorem aR2 {B W:Nat} (hB:0 < B) {a:Pf} (h:OvP B W a):∃ z:Nat→Int,(∀ k,a.f k=((B:Int):Rat)⁻¹ * (z k:Rat))∧∀ k,(z k).natAbs < 2 ^ W:=by
 have ex:∀ k,∃ z:Int,a.f k=((B:Int):Rat)⁻¹ * (z:Rat)∧z.natAbs < 2 ^ W:=fun k=>by
  obtain ⟨v,e,b⟩:=h k
  refine ⟨v,?_,b⟩
  rw [e,Rat.divInt_eq_div,Rat.div_def];grind
 exact ⟨fun k=>Classical.choose (ex k),fun k=>(Classical.choose_spec (ex k)).1,fun k=>(Classical.choose_spec (ex k)).2⟩
theorem bt0 {B:Nat} (hB:0 < B):((B:Int):Rat) ≠ 0:=ad3 (by omega)
theorem by5 {R:List Int} {l:Rat} {a:Pf} {B W:Nat} (hB:0 < B) (h:OvP B W a) (e:zp R=b8 l * a) (l0:l ≠ 0) (gR:t9 R=1):∃ g:Int,g ≠ 0∧((B:Int):Rat)=l * (g:Rat):=by
 obtain ⟨z,ez,_⟩:=aR2 hB h
 have Bn:=bt0 hB
 have Bi:=Rat.mul_inv_cancel _ Bn
 have li:=Rat.mul_inv_cancel _ l0
 obtain ⟨g,hg⟩:=bb6 gR (s:=z) (b:=((B:Int):Rat) * l⁻¹) fun k=>by
  have h1:zc R k=l * a.f k:=(congrArg (fun y=>Pf.f y k) e).trans (M1 l a k)
  rw [h1,ez k]
  generalize (((B:Int):Rat))⁻¹=x at *
  generalize ((B:Int):Rat)=b at *
  generalize l⁻¹=y at *
  grind
 refine ⟨g,fun z=>?_,?_⟩
 ·rw [z,Rat.intCast_zero] at hg
  rcases Rat.mul_eq_zero.mp hg with y | y
  ·exact Bn y
  ·rw [y] at li;grind
 ·rw [← hg]
  generalize ((B:Int):Rat)=b at *
  generalize l⁻¹=y at *
  grind
theorem be5 {l:Rat} {s:Pf} {B W:Nat} {g:Int} (hB:0 < B) (h:OvP B W s) (g0:g ≠ 0) (e:((B:Int):Rat)=l * (g:Rat)) {y:Nat→Int} (ey:∀ k,(y k:Rat)=l * s.f k) (k:Nat):(y k).natAbs < 2 ^ W:=by
 obtain ⟨z,ez,bz⟩:=aR2 hB h
 have Bn:=bt0 hB
 have Bi:=Rat.mul_inv_cancel _ Bn
 have:(z k:Rat)=(g:Rat) * (y k:Rat):=by
  rw [ey k,ez k]
  generalize (((B:Int):Rat))⁻¹=x at *
  generalize ((B:Int):Rat)=b at *
  grind
 exact Nat.lt_of_le_of_lt (bz1 (ad3 g0) this) (bz k)
structure Spl (R Z:List Int) (e a s:Pf) (ne na We Wa Ws:Nat) (G P Q:List Int) (m:Rat):Prop where
 tG:A8 G G.length
 lG:G.length=ne + 1
 gG:t9 G=1
 ld:0 < aZ G ne
 bG:∀ k,(aZ G k).natAbs < 2 ^ We
 eG:∃ u:Rat,0 < u∧zp G=b8 u * e
 eR:zp R=zp P * zp G
 eZ:zp Z=zp Q * zp G
 eP:zp P=b8 m * a
 eQ:zp Q=b8 m * s
 gP:t9 P=1
 m0:m ≠ 0
 tP:A8 P P.length
 tQ:A8 Q Q.length
 lP:P.length=na + 1
 lQ:Q.length≤na
 bP:∀ k,(aZ P k).natAbs < 2 ^ Wa
 bQ:∀ k,(aZ Q k).natAbs < 2 ^ Ws
theorem aS1 (A:Nat→Nat→Int) (N:Nat):∀ M,∃ B:Nat,1≤B∧∀ e,e < M→∀ i,i < N→(A e i).natAbs≤B
 | 0=>⟨1,Nat.le_refl _,fun e he=>by omega⟩
 | M + 1=>by
  obtain ⟨B,b1,hB⟩:=aS1 A N M
  obtain ⟨C,hC⟩:∃ C:Nat,∀ i,i < N→(A M i).natAbs≤C:=by
   have:∀ n,∃ C:Nat,∀ i,i < n→(A M i).natAbs≤C:=fun n=>by
    induction n with
    | zero=>exact ⟨0,fun i hi=>by omega⟩
    | succ n ih =>
     obtain ⟨C,h⟩:=ih
     refine ⟨max C (A M n).natAbs,fun i hi=>?_⟩
     rcases Nat.lt_or_ge i n with y | y
     ·have:=h i y;omega
     ·rw [show i=n by omega];omega
   exact this N
  refine ⟨max B C,by omega,fun e he i hi=>?_⟩
  rcases Nat.lt_or_ge e M with y | y
  ·have:=hB e y i hi;omega
  ·rw [show e=M by omega];have:=hC i hi;omega
theorem bD2 (A:Nat→Nat→Rat) {M N:Nat} (h:M < N):∃ d:Nat→Rat,(∃ i,i < N∧d i ≠ 0)∧∀ e,e < M→j4 (fun i=>A e i * d i) N=0:=by
 have ex:∀ e,∃ (D:Nat) (y:Nat→Int),0 < D∧∀ i,i < N→(D:Rat) * A e i=(y i:Rat):=fun e=>by
  obtain ⟨D,D0,hD⟩:=aN5 (A e) N
  have:∀ i,∃ y:Int,i < N→(D:Rat) * A e i=(y:Rat):=fun i=>by
   by_cases hi:i < N
   ·obtain ⟨y,hy⟩:=hD i hi
    exact ⟨y,fun _=>hy⟩
   ·exact ⟨0,fun z=>absurd z hi⟩
  exact ⟨D,fun i=>Classical.choose (this i),D0,fun i hi=>Classical.choose_spec (this i) hi⟩
 obtain ⟨B,b1,hB⟩:=aS1 (fun e i=>Classical.choose (Classical.choose_spec (ex e)) i) N M
 obtain ⟨d,⟨i,hi,di⟩,_,hz⟩:=ba2 (fun e i=>Classical.choose (Classical.choose_spec (ex e)) i) hB h b1
 refine ⟨fun i=>(d i:Rat),⟨i,hi,ad3 di⟩,fun e he=>?_⟩
 obtain ⟨D0,hD⟩:=Classical.choose_spec (Classical.choose_spec (ex e))
 have hz':=hz e he
 have Dn:((Classical.choose (ex e):Nat):Rat) ≠ 0:=fun z=>by
  have z':((Classical.choose (ex e):Nat):Rat)=((0:Nat):Rat):=z
  have:=Rat.natCast_inj.mp z'
  omega
 have key:((Classical.choose (ex e):Nat):Rat) * j4 (fun i=>A e i * (d i:Rat)) N=0:=by
  rw [G3,i8 (g:=fun i=>((Classical.choose (Classical.choose_spec (ex e)) i * d i:Int):Rat)) fun i hi=>?_,← ao8,hz',Rat.intCast_zero]
  rw [Rat.intCast_mul,← hD i hi];grind
 rcases Rat.mul_eq_zero.mp key with y | y
 ·exact absurd y Dn
 ·exact y
theorem ag8 (x:Rat):0≤x * x:=by
 rcases (Rat.le_total (a:=0) (b:=x)) with h | h
 ·exact Rat.mul_nonneg h h
 ·have h':0≤-x:=by grind
  have:=Rat.mul_nonneg h' h'
  grind
theorem al1 {x:Rat} (h:x ≠ 0):0 < x * x:=by
 have h1:=ag8 x
 have h2:x * x ≠ 0:=fun z=>by rcases Rat.mul_eq_zero.mp z with y | y <;> exact h y
 grind
def lf (n:Nat) (c v:Nat→Rat):Rat:=j4 (fun i=>c i * v i) n
theorem aj3 (p:Nat→Bool) (f:Nat→Nat→Rat):∀ n,∃ (rows:List (Nat→Rat)),rows.length=(List.range n).countP p∧∀ k,k < n→p k=true→f k ∈ rows
 | 0=>⟨[],rfl,fun k hk=>by omega⟩
 | n + 1=>by
  obtain ⟨rows,hl,h⟩:=aj3 p f n
  by_cases hp:p n=true
  ·refine ⟨f n :: rows,?_,fun k hk pk=>?_⟩
   ·rw [List.length_cons,hl,List.range_succ,List.countP_append];simp [hp]
   ·rcases Nat.lt_or_ge k n with y | y
    ·exact List.mem_cons_of_mem _ (h k y pk)
    ·rw [show k=n by omega];exact List.mem_cons_self
  ·refine ⟨rows,?_,fun k hk pk=>?_⟩
   ·rw [hl,List.range_succ,List.countP_append];simp [hp]
   ·rcases Nat.lt_or_ge k n with y | y
    ·exact h k y pk
    ·rw [show k=n by omega] at pk;exact absurd pk hp
theorem Y8 {f:Nat→Rat}:∀ n,(∀ i,i < n→0≤f i)→0≤j4 f n
 | 0,_=>by show (0:Rat)≤0;decide
 | n + 1,h=>by
  have h1:=Y8 n fun i hi=>h i (by omega)
  have h2:=h n (by omega)
  show 0≤j4 f n + f n
  grind
theorem aw2 {f:Nat→Rat}:∀ n,(∀ i,i < n→0≤f i)→(∃ i,i < n∧0 < f i)→0 < j4 f n
 | 0,_,⟨i,hi,_⟩=>by omega
 | n + 1,h,⟨i,hi,p⟩=>by
  have h1:=Y8 n fun i hi=>h i (by omega)
  have h2:=h n (by omega)
  show 0 < j4 f n + f n
  rcases Nat.lt_or_ge i n with y | y
  ·have:=aw2 n (fun i hi=>h i (by omega)) ⟨i,y,p⟩
   grind
  ·rw [show i=n by omega] at p
   grind
theorem bn8 {n m:Nat} {a b:Nat→Rat} {f g:Nat→Nat→Rat} (h:∀ v:Nat→Rat,j4 (fun k=>a k * (lf n (f k) v * lf n (f k) v)) n=j4 (fun k=>b k * (lf n (g k) v * lf n (g k) v)) m) (ind:∀ v:Nat→Rat,(∀ k,k < n→lf n (f k) v=0)→∀ i,i < n→v i=0):(List.range n).countP (fun k=>decide (0 < a k))≤(List.range m).countP (fun k=>decide (0 < b k)):=by
 refine Classical.byContradiction fun lt=>?_
 obtain ⟨r1,l1,h1⟩:=aj3 (fun k => !decide (0 < a k)) f n
 obtain ⟨r2,l2,h2⟩:=aj3 (fun k=>decide (0 < b k)) g m
 have cn:(List.range n).countP (fun k => !decide (0 < a k)) + (List.range n).countP (fun k=>decide (0 < a k))=n:=by
  have:=List.length_eq_countP_add_countP (fun k=>decide (0 < a k)) (l:=List.range n)
  rw [List.length_range] at this
  have e:(fun k=>decide ¬(decide (0 < a k))=true)=fun k => !decide (0 < a k):=by
   funext k
   cases decide (0 < a k) <;> rfl
  rw [e] at this
  omega
 obtain ⟨d,⟨i,hi,di⟩,hz⟩:=bD2 (fun e=>((r1 ++ r2)[e]?).getD fun _=>0) (M:=(r1 ++ r2).length) (N:=n) (by rw [List.length_append];omega)
 have zero:∀ c ∈ r1 ++ r2,lf n c d=0:=fun c hc=>by
  obtain ⟨e,he⟩:=List.mem_iff_getElem?.mp hc
  have:=hz e (List.getElem?_eq_some_iff.mp he).1
  rw [he] at this
  exact this
 have hv:=h d
 have lhs:0 < j4 (fun k=>a k * (lf n (f k) d * lf n (f k) d)) n:=by
  refine aw2 n (fun k hk=>?_) ?_
  ·by_cases p:0 < a k
   ·exact Rat.mul_nonneg (Rat.le_of_lt p) (by
     have:=ag8 (lf n (f k) d)
     exact this)
   ·have:=zero (f k) (List.mem_append_left _ (h1 k hk (by simp [p])))
    show 0≤a k * (lf n (f k) d * lf n (f k) d)
    rw [this];grind
  ·have nz:∃ k,k < n∧lf n (f k) d ≠ 0:=Classical.byContradiction fun z=>di (ind d (fun k hk=>Classical.byContradiction fun y=>z ⟨k,hk,y⟩) i hi)
   obtain ⟨k,hk,nk⟩:=nz
   have p:0 < a k:=Classical.byContradiction fun p=>nk (zero (f k) (List.mem_append_left _ (h1 k hk (by simp [p]))))
   exact ⟨k,hk,Rat.mul_pos p (al1 nk)⟩
 have rhs:0≤j4 (fun k=>-(b k * (lf n (g k) d * lf n (g k) d))) m:=Y8 m fun k hk=>by
  by_cases p:0 < b k
  ·have:=zero (g k) (List.mem_append_right _ (h2 k hk (by simp [p])))
   show 0≤-(b k * (lf n (g k) d * lf n (g k) d))
   rw [this];grind
  ·have h1:0≤-(b k):=by grind
   have:=Rat.mul_nonneg h1 (ag8 (lf n (g k) d))
   grind
 have e:j4 (fun k=>-(b k * (lf n (g k) d * lf n (g k) d))) m=-1 * j4 (fun k=>b k * (lf n (g k) d * lf n (g k) d)) m:=by
  rw [G3]
  exact i8 fun k _=>by grind
 rw [e,← hv] at rhs
 grind
def pS (f:Nat→Pf):Nat→Pf
 | 0=>0
 | n + 1=>pS f n + f n
theorem ah3 (f:Nat→Pf):∀ n,pS f (n + 1)=f 0 + pS (fun i=>f (i + 1)) n
 | 0=>by show (0:Pf) + f 0=f 0 + 0;grind
 | n + 1=>by
  rw [pS,ah3 f n,pS];grind
theorem Q8 {f g:Nat→Pf}:∀ {n},(∀ i,i < n→f i=g i)→pS f n=pS g n
 | 0,_=>rfl
 | n + 1,h=>by rw [pS,pS,Q8 fun i hi=>h i (by omega),h n (by omega)]
theorem aq1:∀ (n:Nat) (f:Nat→Pf),pS f n=pS (fun i=>f (n - 1 - i)) n
 | 0,_=>rfl
 | n + 1,f=>by
  rw [ah3 (fun i=>f (n + 1 - 1 - i)) n,pS,aq1 n f]
  have:pS (fun i=>f (n - 1 - i)) n=pS (fun i=>f (n + 1 - 1 - (i + 1))) n:=Q8 fun i hi=>by congr 1;omega
  rw [this]
  show _=f (n + 1 - 1 - 0) + _
  rw [show n + 1 - 1 - 0=n by omega]
  grind
theorem bc2 (f g:Nat→Pf):∀ n,pS f n + pS g n=pS (fun i=>f i + g i) n
 | 0=>by show (0:Pf) + 0=0;grind
 | n + 1=>by rw [pS,pS,pS,← bc2 f g n];grind
theorem bc1 (c:Pf) (f:Nat→Pf):∀ n,c * pS f n=pS (fun i=>c * f i) n
 | 0=>by show c * (0:Pf)=0;grind
 | n + 1=>by rw [pS,pS,← bc1 c f n];grind
theorem aR1 {f:Nat→Pf}:∀ n,(∀ i,i < n→f i=0)→pS f n=0
 | 0,_=>rfl
 | n + 1,h=>by rw [pS,aR1 n fun i hi=>h i (by omega),h n (by omega)];grind
def pv2 (f g:Nat→Pf) (k:Nat):Pf:=pS (fun i=>f i * g (k - i)) (k + 1)
theorem W8 (f g:Nat→Pf) (k:Nat):pv2 f g (k + 1)=f 0 * g (k + 1) + pv2 (fun i=>f (i + 1)) g k:=by
 unfold pv2
 rw [ah3]
 congr 1
 exact Q8 fun i _=>by rw [show k + 1 - (i + 1)=k - i by omega]
theorem W9 (f g:Nat→Pf) (k:Nat):pv2 f g k=pv2 g f k:=by
 unfold pv2
 rw [aq1]
 exact Q8 fun i hi=>by
  rw [show k + 1 - 1 - i=k - i by omega,show k - (k - i)=i by omega];grind
theorem ax1 {f g h l:Nat→Pf} {k:Nat} (a:∀ i,i≤k→f i=g i) (b:∀ i,i≤k→h i=l i):pv2 f h k=pv2 g l k :=
 Q8 fun i hi=>by rw [a i (by omega),b (k - i) (by omega)]
theorem ad0 (f g:Nat→Pf):pv2 f g 0=f 0 * g 0:=by
 show (0:Pf) + f 0 * g 0=_
 grind
theorem aC0 (f g h:Nat→Pf) (k:Nat):pv2 (fun i=>f i + g i) h k=pv2 f h k + pv2 g h k:=by
 unfold pv2
 rw [bc2]
 exact Q8 fun i _=>by grind
theorem bl8 (c:Pf) (f h:Nat→Pf) (k:Nat):pv2 (fun i=>c * f i) h k=c * pv2 f h k:=by
 unfold pv2
 rw [bc1]
 exact Q8 fun i _=>by grind
theorem ax2:∀ (k:Nat) (f g h:Nat→Pf),pv2 (pv2 f g) h k=pv2 f (pv2 g h) k
 | 0,f,g,h=>by rw [ad0,ad0,ad0,ad0];grind
 | k + 1,f,g,h=>by
  rw [W8,W8 f]
  have e1:pv2 (fun i=>pv2 f g (i + 1)) h k=pv2 (fun i=>f 0 * g (i + 1) + pv2 (fun i=>f (i + 1)) g i) h k:=ax1 (fun i _=>W8 f g i) fun _ _=>rfl
  rw [e1,aC0 (fun i=>f 0 * g (i + 1)) (pv2 (fun i=>f (i + 1)) g),bl8 (f 0) (fun i=>g (i + 1)),ax2 k,W8 g]
  rw [ad0];grind
structure Bf where
 r:Nat→Pf
theorem Bf.ext {a b:Bf} (h:∀ k,a.r k=b.r k):a=b:=by
 cases a;cases b
 congr
 funext k
 exact h k
def aO5 (c:Pf):Bf:=⟨fun k=>if k=0 then c else 0⟩
def bp6 (a b:Bf):Bf:=⟨pv2 a.r b.r⟩
def bE3 (a:Bf):Nat→Bf
 | 0=>aO5 1
 | n + 1=>bp6 (bE3 a n) a
theorem T3 (c:Pf) (h:Nat→Pf) (k:Nat):pv2 (fun k=>if k=0 then c else 0) h k=c * h k:=by
 unfold pv2
 rw [ah3]
 rw [aR1 (f:=fun i=>(if i + 1=0 then c else 0) * h (k - (i + 1))) k fun i _=>by rw [if_neg (by omega)];grind]
 show c * h (k - 0) + 0=_
 rw [Nat.sub_zero];grind
theorem ifz (k:Nat):(if k=0 then (0:Pf) else 0)=0:=by split <;> rfl
theorem bw2 (n:Nat):b8 ((n + 1:Nat):Rat)=b8 (n:Rat) + 1:=by
 rw [← p9]
 refine Pf.ext fun k=>?_
 show (if k=0 then ((n + 1:Nat):Rat) else 0)=(if k=0 then (n:Rat) else 0) + (if k=0 then (1:Rat) else 0)
 split
 ·rw [Rat.natCast_add];rfl
 ·grind
theorem p0:b8 ((0:Nat):Rat)=0:=Pf.ext fun k=>by rw [v6];show (if k=0 then ((0:Nat):Rat) else 0)=0;split <;> rfl
theorem p1:b8 ((1:Nat):Rat)=1:=p9
instance instBf:Lean.Grind.CommRing Bf where
 add a b:=⟨fun k=>a.r k + b.r k⟩
 mul:=bp6
 neg a:=⟨fun k=>- a.r k⟩
 sub a b:=⟨fun k=>a.r k - b.r k⟩
 natCast:=⟨fun n=>aO5 (b8 n)⟩
 ofNat n:=⟨aO5 (b8 n)⟩
 intCast:=⟨fun n=>aO5 (b8 n)⟩
 nsmul:=⟨fun n a=>bp6 (aO5 (b8 n)) a⟩
 zsmul:=⟨fun n a=>bp6 (aO5 (b8 n)) a⟩
 npow:=⟨bE3⟩
 add_zero a:=Bf.ext fun k=>by
  show a.r k + (if k=0 then b8 ((0:Nat):Rat) else 0)=a.r k
  rw [p0,ifz];grind
 add_comm a b:=Bf.ext fun k=>by show a.r k + b.r k=b.r k + a.r k;grind
 add_assoc a b c:=Bf.ext fun k=>by show a.r k + b.r k + c.r k=a.r k + (b.r k + c.r k);grind
 mul_assoc a b c:=Bf.ext fun k=>ax2 k a.r b.r c.r
 one_mul a:=Bf.ext fun k=>by
  show pv2 (fun k=>if k=0 then b8 ((1:Nat):Rat) else 0) a.r k=a.r k
  rw [T3,p1];grind
 right_distrib a b c:=Bf.ext fun k=>aC0 a.r b.r c.r k
 mul_zero a:=Bf.ext fun k=>by
  show pv2 a.r (fun k=>if k=0 then b8 ((0:Nat):Rat) else 0) k=(if k=0 then b8 ((0:Nat):Rat) else 0)
  rw [W9,T3,p0,ifz];grind
 mul_comm a b:=Bf.ext fun k=>W9 a.r b.r k
 mul_one a:=Bf.ext fun k=>by
  show pv2 a.r (fun k=>if k=0 then b8 ((1:Nat):Rat) else 0) k=a.r k
  rw [W9,T3,p1];grind
 left_distrib a b c:=Bf.ext fun k=>by
  show pv2 a.r (fun k=>b.r k + c.r k) k=pv2 a.r b.r k + pv2 a.r c.r k
  rw [W9,aC0,W9 b.r,W9 c.r]
 zero_mul a:=Bf.ext fun k=>by
  show pv2 (fun k=>if k=0 then b8 ((0:Nat):Rat) else 0) a.r k=(if k=0 then b8 ((0:Nat):Rat) else 0)
  rw [T3,p0,ifz];grind
 pow_zero a:=Bf.ext fun k=>by
  show (if k=0 then (1:Pf) else 0)=if k=0 then b8 ((1:Nat):Rat) else 0
  rw [p1]
 pow_succ a n:=rfl
 ofNat_succ n:=Bf.ext fun k=>by
  show (if k=0 then b8 ((n + 1:Nat):Rat) else 0)=(if k=0 then b8 (n:Rat) else 0) + (if k=0 then b8 ((1:Nat):Rat) else 0)
  rw [bw2,p1]
  split <;> grind
 neg_add_cancel a:=Bf.ext fun k=>by
  show - a.r k + a.r k=if k=0 then b8 ((0:Nat):Rat) else 0
  rw [p0,ifz];grind
 sub_eq_add_neg a b:=Bf.ext fun k=>by show a.r k - b.r k=a.r k + - b.r k;grind
 neg_zsmul i a:=Bf.ext fun k=>by
  show pv2 (fun k=>if k=0 then b8 ((-i:Int):Rat) else 0) a.r k=- pv2 (fun k=>if k=0 then b8 (i:Rat) else 0) a.r k
  rw [T3,T3,Rat.intCast_neg,L6];grind
 intCast_neg i:=Bf.ext fun k=>by
  show (if k=0 then b8 ((-i:Int):Rat) else 0)=- (if k=0 then b8 (i:Rat) else 0)
  split
  ·rw [Rat.intCast_neg,L6]
  ·grind
def bx (p:Pf):Bf:=⟨fun i=>b8 (p.f i)⟩
def by' (p:Pf):Bf:=aO5 p
theorem bc3 (f:Nat→Rat):∀ n,pS (fun i=>b8 (f i)) n=b8 (j4 f n)
 | 0=>by show (0:Pf)=b8 0;exact p0.symm
 | n + 1=>by
  rw [pS,bc3 f n,j4]
  refine Pf.ext fun k=>?_
  show (if k=0 then j4 f n else 0) + (if k=0 then f n else 0)=if k=0 then j4 f n + f n else 0
  split
  ·rfl
  ·grind
theorem M2 (p q:Pf):bx (p * q)=bx p * bx q:=Bf.ext fun k=>by
 show b8 (cv p.f q.f k)=pv2 (fun i=>b8 (p.f i)) (fun i=>b8 (q.f i)) k
 unfold pv2 cv
 rw [← bc3]
 exact Q8 fun i _=>z4 _ _
theorem O7 (p q:Pf):bx (p + q)=bx p + bx q:=Bf.ext fun k=>by
 show b8 (p.f k + q.f k)=b8 (p.f k) + b8 (q.f k)
 refine Pf.ext fun j=>?_
 show (if j=0 then p.f k + q.f k else 0)=(if j=0 then p.f k else 0) + (if j=0 then q.f k else 0)
 split
 ·rfl
 ·grind
theorem O6 (p q:Pf):bx (p - q)=bx p - bx q:=Bf.ext fun k=>by
 show b8 (p.f k - q.f k)=b8 (p.f k) - b8 (q.f k)
 refine Pf.ext fun j=>?_
 show (if j=0 then p.f k - q.f k else 0)=(if j=0 then p.f k else 0) - (if j=0 then q.f k else 0)
 split
 ·rfl
 ·grind
theorem B3 (p q:Pf):by' (p * q)=by' p * by' q:=Bf.ext fun k=>by
 show (if k=0 then p * q else 0)=pv2 (fun k=>if k=0 then p else 0) (fun k=>if k=0 then q else 0) k
 rw [T3]
 split <;> grind
theorem J1 (p q:Pf):by' (p + q)=by' p + by' q:=Bf.ext fun k=>by
 show (if k=0 then p + q else 0)=(if k=0 then p else 0) + (if k=0 then q else 0)
 split <;> grind
theorem F9 (p q:Pf):by' (p - q)=by' p - by' q:=Bf.ext fun k=>by
 show (if k=0 then p - q else 0)=(if k=0 then p else 0) - (if k=0 then q else 0)
 split <;> grind
theorem A5 (c:Rat):bx (b8 c)=by' (b8 c):=Bf.ext fun k=>by
 show b8 (if k=0 then c else 0)=if k=0 then b8 c else 0
 split
 ·rfl
 ·exact p0
def sgd (i:Nat):Rat:=if i % 2=0 then 1 else -1
abbrev Mt:=Nat→Nat→Rat
def mn (M:Mt) (i:Nat):Mt:=fun r c=>M (if r < i then r else r + 1) (c + 1)
def dt:Nat→Mt→Rat
 | 0,_=>1
 | n + 1,M=>j4 (fun i=>sgd i * M i 0 * dt n (mn M i)) (n + 1)
def IsI (q:Rat):Prop:=∃ z:Int,q=(z:Rat)
def hz (A B:Nat→Rat):Mt:=fun i c=>if c < i / 2 then 0 else if i % 2=0 then B (c - i / 2) else A (c - i / 2)
def behind (A B:Nat→Rat):Nat→Rat:=fun j=>B 0 * A (j + 1) - A 0 * B (j + 1)
def hm (A B:Nat→Rat) (m:Nat):Mt:=fun i c=>if i % 2=1∧i < m then B 0 * hz A B i c - A 0 * hz A B (i - 1) c else hz A B i c
structure Pos (n:Nat) (g:Nat→Nat→Rat):Prop where
 p:∀ i,i≤n→0 < g i 0
 s:∀ i,1≤i→i < n→∀ j,g i 0 * g (i - 1) j=g i 0 * g (i + 1) (j + 1) - g (i + 1) 0 * g i (j + 1)
 l:1≤n→∀ j,g 0 0 * g 1 (j + 1) - g 1 0 * g 0 (j + 1)=0
 z:∀ i j,i≤n→i < 2 * j→g i j=0
def sh (C:Nat→Rat):Nat→Rat
 | 0=>0
 | j + 1=>C j
inductive Hs:Nat→(Nat→Rat)→(Nat→Rat)→Prop where
 | base {A B:Nat→Rat} (h0:A 0 ≠ 0) (hA:∀ j,A (j + 1)=0) (hB:∀ j,B j=0):Hs 0 A B
 | step {n:Nat} {A B C:Nat→Rat} {a:Rat} (ha:0 < a) (hA:∀ j,A j=a * B j + sh C j) (h:Hs n B C):Hs (n + 1) A B
theorem rsq (x:Rat):0≤x * x:=by
 rcases Rat.le_total (a:=0) (b:=x) with h | h
 ·exact Rat.mul_nonneg h h
 ·have:x * x=(-x) * (-x):=by grind
  rw [this]
  exact Rat.mul_nonneg (by grind) (by grind)
abbrev Cz:=Rat × Rat
mutual
inductive HD (H:Hp):V→D→Prop where
 | v {x:V} (f:V2 x=true):HD H x (.v x)
 | tup {p:Addr} {xs:List V} {ds:List D} (h:H p=some (.tup xs)) (t:HDs H xs ds):HD H (.ref p) (.tup ds)
 | lst {p:Addr} {xs:List V} {ds:List D} (h:H p=some (.lst xs)) (t:HDs H xs ds):HD H (.ref p) (.lst ds)
inductive HDs (H:Hp):List V→List D→Prop where
 | nil:HDs H [] []
 | cons {x:V} {xs:List V} {d:D} {ds:List D} (h:HD H x d) (t:HDs H xs ds):HDs H (x :: xs) (d :: ds)
end
def evZ (qs:List Rat):Bool:=(evs qs).all fun q=>decide (q=0)
def odZ (qs:List Rat):Bool:=(ods qs).all fun q=>decide (q=0)
def cOk (c T:Nat):Prop:=(c=10∧T≤14) ∨ (c=40∧T≤5)
structure RowQ (c:Nat) (M:List (List Rat)) (last:List Rat):Prop where
 m:∀ L ∈ M,T9 L L.length∧2≤L.length∧evZ L=true∧∀ x ∈ L,BdN c x
 t:T9 last last.length
 n:last ≠ []
 p:evZ last=true ∨ odZ last=true
 o:∀ x ∈ last,BdN c x
 z:cOk c (last.length - 1 + (M.map fun L=>L.length - 1).sum)
def bD7 (M:List (List Rat)):Nat→Nat
 | 0=>0
 | n + 1=>bD7 M n + (((M[M.length - 1 - n]?).getD []).length - 1)
def dn (M:List (List Rat)) (last:List Rat) (n:Nat):Nat:=last.length - 1 + bD7 M n
structure Prt (M:List (List Rat)) (last:List Rat) (l:Rat):Prop where
 m:∀ L ∈ M,∃ a:Rat,0 < a∧L=[0,a]
 e:last=[l]
 n:l ≠ 0
def gP (M:List (List Rat)) (last:List Rat) (rh:Rat) (i j:Nat):Rat:=if 2 * j≤i then rh * (fld M last i).1.f (i - 2 * j) else 0
theorem aQ6 (a:Rat) (es:List Rat) (g:Pf) (k:Nat):(qp (a :: es) * g).f k=a * g.f k + (if k=0 then 0 else (qp es * g).f (k - 1)):=by
 cases k with
 | zero =>
  show cv (aQ (a :: es)) g.f 0=_
  rw [ak5,if_pos rfl]
  show a * g.f 0=_;grind
 | succ k =>
  show cv (aQ (a :: es)) g.f (k + 1)=_
  rw [ac2,if_neg (by omega),Nat.add_sub_cancel]
  rfl
theorem bl7 (g:Pf) (k:Nat):(qp [] * g).f k=0:=aF2 (fun _=>rfl) g.f k
def at' (g:Pf) (d k:Nat):Rat:=if d≤k then g.f (k - d) else 0
theorem bG2 (g:Pf) (d k:Nat):at' g (d + 1) (k + 1)=at' g d k:=by
 unfold at'
 by_cases h:d≤k
 ·rw [if_pos h,if_pos (by omega:d + 1≤k + 1),Nat.add_sub_add_right]
 ·rw [if_neg h,if_neg (by omega:¬ d + 1≤k + 1)]
theorem bG3 (g:Pf) (d:Nat):at' g (d + 1) 0=0:=if_neg (by omega)
theorem bG1 (g:Pf) (k:Nat):at' g 0 k=g.f k:=if_pos (Nat.zero_le _)
theorem bC9 (g:Pf) (k:Nat):(qp [1] * g).f k=g.f k:=by
 rw [aQ6]
 split
 ·grind
 ·rw [bl7];grind
theorem bs2 (c:Rat) (g:Pf) (k:Nat):(qp [c,1] * g).f k=c * g.f k + at' g 1 k:=by
 rw [aQ6]
 cases k with
 | zero=>rw [if_pos rfl,bG3]
 | succ k=>rw [if_neg (Nat.succ_ne_zero k),Nat.add_sub_cancel,bC9,bG2,bG1]
def rwA (p:Nat→Rat) (n:Nat):Nat→Rat:=fun j=>if 2 * j≤n then p (n - 2 * j) else 0
def rwB (p:Nat→Rat) (n:Nat):Nat→Rat:=fun j=>if 2 * j + 1≤n then p (n - 1 - 2 * j) else 0
def Hp' (p:Pf) (n:Nat):Prop:=Hs n (rwA p.f n) (rwB p.f n)
inductive aY0:Nat→Pf→Prop where
 | lin {r:Rat} (h:0≤r):aY0 1 (qp [-r,1])
 | quad {u v:Rat} (h:0≤u) (hv:0 < v):aY0 2 (qp [u * u + v,-2 * u,1])
 | ev2 {c:Rat} (h:c ≠ 0):aY0 2 (qp [c,0,1])
 | ev4 {c:Rat} (h:c ≠ 0):aY0 4 (qp [c,0,0,0,1])
structure Fac (d l:Nat) (f:Pf):Prop where
 dg:∀ (g:Pf) (m:Nat),(∀ k,m < k→g.f k=0)→∀ k,m + d < k→(f * g).f k=0
 ld:∀ (g:Pf) (m:Nat),(∀ k,m < k→g.f k=0)→(f * g).f (m + d)=g.f m
 le:l≤d
 go:(l=d∧∀ (p:Pf) (n:Nat),(∀ k,n < k→p.f k=0)→Hp' p n→Hp' (f * p) (n + d)) ∨ (l < d∧aY0 d f)
structure Rt (n l:Nat) (p:Pf):Prop where
 nz:p.f n ≠ 0
 hi:∀ k,n < k→p.f k=0
 le:l≤n
 go:(l=n∧Hp' p n) ∨ (l < n∧∃ d e g m,n=m + d∧aY0 d e∧p=e * g∧∀ k,m < k→g.f k=0)
def pX:Pf:=qp [0,1]
theorem aq3 (l:List Rat) (k:Nat) (h:l.length≤k):(qp l).f k=0:=ax0 l k h
theorem ax9 (c:Rat):qp [c,1]=pX + b8 c:=Pf.ext fun k=>by
 rw [F8]
 match k with
 | 0=>show c=0 + c;grind
 | 1=>show (1:Rat)=1 + 0;grind
 | k + 2 =>
  rw [aq3 _ _ (by simp)]
  show (0:Rat)=(qp [0,1]).f (k + 2) + (if k + 2=0 then c else 0)
  rw [aq3 _ _ (by simp),if_neg (by omega)];grind
theorem bC0:pX * pX=qp [0,0,1]:=Pf.ext fun k=>by
 unfold pX
 rw [bs2]
 unfold at'
 match k with
 | 0=>show (0:Rat) * 0 + (if 1≤0 then _ else 0)=0;rw [if_neg (by omega)];grind
 | 1=>rw [if_pos (by omega)];show (0:Rat) * 1 + 0=0;grind
 | 2=>rw [if_pos (by omega)];show (0:Rat) * 0 + 1=1;grind
 | k + 3=>rw [if_pos (by omega),aq3 _ _ (by simp),aq3 _ _ (by simp),aq3 _ _ (by simp)];grind
theorem W4 (c b:Rat):qp [c,b,1]=pX * pX + b8 b * pX + b8 c:=Pf.ext fun k=>by
 rw [F8,F8,bC0,M1]
 unfold pX
 match k with
 | 0=>show c=0 + b * 0 + c;grind
 | 1=>show b=0 + b * 1 + 0;grind
 | 2=>show (1:Rat)=1 + b * 0 + 0;grind
 | k + 3 =>
  rw [aq3 _ _ (by simp),aq3 _ _ (by simp),aq3 _ _ (by simp)]
  show (0:Rat)=0 + b * 0 + (if k + 3=0 then c else 0)
  rw [if_neg (by omega)];grind
theorem dX:dP pX=1:=Pf.ext fun k=>by
 show ((k + 1:Nat):Rat) * (qp [0,1]).f (k + 1)=(1:Pf).f k
 rw [G6]
 match k with
 | 0=>rw [if_pos rfl];show ((1:Nat):Rat) * 1=1;rw [show ((1:Nat):Rat)=1 from rfl];grind
 | k + 1=>rw [if_neg (by omega),aq3 _ _ (by simp)];grind
theorem bF7:Fn pX:=bs7 _
theorem B9 (a b:Rat):b8 (a + b)=b8 a + b8 b:=Pf.ext fun k=>by
 show (if k=0 then a + b else 0)=(if k=0 then a else 0) + (if k=0 then b else 0)
 split
 ·rfl
 ·grind
theorem A9 (a b:Rat):b8 (a - b)=b8 a - b8 b:=Pf.ext fun k=>by
 show (if k=0 then a - b else 0)=(if k=0 then a else 0) - (if k=0 then b else 0)
 split
 ·rfl
 ·grind
theorem ai7 {p q:Pf} {c:Rat} (hc:c ≠ 0) (h:∃ u v,Fn u∧Fn v∧u * p + v * q=b8 c):Cop p q:=by
 obtain ⟨u,v,hu,hv,e⟩:=h
 have i:=B8 hc
 exact ⟨b8 c⁻¹ * u,b8 c⁻¹ * v,(w9 _).mul hu,(w9 _).mul hv,by
  have:b8 c⁻¹ * u * p + b8 c⁻¹ * v * q=b8 c⁻¹ * (u * p + v * q):=by grind
  rw [this,e];grind⟩
inductive Fct:List Rat→Prop where
 | lin (r:Rat):Fct [-r,1]
 | quad (u v:Rat) (hv:0 < v):Fct [u * u + v,-2 * u,1]
theorem as9 {r:Rat} {c b:Rat} (h:r * r + b * r + c ≠ 0):Cop (qp [-r,1]) (qp [c,b,1]):=by
 rw [ax9,W4]
 refine ai7 h ⟨- (pX + b8 (r + b)),1,?_,G9,?_⟩
 ·have:-(pX + b8 (r + b))=0 - (pX + b8 (r + b)):=by grind
  rw [this];exact J3.sub (bF7.add (w9 _))
 ·rw [L6,B9,B9,B9,z4,z4]
  grind
theorem ap6 {u v r:Rat} (hv:0 < v):r * r + -2 * u * r + (u * u + v) ≠ 0:=fun z=>by
 have h1:=rsq (r - u)
 have:(r - u) * (r - u) + v=0:=by grind
 grind
theorem bo4 {p q:List Rat} (hp:Fct p) (hq:Fct q) (ne:p ≠ q):Cop (qp p) (qp q):=by
 cases hp with
 | lin r =>
  cases hq with
  | lin s =>
   have rs:r - s ≠ 0:=fun z=>ne (by rw [show r=s by grind])
   rw [ax9,ax9]
   refine ai7 rs ⟨-1,1,?_,G9,?_⟩
   ·have:(-1:Pf)=0 - 1:=by grind
    rw [this];exact J3.sub G9
   ·rw [L6,L6,A9];grind
  | quad u v hv=>exact as9 (ap6 hv)
 | quad u v hv =>
  cases hq with
  | lin s=>exact (as9 (ap6 hv)).symm
  | quad u' v' hv' =>
   by_cases h:u=u'
   ·subst h
    have vs:v' - v ≠ 0:=fun z=>ne (by rw [show v=v' by grind])
    rw [W4,W4]
    refine ai7 vs ⟨-1,1,?_,G9,?_⟩
    ·have:(-1:Pf)=0 - 1:=by grind
     rw [this];exact J3.sub G9
    ·rw [B9,B9,A9];grind
   ·obtain ⟨α,hα⟩:∃ α,α=-2 * u' - -2 * u:=⟨_,rfl⟩
    have α0:α ≠ 0:=fun z=>h (by grind)
    obtain ⟨r,hr⟩:∃ r,r=(u * u + v - (u' * u' + v')) * α⁻¹:=⟨_,rfl⟩
    have ai:=Rat.mul_inv_cancel _ α0
    have e:α * r=u * u + v - (u' * u' + v'):=by
     rw [hr]
     generalize α⁻¹=y at *
     grind
    have k1:=(as9 (r:=r) (ap6 (u:=u) (r:=r) hv)).symm.scale (c:=α) α0
    have k2:=Cop.addl (c:=1) G9 k1
    have e2:b8 α * qp [-r,1] + qp [u * u + v,-2 * u,1] * 1=qp [u' * u' + v',-2 * u',1]:=by
     rw [ax9,W4,W4]
     have h1:b8 α * b8 r=b8 (u * u + v) - b8 (u' * u' + v'):=by rw [← z4,e,A9]
     have h2:b8 α=b8 (-2 * u') - b8 (-2 * u):=by rw [hα,A9]
     rw [L6]
     generalize b8 (-2 * u')=b' at *
     generalize b8 (-2 * u)=b at *
     generalize b8 (u * u + v)=cc at *
     generalize b8 (u' * u' + v')=c' at *
     generalize b8 α=A at *
     generalize b8 r=R at *
     grind
    rw [e2] at k2
    exact k2
structure FOk1 (x:List Rat × Nat):Prop where
 fc:Fct x.1
 m1:1≤x.2
 m4:x.2≤4
 ov:∃ e,e + x.1.length≤12 * (x.1.length - 1)∧∀ q ∈ x.1,OvB (60 ^ (x.1.length - 1)) e q
def nA:List (List Rat × Nat)→Nat→Nat
 | [],_=>0
 | x :: r,j=>(if j≤x.2 then x.1.length - 1 else 0) + nA r j
structure Mon (p:Pf) (n:Nat):Prop where
 dg:Dg p.f (n + 1)
 ld:p.f n=1
 ov:OvP (60 ^ n) (12 * n + 1) p
def cf (K:Bf) (i j:Nat):Rat:=(K.r i).f j
theorem aF9 {K M:Bf} (h:∀ i j,cf K i j=cf M i j):K=M:=Bf.ext fun i=>Pf.ext fun j=>h i j
theorem bA8 (K M:Bf) (i j:Nat):cf (K + M) i j=cf K i j + cf M i j:=rfl
theorem bi3 (K M:Bf) (i j:Nat):cf (K - M) i j=cf K i j - cf M i j:=rfl
theorem bi5 (p:Pf) (K:Bf) (i j:Nat):cf (by' p * K) i j=(p * K.r i).f j:=by
 show (pv2 (fun k=>if k=0 then p else 0) K.r i).f j=_
 rw [T3]
theorem bA7 (c:Rat) (K:Bf) (i j:Nat):cf (by' (b8 c) * K) i j=c * cf K i j:=by
 rw [bi5,M1];rfl
theorem bE0 (g h:Pf) (i j:Nat):cf (bx g * by' h) i j=g.f i * h.f j:=by
 have e:bx g * by' h=by' h * bx g:=by grind
 rw [e,bi5]
 have e2:h * (bx g).r i=b8 (g.f i) * h:=by show h * b8 (g.f i)=_;grind
 rw [e2,M1]
theorem Z4 (p:Pf) (j:Nat):(pX * p).f j=if j=0 then 0 else p.f (j - 1):=by
 unfold pX
 rw [bs2]
 unfold at'
 by_cases h:j=0
 ·rw [if_neg (by omega),if_pos h];grind
 ·rw [if_pos (by omega),if_neg h];grind
theorem bD9 (K:Bf) (i j:Nat):cf (by' pX * K) i j=if j=0 then 0 else cf K i (j - 1):=by rw [bi5,Z4];rfl
theorem bE1 (K:Bf) (i j:Nat):cf (bx pX * K) i j=if i=0 then 0 else cf K (i - 1) j:=by
 show (pv2 (fun k=>b8 (pX.f k)) K.r i).f j=_
 have px:∀ k,pX.f k=if k=1 then 1 else 0:=fun k=>by
  match k with
  | 0=>rfl
  | 1=>rfl
  | k + 2=>rw [if_neg (by omega)];exact aq3 _ _ (by simp)
 cases i with
 | zero =>
  rw [ad0,if_pos rfl,px,if_neg (by omega)]
  have:b8 (0:Rat) * K.r 0=0:=by rw [show b8 (0:Rat)=0 from p0];grind
  rw [this,v6]
 | succ i =>
  rw [W8,if_neg (by omega),px,if_neg (by omega)]
  have h0:b8 (0:Rat) * K.r (i + 1)=0:=by rw [show b8 (0:Rat)=0 from p0];grind
  have h1:pv2 (fun k=>b8 (pX.f (k + 1))) K.r i=pv2 (fun k=>if k=0 then (1:Pf) else 0) K.r i:=ax1 (fun k _=>by
   rw [px]
   by_cases z:k=0
   ·rw [if_pos (by omega),if_pos z,p9]
   ·rw [if_neg (by omega),if_neg z];exact p0) fun _ _=>rfl
  rw [h0,h1,T3,Nat.add_sub_cancel]
  have:(0:Pf) + 1 * K.r i=K.r i:=by grind
  rw [this];rfl
def dXY:Bf:=bx pX - by' pX
theorem bi4 (K:Bf) (i j:Nat):cf (dXY * K) i j=(if i=0 then 0 else cf K (i - 1) j) - (if j=0 then 0 else cf K i (j - 1)):=by
 have e:dXY * K=bx pX * K - by' pX * K:=by unfold dXY;grind
 rw [e,bi3,bE1,bD9]
theorem bj7 {K:Bf} (h:dXY * K=0):K=0:=by
 have z:∀ i j,cf (0:Bf) i j=0:=fun i j=>by
  show (if i=0 then b8 ((0:Nat):Rat) else 0:Pf).f j=0
  rw [p0,ifz,v6]
 have rel:∀ i j,(if i=0 then 0 else cf K (i - 1) j) - (if j=0 then 0 else cf K i (j - 1))=0:=fun i j=>by rw [← bi4,h,z]
 have key:∀ j i,cf K i j=0:=fun j=>by
  induction j with
  | zero =>
   intro i
   have:=rel (i + 1) 0
   rw [if_neg (by omega),if_pos rfl,Nat.add_sub_cancel] at this
   grind
  | succ j ih =>
   intro i
   have h1:=rel (i + 1) (j + 1)
   rw [if_neg (by omega),if_neg (by omega),Nat.add_sub_cancel,Nat.add_sub_cancel,ih] at h1
   grind
 exact aF9 fun i j=>by rw [key j i,z]
theorem av8 {K M:Bf} (h:dXY * K=dXY * M):K=M:=by
 have:=bj7 (K:=K - M) (by grind)
 grind
def del (R:Pf):Bf:=⟨fun i=>⟨fun j=>R.f (i + j + 1)⟩⟩
theorem aN6 (R:Pf):dXY * del R=bx R - by' R:=aF9 fun i j=>by
 rw [bi4,bi3]
 have hx:cf (bx R) i j=if j=0 then R.f i else 0:=rfl
 have hy:cf (by' R) i j=if i=0 then R.f j else 0:=by
  show (if i=0 then R else 0:Pf).f j=_
  split
  ·rfl
  ·exact v6 j
 rw [hx,hy]
 have hd:∀ a b,cf (del R) a b=R.f (a + b + 1):=fun _ _=>rfl
 rw [hd,hd]
 by_cases i0:i=0
 ·subst i0
  rw [if_pos rfl,if_pos rfl]
  by_cases j0:j=0
  ·subst j0;rw [if_pos rfl,if_pos rfl];grind
  ·rw [if_neg j0,if_neg j0,show 0 + (j - 1) + 1=j by omega]
 ·rw [if_neg i0,if_neg i0]
  by_cases j0:j=0
  ·subst j0;rw [if_pos rfl,if_pos rfl,show i - 1 + 0 + 1=i by omega]
  ·rw [if_neg j0,if_neg j0,show i - 1 + j + 1=i + (j - 1) + 1 by omega];grind
def IsE (a:Rat) (p q:Pf) (K:Bf):Prop:=dXY * K=bx p * by' ((b8 a - pX) * q) - by' p * bx ((b8 a - pX) * q)
theorem aJ0 (a:Rat) (p:Pf):IsE a p 0 0:=by
 unfold IsE
 have e:(b8 a - pX) * 0=0:=by grind
 have h1:by' (0:Pf)=0:=Bf.ext fun k=>by
  show (if k=0 then (0:Pf) else 0)=if k=0 then b8 ((0:Nat):Rat) else 0
  rw [p0]
 have h2:bx (0:Pf)=0:=Bf.ext fun k=>by
  show b8 ((0:Pf).f k)=if k=0 then b8 ((0:Nat):Rat) else 0
  rw [v6,p0,ifz];exact p0
 rw [e,h1,h2];grind
theorem ah9 {a c:Rat} {p q r Q R:Pf} {K:Bf} (hp:p=Q * q - r) (hQ:Q=b8 c + (pX - b8 a) * R) (h:IsE a q r K):IsE a p q (by' (b8 c) * (bx q * by' q) - bx ((pX - b8 a) * q) * by' ((pX - b8 a) * q) * del R - bx q * by' r - bx r * by' q + K):=by
 unfold IsE at h ⊢
 have hd:=aN6 R
 have hc:=A5 c
 have ha:=A5 a
 subst hp
 simp only [M2,O7,O6,B3,J1,F9] at h hd ⊢
 have e1:bx Q=bx (b8 c) + (bx pX - bx (b8 a)) * bx R:=by rw [hQ,O7,M2,O6]
 have e2:by' Q=by' (b8 c) + (by' pX - by' (b8 a)) * by' R:=by rw [hQ,J1,B3,F9]
 rw [e1,e2]
 rw [hc,ha] at *
 unfold dXY at *
 generalize bx pX=x at *
 generalize by' pX=y at *
 generalize bx q=qx at *
 generalize by' q=qy at *
 generalize bx r=rx at *
 generalize by' r=ry at *
 generalize bx R=Rx at *
 generalize by' R=Ry at *
 generalize by' (b8 c)=C at *
 generalize by' (b8 a)=A at *
 generalize del R=D at *
 grind
def qf (n:Nat) (K:Bf) (v:Nat→Rat):Rat:=j4 (fun i=>j4 (fun j=>cf K i j * (v i * v j)) n) n
theorem bv9 (n:Nat) (K M:Bf) (v:Nat→Rat):qf n (K + M) v=qf n K v + qf n M v:=by
 unfold qf
 rw [P2]
 refine i8 fun i _=>?_
 rw [P2]
 exact i8 fun j _=>by rw [bA8];grind
theorem bC7 (n:Nat) (c:Rat) (g:Pf) (v:Nat→Rat):qf n (by' (b8 c) * (bx g * by' g)) v=c * (lf n g.f v * lf n g.f v):=by
 unfold qf
 have h1:∀ i,j4 (fun j=>cf (by' (b8 c) * (bx g * by' g)) i j * (v i * v j)) n=c * (g.f i * v i) * lf n g.f v:=fun i=>by
  unfold lf
  rw [G3]
  exact i8 fun j _=>by rw [bA7,bE0];grind
 rw [i8 (g:=fun i=>(c * lf n g.f v) * (g.f i * v i)) fun i _=>by rw [h1];grind,← G3]
 show c * lf n g.f v * lf n g.f v=_
 grind
theorem bE2 (i j:Nat):cf (0:Bf) i j=0:=by
 show (if i=0 then b8 ((0:Nat):Rat) else 0:Pf).f j=0
 rw [p0,ifz,v6]
def sqK:List (Rat × Pf)→Bf
 | []=>0
 | x :: r=>by' (b8 x.1) * (bx x.2 * by' x.2) + sqK r
def sqV (n:Nat) (v:Nat→Rat):List (Rat × Pf)→Rat
 | []=>0
 | x :: r=>x.1 * (lf n x.2.f v * lf n x.2.f v) + sqV n v r
theorem aL5 (n:Nat) (v:Nat→Rat):∀ L,qf n (sqK L) v=sqV n v L
 | []=>by
  show j4 _ n=0
  refine z5 n fun i _=>?_
  exact z5 n fun j _=>by show cf 0 i j * _=0;rw [bE2];grind
 | x :: r=>by
  show qf n (by' (b8 x.1) * (bx x.2 * by' x.2) + sqK r) v=_
  rw [bv9,bC7,aL5 n v r];rfl
theorem aA6 (n:Nat) (v:Nat→Rat):∀ L:List (Rat × Pf),sqV n v L=j4 (fun k=>((L[k]?).getD (0,0)).1 * (lf n ((L[k]?).getD (0,0)).2.f v * lf n ((L[k]?).getD (0,0)).2.f v)) L.length
 | []=>rfl
 | x :: r=>by
  rw [List.length_cons,K0]
  show _ + sqV n v r=_
  rw [aA6 n v r];rfl
def aL8 (x:Rat × Pf):Bool:=decide (0 < x.1)
def af6 (x:Rat × Pf):Bool:=decide (x.1 < 0)
theorem ac3 {α:Type} (d:α) (p:α→Bool):∀ L:List α,(List.range L.length).countP (fun k=>p ((L[k]?).getD d))=L.countP p
 | []=>rfl
 | x :: r=>by
  have ih:=ac3 d p r
  rw [List.length_cons,List.range_succ_eq_map,List.countP_cons,List.countP_map,List.countP_cons,← ih]
  rfl
def Ind (n:Nat) (L:List (Rat × Pf)):Prop:=∀ v:Nat→Rat,(∀ x ∈ L,lf n x.2.f v=0)→∀ i,i < n→v i=0
theorem ai1 {n:Nat} {L M:List (Rat × Pf)} (h:sqK L=sqK M) (ln:L.length=n) (ind:Ind n L):L.countP aL8≤M.countP aL8:=by
 have key:=bn8 (n:=n) (m:=M.length) (a:=fun k=>((L[k]?).getD (0,0)).1) (b:=fun k=>((M[k]?).getD (0,0)).1) (f:=fun k=>((L[k]?).getD (0,0)).2.f) (g:=fun k=>((M[k]?).getD (0,0)).2.f) (fun v=>by
  have h1:=aL5 n v L
  have h2:=aL5 n v M
  rw [h] at h1
  rw [h1,aA6,aA6,ln] at h2
  exact h2) (fun v hv=>ind v fun x hx=>by
  obtain ⟨k,hk⟩:=List.mem_iff_getElem?.mp hx
  have hl:=(List.getElem?_eq_some_iff.mp hk).1
  have:=hv k (by omega)
  rw [hk] at this
  exact this)
 have e1:=ac3 (0,0) aL8 L
 have e2:=ac3 (0,0) aL8 M
 rw [ln] at e1
 rw [← e1,← e2]
 exact key
def ar2 (L:List (Rat × Pf)):List (Rat × Pf):=L.map fun x=>(-x.1,x.2)
theorem aD7:∀ L,sqK (ar2 L)=0 - sqK L
 | []=>by show (0:Bf)=0 - 0;grind
 | x :: r=>by
  show by' (b8 (-x.1)) * (bx x.2 * by' x.2) + sqK (ar2 r)=0 - (by' (b8 x.1) * (bx x.2 * by' x.2) + sqK r)
  have e:by' (b8 (-x.1))=0 - by' (b8 x.1):=by
   have h0:b8 (-x.1)=0 - b8 x.1:=by rw [L6];grind
   have hz:by' (0:Pf)=0:=Bf.ext fun k=>by
    show (if k=0 then (0:Pf) else 0)=if k=0 then b8 ((0:Nat):Rat) else 0
    rw [p0]
   rw [h0,F9,hz]
  rw [aD7 r,e];grind
theorem aj8:∀ L:List (Rat × Pf),(ar2 L).countP aL8=L.countP af6
 | []=>rfl
 | x :: r=>by
  have ih:=aj8 r
  show ((-x.1,x.2) :: ar2 r).countP aL8=_
  rw [List.countP_cons,List.countP_cons,ih]
  have e:aL8 (-x.1,x.2)=af6 x:=by
   show decide (0 < -x.1)=decide (x.1 < 0)
   rw [decide_eq_decide]
   refine ⟨fun h=>by grind,fun h=>by grind⟩
  rw [e]
theorem Ind.neg {n:Nat} {L:List (Rat × Pf)} (h:Ind n L):Ind n (ar2 L):=fun v hv=>h v fun x hx=>hv (-x.1,x.2) (List.mem_map.mpr ⟨x,hx,rfl⟩)
theorem al6 {n:Nat} {L M:List (Rat × Pf)} (h:sqK L=sqK M) (ln:L.length=n) (lm:M.length=n) (iL:Ind n L) (iM:Ind n M):L.countP af6=M.countP af6:=by
 have h':sqK (ar2 L)=sqK (ar2 M):=by rw [aD7,aD7,h]
 have l1:(ar2 L).length=n:=by unfold ar2;rw [List.length_map];exact ln
 have l2:(ar2 M).length=n:=by unfold ar2;rw [List.length_map];exact lm
 have a:=ai1 h' l1 iL.neg
 have b:=ai1 h'.symm l2 iM.neg
 rw [aj8,aj8] at a b
 omega
def cmb (d:Nat→Rat) (g:Nat→Pf):Nat→Pf
 | 0=>0
 | k + 1=>cmb d g k + b8 (d k) * g k
theorem aO2 (d:Nat→Rat) (g:Nat→Pf) (i:Nat):∀ m,(cmb d g m).f i=j4 (fun k=>d k * (g k).f i) m
 | 0=>v6 i
 | m + 1=>by
  show (cmb d g m + b8 (d m) * g m).f i=_
  rw [F8,aO2 d g i m,M1];rfl
theorem bz2 {n:Nat} {g:Nat→Pf} (dg:∀ k,k < n→Dg (g k).f n) (h:∀ d:Nat→Rat,cmb d g n=0→∀ k,k < n→d k=0):∀ v:Nat→Rat,(∀ k,k < n→lf n (g k).f v=0)→∀ i,i < n→v i=0:=by
 intro v hv i0 hi0
 refine Classical.byContradiction fun vi=>?_
 obtain ⟨m,rfl⟩:∃ m,n=m + 1:=⟨n - 1,by omega⟩
 -- coordinates without i0
 obtain ⟨d,⟨k0,hk0,dk0⟩,hd⟩:=bD2 (fun e k=>(g k).f (if e < i0 then e else e + 1)) (M:=m) (N:=m + 1) (by omega)
 refine dk0 (h d ?_ k0 hk0)
 have z:∀ i,i < m + 1→i ≠ i0→(cmb d g (m + 1)).f i=0:=fun i hi ne=>by
  rw [aO2]
  rcases Nat.lt_or_ge i i0 with y | y
  ·have:=hd i (by omega)
   simp only [if_pos y] at this
   rw [← this]
   exact i8 fun k _=>by grind
  ·have:=hd (i - 1) (by omega)
   simp only [if_neg (show ¬ i - 1 < i0 by omega),show i - 1 + 1=i by omega] at this
   rw [← this]
   exact i8 fun k _=>by grind
 have tot:lf (m + 1) (cmb d g (m + 1)).f v=0:=by
  have e:∀ j,lf (m + 1) (cmb d g j).f v=j4 (fun k=>d k * lf (m + 1) (g k).f v) j:=fun j=>by
   induction j with
   | zero=>exact z5 _ fun i _=>by show (0:Pf).f i * v i=0;rw [v6];grind
   | succ j ih =>
    show lf (m + 1) (cmb d g j + b8 (d j) * g j).f v=j4 _ j + d j * lf (m + 1) (g j).f v
    rw [← ih]
    unfold lf
    rw [G3,P2]
    exact i8 fun i _=>by rw [F8,M1];grind
  rw [e]
  exact z5 _ fun k hk=>by rw [hv k hk];grind
 have one:lf (m + 1) (cmb d g (m + 1)).f v=(cmb d g (m + 1)).f i0 * v i0:=by
  unfold lf
  rw [i8 (g:=fun i=>if i=i0 then (cmb d g (m + 1)).f i * v i else 0) fun i hi=>?_,N6,if_pos hi0]
  by_cases z':i=i0
  ·rw [if_pos z']
  ·rw [if_neg z',z i hi z'];grind
 rw [one] at tot
 have zi0:(cmb d g (m + 1)).f i0=0:=by
  rcases Rat.mul_eq_zero.mp tot with y | y
  ·exact y
  ·exact absurd y vi
 refine Pf.ext fun i=>?_
 rw [v6]
 rcases Nat.lt_or_ge i (m + 1) with y | y
 ·by_cases z':i=i0
  ·rw [z'];exact zi0
  ·exact z i y z'
 ·rw [aO2]
  exact z5 _ fun k hk=>by rw [dg k hk i y];grind
structure Lm (p:Pf) (n:Nat):Prop where
 dg:Dg p.f (n + 1)
 ld:p.f n ≠ 0
theorem Lm.fn {p:Pf} {n:Nat} (h:Lm p n):Fn p:=⟨_,h.dg⟩
theorem Lm.mul {p q:Pf} {m n:Nat} (h:Lm p m) (k:Lm q n):Lm (p * q) (m + n):=⟨fun i hi=>(Dg.cv h.dg k.dg) i (by omega),by
 show cv _ _ _ ≠ 0
 rw [aF3 h.dg k.dg]
 exact fun z=>by
  rcases Rat.mul_eq_zero.mp z with y | y
  ·exact h.ld y
  ·exact k.ld y⟩
theorem Lm.zero {p Z:Pf} {n:Nat} (h:Lm p n) (fz:Fn Z) (d:Dg (p * Z).f n):Z=0:=by
 obtain ⟨m,hm⟩:=fz
 have key:∀ j,j≤m→Dg Z.f (m - j):=fun j=>by
  induction j with
  | zero=>intro _;exact hm
  | succ j ih =>
   intro hj
   have hz:=ih (by omega)
   obtain ⟨t,ht⟩:∃ t,m - j=t + 1:=⟨m - j - 1,by omega⟩
   rw [ht] at hz
   have e:=d (n + t) (by omega)
   have e2:(p * Z).f (n + t)=p.f n * Z.f t:=aF3 h.dg hz
   rw [e2] at e
   rcases Rat.mul_eq_zero.mp e with y | y
   ·exact absurd y h.ld
   ·intro i hi
    by_cases z:i=t
    ·rw [z];exact y
    ·exact hz i (by omega)
 refine Pf.ext fun i=>?_
 rw [v6]
 exact key m (Nat.le_refl _) i (by omega)
theorem bh8 {f g U W:Pf} {n m:Nat} (c:Cop f g) (lf:Lm f n) (lg:Lm g m) (fU:Fn U) (fW:Fn W) (dU:Dg U.f n) (h:g * U + f * W=0):U=0∧W=0:=by
 obtain ⟨u,v,hu,hv,e⟩:=c
 have e1:U=f * (u * U - v * W):=by
  have:U=(u * f + v * g) * U:=by rw [e];grind
  grind
 have fz:Fn (u * U - v * W):=(hu.mul fU).sub (hv.mul fW)
 have z:=lf.zero fz (by rw [← e1];exact dU)
 have U0:U=0:=by rw [e1,z];grind
 refine ⟨U0,lf.zero fW ?_⟩
 have:f * W=0:=by rw [U0] at h;grind
 rw [this]
 exact fun i _=>v6 i
def cm:(Nat→Rat)→List (Rat × Pf)→Pf
 | _,[]=>0
 | d,x :: r=>b8 (d 0) * x.2 + cm (fun k=>d (k + 1)) r
def LI (L:List (Rat × Pf)):Prop:=∀ d:Nat→Rat,cm d L=0→∀ k,k < L.length→d k=0
theorem bi0 {n:Nat}:∀ (L:List (Rat × Pf)) (d:Nat→Rat),(∀ x ∈ L,Dg x.2.f n)→Dg (cm d L).f n
 | [],_,_=>fun i _=>v6 i
 | x :: r,d,h=>fun i hi=>by
  show (b8 (d 0) * x.2 + cm _ r).f i=0
  rw [F8,M1,h x List.mem_cons_self i hi,bi0 r _ (fun y hy=>h y (List.mem_cons_of_mem _ hy)) i hi]
  grind
theorem bi1:∀ (L M:List (Rat × Pf)) (d:Nat→Rat),cm d (L ++ M)=cm d L + cm (fun k=>d (k + L.length)) M
 | [],M,d=>by show cm d M=0 + cm d M;grind
 | x :: r,M,d=>by
  show b8 (d 0) * x.2 + cm _ (r ++ M)=b8 (d 0) * x.2 + cm _ r + cm _ M
  rw [bi1 r M]
  have:(fun k=>d (k + r.length + 1))=fun k=>d (k + (x :: r).length):=funext fun k=>by rw [List.length_cons];congr 1
  show b8 (d 0) * x.2 + (cm _ r + cm (fun k=>d (k + r.length + 1)) M)=_
  rw [this];grind
def mL (c:Rat) (g:Pf) (L:List (Rat × Pf)):List (Rat × Pf):=L.map fun x=>(c * x.1,g * x.2)
theorem aT1 (c:Rat) (g:Pf):∀ (L:List (Rat × Pf)) (d:Nat→Rat),cm d (mL c g L)=g * cm d L
 | [],d=>by show (0:Pf)=g * 0;grind
 | x :: r,d=>by
  show b8 (d 0) * (g * x.2) + cm _ (mL c g r)=g * (b8 (d 0) * x.2 + cm _ r)
  rw [aT1 c g r];grind
theorem af0 (c:Rat) (g:Pf):∀ L,sqK (mL c g L)=by' (b8 c) * (bx g * by' g) * sqK L
 | []=>by show (0:Bf)=_ * 0;grind
 | x :: r=>by
  show by' (b8 (c * x.1)) * (bx (g * x.2) * by' (g * x.2)) + sqK (mL c g r)=_ * (by' (b8 x.1) * (bx x.2 * by' x.2) + sqK r)
  rw [af0 c g r,z4,B3,M2,B3]
  generalize by' (b8 c)=C
  generalize by' (b8 x.1)=D
  generalize bx g=p
  generalize by' g=q
  generalize bx x.2=s
  generalize by' x.2=t
  generalize sqK r=K
  grind
theorem V7:∀ L M,sqK (L ++ M)=sqK L + sqK M
 | [],M=>by show sqK M=0 + sqK M;grind
 | x :: r,M=>by
  show _ + sqK (r ++ M)=_ + sqK r + sqK M
  rw [V7 r M];grind
theorem ab8 {c:Rat} (hc:0 < c) (g:Pf):∀ L,(mL c g L).countP af6=L.countP af6
 | []=>rfl
 | x :: r=>by
  show ((c * x.1,g * x.2) :: mL c g r).countP af6=_
  rw [List.countP_cons,List.countP_cons,ab8 hc g r]
  have e:af6 (c * x.1,g * x.2)=af6 x:=by
   show decide (c * x.1 < 0)=decide (x.1 < 0)
   rw [decide_eq_decide]
   refine ⟨fun h=>?_,fun h=>?_⟩
   ·refine Classical.byContradiction fun y=>?_
    have:=Rat.mul_nonneg (Rat.le_of_lt hc) (Rat.not_lt.mp y)
    grind
   ·have:=Rat.mul_pos hc (show 0 < -x.1 by grind)
    grind
  rw [e]
theorem V0 (c:Rat) (g:Pf) (L:List (Rat × Pf)):(mL c g L).length=L.length:=by unfold mL;rw [List.length_map]
structure Sq (a:Rat) (p q:Pf) (n N:Nat) (L:List (Rat × Pf)):Prop where
 e:IsE a p q (sqK L)
 ln:L.length=n
 dg:∀ x ∈ L,Dg x.2.f n
 li:LI L
 ng:L.countP af6=N
theorem be7 {a:Rat} {f g qf qg:Pf} {Kf Kg:Bf} (hf:IsE a f qf Kf) (hg:IsE a g qg Kg):IsE a (f * g) (qf * g + f * qg) (bx g * by' g * Kf + bx f * by' f * Kg):=by
 unfold IsE at *
 have ha:=A5 a
 simp only [M2,O7,O6,B3,J1,F9] at hf hg ⊢
 rw [ha] at *
 generalize bx pX=x at *
 generalize by' pX=y at *
 generalize bx f=fx at *
 generalize by' f=fy at *
 generalize bx g=gx at *
 generalize by' g=gy at *
 generalize bx qf=fx' at *
 generalize by' qf=fy' at *
 generalize bx qg=gx' at *
 generalize by' qg=gy' at *
 generalize by' (b8 a)=A at *
 generalize dXY=d at *
 grind
theorem bD3 {a c:Rat} {p q:Pf} {K:Bf} (h:IsE a p q K):IsE a p (b8 c * q) (by' (b8 c) * K):=by
 unfold IsE at *
 have ha:=A5 a
 have hc:=A5 c
 simp only [M2,O7,O6,B3,J1,F9] at h ⊢
 rw [ha,hc] at *
 generalize bx pX=x at *
 generalize by' pX=y at *
 generalize bx p=fx at *
 generalize by' p=fy at *
 generalize bx q=gx at *
 generalize by' q=gy at *
 generalize by' (b8 a)=A at *
 generalize by' (b8 c)=C at *
 generalize dXY=d at *
 grind
theorem G0:by' (1:Pf)=1:=Bf.ext fun k=>by
 show (if k=0 then (1:Pf) else 0)=if k=0 then b8 ((1:Nat):Rat) else 0
 rw [p1]
theorem ag3:bx (1:Pf)=1:=by rw [← p9,A5,p9,G0]
theorem Sq.often {a:Rat} {p q:Pf} {n N:Nat} {L:List (Rat × Pf)} (h:Sq a p q n N L) {c:Rat} (hc:0 < c):Sq a p (b8 c * q) n N (mL c 1 L) where
 e:=by
  rw [af0,G0,ag3]
  have e:by' (b8 c) * (1 * 1) * sqK L=by' (b8 c) * sqK L:=by grind
  rw [e]
  exact bD3 h.e
 ln:=by rw [V0];exact h.ln
 dg:=fun x hx=>by
  obtain ⟨y,hy,e⟩:=List.mem_map.mp hx
  rw [← e]
  show Dg (1 * y.2).f n
  have:1 * y.2=y.2:=by grind
  rw [this];exact h.dg y hy
 li:=fun d hd k hk=>by
  rw [aT1] at hd
  rw [V0] at hk
  exact h.li d (by rw [← hd];grind) k hk
 ng:=by rw [ab8 hc];exact h.ng
theorem Sq.mul {a:Rat} {f g qf qg:Pf} {nf ng Nf Ng:Nat} {Lf Lg:List (Rat × Pf)} (hf:Sq a f qf nf Nf Lf) (hg:Sq a g qg ng Ng Lg) (c:Cop f g) (mf:Lm f nf) (mg:Lm g ng):Sq a (f * g) (qf * g + f * qg) (nf + ng) (Nf + Ng) (mL 1 g Lf ++ mL 1 f Lg) where
 e:=by
  rw [V7,af0,af0,p9,G0]
  have e1:1 * (bx g * by' g) * sqK Lf + 1 * (bx f * by' f) * sqK Lg=bx g * by' g * sqK Lf + bx f * by' f * sqK Lg:=by grind
  rw [e1]
  exact be7 hf.e hg.e
 ln:=by rw [List.length_append,V0,V0,hf.ln,hg.ln]
 dg:=fun x hx=>by
  rcases List.mem_append.mp hx with y | y
  ·obtain ⟨z,hz,e⟩:=List.mem_map.mp y
   rw [← e]
   exact fun i hi=>(Dg.cv mg.dg (hf.dg z hz)) i (by omega)
  ·obtain ⟨z,hz,e⟩:=List.mem_map.mp y
   rw [← e]
   exact fun i hi=>(Dg.cv mf.dg (hg.dg z hz)) i (by omega)
 li:=fun d hd k hk=>by
  rw [bi1,aT1,aT1,V0] at hd
  have dU:=bi0 Lf d hf.dg
  have dW:=bi0 Lg (fun k=>d (k + Lf.length)) hg.dg
  obtain ⟨u,w⟩:=bh8 c mf mg ⟨_,dU⟩ ⟨_,dW⟩ dU hd
  rw [List.length_append,V0,V0] at hk
  rcases Nat.lt_or_ge k Lf.length with y | y
  ·exact hf.li d u k y
  ·have:=hg.li _ w (k - Lf.length) (by omega)
   simp only [Nat.sub_add_cancel y] at this
   exact this
 ng:=by rw [List.countP_append,ab8 (by decide +kernel),ab8 (by decide +kernel),hf.ng,hg.ng]
theorem by4 {n:Nat} {L:List (Rat × Pf)} (ln:L.length=n) (dg:∀ x ∈ L,Dg x.2.f n) (li:LI L):Ind n L:=by
 have cmb_cm:∀ (M:List (Rat × Pf)) (d:Nat→Rat),cmb d (fun k=>((M[k]?).getD (0,0)).2) M.length=cm d M:=fun M=>by
  induction M with
  | nil=>intro d;rfl
  | cons x r ih =>
   intro d
   rw [List.length_cons]
   have sh:∀ (j:Nat) (d:Nat→Rat) (g:Nat→Pf),cmb d g (j + 1)=b8 (d 0) * g 0 + cmb (fun k=>d (k + 1)) (fun k=>g (k + 1)) j:=fun j=>by
    induction j with
    | zero=>intro d g;show (0:Pf) + _=_ + 0;grind
    | succ j ih2 =>
     intro d g
     show cmb d g (j + 1) + _=_ + (cmb _ _ j + _)
     rw [ih2];grind
   rw [sh]
   show b8 (d 0) * x.2 + cmb (fun k=>d (k + 1)) (fun k=>((r[k]?).getD (0,0)).2) r.length=b8 (d 0) * x.2 + cm _ r
   rw [ih]
 intro v hv
 refine bz2 (g:=fun k=>((L[k]?).getD (0,0)).2) (fun k hk=>?_) (fun d hd=>?_) v fun k hk=>?_
 ·have hk':k < L.length:=by omega
  simp only [List.getElem?_eq_getElem hk',Option.getD_some]
  exact dg _ (List.getElem_mem hk')
 ·rw [← ln,cmb_cm] at hd
  rw [← ln]
  exact li d hd
 ·have hk':k < L.length:=by omega
  simp only [List.getElem?_eq_getElem hk',Option.getD_some]
  exact hv _ (List.getElem_mem hk')
def nQ (d w:Rat):Nat:=if d=0 then 1 else (if d < 0 then 1 else 0) + (if -(w / d) * (w + d * d) < 0 then 1 else 0)
inductive Rf:Pf→Nat→(Rat→Nat)→Prop where
 | lin (r:Rat):Rf (pX - b8 r) 1 (fun a=>if a < r then 1 else 0)
 | quad (u w:Rat) (hw:w ≠ 0):Rf ((pX - b8 u) * (pX - b8 u) + b8 w) 2 (fun a=>nQ (a - u) w)
theorem aU7 (k:Nat):pX.f k=if k=1 then 1 else 0:=by
 match k with
 | 0=>rfl
 | 1=>rfl
 | k + 2=>rw [if_neg (by omega)];exact aq3 _ _ (by simp)
theorem M9 (c:Rat) (k:Nat):(b8 c).f k=if k=0 then c else 0:=rfl
theorem W6 (r:Rat):Lm (pX - b8 r) 1:=⟨fun k hk=>by
 rw [F7,aU7,M9,if_neg (by omega),if_neg (by omega)];grind,by
 rw [F7,aU7,M9,if_pos rfl,if_neg (by omega)];decide +kernel⟩
theorem bn2 (u w:Rat):Lm ((pX - b8 u) * (pX - b8 u) + b8 w) 2:=⟨fun k hk=>by
 rw [F8,M9,((W6 u).mul (W6 u)).dg k (by omega),if_neg (by omega)];grind,by
 rw [F8,M9,if_neg (by omega)]
 have:=((W6 u).mul (W6 u)).ld
 grind⟩
theorem Rf.lm {f:Pf} {n:Nat} {N:Rat→Nat} (h:Rf f n N):Lm f n:=by
 cases h with
 | lin r=>exact W6 r
 | quad u w hw=>exact bn2 u w
theorem bA5 (p q:Pf):dP (p - q)=dP p - dP q:=Pf.ext fun k=>by
 show _ * (p.f (k + 1) - q.f (k + 1))=_ * p.f (k + 1) - _ * q.f (k + 1);grind
theorem aN8 (r:Rat):dP (pX - b8 r)=1:=by rw [bA5,dX,aF1];grind
theorem bu5 (a r:Rat):Sq a (pX - b8 r) 1 1 (if a < r then 1 else 0) [(a - r,1)] where
 e:=by
  show IsE a _ _ (by' (b8 (a - r)) * (bx 1 * by' 1) + 0)
  unfold IsE dXY
  have ha:=A5 a
  have hr:=A5 r
  rw [A9]
  simp only [M2,O7,O6,B3,J1,F9,G0,ag3]
  rw [ha,hr]
  generalize bx pX=x
  generalize by' pX=y
  generalize by' (b8 a)=A
  generalize by' (b8 r)=B
  grind
 ln:=rfl
 dg:=fun x hx=>by
  rw [List.mem_singleton.mp hx]
  intro i hi
  rw [G6,if_neg (by omega)]
 li:=fun d hd k hk=>by
  have e:(b8 (d 0) * 1 + 0:Pf).f 0=(0:Pf).f 0:=congrArg (fun p:Pf=>p.f 0) hd
  have e2:(b8 (d 0) * 1 + 0:Pf)=b8 (d 0):=by grind
  rw [e2,M9,if_pos rfl,v6] at e
  have:k=0:=by have:k < 1:=hk;omega
  rw [this];exact e
 ng:=by
  rw [List.countP_cons]
  show 0 + (if decide (a - r < 0)=true then 1 else 0)=_
  by_cases h:a < r
  ·rw [if_pos h,if_pos (by rw [decide_eq_true_eq];grind)]
  ·rw [if_neg h,if_neg (by rw [decide_eq_true_eq];grind)]
theorem by2 {u s t c e:Rat} (h:s ≠ t):LI [(c,pX - b8 u + b8 s),(e,pX - b8 u + b8 t)]:=fun d hd k hk=>by
 have hd':b8 (d 0) * (pX - b8 u + b8 s) + (b8 (d 1) * (pX - b8 u + b8 t) + 0)=0:=hd
 have e1:∀ i,d 0 * ((pX.f i - (b8 u).f i) + (b8 s).f i) + (d 1 * ((pX.f i - (b8 u).f i) + (b8 t).f i) + 0)=0:=fun i=>by
  have:=congrArg (fun p:Pf=>p.f i) hd'
  simp only [F8,F7,M1,v6] at this
  exact this
 have a1:=e1 1
 have a0:=e1 0
 rw [aU7,M9,M9,M9] at a0 a1
 simp only [if_pos,if_neg,show ¬ (1:Nat)=0 by omega,show ¬ (0:Nat)=1 by omega,ite_true,ite_false] at a0 a1
 have b1:d 0 + d 1=0:=by grind
 have b0:d 0 * (s - t)=0:=by grind
 have c0:d 0=0:=by
  rcases Rat.mul_eq_zero.mp b0 with y | y
  ·exact y
  ·exact absurd (show s=t by grind) h
 match k,hk with
 | 0,_=>exact c0
 | 1,_=>rw [c0] at b1;grind
theorem by3 {u s c e:Rat}:LI [(c,pX - b8 u + b8 s),(e,1)]:=fun d hd k hk=>by
 have hd':b8 (d 0) * (pX - b8 u + b8 s) + (b8 (d 1) * 1 + 0)=0:=hd
 have e1:∀ i,d 0 * ((pX.f i - (b8 u).f i) + (b8 s).f i) + (d 1 * (1:Pf).f i + 0)=0:=fun i=>by
  have:=congrArg (fun p:Pf=>p.f i) hd'
  simp only [F8,F7,M1,v6] at this
  exact this
 have a1:=e1 1
 have a0:=e1 0
 rw [aU7,M9,M9,G6] at a0 a1
 simp only [show ¬ (1:Nat)=0 by omega,show ¬ (0:Nat)=1 by omega,ite_true,ite_false] at a0 a1
 have c0:d 0=0:=by grind
 match k,hk with
 | 0,_=>exact c0
 | 1,_=>rw [c0] at a0;grind
theorem aN4 (u s:Rat):Dg (pX - b8 u + b8 s).f 2:=fun i hi=>by
 rw [F8,F7,aU7,M9,M9,if_neg (by omega),if_neg (by omega)];grind
theorem aS9 (u w:Rat):dP ((pX - b8 u) * (pX - b8 u) + b8 w)=b8 2 * (pX - b8 u):=by
 rw [bA6,ag1,aN8,aF1]
 have:b8 (2:Rat)=1 + 1:=by
  rw [show (2:Rat)=1 + 1 by decide +kernel,B9,p9]
 rw [this];grind
theorem aJ2 (a u w:Rat) {K:Bf} (h:K=by' (b8 (2 * (a - u))) * ((bx pX - by' (b8 u)) * (by' pX - by' (b8 u))) + by' (b8 (2 * w)) * ((bx pX - by' (b8 u)) + (by' pX - by' (b8 u))) - by' (b8 (2 * w * (a - u)))):IsE a ((pX - b8 u) * (pX - b8 u) + b8 w) (b8 2 * (pX - b8 u)) K:=by
 subst h
 unfold IsE dXY
 have ha:=A5 a
 have hu:=A5 u
 have hw:=A5 w
 have h2:=A5 2
 simp only [z4,A9]
 simp only [M2,O7,O6,B3,J1,F9]
 rw [ha,hu,hw,h2]
 generalize bx pX=x
 generalize by' pX=y
 generalize by' (b8 a)=A
 generalize by' (b8 u)=U
 generalize by' (b8 w)=W
 generalize by' (b8 2)=T
 grind
theorem bk5 (a u w:Rat) (hw:w ≠ 0):∃ L,Sq a ((pX - b8 u) * (pX - b8 u) + b8 w) (b8 2 * (pX - b8 u)) 2 (nQ (a - u) w) L:=by
 by_cases hd:a - u=0
 ·refine ⟨[(w,pX - b8 u + b8 1),(-w,pX - b8 u + b8 (-1))],⟨aJ2 a u w ?_,rfl,fun x hx=>?_,by2 (by decide +kernel),?_⟩⟩
  ·show by' (b8 w) * (bx (pX - b8 u + b8 1) * by' (pX - b8 u + b8 1)) + (by' (b8 (-w)) * (bx (pX - b8 u + b8 (-1)) * by' (pX - b8 u + b8 (-1))) + 0)=_
   have hu:=A5 u
   have h1:b8 (-1:Rat)=0 - 1:=by rw [L6,p9];grind
   have h3:b8 (-w)=b8 0 - b8 w:=by rw [← A9];congr 1;grind
   have h4:b8 (0:Rat)=0:=p0
   have h2:b8 (2:Rat)=1 + 1:=by
    rw [show (2:Rat)=1 + 1 by decide +kernel,B9,p9]
   have hz:by' (0:Pf)=0:=Bf.ext fun k=>by
    show (if k=0 then (0:Pf) else 0)=if k=0 then b8 ((0:Nat):Rat) else 0
    rw [p0]
   have hz':bx (0:Pf)=0:=by rw [← h4,A5,h4,hz]
   rw [hd,h1,h3,h4]
   simp only [z4,p9,h2,h4]
   simp only [M2,O7,O6,B3,J1,F9,G0,ag3,hz']
   rw [hu]
   generalize bx pX=x
   generalize by' pX=y
   generalize by' (b8 u)=U
   generalize by' (b8 w)=W
   grind
  ·rcases List.mem_cons.mp hx with y | y
   ·rw [y];exact aN4 u 1
   ·rw [List.mem_singleton.mp y];exact aN4 u (-1)
  ·unfold nQ
   rw [if_pos hd,List.countP_cons,List.countP_cons]
   show 0 + (if decide (-w < 0)=true then 1 else 0) + (if decide (w < 0)=true then 1 else 0)=1
   by_cases y:w < 0
   ·rw [if_pos (show decide (w < 0)=true by rw [decide_eq_true_eq];exact y),if_neg (by rw [decide_eq_true_eq];grind)]
   ·rw [if_neg (show ¬ decide (w < 0)=true by rw [decide_eq_true_eq];exact y),if_pos (by rw [decide_eq_true_eq];grind)]
 ·have eq:w / (a - u) * (a - u)=w:=Rat.div_mul_cancel hd
  generalize hq:w / (a - u)=q at eq
  refine ⟨[(2 * (a - u),pX - b8 u + b8 q),(-2 * (q * w + w * (a - u)),1)],⟨aJ2 a u w ?_,rfl,fun x hx=>?_,by3,?_⟩⟩
  ·show by' (b8 (2 * (a - u))) * (bx (pX - b8 u + b8 q) * by' (pX - b8 u + b8 q)) + (by' (b8 (-2 * (q * w + w * (a - u)))) * (bx 1 * by' 1) + 0)=_
   have hu:=A5 u
   have hqb:=A5 q
   have k1:b8 (-2 * (q * w + w * (a - u)))=b8 (0 - 2 * (q * w + w * (a - u))):=by congr 1;grind
   have h4:b8 (0:Rat)=0:=p0
   have hz:by' (0:Pf)=0:=Bf.ext fun k=>by
    show (if k=0 then (0:Pf) else 0)=if k=0 then b8 ((0:Nat):Rat) else 0
    rw [p0]
   have kk:by' (b8 q) * (by' (b8 a) - by' (b8 u))=by' (b8 w):=by
    rw [← F9,← B3,← A9,← z4,eq]
   rw [k1]
   simp only [z4,A9,B9,h4]
   simp only [M2,O7,O6,B3,J1,F9,G0,ag3]
   rw [hu,hqb]
   generalize bx pX=x at *
   generalize by' pX=y at *
   generalize by' (b8 a)=A at *
   generalize by' (b8 u)=U at *
   generalize by' (b8 w)=W at *
   generalize by' (b8 q)=Q at *
   generalize by' (b8 2)=T at *
   grind
  ·rcases List.mem_cons.mp hx with y | y
   ·rw [y];exact aN4 u q
   ·rw [List.mem_singleton.mp y]
    intro i hi
    rw [G6,if_neg (by omega)]
  ·unfold nQ
   rw [if_neg hd,List.countP_cons,List.countP_cons,hq]
   show 0 + (if decide (-2 * (q * w + w * (a - u)) < 0)=true then 1 else 0) + (if decide (2 * (a - u) < 0)=true then 1 else 0)=_
   have e1:(decide (2 * (a - u) < 0)=true)=(a - u < 0):=by
    rw [decide_eq_true_eq]
    exact propext ⟨fun h=>by grind,fun h=>by grind⟩
   have e3:-q * (w + (a - u) * (a - u))=-(q * w + w * (a - u)):=by
    have:q * (a - u) * (a - u)=w * (a - u):=by rw [eq]
    grind
   have e2:(decide (-2 * (q * w + w * (a - u)) < 0)=true)=(-q * (w + (a - u) * (a - u)) < 0):=by
    rw [decide_eq_true_eq,e3]
    exact propext ⟨fun h=>by grind,fun h=>by grind⟩
   simp only [e1,e2]
   omega
theorem Rf.sq {f:Pf} {n:Nat} {N:Rat→Nat} (h:Rf f n N) (a:Rat):∃ L,Sq a f (dP f) n (N a) L:=by
 cases h with
 | lin r=>rw [aN8];exact ⟨_,bu5 a r⟩
 | quad u w hw=>rw [aS9];exact bk5 a u w hw
structure Rt1 where
 f:Pf
 m:Nat
 n:Nat
 N:Rat→Nat
def tfs (L:List Rt1):List (Pf × Nat):=L.map fun x=>(x.f,x.m)
def nT (L:List Rt1):Nat:=(L.map (·.n)).sum
def NT (L:List Rt1) (a:Rat):Nat:=(L.map fun x=>x.N a).sum
def aX8 (x:Rt1):Prop:=Rf x.f x.n x.N∧1≤x.m
theorem ah7:∀ {L:List Rt1},(∀ x ∈ L,aX8 x)→Lm (aP (tfs L) 1) (nT L)
 | [],_=>⟨fun k hk=>by show (1:Pf).f k=0;rw [G6,if_neg (by have:0 + 1≤k:=hk;omega)],by show (1:Pf).f 0 ≠ 0;rw [G6,if_pos rfl];decide +kernel⟩
 | x :: r,h=>by
  have hx:=h x List.mem_cons_self
  have ih:=ah7 (L:=r) fun y hy=>h y (List.mem_cons_of_mem _ hy)
  show Lm (if 1≤x.m then x.f * aP (tfs r) 1 else aP (tfs r) 1) _
  rw [if_pos hx.2]
  have:nT (x :: r)=x.n + nT r:=by unfold nT;rw [List.map_cons,List.sum_cons]
  rw [this]
  exact hx.1.lm.mul ih
theorem aP4 (a:Rat):∀ {L:List Rt1},(∀ x ∈ L,aX8 x)→TF (tfs L)→∃ M,Sq a (aP (tfs L) 1) (sP (tfs L) 1) (nT L) (NT L a) M
 | [],_,_=>⟨[],⟨aJ0 a 1,rfl,fun x hx=>by simp at hx,fun d _ k hk=>by simp at hk,rfl⟩⟩
 | x :: r,h,t=>by
  have hx:=h x List.mem_cons_self
  have hr:∀ y ∈ r,aX8 y:=fun y hy=>h y (List.mem_cons_of_mem _ hy)
  obtain ⟨M,hM⟩:=aP4 a hr t.2.2.2
  obtain ⟨S,hS⟩:=hx.1.sq a
  have hm:0 < ((x.m:Nat):Rat):=Rat.natCast_pos.mpr hx.2
  have c:Cop x.f (aP (tfs r) 1):=aO0 t.1 (TF.fn t.2.2.2) t.2.2.1 1
  have key:=(hS.often hm).mul hM c hx.1.lm (ah7 hr)
  have e1:nT (x :: r)=x.n + nT r:=by unfold nT;rw [List.map_cons,List.sum_cons]
  have e2:NT (x :: r) a=x.N a + NT r a:=by unfold NT;rw [List.map_cons,List.sum_cons]
  rw [e1,e2]
  show ∃ M,Sq a (if 1≤x.m then x.f * aP (tfs r) 1 else aP (tfs r) 1) (if 1≤x.m then b8 ((x.m + 1 - 1:Nat):Rat) * (dP x.f * aP (tfs r) 1) + x.f * sP (tfs r) 1 else sP (tfs r) 1) _ _ M
  rw [if_pos hx.2,if_pos hx.2,Nat.add_sub_cancel]
  have e3:b8 (x.m:Rat) * (dP x.f * aP (tfs r) 1) + x.f * sP (tfs r) 1=b8 (x.m:Rat) * dP x.f * aP (tfs r) 1 + x.f * sP (tfs r) 1:=by grind
  rw [e3]
  exact ⟨_,key⟩
def At (a:Rat) (p:Pf) (c:Rat):Prop:=∃ R,Fn R∧p=b8 c + (pX - b8 a) * R
theorem ag4 (a c:Rat):At a (b8 c) c:=⟨0,J3,by grind⟩
theorem bg2 (a:Rat):Fn (pX - b8 a):=(W6 a).fn
theorem At.add {a c d:Rat} {p q:Pf} (h:At a p c) (k:At a q d):At a (p + q) (c + d):=by
 obtain ⟨R,fR,e⟩:=h
 obtain ⟨S,fS,e'⟩:=k
 exact ⟨R + S,fR.add fS,by rw [B9,e,e'];grind⟩
theorem At.sub {a c d:Rat} {p q:Pf} (h:At a p c) (k:At a q d):At a (p - q) (c - d):=by
 obtain ⟨R,fR,e⟩:=h
 obtain ⟨S,fS,e'⟩:=k
 exact ⟨R - S,fR.sub fS,by rw [A9,e,e'];grind⟩
theorem At.mul {a c d:Rat} {p q:Pf} (h:At a p c) (k:At a q d):At a (p * q) (c * d):=by
 obtain ⟨R,fR,e⟩:=h
 obtain ⟨S,fS,e'⟩:=k
 refine ⟨b8 c * S + b8 d * R + (pX - b8 a) * R * S,(((w9 _).mul fS).add ((w9 _).mul fR)).add (((bg2 a).mul fR).mul fS),?_⟩
 rw [z4,e,e']
 generalize b8 c=C
 generalize b8 d=D
 generalize pX - b8 a=X
 grind
theorem Z7 {a c d:Rat} {p:Pf} (h:At a p c) (k:At a p d):c=d:=by
 obtain ⟨R,fR,e⟩:=h
 obtain ⟨S,fS,e'⟩:=k
 have e1:(pX - b8 a) * (R - S)=b8 (d - c):=by rw [A9];grind
 have z:=(W6 a).zero (fR.sub fS) (by
  rw [e1]
  intro i hi
  rw [M9,if_neg (by omega)])
 rw [z] at e1
 have e2:(b8 (d - c)).f 0=0:=by
  rw [← e1]
  have:(pX - b8 a) * 0=0:=by grind
  rw [this,v6]
 rw [M9,if_pos rfl] at e2
 grind
def dwn (p:Pf):Pf:=⟨fun k=>p.f (k + 1)⟩
theorem ak3 (p:Pf):p=b8 (p.f 0) + pX * dwn p:=Pf.ext fun k=>by
 rw [F8,M9,Z4]
 cases k with
 | zero=>rw [if_pos rfl,if_pos rfl];grind
 | succ k=>rw [if_neg (by omega),if_neg (by omega)];show _=0 + p.f (k + 1 - 1 + 1);rw [Nat.add_sub_cancel];grind
theorem hor (a:Rat):∀ (n:Nat) (p:Pf),Dg p.f (n + 1)→∃ c R,Dg R.f n∧p=b8 c + (pX - b8 a) * R
 | 0,p,h=>⟨p.f 0,0,fun i _=>v6 i,by
  have e:=ak3 p
  have z:dwn p=0:=Pf.ext fun k=>by rw [v6];exact h (k + 1) (by omega)
  rw [z] at e
  rw [e]
  have:(b8 (p.f 0) + pX * 0).f 0=p.f 0:=by rw [← e]
  grind⟩
 | n + 1,p,h=>by
  obtain ⟨c,R,dR,e⟩:=hor a n (dwn p) fun k hk=>h (k + 1) (by omega)
  refine ⟨p.f 0 + a * c,b8 c + pX * R,fun i hi=>?_,?_⟩
  ·rw [F8,M9,Z4,if_neg (by omega),if_neg (by omega),dR _ (by omega)];grind
  ·have e1:=ak3 p
   rw [e] at e1
   rw [B9,z4]
   generalize b8 (p.f 0)=P at *
   grind
theorem bE5 (a:Rat) {p:Pf} (h:Fn p):∃ c,At a p c:=by
 obtain ⟨n,hn⟩:=h
 obtain ⟨c,R,dR,e⟩:=hor a n p fun k hk=>hn k (by omega)
 exact ⟨c,R,⟨_,dR⟩,e⟩
structure Evl (t:Rat→Pf→Rat):Prop where
 at':∀ a p,Fn p→At a p (t a p)
theorem bA1:∃ t,Evl t:=by
 have h:∀ x:Rat × Pf,∃ c,Fn x.2→At x.1 x.2 c:=fun x=>by
  by_cases f:Fn x.2
  ·obtain ⟨c,hc⟩:=bE5 x.1 f
   exact ⟨c,fun _=>hc⟩
  ·exact ⟨0,fun z=>absurd z f⟩
 obtain ⟨t,ht⟩:=Classical.axiomOfChoice h
 exact ⟨fun a p=>t (a,p),⟨fun a p f=>ht (a,p) f⟩⟩
def nB (lead:Rat):Nat→Nat
 | 0=>0
 | 1=>if 0 < lead then 1 else 0
 | m + 2=>nB lead m + 1
theorem ak0 (n:Nat) (p q:Pf) (v:Nat→Rat):lf n (p + q).f v=lf n p.f v + lf n q.f v:=by
 unfold lf
 rw [P2]
 exact i8 fun i _=>by rw [F8];grind
theorem aj9 (n:Nat) (p q:Pf) (v:Nat→Rat):lf n (p - q).f v=lf n p.f v - lf n q.f v:=by
 have h:=ak0 n (p - q) q v
 have e:p - q + q=p:=by grind
 rw [e] at h
 grind
theorem aM8 (n:Nat) (c:Rat) (p:Pf) (v:Nat→Rat):lf n (b8 c * p).f v=c * lf n p.f v:=by
 unfold lf
 rw [G3]
 exact i8 fun i _=>by rw [M1];grind
theorem bF4 (n:Nat) (p:Pf) (v:Nat→Rat):lf (n + 1) (pX * p).f v=lf n p.f fun i=>v (i + 1):=by
 unfold lf
 rw [K0,Z4,if_pos rfl,i8 (g:=fun i=>p.f i * v (i + 1)) fun i _=>by
  show (pX * p).f (i + 1) * v (i + 1)=_
  rw [Z4,if_neg (by omega),Nat.add_sub_cancel]]
 grind
theorem aa2 {m n:Nat} {p:Pf} (h:Dg p.f m) (hm:m≤n) (v:Nat→Rat):lf n p.f v=lf m p.f v:=by
 obtain ⟨k,rfl⟩:∃ k,n=m + k:=⟨n - m,by omega⟩
 induction k with
 | zero=>rfl
 | succ k ih =>
  show lf (m + k) p.f v + p.f (m + k) * v (m + k)=_
  rw [ih (by omega),h _ (by omega)];grind
theorem aE0 {n:Nat} {p:Pf} (l:Lm p n) {v:Nat→Rat} (h:∀ i,i < n→v i=0) (z:lf (n + 1) p.f v=0):v n=0:=by
 have e:lf (n + 1) p.f v=0 + p.f n * v n:=by
  show j4 _ n + _=_
  rw [z5 n fun i hi=>by rw [h i hi];grind]
 rw [e] at z
 rcases Rat.mul_eq_zero.mp (show p.f n * v n=0 by grind) with y | y
 ·exact absurd y l.ld
 ·exact y
theorem aN0 (u B:Pf):sqK [(-1 / 4,u + B),(1 / 4,u - B)]=0 - by' (b8 (1 / 2)) * (bx u * by' B + bx B * by' u):=by
 show by' (b8 (-1 / 4)) * (bx (u + B) * by' (u + B)) + (by' (b8 (1 / 4)) * (bx (u - B) * by' (u - B)) + 0)=_
 have k1:by' (b8 (-1 / 4:Rat))=0 - by' (b8 (1 / 4)):=by
  have h0:b8 (-1 / 4:Rat)=0 - b8 (1 / 4):=by rw [show (-1 / 4:Rat)=0 - 1 / 4 by decide +kernel,A9,show b8 (0:Rat)=0 from p0]
  have hz:by' (0:Pf)=0:=Bf.ext fun k=>by
   show (if k=0 then (0:Pf) else 0)=if k=0 then b8 ((0:Nat):Rat) else 0
   rw [p0]
  rw [h0,F9,hz]
 have k2:by' (b8 (1 / 2:Rat))=by' (b8 (1 / 4)) + by' (b8 (1 / 4)):=by
  rw [← J1,← B9,show (1 / 4 + 1 / 4:Rat)=1 / 2 by decide +kernel]
 rw [k1,k2]
 simp only [O7,O6,J1,F9]
 generalize by' (b8 (1 / 4))=C
 generalize bx u=p
 generalize by' u=q
 generalize bx B=r
 generalize by' B=s
 grind
theorem bp3 (R:Pf):del R=by' (b8 (1 / 2)) * (bx 1 * by' (b8 2 * dwn R - b8 (R.f 1)) + bx (b8 2 * dwn R - b8 (R.f 1)) * by' 1) + bx pX * by' pX * del (dwn (dwn R)):=by
 refine av8 ?_
 rw [aN6]
 have hd:=aN6 (dwn (dwn R))
 have e0:=ak3 R
 have e1:=ak3 (dwn R)
 have c0:=A5 (R.f 0)
 have c1:=A5 (R.f 1)
 have c2:=A5 2
 have hh:by' (b8 (1 / 2)) * by' (b8 2)=1:=by
  rw [← B3,← z4,show (1 / 2:Rat) * 2=1 by decide +kernel,p9,G0]
 have h2:by' (b8 (2:Rat))=1 + 1:=by
  rw [show (2:Rat)=1 + 1 by decide +kernel,B9,J1,p9,G0]
 have e1':dwn R=b8 (R.f 1) + pX * dwn (dwn R):=e1
 have x0:bx R=by' (b8 (R.f 0)) + bx pX * bx (dwn R):=by rw [← c0,← M2,← O7,← e0]
 have y0:by' R=by' (b8 (R.f 0)) + by' pX * by' (dwn R):=by rw [← B3,← J1,← e0]
 have x1:bx (dwn R)=by' (b8 (R.f 1)) + bx pX * bx (dwn (dwn R)):=by rw [← c1,← M2,← O7,← e1']
 have y1:by' (dwn R)=by' (b8 (R.f 1)) + by' pX * by' (dwn (dwn R)):=by rw [← B3,← J1,← e1']
 simp only [O6,M2,F9,B3,G0,ag3]
 rw [c2,c1]
 unfold dXY at *
 generalize bx (dwn (dwn R))=x2 at *
 generalize by' (dwn (dwn R))=y2 at *
 generalize bx (dwn R)=x1' at *
 generalize by' (dwn R)=y1' at *
 generalize bx R=x0' at *
 generalize by' R=y0' at *
 generalize by' (b8 (R.f 0))=A at *
 generalize by' (b8 (R.f 1))=B at *
 generalize by' (b8 (1 / 2))=H at *
 generalize by' (b8 2)=T at *
 generalize bx pX=x at *
 generalize by' pX=y at *
 generalize del (dwn (dwn R))=D at *
 subst x0 y0 x1 y1
 grind
theorem bp2 {R:Pf} (h:Dg R.f 1):del R=0:=aF9 fun i j=>by
 rw [bE2];exact h (i + j + 1) (by omega)
theorem bp1 {R:Pf} (h:Dg R.f 2):del R=by' (b8 (R.f 1)):=aF9 fun i j=>by
 show R.f (i + j + 1)=(if i=0 then b8 (R.f 1) else 0:Pf).f j
 by_cases hi:i=0
 ·rw [if_pos hi,M9,hi]
  by_cases hj:j=0
  ·rw [if_pos hj,hj]
  ·rw [if_neg hj];exact h _ (by omega)
 ·rw [if_neg hi,v6];exact h _ (by omega)
theorem bB0 (c:Rat):by' (b8 (-c))=0 - by' (b8 c):=by
 have h0:b8 (-c)=0 - b8 c:=by rw [L6];grind
 have hz:by' (0:Pf)=0:=Bf.ext fun k=>by
  show (if k=0 then (0:Pf) else 0)=if k=0 then b8 ((0:Nat):Rat) else 0
  rw [p0]
 rw [h0,F9,hz]
theorem blk:∀ (m:Nat) (R:Pf),Lm R m→∃ B:List (Rat × Pf),sqK B=0 - del R∧B.length=m∧(∀ x ∈ B,Dg x.2.f m)∧Ind m B∧B.countP af6=nB (R.f m) m
 | 0,R,h=>⟨[],by rw [bp2 h.dg];show (0:Bf)=0 - 0;grind,rfl,fun x hx=>by simp at hx,fun v _ i hi=>by omega,rfl⟩
 | 1,R,h=>by
  refine ⟨[(-R.f 1,1)],?_,rfl,fun x hx=>?_,fun v hv i hi=>?_,?_⟩
  ·show by' (b8 (-R.f 1)) * (bx 1 * by' 1) + 0=_
   rw [bp1 h.dg,bB0,ag3,G0];grind
  ·rw [List.mem_singleton.mp hx]
   intro i hi
   rw [G6,if_neg (by omega)]
  ·have e:=hv _ List.mem_cons_self
   have e2:lf 1 (1:Pf).f v=0 + 1 * v 0:=rfl
   have:lf 1 (1:Pf).f v=0:=e
   rw [e2] at this
   have i0:i=0:=by omega
   rw [i0];grind
  ·rw [List.countP_cons]
   show 0 + (if decide (-R.f 1 < 0)=true then 1 else 0)=if 0 < R.f 1 then 1 else 0
   by_cases y:0 < R.f 1
   ·rw [if_pos y,if_pos (by rw [decide_eq_true_eq];grind)]
   ·rw [if_neg y,if_neg (by rw [decide_eq_true_eq];grind)]
 | m + 2,R,h=>by
  obtain ⟨B,hB,lB,dB,iB,nBB⟩:=blk m (dwn (dwn R)) ⟨fun k hk=>h.dg (k + 2) (by omega),h.ld⟩
  refine ⟨[(-1 / 4,1 + (b8 2 * dwn R - b8 (R.f 1))),(1 / 4,1 - (b8 2 * dwn R - b8 (R.f 1)))] ++ mL 1 pX B,?_,?_,fun x hx=>?_,fun v hv=>?_,?_⟩
  ·rw [V7,aN0,af0,hB,p9,bp3 R,G0]
   generalize by' (b8 (1 / 2)) * (bx 1 * by' (b8 2 * dwn R - b8 (R.f 1)) + bx (b8 2 * dwn R - b8 (R.f 1)) * 1)=K1
   generalize del (dwn (dwn R))=D
   grind
  ·rw [List.length_append,V0,lB];show 2 + m=m + 2;omega
  ·have d1:Dg (b8 2 * dwn R - b8 (R.f 1)).f (m + 2):=fun i hi=>by
    rw [F7,M1,M9,if_neg (by omega)]
    show 2 * R.f (i + 1) - 0=0
    rw [h.dg (i + 1) (by omega)];grind
   have d0:Dg (1:Pf).f (m + 2):=fun i hi=>by rw [G6,if_neg (by omega)]
   rcases List.mem_append.mp hx with y | y
   ·rcases List.mem_cons.mp y with z | z
    ·rw [z]
     intro i hi
     show (1 + (b8 2 * dwn R - b8 (R.f 1)):Pf).f i=0
     rw [F8,d0 i hi,d1 i hi];grind
    ·rw [List.mem_singleton.mp z]
     intro i hi
     show (1 - (b8 2 * dwn R - b8 (R.f 1)):Pf).f i=0
     rw [F7,d0 i hi,d1 i hi];grind
   ·obtain ⟨z,hz,e⟩:=List.mem_map.mp y
    rw [← e]
    intro i hi
    show (pX * z.2).f i=0
    rw [Z4,if_neg (by omega)]
    exact dB z hz _ (by omega)
  ·have a1:=hv (-1 / 4,1 + (b8 2 * dwn R - b8 (R.f 1))) (List.mem_append.mpr (.inl List.mem_cons_self))
   have a2:=hv (1 / 4,1 - (b8 2 * dwn R - b8 (R.f 1))) (List.mem_append.mpr (.inl (List.mem_cons_of_mem _ List.mem_cons_self)))
   simp only at a1 a2
   rw [ak0] at a1
   rw [aj9] at a2
   have k1:lf (m + 2) (1:Pf).f v=0:=by grind
   have k2:lf (m + 2) (b8 2 * dwn R - b8 (R.f 1)).f v=0:=by grind
   have one:lf (m + 2) (1:Pf).f v=v 0:=by
    have d0:Dg (1:Pf).f 1:=fun i hi=>by rw [G6,if_neg (by omega)]
    rw [aa2 d0 (by omega)]
    show 0 + (1:Pf).f 0 * v 0=v 0
    rw [G6,if_pos rfl];grind
   have v0:v 0=0:=by rw [← one];exact k1
   have mid:∀ i,i < m→v (i + 1)=0:=by
    refine iB (fun i=>v (i + 1)) fun x hx=>?_
    have:=hv (1 * x.1,pX * x.2) (List.mem_append.mpr (.inr (List.mem_map.mpr ⟨x,hx,rfl⟩)))
    simp only at this
    rw [bF4,aa2 (dB x hx) (by omega)] at this
    exact this
   have low:∀ i,i < m + 1→v i=0:=fun i hi=>by
    cases i with
    | zero=>exact v0
    | succ i=>exact mid i (by omega)
   have lB2:Lm (b8 2 * dwn R - b8 (R.f 1)) (m + 1):=⟨fun i hi=>by
    rw [F7,M1,M9,if_neg (by omega)]
    show 2 * R.f (i + 1) - 0=0
    rw [h.dg (i + 1) (by omega)];grind,by
    rw [F7,M1,M9,if_neg (by omega)]
    show 2 * R.f (m + 1 + 1) - 0 ≠ 0
    have:=h.ld
    have e:R.f (m + 2)=R.f (m + 1 + 1):=rfl
    rw [e] at this
    intro z
    have:R.f (m + 1 + 1)=0:=by grind
    contradiction⟩
   have top:=aE0 lB2 low k2
   intro i hi
   by_cases z:i=m + 1
   ·rw [z];exact top
   ·exact low i (by omega)
  ·rw [List.countP_append,ab8 (by decide +kernel),nBB,List.countP_cons,List.countP_cons]
   show 0 + (if decide ((1 / 4:Rat) < 0)=true then 1 else 0) + (if decide ((-1 / 4:Rat) < 0)=true then 1 else 0) + nB (R.f (m + 2)) m=nB (R.f (m + 2)) m + 1
   rw [if_neg (by decide +kernel),if_pos (by decide +kernel)]
   omega
def xp:Nat→Pf→Pf
 | 0,g=>g
 | i + 1,g=>xp i (pX * g)
theorem bd8 (N:Nat) (v:Nat→Rat):∀ (k:Nat) (h g:Pf),Dg h.f k→lf N (g * h).f v=lf k h.f fun i=>lf N (xp i g).f v
 | 0,h,g,d=>by
  have z:h=0:=Pf.ext fun i=>by rw [v6];exact d i (by omega)
  rw [z]
  have:g * 0=0:=by grind
  rw [this]
  show lf N (0:Pf).f v=0
  exact z5 _ fun i _=>by rw [v6];grind
 | k + 1,h,g,d=>by
  have ih:=bd8 N v k (dwn h) (pX * g) fun i hi=>d (i + 1) (by omega)
  have e:=ak3 h
  have e2:g * h=b8 (h.f 0) * g + pX * g * dwn h:=by
   generalize b8 (h.f 0)=c at *
   generalize dwn h=s at *
   rw [e];grind
  rw [e2,ak0,aM8,ih]
  show _=j4 _ (k + 1)
  rw [K0]
  rfl
theorem bF3 {g:Pf} {n:Nat} (h:Lm g n):Lm (pX * g) (n + 1):=⟨fun i hi=>by
 rw [Z4,if_neg (by omega)];exact h.dg _ (by omega),by rw [Z4,if_neg (by omega)];exact h.ld⟩
theorem bq6:∀ (i:Nat) {g:Pf} {n:Nat},Lm g n→Lm (xp i g) (n + i)
 | 0,g,n,h=>h
 | i + 1,g,n,h=>by
  have:=bq6 i (bF3 h)
  rw [show n + (i + 1)=n + 1 + i by omega]
  exact this
theorem aT2 {k n:Nat} {g:Pf} {B:List (Rat × Pf)} (lg:Lm g n) (dB:∀ x ∈ B,Dg x.2.f k) (iB:Ind k B) {v:Nat→Rat} (low:∀ i,i < n→v i=0) (hv:∀ x ∈ mL 1 g B,lf (n + k) x.2.f v=0):∀ i,i < n + k→v i=0:=by
 have w:∀ i,i < k→lf (n + k) (xp i g).f v=0:=iB (fun i=>lf (n + k) (xp i g).f v) fun x hx=>by
  have:=hv (1 * x.1,g * x.2) (List.mem_map.mpr ⟨x,hx,rfl⟩)
  simp only at this
  rw [bd8 _ v k x.2 g (dB x hx)] at this
  exact this
 have step:∀ j,j≤k→∀ i,i < n + j→v i=0:=fun j=>by
  induction j with
  | zero=>intro _;exact low
  | succ j ih =>
   intro hj
   have l:=bq6 j lg
   have z:=w j (by omega)
   rw [aa2 l.dg (by omega)] at z
   have t:=aE0 l (ih (by omega)) z
   intro i hi
   by_cases y:i=n + j
   ·rw [y];exact t
   ·exact ih (by omega) i (by omega)
 exact step k (Nat.le_refl _)
inductive St:Pf→Pf→List Pf→Nat→Prop where
 | last {p:Pf} {n:Nat} {c:Rat} (hp:Lm p (n + 1)) (hc:c ≠ 0):St p (b8 c) [] (n + 1)
 | step {p q r Q:Pf} {l:List Pf} {k n:Nat} (e:p=Q * q - r) (hQ:Lm Q (k + 1)) (h:St q r l n):St p q (r :: l) (k + 1 + n)
theorem St.lm {p q:Pf} {l:List Pf} {n:Nat} (h:St p q l n):Lm p n∧Dg q.f n:=by
 induction h with
 | last hp hc=>exact ⟨hp,fun i hi=>by rw [M9,if_neg (by omega)]⟩
 | @step p q r Q l k n e hQ h ih =>
  obtain ⟨lq,dr⟩:=ih
  have lQq:=hQ.mul lq
  refine ⟨⟨fun i hi=>?_,?_⟩,fun i hi=>lq.dg i (by omega)⟩
  ·rw [e,F7,lQq.dg i hi,dr i (by omega)];grind
  ·rw [e,F7,dr _ (by omega)]
   have:=lQq.ld
   grind
def chg:Rat→List Rat→Nat
 | _,[]=>0
 | b,s :: r=>(if s * b < 0 then 1 else 0) + chg (if s=0 then b else s) r
structure F1 (t:Rat→Pf→Rat) (a:Rat) (p q:Pf) (l:List Pf) (n C:Nat) (R:List (Rat × Pf)):Prop where
 e:IsE a p q (by' (b8 (t a p / t a q)) * (bx q * by' q) + sqK R)
 ln:R.length + 1=n
 dg:∀ x ∈ R,Dg x.2.f n
 ind:∀ v:Nat→Rat,lf n q.f v=0→(∀ x ∈ R,lf n x.2.f v=0)→∀ i,i < n→v i=0
 ng:R.countP af6=chg (t a q) (l.map (t a)) + C
structure F0 (t:Rat→Pf→Rat) (a:Rat) (p q r:Pf) (l:List Pf) (n C:Nat) (z:Rat) (R:List (Rat × Pf)):Prop where
 nz:t a r ≠ 0
 op:t a p=- t a r
 e:IsE a p q (by' (b8 z) * (bx q * by' q) - bx q * by' r - bx r * by' q + sqK R)
 ln:R.length + 2=n
 dg:∀ x ∈ R,Dg x.2.f n
 dr:Dg r.f n
 ind:∀ v:Nat→Rat,lf n q.f v=0→lf n r.f v=0→(∀ x ∈ R,lf n x.2.f v=0)→∀ i,i < n→v i=0
 ng:R.countP af6=chg (t a r) (l.map (t a)) + C
theorem quo (a:Rat) {Q:Pf} {k:Nat} (h:Lm Q (k + 1)):∃ c S B,Q=b8 c + (pX - b8 a) * S∧Fn S∧At a Q c∧sqK B=0 - del S∧B.length=k∧(∀ x ∈ B,Dg x.2.f k)∧Ind k B∧B.countP af6=nB (Q.f (k + 1)) k:=by
 obtain ⟨c,S,dS,e⟩:=hor a (k + 1) Q h.dg
 have top:Q.f (k + 1)=S.f k:=by
  have e1:Q.f (k + 1)=(b8 c).f (k + 1) + ((pX - b8 a) * S).f (1 + k):=by
   rw [show 1 + k=k + 1 by omega,← F8,← e]
  have e2:((pX - b8 a) * S).f (1 + k)=(pX - b8 a).f 1 * S.f k:=aF3 (W6 a).dg dS
  rw [e1,e2,M9,if_neg (by omega),F7,aU7,M9,if_pos rfl,if_neg (by omega)];grind
 have lS:Lm S k:=⟨dS,by rw [← top];exact h.ld⟩
 obtain ⟨B,b1,b2,b3,b4,b5⟩:=blk k S lS
 exact ⟨c,S,B,e,lS.fn,⟨S,lS.fn,e⟩,b1,b2,b3,b4,by rw [top];exact b5⟩
theorem ao6 {f:Nat→Rat} {m n:Nat} (h:Dg f m) (k:m≤n):Dg f n:=fun i hi=>h i (by omega)
theorem bi7 {k n:Nat} {g:Pf} {B:List (Rat × Pf)} (lg:Lm g n) (dB:∀ x ∈ B,Dg x.2.f k):∀ x ∈ mL 1 g B,Dg x.2.f (n + k):=fun x hx=>by
 obtain ⟨z,hz,e⟩:=List.mem_map.mp hx
 rw [← e]
 exact fun i hi=>(Dg.cv lg.dg (dB z hz)) i (by omega)
theorem bA9:by' (0:Pf)=0:=Bf.ext fun k=>by
 show (if k=0 then (0:Pf) else 0)=if k=0 then b8 ((0:Nat):Rat) else 0
 rw [p0]
theorem bG0:bx (0:Pf)=0:=by
 have h4:b8 (0:Rat)=0:=p0
 rw [← h4,A5,h4,bA9]
theorem aP5 (g:Pf) {S:Pf} {B:List (Rat × Pf)} (h:sqK B=0 - del S):sqK (mL 1 g B)=0 - bx g * by' g * del S:=by
 rw [af0,h,p9,G0];grind
theorem bA0 {t:Rat→Pf→Rat} (T:Evl t) {p:Pf} {n:Nat} {c:Rat} (hp:Lm p (n + 1)) (hc:c ≠ 0):∃ C,∀ a,t a (b8 c)=c∧∃ R,F1 t a p (b8 c) [] (n + 1) C R:=by
 have lQ:Lm (b8 c⁻¹ * p) (n + 1):=⟨fun i hi=>by rw [M1,hp.dg i hi];grind,by
  rw [M1]
  intro z
  rcases Rat.mul_eq_zero.mp z with y | y
  ·exact hc (by rw [← Rat.inv_inv c,y];decide +kernel)
  ·exact hp.ld y⟩
 refine ⟨nB ((b8 c⁻¹ * p).f (n + 1)) n,fun a=>?_⟩
 have tq:t a (b8 c)=c:=Z7 (T.at' a _ (w9 c)) (ag4 a c)
 refine ⟨tq,?_⟩
 obtain ⟨z,S,B,eQ,fS,aQ,b1,b2,b3,b4,b5⟩:=quo a lQ
 have ep:p=b8 c⁻¹ * p * b8 c - 0:=by
  have:=B8 hc
  grind
 have E:=ah9 ep eQ (aJ0 a (b8 c))
 have lg:Lm ((pX - b8 a) * b8 c) 1:=by
  have l0:Lm (b8 c) 0:=⟨fun i hi=>by rw [M9,if_neg (by omega)],by rw [M9,if_pos rfl];exact hc⟩
  exact (W6 a).mul l0
 have tz:t a p / t a (b8 c)=z:=by
  have h1:=T.at' a p hp.fn
  have h2:=(ag4 a c⁻¹).mul h1
  have h3:=Z7 h2 aQ
  rw [tq,Rat.div_def,Rat.mul_comm];exact h3
 refine ⟨mL 1 ((pX - b8 a) * b8 c) B,⟨?_,by rw [V0,b2],?_,?_,?_⟩⟩
 ·rw [tz,aP5 _ b1]
  rw [bA9,bG0] at E
  generalize bx ((pX - b8 a) * b8 c) * by' ((pX - b8 a) * b8 c) * del S=K at *
  generalize by' (b8 z) * (bx (b8 c) * by' (b8 c))=M at *
  have e:M + (0 - K)=M - K - bx (b8 c) * 0 - 0 * by' (b8 c) + 0:=by grind
  rw [e];exact E
 ·have:=bi7 lg b3
  rw [Nat.add_comm] at this
  exact this
 ·intro v hv hB
  have v0:∀ i,i < 1→v i=0:=fun i hi=>by
   have l0:Lm (b8 c) 0:=⟨fun i hi=>by rw [M9,if_neg (by omega)],by rw [M9,if_pos rfl];exact hc⟩
   rw [aa2 (m:=0 + 1) l0.dg (by omega)] at hv
   have:=aE0 l0 (fun i hi=>by omega) hv
   rw [show i=0 by omega];exact this
  rw [show n + 1=1 + n by omega] at hB ⊢
  exact aT2 lg b3 b4 v0 hB
 ·rw [ab8 (by decide +kernel),b5,tq]
  show _=0 + _
  omega
theorem bz9 {t:Rat→Pf→Rat} (T:Evl t) {p q r Q:Pf} {l:List Pf} {k n C:Nat} (ep:p=Q * q - r) (hQ:Lm Q (k + 1)) (lq:Lm q n) (dr:Dg r.f n) (a:Rat) (h1:t a r ≠ 0→∃ R,F1 t a q r l n C R) (h0:t a r=0→∃ r2 l2 z R,l=r2 :: l2∧F0 t a q r r2 l2 n C z R) :
  (t a q ≠ 0→∃ R,F1 t a p q (r :: l) (k + 1 + n) (C + nB (Q.f (k + 1)) k) R)∧(t a q=0→∃ z R,F0 t a p q r l (k + 1 + n) (C + nB (Q.f (k + 1)) k) z R):=by
 obtain ⟨c,S,B,eQ,fS,aQ,b1,b2,b3,b4,b5⟩:=quo a hQ
 have fq:Fn q:=lq.fn
 have fr:Fn r:=⟨_,dr⟩
 have fp:Fn p:=by rw [ep];exact (hQ.fn.mul fq).sub fr
 have tp:t a p=c * t a q - t a r:=by
  have x:=T.at' a p fp
  have y:=(aQ.mul (T.at' a q fq)).sub (T.at' a r fr)
  rw [← ep] at y
  exact Z7 x y
 have lg:Lm ((pX - b8 a) * q) (n + 1):=by
  have:=(W6 a).mul lq
  rw [Nat.add_comm] at this
  exact this
 have dBL:=bi7 lg b3
 have sK:=aP5 ((pX - b8 a) * q) b1
 have lBL:(mL 1 ((pX - b8 a) * q) B).length=k:=by rw [V0,b2]
 have nBL:(mL 1 ((pX - b8 a) * q) B).countP af6=nB (Q.f (k + 1)) k:=by rw [ab8 (by decide +kernel),b5]
 have nn:k + 1 + n=n + 1 + k:=by omega
 have fin:∀ v:Nat→Rat,(∀ i,i < n→v i=0)→lf (k + 1 + n) q.f v=0→(∀ x ∈ mL 1 ((pX - b8 a) * q) B,lf (k + 1 + n) x.2.f v=0)→∀ i,i < k + 1 + n→v i=0:=fun v low hq hB=>by
  rw [aa2 lq.dg (by omega)] at hq
  have vn:=aE0 lq low hq
  have low':∀ i,i < n + 1→v i=0:=fun i hi=>by
   by_cases y:i=n
   ·rw [y];exact vn
   ·exact low i (by omega)
  rw [nn] at hB ⊢
  exact aT2 lg b3 b4 low' hB
 rw [← nn] at dBL
 generalize mL 1 ((pX - b8 a) * q) B=BL at *
 refine ⟨fun hq=>?_,fun hq=>?_⟩
 ·by_cases hr:t a r=0
  ·obtain ⟨r2,l2,z,R,el,F⟩:=h0 hr
   have E:=ah9 ep eQ F.e
   have cz:t a p / t a q=c:=by rw [tp,hr,show c * t a q - 0=c * t a q by grind,Rat.mul_div_cancel hq]
   refine ⟨[(-1 / 4,r + (b8 2 * (q + r2) - b8 z * r)),(1 / 4,r - (b8 2 * (q + r2) - b8 z * r))] ++ (BL ++ R),⟨?_,?_,fun x hx=>?_,fun v hv hR=>?_,?_⟩⟩
   ·rw [cz,V7,V7,aN0,sK]
    have hh:by' (b8 (1 / 2)) * by' (b8 2)=1:=by
     rw [← B3,← z4,show (1 / 2:Rat) * 2=1 by decide +kernel,p9,G0]
    have h2:by' (b8 (2:Rat))=1 + 1:=by
     rw [show (2:Rat)=1 + 1 by decide +kernel,B9,J1,p9,G0]
    have c2:=A5 2
    have cz':=A5 z
    generalize bx ((pX - b8 a) * q) * by' ((pX - b8 a) * q) * del S=K at *
    have e:by' (b8 c) * (bx q * by' q) - K - bx q * by' r - bx r * by' q + (by' (b8 z) * (bx r * by' r) - bx r * by' r2 - bx r2 * by' r + sqK R)=by' (b8 c) * (bx q * by' q) + (0 - by' (b8 (1 / 2)) * (bx r * by' (b8 2 * (q + r2) - b8 z * r) + bx (b8 2 * (q + r2) - b8 z * r) * by' r) + (0 - K + sqK R)):=by
     simp only [M2,O7,O6,B3,J1,F9]
     rw [c2,cz']
     generalize sqK R=SR
     generalize by' (b8 (1 / 2))=H at *
     generalize by' (b8 2)=W at *
     generalize by' (b8 z)=Z at *
     generalize by' (b8 c)=D at *
     generalize bx q=qx at *
     generalize by' q=qy at *
     generalize bx r=rx at *
     generalize by' r=ry at *
     generalize bx r2=sx at *
     generalize by' r2=sy at *
     clear E sK
     grind
    rw [← e];exact E
   ·rw [List.length_append,List.length_append,lBL]
    have:=F.ln
    show 2 + (k + R.length) + 1=k + 1 + n
    omega
   ·have dB2:Dg (b8 2 * (q + r2) - b8 z * r).f (k + 1 + n):=fun i hi=>by
     rw [F7,M1,M1,F8,lq.dg i (by omega),F.dr i (by omega),dr i (by omega)];grind
    rcases List.mem_append.mp hx with y | y
    ·rcases List.mem_cons.mp y with w | w
     ·rw [w]
      intro i hi
      show (r + (b8 2 * (q + r2) - b8 z * r):Pf).f i=0
      rw [F8,dr i (by omega),dB2 i hi];grind
     ·rw [List.mem_singleton.mp w]
      intro i hi
      show (r - (b8 2 * (q + r2) - b8 z * r):Pf).f i=0
      rw [F7,dr i (by omega),dB2 i hi];grind
    ·rcases List.mem_append.mp y with w | w
     ·exact dBL x w
     ·exact ao6 (F.dg x w) (by omega)
   ·have a1:=hR (-1 / 4,r + (b8 2 * (q + r2) - b8 z * r)) (List.mem_append.mpr (.inl List.mem_cons_self))
    have a2:=hR (1 / 4,r - (b8 2 * (q + r2) - b8 z * r)) (List.mem_append.mpr (.inl (List.mem_cons_of_mem _ List.mem_cons_self)))
    simp only at a1 a2
    rw [ak0] at a1
    rw [aj9] at a2
    have k1:lf (k + 1 + n) r.f v=0:=by grind
    have k2:lf (k + 1 + n) (b8 2 * (q + r2) - b8 z * r).f v=0:=by grind
    rw [aj9,aM8,aM8,ak0,hv,k1] at k2
    have k3:lf (k + 1 + n) r2.f v=0:=by grind
    refine fin v (F.ind v ?_ ?_ fun x hx=>?_) hv fun x hx=>hR x (List.mem_append.mpr (.inr (List.mem_append.mpr (.inl hx))))
    ·rw [← aa2 dr (show n≤k + 1 + n by omega)];exact k1
    ·rw [← aa2 F.dr (show n≤k + 1 + n by omega)];exact k3
    ·rw [← aa2 (F.dg x hx) (show n≤k + 1 + n by omega)]
     exact hR x (List.mem_append.mpr (.inr (List.mem_append.mpr (.inr hx))))
   ·rw [List.countP_append,List.countP_append,nBL,F.ng,List.countP_cons,List.countP_cons,el]
    show 0 + (if decide ((1 / 4:Rat) < 0)=true then 1 else 0) + (if decide ((-1 / 4:Rat) < 0)=true then 1 else 0) + (nB (Q.f (k + 1)) k + (chg (t a r2) (l2.map (t a)) + C))=(if t a r * t a q < 0 then 1 else 0) + ((if t a r2 * (if t a r=0 then t a q else t a r) < 0 then 1 else 0) + chg (if t a r2=0 then (if t a r=0 then t a q else t a r) else t a r2) (l2.map (t a))) + (C + nB (Q.f (k + 1)) k)
    have neg:t a r2 * t a q < 0:=by
     rw [F.op]
     have:=al1 F.nz
     grind
    rw [if_pos hr,if_neg F.nz,if_pos neg,if_neg (show ¬ t a r * t a q < 0 by rw [hr];grind),if_neg (by decide +kernel),if_pos (by decide +kernel)]
    omega
  ·obtain ⟨R,F⟩:=h1 hr
   have E:=ah9 ep eQ F.e
   refine ⟨(t a q * t a r,b8 (t a q)⁻¹ * q - b8 (t a r)⁻¹ * r) :: (BL ++ R),⟨?_,?_,fun x hx=>?_,fun v hv hR=>?_,?_⟩⟩
   ·show IsE a p q (_ + (by' (b8 (t a q * t a r)) * (bx (b8 (t a q)⁻¹ * q - b8 (t a r)⁻¹ * r) * by' (b8 (t a q)⁻¹ * q - b8 (t a r)⁻¹ * r)) + sqK (BL ++ R)))
    rw [V7,sK]
    generalize bx ((pX - b8 a) * q) * by' ((pX - b8 a) * q) * del S=K at *
    have iq:by' (b8 (t a q)) * by' (b8 (t a q)⁻¹)=1:=by rw [← B3,B8 hq,G0]
    have ir:by' (b8 (t a r)) * by' (b8 (t a r)⁻¹)=1:=by rw [← B3,B8 hr,G0]
    have xq:=A5 (t a q)⁻¹
    have xr:=A5 (t a r)⁻¹
    have e1:by' (b8 (t a p / t a q))=(by' (b8 c) * by' (b8 (t a q)) - by' (b8 (t a r))) * by' (b8 (t a q)⁻¹):=by
     rw [← B3,← F9,← B3,← z4,← A9,← z4,tp,Rat.div_def]
    have e2:by' (b8 (t a q / t a r))=by' (b8 (t a q)) * by' (b8 (t a r)⁻¹):=by rw [← B3,← z4,Rat.div_def]
    have e3:by' (b8 (t a q * t a r))=by' (b8 (t a q)) * by' (b8 (t a r)):=by rw [← B3,← z4]
    have e:by' (b8 c) * (bx q * by' q) - K - bx q * by' r - bx r * by' q + (by' (b8 (t a q / t a r)) * (bx r * by' r) + sqK R)=by' (b8 (t a p / t a q)) * (bx q * by' q) + (by' (b8 (t a q * t a r)) * (bx (b8 (t a q)⁻¹ * q - b8 (t a r)⁻¹ * r) * by' (b8 (t a q)⁻¹ * q - b8 (t a r)⁻¹ * r)) + (0 - K + sqK R)):=by
     rw [e1,e2,e3]
     simp only [M2,O6,B3,F9]
     rw [xq,xr]
     generalize sqK R=SR
     generalize by' (b8 (t a q))=A at *
     generalize by' (b8 (t a q)⁻¹)=A' at *
     generalize by' (b8 (t a r))=B2 at *
     generalize by' (b8 (t a r)⁻¹)=B' at *
     generalize by' (b8 c)=D at *
     generalize bx q=qx at *
     generalize by' q=qy at *
     generalize bx r=rx at *
     generalize by' r=ry at *
     clear E sK
     grind
    rw [← e];exact E
   ·rw [List.length_cons,List.length_append,lBL]
    have:=F.ln
    omega
   ·rcases List.mem_cons.mp hx with w | y
    ·rw [w]
     intro i hi
     show (b8 (t a q)⁻¹ * q - b8 (t a r)⁻¹ * r:Pf).f i=0
     rw [F7,M1,M1,dr i (by omega),lq.dg i (by omega)];grind
    ·rcases List.mem_append.mp y with w | w
     ·exact dBL x w
     ·exact ao6 (F.dg x w) (by omega)
   ·have a1:=hR (t a q * t a r,b8 (t a q)⁻¹ * q - b8 (t a r)⁻¹ * r) List.mem_cons_self
    simp only at a1
    rw [aj9,aM8,aM8,hv] at a1
    have k1:lf (k + 1 + n) r.f v=0:=by
     have x:(t a r)⁻¹ * lf (k + 1 + n) r.f v=0:=by grind
     rcases Rat.mul_eq_zero.mp x with y | y
     ·exact absurd (show t a r=0 by rw [← Rat.inv_inv (t a r),y];decide +kernel) hr
     ·exact y
    refine fin v (F.ind v ?_ fun x hx=>?_) hv fun x hx=>hR x (List.mem_cons_of_mem _ (List.mem_append.mpr (.inl hx)))
    ·rw [← aa2 dr (show n≤k + 1 + n by omega)];exact k1
    ·rw [← aa2 (F.dg x hx) (show n≤k + 1 + n by omega)]
     exact hR x (List.mem_cons_of_mem _ (List.mem_append.mpr (.inr hx)))
   ·rw [List.countP_cons,List.countP_append,nBL,F.ng]
    show nB (Q.f (k + 1)) k + (chg (t a r) (l.map (t a)) + C) + (if decide (t a q * t a r < 0)=true then 1 else 0)=(if t a r * t a q < 0 then 1 else 0) + chg (if t a r=0 then t a q else t a r) (l.map (t a)) + (C + nB (Q.f (k + 1)) k)
    rw [if_neg hr,Rat.mul_comm (t a q)]
    by_cases y:t a r * t a q < 0
    ·rw [if_pos y,if_pos (by rw [decide_eq_true_eq];exact y)];omega
    ·rw [if_neg y,if_neg (by rw [decide_eq_true_eq];exact y)];omega
 ·have hr:t a r ≠ 0:=fun hr=>by
   obtain ⟨r2,l2,z,R,el,F⟩:=h0 hr
   have:=F.op
   have:=F.nz
   grind
  obtain ⟨R,F⟩:=h1 hr
  have E:=ah9 ep eQ F.e
  refine ⟨c,BL ++ R,⟨hr,by rw [tp,hq];grind,?_,?_,fun x hx=>?_,ao6 dr (by omega),fun v hv hr' hR=>?_,?_⟩⟩
  ·rw [V7,sK]
   have z0:by' (b8 (t a q / t a r))=0:=by
    rw [hq,Rat.div_def,show (0:Rat) * (t a r)⁻¹=0 by grind,show b8 (0:Rat)=0 from p0,bA9]
   rw [z0] at E
   generalize bx ((pX - b8 a) * q) * by' ((pX - b8 a) * q) * del S=K at *
   have e:by' (b8 c) * (bx q * by' q) - K - bx q * by' r - bx r * by' q + (0 * (bx r * by' r) + sqK R)=by' (b8 c) * (bx q * by' q) - bx q * by' r - bx r * by' q + (0 - K + sqK R):=by
    generalize sqK R=SR
    clear E sK z0
    grind
   rw [← e];exact E
  ·rw [List.length_append,lBL]
   have:=F.ln
   omega
  ·rcases List.mem_append.mp hx with w | w
   ·exact dBL x w
   ·exact ao6 (F.dg x w) (by omega)
  ·refine fin v (F.ind v ?_ fun x hx=>?_) hv fun x hx=>hR x (List.mem_append.mpr (.inl hx))
   ·rw [← aa2 dr (show n≤k + 1 + n by omega)];exact hr'
   ·rw [← aa2 (F.dg x hx) (show n≤k + 1 + n by omega)]
    exact hR x (List.mem_append.mpr (.inr hx))
  ·rw [List.countP_append,nBL,F.ng];omega
theorem bD6 {t:Rat→Pf→Rat} (T:Evl t) {p q:Pf} {l:List Pf} {n:Nat} (h:St p q l n):∃ C,∀ a,(t a q ≠ 0→∃ R,F1 t a p q l n C R)∧(t a q=0→∃ r2 l2 z R,l=r2 :: l2∧F0 t a p q r2 l2 n C z R):=by
 induction h with
 | @last p n c hp hc =>
  obtain ⟨C,hC⟩:=bA0 T hp hc
  refine ⟨C,fun a=>?_⟩
  obtain ⟨tq,R,F⟩:=hC a
  exact ⟨fun _=>⟨R,F⟩,fun z=>absurd (by rw [← tq];exact z) hc⟩
 | @step p q r Q l k n e hQ h ih =>
  obtain ⟨C,hC⟩:=ih
  obtain ⟨lq,dr⟩:=h.lm
  refine ⟨C + nB (Q.f (k + 1)) k,fun a=>?_⟩
  obtain ⟨s1,s0⟩:=bz9 T e hQ lq dr a (hC a).1 (hC a).2
  refine ⟨s1,fun z=>?_⟩
  obtain ⟨z',R,F⟩:=s0 z
  exact ⟨r,l,z',R,rfl,F⟩
theorem aJ1 {a:Rat} {p q:Pf} {K M:Bf} (h:IsE a p q K) (k:IsE a p q M):K=M:=av8 (by
 unfold IsE at h k
 rw [h,k])
theorem bC2 {t:Rat→Pf→Rat} (T:Evl t) {p q:Pf} {l:List Pf} {n:Nat} (h:St p q l n) {N:Rat→Nat} (told:∀ a,∃ M,Sq a p q n (N a) M):∃ C,∀ a,N a=chg 0 (t a p :: t a q :: l.map (t a)) + C:=by
 obtain ⟨C,hC⟩:=bD6 T h
 refine ⟨C,fun a=>?_⟩
 obtain ⟨M,hM⟩:=told a
 have iM:=by4 hM.ln hM.dg hM.li
 have unf:chg 0 (t a p :: t a q :: l.map (t a))=chg (t a p) (t a q :: l.map (t a)):=by
  show (if t a p * 0 < 0 then 1 else 0) + chg (if t a p=0 then 0 else t a p) _=_
  rw [if_neg (show ¬ t a p * 0 < 0 by grind)]
  by_cases z:t a p=0
  ·rw [if_pos z,z];omega
  ·rw [if_neg z];omega
 rw [unf]
 by_cases hq:t a q=0
 ·obtain ⟨r2,l2,z,R,el,F⟩:=(hC a).2 hq
  have E:IsE a p q (sqK ([(-1 / 4,q + (b8 2 * r2 - b8 z * q)),(1 / 4,q - (b8 2 * r2 - b8 z * q))] ++ R)):=by
   rw [V7,aN0]
   have hh:by' (b8 (1 / 2)) * by' (b8 2)=1:=by
    rw [← B3,← z4,show (1 / 2:Rat) * 2=1 by decide +kernel,p9,G0]
   have h2:by' (b8 (2:Rat))=1 + 1:=by
    rw [show (2:Rat)=1 + 1 by decide +kernel,B9,J1,p9,G0]
   have c2:=A5 2
   have cz':=A5 z
   have e:by' (b8 z) * (bx q * by' q) - bx q * by' r2 - bx r2 * by' q + sqK R=0 - by' (b8 (1 / 2)) * (bx q * by' (b8 2 * r2 - b8 z * q) + bx (b8 2 * r2 - b8 z * q) * by' q) + sqK R:=by
    simp only [M2,O7,O6,B3,J1,F9]
    rw [c2,cz']
    generalize sqK R=SR
    generalize by' (b8 (1 / 2))=H at *
    generalize by' (b8 2)=W at *
    generalize by' (b8 z)=Z at *
    generalize bx q=qx at *
    generalize by' q=qy at *
    generalize bx r2=sx at *
    generalize by' r2=sy at *
    grind
   rw [← e];exact F.e
  have ln:([(-1 / 4,q + (b8 2 * r2 - b8 z * q)),(1 / 4,q - (b8 2 * r2 - b8 z * q))] ++ R).length=n:=by
   rw [List.length_append]
   have:=F.ln
   show 2 + R.length=n
   omega
  have ind:Ind n ([(-1 / 4,q + (b8 2 * r2 - b8 z * q)),(1 / 4,q - (b8 2 * r2 - b8 z * q))] ++ R):=fun v hR=>by
   have a1:=hR (-1 / 4,q + (b8 2 * r2 - b8 z * q)) (List.mem_append.mpr (.inl List.mem_cons_self))
   have a2:=hR (1 / 4,q - (b8 2 * r2 - b8 z * q)) (List.mem_append.mpr (.inl (List.mem_cons_of_mem _ List.mem_cons_self)))
   simp only at a1 a2
   rw [ak0] at a1
   rw [aj9] at a2
   have k1:lf n q.f v=0:=by grind
   have k2:lf n (b8 2 * r2 - b8 z * q).f v=0:=by grind
   rw [aj9,aM8,aM8,k1] at k2
   have k3:lf n r2.f v=0:=by grind
   exact F.ind v k1 k3 fun x hx=>hR x (List.mem_append.mpr (.inr hx))
  have key:=al6 (aJ1 hM.e E) hM.ln ln iM ind
  rw [hM.ng,List.countP_append,List.countP_cons,List.countP_cons,F.ng] at key
  have key':N a=0 + (if decide ((1 / 4:Rat) < 0)=true then 1 else 0) + (if decide ((-1 / 4:Rat) < 0)=true then 1 else 0) + (chg (t a r2) (l2.map (t a)) + C):=key
  rw [if_neg (by decide +kernel),if_pos (by decide +kernel)] at key'
  rw [el,hq]
  show N a=(if 0 * t a p < 0 then 1 else 0) + ((if t a r2 * (if (0:Rat)=0 then t a p else 0) < 0 then 1 else 0) + chg (if t a r2=0 then (if (0:Rat)=0 then t a p else 0) else t a r2) (l2.map (t a))) + C
  have neg:t a r2 * t a p < 0:=by
   rw [F.op]
   have:=al1 F.nz
   grind
  rw [if_neg (show ¬ 0 * t a p < 0 by grind),if_pos rfl,if_neg F.nz,if_pos neg]
  omega
 ·obtain ⟨R,F⟩:=(hC a).1 hq
  have E:IsE a p q (sqK ((t a p / t a q,q) :: R)):=F.e
  have ln:((t a p / t a q,q) :: R).length=n:=F.ln
  have ind:Ind n ((t a p / t a q,q) :: R):=fun v hR=>F.ind v (hR _ List.mem_cons_self) fun x hx=>hR x (List.mem_cons_of_mem _ hx)
  have key:=al6 (aJ1 hM.e E) hM.ln ln iM ind
  rw [hM.ng,List.countP_cons,F.ng] at key
  have key':N a=chg (t a q) (l.map (t a)) + C + (if decide (t a p / t a q < 0)=true then 1 else 0):=key
  show N a=(if t a q * t a p < 0 then 1 else 0) + chg (if t a q=0 then t a p else t a q) (l.map (t a)) + C
  rw [if_neg hq]
  have iff1:(t a p / t a q < 0) ↔ (t a q * t a p < 0):=by
   have sq:=al1 hq
   have e:t a q * t a p=t a p / t a q * (t a q * t a q):=by
    have:=Rat.div_mul_cancel (a:=t a p) hq
    grind
   generalize t a p / t a q=d at *
   rw [e]
   refine ⟨fun y=>?_,fun y=>?_⟩
   ·have:=Rat.mul_pos (show 0 < -d by grind) sq
    grind
   ·refine Classical.byContradiction fun w=>?_
    have:=Rat.mul_nonneg (Rat.not_lt.mp w) (Rat.le_of_lt sq)
    grind
  by_cases y:t a q * t a p < 0
  ·rw [if_pos y]
   rw [if_pos (by rw [decide_eq_true_eq];exact iff1.mpr y)] at key'
   omega
  ·rw [if_neg y]
   rw [if_neg (by rw [decide_eq_true_eq];exact fun z=>y (iff1.mp z))] at key'
   omega
inductive PSt:Pf→Pf→List Pf→Nat→Prop where
 | last {p:Pf} {n:Nat} {c:Rat} (hp:Lm p (n + 1)) (hc:c ≠ 0):PSt p (b8 c) [] (n + 1)
 | step {p q r Q:Pf} {l:List Pf} {k n:Nat} {c d:Rat} (e:b8 c * p=Q * q - b8 d * r) (hc:0 < c) (hd:0 < d) (hQ:Lm Q (k + 1)) (h:PSt q r l n):PSt p q (r :: l) (k + 1 + n)
inductive aX7:List Pf→List Pf→Prop where
 | nil:aX7 [] []
 | cons {x:Pf} {l m:List Pf} (c:Rat) (hc:0 < c) (fx:Fn x) (h:aX7 l m):aX7 (x :: l) (b8 c * x :: m)
theorem Lm.c {p:Pf} {n:Nat} (h:Lm p n) {c:Rat} (hc:c ≠ 0):Lm (b8 c * p) n:=⟨fun i hi=>by rw [M1,h.dg i hi];grind,by
 rw [M1]
 intro z
 rcases Rat.mul_eq_zero.mp z with y | y
 ·exact hc y
 ·exact h.ld y⟩
theorem PSt.fn {p q:Pf} {l:List Pf} {n:Nat} (h:PSt p q l n):Lm p n∧Dg q.f n:=by
 induction h with
 | last hp hc=>exact ⟨hp,fun i hi=>by rw [M9,if_neg (by omega)]⟩
 | @step p q r Q l k n c d e hc hd hQ h ih =>
  obtain ⟨lq,dr⟩:=ih
  have lQq:=hQ.mul lq
  have dr':∀ i,n≤i→(b8 d * r).f i=0:=fun i hi=>by rw [M1,dr i hi];grind
  have hc0:c ≠ 0:=by grind
  have eq:∀ i,c * p.f i=(Q * q).f i - (b8 d * r).f i:=fun i=>by rw [← M1,e,F7]
  refine ⟨⟨fun i hi=>?_,?_⟩,fun i hi=>lq.dg i (by omega)⟩
  ·have:=eq i
   rw [lQq.dg i hi,dr' i (by omega)] at this
   rcases Rat.mul_eq_zero.mp (show c * p.f i=0 by grind) with y | y
   ·exact absurd y hc0
   ·exact y
  ·intro z
   have:=eq (k + 1 + n)
   rw [z,dr' _ (by omega)] at this
   exact lQq.ld (by grind)
theorem PSt.norm {p q:Pf} {l:List Pf} {n:Nat} (h:PSt p q l n):∀ {u w:Rat},0 < u→0 < w→∃ l',St (b8 u * p) (b8 w * q) l' n∧aX7 l l':=by
 induction h with
 | @last p n c hp hc =>
  intro u w hu hw
  refine ⟨[],?_,.nil⟩
  rw [← z4]
  refine .last (hp.c (by grind)) fun z=>?_
  rcases Rat.mul_eq_zero.mp z with y | y
  ·grind
  ·exact hc y
 | @step p q r Q l k n c d e hc hd hQ h ih =>
  intro u w hu hw
  have ic:0 < c⁻¹:=Rat.inv_pos.mpr hc
  have iw:0 < w⁻¹:=Rat.inv_pos.mpr hw
  have hv:0 < u * d * c⁻¹:=Rat.mul_pos (Rat.mul_pos hu hd) ic
  obtain ⟨l',s,sp⟩:=ih hw hv
  refine ⟨b8 (u * d * c⁻¹) * r :: l',.step (Q:=b8 (u * c⁻¹ * w⁻¹) * Q) ?_ (hQ.c ?_) s,.cons _ hv ⟨_,h.fn.2⟩ sp⟩
  ·have e1:=B8 (show c ≠ 0 by grind)
   have e2:=B8 (show w ≠ 0 by grind)
   simp only [z4]
   generalize b8 c=A at *
   generalize b8 c⁻¹=A' at *
   generalize b8 w=W at *
   generalize b8 w⁻¹=W' at *
   generalize b8 d=D at *
   generalize b8 u=U at *
   clear ih s sp hv ic iw
   grind
  ·have:=Rat.mul_pos (Rat.mul_pos hu ic) iw
   grind
theorem bp4 {t:Rat→Pf→Rat} (T:Evl t) (a:Rat) {l m:List Pf} (h:aX7 l m):∀ {b b':Rat} {e:Rat},0 < e→b'=e * b→chg b' (m.map (t a))=chg b (l.map (t a)):=by
 induction h with
 | nil=>intros;rfl
 | @cons x l m c hc fx h ih =>
  intro b b' e he eb
  have tx:t a (b8 c * x)=c * t a x:=Z7 (T.at' a _ ((w9 c).mul fx)) ((ag4 a c).mul (T.at' a x fx))
  show (if t a (b8 c * x) * b' < 0 then 1 else 0) + chg (if t a (b8 c * x)=0 then b' else t a (b8 c * x)) (m.map (t a))=(if t a x * b < 0 then 1 else 0) + chg (if t a x=0 then b else t a x) (l.map (t a))
  rw [tx]
  have i1:(c * t a x * b' < 0) ↔ (t a x * b < 0):=by
   have pe:=Rat.mul_pos hc he
   have eq:c * t a x * b'=c * e * (t a x * b):=by rw [eb];grind
   rw [eq]
   generalize c * e=g at *
   generalize t a x * b=d at *
   refine ⟨fun y=>Classical.byContradiction fun w=>?_,fun y=>?_⟩
   ·have:=Rat.mul_nonneg (Rat.le_of_lt pe) (Rat.not_lt.mp w)
    grind
   ·have:=Rat.mul_pos pe (show 0 < -d by grind)
    grind
  have i2:(c * t a x=0) ↔ (t a x=0):=by
   refine ⟨fun y=>?_,fun y=>by rw [y];grind⟩
   rcases Rat.mul_eq_zero.mp y with w | w
   ·grind
   ·exact w
  by_cases z:t a x=0
  ·rw [if_pos z,if_pos (i2.mpr z),ih he eb]
   congr 1
   simp only [i1]
  ·rw [if_neg z,if_neg (fun w=>z (i2.mp w)),ih hc rfl]
   congr 1
   simp only [i1]
theorem aU2 {t:Rat→Pf→Rat} (T:Evl t) {p q:Pf} {l:List Pf} {n:Nat} (h:PSt p q l n) {N:Rat→Nat} (told:∀ a,∃ M,Sq a p q n (N a) M):∃ C,∀ a,N a=chg 0 ((p :: q :: l).map (t a)) + C:=by
 obtain ⟨l',s,sp⟩:=h.norm (u:=1) (w:=1) (by decide +kernel) (by decide +kernel)
 have e1:∀ x:Pf,b8 1 * x=x:=fun x=>by rw [p9];grind
 rw [e1,e1] at s
 obtain ⟨C,hC⟩:=bC2 T s told
 refine ⟨C,fun a=>?_⟩
 rw [hC a]
 congr 1
 have sp2:aX7 (p :: q :: l) (b8 1 * p :: b8 1 * q :: l'):=.cons 1 (by decide +kernel) h.fn.1.fn (.cons 1 (by decide +kernel) ⟨_,h.fn.2⟩ sp)
 have:=bp4 T a sp2 (b:=0) (b':=0) (e:=1) (by decide +kernel) (by grind)
 rw [e1,e1] at this
 exact this
theorem bD4 {a c d:Rat} {p q:Pf} {K:Bf} (h:IsE a p q K):IsE a (b8 c * p) (b8 d * q) (by' (b8 (c * d)) * K):=by
 unfold IsE at *
 have ha:=A5 a
 have hc:=A5 c
 have hd:=A5 d
 simp only [z4,M2,O7,O6,B3,J1,F9] at h ⊢
 rw [ha,hc,hd] at *
 generalize bx pX=x at *
 generalize by' pX=y at *
 generalize bx p=fx at *
 generalize by' p=fy at *
 generalize bx q=gx at *
 generalize by' q=gy at *
 generalize by' (b8 a)=A at *
 generalize by' (b8 c)=C at *
 generalize by' (b8 d)=D at *
 generalize dXY=e at *
 grind
theorem Sq.both {a:Rat} {p q:Pf} {n N:Nat} {L:List (Rat × Pf)} (h:Sq a p q n N L) {c d:Rat} (hc:0 < c * d):Sq a (b8 c * p) (b8 d * q) n N (mL (c * d) 1 L) where
 e:=by
  rw [af0,G0,ag3]
  have e:by' (b8 (c * d)) * (1 * 1) * sqK L=by' (b8 (c * d)) * sqK L:=by grind
  rw [e]
  exact bD4 h.e
 ln:=by rw [V0];exact h.ln
 dg:=(h.often hc).dg
 li:=(h.often hc).li
 ng:=by rw [ab8 hc];exact h.ng
def sp (s:Rat):Nat→Rat
 | 0=>1
 | n + 1=>s * sp s n
theorem br0 {s:Rat} (h:s * s=1):∀ n,sp s n * sp s n=1
 | 0=>by show (1:Rat) * 1=1;decide +kernel
 | n + 1=>by
  show s * sp s n * (s * sp s n)=1
  have:=br0 h n
  have e:s * sp s n * (s * sp s n)=s * s * (sp s n * sp s n):=by grind
  rw [e,h,this];decide +kernel
theorem bE4 (a:Rat):At a pX a:=⟨1,G9,by grind⟩
theorem bq8 {t:Rat→Pf→Rat} (T:Evl t) (a:Rat) {p:Pf} (h:Fn p):t a p=p.f 0 + a * t a (dwn p):=by
 have fd:Fn (dwn p):=by
  obtain ⟨n,hn⟩:=h
  exact ⟨n,fun i hi=>hn (i + 1) (by omega)⟩
 have e:=(ag4 a (p.f 0)).add ((bE4 a).mul (T.at' a _ fd))
 rw [← ak3 p] at e
 exact Z7 (T.at' a p h) e
theorem far {t:Rat→Pf→Rat} (T:Evl t) {s:Rat} (hs:s * s=1):∀ (n:Nat) (p:Pf),Lm p n→∃ b,0 < b∧∀ a,b≤a→p.f n * p.f n≤2 * (t (s * a) p * (p.f n * sp s n))
 | 0,p,h=>⟨1,by decide +kernel,fun a _=>by
  have e:=bq8 T (s * a) h.fn
  have z:dwn p=0:=Pf.ext fun i=>by rw [v6];exact h.dg (i + 1) (by omega)
  have t0:t (s * a) (0:Pf)=0:=by
   have h1:=T.at' (s * a) (0:Pf) J3
   have h2:=ag4 (s * a) 0
   rw [show b8 (0:Rat)=0 from p0] at h2
   exact Z7 h1 h2
  rw [e,z,t0]
  show _≤2 * ((p.f 0 + s * a * 0) * (p.f 0 * 1))
  have:=ag8 (p.f 0)
  grind⟩
 | n + 1,p,h=>by
  have ld:Lm (dwn p) n:=⟨fun i hi=>h.dg (i + 1) (by omega),h.ld⟩
  obtain ⟨b,hb,ih⟩:=far T hs n (dwn p) ld
  have lp:=al1 h.ld
  have q0:0≤p.f 0 * p.f 0 / (p.f (n + 1) * p.f (n + 1)):=by
   rw [Rat.div_def]
   exact Rat.mul_nonneg (ag8 _) (Rat.le_of_lt (Rat.inv_pos.mpr lp))
  refine ⟨b + 2 + p.f 0 * p.f 0 / (p.f (n + 1) * p.f (n + 1)),by grind,fun a ha=>?_⟩
  have i:=ih a (by grind)
  have i':p.f (n + 1) * p.f (n + 1)≤2 * (t (s * a) (dwn p) * (p.f (n + 1) * sp s n)):=i
  have e:=bq8 T (s * a) h.fn
  rw [e]
  show _≤2 * ((p.f 0 + s * a * t (s * a) (dwn p)) * (p.f (n + 1) * (s * sp s n)))
  have sq1:=br0 hs (n + 1)
  have sq1':s * sp s n * (s * sp s n)=1:=sq1
  -- the low part
  have low:0≤(p.f 0 + p.f (n + 1) * (s * sp s n)) * (p.f 0 + p.f (n + 1) * (s * sp s n)):=ag8 _
  have low':- (p.f 0 * p.f 0 + p.f (n + 1) * p.f (n + 1))≤2 * (p.f 0 * (p.f (n + 1) * (s * sp s n))):=by
   have e2:p.f (n + 1) * (s * sp s n) * (p.f (n + 1) * (s * sp s n))=p.f (n + 1) * p.f (n + 1):=by
    have:p.f (n + 1) * (s * sp s n) * (p.f (n + 1) * (s * sp s n))=p.f (n + 1) * p.f (n + 1) * (s * sp s n * (s * sp s n)):=by grind
    rw [this,sq1'];grind
   grind
  have dv:p.f 0 * p.f 0 / (p.f (n + 1) * p.f (n + 1)) * (p.f (n + 1) * p.f (n + 1))=p.f 0 * p.f 0:=Rat.div_mul_cancel (by grind)
  have ha2:0≤a - 2 - p.f 0 * p.f 0 / (p.f (n + 1) * p.f (n + 1)):=by grind
  have m1:=Rat.mul_nonneg ha2 (Rat.le_of_lt lp)
  have a0:0≤a:=by grind
  have m2:=Rat.mul_nonneg a0 (show 0≤2 * (t (s * a) (dwn p) * (p.f (n + 1) * sp s n)) - p.f (n + 1) * p.f (n + 1) by grind)
  have e3:2 * ((p.f 0 + s * a * t (s * a) (dwn p)) * (p.f (n + 1) * (s * sp s n)))=2 * (p.f 0 * (p.f (n + 1) * (s * sp s n))) + (s * s) * (a * (2 * (t (s * a) (dwn p) * (p.f (n + 1) * sp s n)))):=by grind
  rw [e3,hs]
  generalize t (s * a) (dwn p) * (p.f (n + 1) * sp s n)=u at *
  generalize p.f 0 * (p.f (n + 1) * (s * sp s n))=w at *
  generalize p.f 0 * p.f 0 / (p.f (n + 1) * p.f (n + 1))=g at *
  generalize p.f (n + 1) * p.f (n + 1)=L at *
  generalize p.f 0 * p.f 0=P at *
  clear ih i i' e3 low e sq1 sq1' ld
  grind
def SS (x y:Rat):Prop:=(x < 0 ↔ y < 0)∧(0 < x ↔ 0 < y)
theorem SS.zero {x y:Rat} (h:SS x y):x=0 ↔ y=0:=by
 have h1:=h.1
 have h2:=h.2
 refine ⟨fun z=>?_,fun z=>?_⟩
 ·have a:¬ y < 0:=fun w=>by have:=h1.mpr w;grind
  have b:¬ 0 < y:=fun w=>by have:=h2.mpr w;grind
  grind
 ·have a:¬ x < 0:=fun w=>by have:=h1.mp w;grind
  have b:¬ 0 < x:=fun w=>by have:=h2.mp w;grind
  grind
theorem mul_neg (x y:Rat):x * y < 0 ↔ (x < 0∧0 < y) ∨ (0 < x∧y < 0):=by
 refine ⟨fun h=>?_,fun h=>?_⟩
 ·by_cases a:x < 0
  ·refine .inl ⟨a,Classical.byContradiction fun w=>?_⟩
   have:=Rat.mul_nonneg (show 0≤-x by grind) (show 0≤-y by grind)
   grind
  ·by_cases b:0 < x
   ·refine .inr ⟨b,Classical.byContradiction fun w=>?_⟩
    have:=Rat.mul_nonneg (Rat.le_of_lt b) (Rat.not_lt.mp w)
    grind
   ·have:x=0:=by grind
    rw [this] at h
    grind
 ·rcases h with ⟨a,b⟩ | ⟨a,b⟩
  ·have:=Rat.mul_pos (show 0 < -x by grind) b
   grind
  ·have:=Rat.mul_pos a (show 0 < -y by grind)
   grind
inductive az9:List Rat→List Rat→Prop where
 | nil:az9 [] []
 | cons {x y:Rat} {l m:List Rat} (h:SS x y) (k:az9 l m):az9 (x :: l) (y :: m)
theorem aO3 {l m:List Rat} (h:az9 l m):∀ {b c:Rat},SS b c→chg b l=chg c m:=by
 induction h with
 | nil=>intros;rfl
 | @cons x y l m h k ih =>
  intro b c hb
  show (if x * b < 0 then 1 else 0) + chg (if x=0 then b else x) l=(if y * c < 0 then 1 else 0) + chg (if y=0 then c else y) m
  have i:(x * b < 0) ↔ (y * c < 0):=by rw [mul_neg,mul_neg,h.1,h.2,hb.1,hb.2]
  have e:chg (if x=0 then b else x) l=chg (if y=0 then c else y) m:=by
   by_cases z:x=0
   ·rw [if_pos z,if_pos (h.zero.mp z)];exact ih hb
   ·rw [if_neg z,if_neg (fun w=>z (h.zero.mpr w))];exact ih h
  rw [e]
  congr 1
  simp only [i]
theorem aA5 (x:Rat):SS x x:=⟨Iff.rfl,Iff.rfl⟩
inductive aA0:List Pf→List Nat→Prop where
 | nil:aA0 [] []
 | cons {x:Pf} {n:Nat} {l:List Pf} {ns:List Nat} (h:Lm x n) (k:aA0 l ns):aA0 (x :: l) (n :: ns)
def lds (s:Rat):List Pf→List Nat→List Rat
 | x :: l,n :: ns=>x.f n * sp s n :: lds s l ns
 | _,_=>[]
theorem aS3 {t:Rat→Pf→Rat} (T:Evl t) {s:Rat} (hs:s * s=1) {l:List Pf} {ns:List Nat} (h:aA0 l ns):∃ b,0 < b∧∀ a,b≤a→az9 (l.map (t (s * a))) (lds s l ns):=by
 induction h with
 | nil=>exact ⟨1,by decide +kernel,fun _ _=>.nil⟩
 | @cons x n l ns h k ih =>
  obtain ⟨b,hb,ih⟩:=ih
  obtain ⟨c,hc,far⟩:=far T hs n x h
  refine ⟨b + c,by grind,fun a ha=>.cons ?_ (ih a (by grind))⟩
  have f:=far a (by grind)
  have lp:=al1 h.ld
  have pos:0 < t (s * a) x * (x.f n * sp s n):=by grind
  generalize t (s * a) x=u at *
  generalize x.f n * sp s n=w at *
  have h1:=mul_neg u (-w)
  have h2:u * -w < 0:=by grind
  rcases h1.mp h2 with ⟨p,q⟩ | ⟨p,q⟩
  ·exact ⟨⟨fun _=>by grind,fun _=>p⟩,⟨fun z=>by grind,fun z=>by grind⟩⟩
  ·exact ⟨⟨fun z=>by grind,fun z=>by grind⟩,⟨fun _=>by grind,fun _=>p⟩⟩
structure Rtu where
 u:Rat
 o:Int
 v:Rat
def abv (c:Rat) (x:Rtu):Bool:=if x.o=0 then decide (c < x.u) else if x.o=1 then decide (c - x.u≤0) || decide ((c - x.u) * (c - x.u) < x.v) else decide (c - x.u < 0) && decide (x.v < (c - x.u) * (c - x.u))
theorem bi8 {c d:Rat} (h:c < d) (x:Rtu) (k:abv d x=true):abv c x=true:=by
 unfold abv at *
 by_cases z:x.o=0
 ·rw [if_pos z] at *
  rw [decide_eq_true_eq] at *
  grind
 ·rw [if_neg z] at *
  by_cases y:x.o=1
  ·rw [if_pos y] at *
   rw [Bool.or_eq_true,decide_eq_true_eq,decide_eq_true_eq] at *
   by_cases w:c - x.u≤0
   ·exact .inl w
   ·refine .inr ?_
    have p1:0 < c - x.u:=by grind
    rcases k with k | k
    ·grind
    ·have e:(d - x.u) * (d - x.u)=(c - x.u) * (c - x.u) + (d - c) * (d - x.u) + (d - c) * (c - x.u):=by grind
     have m1:=Rat.mul_pos (show 0 < d - c by grind) (show 0 < d - x.u by grind)
     have m2:=Rat.mul_pos (show 0 < d - c by grind) p1
     grind
  ·rw [if_neg y] at *
   rw [Bool.and_eq_true,decide_eq_true_eq,decide_eq_true_eq] at *
   obtain ⟨k1,k2⟩:=k
   refine ⟨by grind,?_⟩
   have e:(c - x.u) * (c - x.u)=(d - x.u) * (d - x.u) + (d - c) * (x.u - d) + (d - c) * (x.u - c):=by grind
   have m1:=Rat.mul_pos (show 0 < d - c by grind) (show 0 < x.u - d by grind)
   have m2:=Rat.mul_pos (show 0 < d - c by grind) (show 0 < x.u - c by grind)
   grind
theorem ay5 {c d:Rat} (h:c < d):∀ L:List Rtu,L.countP (abv c)=L.countP (fun x=>abv c x && !abv d x) + L.countP (abv d)
 | []=>rfl
 | x :: r=>by
  rw [List.countP_cons,List.countP_cons,List.countP_cons,ay5 h r]
  have m:=bi8 h x
  cases e1:abv c x <;> cases e2:abv d x <;> simp [e1,e2] at m ⊢ <;> omega
theorem bx5 {d w:Rat} (h:0 < w):nQ d w=1:=by
 unfold nQ
 by_cases z:d=0
 ·rw [if_pos z]
 ·rw [if_neg z]
  have sq:=al1 z
  have e:w / d * (w + d * d) * d=w * (w + d * d):=by
   have:=Rat.div_mul_cancel (a:=w) z
   grind
  have pos:0 < w * (w + d * d):=Rat.mul_pos h (by grind)
  rw [← e] at pos
  have m:=mul_neg (-(w / d) * (w + d * d)) d
  have m':-(w / d) * (w + d * d) * d < 0:=by grind
  generalize -(w / d) * (w + d * d)=g at *
  rcases m.mp m' with ⟨a,b⟩ | ⟨a,b⟩
  ·rw [if_neg (by grind),if_pos a]
  ·rw [if_pos b,if_neg (by grind)]
theorem bx6 {d v:Rat} (h:0 < v):nQ d (-v)=(if (decide (d < 0) && decide (v < d * d))=true then 1 else 0) + (if (decide (d≤0) || decide (d * d < v))=true then 1 else 0):=by
 unfold nQ
 by_cases z:d=0
 ·rw [if_pos z]
  subst z
  rw [if_neg (by simp),if_pos (by simp)]
 ·rw [if_neg z]
  have e:-(-v / d) * (-v + d * d) * d=v * (d * d - v):=by
   have:=Rat.div_mul_cancel (a:=-v) z
   grind
  have k:(-(-v / d) * (-v + d * d)) * d < 0 ↔ d * d < v:=by
   rw [e]
   rw [mul_neg]
   refine ⟨fun x=>?_,fun x=>.inr ⟨h,by grind⟩⟩
   rcases x with ⟨a,_⟩ | ⟨_,b⟩
   ·grind
   ·grind
  have k':0 < (-(-v / d) * (-v + d * d)) * d ↔ v < d * d:=by
   rw [e]
   refine ⟨fun x=>?_,fun x=>Rat.mul_pos h (by grind)⟩
   refine Classical.byContradiction fun y=>?_
   have:=Rat.mul_nonneg (Rat.le_of_lt h) (show 0≤v - d * d by grind)
   grind
  generalize -(-v / d) * (-v + d * d)=g at *
  by_cases dn':d < 0
  ·have g1:(g < 0) ↔ v < d * d:=by
    rw [← k']
    refine ⟨fun x=>?_,fun x=>?_⟩
    ·have:=Rat.mul_pos (show 0 < -g by grind) (show 0 < -d by grind)
     grind
    ·refine Classical.byContradiction fun y=>?_
     have:=Rat.mul_nonneg (Rat.not_lt.mp y) (show 0≤-d by grind)
     grind
   rw [if_pos dn']
   have q2:(decide (d≤0) || decide (d * d < v))=true:=by simp;left;grind
   rw [if_pos q2]
   by_cases y:v < d * d
   ·rw [if_pos (g1.mpr y),if_pos (by simp;exact ⟨dn',y⟩)]
   ·rw [if_neg (fun x=>y (g1.mp x)),if_neg (by simp;intro _;grind)]
  ·have dp:0 < d:=by grind
   have g1:(g < 0) ↔ d * d < v:=by
    rw [← k,mul_neg]
    refine ⟨fun x=>.inl ⟨x,dp⟩,fun x=>?_⟩
    rcases x with ⟨a,_⟩ | ⟨_,b⟩
    ·exact a
    ·grind
   have q1:¬ (decide (d < 0) && decide (v < d * d))=true:=by simp;intro x;exact absurd x dn'
   rw [if_neg dn',if_neg q1]
   by_cases y:d * d < v
   ·rw [if_pos (g1.mpr y),if_pos (by simp;right;exact y)]
   ·rw [if_neg (fun x=>y (g1.mp x)),if_neg (by simp;exact ⟨by grind,by grind⟩)]
theorem aR6 {p:Pf} (h:Fn p) (nz:p ≠ 0):∃ n,Lm p n:=by
 obtain ⟨m,hm⟩:=h
 have key:∀ j,Dg p.f j→∃ n,Lm p n:=fun j=>by
  induction j with
  | zero=>intro d;exact absurd (Pf.ext fun i=>by rw [v6];exact d i (by omega)) nz
  | succ j ih =>
   intro d
   by_cases z:p.f j=0
   ·exact ih fun i hi=>by
     by_cases y:i=j
     ·rw [y];exact z
     ·exact d i (by omega)
   ·exact ⟨j,d,z⟩
 exact key m hm
theorem ad2 {p:Pf} {m n:Nat} (h:Lm p m) (k:Lm p n):m=n:=by
 rcases Nat.lt_trichotomy m n with y | y | y
 ·exact absurd (h.dg n (by omega)) k.ld
 ·exact y
 ·exact absurd (k.dg m (by omega)) h.ld
theorem Lm.nz {p:Pf} {n:Nat} (h:Lm p n):p ≠ 0:=fun z=>h.ld (by rw [z,v6])
theorem Lm.cancel {g X Y:Pf} {n:Nat} (h:Lm g n) (fX:Fn X) (fY:Fn Y) (e:g * X=g * Y):X=Y:=by
 have z:=h.zero (fX.sub fY) (by
  have:g * (X - Y)=0:=by grind
  rw [this]
  exact fun i _=>v6 i)
 grind
theorem bD1 {p:Pf} (h:Lm p 0):p=b8 (p.f 0)∧p.f 0 ≠ 0:=⟨Pf.ext fun k=>by
 rw [M9]
 by_cases z:k=0
 ·rw [if_pos z,z]
 ·rw [if_neg z];exact h.dg k (by omega),h.ld⟩
theorem ap3 {h W:Pf} (fh:Fn h) (fW:Fn W) (e:h * W=1):∃ c,c ≠ 0∧h=b8 c:=by
 have h1:(1:Pf) ≠ 0:=fun z=>by
  have:=congrArg (fun p:Pf=>p.f 0) z
  simp only [G6,v6] at this
  exact absurd this (by decide +kernel)
 have hn:h ≠ 0:=fun z=>h1 (by rw [← e,z];grind)
 have wn:W ≠ 0:=fun z=>h1 (by rw [← e,z];grind)
 obtain ⟨m,lm⟩:=aR6 fh hn
 obtain ⟨k,lk⟩:=aR6 fW wn
 have l1:Lm (1:Pf) 0:=⟨fun i hi=>by rw [G6,if_neg (by omega)],by rw [G6,if_pos rfl];decide +kernel⟩
 have lp:=lm.mul lk
 rw [e] at lp
 have:=ad2 lp l1
 have m0:m=0:=by omega
 rw [m0] at lm
 exact ⟨_,(bD1 lm).2,(bD1 lm).1⟩
theorem PSt.cop {p q:Pf} {l:List Pf} {n:Nat} (h:PSt p q l n):Cop p q:=by
 induction h with
 | @last p n c hp hc =>
  refine ⟨0,b8 c⁻¹,J3,w9 _,?_⟩
  have:=B8 hc
  grind
 | @step p q r Q l k n c d e hc hd hQ h ih =>
  obtain ⟨u,v,hu,hv,e'⟩:=ih
  have id:=B8 (show d ≠ 0 by grind)
  refine ⟨0 - b8 d⁻¹ * b8 c * v,u + b8 d⁻¹ * Q * v,J3.sub (((w9 _).mul (w9 _)).mul hv),hu.add (((w9 _).mul hQ.fn).mul hv),?_⟩
  generalize b8 d=D at *
  generalize b8 d⁻¹=D' at *
  generalize b8 c=A at *
  have e2:D' * (Q * q - A * p)=r:=by
   rw [e];grind
  grind
theorem aT9 {g T0 T1 A S G:Pf} {k1 k2:Rat} {m:Nat} (lg:Lm g m) (f0:Fn T0) (f1:Fn T1) (fA:Fn A) (fS:Fn S) (fG:Fn G) (e0:g * T0=b8 k1 * (G * A)) (e1:g * T1=b8 k2 * (G * S)) (hk:0 < k1 * k2) (cp:Cop A S) (ct:Cop T0 T1):∃ c d,0 < c * d∧T0=b8 c * A∧T1=b8 d * S:=by
 have n1:k1 ≠ 0:=fun z=>by rw [z] at hk;grind
 have n2:k2 ≠ 0:=fun z=>by rw [z] at hk;grind
 have i1:=B8 n1
 have i2:=B8 n2
 obtain ⟨u,v,hu,hv,e⟩:=cp
 obtain ⟨u',v',hu',hv',e'⟩:=ct
 have fh:Fn (b8 k1⁻¹ * u * T0 + b8 k2⁻¹ * v * T1):=(((w9 _).mul hu).mul f0).add (((w9 _).mul hv).mul f1)
 have eG:G=g * (b8 k1⁻¹ * u * T0 + b8 k2⁻¹ * v * T1):=by
  have a:g * (b8 k1⁻¹ * u * T0 + b8 k2⁻¹ * v * T1)=b8 k1⁻¹ * u * (g * T0) + b8 k2⁻¹ * v * (g * T1):=by grind
  rw [a,e0,e1]
  generalize b8 k1=K1 at *
  generalize b8 k1⁻¹=K1' at *
  generalize b8 k2=K2 at *
  generalize b8 k2⁻¹=K2' at *
  have b:K1' * u * (K1 * (G * A)) + K2' * v * (K2 * (G * S))=(K1 * K1') * (G * (u * A)) + (K2 * K2') * (G * (v * S)):=by grind
  rw [b,i1,i2]
  have:G=G * (u * A + v * S):=by rw [e];grind
  grind
 generalize b8 k1⁻¹ * u * T0 + b8 k2⁻¹ * v * T1=h at *
 have t0:T0=b8 k1 * (h * A):=lg.cancel f0 ((w9 _).mul (fh.mul fA)) (by rw [e0,eG];grind)
 have t1:T1=b8 k2 * (h * S):=lg.cancel f1 ((w9 _).mul (fh.mul fS)) (by rw [e1,eG];grind)
 have un:h * (u' * b8 k1 * A + v' * b8 k2 * S)=1:=by
  rw [t0,t1] at e'
  grind
 obtain ⟨c,hc,ec⟩:=ap3 fh (((hu'.mul (w9 _)).mul fA).add ((hv'.mul (w9 _)).mul fS)) un
 refine ⟨k1 * c,k2 * c,?_,?_,?_⟩
 ·have:=Rat.mul_pos hk (al1 hc)
  grind
 ·rw [t0,ec,z4];grind
 ·rw [t1,ec,z4];grind
def bq1:List Pf→Prop
 | x :: y :: z :: l=>(∃ c d Q k,0 < c∧0 < d∧Lm Q (k + 1)∧b8 c * x=Q * y - b8 d * z)∧bq1 (y :: z :: l)
 | [x,y] => ∃ n,Lm x (n + 1)
 | _=>True
theorem bb2:∀ {l:List Pf} {x y:Pf},bq1 (x :: y :: l)→(∃ c,c ≠ 0∧(x :: y :: l).getLast? = some (b8 c))→∃ n,PSt x y l n
 | [],x,y,h,⟨c,hc,e⟩=>by
  obtain ⟨n,hn⟩:=h
  have:y=b8 c:=Option.some.inj e
  rw [this]
  exact ⟨_,.last hn hc⟩
 | z :: l,x,y,h,⟨c,hc,e⟩=>by
  obtain ⟨⟨c',d',Q,k,h1,h2,h3,h4⟩,h5⟩:=h
  obtain ⟨n,hn⟩:=bb2 (l:=l) h5 ⟨c,hc,by rw [List.getLast?_cons_cons] at e;exact e⟩
  exact ⟨_,.step h4 h1 h2 h3 hn⟩
theorem aK9 {t:Rat→Pf→Rat} (T:Evl t) {T0 T1:Pf} {l:List Pf} {n:Nat} (h:PSt T0 T1 l n) {L:List Rt1} (ok:∀ x ∈ L,aX8 x) (tf:TF (tfs L)) {c d:Rat} (hcd:0 < c * d) (e0:T0=b8 c * aP (tfs L) 1) (e1:T1=b8 d * sP (tfs L) 1):∃ C,∀ a,NT L a=chg 0 ((T0 :: T1 :: l).map (t a)) + C:=by
 have hc:c ≠ 0:=fun z=>by rw [z] at hcd;grind
 have ln:n=nT L:=by
  have a:=h.fn.1
  rw [e0] at a
  exact ad2 a ((ah7 ok).c hc)
 subst ln
 refine aU2 T h fun a=>?_
 obtain ⟨M,hM⟩:=aP4 a ok tf
 rw [e0,e1]
 exact ⟨_,hM.both hcd⟩
structure RtR (x:Rt1) (rs:List Rtu) (m:Nat):Prop where
 n:∀ a,x.N a=rs.countP (abv a) + m
 v:∀ r ∈ rs,r.o=0 ∨ ((r.o=1 ∨ r.o=-1)∧0 < r.v)
theorem bl3 (r v:Rat) (m:Nat):RtR ⟨pX - b8 r,m,1,fun a=>if a < r then 1 else 0⟩ [⟨r,0,v⟩] 0:=⟨fun a=>by
 show (if a < r then 1 else 0)=_
 rw [List.countP_cons]
 show _=0 + (if decide (a < r)=true then 1 else 0) + 0
 by_cases h:a < r
 ·rw [if_pos h,if_pos (by rw [decide_eq_true_eq];exact h)]
 ·rw [if_neg h,if_neg (by rw [decide_eq_true_eq];exact h)],fun x hx=>by rw [List.mem_singleton.mp hx];exact .inl rfl⟩
theorem bl4 (u w:Rat) (m:Nat) (h:0 < w):RtR ⟨(pX - b8 u) * (pX - b8 u) + b8 w,m,2,fun a=>nQ (a - u) w⟩ [] 1:=⟨fun a=>by
 show nQ (a - u) w=0 + 1
 rw [bx5 h],fun x hx=>by simp at hx⟩
theorem ba7 (u v:Rat) (m:Nat) (h:0 < v):RtR ⟨(pX - b8 u) * (pX - b8 u) + b8 (-v),m,2,fun a=>nQ (a - u) (-v)⟩ [⟨u,-1,v⟩,⟨u,1,v⟩] 0:=⟨fun a=>by
 show nQ (a - u) (-v)=_
 rw [bx6 h,List.countP_cons,List.countP_cons]
 have e1:abv a ⟨u,-1,v⟩=(decide (a - u < 0) && decide (v < (a - u) * (a - u))):=rfl
 have e2:abv a ⟨u,1,v⟩=(decide (a - u≤0) || decide ((a - u) * (a - u) < v)):=rfl
 rw [e1,e2,List.countP_nil]
 omega,fun x hx=>by
 rcases List.mem_cons.mp hx with y | y
 ·rw [y];exact .inr ⟨.inr rfl,h⟩
 ·rw [List.mem_singleton.mp y];exact .inr ⟨.inl rfl,h⟩⟩
theorem bp8 {x:Rtu} (h:x.o=0 ∨ ((x.o=1 ∨ x.o=-1)∧0 < x.v)):∃ b,0 < b∧∀ a,b≤a→abv a x=false∧abv (-a) x=true:=by
 have su:=ag8 x.u
 have s1:=ag8 (x.u - 1)
 have s2:=ag8 (x.u + 1)
 rcases h with h | ⟨h,hv⟩
 ·refine ⟨x.u * x.u + 2,by grind,fun a ha=>?_⟩
  unfold abv
  rw [if_pos h,if_pos h,decide_eq_false_iff_not,decide_eq_true_eq]
  exact ⟨by grind,by grind⟩
 ·refine ⟨x.u * x.u + 2 + x.v,by grind,fun a ha=>?_⟩
  have p1:1 + x.v≤a - x.u:=by grind
  have p2:1 + x.v≤a + x.u:=by grind
  have q1:x.v < (a - x.u) * (a - x.u):=by
   have m:=Rat.mul_nonneg (show 0≤a - x.u - 1 by grind) (show 0≤a - x.u by grind)
   grind
  have q2:x.v < (-a - x.u) * (-a - x.u):=by
   have m:=Rat.mul_nonneg (show 0≤a + x.u - 1 by grind) (show 0≤a + x.u by grind)
   grind
  unfold abv
  rcases h with h | h
  ·rw [h,if_neg (by decide),if_pos rfl,if_neg (by decide),if_pos rfl,Bool.or_eq_false_iff,Bool.or_eq_true,decide_eq_false_iff_not,decide_eq_false_iff_not,decide_eq_true_eq]
   exact ⟨⟨by grind,by grind⟩,.inl (by grind)⟩
  ·rw [h,if_neg (by decide),if_neg (by decide),if_neg (by decide),if_neg (by decide),Bool.and_eq_false_iff,Bool.and_eq_true,decide_eq_false_iff_not,decide_eq_true_eq,decide_eq_true_eq]
   exact ⟨.inl (by grind),by grind,q2⟩
theorem ac5:∀ {L:List Rtu},(∀ x ∈ L,x.o=0 ∨ ((x.o=1 ∨ x.o=-1)∧0 < x.v))→∃ b,0 < b∧∀ a,b≤a→L.countP (abv a)=0∧L.countP (abv (-a))=L.length
 | [],_=>⟨1,by decide +kernel,fun _ _=>⟨rfl,rfl⟩⟩
 | x :: r,h=>by
  obtain ⟨b,hb,k⟩:=bp8 (h x List.mem_cons_self)
  obtain ⟨c,hc,k'⟩:=ac5 (L:=r) fun y hy=>h y (List.mem_cons_of_mem _ hy)
  refine ⟨b + c,by grind,fun a ha=>?_⟩
  obtain ⟨x1,x2⟩:=k a (by grind)
  obtain ⟨y1,y2⟩:=k' a (by grind)
  rw [List.countP_cons,List.countP_cons,x1,x2,y1,y2]
  exact ⟨rfl,rfl⟩
theorem aF8 {t:Rat→Pf→Rat} (T:Evl t) {T0 T1:Pf} {l:List Pf} {n:Nat} {ns:List Nat} (h:PSt T0 T1 l n) (al:aA0 (T0 :: T1 :: l) ns) {L:List Rt1} (ok:∀ x ∈ L,aX8 x) (tf:TF (tfs L)) {c d:Rat} (hcd:0 < c * d) (e0:T0=b8 c * aP (tfs L) 1) (e1:T1=b8 d * sP (tfs L) 1) {rs:List Rtu} {m:Nat} (hr:∀ a,NT L a=rs.countP (abv a) + m) (hv:∀ r ∈ rs,r.o=0 ∨ ((r.o=1 ∨ r.o=-1)∧0 < r.v)) :
  ∃ C,(∀ a,chg 0 ((T0 :: T1 :: l).map (t a)) + C=rs.countP (abv a) + m)∧chg 0 (lds 1 (T0 :: T1 :: l) ns) + C=m∧chg 0 (lds (-1) (T0 :: T1 :: l) ns) + C=rs.length + m:=by
 obtain ⟨C,hC⟩:=aK9 T h ok tf hcd e0 e1
 have base:∀ a,chg 0 ((T0 :: T1 :: l).map (t a)) + C=rs.countP (abv a) + m:=fun a=>by rw [← hC,hr]
 obtain ⟨b,hb,far0⟩:=ac5 hv
 obtain ⟨b1,hb1,f1⟩:=aS3 T (s:=1) (by decide +kernel) al
 obtain ⟨b2,hb2,f2⟩:=aS3 T (s:=-1) (by decide +kernel) al
 refine ⟨C,base,?_,?_⟩
 ·have s:=f1 (b + b1) (by grind)
  have k:=(far0 (b + b1) (by grind)).1
  rw [show (1:Rat) * (b + b1)=b + b1 by grind] at s
  have:=base (b + b1)
  rw [k,aO3 s (aA5 0)] at this
  omega
 ·have s:=f2 (b + b2) (by grind)
  have k:=(far0 (b + b2) (by grind)).2
  rw [show (-1:Rat) * (b + b2)=-(b + b2) by grind] at s
  have:=base (-(b + b2))
  rw [k,aO3 s (aA5 0)] at this
  omega
structure Fp where
 k:Nat
 u:Rat
 w:Rat
deriving DecidableEq
def P8 (x:Fp):Prop:=(x.k=0∧x.w=0) ∨ (x.k=1∧0 < x.w) ∨ (x.k=2∧x.w < 0)
def Fp.f (x:Fp):Pf:=if x.k=0 then pX - b8 x.u else (pX - b8 x.u) * (pX - b8 x.u) + b8 x.w
def Fp.n (x:Fp):Nat:=if x.k=0 then 1 else 2
def Fp.N (x:Fp):Rat→Nat:=if x.k=0 then fun a=>if a < x.u then 1 else 0 else fun a=>nQ (a - x.u) x.w
def Fp.rs (x:Fp):List Rtu:=if x.k=0 then [⟨x.u,0,0⟩] else if x.k=1 then [] else [⟨x.u,-1,-x.w⟩,⟨x.u,1,-x.w⟩]
def Fp.m (x:Fp):Nat:=if x.k=1 then 1 else 0
def Fp.qs (x:Fp):List Rat:=if x.k=0 then [-x.u,1] else [x.u * x.u + x.w,-2 * x.u,1]
theorem Fp.rf {x:Fp} (h:P8 x):Rf x.f x.n x.N:=by
 unfold Fp.f Fp.n Fp.N
 rcases h with ⟨a,b⟩ | ⟨a,b⟩ | ⟨a,b⟩
 ·rw [if_pos a,if_pos a,if_pos a];exact .lin _
 ·rw [if_neg (by omega),if_neg (by omega),if_neg (by omega)];exact .quad _ _ (by grind)
 ·rw [if_neg (by omega),if_neg (by omega),if_neg (by omega)];exact .quad _ _ (by grind)
theorem Fp.cnt {x:Fp} (h:P8 x):(∀ a,x.N a=x.rs.countP (abv a) + x.m)∧∀ r ∈ x.rs,r.o=0 ∨ ((r.o=1 ∨ r.o=-1)∧0 < r.v):=by
 unfold Fp.N Fp.rs Fp.m
 rcases h with ⟨a,b⟩ | ⟨a,b⟩ | ⟨a,b⟩
 ·rw [if_pos a,if_pos a,if_neg (by omega)]
  have:=bl3 x.u 0 1
  exact ⟨this.n,this.v⟩
 ·rw [if_neg (by omega),if_neg (by omega),if_pos a,if_pos a]
  have:=bl4 x.u x.w 1 b
  exact ⟨this.n,this.v⟩
 ·rw [if_neg (by omega),if_neg (by omega),if_neg (by omega),if_neg (by omega)]
  have:=ba7 x.u (-x.w) 1 (by grind)
  have e:- -x.w=x.w:=by grind
  have n:=this.n
  have v:=this.v
  simp only [e] at n
  exact ⟨n,v⟩
theorem Fp.eqs (x:Fp):qp x.qs=x.f:=by
 unfold Fp.qs Fp.f
 split
 ·rw [ax9,L6];grind
 ·rw [W4,B9,z4,z4]
  have:b8 (-2:Rat)=0 - 1 - 1:=by
   rw [show (-2:Rat)=0 - 1 - 1 by decide +kernel,A9,A9,p9,show b8 (0:Rat)=0 from p0]
  rw [this];grind
def Ok2 (x y:Fp):Prop:=(x.k=2→y.k=1)∧(y.k=2→x.k=1)
theorem aN9 {x y:Fp} (hx:P8 x) (hy:y.k=1∧0 < y.w) (ne:x ≠ y):Cop x.f y.f:=by
 have ey:y.f=qp [y.u * y.u + y.w,-2 * y.u,1]:=by rw [← Fp.eqs];unfold Fp.qs;rw [if_neg (by omega)]
 by_cases x0:x.k=0
 ·have ex:x.f=qp [-x.u,1]:=by rw [← Fp.eqs];unfold Fp.qs;rw [if_pos x0]
  rw [ex,ey]
  exact as9 (ap6 hy.2)
 ·have ex:x.f=qp [x.u * x.u + x.w,-2 * x.u,1]:=by rw [← Fp.eqs];unfold Fp.qs;rw [if_neg x0]
  rw [ex,ey]
  obtain ⟨u,hu⟩:∃ u,u=y.u:=⟨_,rfl⟩
  obtain ⟨v,hv⟩:∃ v,v=y.w:=⟨_,rfl⟩
  obtain ⟨u',hu'⟩:∃ u',u'=x.u:=⟨_,rfl⟩
  obtain ⟨v',hv'⟩:∃ v',v'=x.w:=⟨_,rfl⟩
  have hvp:0 < v:=by rw [hv];exact hy.2
  have ne':¬ (u=u'∧v=v'):=fun ⟨a,b⟩=>ne (by
   have k:x.k=y.k:=by
    rcases hx with ⟨p,q⟩ | ⟨p,q⟩ | ⟨p,q⟩
    ·exact absurd p x0
    ·omega
    ·exfalso;grind
   cases x;cases y
   simp only at *
   subst k
   congr 1 <;> grind)
  rw [← hu,← hv,← hu',← hv']
  refine Cop.symm ?_
  by_cases h:u=u'
  ·subst h
   have vs:v' - v ≠ 0:=fun z=>ne' ⟨rfl,by grind⟩
   rw [W4,W4]
   refine ai7 vs ⟨-1,1,?_,G9,?_⟩
   ·have:(-1:Pf)=0 - 1:=by grind
    rw [this];exact J3.sub G9
   ·rw [B9,B9,A9];grind
  ·obtain ⟨α,hα⟩:∃ α,α=-2 * u' - -2 * u:=⟨_,rfl⟩
   have α0:α ≠ 0:=fun z=>h (by grind)
   obtain ⟨r,hr⟩:∃ r,r=(u * u + v - (u' * u' + v')) * α⁻¹:=⟨_,rfl⟩
   have ai:=Rat.mul_inv_cancel _ α0
   have e:α * r=u * u + v - (u' * u' + v'):=by
    rw [hr]
    generalize α⁻¹=y at *
    grind
   have k1:=(as9 (r:=r) (ap6 (u:=u) (r:=r) hvp)).symm.scale (c:=α) α0
   have k2:=Cop.addl (c:=1) G9 k1
   have e2:b8 α * qp [-r,1] + qp [u * u + v,-2 * u,1] * 1=qp [u' * u' + v',-2 * u',1]:=by
    rw [ax9,W4,W4]
    have h1:b8 α * b8 r=b8 (u * u + v) - b8 (u' * u' + v'):=by rw [← z4,e,A9]
    have h2:b8 α=b8 (-2 * u') - b8 (-2 * u):=by rw [hα,A9]
    rw [L6]
    generalize b8 (-2 * u')=b' at *
    generalize b8 (-2 * u)=b at *
    generalize b8 (u * u + v)=cc at *
    generalize b8 (u' * u' + v')=c' at *
    generalize b8 α=A at *
    generalize b8 r=R at *
    grind
   rw [e2] at k2
   exact k2
theorem bz7 {x y:Fp} (hx:P8 x) (hy:P8 y) (ok:Ok2 x y) (ne:x ≠ y):Cop x.f y.f:=by
 rcases hy with ⟨a,b⟩ | h | ⟨a,b⟩
 ·rcases hx with ⟨c,d⟩ | ⟨c,d⟩ | ⟨c,d⟩
  ·have ex:x.f=qp [-x.u,1]:=by rw [← Fp.eqs];unfold Fp.qs;rw [if_pos c]
   have ey:y.f=qp [-y.u,1]:=by rw [← Fp.eqs];unfold Fp.qs;rw [if_pos a]
   rw [ex,ey]
   refine bo4 (.lin _) (.lin _) fun z=>ne ?_
   have zu:x.u=y.u:=by
    have:=(List.cons.inj z).1
    grind
   cases x;cases y
   simp only at *
   subst zu
   congr 1 <;> grind
  ·exact (aN9 (.inl ⟨a,b⟩) ⟨c,d⟩ (Ne.symm ne)).symm
  ·have:=ok.1 c;omega
 ·exact aN9 hx h ne
 ·have k:=ok.2 a
  rcases hx with ⟨c,d⟩ | ⟨c,d⟩ | ⟨c,d⟩
  ·omega
  ·exact (aN9 (.inr (.inr ⟨a,b⟩)) ⟨c,d⟩ (Ne.symm ne)).symm
  ·omega
theorem bz6 {x:Fp} (h:P8 x):Cop x.f (dP x.f):=by
 unfold Fp.f
 have quad:∀ u w:Rat,w ≠ 0→Cop ((pX - b8 u) * (pX - b8 u) + b8 w) (dP ((pX - b8 u) * (pX - b8 u) + b8 w)):=fun u w hw=>by
  rw [aS9]
  refine ai7 hw ⟨1,0 - b8 (1 / 2) * (pX - b8 u),G9,J3.sub ((w9 _).mul (bg2 u)),?_⟩
  have:b8 (1 / 2) * b8 2=1:=by rw [← z4,show (1 / 2:Rat) * 2=1 by decide +kernel,p9]
  generalize b8 (1 / 2)=H at *
  generalize b8 2=W at *
  generalize pX - b8 u=X at *
  have e:1 * (X * X + b8 w) + (0 - H * X) * (W * X)=X * X + b8 w - H * W * (X * X):=by grind
  rw [e,this];grind
 rcases h with ⟨a,b⟩ | ⟨a,b⟩ | ⟨a,b⟩
 ·rw [if_pos a,aN8];exact aF5 _
 ·rw [if_neg (by omega)];exact quad _ _ (by grind)
 ·rw [if_neg (by omega)];exact quad _ _ (by grind)
def rt1 (x:Fp × Nat):Rt1:=⟨x.1.f,x.2,x.1.n,x.1.N⟩
def ai8 (x:Fp) (m:Nat):List (Fp × Nat)→List (Fp × Nat)
 | []=>[(x,m)]
 | y :: r=>if y.1=x then (x,y.2 + m) :: r else y :: ai8 x m r
structure FL (L:List (Fp × Nat)):Prop where
 ok:∀ x ∈ L,P8 x.1∧1≤x.2
 nd:(L.map (·.1)).Nodup
 two:∀ x ∈ L,∀ y ∈ L,x ≠ y→Ok2 x.1 y.1
theorem bz8:FL []:=⟨fun x hx=>by simp at hx,List.nodup_nil,fun x hx=>by simp at hx⟩
theorem FL.rtok {L:List (Fp × Nat)} (h:FL L):∀ x ∈ L.map rt1,aX8 x:=fun x hx=>by
 obtain ⟨y,hy,e⟩:=List.mem_map.mp hx
 rw [← e]
 exact ⟨Fp.rf (h.ok y hy).1,(h.ok y hy).2⟩
theorem FL.tail {x:Fp × Nat} {L:List (Fp × Nat)} (h:FL (x :: L)):FL L:=⟨fun y hy=>h.ok y (List.mem_cons_of_mem _ hy),(List.nodup_cons.mp h.nd).2,fun y hy z hz=>h.two y (List.mem_cons_of_mem _ hy) z (List.mem_cons_of_mem _ hz)⟩
theorem FL.tf:∀ {L:List (Fp × Nat)},FL L→TF (tfs (L.map rt1))
 | [],_=>trivial
 | x :: r,h=>by
  refine ⟨(Fp.rf (h.ok x List.mem_cons_self).1).lm.fn,bz6 (h.ok x List.mem_cons_self).1,fun y hy=>?_,FL.tf h.tail⟩
  obtain ⟨z,hz,e⟩:=List.mem_map.mp hy
  obtain ⟨w,hw,e2⟩:=List.mem_map.mp hz
  rw [← e,← e2]
  have ne:x.1 ≠ w.1:=fun q=>(List.nodup_cons.mp h.nd).1 (List.mem_map.mpr ⟨w,hw,q.symm⟩)
  exact bz7 (h.ok x List.mem_cons_self).1 (h.ok w (List.mem_cons_of_mem _ hw)).1 (h.two x List.mem_cons_self w (List.mem_cons_of_mem _ hw) fun q=>ne (by rw [q])) ne
theorem aY2 (q:Pf) (m:Nat):∀ n,wP q (n + m)=wP q n * wP q m
 | 0=>by rw [Nat.zero_add];show _=1 * _;grind
 | n + 1=>by
  rw [show n + 1 + m=n + m + 1 by omega]
  show q * wP q (n + m)=q * wP q n * wP q m
  rw [aY2 q m n];grind
theorem aO6 (x:Fp) (m:Nat):∀ L:List (Fp × Nat),fP (tfs ((ai8 x m L).map rt1))=wP x.f m * fP (tfs (L.map rt1))
 | []=>rfl
 | y :: r=>by
  unfold ai8
  split
  ·rename_i e
   show wP x.f (y.2 + m) * fP (tfs (r.map rt1))=wP x.f m * (wP y.1.f y.2 * fP (tfs (r.map rt1)))
   rw [aY2,e];grind
  ·show wP y.1.f y.2 * fP (tfs ((ai8 x m r).map rt1))=wP x.f m * (wP y.1.f y.2 * fP (tfs (r.map rt1)))
   rw [aO6 x m r];grind
theorem O8 {x:Fp} {m:Nat}:∀ {L:List (Fp × Nat)} {z:Fp × Nat},z ∈ ai8 x m L→(z.1=x∧m≤z.2) ∨ z ∈ L
 | [],z,h=>by rw [List.mem_singleton.mp h];exact .inl ⟨rfl,Nat.le_refl _⟩
 | y :: r,z,h=>by
  unfold ai8 at h
  split at h
  ·rcases List.mem_cons.mp h with e | e
   ·rw [e];exact .inl ⟨rfl,by show m≤y.2 + m;omega⟩
   ·exact .inr (List.mem_cons_of_mem _ e)
  ·rcases List.mem_cons.mp h with e | e
   ·exact .inr (by rw [e];exact List.mem_cons_self)
   ·rcases O8 e with k | k
    ·exact .inl k
    ·exact .inr (List.mem_cons_of_mem _ k)
theorem P7 (x:Fp) (m:Nat):∀ L:List (Fp × Nat),(L.map (·.1)).Nodup→(ai8 x m L).map (·.1)=if x ∈ L.map (·.1) then L.map (·.1) else L.map (·.1) ++ [x]
 | [],_=>rfl
 | y :: r,nd=>by
  have ih:=P7 x m r (List.nodup_cons.mp nd).2
  unfold ai8
  by_cases e:y.1=x
  ·rw [if_pos e,if_pos (by rw [List.map_cons,e];exact List.mem_cons_self),List.map_cons,List.map_cons,e]
  ·rw [if_neg e,List.map_cons,ih,List.map_cons]
   by_cases k:x ∈ r.map (·.1)
   ·rw [if_pos k,if_pos (List.mem_cons_of_mem _ k)]
   ·rw [if_neg k,if_neg (fun z=>by
     rcases List.mem_cons.mp z with w | w
     ·exact e w.symm
     ·exact k w)]
    rfl
theorem FL.add {L:List (Fp × Nat)} (h:FL L) {x:Fp} {m:Nat} (hx:P8 x) (hm:1≤m) (h2:∀ y ∈ L,y.1 ≠ x→Ok2 x y.1):FL (ai8 x m L) where
 ok:=fun z hz=>by
  rcases O8 hz with ⟨a,b⟩ | k
  ·rw [a];exact ⟨hx,by omega⟩
  ·exact h.ok z k
 nd:=by
  rw [P7 x m L h.nd]
  split
  ·exact h.nd
  ·rename_i k
   exact List.nodup_append.mpr ⟨h.nd,List.nodup_cons.mpr ⟨by simp,List.nodup_nil⟩,fun a ha b hb=>by
    rw [List.mem_singleton.mp hb]
    exact fun z=>k (by rw [← z];exact ha)⟩
 two:=fun a ha b hb ne=>by
  have nd:((ai8 x m L).map (·.1)).Nodup:=by
   rw [P7 x m L h.nd]
   split
   ·exact h.nd
   ·rename_i k
    exact List.nodup_append.mpr ⟨h.nd,List.nodup_cons.mpr ⟨by simp,List.nodup_nil⟩,fun a ha b hb=>by
     rw [List.mem_singleton.mp hb]
     exact fun z=>k (by rw [← z];exact ha)⟩
  have key:∀ {M:List (Fp × Nat)},(M.map (·.1)).Nodup→∀ p ∈ M,∀ q ∈ M,p.1=q.1→p=q:=fun {M}=>by
   induction M with
   | nil=>intro _ p hp;simp at hp
   | cons c r ih =>
    intro nd p hp q hq e
    obtain ⟨n1,n2⟩:=List.nodup_cons.mp nd
    rcases List.mem_cons.mp hp with a | a
    ·rcases List.mem_cons.mp hq with b | b
     ·rw [a,b]
     ·exact absurd (List.mem_map.mpr ⟨q,b,by rw [← e,a]⟩) n1
    ·rcases List.mem_cons.mp hq with b | b
     ·exact absurd (List.mem_map.mpr ⟨p,a,by rw [e,b]⟩) n1
     ·exact ih n2 p a q b e
  have ne1:a.1 ≠ b.1:=fun e=>ne (key nd a ha b hb e)
  rcases O8 ha with ⟨ea,_⟩ | ka
  ·rcases O8 hb with ⟨eb,_⟩ | kb
   ·exact absurd (by rw [ea,eb]) ne1
   ·rw [ea] at ne1 ⊢
    exact h2 b kb (Ne.symm ne1)
  ·rcases O8 hb with ⟨eb,_⟩ | kb
   ·rw [eb] at ne1 ⊢
    have:=h2 a ka ne1
    exact ⟨this.2,this.1⟩
   ·exact h.two a ka b kb ne
def kN (ks:List Fp) (a:Rat):Nat:=(ks.map fun x=>x.N a).sum
def kn (ks:List Fp):Nat:=(ks.map (·.n)).sum
theorem aD6 (a:Rat):∀ L:List (Fp × Nat),NT (L.map rt1) a=kN (L.map (·.1)) a
 | []=>rfl
 | x :: r=>by
  have ih:=aD6 a r
  unfold NT kN at *
  simp only [List.map_cons,List.sum_cons]
  rw [ih];rfl
theorem ar1:∀ L:List (Fp × Nat),nT (L.map rt1)=kn (L.map (·.1))
 | []=>rfl
 | x :: r=>by
  have ih:=ar1 r
  unfold nT kn at *
  simp only [List.map_cons,List.sum_cons]
  rw [ih];rfl
theorem bc9 (x:Fp) (m:Nat) (L:List (Fp × Nat)) (nd:(L.map (·.1)).Nodup) (a:Rat):NT ((ai8 x m L).map rt1) a=NT (L.map rt1) a + if x ∈ L.map (·.1) then 0 else x.N a:=by
 rw [aD6,aD6,P7 x m L nd]
 split
 ·omega
 ·unfold kN
  rw [List.map_append,List.sum_append]
  simp
theorem aR5 (x:Fp) (m:Nat) (L:List (Fp × Nat)) (nd:(L.map (·.1)).Nodup):nT ((ai8 x m L).map rt1)=nT (L.map rt1) + if x ∈ L.map (·.1) then 0 else x.n:=by
 rw [ar1,ar1,P7 x m L nd]
 split
 ·omega
 ·unfold kn
  rw [List.map_append,List.sum_append]
  simp
theorem ag2 (p:Rtu→Bool) (u:Rat):∀ L:List Rtu,L.countP p=(L.filter fun x=>decide (x.u < u)).countP p + (L.filter fun x=>decide (x.u=u)).countP p + (L.filter fun x=>decide (u < x.u)).countP p
 | []=>rfl
 | x :: r=>by
  have ih:=ag2 p u r
  rw [List.countP_cons,ih]
  rcases (show x.u < u ∨ x.u=u ∨ u < x.u by grind) with h | h | h
  ·have h1:decide (x.u < u)=true:=by rw [decide_eq_true_eq];exact h
   have h2:decide (x.u=u)=false:=by rw [decide_eq_false_iff_not];grind
   have h3:decide (u < x.u)=false:=by rw [decide_eq_false_iff_not];grind
   rw [List.filter_cons,List.filter_cons,List.filter_cons,h1,h2,h3]
   simp only [if_true,Bool.false_eq_true,if_false,List.countP_cons]
   omega
  ·have h1:decide (x.u < u)=false:=by rw [decide_eq_false_iff_not];grind
   have h2:decide (x.u=u)=true:=by rw [decide_eq_true_eq];exact h
   have h3:decide (u < x.u)=false:=by rw [decide_eq_false_iff_not];grind
   rw [List.filter_cons,List.filter_cons,List.filter_cons,h1,h2,h3]
   simp only [if_true,Bool.false_eq_true,if_false,List.countP_cons]
   omega
  ·have h1:decide (x.u < u)=false:=by rw [decide_eq_false_iff_not];grind
   have h2:decide (x.u=u)=false:=by rw [decide_eq_false_iff_not];grind
   have h3:decide (u < x.u)=true:=by rw [decide_eq_true_eq];exact h
   rw [List.filter_cons,List.filter_cons,List.filter_cons,h1,h2,h3]
   simp only [if_true,Bool.false_eq_true,if_false,List.countP_cons]
   omega
def au4 (u:Rat) (L:List Rtu):List Rtu:=(L.filter fun x=>decide (x.u < u)) ++ [⟨u,0,0⟩] ++ L.filter fun x=>decide (u < x.u)
def az7 (L:List Rtu):Prop:=(∀ x ∈ L,x.o=0∧x.v=0)∧(L.map (·.u)).Nodup
theorem bg5 (u:Rat):∀ {L:List Rtu},az7 L→L.filter (fun x=>decide (x.u=u))=if u ∈ L.map (·.u) then [⟨u,0,0⟩] else []
 | [],_=>rfl
 | x :: r,h=>by
  have hr:az7 r:=⟨fun y hy=>h.1 y (List.mem_cons_of_mem _ hy),(List.nodup_cons.mp h.2).2⟩
  have ih:=bg5 u hr
  have n1:=(List.nodup_cons.mp h.2).1
  obtain ⟨o0,v0⟩:=h.1 x List.mem_cons_self
  rw [List.filter_cons,ih]
  by_cases e:x.u=u
  ·have nm:¬ u ∈ r.map (·.u):=by rw [← e];exact n1
   rw [if_pos (by rw [decide_eq_true_eq];exact e),if_neg nm,if_pos (by rw [List.map_cons,e];exact List.mem_cons_self)]
   congr 1
   cases x
   simp only at *
   subst e o0 v0
   rfl
  ·rw [if_neg (by rw [decide_eq_true_eq];exact e),List.map_cons]
   by_cases k:u ∈ r.map (·.u)
   ·rw [if_pos k,if_pos (List.mem_cons_of_mem _ k)]
   ·rw [if_neg k,if_neg (fun z=>by
     rcases List.mem_cons.mp z with w | w
     ·exact e w.symm
     ·exact k w)]
theorem aU9 (p:Rtu→Bool) (u:Rat) {L:List Rtu} (h:az7 L):(au4 u L).countP p=L.countP p + if u ∈ L.map (·.u) then 0 else [(⟨u,0,0⟩:Rtu)].countP p:=by
 unfold au4
 rw [ag2 p u L,bg5 u h,List.countP_append,List.countP_append]
 split
 ·omega
 ·rw [List.countP_nil];omega
theorem aU8 {u:Rat} {L:List Rtu} (h:az7 L):az7 (au4 u L):=by
 unfold au4
 refine ⟨fun x hx=>?_,?_⟩
 ·rcases List.mem_append.mp hx with y | y
  ·rcases List.mem_append.mp y with z | z
   ·exact h.1 x (List.mem_filter.mp z).1
   ·rw [List.mem_singleton.mp z];exact ⟨rfl,rfl⟩
  ·exact h.1 x (List.mem_filter.mp y).1
 ·rw [List.map_append,List.map_append]
  have sub:∀ q:Rtu→Bool,((L.filter q).map (·.u)).Nodup:=fun q=>List.Sublist.nodup ((List.filter_sublist).map _) h.2
  refine List.nodup_append.mpr ⟨List.nodup_append.mpr ⟨sub _,List.nodup_cons.mpr ⟨by simp,List.nodup_nil⟩,fun a ha b hb=>?_⟩,sub _,fun a ha b hb=>?_⟩
  ·obtain ⟨x,hx,e⟩:=List.mem_map.mp ha
   have l:=of_decide_eq_true (List.mem_filter.mp hx).2
   have eb:b=u:=List.mem_singleton.mp hb
   grind
  ·obtain ⟨y,hy,e2⟩:=List.mem_map.mp hb
   have l2:=of_decide_eq_true (List.mem_filter.mp hy).2
   rcases List.mem_append.mp ha with z | z
   ·obtain ⟨x,hx,e⟩:=List.mem_map.mp z
    have l:=of_decide_eq_true (List.mem_filter.mp hx).2
    grind
   ·have ea:a=u:=List.mem_singleton.mp z
    grind
theorem bl9 {u v:Rat} {L:List Rtu}:v ∈ (au4 u L).map (·.u) ↔ v=u ∨ v ∈ L.map (·.u):=by
 unfold au4
 rw [List.map_append,List.map_append]
 refine ⟨fun h=>?_,fun h=>?_⟩
 ·rcases List.mem_append.mp h with y | y
  ·rcases List.mem_append.mp y with z | z
   ·obtain ⟨x,hx,e⟩:=List.mem_map.mp z
    exact .inr (List.mem_map.mpr ⟨x,(List.mem_filter.mp hx).1,e⟩)
   ·exact .inl (List.mem_singleton.mp z)
  ·obtain ⟨x,hx,e⟩:=List.mem_map.mp y
   exact .inr (List.mem_map.mpr ⟨x,(List.mem_filter.mp hx).1,e⟩)
 ·by_cases z:v=u
  ·exact List.mem_append.mpr (.inl (List.mem_append.mpr (.inr (List.mem_singleton.mpr z))))
  ·rcases h with h | h
   ·exact absurd h z
   ·obtain ⟨x,hx,e⟩:=List.mem_map.mp h
    rcases (show v < u ∨ u < v by grind) with l | l
    ·exact List.mem_append.mpr (.inl (List.mem_append.mpr (.inl (List.mem_map.mpr ⟨x,List.mem_filter.mpr ⟨hx,by rw [decide_eq_true_eq];have:x.u=v:=e;grind⟩,e⟩))))
    ·exact List.mem_append.mpr (.inr (List.mem_map.mpr ⟨x,List.mem_filter.mpr ⟨hx,by rw [decide_eq_true_eq];have:x.u=v:=e;grind⟩,e⟩))
structure aG3 (p:Pf) (n:Nat):Prop where
 lm:Lm p n
 ov:∃ B,0 < B∧OvP B (7 * n + 4) p
structure FpB (x:Fp):Prop where
 ok:P8 x
 ov:∃ B e,0 < B∧e + x.qs.length≤7 * x.n∧∀ q ∈ x.qs,OvB B e q
theorem aG3.fac {p:Pf} {n:Nat} (h:aG3 p n) {x:Fp} (F:FpB x):aG3 (x.f * p) (x.n + n):=by
 refine ⟨(Fp.rf F.ok).lm.mul h.lm,?_⟩
 obtain ⟨B,hB,ov⟩:=h.ov
 obtain ⟨C,e,hC,le,oq⟩:=F.ov
 refine ⟨C * B,Nat.mul_pos hC hB,?_⟩
 have k:=OvP.mul hC hB (bb1 oq) ov (ax0 x.qs)
 rw [Fp.eqs] at k
 exact k.mono (by omega)
theorem aG3.facs {p:Pf} {n:Nat} (h:aG3 p n) {x:Fp} (F:FpB x):∀ m,aG3 (wP x.f m * p) (m * x.n + n)
 | 0=>by
  have:wP x.f 0 * p=p:=by show 1 * p=p;grind
  rw [this,Nat.zero_mul,Nat.zero_add];exact h
 | m + 1=>by
  have ih:=(h.facs F m).fac F
  have e:x.f * (wP x.f m * p)=wP x.f (m + 1) * p:=by show _=x.f * wP x.f m * p;grind
  rw [e] at ih
  rw [show (m + 1) * x.n + n=x.n + (m * x.n + n) by rw [Nat.add_mul];omega]
  exact ih
structure Cs (c L:Nat) (P0 Q0 A B:List Int):Prop where
 tA:A8 A A.length
 tB:A8 B B.length
 lA:A.length≤L
 lB:B.length < A.length
 gB:B ≠ []→t9 B=1
 eu:Eu (zc P0) (zc Q0) (zc A) (zc B) P0.length Q0.length A.length B.length
 wA:∀ k,(aZ A k).natAbs < 2 ^ (c * (2 * (L - A.length) + 1))
 wB:∀ k,(aZ B k).natAbs < 2 ^ (c * (2 * (L - A.length) + 1))
theorem Cs.step {c L K:Nat} {P0 Q0 A B C Rz:List Int} {many g:Int} {Qf:Nat→Rat} {lQ:Nat} (S:Cs c L P0 Q0 A B) (hP:P0.length=L) (hQ:Q0.length + 1=L) (kP:∀ k,(aZ P0 k).natAbs≤K) (kQ:∀ k,(aZ Q0 k).natAbs≤K) (hK:1≤K) (hc:2 * (2 * L - 5) * K≤2 ^ c) (hc1:1≤c)
  (hB:0 < B.length) (hm:many ≠ 0) (dv:∀ k,(many:Rat) * zc A k=cv Qf (zc B) k + zc Rz k) (hQf:Dg Qf lQ) (hR:∀ k,aZ Rz k=g * aZ C k) (g0:g ≠ 0) (tC:A8 C C.length) (lC:C.length < B.length) (gC:C ≠ []→t9 C=1):Cs c L P0 Q0 B C:=by
 have lA:=S.lA
 have lB:=S.lB
 have hm':(many:Rat) ≠ 0:=fun w=>hm (Rat.intCast_inj.mp (by rw [w,Rat.intCast_zero]))
 have hg':(g:Rat) ≠ 0:=fun w=>g0 (Rat.intCast_inj.mp (by rw [w,Rat.intCast_zero]))
 have eu':Eu (zc P0) (zc Q0) (zc B) (zc C) P0.length Q0.length B.length C.length:=Eu.step S.eu (by omega) (aa6 B) hB (aO9 (Y6 S.tB hB)) (aa6 C) lC hm' hg' hQf fun k=>by
  rw [dv k]
  congr 1
  unfold zc
  rw [hR k,Rat.intCast_mul]
 have up:c * (2 * (L - A.length) + 1)≤c * (2 * (L - B.length) + 1):=Nat.mul_le_mul_left _ (by omega)
 exact ⟨S.tB,tC,by omega,lC,gC,eu',fun k=>Nat.lt_of_lt_of_le (S.wB k) (h8 up),bg4 hP hQ kP kQ hK hc hc1 eu' (by omega) lC tC gC⟩
theorem aI7 {ws:List Int} (t:A8 ws ws.length) (h:0 < ws.length):Lm (zp ws) (ws.length - 1):=⟨by
 rw [show ws.length - 1 + 1=ws.length by omega];exact aa6 ws,aO9 (Y6 t h)⟩
def at6 (x y z:Pf):Prop:=∃ c d Q k,0 < c∧0 < d∧Lm Q (k + 1)∧b8 c * x=Q * y - b8 d * z
theorem bv0 {A B Qz Rz C:List Int} {many h:Int} (dv:Dv A B Qz Rz many) (hm:1≤many) (hh:1≤h) (hR:∀ k,aZ Rz k=-h * aZ C k) (tQ:A8 Qz Qz.length) (lQ:2≤Qz.length):at6 (zp A) (zp B) (zp C):=by
 have l:=aI7 tQ (by omega)
 obtain ⟨k,hk⟩:∃ k,Qz.length - 1=k + 1:=⟨Qz.length - 2,by omega⟩
 rw [hk] at l
 refine ⟨(many:Rat),(h:Rat),zp Qz,k,Rat.intCast_pos.mpr (by omega),Rat.intCast_pos.mpr (by omega),l,Pf.ext fun i=>?_⟩
 rw [M1,F7,M1]
 show (many:Rat) * zc A i=cv (zc Qz) (zc B) i - (h:Rat) * zc C i
 rw [dv i]
 have e:zc Rz i=-(h:Rat) * zc C i:=by
  unfold zc
  rw [hR i,Rat.intCast_mul,Rat.intCast_neg]
 rw [e];grind
theorem at6.cancel {g x y z:Pf} {n:Nat} (lg:Lm g n) (fx:Fn x) (fy:Fn y) (fz:Fn z) (h:at6 (g * x) (g * y) (g * z)):at6 x y z:=by
 obtain ⟨c,d,Q,k,hc,hd,lQ,e⟩:=h
 refine ⟨c,d,Q,k,hc,hd,lQ,lg.cancel ((w9 c).mul fx) ((lQ.fn.mul fy).sub ((w9 d).mul fz)) ?_⟩
 have a:g * (b8 c * x)=b8 c * (g * x):=by grind
 rw [a,e];grind
def aa4 (l:List Pf):Prop:=∀ i x y z,l[i]? = some x→l[i + 1]? = some y→l[i + 2]? = some z→at6 x y z
theorem aa4.tail {x:Pf} {l:List Pf} (h:aa4 (x :: l)):aa4 l:=fun i a b c h1 h2 h3=>h (i + 1) a b c h1 h2 h3
theorem aL0 {l:List Pf} (h:l.length≤2):aa4 l:=fun i x y z _ _ h3=>by
 have:=(List.getElem?_eq_some_iff.mp h3).1
 omega
theorem aa4.snoc {l:List Pf} {z:Pf} (h:aa4 l) (k:∀ i x y,i + 2=l.length→l[i]? = some x→l[i + 1]? = some y→at6 x y z):aa4 (l ++ [z]):=fun i a b c h1 h2 h3=>by
 have hl:=(List.getElem?_eq_some_iff.mp h3).1
 rw [List.length_append] at hl
 have hl':i + 2 < l.length + 1:=hl
 rw [List.getElem?_append_left (by omega)] at h1 h2
 by_cases e:i + 2=l.length
 ·rw [List.getElem?_append_right (by omega),e,Nat.sub_self] at h3
  have:z=c:=Option.some.inj h3
  rw [← this]
  exact k i a b e h1 h2
 ·rw [List.getElem?_append_left (by omega)] at h3
  exact h i a b c h1 h2 h3
theorem aP2:∀ {l:List Pf},aa4 l→(∀ i x,i + 2=l.length→l[i]? = some x→∃ n,Lm x (n + 1))→bq1 l
 | [],_,_=>trivial
 | [x],_,_=>trivial
 | [x,y],_,h=>h 0 x rfl rfl
 | x :: y :: z :: l,s,h=>⟨s 0 x y z rfl rfl rfl,aP2 s.tail fun i a e k=>h (i + 1) a (by rw [List.length_cons];omega) k⟩
theorem aa4.over {g:Pf} {n:Nat} (lg:Lm g n) {l:List Pf} (f:∀ x ∈ l,Fn x) (h:aa4 (l.map (g * ·))):aa4 l:=fun i x y z h1 h2 h3=>by
 have m:∀ {j w},l[j]? = some w→w ∈ l:=fun {j w} k=>List.mem_of_getElem? k
 refine at6.cancel lg (f x (m h1)) (f y (m h2)) (f z (m h3)) (h i _ _ _ ?_ ?_ ?_)
 ·rw [List.getElem?_map,h1];rfl
 ·rw [List.getElem?_map,h2];rfl
 ·rw [List.getElem?_map,h3];rfl
def Dvd (g x:Pf):Prop:=∃ z,Fn z∧x=g * z
theorem at6.dvd {g x y z:Pf} (h:at6 x y z) (a:Dvd g x) (b:Dvd g y):Dvd g z:=by
 obtain ⟨c,d,Q,k,hc,hd,lQ,e⟩:=h
 obtain ⟨s,fs,es⟩:=a
 obtain ⟨t,ft,et⟩:=b
 have id:=B8 (show d ≠ 0 by grind)
 refine ⟨b8 d⁻¹ * (Q * t - b8 c * s),(w9 _).mul ((lQ.fn.mul ft).sub ((w9 c).mul fs)),?_⟩
 have e2:b8 d * z=g * (Q * t - b8 c * s):=by
  rw [es,et] at e
  grind
 have e3:z=b8 d⁻¹ * (b8 d * z):=by
  generalize b8 d=D at *
  generalize b8 d⁻¹=D' at *
  grind
 rw [e3,e2];grind
theorem at6.dvdx {g x y z:Pf} (h:at6 x y z) (a:Dvd g y) (b:Dvd g z):Dvd g x:=by
 obtain ⟨c,d,Q,k,hc,hd,lQ,e⟩:=h
 obtain ⟨s,fs,es⟩:=a
 obtain ⟨t,ft,et⟩:=b
 have id:=B8 (show c ≠ 0 by grind)
 refine ⟨b8 c⁻¹ * (Q * s - b8 d * t),(w9 _).mul ((lQ.fn.mul fs).sub ((w9 d).mul ft)),?_⟩
 have e2:b8 c * x=g * (Q * s - b8 d * t):=by
  rw [es,et] at e
  grind
 have e3:x=b8 c⁻¹ * (b8 c * x):=by
  generalize b8 c=D at *
  generalize b8 c⁻¹=D' at *
  grind
 rw [e3,e2];grind
theorem bo7 {g x:Pf} {m n:Nat} (lg:Lm g m) (lx:Lm x n) (h:Dvd g x):m≤n:=by
 obtain ⟨z,fz,e⟩:=h
 have zn:z ≠ 0:=fun w=>lx.nz (by rw [e,w];grind)
 obtain ⟨k,lk⟩:=aR6 fz zn
 have:=lg.mul lk
 rw [← e] at this
 have:=ad2 this lx
 omega
theorem dvd_refl (g:Pf):Dvd g g:=⟨1,G9,by grind⟩
theorem aT3 {g:Pf}:∀ {l:List Pf},aa4 l→l.getLast? = some g→(∀ i x,i + 2=l.length→l[i]? = some x→Dvd g x)→∀ w ∈ l,Dvd g w
 | [],_,e,_,w,hw=>by simp at hw
 | [x],_,e,_,w,hw=>by
  have:x=g:=Option.some.inj e
  rw [List.mem_singleton.mp hw,this];exact dvd_refl g
 | [x,y],_,e,h,w,hw=>by
  have:y=g:=Option.some.inj e
  rcases List.mem_cons.mp hw with a | a
  ·rw [a];exact h 0 x rfl rfl
  ·rw [List.mem_singleton.mp a,this];exact dvd_refl g
 | x :: y :: z :: l,s,e,h,w,hw=>by
  have ih:=aT3 (l:=y :: z :: l) s.tail (by rw [List.getLast?_cons_cons] at e;exact e) fun i a k j=>h (i + 1) a (by rw [List.length_cons];omega) j
  rcases List.mem_cons.mp hw with a | a
  ·rw [a]
   exact (s 0 x y z rfl rfl rfl).dvdx (ih y List.mem_cons_self) (ih z (List.mem_cons_of_mem _ List.mem_cons_self))
  ·exact ih w a
theorem aO4 {S T:List Pf} {g:Pf} {n:Nat} (lg:Lm g n) (la:S.getLast? = some g) (eT:S=T.map (g * ·)) (fT:∀ x ∈ T,Fn x) (h:aa4 S) (l2:2≤S.length) (dg:∀ i x,i + 2=S.length→S[i]? = some x→∃ m,n < m∧Lm x m) {L:List (Fp × Nat)} (F:FL L) {k1 k2:Rat} (s0:S[0]? = some (b8 k1 * fP (tfs (L.map rt1)))) (s1:S[1]? = some (b8 k2 * dP (fP (tfs (L.map rt1))))) (hk:0 < k1 * k2) :
  ∃ T0 T1 l n c d,T=T0 :: T1 :: l∧PSt T0 T1 l n∧0 < c * d∧T0=b8 c * aP (tfs (L.map rt1)) 1∧T1=b8 d * sP (tfs (L.map rt1)) 1:=by
 have lT:T.length=S.length:=by rw [eT,List.length_map]
 have sT:aa4 T:=aa4.over lg fT (by rw [← eT];exact h)
 have tT:bq1 T:=aP2 sT fun i x e k=>by
  have kS:S[i]? = some (g * x):=by rw [eT,List.getElem?_map,k];rfl
  obtain ⟨m,hm,lm⟩:=dg i _ (by omega) kS
  have fx:=fT x (List.mem_of_getElem? k)
  have xn:x ≠ 0:=fun z=>lm.nz (by rw [z];grind)
  obtain ⟨j,lj⟩:=aR6 fx xn
  have:=ad2 (lg.mul lj) lm
  obtain ⟨j',hj'⟩:∃ j',j=j' + 1:=⟨j - 1,by omega⟩
  rw [hj'] at lj
  exact ⟨j',lj⟩
 have lastT:∃ c,c ≠ 0∧T.getLast? = some (b8 c):=by
  refine ⟨1,by decide +kernel,?_⟩
  rw [eT,List.getLast?_map] at la
  cases e:T.getLast? with
  | none=>rw [e] at la;cases la
  | some w =>
   rw [e] at la
   have ew:g * w=g:=Option.some.inj la
   have fw:Fn w:=fT w (List.mem_of_getLast? e)
   have:w=1:=lg.cancel fw G9 (by rw [ew];grind)
   rw [this,p9]
 match T,eT,fT,lT,tT,lastT with
 | [],_,_,lT,_,_=>simp only [List.length_nil] at lT;omega
 | [x],_,_,lT,_,_=>simp only [List.length_singleton] at lT;omega
 | T0 :: T1 :: l,eT,fT,lT,tT,lastT =>
  obtain ⟨m,hP⟩:=bb2 tT lastT
  have one:∀ x ∈ tfs (L.map rt1),1≤x.2:=fun x hx=>by
   obtain ⟨y,hy,e⟩:=List.mem_map.mp hx
   rw [← e]
   exact (F.rtok y hy).2
  obtain ⟨f1,f2⟩:=aJ5 one
  have tf:=F.tf
  have e0:g * T0=b8 k1 * (gP1 (tfs (L.map rt1)) * aP (tfs (L.map rt1)) 1):=by
   rw [eT] at s0
   have:g * T0=b8 k1 * fP (tfs (L.map rt1)):=Option.some.inj s0
   rw [this,f1]
  have e1:g * T1=b8 k2 * (gP1 (tfs (L.map rt1)) * sP (tfs (L.map rt1)) 1):=by
   rw [eT] at s1
   have:g * T1=b8 k2 * dP (fP (tfs (L.map rt1))):=Option.some.inj s1
   rw [this,f2]
  have fns:=TF.fn tf
  have fG:Fn (gP1 (tfs (L.map rt1))):=by
   have w:∀ {q:Pf},Fn q→∀ k,Fn (wP q k):=fun {q} hq k=>by
    induction k with
    | zero=>exact G9
    | succ k ih=>exact hq.mul ih
   have gg:∀ {fs:List (Pf × Nat)},(∀ x ∈ fs,Fn x.1)→Fn (gP1 fs):=fun {fs}=>by
    induction fs with
    | nil=>intro _;exact G9
    | cons x r ih=>intro hx;exact (w (hx x List.mem_cons_self) _).mul (ih fun y hy=>hx y (List.mem_cons_of_mem _ hy))
   exact gg fns
  obtain ⟨c,d,hcd,a,b⟩:=aT9 lg (fT T0 List.mem_cons_self) (fT T1 (List.mem_cons_of_mem _ List.mem_cons_self)) (as1 fns 1) (aJ4 fns 1) fG e0 e1 hk (aG1 tf 1) hP.cop
  exact ⟨T0,T1,l,m,c,d,rfl,hP,hcd,a,b⟩
def S7:Int→List Int→Nat
 | _,[]=>0
 | b,s :: r=>(if s * b < 0 then 1 else 0) + S7 (if s=0 then b else s) r
theorem ao7:∀ (l:List Int) (b:Int),S7 b l=chg (b:Rat) (l.map fun s:Int=>(s:Rat))
 | [],_=>rfl
 | s :: r,b=>by
  show (if s * b < 0 then 1 else 0) + S7 (if s=0 then b else s) r=(if (s:Rat) * (b:Rat) < 0 then 1 else 0) + chg (if (s:Rat)=0 then (b:Rat) else (s:Rat)) (r.map fun s:Int=>(s:Rat))
  have i:((s:Rat) * (b:Rat) < 0) ↔ (s * b < 0):=by
   rw [← Rat.intCast_mul]
   exact Rat.intCast_neg_iff
  have z:((s:Rat)=0) ↔ (s=0):=Rat.intCast_eq_zero_iff
  have e:(if (s:Rat)=0 then (b:Rat) else (s:Rat))=((if s=0 then b else s:Int):Rat):=by
   by_cases h:s=0
   ·rw [if_pos h,if_pos (z.mpr h)]
   ·rw [if_neg h,if_neg (fun w=>h (z.mp w))]
  rw [e,ao7 r]
  congr 1
  simp only [i]
theorem aK0:∀ (l m:List Int) (b:Int),S7 b (l ++ m)=S7 b l + S7 (l.foldl (fun b s=>if s=0 then b else s) b) m
 | [],m,b=>by show S7 b m=0 + S7 b m;omega
 | s :: r,m,b=>by
  show (if s * b < 0 then 1 else 0) + S7 (if s=0 then b else s) (r ++ m)=(if s * b < 0 then 1 else 0) + S7 (if s=0 then b else s) r + S7 (r.foldl (fun b s=>if s=0 then b else s) (if s=0 then b else s)) m
  rw [aK0 r m];omega
def sg3 (q:Rat):Int:=if 0 < q then 1 else if q < 0 then -1 else 0
def al2 (c:Rat) (x:Rtu):Int:=if x.o=0 then sg3 (c - x.u) else if sg3 (c - x.u) ≠ x.o then 0 - x.o else x.o * sg3 ((c - x.u) * (c - x.u) - x.v)
theorem aB2 (q:Rat):sg3 q < 0 ↔ q < 0:=by
 unfold sg3
 by_cases a:0 < q
 ·rw [if_pos a];exact ⟨fun h=>by omega,fun h=>by grind⟩
 ·rw [if_neg a]
  by_cases b:q < 0
  ·rw [if_pos b];exact ⟨fun _=>b,fun _=>by decide⟩
  ·rw [if_neg b];exact ⟨fun h=>by omega,fun h=>absurd h b⟩
theorem aQ3 (q:Rat):0 < sg3 q ↔ 0 < q:=by
 unfold sg3
 by_cases a:0 < q
 ·rw [if_pos a];exact ⟨fun _=>a,fun _=>by decide⟩
 ·rw [if_neg a]
  by_cases b:q < 0
  ·rw [if_pos b];exact ⟨fun h=>by omega,fun h=>absurd h a⟩
  ·rw [if_neg b];exact ⟨fun h=>by omega,fun h=>absurd h a⟩
theorem aQ4 (q:Rat):sg3 q=1 ↔ 0 < q:=by
 rw [← aQ3]
 have:sg3 q=1 ∨ sg3 q=-1 ∨ sg3 q=0:=by
  unfold sg3
  split
  ·exact .inl rfl
  ·split
   ·exact .inr (.inl rfl)
   ·exact .inr (.inr rfl)
 omega
theorem ba3 (q:Rat):sg3 q=-1 ↔ q < 0:=by
 rw [← aB2]
 have:sg3 q=1 ∨ sg3 q=-1 ∨ sg3 q=0:=by
  unfold sg3
  split
  ·exact .inl rfl
  ·split
   ·exact .inr (.inl rfl)
   ·exact .inr (.inr rfl)
 omega
theorem aH3 {c:Rat} {x:Rtu} (h:x.o=0 ∨ ((x.o=1 ∨ x.o=-1)∧0 < x.v)):(al2 c x < 0) ↔ abv c x=true:=by
 unfold al2 abv
 rcases h with h | ⟨h | h,hv⟩
 ·rw [if_pos h,if_pos h,decide_eq_true_eq,aB2]
  exact ⟨fun k=>by grind,fun k=>by grind⟩
 ·have q1:¬ ((1:Int)=0):=by decide
  rw [h,if_neg q1,if_neg q1,if_pos (rfl:(1:Int)=1),Bool.or_eq_true,decide_eq_true_eq,decide_eq_true_eq]
  by_cases k:0 < c - x.u
  ·rw [if_neg (by rw [(aQ4 _).mpr k];exact fun z=>z rfl),Int.one_mul,aB2]
   exact ⟨fun w=>.inr (by grind),fun w=>by rcases w with w | w <;> grind⟩
  ·rw [if_pos (fun z=>k ((aQ4 _).mp z))]
   exact ⟨fun _=>.inl (by grind),fun _=>by decide⟩
 ·have q1:¬ ((-1:Int)=0):=by decide
  have q2:¬ ((-1:Int)=1):=by decide
  rw [h,if_neg q1,if_neg q1,if_neg q2,Bool.and_eq_true,decide_eq_true_eq,decide_eq_true_eq]
  by_cases k:c - x.u < 0
  ·rw [if_neg (by rw [(ba3 _).mpr k];exact fun z=>z rfl)]
   have e:(-1 * sg3 ((c - x.u) * (c - x.u) - x.v) < 0) ↔ 0 < sg3 ((c - x.u) * (c - x.u) - x.v):=by omega
   rw [e,aQ3]
   exact ⟨fun w=>⟨k,by grind⟩,fun w=>by grind⟩
  ·rw [if_pos (fun z=>k ((ba3 _).mp z))]
   exact ⟨fun w=>by omega,fun w=>absurd w.1 k⟩
structure N9 (q:Rat):Prop where
 n:q.num.natAbs≤9
 d:q.den≤6
theorem aR4 (q:Rat):q * ((q.den:Nat):Rat)=(q.num:Rat):=by
 have d0:((q.den:Nat):Rat) ≠ 0:=fun z=>by
  have:=q.den_pos
  rw [Rat.natCast_eq_zero_iff] at z
  omega
 have h:=Rat.num_divInt_den q
 rw [Rat.divInt_eq_div,Rat.intCast_natCast] at h
 have e:=Rat.div_mul_cancel (a:=(q.num:Rat)) d0
 rw [h] at e
 exact e
theorem aS2 {u:Rat} (h:N9 u):FpB ⟨0,u,0⟩:=by
 refine ⟨.inl ⟨rfl,rfl⟩,u.den,4,u.den_pos,by show 4 + 2≤7 * 1;omega,fun q hq=>?_⟩
 have hq':q ∈ [-u,1]:=hq
 rcases List.mem_cons.mp hq' with e | e
 ·rw [e]
  refine OvB.neg ⟨u.num,(Rat.num_divInt_den u).symm,?_⟩
  have:=h.n
  omega
 ·rw [List.mem_singleton.mp e]
  refine ⟨(u.den:Int),?_,?_⟩
  ·rw [Rat.divInt_eq_div]
   have d0:((u.den:Nat):Rat) ≠ 0:=fun z=>by
    have:=u.den_pos
    rw [Rat.natCast_eq_zero_iff] at z
    omega
   show (1:Rat)=((u.den:Int):Rat) / ((u.den:Int):Rat)
   rw [Rat.intCast_natCast,Rat.div_def,Rat.mul_inv_cancel _ d0]
  ·have:=h.d
   rw [Int.natAbs_natCast]
   omega
theorem ai2 {u w:Rat} {k:Nat} (h:N9 u) (g:N9 w) (ok:P8 ⟨k,u,w⟩) (k0:k ≠ 0):FpB ⟨k,u,w⟩:=by
 have n2:Fp.n ⟨k,u,w⟩=2:=by unfold Fp.n;rw [if_neg k0]
 have qs:Fp.qs ⟨k,u,w⟩=[u * u + w,-2 * u,1]:=by unfold Fp.qs;rw [if_neg k0]
 have du:=u.den_pos
 have dw:=w.den_pos
 have hd:=h.d
 have gd:=g.d
 have hn:=h.n
 have gn:=g.n
 refine ⟨ok,u.den * u.den * w.den,10,Nat.mul_pos (Nat.mul_pos du du) dw,by rw [n2,qs];show 10 + 3≤7 * 2;omega,fun q hq=>?_⟩
 rw [qs] at hq
 have u0:((u.den:Nat):Rat) ≠ 0:=fun z=>by rw [Rat.natCast_eq_zero_iff] at z;omega
 have w0:((w.den:Nat):Rat) ≠ 0:=fun z=>by rw [Rat.natCast_eq_zero_iff] at z;omega
 have eu:=aR4 u
 have ew:=aR4 w
 have D0:(((u.den * u.den * w.den:Nat)):Rat) ≠ 0:=fun z=>by
  rw [Rat.natCast_eq_zero_iff] at z
  have:=Nat.mul_pos (Nat.mul_pos du du) dw
  omega
 have mk:∀ (x:Rat) (z:Int),x * (((u.den * u.den * w.den:Nat)):Rat)=(z:Rat)→z.natAbs < 2 ^ 10→OvB (u.den * u.den * w.den) 10 x:=fun x z e b=>⟨z,by
  rw [Rat.divInt_eq_div,← e]
  show x=x * _ / (((u.den * u.den * w.den:Nat):Int):Rat)
  rw [Rat.intCast_natCast,Rat.mul_div_cancel D0],b⟩
 have duu:u.den * u.den≤36:=Nat.mul_le_mul hd hd
 rcases List.mem_cons.mp hq with e | e
 ·rw [e]
  refine mk _ (u.num * u.num * w.den + w.num * (u.den * u.den)) ?_ ?_
  ·rw [Rat.intCast_add,Rat.intCast_mul,Rat.intCast_mul,Rat.intCast_mul,Rat.intCast_mul,Rat.intCast_natCast,Rat.intCast_natCast,Rat.natCast_mul,Rat.natCast_mul,← eu,← ew]
   grind
  ·have a1:(u.num * u.num * (w.den:Int)).natAbs≤81 * 6:=by
    rw [Int.natAbs_mul,Int.natAbs_mul,Int.natAbs_natCast]
    exact Nat.mul_le_mul (Nat.mul_le_mul hn hn) gd
   have a2:(w.num * ((u.den:Int) * (u.den:Int))).natAbs≤9 * 36:=by
    rw [Int.natAbs_mul,Int.natAbs_mul,Int.natAbs_natCast]
    exact Nat.mul_le_mul gn duu
   have:=Int.natAbs_add_le (u.num * u.num * (w.den:Int)) (w.num * ((u.den:Int) * (u.den:Int)))
   omega
 ·rcases List.mem_cons.mp e with e | e
  ·rw [e]
   refine mk _ (-2 * u.num * (u.den * w.den)) ?_ ?_
   ·have m2:((-2:Int):Rat)=-2:=by decide +kernel
    rw [Rat.intCast_mul,Rat.intCast_mul,Rat.intCast_mul,Rat.intCast_natCast,Rat.intCast_natCast,Rat.natCast_mul,Rat.natCast_mul,← eu,m2]
    grind
   ·rw [Int.natAbs_mul,Int.natAbs_mul,Int.natAbs_mul,Int.natAbs_natCast,Int.natAbs_natCast]
    have:=Nat.mul_le_mul (Nat.mul_le_mul (Nat.le_refl (-2:Int).natAbs) hn) (Nat.mul_le_mul hd gd)
    have e2:(-2:Int).natAbs * 9 * (6 * 6)=648:=by decide
    omega
  ·rw [List.mem_singleton.mp e]
   refine mk _ ((u.den * u.den * w.den:Nat):Int) ?_ ?_
   ·rw [Rat.intCast_natCast];grind
   ·rw [Int.natAbs_natCast]
    have:=Nat.mul_le_mul duu gd
    omega
theorem bC6 (q:Rat) (l:List Rat):qp (q :: l)=b8 q + pX * qp l:=Pf.ext fun k=>by
 rw [F8,M9,Z4]
 cases k with
 | zero=>rw [if_pos rfl,if_pos rfl];show q=q + 0;grind
 | succ k=>rw [if_neg (by omega),if_neg (by omega)];show (qp l).f k=0 + (qp l).f k;grind
theorem bt1 (a:Rat):∀ l:List Rat,At a (qp l) (evQ a l)
 | []=>by
  have e:qp []=b8 0:=Pf.ext fun k=>by
   rw [M9]
   have:(qp []).f k=0:=ax0 [] k (by simp)
   rw [this];split <;> rfl
  rw [e];exact ag4 a 0
 | q :: l=>by
  rw [bC6]
  have h:=(ag4 a q).add ((bE4 a).mul (bt1 a l))
  have e:evQ a (q :: l)=q + a * evQ a l:=rfl
  rw [e];exact h
theorem bF0 {t:Rat→Pf→Rat} (T:Evl t) (a:Rat) (l:List Rat):t a (qp l)=evQ a l:=Z7 (T.at' a _ (bs7 l)) (bt1 a l)
theorem bB9 (ws:List Int):zp ws=qp (ws.map fun v:Int=>(v:Rat)):=Pf.ext fun k=>by
 show ((aZ ws k:Int):Rat)=aQ _ k
 unfold aZ aQ
 rw [List.getElem?_map]
 cases ws[k]? with
 | none=>rfl
 | some v=>rfl
theorem bE9 {t:Rat→Pf→Rat} (T:Evl t) (a:Rat) (ws:List Int):t a (zp ws)=evQ a (ws.map fun v:Int=>(v:Rat)):=by rw [bB9];exact bF0 T a _
theorem bo5 {A S:List Int} (g:t9 A=1) (h:Dvd (zp A) (zp S)):ExZ S A:=by
 obtain ⟨z,⟨n,dz⟩,e⟩:=h
 have e':∀ k,(z * zp A).f k=((aZ S k:Int):Rat):=fun k=>by
  have:z * zp A=zp S:=by rw [e];grind
  rw [this];rfl
 obtain ⟨y,hy⟩:=bD5 g dz e'
 refine ⟨y,n,fun k hk=>Rat.intCast_inj.mp (by rw [← hy,dz k hk,Rat.intCast_zero]),fun k=>?_⟩
 have hz:z.f=fun i=>(y i:Rat):=funext hy
 rw [← hz]
 exact (e' k).symm
theorem aV7 {G A a s:Pf} {n:Nat} (lG:Lm G n) (fa:Fn a) (fs:Fn s) (h:Dvd G A) (h1:Dvd A (G * a)) (h2:Dvd A (G * s)) (c:Cop a s):∃ k,k ≠ 0∧A=b8 k * G:=by
 obtain ⟨w,fw,e⟩:=h
 obtain ⟨z0,f0,e0⟩:=h1
 obtain ⟨z1,f1,e1⟩:=h2
 have a0:a=w * z0:=lG.cancel fa (fw.mul f0) (by rw [e0,e];grind)
 have a1:s=w * z1:=lG.cancel fs (fw.mul f1) (by rw [e1,e];grind)
 obtain ⟨u,v,fu,fv,b⟩:=c
 obtain ⟨k,k0,hk⟩:=ap3 (W:=u * z0 + v * z1) fw ((fu.mul f0).add (fv.mul f1)) (by rw [a0,a1] at b;grind)
 exact ⟨k,k0,by rw [e,hk];grind⟩
structure CR (c L:Nat) (P0 Q0:List Int) (G:Pf) (Ss:List (List Int)) (A B:List Int):Prop where
 la:Ss.getLast? = some A
 cs:Cs c L P0 Q0 A B
 sq:aa4 ((Ss ++ [B]).map zp)
 gs:∀ S ∈ Ss,Dvd G (zp S)
 gB:Dvd G (zp B)
 ok:∀ S ∈ Ss,A8 S S.length∧t9 S=1∧S.length≤L∧A.length≤S.length∧∀ k,(aZ S k).natAbs < 2 ^ (c * (2 * (L - S.length) + 1))
 h0:(Ss ++ [B])[0]? = some P0
 h1:(Ss ++ [B])[1]? = some Q0
 pen:∀ i X,i + 2=Ss.length→Ss[i]? = some X→A.length < X.length
 ln:Ss.length + B.length≤L
theorem CR.start {c L:Nat} {P0 Q0:List Int} {G:Pf} (S:Cs c L P0 Q0 P0 Q0) (hL:Q0.length + 1≤L) (gP:t9 P0=1) (d0:Dvd G (zp P0)) (d1:Dvd G (zp Q0)):CR c L P0 Q0 G [P0] P0 Q0 where
 la:=rfl
 cs:=S
 sq:=aL0 (Nat.le_refl 2)
 gs:=fun X h=>by rw [List.mem_singleton.mp h];exact d0
 gB:=d1
 ok:=fun X h=>by
  rw [List.mem_singleton.mp h]
  exact ⟨S.tA,gP,S.lA,Nat.le_refl _,S.wA⟩
 h0:=rfl
 h1:=rfl
 pen:=fun i X h _=>by simp at h
 ln:=by rw [List.length_singleton];omega
theorem CR.step {c L K:Nat} {P0 Q0 A B C Rz Qz:List Int} {many h:Int} {G:Pf} {Ss:List (List Int)} (R:CR c L P0 Q0 G Ss A B) (hP:P0.length=L) (hQ:Q0.length + 1=L) (kP:∀ k,(aZ P0 k).natAbs≤K) (kQ:∀ k,(aZ Q0 k).natAbs≤K) (hK:1≤K) (hc:2 * (2 * L - 5) * K≤2 ^ c) (hc1:1≤c)
  (hB:0 < B.length) (hm:1≤many) (dv:Dv A B Qz Rz many) (hR:∀ k,aZ Rz k=-h * aZ C k) (hh:1≤h) (tQ:A8 Qz Qz.length) (lQ:2≤Qz.length) (tC:A8 C C.length) (lC:C.length < B.length) (gC:C ≠ []→t9 C=1):CR c L P0 Q0 G (Ss ++ [B]) B C:=by
 have r3:=bv0 dv hm hh hR tQ lQ
 have S:=R.cs
 have S':Cs c L P0 Q0 B C:=Cs.step (g:=-h) (Qf:=zc Qz) (lQ:=Qz.length) S hP hQ kP kQ hK hc hc1 hB (by omega) (fun k=>dv k) (aa6 Qz) hR (by omega) tC lC gC
 have lB:=S.lB
 have lA:=S.lA
 have gl:∀ {X},Ss[Ss.length - 1]? = some X→X=A:=fun {X} e=>by
  have:=R.la
  rw [List.getLast?_eq_getElem?,e] at this
  exact Option.some.inj this
 have pos:0 < Ss.length:=by
  rcases Nat.eq_zero_or_pos Ss.length with z | z
  ·have:=R.la
   rw [List.eq_nil_of_length_eq_zero z] at this
   cases this
  ·exact z
 refine ⟨by simp,S',?_,?_,?_,?_,?_,?_,?_,?_⟩
 ·rw [List.map_append]
  refine R.sq.snoc fun i x y hi hx hy=>?_
  rw [List.length_map,List.length_append,List.length_singleton] at hi
  have hi':i=Ss.length - 1:=by omega
  rw [List.getElem?_map,List.getElem?_append_left (by omega)] at hx
  rw [List.getElem?_map,List.getElem?_append_right (by omega),show i + 1 - Ss.length=0 by omega] at hy
  cases e:Ss[i]? with
  | none=>rw [e] at hx;cases hx
  | some X =>
   rw [e] at hx
   rw [hi'] at e
   have:=gl e
   rw [this] at hx
   have ex:x=zp A:=(Option.some.inj hx).symm
   have ey:y=zp B:=(Option.some.inj hy).symm
   rw [ex,ey]
   exact r3
 ·intro X hX
  rcases List.mem_append.mp hX with a | a
  ·exact R.gs X a
  ·rw [List.mem_singleton.mp a];exact R.gB
 ·exact r3.dvd (R.gs A (List.mem_of_getLast? R.la)) R.gB
 ·intro X hX
  rcases List.mem_append.mp hX with a | a
  ·obtain ⟨a1,a2,a3,a4,a5⟩:=R.ok X a
   exact ⟨a1,a2,a3,by omega,a5⟩
  ·rw [List.mem_singleton.mp a]
   refine ⟨S.tB,S.gB (fun z=>by rw [z] at hB;simp at hB),by omega,Nat.le_refl _,S'.wA⟩
 ·rw [List.getElem?_append_left (by rw [List.length_append,List.length_singleton];omega)];exact R.h0
 ·rw [List.getElem?_append_left (by rw [List.length_append,List.length_singleton];omega)];exact R.h1
 ·intro i X hi hX
  rw [List.length_append,List.length_singleton] at hi
  rw [List.getElem?_append_left (by omega),show i=Ss.length - 1 by omega] at hX
  rw [gl hX];exact lB
 ·have:=R.ln
  rw [List.length_append,List.length_singleton]
  omega
theorem CR.all {c L:Nat} {P0 Q0 A:List Int} {G:Pf} {Ss:List (List Int)} (R:CR c L P0 Q0 G Ss A []):∀ S ∈ Ss,Dvd (zp A) (zp S):=fun S hS=>by
 have sq:aa4 (Ss.map zp):=fun i x y z h1 h2 h3=>by
  have up:∀ {j w},(Ss.map zp)[j]? = some w→((Ss ++ [[]]).map zp)[j]? = some w:=fun {j w} e=>by
   rw [List.map_append,List.getElem?_append_left (List.getElem?_eq_some_iff.mp e).1];exact e
  exact R.sq i x y z (up h1) (up h2) (up h3)
 refine aT3 sq (by rw [List.getLast?_map,R.la];rfl) (fun i x hi hx=>?_) (zp S) (List.mem_map.mpr ⟨S,hS,rfl⟩)
 rw [List.length_map] at hi
 have h2:((Ss ++ [[]]).map zp)[i + 1]? = some (zp A):=by
  rw [List.getElem?_map,List.getElem?_append_left (by omega)]
  have:=R.la
  rw [List.getLast?_eq_getElem?,show Ss.length - 1=i + 1 by omega] at this
  rw [this];rfl
 have h3:((Ss ++ [[]]).map zp)[i + 2]? = some 0:=by
  rw [List.getElem?_map,List.getElem?_append_right (by omega),show i + 2 - Ss.length=0 by omega]
  show some (zp [])=some 0
  rw [aK2]
 have h1:((Ss ++ [[]]).map zp)[i]? = some x:=by
  rw [List.map_append,List.getElem?_append_left (by rw [List.length_map];omega)];exact hx
 exact (R.sq i x _ _ h1 h2 h3).dvdx (dvd_refl _) ⟨0,J3,by grind⟩
structure at5 (ps:List Rat) (L:List (Fp × Nat)):Prop where
 fl:FL L
 fb:∀ x ∈ L,FpB x.1
 tl:T9 ps ps.length
 ex:∃ k,k ≠ 0∧qp ps=b8 k * fP (tfs (L.map rt1))
 cl:ClN 80 ps
 le:ps.length≤11
 n8:nT (L.map rt1)≤8
def ldA (T:List Int):Int:=aZ T (T.length - 1)
def ldB (T:List Int):Int:=if T.length % 2=0 then -ldA T else ldA T
structure Chn (Ts:List (List Int)) (L:List (Fp × Nat)):Prop where
 ok:∀ T ∈ Ts,T ≠ []∧A8 T T.length∧T.length≤11∧∀ v ∈ T,Int.natAbs v < 2 ^ 5000
 ln:1≤Ts.length∧Ts.length≤11
 hd:∃ T0 c,Ts[0]? = some T0∧c ≠ 0∧zp T0=b8 c * aP (tfs (L.map rt1)) 1
 ch:∀ {rs:List Rtu} {m:Nat},(∀ a,NT (L.map rt1) a=rs.countP (abv a) + m)→(∀ r ∈ rs,r.o=0 ∨ ((r.o=1 ∨ r.o=-1)∧0 < r.v)) →
  ∃ C,(∀ a,chg 0 (Ts.map fun T=>evQ a (T.map fun v:Int=>(v:Rat))) + C=rs.countP (abv a) + m)∧S7 0 (Ts.map ldA) + C=m∧S7 0 (Ts.map ldB) + C=rs.length + m
theorem aI6:aG3 1 0:=⟨⟨fun k hk=>by
 show (1:Pf).f k=0
 rw [G6]
 rw [if_neg (by omega)],by rw [G6];decide⟩,1,by decide,fun k=>by
 rw [G6]
 split
 ·exact ⟨1,by decide +kernel,by decide⟩
 ·exact OvB.zero _ _⟩
theorem bf5:∀ {L:List (Fp × Nat)},(∀ x ∈ L,FpB x.1∧1≤x.2)→∃ n,aG3 (gP1 (tfs (L.map rt1))) n
 | [],_=>⟨0,aI6⟩
 | x :: r,h=>by
  obtain ⟨n,ih⟩:=bf5 (L:=r) fun y hy=>h y (List.mem_cons_of_mem _ hy)
  exact ⟨_,ih.facs (h x List.mem_cons_self).1 (x.2 - 1)⟩
theorem at5.gp {ps:List Rat} {L:List (Fp × Nat)} (T:at5 ps L) (h0:ps ≠ []):∃ g,aG3 (gP1 (tfs (L.map rt1))) g∧g + nT (L.map rt1) + 1=ps.length:=by
 obtain ⟨g,hg⟩:=bf5 fun x hx=>⟨T.fb x hx,(T.fl.ok x hx).2⟩
 refine ⟨g,hg,?_⟩
 have la:=ah7 T.fl.rtok
 have one:∀ x ∈ tfs (L.map rt1),1≤x.2:=fun x hx=>by
  obtain ⟨y,hy,e⟩:=List.mem_map.mp hx
  rw [← e]
  exact (T.fl.rtok y hy).2
 have lf:Lm (fP (tfs (L.map rt1))) (g + nT (L.map rt1)):=by
  rw [(aJ5 one).1]
  exact hg.lm.mul la
 obtain ⟨k,k0,e⟩:=T.ex
 have lk:Lm (b8 k * fP (tfs (L.map rt1))) (g + nT (L.map rt1)):=⟨fun i hi=>by rw [M1,lf.dg i hi];grind,by
  have l0:=lf.ld
  rw [M1]
  intro z
  rcases Rat.mul_eq_zero.mp z with y | y
  ·exact k0 y
  ·exact l0 y⟩
 rw [← e] at lk
 have pos:=List.length_pos_iff.mpr h0
 have lq:Lm (qp ps) (ps.length - 1):=⟨fun i hi=>by
  show aQ ps i=0
  unfold aQ
  rw [List.getElem?_eq_none (by omega)];rfl,by
  show aQ ps (ps.length - 1) ≠ 0
  unfold aQ
  have hl:ps.length - 1 < ps.length:=by omega
  rw [List.getElem?_eq_getElem hl]
  exact T.tl.last (by omega) _ (List.getElem?_eq_getElem hl)⟩
 have:=ad2 lk lq
 omega
theorem be0 {Ts:List (List Int)} (h:∀ T ∈ Ts,T ≠ []∧A8 T T.length):aA0 (Ts.map zp) (Ts.map fun T=>T.length - 1):=by
 induction Ts with
 | nil=>exact .nil
 | cons T r ih =>
  obtain ⟨a,b⟩:=h T List.mem_cons_self
  exact .cons (aI7 b (List.length_pos_iff.mpr a)) (ih fun X hX=>h X (List.mem_cons_of_mem _ hX))
theorem aZ4:∀ n,sp 1 n=1
 | 0=>rfl
 | n + 1=>by show (1:Rat) * sp 1 n=1;rw [aZ4 n];decide +kernel
theorem br1:∀ n,sp (-1) n=if n % 2=0 then 1 else -1
 | 0=>rfl
 | n + 1=>by
  show (-1:Rat) * sp (-1) n=_
  rw [br1 n]
  by_cases h:n % 2=0
  ·rw [if_pos h,if_neg (by omega)];decide +kernel
  ·rw [if_neg h,if_pos (by omega)];decide +kernel
theorem aR7:∀ Ts:List (List Int),lds 1 (Ts.map zp) (Ts.map fun T=>T.length - 1)=(Ts.map ldA).map fun v:Int=>(v:Rat)
 | []=>rfl
 | T :: r=>by
  show (zp T).f (T.length - 1) * sp 1 (T.length - 1) :: lds 1 (r.map zp) (r.map fun T=>T.length - 1)=((ldA T:Int):Rat) :: (r.map ldA).map fun v:Int=>(v:Rat)
  rw [aR7 r,aZ4]
  congr 1
  show ((aZ T (T.length - 1):Int):Rat) * 1=_
  unfold ldA
  grind
theorem be2:∀ Ts:List (List Int),(∀ T ∈ Ts,T ≠ [])→lds (-1) (Ts.map zp) (Ts.map fun T=>T.length - 1)=(Ts.map ldB).map fun v:Int=>(v:Rat)
 | [],_=>rfl
 | T :: r,h=>by
  show (zp T).f (T.length - 1) * sp (-1) (T.length - 1) :: lds (-1) (r.map zp) (r.map fun T=>T.length - 1)=((ldB T:Int):Rat) :: (r.map ldB).map fun v:Int=>(v:Rat)
  rw [be2 r fun X hX=>h X (List.mem_cons_of_mem _ hX),br1]
  congr 1
  have pos:=List.length_pos_iff.mpr (h T List.mem_cons_self)
  show ((aZ T (T.length - 1):Int):Rat) * _=_
  unfold ldB ldA
  by_cases z:T.length % 2=0
  ·rw [if_pos z,if_neg (by omega),Rat.intCast_neg];grind
  ·rw [if_neg z,if_pos (by omega)];grind
inductive Qts (A:List Int):List (List Int)→List (List Int)→Prop where
 | nil:Qts A [] []
 | cons {S T:List Int} {Ss Ts:List (List Int)} (e:zp S=zp T * zp A) (k:Qts A Ss Ts):Qts A (S :: Ss) (T :: Ts)
theorem Qts.snoc {A:List Int} {Ss Ts:List (List Int)} (h:Qts A Ss Ts) {S T:List Int} (e:zp S=zp T * zp A):Qts A (Ss ++ [S]) (Ts ++ [T]):=by
 induction h with
 | nil=>exact .cons e .nil
 | cons e' _ ih=>exact .cons e' ih
theorem Qts.map {A:List Int} {Ss Ts:List (List Int)} (h:Qts A Ss Ts):Ss.map zp=(Ts.map zp).map (zp A * ·):=by
 induction h with
 | nil=>rfl
 | cons e _ ih =>
  simp only [List.map_cons,ih]
  rw [e]
  congr 1
  grind
theorem Qts.len {A:List Int} {Ss Ts:List (List Int)} (h:Qts A Ss Ts):Ss.length=Ts.length:=by
 induction h with
 | nil=>rfl
 | cons _ _ ih=>simp [ih]
theorem aG5 {L:List (Fp × Nat)} (F:FL L):∀ x ∈ tfs (L.map rt1),1≤x.2:=fun x hx=>by
 obtain ⟨y,hy,e⟩:=List.mem_map.mp hx
 rw [← e]
 exact (F.rtok y hy).2
theorem bg1 (x:Fp):1≤x.n:=by unfold Fp.n;split <;> omega
theorem bx4 {L:List (Fp × Nat)} (h:nT (L.map rt1)=0):L=[]:=by
 cases L with
 | nil=>rfl
 | cons x r =>
  have:nT ((x :: r).map rt1)=x.1.n + nT (r.map rt1):=rfl
  have:=bg1 x.1
  omega
theorem aW9 {L:List Rtu} {m:Nat} (h:∀ a,0=L.countP (abv a) + m) (hv:∀ r ∈ L,r.o=0 ∨ ((r.o=1 ∨ r.o=-1)∧0 < r.v)):L.length=0∧m=0:=by
 obtain ⟨b,hb,f⟩:=ac5 hv
 have h1:=(f b (by grind)).2
 have h2:=h (-b)
 omega
theorem CR.fin {c n:Nat} {P0 Q0 A:List Int} {Ss:List (List Int)} {ps:List Rat} {L:List (Fp × Nat)} {k1 k2:Rat} (R:CR c n P0 Q0 (gP1 (tfs (L.map rt1))) Ss A []) (T:at5 ps L) (p0:ps ≠ []) (s0:zp P0=b8 k1 * fP (tfs (L.map rt1))) (s1:zp Q0=b8 k2 * dP (fP (tfs (L.map rt1)))) (hk:0 < k1 * k2) (A0:A ≠ []) (gA:t9 A=1) (ln:Ss.length≤11) :
  (∀ k,(aZ A k).natAbs < 2 ^ 75)∧∀ Ts,Qts A Ss Ts→(∀ T ∈ Ts,T ≠ []∧A8 T T.length∧T.length≤11∧∀ v ∈ T,Int.natAbs v < 2 ^ 5000)→Chn Ts L:=by
 obtain ⟨g,mg,hg⟩:=T.gp p0
 have one:=aG5 T.fl
 obtain ⟨f1,f2⟩:=aJ5 one
 have tf:=T.fl.tf
 have fns:=TF.fn tf
 have fa:=as1 fns 1
 have fs:=aJ4 fns 1
 have all:=R.all
 have apos:=List.length_pos_iff.mpr A0
 have n1:k1 ≠ 0:=fun z=>by rw [z] at hk;grind
 have n2:k2 ≠ 0:=fun z=>by rw [z] at hk;grind
 have pos:0 < Ss.length:=by
  rcases Nat.eq_zero_or_pos Ss.length with z | z
  ·have:=R.la
   rw [List.eq_nil_of_length_eq_zero z] at this
   cases this
  ·exact z
 have S0:Ss[0]? = some P0:=by
  have:=R.h0
  rw [List.getElem?_append_left pos] at this
  exact this
 have un:∀ {k:Rat} {X Y:Pf},k ≠ 0→Dvd Y (b8 k * X)→Dvd Y X:=fun {k X Y} hk0 ⟨z,fz,e⟩=>⟨b8 k⁻¹ * z,(w9 _).mul fz,by
  have ik:=B8 hk0
  have e3:X=b8 k⁻¹ * (b8 k * X):=by
   generalize b8 k=D at *
   generalize b8 k⁻¹=D' at *
   grind
  rw [e3,e];grind⟩
 have d0:Dvd (zp A) (gP1 (tfs (L.map rt1)) * aP (tfs (L.map rt1)) 1):=by
  have:=all P0 (List.mem_of_getElem? S0)
  rw [s0,f1] at this
  exact un n1 this
 have d1:Dvd (zp A) (gP1 (tfs (L.map rt1)) * sP (tfs (L.map rt1)) 1):=by
  rw [← f2]
  refine un n2 ?_
  rw [← s1]
  have h1:=R.h1
  by_cases e:1 < Ss.length
  ·rw [List.getElem?_append_left e] at h1
   exact all Q0 (List.mem_of_getElem? h1)
  ·rw [List.getElem?_append_right (by omega),show 1 - Ss.length=0 by omega] at h1
   have:[]=Q0:=Option.some.inj h1
   rw [← this,aK2]
   exact ⟨0,J3,by grind⟩
 have lg:=aI7 (show A8 A A.length from R.cs.tA) apos
 refine ⟨fun k=>?_,fun Ts qt okT=>?_⟩
 ·obtain ⟨l,l0,e⟩:=aV7 mg.lm fa fs (R.gs A (List.mem_of_getLast? R.la)) d0 d1 (aG1 tf 1)
  obtain ⟨B,hB,ov⟩:=mg.ov
  obtain ⟨y,y0,ey⟩:=by5 hB ov e l0 gA
  have le:=T.le
  refine Nat.lt_of_lt_of_le (be5 hB ov y0 ey (y:=fun k=>aZ A k) (fun k=>?_) k) (h8 (by omega))
  have:=congrArg (fun z=>Pf.f z k) e
  exact this.trans (M1 _ _ _)
 ·have lT:=qt.len
  have em:=qt.map
  have lTs:1≤Ts.length∧Ts.length≤11:=by omega
  by_cases e2:2≤Ss.length
  ·have sq:aa4 (Ss.map zp):=fun i x y z h1 h2 h3=>by
    have up:∀ {j w},(Ss.map zp)[j]? = some w→((Ss ++ [[]]).map zp)[j]? = some w:=fun {j w} e=>by
     rw [List.map_append,List.getElem?_append_left (List.getElem?_eq_some_iff.mp e).1];exact e
    exact R.sq i x y z (up h1) (up h2) (up h3)
   have S1:Ss[1]? = some Q0:=by
    have:=R.h1
    rw [List.getElem?_append_left (by omega)] at this
    exact this
   obtain ⟨T0,T1,l,m,cc,dd,eT,hP,hcd,a0,a1⟩:=aO4 (S:=Ss.map zp) (T:=Ts.map zp) lg (by rw [List.getLast?_map,R.la];rfl) em (fun x hx=>by
    obtain ⟨X,_,rfl⟩:=List.mem_map.mp hx
    exact bs6 X) sq (by rw [List.length_map];exact e2) (fun i x hi hx=>by
    rw [List.length_map] at hi
    rw [List.getElem?_map] at hx
    cases e:Ss[i]? with
    | none=>rw [e] at hx;cases hx
    | some X =>
     rw [e] at hx
     have ex:x=zp X:=(Option.some.inj hx).symm
     have pl:=R.pen i X hi e
     refine ⟨X.length - 1,by omega,?_⟩
     rw [ex]
     exact aI7 (R.ok X (List.mem_of_getElem? e)).1 (by omega)) T.fl (k1:=k1) (k2:=k2) (by rw [List.getElem?_map,S0,← s0];rfl) (by rw [List.getElem?_map,S1,← s1];rfl) hk
   have al:=be0 fun X hX=>⟨(okT X hX).1,(okT X hX).2.1⟩
   have al':=al
   rw [eT] at al'
   refine ⟨okT,lTs,?_,fun {rs m'} hr hv=>?_⟩
   ·cases Ts with
    | nil=>simp at eT
    | cons X r =>
     have:zp X=T0:=(List.cons.inj eT).1
     refine ⟨X,cc,rfl,fun z=>by rw [z] at hcd;grind,by rw [this,a0]⟩
   ·obtain ⟨t,ht⟩:=bA1
    obtain ⟨C,b1,b2,b3⟩:=aF8 ht hP al' T.fl.rtok tf hcd a0 a1 hr hv
    rw [← eT] at b1 b2 b3
    refine ⟨C,fun a=>?_,?_,?_⟩
    ·have e:(Ts.map zp).map (t a)=Ts.map fun X=>evQ a (X.map fun v:Int=>(v:Rat)):=by
      rw [List.map_map]
      exact List.map_congr_left fun X _=>bE9 ht a X
     rw [← e]
     exact b1 a
    ·rw [aR7] at b2
     rw [ao7];exact b2
    ·rw [be2 _ fun X hX=>(okT X hX).1] at b3
     rw [ao7];exact b3
  ·have l1:Ss.length=1:=by omega
   have q0:Q0=[]:=by
    have h1:=R.h1
    rw [List.getElem?_append_right (by omega),l1] at h1
    exact (Option.some.inj h1).symm
   have sz:sP (tfs (L.map rt1)) 1=0:=by
    have ik:=B8 n2
    have e3:gP1 (tfs (L.map rt1)) * sP (tfs (L.map rt1)) 1=gP1 (tfs (L.map rt1)) * 0:=by
     have e4:b8 k2 * (gP1 (tfs (L.map rt1)) * sP (tfs (L.map rt1)) 1)=0:=by rw [← f2,← s1,q0,aK2]
     have e5:gP1 (tfs (L.map rt1)) * sP (tfs (L.map rt1)) 1=b8 k2⁻¹ * (b8 k2 * (gP1 (tfs (L.map rt1)) * sP (tfs (L.map rt1)) 1)):=by
      generalize gP1 (tfs (L.map rt1)) * sP (tfs (L.map rt1)) 1=X at *
      generalize b8 k2=D at *
      generalize b8 k2⁻¹=D' at *
      grind
     rw [e5,e4];grind
    exact mg.lm.cancel fs J3 e3
   obtain ⟨u,v,fu,fv,b⟩:=aG1 tf 1
   rw [sz] at b
   obtain ⟨k,k0,ek⟩:=ap3 (h:=aP (tfs (L.map rt1)) 1) (W:=u) fa fu (by grind)
   have nt:nT (L.map rt1)=0:=by
    have l1:=ah7 T.fl.rtok
    have l2:Lm (aP (tfs (L.map rt1)) 1) 0:=by
     rw [ek]
     refine ⟨fun i hi=>?_,?_⟩
     ·show (if i=0 then k else 0)=0
      rw [if_neg (by omega)]
     ·show (if 0=0 then k else 0) ≠ 0
      rw [if_pos rfl];exact k0
    exact ad2 l1 l2
   have Ln:=bx4 nt
   subst Ln
   cases Ts with
   | nil=>simp only [List.length_nil] at lT;omega
   | cons X r =>
    cases r with
    | cons Y r=>simp only [List.length_cons] at lT;omega
    | nil =>
     cases Ss with
     | nil=>simp at pos
     | cons Z r =>
      cases r with
      | cons=>simp only [List.length_cons] at l1;omega
      | nil =>
       have eA:Z=A:=Option.some.inj R.la
       cases qt with
       | cons e q =>
        rw [eA] at e
        have hX:zp X=1:=lg.cancel (bs6 X) G9 (by
         have:zp A * zp X=zp A:=by
          conv=>rhs;rw [e]
          grind
         rw [this];grind)
        refine ⟨okT,lTs,⟨X,1,rfl,by decide,by rw [hX,p9];show 1=1 * (1:Pf);grind⟩,fun {rs m} hr hv=>?_⟩
        obtain ⟨h1,h2⟩:=aW9 (L:=rs) (m:=m) (fun a=>hr a) hv
        have rn:=List.eq_nil_of_length_eq_zero h1
        subst rn
        subst h2
        have c0:∀ x:Rat,chg 0 [x]=0:=fun x=>by
         show (if x * 0 < 0 then 1 else 0) + 0=0
         rw [if_neg (by grind)]
        have c1:∀ x:Int,S7 0 [x]=0:=fun x=>by
         show (if x * 0 < 0 then 1 else 0) + 0=0
         rw [if_neg (by omega)]
        exact ⟨0,fun a=>c0 _,c1 _,c1 _⟩
end R
set_option maxRecDepth 100000
local macro_rules | `(tactic| simp! [$ls,*]) => `(tactic| simp only [L2.bz3, L2.ipM, L2.bv4, L2.bt7, L2.aG6, L2.ap5, L2.bv2, L2.aZ2, L2.tSl, L2.aY7, L2.aA2, L2.bv1, L2.bv3, L2.aB9, L2.bf3, L2.M0, List.map_cons, List.map_nil, Option.bind_none, Option.bind_some, Option.join_some, L2.bk1, L2.bu0, L2.bu3, L2.tOr, L2.bt8, L2.aP3, L2.tB, L2.tOp, L2.tUn, L2.bu1, L2.tBM, L2.Y7, L2.tC, L2.tCB, L2.bk2, L2.aU1, L2.C1, L2.bz5, L2.ao0, L2.L9, L2.ao1, L2.ap4, L2.aU0, L2.bk3, L2.bt5, L2.bt9, L2.tIf, L2.aZ3, L2.bt6, L2.aY8, L2.bk4, L2.aA4, L2.aZ0, L2.aY9, L2.aK7, L2.aK6, L2.bu2, L2.ipI, L2.rI, L2.rI0, L2.rU, L2.aB8, L2.aB7, L2.bb0, L2.ba9, L2.rEq, L2.rNe, L2.aL4, L2.aL3, L2.aL2, L2.bv5, L2.bv6, L2.bf1, L2.bf0, L2.bf2, L2.ao2, L2.cxR, L2.cxX, L2.Cx.nox, L2.Cx.wish, L2.Cx.body, L2.Cx.suite, List.getElem?_cons_zero, List.getElem?_cons_succ, List.set_cons_zero, List.set_cons_succ, Option.some.injEq, L2.V.int.injEq, L2.V.bl.injEq, L2.V.ref.injEq, L2.V.str.injEq, exists_eq_left', exists_eq_left, exists_and_left, true_and, and_true, List.cons.injEq, reduceCtorEq, Bool.false_eq_true, if_false, if_true, exists_const, ↓reduceIte, L2.tyV, List.length_cons, List.length_nil, exists_eq, List.append_nil, List.cons_append, List.nil_append, decide_eq_true_eq, not_true_eq_false, not_false_eq_true, Bool.not_eq_true', decide_eq_false_iff_not, Bool.not_true, Bool.not_false, and_assoc, false_and, false_or, or_false, $ls,*])
local macro_rules | `(tactic| subst_eqs) => `(tactic| simp! [])
local macro_rules | `(tactic| and_intros) => `(tactic| exact ⟨rfl, rfl, rfl, by decide +kernel, rfl, by decide +kernel, by decide +kernel⟩)
namespace R
open PySem L2 PyProof.Rows
section
variable {P:Program} {w:World} {K:PySem.W.Frag} {mg:Str→Option Value} {base:Heap}
def aa3 (b:Int) (l:List Int):Int:=l.foldl (fun b s=>if s=0 then b else s) b
def aQ0 (K:PySem.W.Frag):Sp:=fun vs H Q _ => ∃ (a:Addr) (ws:List Int),vs=[.ref a]∧SqL K H a (ws.map V.int)∧(∀ v ∈ ws,Int.natAbs v < 2 ^ 5000)∧ws.length≤100∧Q (.int (S7 0 ws:Nat)) H
abbrev E7:Stmt:=top 41
theorem G4:j7 ["signs","changes","before","sign"] ["signs"] (d5 E7):=by and_intros
set_option maxHeartbeats 0 in
theorem au7 {f:Addr} (d:Df K mg "changes_of" E7 ["signs"] f):Def P w K mg base CX0 1 "changes_of" f ["signs"] (aQ0 K):=by
 refine d.ok (N:=["signs","changes","before","sign"]) G4 (fun vs H Q E ⟨a,b,h,_⟩=>by rw [h];rfl) (fun cdv A outer s H vs Q E hr h=>?_)
 obtain ⟨a,ws,rfl,hS,hb,hl,k⟩:=h
 refine ⟨_,(d6 (i4 (i:=1) G4.nd rfl (Or.inl rfl) d4)
   (d6 (i4 (i:=2) G4.nd rfl (Or.inl rfl) d4)
   (d6 (O0 PassesOwn.never rfl (E1 (pv 0)) (m6 (i:=3) G4.nd rfl (Or.inl rfl)) (d6 (C9 (p5 ae4 (i6 v1 (pv 3) (pv 2)) d4 (n5 _)) (d8 (aC2 (i:=1) G4.nd rfl (Or.inl rfl) d4 bz0)) v8)
   (d8 (i4 (i:=2) G4.nd rfl (Or.inl rfl) (bw6 (pv 3) (aj4 (pv 2)))))))
   (d8 (j8 (pv 1)))))),?_⟩
 rw [show start ["signs","changes","before","sign"] [.ref a]=[some (.ref a),none,none,none] from rfl]
 subst_eqs
 refine ⟨_,rfl,a,rfl,⟨_,hS⟩,ai3 (xs:=ws.map V.int) (fun i σ H1=>H1=H∧∃ o,σ=[some (.ref a),some (.int (S7 0 (ws.take i):Nat)),some (.int (aa3 0 (ws.take i))),o]) ⟨rfl,_,rfl⟩ (fun i σ H1 _ ⟨e,_⟩=>e ▸ hS) ?_ ?_⟩
 ·rintro i x σ H1 hx ⟨rfl,o,rfl⟩
  rw [List.getElem?_map] at hx
  cases hw:ws[i]? with
  | none=>rw [hw] at hx;cases hx
  | some v =>
   rw [hw] at hx
   cases hx
   have hm:=List.mem_of_getElem? hw
   have es:ws.take (i + 1)=ws.take i ++ [v]:=by rw [List.take_succ,hw];rfl
   subst_eqs
   have la:aa3 0 (ws.take (i + 1))=if v=0 then aa3 0 (ws.take i) else v:=by
    rw [es];unfold aa3;rw [List.foldl_append];rfl
   have cg:S7 0 (ws.take (i + 1))=S7 0 (ws.take i) + if v * aa3 0 (ws.take i) < 0 then 1 else 0:=by
    rw [es,aK0]
    show _ + ((if v * aa3 0 (ws.take i) < 0 then 1 else 0) + 0)=_
    omega
   have lb:(aa3 0 (ws.take i)).natAbs < 2 ^ 5000:=by
    have key:∀ (l:List Int) (b:Int),b.natAbs < 2 ^ 5000→(∀ v ∈ l,Int.natAbs v < 2 ^ 5000)→(aa3 b l).natAbs < 2 ^ 5000:=fun l=>by
     induction l with
     | nil=>intro b h _;exact h
     | cons s r ih =>
      intro b h hl
      show (aa3 (if s=0 then b else s) r).natAbs < _
      refine ih _ ?_ fun v hv=>hl v (List.mem_cons_of_mem _ hv)
      split
      ·exact h
      ·exact hl s List.mem_cons_self
    exact key _ 0 (Nat.two_pow_pos _) fun v hv=>hb v (List.mem_of_mem_take hv)
   have fin:∀ n:Nat,n=S7 0 (ws.take (i + 1))→∃ k,av6 K (V.int v) H1 k∧if k=true then (n:Int)=(S7 0 (ws.take (i + 1)):Nat)∧v=aa3 0 (ws.take (i + 1))∧∃ x,some (V.int v)=x else (n:Int)=(S7 0 (ws.take (i + 1)):Nat)∧aa3 0 (ws.take i)=aa3 0 (ws.take (i + 1))∧∃ x,some (V.int v)=x:=fun n hn=>by
    refine ⟨_,rfl,?_⟩
    rw [la]
    by_cases z:v=0
    ·rw [if_neg (by rw [z];decide),if_pos z]
     exact ⟨by rw [hn],rfl,_,rfl⟩
    ·rw [if_pos (by rw [bne_iff_ne];exact z),if_neg z]
     exact ⟨by rw [hn],rfl,_,rfl⟩
   refine ⟨J2 (hb v hm) lb (by decide),D5 (fun h=>?_) (fun h=>?_)⟩
   ·have:=fin (S7 0 (ws.take i) + 1) (by rw [cg,if_pos h])
    rw [Int.natCast_add] at this
    exact this
   ·exact fin (S7 0 (ws.take i)) (by rw [cg,if_neg h];rfl)
 ·rintro σ H1 ⟨rfl,o,rfl⟩
  rw [List.length_map,List.take_length]
  exact ⟨_,rfl,k⟩
end
section
variable {P:Program} {w:World} {K:PySem.W.Frag} {mg:Str→Option Value} {base:Heap}
def aU4:Sp:=fun vs H Q _ => ∃ a b:Int,vs=[.int a,.int b]∧(a.natAbs < 2 ^ 6000 ∨ b.natAbs < 2 ^ 6000)∧Q (.int (Int.gcd a b)) H
abbrev B1:Stmt:=top 24
theorem V8:j7 ["one","other"] ["one","other"] (d5 B1):=by and_intros
theorem ah4 {f : Addr} (d : Df K mg "common_divisor" B1 ["one", "other"] f) (c_SHORT : ∃ t, mg "SHORT" = some (.int 6000 t)) (n_abs : mg "abs" = none) : Def P w K mg base CX0 1 "common_divisor" f ["one", "other"] aU4 := by
  obtain ⟨tS, c_SHORT⟩ := c_SHORT
  refine d.ok (N := ["one", "other"]) V8 (fun vs H Q E ⟨a, b, h, _⟩ => by rw [h]; rfl) (fun cdv A outer s H vs Q E hr h => ?_)
  obtain ⟨a, b, rfl, hab, q⟩ := h
  refine ⟨_, (d6 (C9 (PW.pt (W5 (p5 al4 (aL9 PySem.F.plainAttrs_int PySem.F.slot_int_bit_length PySem.F.type_int_bit_length ax8 (pv 1)) (C6 (v := .int 6000) rfl c_SHORT ⟨_, rfl⟩) (n5 _)) (W0 (p5 al4 (aL9 PySem.F.plainAttrs_int PySem.F.slot_int_bit_length PySem.F.type_int_bit_length ax8 (pv 0)) (C6 (v := .int 6000) rfl c_SHORT ⟨_, rfl⟩) (n5 _))))) (d8 bb3) v8)
      (d6 (X5 PassesOwn.never (ab3 (pv 1) (fun _ => rfl)) (d8 (aL7 (i := 0) (j := 1) rfl V8.nd rfl rfl (by decide) rfl rfl (b7 (pv 1) (b7 (i6 O3 (pv 0) (pv 1)) b9)) rfl)))
      (d8 (j8 (i9 V3 rfl n_abs (by decide +kernel) (b7 (pv 0) b9)))))), ?_⟩
  rw [show start ["one", "other"] [.int a, .int b] = [some (.int a), some (.int b)] from rfl]
  have hno : ¬ ((6000 : Int) < Builtin.Int.intBits b ∧ (6000 : Int) < Builtin.Int.intBits a) := by
    rintro ⟨h1, h2⟩
    rcases hab with z | z
    · have := P6 z; omega
    · have := P6 z; omega
  have main : ∀ {D : aa5} , (∀ x : Int, ∀ y : Int, y = 0 → Int.gcd x y = Int.gcd a b → D.nx [some (.int x), some (.int y)] H) → aj0 (fun σ H_1 Q => Y7 1 σ H_1 fun x H' => ∃ k, av6 K x H' k ∧ Q k H')
      (bk3 0 1 (ap4 (Y7 1) (ap4 (tOp (rI (fun x j => j ≠ 0) fun i j => V.int (i.fmod j)) (Y7 0) (Y7 1)) aU0))) D [some (.int a), some (.int b)] H := by
    intro D hD
    refine aG4 (fun σ H1 => H1 = H ∧ ∃ x y : Int, σ = [some (.int x), some (.int y)] ∧ Int.gcd x y = Int.gcd a b) (fun σ _ => match σ with | [_, some (.int y)] => y.natAbs | _ => 0) ⟨rfl, a, b, rfl, rfl⟩ ?_ ?_
    · rintro σ H1 ⟨rfl, x, y, rfl, hg⟩
      simp! [av6]
      split
      · rename_i hy
        have hy' : y ≠ 0 := by simpa using hy
        exact ⟨hy', by rw [aJ3]; exact hg, ab9 x hy'⟩
      · rename_i hy
        have hy' : y = 0 := by simpa using hy
        exact hD x y hy' hg
    · intro σ H1 Q Q' hQ h
      obtain ⟨v, e1, k, e2, e3⟩ := h
      exact ⟨v, e1, k, e2, hQ _ _ e3⟩
  have fin : ∀ x y : Int, y = 0 → Int.gcd x y = Int.gcd a b → Q (.int (if x < 0 then -x else x)) H := fun x y hy hg => by
    subst hy
    have e : (if x < 0 then -x else x) = (Int.gcd a b : Int) := by
      rw [← hg, Int.gcd_zero_right]
      split <;> omega
    rw [e]; exact q
  have nxt : ∀ x y : Int, y = 0 → Int.gcd x y = Int.gcd a b → (bk2 (tCB (fun xs H Q => ∃ i, xs = [V.int i] ∧ Q (V.int (if i < 0 then -i else i)) H) (ap4 (Y7 0) aU0)) { nx := fun x H' => Q V.non H', rt := Q }) [some (.int x), some (.int y)] H := fun x y hy hg => by
    subst_eqs
    exact fin x y hy hg
  subst_eqs
  split
  · split
    · exact hno ⟨‹_›, ‹_›⟩
    · exact main nxt
  · exact main nxt
end
instance {K:PySem.W.Frag} {H:Hp} {vs:List V} {qs:List Rat}:Coe (B4 H vs qs) (T2 K H vs qs):=⟨B4.toC⟩
section
variable {P:Program} {w:World} {K:PySem.W.Frag} {mg:Str→Option Value} {base:Heap}
def aj1 (K:PySem.W.Frag):Sp:=fun vs H Q _ => ∃ a ws,vs=[.ref a]∧SqL K H a (ws.map V.int)∧(∀ w ∈ ws,Int.natAbs w < 2 ^ 6000)∧Q (.int (t9 ws)) H
abbrev E6:Stmt:=top 28
theorem Q3:j7 ["wholes","content","whole"] ["wholes"] (d5 E6):=by and_intros
set_option maxHeartbeats 0 in
theorem au6 {f fc:Addr} (d:Df K mg "content_of" E6 ["wholes"] f) (G_common_divisor:Def P w K mg base CX0 1 "common_divisor" fc ["one","other"] aU4):Def P w K mg base CX0 2 "content_of" f ["wholes"] (aj1 K):=by
 refine d.ok (N:=["wholes","content","whole"]) Q3 (by rintro vs H Q E ⟨a,b,h,_⟩;rw [h];rfl) (fun cdv A outer s H vs Q E hr h=>?_)
 obtain ⟨a,ws,rfl,hS,hb,k⟩:=h
 refine ⟨_,(d6 (i4 (i:=1) Q3.nd rfl (Or.inl rfl) d4)
   (d6 (O0 PassesOwn.never rfl (E1 (pv 0)) (m6 (i:=2) Q3.nd rfl (Or.inl rfl)) (d6 (i4 (i:=1) Q3.nd rfl (Or.inl rfl) (i3 G_common_divisor hr (b7 (pv 2) (b7 (pv 1) b9)) j5))
   (d8 (C9 (p5 aa1 (pv 1) d4 (n5 _)) (d8 (j8 d4)) v8))))
   (d8 (j8 (pv 1))))),?_⟩
 rw [show start ["wholes","content","whole"] [.ref a]=[some (.ref a),none,none] from rfl]
 subst_eqs
 refine ⟨_,rfl,a,rfl,⟨_,hS⟩,ai3 (xs:=ws.map V.int) (fun i σ H1=>H1=H∧∃ o,σ=[some (.ref a),some (.int (t9 (ws.take i):Nat)),o]) ⟨rfl,_,rfl⟩ (fun i σ H1 _ ⟨e,_⟩=>e ▸ hS) ?_ ?_⟩
 ·rintro i x σ H1 hx ⟨rfl,o,rfl⟩
  rw [List.getElem?_map] at hx
  cases hw:ws[i]? with
  | none=>rw [hw] at hx;cases hx
  | some v =>
   rw [hw] at hx
   cases hx
   have hm:=List.mem_of_getElem? hw
   simp! [aU4]
   have es:ws.take (i + 1)=ws.take i ++ [v]:=by rw [List.take_succ,hw];rfl
   have eg:Int.gcd v (t9 (ws.take i):Int)=t9 (ws.take (i + 1)):=by rw [es,aW0]
   refine ⟨.inl (Nat.lt_of_lt_of_le (hb v hm) (h8 (by decide))),?_⟩
   rw [eg]
   refine ⟨rfl,D5 (fun h1=>?_) (fun _=>?_)⟩
   ·have:t9 (ws.take (i + 1))=1:=by omega
    have e1:=bg0 _ this
    rw [e1] at k
    exact k
   ·exact ⟨rfl,_,rfl⟩
 ·rintro σ H1 ⟨rfl,o,rfl⟩
  rw [List.length_map,List.take_length]
  exact ⟨_,rfl,k⟩
def aw5 (K:PySem.W.Frag):Sp:=fun vs H Q _ => ∃ a xs qs,vs=[.ref a]∧SqL K H a xs∧T2 K H xs qs∧(∃ W:Nat,ClN W qs∧W≤6000)∧qs.length≤100 ∧
 ∀ r l H',d9 H H'→H l=none→H' r=some (.tup [.ref l,.int (t4 qs)])→H' l=some (.lst ((p7 (t4 qs) qs).map V.int))→Q (.ref r) H'
abbrev N3:Stmt:=top 31
theorem Y9:j7 ["numbers","bottom","number"] ["numbers"] (d5 N3):=by and_intros
set_option maxHeartbeats 0 in
theorem aM4 {f fc:Addr} (d:Df K mg "cleared" N3 ["numbers"] f) (G_common_divisor:Def P w K mg base CX0 1 "common_divisor" fc ["one","other"] aU4):Def P w K mg base CX0 2 "cleared" f ["numbers"] (aw5 K):=by
 refine d.ok (N:=["numbers","bottom","number"]) Y9 (by rintro vs H Q E ⟨a,b,c,h,_⟩;rw [h];rfl) (fun cdv A outer s H vs Q E hr h=>?_)
 obtain ⟨a,xs,qs,rfl,hS,hN,⟨W,hs,hm⟩,hl,k⟩:=h
 refine ⟨_,(d6 (i4 (i:=1) Y9.nd rfl (Or.inr rfl) d4)
   (d6 (O0 PassesOwn.never rfl (E1 (pv 0)) (m6 (i:=2) Y9.nd rfl (Or.inl rfl)) (d8 (i4 (i:=1) Y9.nd rfl (Or.inr rfl) (i6 v1 (i6 M3 (pv 1) (i3 G_common_divisor hr (b7 (pv 1) (b7 (m8 p8 (pv 2) d4 (fun _ _=>rfl)) b9)) j5)) (m8 p8 (pv 2) d4 (fun _ _=>rfl))))))
   (d8 (j8 (w8 (b7 (T5 (Nc:=["bottom","top","under"]) (caps:=[some 1,none,none]) rfl (Z9.of (osc:=d5 N3) (N:=["numbers","bottom","number"]) (ks:=["bottom"]) rfl rfl rfl rfl (G1 rfl L8) (by decide +kernel)) (E1 (pv 0)) (fun C s₂ H₂ fp pins=>(show PG _ _ (ao0 K 2 (L9 (C1 1) (L9 (C1 2) ao1))) from by (refine Z3 (n:=2) ?_ ?_ ?_ ?_;rfl;(refine z8 ?_ ?_ ?_;(exact (m6 (i:=1) (show List.Nodup (["bottom","top","under"]:List Str) by decide +kernel) rfl (Or.inl rfl) (Or.inr rfl)));(refine z8 ?_ ?_ ?_;(exact (m6 (i:=2) (show List.Nodup (["bottom","top","under"]:List Str) by decide +kernel) rfl (Or.inl rfl) (Or.inr rfl)));(exact T4);rfl);rfl);rfl;rfl))) (fun C s₂ H₂ fp pins=>(i6 v1 (pv 1) (i6 M3 (pv 0) (pv 2))))) (b7 (pv 1) b9))))))),?_⟩
 rw [show start ["numbers","bottom","number"] [.ref a]=[some (.ref a),none,none] from rfl]
 subst_eqs
 have small:∀ q ∈ qs,q.den < 2 ^ 6000:=fun q hq=>Nat.lt_of_lt_of_le (hs.den hq) (h8 hm)
 have hB:∀ i,0 < t4 (qs.take i)∧t4 (qs.take i) < 2 ^ 6000:=fun i=>by
  exact ⟨V1 _,Nat.lt_of_lt_of_le (hs.take i) (h8 hm)⟩
 refine ⟨_,rfl,a,rfl,⟨_,hS⟩,ai3 (xs:=xs) (fun i σ H1=>H1=H∧∃ o,σ=[some (.ref a),some (.int (t4 (qs.take i):Nat)),o]) ⟨rfl,_,rfl⟩ (fun i σ H1 _ ⟨e,_⟩=>e ▸ hS) ?_ ?_⟩
 ·rintro i x σ H1 hx ⟨rfl,o,rfl⟩
  obtain ⟨p,q,rfl,hq,hp⟩:=hN.getV hx
  obtain ⟨b1,b2⟩:=hB i
  have hd:=small q (List.mem_of_getElem? hq)
  have hd0:=y7 q
  have es:qs.take (i + 1)=qs.take i ++ [q]:=by rw [List.take_succ,hq];rfl
  have gp:(0:Int) < (Int.gcd (t4 (qs.take i):Int) (q.den:Int):Nat):=by
   have:=ad4 (t:=(t4 (qs.take i):Int)) (b:=(q.den:Int)) (by omega);omega
  have el:(t4 (qs.take i):Int).fdiv (Int.gcd (t4 (qs.take i):Int) (q.den:Int):Nat) * (q.den:Int)=(t4 (qs.take (i + 1)):Nat):=by
   rw [es,aV6]
   obtain ⟨e,he⟩:=Int.gcd_dvd_left (t4 (qs.take i):Int) (q.den:Int)
   have hg:Int.gcd (t4 (qs.take i):Int) (q.den:Int)=Nat.gcd (t4 (qs.take i)) q.den:=by simp [Int.gcd]
   have h1:(t4 (qs.take i):Int).fdiv (Int.gcd (t4 (qs.take i):Int) (q.den:Int):Nat)=e:=by
    conv=>lhs;arg 1;rw [he]
    exact t7 (by omega)
   rw [h1]
   have h2:Nat.gcd (t4 (qs.take i)) q.den * Nat.lcm (t4 (qs.take i)) q.den=t4 (qs.take i) * q.den:=Nat.gcd_mul_lcm _ _
   have h3:((Nat.gcd (t4 (qs.take i)) q.den:Nat):Int) * (Nat.lcm (t4 (qs.take i)) q.den:Nat)=(t4 (qs.take i):Int) * (q.den:Int):=by
    rw [← Int.natCast_mul,h2,Int.natCast_mul]
   rw [← hg] at h3
   have h4:((Int.gcd (t4 (qs.take i):Int) (q.den:Int):Nat):Int) * (e * q.den)=((Int.gcd (t4 (qs.take i):Int) (q.den:Int):Nat):Int) * (Nat.lcm (t4 (qs.take i)) q.den:Nat):=by
    rw [h3,← Int.mul_assoc,← he]
   exact Int.eq_of_mul_eq_mul_left (by omega) h4
  simp! [aU4]
  have hd9:(q.den:Int).natAbs < 2 ^ 6000:=by rw [Int.natAbs_natCast];exact hd
  exact ⟨_,hp.sqt,_,at1 q,_,rfl,.inr (ae5 hd9),ae7 (by omega) (bf8 (by omega) (ae5 hd9)),_,hp.sqt,_,at1 q,_,rfl,J2 (m:=6000) (n:=6000) (Nat.lt_of_le_of_lt (aE6 (by omega) (Int.gcd_dvd_left _ _)) (by rw [Int.natAbs_natCast];exact b2)) hd9,el,_,rfl⟩
 ·rintro σ H1 ⟨rfl,o,rfl⟩
  rw [← hN.length] at hl
  have e1:qs.take xs.length=qs:=by rw [hN.length,List.take_length]
  rw [e1]
  simp! [aU4]
  refine ⟨⟨_,hS⟩,fun D hD=>?_⟩
  refine T7 xs (fun i σ H2 => ∃ o1 o2,σ=[some (.int (t4 qs)),o1,o2]∧d9 H1 H2∧H2 D=some (.lst ((p7 (t4 qs) (qs.take i)).map V.int))) ⟨_,_,rfl,d9.new hD _,d7⟩ (fun i σ H2 _ ⟨_,_,_,s2,_⟩=>s2.seq hS) ?_ ?_
  ·rintro i x σ H2 hx ⟨o1,o2,rfl,s2,e2⟩
   have hi:=(List.getElem?_eq_some_iff.mp hx).1
   obtain ⟨p,q,rfl,hq,hp⟩:=hN.getV hx
   have hd:=small q (List.mem_of_getElem? hq)
   have hd0:=y7 q
   have hd9:(q.den:Int).natAbs < 2 ^ 6000:=by rw [Int.natAbs_natCast];exact hd
   have hn9:=hs.num (List.mem_of_getElem? hq)
   have es:qs.take (i + 1)=qs.take i ++ [q]:=by rw [List.take_succ,hq];rfl
   subst_eqs
   refine ⟨_,s2.tup hp.sqt,rfl,_,_,rfl,_,_,rfl,rfl,?_⟩
   refine ⟨_,rfl,ae7 (by omega) (ae5 hd9),_,rfl,J2 (m:=6000) (n:=6000) (Nat.lt_of_lt_of_le hn9 (h8 (by omega))) (Nat.lt_of_le_of_lt (aE6 (by omega) (Int.natCast_dvd_natCast.mpr (T6 (List.mem_of_getElem? hq)))) (by rw [Int.natAbs_natCast];have:=(hB qs.length).2;rwa [List.take_length] at this)),?_⟩
   refine N5.mk hi e2 ?_ ⟨_,_,rfl,(s2.trans (d9.refl _)).over hD _,?_⟩
   ·simp only [List.length_map,p7,List.length_take]
    exact Nat.lt_of_le_of_lt (show _≤100 by omega) (by decide)
   ·rw [d7,es]
    simp [p7]
  ·rintro σ H2 ⟨o1,o2,rfl,s2,e2⟩
   rw [e1] at e2
   refine ⟨x9,fun p hp=>k p D _ (s2.trans (d9.new hp _)) hD d7 ?_⟩
   rw [j3 (i5 e2 hp)];exact e2
end
theorem bn3 {qs:List Rat} (hc:t9 (p7 (t4 qs) qs) ≠ 0) :
  let c:Int:=t9 (p7 (t4 qs) qs)
  (Rat.divInt c (t4 qs)).num=c∧((Rat.divInt c (t4 qs)).den:Int)=t4 qs∧qs=scl (Rat.divInt c (t4 qs)) ((p7 (t4 qs) qs).map fun v=>v.fdiv c):=by
 intro c
 have hB:=V1 qs
 obtain ⟨h1,h2⟩:=af5 (n:=c) (d:=(t4 qs:Int)) (by omega) (aF6 qs)
 refine ⟨h1,h2,?_⟩
 unfold scl p7
 rw [List.map_map,List.map_map]
 conv=>lhs;rw [← List.map_id qs]
 refine List.map_congr_left fun q hq=>?_
 show q=Rat.divInt c (t4 qs) * (((q.num * (t4 qs:Int).fdiv (q.den:Int)).fdiv c:Int):Rat)
 obtain ⟨e,he⟩:=L7 (ws:=p7 (t4 qs) qs) (List.mem_map.mpr ⟨q,hq,rfl⟩)
 have hc':c ≠ 0:=by show ((t9 (p7 (t4 qs) qs):Nat):Int) ≠ 0;omega
 have e1:(q.num * (t4 qs:Int).fdiv (q.den:Int)).fdiv c=e:=by
  conv=>lhs;arg 1;rw [he]
  exact t7 hc'
 rw [e1]
 conv=>lhs;rw [aY1 hB (T6 hq)]
 rw [he]
 have e2:(e:Rat)=Rat.divInt e 1:=by
  have:=Rat.num_divInt_den (e:Rat)
  rw [Rat.num_intCast,Rat.den_intCast] at this
  exact this.symm
 rw [e2,Rat.divInt_mul_divInt,Int.mul_one]
theorem bn9 {ws:List Int} {v:Int} (h:v ∈ ws) (hv:v ≠ 0):t9 ws ≠ 0:=fun z=>by
 obtain ⟨e,he⟩:=L7 h
 rw [z] at he
 simp at he
 exact hv he
theorem aN1 {a g:Int} {n:Nat} (hg:0 < g) (hd:g ∣ a) (h:a.natAbs < n):(a.fdiv g).natAbs < n:=Nat.lt_of_le_of_lt (aE6 hg hd) h
section
variable {P:Program} {w:World} {K:PySem.W.Frag} {mg:Str→Option Value} {base:Heap}
theorem ay4 {d:Nat}:∀ (ws:List Int) (c:Nat),d ∣ c→(∀ w ∈ ws,(d:Int) ∣ w)→d ∣ ws.foldl (fun c w=>Int.gcd w c) c
 | [],c,h,_=>h
 | w :: r,c,h,hw=>ay4 r _ (Int.dvd_gcd (hw w List.mem_cons_self) (Int.natCast_dvd_natCast.mpr h)) fun x hx=>hw x (List.mem_cons_of_mem _ hx)
theorem ba8 {q:Rat} (h:0 < q.num):0 < q:=(Rat.lt_iff 0 q).mpr (by
 show (0:Int) * (q.den:Int) < q.num * ((1:Nat):Int)
 rw [Int.zero_mul];simpa using h)
theorem aW1 {ws:List Int} (hc:t9 ws ≠ 0):t9 (ws.map fun v=>v.fdiv ((t9 ws:Nat):Int))=1:=by
 obtain ⟨g,hg⟩:∃ g,g=t9 ws:=⟨_,rfl⟩
 obtain ⟨e,he⟩:∃ e,e=t9 (ws.map fun v=>v.fdiv ((t9 ws:Nat):Int)):=⟨_,rfl⟩
 have hd:(g * e) ∣ t9 ws:=ay4 ws 0 (Nat.dvd_zero _) fun w hw=>by
  obtain ⟨y,hy⟩:=L7 hw
  have h1:w.fdiv ((t9 ws:Nat):Int)=y:=by
   conv=>lhs;arg 1;rw [hy]
   exact t7 (by omega)
  obtain ⟨z,hz⟩:=L7 (List.mem_map.mpr ⟨w,hw,rfl⟩:w.fdiv ((t9 ws:Nat):Int) ∈ ws.map fun v=>v.fdiv ((t9 ws:Nat):Int))
  rw [h1,← he] at hz
  exact ⟨z,by rw [hy,← hg,hz,Int.natCast_mul,Int.mul_assoc]⟩
 rw [← hg] at hd
 obtain ⟨z,hz⟩:=hd
 have h2:g * 1=g * (e * z):=by rw [Nat.mul_one,← Nat.mul_assoc];exact hz
 have h3:=Nat.eq_of_mul_eq_mul_left (show 0 < g by omega) h2
 rw [← he]
 exact Nat.dvd_one.mp ⟨z,h3⟩
def aw4 (K:PySem.W.Frag):Sp:=fun vs H Q _ => ∃ a xs qs,vs=[.ref a]∧SqL K H a xs∧T2 K H xs qs∧∃ W:Nat,ClN W qs∧W≤6000∧1≤W∧qs.length≤100∧T9 qs qs.length ∧
 ∀ r rs l s ws H',d9 H H'→H l=none→H' r=some (.tup [.ref rs,.ref l])→SqT K H' rs (B5 s)→H' l=some (.lst (ws.map V.int))→BdN W s→s ≠ 0→(∀ v ∈ ws,Int.natAbs v < 2 ^ W)→ws.length=qs.length→qs=scl s ws→(ws ≠ []→t9 ws=1)→0 < s→Q (.ref r) H'
abbrev Q6:Stmt:=top 32
theorem ac9:j7 ["p","content","wholes","bottom"] ["p"] (d5 Q6):=by and_intros
set_option maxHeartbeats 0 in
theorem aM5 {f fc fk aN : Addr} (d : Df K mg "lifted" Q6 ["p"] f) (G_cleared : Def P w K mg base CX0 2 "cleared" fc ["numbers"] (aw5 K)) (G_content_of : Def P w K mg base CX0 2 "content_of" fk ["wholes"] (aj1 K)) (c_ONE : mg "ONE" = some (.ref aN)) (tN : ∀ H, SqT K H aN (B5 1)) : Def P w K mg base CX0 3 "lifted" f ["p"] (aw4 K) := by
  refine d.ok (N := ["p", "content", "wholes", "bottom"]) ac9 (by rintro vs H Q E ⟨a, b, c, h, _⟩; rw [h]; rfl) (fun cdv A outer s H vs Q E hr h => ?_)
  obtain ⟨a, xs, qs, rfl, hS, hN, m, hs, hm, hm1, hl, ht, k⟩ := h
  refine ⟨_, (d6 (Z2 (i3 G_cleared hr (b7 (pv 0) b9) j5) (show PG _ _ (ao0 K 2 (L9 (C1 2) (L9 (C1 3) ao1))) from by (refine Z3 (n := 2) ?_ ?_ ?_ ?_; rfl; (refine z8 ?_ ?_ ?_; (exact (m6 (i := 2) ac9.nd rfl (Or.inl rfl))); (refine z8 ?_ ?_ ?_; (exact (m6 (i := 3) ac9.nd rfl (Or.inl rfl))); (exact T4); rfl); rfl); rfl; rfl)))
      (d6 (C9 (af2 (ab3 (pv 2) (fun _ => rfl))) (d8 (j8 (w8 (b7 (C6 (v := .ref _) rfl c_ONE rfl) (b7 (C4 b9) b9))))) v8)
      (d6 (i4 (i := 1) ac9.nd rfl (Or.inr rfl) (i3 G_content_of hr (b7 (pv 2) b9) j5))
      (d8 (j8 (w8 (b7 (w8 (b7 (pv 1) (b7 (pv 3) b9))) (b7 (T5 (Nc := ["content", "whole"]) (caps := [some 1, none]) rfl (Z9.of (osc := d5 Q6) (N := ["p", "content", "wholes", "bottom"]) (ks := ["content"]) rfl rfl rfl rfl (G1 rfl L8) (by decide +kernel)) (E1 (pv 2)) (fun C s₂ H₂ fp pins => (m6 (i := 1) (show List.Nodup (["content", "whole"] : List Str) by decide +kernel) rfl (Or.inl rfl) (Or.inr rfl))) (fun C s₂ H₂ fp pins => (i6 M3 (pv 1) (pv 0)))) b9)))))))), ?_⟩
  rw [show start ["p", "content", "wholes", "bottom"] [.ref a] = [some (.ref a), none, none, none] from rfl]
  simp! [av6]
  refine ⟨a, xs, qs, rfl, hS, hN, ⟨m, hs, hm⟩, hl, fun r l H1 s1 hl1 er el => ?_⟩
  have hB := V1 qs
  have hB1 := hs.l
  have wl := hs.w
  refine ⟨r, rfl, _, SqT.of er, rfl, _, _, rfl, _, _, rfl, rfl, _, .inl ⟨_, SqL.of el, rfl⟩, D5 (fun h0 => ?_) (fun h0 => ?_)⟩
  · have hq : qs = [] := by
      cases qs with
      | nil => rfl
      | cons q r => simp [p7] at h0
    subst hq
    refine ⟨by decide, fun p hp => ⟨x9, fun p1 hp1 => ?_⟩⟩
    refine k p1 aN p 1 [] _ (s1.trans ((d9.new hp _).trans (d9.new hp1 _))) (s1.free hp) d7 (tN _) (by rw [j3 (bx9 hp1).symm]; exact d7) ⟨Nat.lt_of_lt_of_le (show _ < 2 ^ 1 by decide) (h8 (by omega)), Nat.lt_of_lt_of_le (show _ < 2 ^ 1 by decide) (h8 (by omega))⟩ (by decide) (by simp) (by simp) rfl (fun z => absurd rfl z) (by decide)
  · have hq : qs ≠ [] := fun z => h0 (by rw [z]; rfl)
    have lp : 0 < qs.length := List.length_pos_iff.mpr hq
    have hlast : qs.length - 1 < qs.length := by omega
    have hne : qs[qs.length - 1] ≠ 0 := ht.last (by omega) _ (List.getElem?_eq_getElem hlast)
    have hmem : qs[qs.length - 1] ∈ qs := List.getElem_mem hlast
    have hc : t9 (p7 (t4 qs) qs) ≠ 0 := by
      refine bn9 (List.mem_map.mpr ⟨_, hmem, rfl⟩) ?_
      obtain ⟨e, he⟩ := T6 hmem
      have h0 : (qs[qs.length - 1].den : Int) ≠ 0 := by have := qs[qs.length - 1].den_nz; omega
      have e1 : (t4 qs : Int).fdiv (qs[qs.length - 1].den : Int) = (e : Int) := by
        rw [he, Int.natCast_mul]; exact t7 h0
      rw [e1]
      refine Int.mul_ne_zero (fun z => hne (ar0.mp z)) ?_
      intro z
      have : e = 0 := by omega
      rw [this] at he; omega
    obtain ⟨f1, f2, f3⟩ := bn3 hc
    have cpos : (0 : Int) < (t9 (p7 (t4 qs) qs) : Nat) := by omega
    have cle : t9 (p7 (t4 qs) qs) < 2 ^ m := by
      have hm : qs[qs.length - 1].num * (t4 qs : Int).fdiv (qs[qs.length - 1].den : Int) ∈ p7 (t4 qs) qs := List.mem_map.mpr ⟨_, hmem, rfl⟩
      obtain ⟨e, he⟩ := L7 hm
      have w1 := wl _ hm
      rw [he, Int.natAbs_mul, Int.natAbs_natCast] at w1
      have e0 : e.natAbs ≠ 0 := fun z => by
        have hz : e = 0 := by omega
        rw [hz, Int.mul_zero] at he
        rcases Int.mul_eq_zero.mp he with q1 | q1
        · exact hne (ar0.mp q1)
        · obtain ⟨e', he'⟩ := T6 hmem
          have h0 : (qs[qs.length - 1].den : Int) ≠ 0 := by have := qs[qs.length - 1].den_nz; omega
          have e1 : (t4 qs : Int).fdiv (qs[qs.length - 1].den : Int) = (e' : Int) := by
            rw [he', Int.natCast_mul]; exact t7 h0
          rw [e1] at q1
          have : e' = 0 := by omega
          rw [this] at he'; omega
      exact Nat.lt_of_le_of_lt (Nat.le_mul_of_pos_right _ (by omega)) w1
    refine ⟨l, _, rfl, SqL.of el, fun v hv => Nat.lt_of_lt_of_le (wl v hv) (h8 hm), x9, fun p hp => ⟨l, rfl, ⟨_, SqL.of (d9.new hp _ _ _ el)⟩, fun D hD => ?_⟩⟩
    have sp := d9.new hp (.tup [.int (t9 (p7 (t4 qs) qs) : Nat), .int (t4 qs)])
    refine T7 ((p7 (t4 qs) qs).map V.int) (fun i σ H2 => ∃ o, σ = [some (.int (t9 (p7 (t4 qs) qs) : Nat)), o] ∧ d9 (upd H1 p (.tup [.int (t9 (p7 (t4 qs) qs) : Nat), .int (t4 qs)])) H2 ∧ H2 D = some (.lst ((((p7 (t4 qs) qs).take i).map fun v => v.fdiv (t9 (p7 (t4 qs) qs) : Nat)).map V.int)))
      ⟨_, rfl, d9.new hD _, d7⟩ (fun i σ H2 _ ⟨_, _, s2, _⟩ => SqL.of (s2 _ _ (sp _ _ el))) ?_ ?_
    · rintro i x σ H2 hx ⟨o, rfl, s2, e2⟩
      have hi := (List.getElem?_eq_some_iff.mp hx).1
      rw [List.getElem?_map] at hx
      cases hw : (p7 (t4 qs) qs)[i]? with
      | none => rw [hw] at hx; cases hx
      | some v =>
        rw [hw] at hx
        cases hx
        subst_eqs
        refine ⟨ae7 (by omega) (by rw [Int.natAbs_natCast]; exact ae5 cle (by omega)), N5.mk hi e2 ?_ ⟨_, rfl, s2.over hD _, ?_⟩⟩
        · simp only [List.length_map, List.length_take, p7]
          exact Nat.lt_of_le_of_lt (show _ ≤ 100 by omega) (by decide)
        · rw [d7, List.take_succ, hw]
          simp
    · rintro σ H2 ⟨o, rfl, s2, e2⟩
      rw [List.length_map, List.take_length] at e2
      refine ⟨x9, fun p1 hp1 => ?_⟩
      have S := (s1.trans sp).trans (s2.trans (d9.new hp1 (.tup [.ref p, .ref D])))
      have ep : SqT K (upd H2 p1 (.tup [.ref p, .ref D])) p (B5 (Rat.divInt (t9 (p7 (t4 qs) qs) : Nat) (t4 qs))) := by
        refine SqT.of ?_
        rw [j3 (i5 (s2 _ _ d7) hp1), s2 _ _ d7]
        unfold B5
        rw [f1, f2]
      refine k p1 p D _ ((p7 (t4 qs) qs).map fun v => v.fdiv (t9 (p7 (t4 qs) qs) : Nat)) _ S (s1.free (bd1 hD)) d7 ep (by rw [j3 (i5 e2 hp1)]; exact e2) ⟨?_, ?_⟩ ?_ ?_ ?_ f3 (fun _ => aW1 hc) ?_
      · rw [f1, Int.natAbs_natCast]; exact cle
      · have : (Rat.divInt (t9 (p7 (t4 qs) qs) : Nat) (t4 qs)).den = t4 qs := by omega
        rw [this]; exact hB1
      · intro z
        rw [z] at f1
        have : (0 : Rat).num = 0 := rfl
        omega
      · intro v hv
        obtain ⟨v', hv', rfl⟩ := List.mem_map.mp hv
        exact aN1 cpos (L7 hv') (wl v' hv')
      · simp only [List.length_map, p7]
      · exact ba8 (by rw [f1]; exact cpos)
end
section
variable {P:Program} {w:World} {K:PySem.W.Frag} {mg:Str→Option Value} {base:Heap}
def aA9 (K:PySem.W.Frag):Sp:=fun vs H Q _ => ∃ (a:Addr) (ws:List Int),vs=[.ref a]∧SqL K H a (ws.map V.int)∧ws.length≤100∧∀ m r,A8 ws m→H r=none→Q (.ref r) (upd H r (.lst ((ws.take m).map V.int)))
abbrev P4:Stmt:=top 29
theorem af1:j7 ["wholes","many"] ["wholes"] (d5 P4):=by and_intros
set_option maxHeartbeats 0 in
theorem aM2 {f : Addr} (d : Df K mg "trimmed" P4 ["wholes"] f) (n_len : mg "len" = none) : Def P w K mg base CX0 1 "trimmed" f ["wholes"] (aA9 K) := by
  refine d.ok (N := ["wholes", "many"]) af1 (by rintro vs H Q E ⟨_, _, h, _⟩; rw [h]; rfl) (fun cdv A outer s H vs Q E hr h => ?_)
  obtain ⟨a, ws, rfl, hS, hl, k⟩ := h
  refine ⟨_, (d6 (i4 (i := 1) af1.nd rfl (Or.inl rfl) (i9 q8 rfl n_len (by decide +kernel) (b7 (pv 0) b9)))
      (d6 (X5 PassesOwn.never (PW.pt (W5 (ab3 (pv 1) (fun _ => rfl)) (W0 (p5 aa1 (m8 y9 (pv 0) (i6 N0 (pv 1) d4) (fun _ _ => rfl)) d4 (n5 _))))) (d8 (aC2 (i := 1) af1.nd rfl (Or.inl rfl) d4 be8)))
      (d8 (j8 (bb8 bk7 (pv 0) bm3 (bm2 (pv 1))))))), ?_⟩
  rw [show start ["wholes", "many"] [.ref a] = [some (.ref a), none] from rfl]
  refine i7 (fun σ H1 => σ = [some (.ref a), some (.int ws.length)] ∧ H = H1) (fun N hN => ?_) ?_
  · subst_eqs
    refine ⟨_, .inl hS, hN _ _ ⟨?_, rfl⟩⟩
    rw [List.length_map]
  rintro σ H1 ⟨rfl, rfl⟩
  refine i7 (fun σ H1 => ∃ m : Nat, σ = [some (.ref a), some (.int m)] ∧ H = H1 ∧ A8 ws m) (fun N hN => ?_) ?_
  · refine ao9 (fun σ H1 => H = H1 ∧ ∃ m : Nat, σ = [some (.ref a), some (.int m)] ∧ m ≤ ws.length ∧ ∀ i v, m ≤ i → ws[i]? = some v → v = 0) (fun σ _ => match σ with | [_, some (.int y)] => y.toNat | _ => 0) ⟨rfl, ws.length, rfl, Nat.le_refl _, fun i v hi h => by rw [List.getElem?_eq_none hi] at h; cases h⟩ ?_
    rintro σ H1 ⟨rfl, m, rfl, hm, hz⟩
    simp! [av6]
    refine D5 (fun h0 => ?_) (fun h0 => ?_)
    · have h0' : m ≠ 0 := fun z => by subst z; simp at h0
      have hlt : m - 1 < ws.length := by omega
      have hg : ws[m - 1]? = some ws[m - 1] := List.getElem?_eq_getElem hlt
      have ei : ((m : Int) - 1) = ((m - 1 : Nat) : Int) := by omega
      rw [ei]
      refine ⟨_, hS, .int ws[m - 1], Z8 (by rw [List.getElem?_map, hg]; rfl), rfl, D5 (fun hn => ?_) (fun hn => ?_)⟩
      · have hn' : ws[m - 1] = 0 := by simpa using hn
        refine WhB.mk ?_
        subst_eqs
        refine WhN.mk ⟨rfl, m - 1, by rw [ei], by omega, fun i v hi e => ?_⟩ ?_
        · by_cases hi' : i = m - 1
          · subst hi'
            rw [hg] at e
            cases e
            exact hn'
          · exact hz i v (by omega) e
        · show ((m : Int) - 1).toNat < (m : Int).toNat
          omega
      · refine hN _ _ ⟨m, rfl, rfl, hm, hz, fun _ v e => ?_⟩
        rw [hg] at e
        cases e
        intro z
        exact hn (by rw [z])
    · have h0' : m = 0 := by
        by_cases z : m = 0
        · exact z
        · exact absurd (by simp [z]) h0
      exact hN _ _ ⟨m, rfl, rfl, hm, hz, fun h => absurd h0' h⟩
  rintro σ H1 ⟨m, rfl, rfl, t⟩
  subst_eqs
  refine ⟨_, hS, fun p hp => ?_⟩
  rw [bh7 _ (by rw [List.length_map]; exact t.le), ← List.map_take]
  exact k m p t hp
theorem aR9 {n k:Nat} (h:k < n):ixN n (k:Int)=some k:=by
 unfold ixN
 rw [if_pos (by omega),if_pos (by omega)]
 simp
theorem bk6:(3:Nat)≤sizeLine:=by decide
structure WDD (H:Hp) (one other:List Int) (n W1 W2 kst:Nat) (lq lr:Addr) (many:Int) (Qz Rz:List Int) (H3:Hp):Prop where
 same:d9 H H3
 fq:H lq=none
 fr:H lr=none
 nqr:lq ≠ lr
 eq:H3 lq=some (.lst (Qz.map V.int))
 er:H3 lr=some (.lst (Rz.map V.int))
 m1:1≤many
 mb:many.natAbs < 2 ^ (kst * W2 + 1)
 qb:∀ v ∈ Qz,Int.natAbs v < 2 ^ (W1 + kst * (W2 + 1))
 rb:∀ v ∈ Rz,Int.natAbs v < 2 ^ (W1 + kst * (W2 + 1))
 kl:kst + Rz.length≤one.length
 ks:kst=0 ∨ kst + n≤one.length
 k0:kst=0→Rz.length=one.length
 rt:A8 Rz Rz.length
 ql:Qz.length=one.length - n
 qz:∀ i,i + n < Rz.length→aZ Qz i=0
 qlast:kst ≠ 0→∀ v,Qz[Qz.length - 1]? = some v→v ≠ 0
 dv:Dv one other Qz Rz many
 ex:ExZ one other→many=1
theorem ba4 {K:PySem.W.Frag} {l D:Addr} {ws:List Int} {f:Int} {H1:Hp} {Q:VK} {m m2:Nat} (e:H1 l=some (.lst (ws.map V.int))) (hD:H1 D=none) (hl:ws.length≤100) (hf:f.natAbs < 2 ^ m2) (hw:∀ v ∈ ws,Int.natAbs v < 2 ^ m) (hm:m + m2≤20000)
  (k:∀ H2,d9 H1 H2→H2 D=some (.lst ((ws.map (f * ·)).map V.int))→Q (.ref D) H2):am4 (Itl K l) D [some (.int f),none] (upd H1 D (.lst [])) (C1 1) (tOp (rI IntMulOk fun i j=>V.int (i * j)) (Y7 0) (Y7 1)) Q:=by
 refine T7 (ws.map V.int) (fun i σ H3 => ∃ o,σ=[some (.int f),o]∧d9 H1 H3∧H3 D=some (.lst (((ws.take i).map (f * ·)).map V.int))) ⟨_,rfl,d9.new hD _,d7⟩ (fun i σ H3 _ ⟨_,_,s3,_⟩=>SqL.of (s3 _ _ e)) ?_ ?_
 ·rintro i y σ H3 hy ⟨o,rfl,s3,e3⟩
  have hi:=(List.getElem?_eq_some_iff.mp hy).1
  obtain ⟨v,hv,rfl⟩:=ac0 hy
  subst_eqs
  refine ⟨J2 hf (hw v (List.mem_of_getElem? hv)) (by omega),N5.mk hi e3 ?_ ⟨_,rfl,s3.over hD _,?_⟩⟩
  ·simp only [List.length_map,List.length_take]
   exact Nat.lt_of_le_of_lt (show _≤100 by omega) (by decide)
  ·rw [d7,List.take_succ,hv]
   simp
 ·rintro σ H3 ⟨o,rfl,s3,e3⟩
  rw [List.length_map,List.take_length] at e3
  exact k H3 s3 e3
def bd9 (k:Nat) (σ:L2.St) (H:Hp):Nat:=match σ[k]? with
 | some (some (.ref r))=>(match H r with
  | some (.lst xs)=>xs.length
  | _=>0)
 | _=>0
theorem aI8 {k:Nat} {σ:L2.St} {H:Hp} {r:Addr} {xs:List V} (h:σ[k]? = some (some (.ref r))) (e:H r=some (.lst xs)):bd9 k σ H=xs.length:=by
 unfold bd9;rw [h];simp only [e]
def aZ5 (K:PySem.W.Frag):Sp:=fun vs H Q _ => ∃ (a b:Addr) (one other:List Int) (n S W1 W2:Nat),vs=[.ref a,.ref b]∧SqL K H a (one.map V.int)∧SqL K H b (other.map V.int)∧one.length≤30∧other.length=n + 1∧n≤30∧aZ other n ≠ 0∧A8 one one.length∧one.length≤n + S∧(∀ v ∈ one,Int.natAbs v < 2 ^ W1)∧(∀ v ∈ other,Int.natAbs v < 2 ^ W2)∧W1 + S * (W2 + 1)≤5000∧W2≤5000 ∧
 ∀ r lq lr many Qz Rz H',d9 H H'→H lq=none→H lr=none→lq ≠ lr→H' r=some (.tup [.int many,.ref lq,.ref lr])→H' lq=some (.lst (Qz.map V.int))→H' lr=some (.lst (Rz.map V.int))→1≤many→many.natAbs < 2 ^ (S * W2 + 1)→(∀ v ∈ Qz,Int.natAbs v < 2 ^ (W1 + S * (W2 + 1)))→(∀ v ∈ Rz,Int.natAbs v < 2 ^ (W1 + S * (W2 + 1)))→Rz.length≤n→A8 Rz Rz.length→Qz.length=one.length - n→A8 Qz Qz.length→Dv one other Qz Rz many→(ExZ one other→many=1)→Q (.ref r) H'
abbrev x8:Stmt:=top 36
theorem m5:j7 ["one","other","lead","many","quotient","rest","part","place","factor","further","whole"] ["one","other"] (d5 x8):=by and_intros
set_option maxHeartbeats 0 in
theorem ah5 {f f1 : Addr} (d : Df K mg "whole_divided" x8 ["one", "other"] f) (G_trimmed : Def P w K mg base CX0 1 "trimmed" f1 ["wholes"] (aA9 K)) (n_len : mg "len" = none) (n_max : mg "max" = none) (n_list : mg "list" = none) (n_abs : mg "abs" = none) (n_enumerate : mg "enumerate" = none) : Def P w K mg base CX0 2 "whole_divided" f ["one", "other"] (aZ5 K) := by
  refine d.ok (N := ["one", "other", "lead", "many", "quotient", "rest", "part", "place", "factor", "further", "whole"]) m5 (by rintro vs H Q E ⟨_, _, _, _, _, _, _, _, h, _⟩; rw [h]; rfl) (fun cdv A outer s H vs Q E hr h => ?_)
  obtain ⟨a, b, one, other, n, S, W1, W2, rfl, hS, hS', hl1, hl2, hn, h0, ht1, hS1, hw1, hw2, hT, hT2, k⟩ := h
  refine ⟨_, (d6 (i4 (i := 2) m5.nd rfl (Or.inl rfl) (m8 y9 (pv 1) (Q7 J4 d4) (fun _ _ => rfl)))
      (d6 (i4 (i := 3) m5.nd rfl (Or.inl rfl) d4)
      (d6 (i4 (i := 4) m5.nd rfl (Or.inl rfl) (i6 bc4 (C4 (b7 d4 b9)) (i9 (az0 rfl) rfl n_max (by decide +kernel) (b7 d4 (b7 (i6 G8 (i6 N0 (i9 q8 rfl n_len (by decide +kernel) (b7 (pv 0) b9)) (i9 q8 rfl n_len (by decide +kernel) (b7 (pv 1) b9))) d4) b9)))))
      (d6 (i4 (i := 5) m5.nd rfl (Or.inl rfl) (N4 T8 rfl n_list (by decide +kernel) (b7 (pv 0) b9)))
      (d6 (X5 PassesOwn.never (p5 bc5 (i9 q8 rfl n_len (by decide +kernel) (b7 (pv 5) b9)) (i9 q8 rfl n_len (by decide +kernel) (b7 (pv 1) b9)) (n5 _)) (d6 (i4 (i := 6) m5.nd rfl (Or.inl rfl) (m8 y9 (pv 5) (Q7 J4 d4) (fun _ _ => rfl)))
      (d6 (i4 (i := 7) m5.nd rfl (Or.inl rfl) (i6 N0 (i9 q8 rfl n_len (by decide +kernel) (b7 (pv 5) b9)) (i9 q8 rfl n_len (by decide +kernel) (b7 (pv 1) b9))))
      (d6 (C9 (p5 aa1 (i6 O3 (pv 6) (pv 2)) d4 (n5 _)) (d8 (i4 (i := 6) m5.nd rfl (Or.inl rfl) (i6 M3 (pv 6) (pv 2)))) (d6 (i4 (i := 8) m5.nd rfl (Or.inr rfl) (i9 V3 rfl n_abs (by decide +kernel) (b7 (pv 2) b9)))
      (d6 (i4 (i := 6) m5.nd rfl (Or.inl rfl) (ab4 (p5 al4 (pv 2) d4 (n5 _)) (pv 6) (Q7 J4 (pv 6))))
      (d6 (aC2 (i := 3) m5.nd rfl (Or.inl rfl) (pv 8) be9)
      (d6 (aq0 (i₀ := 4) m5.nd rfl (Or.inl rfl) (Nc := ["factor", "whole"]) (caps := [some 8, none]) rfl (Z9.of (osc := d5 x8) (N := ["one", "other", "lead", "many", "quotient", "rest", "part", "place", "factor", "further", "whole"]) (ks := ["factor"]) rfl rfl rfl rfl (G1 rfl L8) (by decide +kernel)) (E1 (pv 4)) (fun C s₂ H₂ fp pins => (m6 (i := 1) (show List.Nodup (["factor", "whole"] : List Str) by decide +kernel) rfl (Or.inl rfl) (Or.inr rfl))) (fun C s₂ H₂ fp pins => (i6 v1 (pv 0) (pv 1))))
      (d8 (aq0 (i₀ := 5) m5.nd rfl (Or.inl rfl) (Nc := ["factor", "whole"]) (caps := [some 8, none]) rfl (Z9.of (osc := d5 x8) (N := ["one", "other", "lead", "many", "quotient", "rest", "part", "place", "factor", "further", "whole"]) (ks := ["factor"]) rfl rfl rfl rfl (G1 rfl L8) (by decide +kernel)) (E1 (pv 5)) (fun C s₂ H₂ fp pins => (m6 (i := 1) (show List.Nodup (["factor", "whole"] : List Str) by decide +kernel) rfl (Or.inl rfl) (Or.inr rfl))) (fun C s₂ H₂ fp pins => (i6 v1 (pv 0) (pv 1))))))))))
      (d6 (Z2 (pv 6) (aC5 (pv 4) (pv 7) aa7))
      (d6 (O0 PassesOwn.never rfl (aC4 rfl n_enumerate (b7 (pv 1) b9)) (show PG _ _ (ao0 K 2 (L9 (C1 9) (L9 (C1 10) ao1))) from by (refine Z3 (n := 2) ?_ ?_ ?_ ?_; rfl; (refine z8 ?_ ?_ ?_; (exact (m6 (i := 9) m5.nd rfl (Or.inl rfl))); (refine z8 ?_ ?_ ?_; (exact (m6 (i := 10) m5.nd rfl (Or.inl rfl))); (exact T4); rfl); rfl); rfl; rfl)) (d8 (bm0 (pv 5) (i6 G8 (pv 7) (pv 9)) bf7 (i6 v1 (pv 6) (pv 10)) be8 aa7)))
      (d8 (i4 (i := 5) m5.nd rfl (Or.inl rfl) (i3 G_trimmed hr (b7 (pv 5) b9) j5)))))))))
      (d8 (j8 (w8 (b7 (pv 3) (b7 (pv 4) (b7 (pv 5) b9))))))))))), ?_⟩
  rw [show start ["one", "other", "lead", "many", "quotient", "rest", "part", "place", "factor", "further", "whole"] [.ref a, .ref b] = [some (.ref a), some (.ref b), none, none, none, none, none, none, none, none, none] from rfl]
  obtain ⟨lead, hlead⟩ : ∃ z, z = aZ other n := ⟨_, rfl⟩
  have hg : other[n]? = some lead := by rw [hlead]; unfold aZ; rw [List.getElem?_eq_getElem (by omega)]; rfl
  have l0 : lead ≠ 0 := by rw [hlead]; exact h0
  have lb : lead.natAbs < 2 ^ W2 := hw2 _ (List.mem_of_getElem? hg)
  refine i7 (fun σ H1 => σ = [some (.ref a), some (.ref b), some (.int lead), none, none, none, none, none, none, none, none] ∧ H = H1) (fun N hN => ?_) ?_
  · subst_eqs
    refine ⟨_, hS', _, ar7 (x := .int lead) (by rw [List.length_map, hl2, List.getElem?_map, Nat.add_sub_cancel, hg]; rfl), hN _ _ ⟨rfl, rfl⟩⟩
  rintro σ H1 ⟨rfl, rfl⟩
  refine i7 (fun σ H1 => σ = [some (.ref a), some (.ref b), some (.int lead), some (.int 1), none, none, none, none, none, none, none] ∧ H = H1) (fun N hN => ?_) ?_
  · subst_eqs
    exact hN _ _ ⟨rfl, rfl⟩
  rintro σ H1 ⟨rfl, rfl⟩
  refine i7 (fun σ H1 => ∃ lq, σ = [some (.ref a), some (.ref b), some (.int lead), some (.int 1), some (.ref lq), none, none, none, none, none, none] ∧ d9 H H1 ∧ H lq = none ∧ H1 lq = some (.lst ((List.replicate (one.length - n) (0 : Int)).map V.int))) (fun N hN => ?_) ?_
  · subst_eqs
    refine ⟨by decide, fun p hp => ?_⟩
    have Sp := d9.new hp (.lst [.int 0])
    have ez : (if (((one.map V.int).length : Nat) : Int) - (((other.map V.int).length : Nat) : Int) + 1 > 0 then (((one.map V.int).length : Nat) : Int) - (((other.map V.int).length : Nat) : Int) + 1 else 0) = ((one.length - n : Nat) : Int) := by
      rw [List.length_map, List.length_map, hl2]
      split <;> omega
    refine ⟨_, .inl (Sp.seq hS), _, .inl (Sp.seq hS'), _, d7, ?_⟩
    rw [ez]
    refine ⟨by omega, by omega, ?_, fun p1 hp1 => hN _ _ ⟨p1, rfl, Sp.trans (d9.new hp1 _), Sp.free hp1, ?_⟩⟩
    · have : (([V.int 0] : List V).length * ((one.length - n : Nat) : Int).toNat) ≤ 100 := by simp; omega
      exact Nat.le_trans this (by decide)
    · rw [d7, Int.toNat_natCast, List.flatten_replicate_singleton, List.map_replicate]
  rintro σ H1 ⟨lq, rfl, s1, fq, eq⟩
  refine i7 (fun σ H2 => ∃ lr, σ = [some (.ref a), some (.ref b), some (.int lead), some (.int 1), some (.ref lq), some (.ref lr), none, none, none, none, none] ∧ d9 H1 H2 ∧ H1 lr = none ∧ H2 lr = some (.lst (one.map V.int))) (fun N hN => ?_) ?_
  · subst_eqs
    refine ⟨_, .inl (s1.seq hS), fun l hl => hN _ _ ⟨l, rfl, d9.new hl _, hl, d7⟩⟩
  rintro σ H2 ⟨lr, rfl, s2, fr, er⟩
  refine i7 (fun σ H3 => ∃ lq lr many Qz Rz o6 o7 o8 o9 o10, σ = [some (.ref a), some (.ref b), some (.int lead), some (.int many), some (.ref lq), some (.ref lr), o6, o7, o8, o9, o10] ∧ d9 H H3 ∧ H lq = none ∧ H lr = none ∧ lq ≠ lr ∧ H3 lq = some (.lst (Qz.map V.int)) ∧ H3 lr = some (.lst (Rz.map V.int)) ∧ 1 ≤ many ∧ many.natAbs < 2 ^ (S * W2 + 1) ∧ (∀ v ∈ Qz, Int.natAbs v < 2 ^ (W1 + S * (W2 + 1))) ∧ (∀ v ∈ Rz, Int.natAbs v < 2 ^ (W1 + S * (W2 + 1))) ∧ Rz.length ≤ n ∧ A8 Rz Rz.length ∧ Qz.length = one.length - n ∧ A8 Qz Qz.length ∧ Dv one other Qz Rz many ∧ (ExZ one other → many = 1)) (fun N hN => ?_) ?_
  · have w2p : 1 ≤ W2 := by
      rcases Nat.eq_zero_or_pos W2 with z | z
      · rw [z] at lb; omega
      · exact z
    refine ao9 (fun σ H3 => ∃ kst lq lr many Qz Rz o6 o7 o8 o9 o10, σ = [some (.ref a), some (.ref b), some (.int lead), some (.int many), some (.ref lq), some (.ref lr), o6, o7, o8, o9, o10] ∧ WDD H one other n W1 W2 kst lq lr many Qz Rz H3) (bd9 5) ⟨0, lq, lr, 1, _, one, _, _, _, _, _, rfl, ⟨s1.trans s2, fq, s1.free fr, i5 eq fr, s2 _ _ eq, er, by decide, by simp, fun v hv => ?_, fun v hv => ?_, by omega, .inl rfl, fun _ => rfl, ht1, by rw [List.length_replicate], fun i _ => ?_, fun z => absurd rfl z, fun k => ?_, fun _ => rfl⟩⟩ ?_
    · rw [(List.mem_replicate.mp hv).2]; exact Nat.two_pow_pos _
    · have := hw1 v hv
      simpa using this
    · unfold aZ
      rw [List.getElem?_replicate]
      split <;> rfl
    · have : cv (zc (List.replicate (one.length - n) (0 : Int))) (zc other) k = 0 := z5 _ fun i _ => by
        have : zc (List.replicate (one.length - n) (0 : Int)) i = 0 := by
          unfold zc aZ
          rw [List.getElem?_replicate]
          split <;> rfl
        rw [this]; grind
      rw [this]
      show (1 : Rat) * _ = _
      grind
    clear eq er fq fr s1 s2 lq lr
    rintro σ H3 ⟨kst, lq, lr, many, Qz, Rz, o6, o7, o8, o9, o10, rfl, D⟩
    have hSb := D.same.seq hS'
    simp only [aP3, tOp, tCB, ap4, aU0, Y7, rI0]
    refine ⟨_, rfl, lr, _, rfl, .inl (SqL.of D.er), _, rfl, b, _, rfl, .inl hSb, _, _, rfl, rfl, _, rfl, ?_⟩
    rw [List.length_map, List.length_map, hl2]
    refine D5 (fun hge => WhB.mk ?_) (fun hlt => ?_)
    · have hge' : n + 1 ≤ Rz.length := by
        have : ((n + 1 : Nat) : Int) ≤ (Rz.length : Int) := by simpa using hge
        omega
      obtain ⟨t, ht⟩ : ∃ t, Rz.length = n + 1 + t := ⟨Rz.length - (n + 1), by omega⟩
      have htq : t < Qz.length := by rw [D.ql]; have := D.kl; omega
      obtain ⟨y, hy⟩ : ∃ y, Rz[Rz.length - 1]? = some y := ⟨_, List.getElem?_eq_getElem (by omega)⟩
      have y0 : y ≠ 0 := D.rt.last (by omega) y hy
      have yb := D.rb y (List.mem_of_getElem? hy)
      refine i7 (fun σ H4 => σ = [some (.ref a), some (.ref b), some (.int lead), some (.int many), some (.ref lq), some (.ref lr), some (.int y), o7, o8, o9, o10] ∧ H3 = H4) (fun N hN => ?_) ?_
      · subst_eqs
        exact ⟨_, SqL.of D.er, _, ar7 (x := .int y) (by rw [List.length_map, List.getElem?_map, hy]; rfl), hN _ _ ⟨rfl, rfl⟩⟩
      rintro σ H4 ⟨rfl, rfl⟩
      refine i7 (fun σ H4 => σ = [some (.ref a), some (.ref b), some (.int lead), some (.int many), some (.ref lq), some (.ref lr), some (.int y), some (.int (t : Int)), o8, o9, o10] ∧ H3 = H4) (fun N hN => ?_) ?_
      · subst_eqs
        refine ⟨_, .inl (SqL.of D.er), _, .inl hSb, hN _ _ ⟨?_, rfl⟩⟩
        rw [List.length_map, List.length_map, hl2, ht, show (((n + 1 + t : Nat) : Int) - ((n + 1 : Nat) : Int)) = (t : Int) by omega]
      rintro σ H4 ⟨rfl, rfl⟩
      refine i7 (fun σ H4 => ∃ lq1 lr1 c d o8, σ = [some (.ref a), some (.ref b), some (.int lead), some (.int (many * c)), some (.ref lq1), some (.ref lr1), some (.int d), some (.int (t : Int)), o8, o9, o10] ∧ d9 H3 H4 ∧ H lq1 = none ∧ H lr1 = none ∧ lq1 ≠ lr1 ∧ H4 lq1 = some (.lst ((Qz.map (c * ·)).map V.int)) ∧ H4 lr1 = some (.lst ((Rz.map (c * ·)).map V.int)) ∧ c * y = d * lead ∧ 1 ≤ c ∧ c.natAbs < 2 ^ W2 ∧ d.natAbs ≤ y.natAbs ∧ d ≠ 0 ∧ (lead ∣ y → c = 1)) (fun N hN => ?_) ?_
      · subst_eqs
        have hks : kst ≤ S := by rcases D.ks with z | z <;> omega
        have hkm := Nat.mul_le_mul_right (W2 + 1) hks
        have hkm2 : kst * W2 ≤ kst * (W2 + 1) := Nat.mul_le_mul_left _ (by omega)
        have one2 : (1 : Nat) < 2 ^ W2 := Nat.lt_of_lt_of_le (show 1 < 2 ^ 1 by decide) (h8 w2p)
        refine ⟨l0, rfl, D5 (fun hd => ?_) (fun hd => ?_)⟩
        · refine ⟨ae7 l0 (ae5 lb (by omega)), hN _ _ ⟨lq, lr, 1, y.fdiv lead, o8, by rw [Int.mul_one], d9.refl _, D.fq, D.fr, D.nqr, ?_, ?_, ?_, by decide, one2, ?_, ?_, fun _ => rfl⟩⟩
          · have : Qz.map ((1 : Int) * ·) = Qz := by conv => rhs; rw [← List.map_id Qz]
                                                     exact List.map_congr_left fun v _ => Int.one_mul v
            rw [this]; exact D.eq
          · have : Rz.map ((1 : Int) * ·) = Rz := by conv => rhs; rw [← List.map_id Rz]
                                                     exact List.map_congr_left fun v _ => Int.one_mul v
            rw [this]; exact D.er
          · have := Int.fmod_add_mul_fdiv y lead
            rw [hd] at this
            rw [Int.one_mul, Int.mul_comm]; omega
          · have := Int.fmod_add_mul_fdiv y lead
            rw [hd, Int.zero_add] at this
            conv => rhs; rw [← this]
            rw [Int.natAbs_mul]
            exact Nat.le_mul_of_pos_left _ (by omega)
          · intro z
            have := Int.fmod_add_mul_fdiv y lead
            rw [hd, z] at this
            simp at this
            exact y0 this.symm
        · have hnd : ¬ lead ∣ y := fun z => hd (by simpa using Int.fmod_eq_zero_of_dvd z)
          have fin : ∀ d : Int, (if lead < 0 then -lead else lead) * y = d * lead → d.natAbs = y.natAbs → IntMulOk many (if lead < 0 then -lead else lead) ∧ (∃ xs, SqL K H3 lq xs) ∧ ∀ (D : Addr), H3 D = none → am4 (Itl K lq) D [some (V.int (if lead < 0 then -lead else lead)), none] (upd H3 D (HO.lst [])) (C1 1) (tOp (rI IntMulOk fun i j => V.int (i * j)) (Y7 0) (Y7 1)) fun x H1 => (∃ xs, SqL K H1 lr xs) ∧ ∀ (D : Addr), H1 D = none → am4 (Itl K lr) D [some (V.int (if lead < 0 then -lead else lead)), none] (upd H1 D (HO.lst [])) (C1 1) (tOp (rI IntMulOk fun i j => V.int (i * j)) (Y7 0) (Y7 1)) fun x_1 H1 => N [some (V.ref a), some (V.ref b), some (V.int lead), some (V.int (many * if lead < 0 then -lead else lead)), some x, some x_1, some (V.int d), some (V.int ↑t), some (V.int (if lead < 0 then -lead else lead)), o9, o10] H1 := fun d hd1 hd2 => by
            have ab : ((if lead < 0 then -lead else lead) : Int).natAbs = lead.natAbs := by split <;> omega
            have ab1 : (1 : Int) ≤ (if lead < 0 then -lead else lead) := by split <;> omega
            generalize (if lead < 0 then -lead else lead) = c at ab ab1 hd1 ⊢
            have cb : c.natAbs < 2 ^ W2 := by omega
            have hml := D.kl
            refine ⟨J2 D.mb cb (by omega), ⟨_, SqL.of D.eq⟩, fun D1 hD1 => ba4 D.eq hD1 (by rw [D.ql]; omega) cb D.qb (by omega) fun H4 s4 e4 => ?_⟩
            refine ⟨⟨_, SqL.of (s4 _ _ D.er)⟩, fun D2 hD2 => ba4 (s4 _ _ D.er) hD2 (by omega) cb D.rb (by omega) fun H5 s5 e5 => ?_⟩
            exact hN _ _ ⟨D1, D2, c, d, _, rfl, s4.trans s5, D.same.free hD1, D.same.free (s4.free hD2), i5 e4 hD2, s5 _ _ e4, e5, hd1, ab1, cb, by omega, fun z => y0 (by omega), fun z => absurd z hnd⟩
          refine D5 (fun hp => fin y ?_ rfl) (fun hp => fin (-y) ?_ (by omega))
          · rw [if_neg (by omega)]; exact Int.mul_comm _ _
          · rw [if_pos (by omega), Int.neg_mul, Int.neg_mul, Int.mul_comm]
      rintro σ H4 ⟨lq1, lr1, c, d, o8, rfl, s4, fq1, fr1, nqr1, eq1, er1, hcd, c1, cb, db, d0, cl1⟩
      refine i7 (fun σ H5 => σ = [some (.ref a), some (.ref b), some (.int lead), some (.int (many * c)), some (.ref lq1), some (.ref lr1), some (.int d), some (.int (t : Int)), o8, o9, o10] ∧ d9 H H5 ∧ H5 lq1 = some (.lst (((Qz.map (c * ·)).set t d).map V.int)) ∧ H5 lr1 = some (.lst ((Rz.map (c * ·)).map V.int))) (fun N hN => ?_) ?_
      · subst_eqs
        refine ⟨_, eq1, t, aR9 (by rw [List.length_map, List.length_map]; exact htq), hN _ _ ⟨rfl, (D.same.trans s4).over fq1 _, ?_, ?_⟩⟩
        · rw [d7, List.map_set]
        · rw [j3 nqr1.symm]; exact er1
      rintro σ H5 ⟨rfl, s5, eq5, er5⟩
      refine i7 (fun σ H6 => ∃ o9 o10, σ = [some (.ref a), some (.ref b), some (.int lead), some (.int (many * c)), some (.ref lq1), some (.ref lr1), some (.int d), some (.int (t : Int)), o8, o9, o10] ∧ d9 H H6 ∧ H6 lq1 = some (.lst (((Qz.map (c * ·)).set t d).map V.int)) ∧ H6 lr1 = some (.lst ((C5 0 (Rz.map (c * ·)) t (-d) other other.length).map V.int))) (fun N hN => ?_) ?_
      · refine ⟨_, rfl, b, rfl, ⟨_, s5.seq hS'⟩, as0 (other.map V.int) (fun j σ H6 => ∃ o9 o10, σ = [some (.ref a), some (.ref b), some (.int lead), some (.int (many * c)), some (.ref lq1), some (.ref lr1), some (.int d), some (.int (t : Int)), o8, o9, o10] ∧ d9 H H6 ∧ H6 lq1 = some (.lst (((Qz.map (c * ·)).set t d).map V.int)) ∧ H6 lr1 = some (.lst ((C5 0 (Rz.map (c * ·)) t (-d) other j).map V.int))) ⟨_, _, rfl, s5, eq5, er5⟩ (by rintro j σ H6 ⟨_, _, _, s6, _⟩; exact s6.seq hS') ?_ (by rintro σ H6 ⟨o9, o10, rfl, s6, eq6, er6⟩; rw [List.length_map] at er6; exact hN _ _ ⟨o9, o10, rfl, s6, eq6, er6⟩)⟩
        rintro j x σ H6 p hx ⟨o9, o10, rfl, s6, eq6, er6⟩ hp
        obtain ⟨v, hv, rfl⟩ := ac0 hx
        have hj := (List.getElem?_eq_some_iff.mp hv).1
        have Sp := d9.new hp (.tup [.int j, .int v])
        have er7 := Sp _ _ er6
        have il : (C5 0 (Rz.map (c * ·)) t (-d) other j).length = Rz.length := by rw [X8, List.length_map]
        have hk : t + j < (C5 0 (Rz.map (c * ·)) t (-d) other j).length := by omega
        have hgk := List.getElem?_eq_getElem hk
        generalize hz : (C5 0 (Rz.map (c * ·)) t (-d) other j)[t + j] = z at hgk
        have ej : (t : Int) + (j : Int) = ((t + j : Nat) : Int) := by omega
        have dbw : d.natAbs < 2 ^ (W1 + kst * (W2 + 1)) := by omega
        have hks : kst ≤ S := by rcases D.ks with z | z <;> omega
        have hkm := Nat.mul_le_mul_right (W2 + 1) hks
        subst_eqs
        refine ⟨_, SqT.of d7, rfl, _, _, rfl, _, _, rfl, rfl, _, rfl, _, SqL.of er7, .int z, by rw [ej]; exact Z8 (by rw [List.getElem?_map, hgk]; rfl), v, rfl, J2 dbw (hw2 v (List.mem_of_getElem? hv)) (by omega), z, rfl, _, er7, t + j, by rw [ej]; exact aR9 (by rw [List.length_map]; exact hk), (s6.trans Sp).over fr1 _, ?_, ?_⟩
        · rw [j3 nqr1]; exact Sp _ _ eq6
        · rw [d7, C5, hv, Option.getD_some, ← ak7 _ _ _ _ hgk, List.map_set, Int.neg_mul]
          rfl
      rintro σ H6 ⟨o9, o10, rfl, s6, eq6, er6⟩
      subst_eqs
      obtain ⟨R2, hR2⟩ : ∃ R2, R2 = C5 0 (Rz.map (c * ·)) t (-d) other other.length := ⟨_, rfl⟩
      rw [← hR2] at er6
      have l2 : R2.length = Rz.length := by rw [hR2, X8, List.length_map]
      have hRk : ∀ k, aZ R2 k = c * aZ Rz k - if t ≤ k then d * aZ other (k - t) else 0 := fun k => by
        by_cases hk : k < Rz.length
        · have hy1 : (Rz.map (c * ·))[k]? = some (c * aZ Rz k) := by
            rw [List.getElem?_map]; unfold aZ
            rw [List.getElem?_eq_getElem hk]; rfl
          have := ar9 (Rz.map (c * ·)) t (-d) other _ hy1 other.length
          rw [← hR2] at this
          conv => lhs; unfold aZ
          rw [this, Option.getD_some]
          by_cases h1 : t ≤ k
          · rw [if_pos ⟨h1, by omega⟩, if_pos h1, Int.neg_mul]; rfl
          · rw [if_neg (fun z => h1 z.1), if_neg h1]; omega
        · have e1 : aZ R2 k = 0 := by unfold aZ; rw [List.getElem?_eq_none (by omega)]; rfl
          have e2 : aZ Rz k = 0 := by unfold aZ; rw [List.getElem?_eq_none (by omega)]; rfl
          have e3 : aZ other (k - t) = 0 := by unfold aZ; rw [List.getElem?_eq_none (by omega)]; rfl
          rw [e1, e2, e3]; simp
      have last0 : aZ R2 (Rz.length - 1) = 0 := by
        rw [hRk, if_pos (by omega), show Rz.length - 1 - t = n by omega, ← hlead]
        have : aZ Rz (Rz.length - 1) = y := by unfold aZ; rw [hy]; rfl
        rw [this, hcd]; omega
      have hkl := D.kl
      refine ⟨lr1, R2, rfl, SqL.of er6, by omega, fun m r tm hr' => ?_⟩
      have hmlt : m < Rz.length := by
        rcases Nat.lt_or_ge m Rz.length with z | z
        · exact z
        · have hm := tm.le
          have hm' : m = Rz.length := by omega
          have hg2 : R2[m - 1]? = some R2[m - 1] := List.getElem?_eq_getElem (by omega)
          refine absurd ?_ (tm.last (by omega) _ hg2)
          unfold aZ at last0
          rw [← hm', hg2] at last0
          exact last0
      have bits : ∀ v ∈ R2, Int.natAbs v < 2 ^ (W1 + (kst + 1) * (W2 + 1)) := fun v hv => by
        obtain ⟨k, hk⟩ := List.mem_iff_getElem?.mp hv
        have ev : v = aZ R2 k := by unfold aZ; rw [hk]; rfl
        rw [ev, hRk]
        have b1 : (c * aZ Rz k).natAbs < 2 ^ (W1 + kst * (W2 + 1) + W2) := by
          rw [Int.natAbs_mul, Nat.mul_comm, Nat.pow_add]
          exact Nat.mul_lt_mul'' (am3 D.rb k) cb
        have b2 : (if t ≤ k then d * aZ other (k - t) else 0).natAbs < 2 ^ (W1 + kst * (W2 + 1) + W2) := by
          split
          · rw [Int.natAbs_mul, Nat.pow_add]
            exact Nat.mul_lt_mul'' (by omega) (am3 hw2 _)
          · exact Nat.two_pow_pos _
        have e : W1 + (kst + 1) * (W2 + 1) = W1 + kst * (W2 + 1) + W2 + 1 := by rw [Nat.succ_mul]; omega
        rw [e, Nat.pow_succ]
        omega
      have Sr := d9.new hr' (.lst ((R2.take m).map V.int))
      have tml : (R2.take m).length = m := by rw [List.length_take]; have := tm.le; omega
      have bq : ∀ v ∈ (Qz.map (c * ·)).set t d, Int.natAbs v < 2 ^ (W1 + (kst + 1) * (W2 + 1)) := fun v hv => by
        have e : W1 + (kst + 1) * (W2 + 1) = W1 + kst * (W2 + 1) + (W2 + 1) := by rw [Nat.succ_mul]; omega
        rcases List.mem_or_eq_of_mem_set hv with h | h
        · obtain ⟨u, hu, rfl⟩ := List.mem_map.mp h
          rw [Int.natAbs_mul, Nat.mul_comm, e, Nat.pow_add]
          exact Nat.mul_lt_mul'' (D.qb u hu) (ae5 cb (by omega))
        · rw [h]
          exact Nat.lt_of_le_of_lt db (ae5 yb (by omega))
      refine WhN.mk ⟨kst + 1, lq1, r, many * c, _, R2.take m, _, _, _, _, _, rfl, ⟨s6.trans Sr, fq1, s6.free hr', i5 eq6 hr', Sr _ _ eq6, d7, ?_, ?_, bq, fun v hv => bits v (List.mem_of_mem_take hv), by omega, .inr (by omega), fun z => absurd z (by omega), tm.self, by rw [List.length_set, List.length_map]; exact D.ql, fun i hi => ?_, fun _ v hv => ?_, ?_, fun hx => ?_⟩⟩ ?_
      · exact Int.le_trans (show (1 : Int) ≤ 1 * 1 by decide) (Int.mul_le_mul D.m1 c1 (by decide) (by have := D.m1; omega))
      · rw [Int.natAbs_mul, show (kst + 1) * W2 + 1 = (kst * W2 + 1) + W2 by rw [Nat.succ_mul]; omega, Nat.pow_add]
        exact Nat.mul_lt_mul'' D.mb cb
      · rw [tml] at hi
        unfold aZ
        rw [List.getElem?_set, if_neg (by omega), List.getElem?_map]
        have := D.qz i (by omega)
        unfold aZ at this
        cases g : Qz[i]? with
        | none => rfl
        | some u =>
          rw [g] at this
          simp only [Option.getD_some] at this
          simp [this]
      · rw [List.length_set, List.length_map, List.getElem?_set] at hv
        by_cases z : t = Qz.length - 1
        · rw [if_pos z, if_pos (by rw [List.length_map]; omega)] at hv
          cases hv; exact d0
        · rw [if_neg z, List.getElem?_map] at hv
          have hk0 : kst ≠ 0 := fun w => by
            have := D.k0 w
            have := D.ql
            omega
          cases g : Qz[Qz.length - 1]? with
          | none => rw [g] at hv; cases hv
          | some u =>
            rw [g] at hv
            cases hv
            exact Int.mul_ne_zero (by omega) (D.qlast hk0 u g)
      · refine bo8 D.dv htq (D.qz t (by omega)) fun k => ?_
        rw [aT4 tm]; exact hRk k
      · have mm := D.ex hx
        have dv1 := D.dv
        rw [mm] at dv1
        have ey : y = aZ Rz (t + n) := by
          unfold aZ
          rw [show t + n = Rz.length - 1 by omega, hy]; rfl
        have cc := cl1 (by rw [hlead, ey]; exact be1 hx dv1 hl2 h0 ht)
        rw [mm, cc]; rfl
      · rw [aI8 (r := r) rfl d7, aI8 (r := lr) rfl D.er, List.length_map, List.length_map, tml]
        exact hmlt
    · have hlt' : Rz.length ≤ n := by
        have : ¬ ((n + 1 : Nat) : Int) ≤ (Rz.length : Int) := by simpa using hlt
        omega
      have hkS : kst ≤ S := by rcases D.ks with z | z <;> omega
      refine hN _ _ ⟨lq, lr, many, Qz, Rz, o6, o7, o8, o9, o10, rfl, D.same, D.fq, D.fr, D.nqr, D.eq, D.er, D.m1, Nat.lt_of_lt_of_le D.mb (h8 (by have := Nat.mul_le_mul_right W2 hkS; omega)), fun v hv => Nat.lt_of_lt_of_le (D.qb v hv) (h8 (by have := Nat.mul_le_mul_right (W2 + 1) hkS; omega)), fun v hv => Nat.lt_of_lt_of_le (D.rb v hv) (h8 (by have := Nat.mul_le_mul_right (W2 + 1) hkS; omega)), hlt', D.rt, D.ql, ?_, D.dv, D.ex⟩
      refine ⟨Nat.le_refl _, (fun i v hi h => by rw [List.getElem?_eq_none hi] at h; cases h), fun hq v hv => ?_⟩
      by_cases z : kst = 0
      · have := D.k0 z
        rw [D.ql] at hq; omega
      · exact D.qlast z v hv
  rintro σ H3 ⟨lq, lr, many, Qz, Rz, o6, o7, o8, o9, o10, rfl, s3, fq, fr, nqr, eq, er, m1, mb, qb, rb, rl, rt, ql, qt, dv, ex⟩
  subst_eqs
  refine ⟨bk6, fun p hp => ?_⟩
  have Sp := d9.new hp (.tup [.int many, .ref lq, .ref lr])
  exact k p lq lr many Qz Rz _ (s3.trans Sp) fq fr nqr d7 (Sp _ _ eq) (Sp _ _ er) m1 mb qb rb rl rt ql qt dv ex
end
section
variable {P:Program} {w:World} {K:PySem.W.Frag} {mg:Str→Option Value} {base:Heap}
def aw3 (K:PySem.W.Frag):Sp:=fun vs H Q _ => ∃ (c:Int) (a:Addr) (ws:List Int) (m m2:Nat),vs=[.int c,.ref a]∧SqL K H a (ws.map V.int)∧ws.length≤40∧c.natAbs < 2 ^ m2∧(∀ v ∈ ws,Int.natAbs v < 2 ^ m)∧m + m2≤20000 ∧
 ∀ r zs H',d9 H H'→H r=none→H' r=some (.lst (zs.map V.int))→A8 zs zs.length→zs.length≤ws.length→(∀ k,aZ zs k=c * aZ ws k)→Q (.ref r) H'
abbrev B6:Stmt:=top 33
theorem am5:j7 ["factor","wholes"] ["factor","wholes"] (d5 B6):=by and_intros
set_option maxHeartbeats 0 in
theorem am6 {f f1:Addr} (d:Df K mg "whole_scaled" B6 ["factor","wholes"] f) (G_trimmed:Def P w K mg base CX0 1 "trimmed" f1 ["wholes"] (aA9 K)):Def P w K mg base CX0 2 "whole_scaled" f ["factor","wholes"] (aw3 K):=by
 refine d.ok (N:=["factor","wholes"]) am5 (by rintro vs H Q E ⟨_,_,_,_,_,h,_⟩;rw [h];rfl) (fun cdv A outer s H vs Q E hr h=>?_)
 obtain ⟨c,a,ws,m,m2,rfl,hS,hl,hc,hw,hm,k⟩:=h
 refine ⟨_,(d8 (j8 (i3 G_trimmed hr (b7 (T5 (Nc:=["factor","whole"]) (caps:=[some 0,none]) rfl (Z9.of (osc:=d5 B6) (N:=["factor","wholes"]) (ks:=["factor"]) rfl rfl rfl rfl (G1 rfl L8) (by decide +kernel)) (E1 (pv 1)) (fun C s₂ H₂ fp pins=>(m6 (i:=1) (show List.Nodup (["factor","whole"]:List Str) by decide +kernel) rfl (Or.inl rfl) (Or.inr rfl))) (fun C s₂ H₂ fp pins=>(i6 v1 (pv 0) (pv 1)))) b9) j5))),?_⟩
 rw [show start ["factor","wholes"] [.int c,.ref a]=[some (.int c),some (.ref a)] from rfl]
 subst_eqs
 refine ⟨⟨_,hS⟩,fun D hD=>?_⟩
 refine T7 (ws.map V.int) (fun i σ H3 => ∃ o,σ=[some (.int c),o]∧d9 H H3∧H3 D=some (.lst (((ws.take i).map (c * ·)).map V.int))) ⟨_,rfl,d9.new hD _,d7⟩ (fun i σ H3 _ ⟨_,_,s3,_⟩=>s3.seq hS) ?_ ?_
 ·rintro i y σ H3 hy ⟨o,rfl,s3,e3⟩
  have hi:=(List.getElem?_eq_some_iff.mp hy).1
  obtain ⟨v,hv,rfl⟩:=ac0 hy
  subst_eqs
  refine ⟨J2 hc (hw v (List.mem_of_getElem? hv)) (by omega),N5.mk hi e3 ?_ ⟨_,rfl,s3.over hD _,?_⟩⟩
  ·simp only [List.length_map,List.length_take]
   exact Nat.lt_of_le_of_lt (show _≤100 by omega) (by decide)
  ·rw [d7,List.take_succ,hv]
   simp
 ·rintro σ H3 ⟨o,rfl,s3,e3⟩
  rw [List.length_map,List.take_length] at e3
  refine ⟨D,ws.map (c * ·),rfl,SqL.of e3,by rw [List.length_map];omega,fun n r tn hr'=>?_⟩
  refine k r ((ws.map (c * ·)).take n) _ (s3.trans (d9.new hr' _)) (s3.free hr') d7 tn.self (by rw [List.length_take,List.length_map];omega) fun k=>?_
  rw [aT4 tn]
  unfold aZ
  rw [List.getElem?_map]
  cases ws[k]? with
  | none=>simp
  | some v=>simp
end
section
variable {P:Program} {w:World} {K:PySem.W.Frag} {mg:Str→Option Value} {base:Heap}
theorem bF8 {K:PySem.W.Frag} {l D:Addr} {ws:List Int} {g:Int} {H1:Hp} {Q:VK} (e:H1 l=some (.lst (ws.map V.int))) (hD:H1 D=none) (hl:ws.length≤100) (hg:g ≠ 0) (hb:g.natAbs < 2 ^ 6000)
  (k:∀ H2,d9 H1 H2→H2 D=some (.lst ((ws.map fun v=>v.fdiv g).map V.int))→Q (.ref D) H2):am4 (Itl K l) D [some (.int g),none] (upd H1 D (.lst [])) (C1 1) (tOp (rI az8 fun i j=>V.int (i.fdiv j)) (Y7 1) (Y7 0)) Q:=by
 refine T7 (ws.map V.int) (fun i σ H3 => ∃ o,σ=[some (.int g),o]∧d9 H1 H3∧H3 D=some (.lst (((ws.take i).map fun v=>v.fdiv g).map V.int))) ⟨_,rfl,d9.new hD _,d7⟩ (fun i σ H3 _ ⟨_,_,s3,_⟩=>SqL.of (s3 _ _ e)) ?_ ?_
 ·rintro i y σ H3 hy ⟨o,rfl,s3,e3⟩
  have hi:=(List.getElem?_eq_some_iff.mp hy).1
  obtain ⟨v,hv,rfl⟩:=ac0 hy
  subst_eqs
  refine ⟨ae7 hg (ae5 hb (by decide)),N5.mk hi e3 ?_ ⟨_,rfl,s3.over hD _,?_⟩⟩
  ·simp only [List.length_map,List.length_take]
   exact Nat.lt_of_le_of_lt (show _≤100 by omega) (by decide)
  ·rw [d7,List.take_succ,hv]
   simp
 ·rintro σ H3 ⟨o,rfl,s3,e3⟩
  rw [List.length_map,List.take_length] at e3
  exact k H3 s3 e3
end
section
variable {P:Program} {w:World} {K:PySem.W.Frag} {mg:Str→Option Value} {base:Heap}
abbrev E4:Stmt:=top 37
theorem at9:j7 ["one","other"] ["one","other"] (d5 E4):=by and_intros
end
def WgN (J:Nat→L2.St→Hp→Prop) (m:Nat):L2.St→Hp→Prop:=fun σ' H' => ∃ m',m' < m∧J m' σ' H'
def WhG (tb:TS) (D:aa5) (J:Nat→L2.St→Hp→Prop) (m:Nat) (σ:L2.St) (H1:Hp):Prop :=
 ∃ N:L2.St→Hp→Prop,(∀ σ' H',N σ' H'→∃ m',m' < m∧J m' σ' H')∧tb { D with nx:=N,ct:=N,bk:=D.nx } σ H1
theorem WhG.mk {tb:TS} {D:aa5} {J:Nat→L2.St→Hp→Prop} {m:Nat} {σ:L2.St} {H1:Hp} (h:tb { D with nx:=WgN J m,ct:=WgN J m,bk:=D.nx } σ H1):WhG tb D J m σ H1:=⟨_,fun _ _ n=>n,h⟩
theorem WgN.mk {J:Nat→L2.St→Hp→Prop} {m m':Nat} {σ:L2.St} {H:Hp} (l:m' < m) (h:J m' σ H):WgN J m σ H:=⟨_,l,h⟩
theorem bj8 {c:TT} {tb:TS} {D:aa5} {σ:L2.St} {H:Hp} (J:Nat→L2.St→Hp→Prop) (m0:Nat) (h0:J m0 σ H)
  (hs:∀ m σ H,J m σ H→c σ H fun b H1=>if b=true then WhG tb D J m σ H1 else D.nx σ H1):aj0 c tb D σ H:=⟨J,⟨_,h0⟩,hs⟩
theorem bf9 {ws:List Int} (t:A8 ws ws.length) (h:ws ≠ []):t9 ws ≠ 0:=fun z=>by
 have pos:=List.length_pos_iff.mpr h
 refine Y6 t pos ?_
 have hl:ws.length - 1 < ws.length:=by omega
 have hm:ws[ws.length - 1] ∈ ws:=List.getElem_mem hl
 have:=L7 hm
 rw [z] at this
 unfold aZ
 rw [List.getElem?_eq_getElem hl]
 exact Int.zero_dvd.mp this
theorem bo0 {ws:List Int} {m:Nat} (h0:t9 ws ≠ 0) (hb:∀ v ∈ ws,Int.natAbs v < 2 ^ m):t9 ws < 2 ^ m:=by
 obtain ⟨v,hv,v0⟩:∃ v ∈ ws,v ≠ 0:=by
  refine Classical.byContradiction fun z=>h0 ?_
  have all:∀ v ∈ ws,v=0:=fun v hv=>Classical.byContradiction fun h=>z ⟨v,hv,h⟩
  have:0 ∣ t9 ws:=X9 _ 0 (Nat.dvd_zero _) fun v hv=>by rw [all v hv];exact Int.dvd_zero _
  exact Nat.eq_zero_of_zero_dvd this
 have:=Int.natAbs_dvd_natAbs.mpr (L7 hv)
 exact Nat.lt_of_le_of_lt (Nat.le_of_dvd (by omega) this) (hb v hv)
section
variable {P:Program} {w:World} {K:PySem.W.Frag} {mg:Str→Option Value} {base:Heap}
def aP7 (K:PySem.W.Frag):Sp:=fun vs H Q _ => ∃ (a:Addr) (ws:List Int),vs=[.ref a]∧H a=some (.lst (ws.map V.int))∧(∀ v ∈ ws,Int.natAbs v < 2 ^ 6000)∧ws.length≤40∧A8 ws ws.length ∧
 ∀ r zs h H',d9 H H'→H r=none→H' r=some (.lst (zs.map V.int))→zs.length=ws.length→1≤h→(∀ k,aZ ws k=h * aZ zs k)→(ws ≠ []→t9 zs=1)→Q (.ref r) H'
abbrev B7:Stmt:=top 30
theorem aa0:j7 ["wholes","content"] ["wholes"] (d5 B7):=by and_intros
set_option maxHeartbeats 0 in
theorem am7 {f f1:Addr} (d:Df K mg "over_content" B7 ["wholes"] f) (G_content_of:Def P w K mg base CX0 2 "content_of" f1 ["wholes"] (aj1 K)) (n_list:mg "list" = none):Def P w K mg base CX0 3 "over_content" f ["wholes"] (aP7 K):=by
 refine d.ok (N:=["wholes","content"]) aa0 (by rintro vs H Q E ⟨_,_,h,_⟩;rw [h];rfl) (fun cdv A outer s H vs Q E hr h=>?_)
 obtain ⟨a,ws,rfl,hS,hb,l40,tz,k⟩:=h
 refine ⟨_,(d6 (i4 (i:=1) aa0.nd rfl (Or.inr rfl) (i3 G_content_of hr (b7 (pv 0) b9) j5))
   (d6 (C9 (p5 ae4 (pv 1) d4 (n5 _)) (d8 (j8 (N4 T8 rfl n_list (by decide +kernel) (b7 (pv 0) b9)))) v8)
   (d8 (j8 (T5 (Nc:=["content","whole"]) (caps:=[some 1,none]) rfl (Z9.of (osc:=d5 B7) (N:=["wholes","content"]) (ks:=["content"]) rfl rfl rfl rfl (G1 rfl L8) (by decide +kernel)) (E1 (pv 0)) (fun C s₂ H₂ fp pins=>(m6 (i:=1) (show List.Nodup (["content","whole"]:List Str) by decide +kernel) rfl (Or.inl rfl) (Or.inr rfl))) (fun C s₂ H₂ fp pins=>(i6 M3 (pv 1) (pv 0)))))))),?_⟩
 rw [show start ["wholes","content"] [.ref a]=[some (.ref a),none] from rfl]
 subst_eqs
 refine ⟨a,ws,rfl,SqL.of hS,hb,_,rfl,D5 (fun h2=>⟨_,.inl (SqL.of hS),fun p hp=>?_⟩) (fun h2=>⟨⟨_,SqL.of hS⟩,fun D hD=>?_⟩)⟩
 ·refine k p ws 1 _ (d9.new hp _) hp d7 rfl (Int.le_refl _) (fun k=>by omega) fun hw=>?_
  have:=bf9 tz hw
  omega
 ·have g0:t9 ws ≠ 0:=fun z=>by rw [z] at h2;exact h2 (by decide)
  have gb:(((t9 ws:Nat)):Int).natAbs < 2 ^ 6000:=by rw [Int.natAbs_natCast];exact bo0 g0 hb
  refine bF8 hS hD (by omega) (by omega) gb fun H2 s2 e2=>?_
  have zR:∀ k,aZ ws k=((t9 ws:Nat):Int) * aZ (ws.map fun v=>v.fdiv ((t9 ws:Nat):Int)) k:=bg3 g0 fun v hv=>L7 hv
  exact k D _ _ H2 s2 hD e2 (List.length_map _) (by omega) zR fun _=>aW2 rfl g0 (List.length_map _) zR
def aG8 (K:PySem.W.Frag):Sp:=fun vs H Q _ => ∃ (a:Addr) (ws:List Int),vs=[.ref a]∧SqL K H a (ws.map V.int)∧(∀ v ∈ ws,Int.natAbs v < 2 ^ 6000)∧ws.length≤40∧A8 ws ws.length ∧
 ∀ r zs H',d9 H H'→H r=none→H' r=some (.lst (zs.map V.int))→zs.length=ws.length - 1→A8 zs zs.length→(∀ k,aZ zs k=((k + 1:Nat):Int) * aZ ws (k + 1))→zp zs=dP (zp ws)→Q (.ref r) H'
abbrev C7:Stmt:=top 34
theorem ap8:j7 ["wholes"] ["wholes"] (d5 C7):=by and_intros
set_option maxHeartbeats 0 in
theorem aq7 {f:Addr} (d:Df K mg "whole_slope" C7 ["wholes"] f) (n_len:mg "len" = none) (n_range:mg "range" = none):Def P w K mg base CX0 1 "whole_slope" f ["wholes"] (aG8 K):=by
 refine d.ok (N:=["wholes"]) ap8 (by rintro vs H Q E ⟨_,_,h,_⟩;rw [h];rfl) (fun cdv A outer s H vs Q E hr h=>?_)
 obtain ⟨a,ws,rfl,hS,hb,l40,tz,k⟩:=h
 refine ⟨_,(d8 (j8 (T5 (Nc:=["wholes","place"]) (caps:=[some 0,none]) rfl (Z9.of (osc:=d5 C7) (N:=["wholes"]) (ks:=["wholes"]) rfl rfl rfl rfl (G1 rfl L8) (by decide +kernel)) (aV2 rfl n_range (b7 d4 (b7 (i9 q8 rfl n_len (by decide +kernel) (b7 (pv 0) b9)) b9))) (fun C s₂ H₂ fp pins=>(m6 (i:=1) (show List.Nodup (["wholes","place"]:List Str) by decide +kernel) rfl (Or.inl rfl) (Or.inr rfl))) (fun C s₂ H₂ fp pins=>(i6 v1 (pv 1) (m8 (by exact y9:IxR _ (aB7 K)) (pv 0) (pv 1) (fun _ _=>rfl))))))),?_⟩
 rw [show start ["wholes"] [.ref a]=[some (.ref a)] from rfl]
 subst_eqs
 refine ⟨_,.inl hS,by omega,by omega,by rw [List.length_map];omega,by rw [List.length_map];omega,fun D hD=>?_⟩
 have ln:((((ws.map V.int).length:Nat):Int) - 1).toNat=ws.length - 1:=by rw [List.length_map];omega
 rw [ln]
 obtain ⟨zs,hzs⟩:∃ zs:List Int,zs=(List.range (ws.length - 1)).map fun i=>((i + 1:Nat):Int) * aZ ws (i + 1):=⟨_,rfl⟩
 have lz:zs.length=ws.length - 1:=by rw [hzs,List.length_map,List.length_range]
 have gz:∀ j,j < ws.length - 1→zs[j]? = some (((j + 1:Nat):Int) * aZ ws (j + 1)):=fun j hj=>by rw [hzs,List.getElem?_map,List.getElem?_range hj];rfl
 have az:∀ j,aZ zs j=((j + 1:Nat):Int) * aZ ws (j + 1):=fun j=>by
  unfold aZ
  rcases Nat.lt_or_ge j (ws.length - 1) with y | y
  ·rw [gz j y];rfl
  ·rw [List.getElem?_eq_none (by omega),List.getElem?_eq_none (by omega)]
   show (0:Int)=_ * 0
   omega
 refine bh5 (fun j σ H2 => ∃ o,σ=[some (.ref a),o]∧d9 H H2∧H2 D=some (.lst ((zs.take j).map V.int))) ⟨_,rfl,d9.new hD _,d7⟩ ?_ ?_
 ·rintro j σ H2 hj ⟨o,rfl,s2,e2⟩
  subst_eqs
  have hl:j + 1 < ws.length:=by omega
  have ew:(ws.map V.int)[j + 1]? = some (.int (aZ ws (j + 1))):=by
   rw [List.getElem?_map,List.getElem?_eq_getElem hl]
   unfold aZ
   rw [List.getElem?_eq_getElem hl];rfl
  rw [show (1:Int) + (j:Int)=((j + 1:Nat):Int) by omega]
  have bw:=am3 hb (j + 1)
  refine ⟨_,s2.seq hS,_,Z8 ew,_,rfl,J2 (m:=10) (n:=6000) (by rw [Int.natAbs_natCast];omega) bw (by decide),?_⟩
  refine N5.mk hj e2 (Z5 (by rw [List.length_map,List.length_take];omega)) ⟨_,rfl,s2.over hD _,?_⟩
  rw [d7,W3 (gz j (by omega)),List.map_append];rfl
 ·rintro σ H2 ⟨o,rfl,s2,e2⟩
  rw [List.take_of_length_le (by omega)] at e2
  refine k D zs H2 s2 hD e2 lz ⟨Nat.le_refl _,fun i v hi e=>?_,fun hn v e=>?_⟩ az (Pf.ext fun j=>?_)
  ·have:=(List.getElem?_eq_some_iff.mp e).1;omega
  ·have lp:0 < zs.length:=by omega
   rw [gz _ (by omega)] at e
   cases e
   have lead:=Y6 tz (by omega)
   rw [show zs.length - 1 + 1=ws.length - 1 by omega]
   exact Int.mul_ne_zero (by omega) lead
  ·show zc zs j=((j + 1:Nat):Rat) * zc ws (j + 1)
   unfold zc
   rw [az,Rat.intCast_mul];rfl
end
section
variable {P:Program} {w:World} {K:PySem.W.Frag} {mg:Str→Option Value} {base:Heap}
theorem ax3 {b:Int} {m k:Nat} (h:b.natAbs < 2 ^ m):(b ^ k).natAbs < 2 ^ (m * k + 1):=by
 rw [Int.natAbs_pow]
 have:b.natAbs ^ k≤(2 ^ m) ^ k:=Nat.pow_le_pow_left (Nat.le_of_lt h) k
 rw [← Nat.pow_mul] at this
 exact Nat.lt_of_le_of_lt this (Nat.pow_lt_pow_right (by decide) (by omega))
def hw (t b:Int):List Int→Int
 | []=>0
 | v :: S=>hw t b S * t + v * b ^ S.length
theorem bs4 {t b:Int} {W c:Nat} (ht:t.natAbs < 2 ^ c) (hb:b.natAbs < 2 ^ c):∀ S:List Int,(∀ v ∈ S,Int.natAbs v < 2 ^ W)→(hw t b S).natAbs < 2 ^ (W + c * S.length + S.length)
 | [],_=>by simp only [hw,Int.natAbs_zero];exact Nat.two_pow_pos _
 | v :: S,h=>by
  have ih:=bs4 ht hb S fun v hv=>h v (List.mem_cons_of_mem _ hv)
  have hv:=h v List.mem_cons_self
  have h1:(hw t b S * t).natAbs < 2 ^ (W + c * S.length + S.length + c):=by
   rw [Int.natAbs_mul,Nat.pow_add]
   exact Nat.mul_lt_mul'' ih ht
  have h2:(v * b ^ S.length).natAbs < 2 ^ (W + c * S.length):=by
   rw [Int.natAbs_mul,Int.natAbs_pow,Nat.pow_add,Nat.pow_mul]
   refine Nat.mul_lt_mul_of_lt_of_le hv (Nat.pow_le_pow_left (Nat.le_of_lt hb) _) ?_
   exact Nat.pow_pos (Nat.two_pow_pos _)
  have h3:2 ^ (W + c * S.length)≤2 ^ (W + c * S.length + S.length + c):=h8 (by omega)
  have e:W + c * (v :: S).length + (v :: S).length=W + c * S.length + S.length + c + 1:=by rw [List.length_cons,Nat.mul_succ];omega
  rw [e,Nat.pow_succ,hw]
  omega
theorem bs5 {t b:Int} (hb:b ≠ 0):∀ S:List Int,(hw t b S:Rat)=evQ ((t:Rat) / b) (S.map fun v:Int=>(v:Rat)) * ((b:Rat) ^ S.length / b)
 | []=>by simp only [hw,List.map_nil,evQ,Rat.zero_mul];rfl
 | v :: S=>by
  have hb':(b:Rat) ≠ 0:=fun z=>hb (by exact_mod_cast z)
  have ih:=bs5 (t:=t) hb S
  have e1:(b:Rat) * (b:Rat)⁻¹=1:=Rat.mul_inv_cancel _ hb'
  simp only [hw,List.map_cons,evQ,List.length_cons]
  rw [Rat.intCast_add,Rat.intCast_mul,ih,Rat.intCast_mul,Rat.intCast_pow,Rat.pow_succ,Rat.div_def,Rat.div_def,Rat.div_def]
  generalize (b:Rat) ^ S.length=B
  generalize evQ _ _=Z
  generalize (b:Rat)⁻¹=c at *
  generalize (b:Rat)=b' at *
  grind
def bC3 (K:PySem.W.Frag):Sp:=fun vs H Q _ => ∃ (a:Addr) (ws:List Int) (t b:Int) (W c:Nat),vs=[.ref a,.int t,.int b]∧SqL K H a (ws.map V.int)∧(∀ v ∈ ws,Int.natAbs v < 2 ^ W)∧t.natAbs < 2 ^ c∧b.natAbs < 2 ^ c∧W + c * ws.length + ws.length≤100000∧c≤6000∧Q (.int (hw t b ws)) H
abbrev D6:Stmt:=top 35
theorem E3:j7 ["wholes","top","bottom","total","power","whole"] ["wholes","top","bottom"] (d5 D6):=by and_intros
set_option maxHeartbeats 0 in
theorem aq6 {f:Addr} (d:Df K mg "whole_worth" D6 ["wholes","top","bottom"] f) (n_reversed:mg "reversed" = none):Def P w K mg base CX0 1 "whole_worth" f ["wholes","top","bottom"] (bC3 K):=by
 refine d.ok (N:=["wholes","top","bottom","total","power","whole"]) E3 (by rintro vs H Q E ⟨a,b,m,_,_,_,h,_⟩;rw [h];rfl) (fun cdv A outer s H vs Q E hr h=>?_)
 obtain ⟨a,ws,t,b,W,c,rfl,hS,hw1,ht,hb,hW,hc,k⟩:=h
 refine ⟨_,(d6 (i4 (i:=3) E3.nd rfl (Or.inl rfl) d4)
   (d6 (i4 (i:=4) E3.nd rfl (Or.inl rfl) d4)
   (d6 (O0 PassesOwn.never rfl (bw3 rfl n_reversed (b7 (pv 0) b9)) (m6 (i:=5) E3.nd rfl (Or.inl rfl)) (d6 (i4 (i:=3) E3.nd rfl (Or.inl rfl) (i6 G8 (i6 v1 (pv 3) (pv 1)) (i6 v1 (pv 5) (pv 4))))
   (d8 (aC2 (i:=4) E3.nd rfl (Or.inl rfl) (pv 2) be9))))
   (d8 (j8 (pv 3)))))),?_⟩
 rw [show start ["wholes","top","bottom","total","power","whole"] [.ref a,.int t,.int b]=[some (.ref a),some (.int t),some (.int b),none,none,none] from rfl]
 subst_eqs
 refine ⟨_,rfl,a,_,rfl,hS,bo3 (xs:=ws.map V.int) (fun i σ H1=>H1=H∧∃ o,σ=[some (.ref a),some (.int t),some (.int b),some (.int (hw t b (ws.drop (ws.length - i)))),some (.int (b ^ i)),o]) ⟨rfl,_,by rw [Nat.sub_zero,List.drop_length,Int.pow_zero];rfl⟩ (by rintro i σ H1 _ ⟨rfl,_⟩;exact hS) ?_ ?_⟩
 ·rintro i x σ H1 hi hx ⟨rfl,o,rfl⟩
  obtain ⟨v,hv,rfl⟩:=ac0 hx
  rw [List.length_map] at hi hv
  have e1:ws.drop (ws.length - (i + 1))=v :: ws.drop (ws.length - i):=by
   have h1:ws.length - (i + 1) < ws.length:=by omega
   rw [List.drop_eq_getElem_cons h1,show ws.length - (i + 1) + 1=ws.length - i by omega]
   congr 1
   have hv':ws[ws.length - (i + 1)]? = some v:=by rw [show ws.length - (i + 1)=ws.length - 1 - i by omega];exact hv
   exact (List.getElem?_eq_some_iff.mp hv').2
  have l1:(ws.drop (ws.length - i)).length=i:=by rw [List.length_drop];omega
  have b1:=bs4 (W:=W) ht hb (ws.drop (ws.length - i)) fun u hu=>hw1 u (List.mem_of_mem_drop hu)
  rw [l1] at b1
  have hci:c * i≤c * ws.length:=Nat.mul_le_mul_left _ (by omega)
  subst_eqs
  refine ⟨J2 b1 ht (by omega),J2 (hw1 v (List.mem_of_getElem? hv)) (ax3 hb) (by omega),J2 (ax3 hb) hb (by omega),?_⟩
  rw [e1,hw,l1,Int.pow_succ]
  exact ⟨rfl,rfl,_,rfl⟩
 ·rintro σ H1 ⟨rfl,o,rfl⟩
  rw [List.length_map,Nat.sub_self,List.drop_zero]
  subst_eqs
  exact k
end
def bnd (B:Mt) (k i j:Nat):Mt:=fun r c=>B (if r=k then i else r) (if c=k then j else c)
def mi (B:Mt) (k i j:Nat):Rat:=dt (k + 1) (bnd B k i j)
inductive RwZ (H:Hp):List Addr→List (List Int)→Prop where
 | nil:RwZ H [] []
 | cons {p:Addr} {ps:List Addr} {L:List Int} {Ls:List (List Int)} (h:H p=some (.lst (L.map V.int))) (t:RwZ H ps Ls):RwZ H (p :: ps) (L :: Ls)
theorem RwZ.length {H:Hp}:∀ {ts:List Addr} {M:List (List Int)},RwZ H ts M→ts.length=M.length
 | _,_,.nil=>rfl
 | _,_,.cons _ t=>congrArg (· + 1) t.length
theorem RwZ.same {H H':Hp} (s:d9 H H'):∀ {ts:List Addr} {M:List (List Int)},RwZ H ts M→RwZ H' ts M
 | _,_,.nil=>.nil
 | _,_,.cons h t=>.cons (s _ _ h) (t.same s)
theorem RwZ.get {H:Hp}:∀ {ts:List Addr} {M:List (List Int)} {i:Nat} {p:Addr},RwZ H ts M→ts[i]? = some p→∃ L,M[i]? = some L∧H p=some (.lst (L.map V.int))
 | _,_,_,_,.nil,e=>by simp at e
 | _,_,0,_,.cons h _,e=>by cases e;exact ⟨_,rfl,h⟩
 | _,_,i + 1,_,.cons _ t,e=>t.get (i:=i) (by simpa using e)
theorem RwZ.append {H:Hp}:∀ {ts us:List Addr} {M N:List (List Int)},RwZ H ts M→RwZ H us N→RwZ H (ts ++ us) (M ++ N)
 | _,_,_,_,.nil,h=>h
 | _,_,_,_,.cons h t,k=>.cons h (t.append k)
theorem RwZ.over {H:Hp} {l:Addr} {o:HO}:∀ {ts:List Addr} {M:List (List Int)},l ∉ ts→RwZ H ts M→RwZ (upd H l o) ts M
 | _,_,_,.nil=>.nil
 | _,_,n,.cons h t=>.cons (by rw [j3 (fun z=>n (by rw [← z];exact List.mem_cons_self))];exact h) (t.over fun z=>n (List.mem_cons_of_mem _ z))
def zz (M:List (List Int)) (i j:Nat):Int:=aZ ((M[i]?).getD []) j
structure Eb (n:Nat) (A B:Mt) (at':Nat) (M:List (List Int)) (dv:Int):Prop where
 len:M.length=n
 row:∀ L ∈ M,L.length=n
 ent:∀ i j,at'≤i→i < n→at'≤j→j < n→((zz M i j:Int):Rat)=mi B at' i j
 zer:∀ i j,at'≤i→i < n→j < at'→zz M i j=0
 int:∀ r c,IsI (B r c)
 det:dt n B=dt n A
 led:∀ m,1≤m→m≤at'→dt m B ≠ 0
 div:((dv:Int):Rat)=dt at' B
def sgI (i:Int):Int:=if 0 < i then 1 else if i < 0 then -1 else 0
theorem bu8 (i:Int):(sgI i).natAbs < 2 ^ 5000:=by
 refine Nat.lt_of_lt_of_le (show _ < 2 ^ 1 from ?_) (h8 (by decide))
 unfold sgI
 split
 ·decide
 ·split <;> decide
section
variable {P:Program} {w:World} {K:PySem.W.Frag} {mg:Str→Option Value} {base:Heap}
def aP6:Sp:=fun vs H Q _ => ∃ i:Int,vs=[.int i]∧Q (.int (sgI i)) H
abbrev C3:Stmt:=top 25
theorem aj2:j7 ["whole"] ["whole"] (d5 C3):=by and_intros
theorem aj7 {f:Addr} (d:Df K mg "sign_of_whole" C3 ["whole"] f):Def P w K mg base CX0 1 "sign_of_whole" f ["whole"] aP6:=by
 refine d.ok (N:=["whole"]) aj2 (fun vs H Q E ⟨i,h,_⟩=>by rw [h];rfl) (fun cdv A outer s H vs Q E hr h=>?_)
 obtain ⟨i,rfl,k⟩:=h
 refine ⟨_,(d6 (C9 (p5 al4 (pv 0) d4 (n5 _)) (d8 (j8 d4)) v8)
   (d8 (j8 (ab4 (p5 ae4 (pv 0) d4 (n5 _)) (Q7 J4 d4) d4)))),?_⟩
 rw [show start ["whole"] [.int i]=[some (.int i)] from rfl]
 subst_eqs
 unfold sgI at k
 split
 ·rename_i h;rw [if_pos h] at k;exact k
 ·rename_i h;rw [if_neg h] at k
  split
  ·rename_i h2;rw [if_pos h2] at k;exact k
  ·rename_i h2;rw [if_neg h2] at k;exact k
def aG9 (K:PySem.W.Frag):Sp:=fun vs H Q _ => ∃ (a:Addr) (ws:List Int) (t b:Int) (W c:Nat),vs=[.ref a,.int t,.int b]∧SqL K H a (ws.map V.int)∧(∀ v ∈ ws,Int.natAbs v < 2 ^ W)∧t.natAbs < 2 ^ c∧b.natAbs < 2 ^ c∧W + c * ws.length + ws.length≤100000∧c≤6000∧Q (.int (sgI (hw t b ws))) H
abbrev P5:Stmt:=top 40
theorem aL1:j7 ["wholes","top","bottom"] ["wholes","top","bottom"] (d5 P5):=by and_intros
theorem aM3 {f f1 f2:Addr} (d:Df K mg "sign_at" P5 ["wholes","top","bottom"] f) (G_sign_of_whole:Def P w K mg base CX0 1 "sign_of_whole" f1 ["whole"] aP6) (G_whole_worth:Def P w K mg base CX0 1 "whole_worth" f2 ["wholes","top","bottom"] (bC3 K)):Def P w K mg base CX0 2 "sign_at" f ["wholes","top","bottom"] (aG9 K):=by
 refine d.ok (N:=["wholes","top","bottom"]) aL1 (by rintro vs H Q E ⟨_,_,_,_,_,_,h,_⟩;rw [h];rfl) (fun cdv A outer s H vs Q E hr h=>?_)
 obtain ⟨a,ws,t,b,W,c,rfl,hS,h1,h2,h3,h4,h5,k⟩:=h
 refine ⟨_,(d8 (j8 (i3 G_sign_of_whole hr (b7 (i3 G_whole_worth hr (b7 (pv 0) (b7 (pv 1) (b7 (pv 2) b9))) j5) b9) j5))),?_⟩
 rw [show start ["wholes","top","bottom"] [.ref a,.int t,.int b]=[some (.ref a),some (.int t),some (.int b)] from rfl]
 subst_eqs
 exact ⟨a,ws,t,b,W,c,rfl,hS,h1,h2,h3,h4,h5,_,rfl,k⟩
structure ChR (K:PySem.W.Frag) (H:Hp) (a:Addr) (rs:List Addr) (Ts:List (List Int)):Prop where
 at':SqL K H a (rs.map V.ref)
 rw':RwZ H rs Ts
 ok:∀ T ∈ Ts,T ≠ []∧T.length≤11∧∀ v ∈ T,Int.natAbs v < 2 ^ 5000
 ln:Ts.length≤11
theorem ChR.same {K:PySem.W.Frag} {H H':Hp} {a:Addr} {rs:List Addr} {Ts:List (List Int)} (h:ChR K H a rs Ts) (s:d9 H H'):ChR K H' a rs Ts:=⟨s.seq h.at',h.rw'.same s,h.ok,h.ln⟩
theorem ak1 {Ts:List (List Int)} {g:List Int→Int} {i:Nat} {T:List Int} (h:Ts[i]? = some T):(((Ts.take (i + 1)).map g).map V.int)=((Ts.take i).map g).map V.int ++ [.int (g T)]:=by
 rw [W3 h,List.map_append,List.map_append];rfl
def ba0 (K:PySem.W.Frag):Sp:=fun vs H Q _ => ∃ (a:Addr) (rs:List Addr) (Ts:List (List Int)) (t b:Int) (c:Nat),vs=[.ref a,.int t,.int b]∧ChR K H a rs Ts∧t.natAbs < 2 ^ c∧b.natAbs < 2 ^ c∧c≤6000∧∀ H',d9 H H'→Q (.int (S7 0 (Ts.map fun T=>sgI (hw t b T)):Nat)) H'
abbrev C8:Stmt:=top 42
theorem au0:j7 ["chain","top","bottom"] ["chain","top","bottom"] (d5 C8):=by and_intros
set_option maxHeartbeats 0 in
theorem au8 {f f1 f2:Addr} (d:Df K mg "changes_at" C8 ["chain","top","bottom"] f) (G_changes_of:Def P w K mg base CX0 1 "changes_of" f1 ["signs"] (aQ0 K)) (G_sign_at:Def P w K mg base CX0 2 "sign_at" f2 ["wholes","top","bottom"] (aG9 K)):Def P w K mg base CX0 3 "changes_at" f ["chain","top","bottom"] (ba0 K):=by
 refine d.ok (N:=["chain","top","bottom"]) au0 (by rintro vs H Q E ⟨_,_,_,_,_,_,h,_⟩;rw [h];rfl) (fun cdv A outer s H vs Q E hr h=>?_)
 obtain ⟨a,rs,Ts,t,b,c,rfl,R,ht,hb,hc,k⟩:=h
 have hu:=hr.units
 refine ⟨_,(d8 (j8 (i3 G_changes_of hr (b7 (T5 (Nc:=["top","bottom","wholes"]) (caps:=[some 1,some 2,none]) rfl (Z9.of (osc:=d5 C8) (N:=["chain","top","bottom"]) (ks:=["top","bottom"]) rfl rfl rfl rfl (G1 rfl (G1 rfl L8)) (by decide +kernel)) (E1 (pv 0)) (fun C s₂ H₂ fp pins=>(m6 (i:=2) (show List.Nodup (["top","bottom","wholes"]:List Str) by decide +kernel) rfl (Or.inl rfl) (Or.inr rfl))) (fun C s₂ H₂ fp pins=>(i3 G_sign_at hr (b7 (pv 2) (b7 (pv 0) (b7 (pv 1) b9))) j5))) b9) j5))),?_⟩
 rw [show start ["chain","top","bottom"] [.ref a,.int t,.int b]=[some (.ref a),some (.int t),some (.int b)] from rfl]
 subst_eqs
 have lr:=R.rw'.length
 refine ⟨⟨_,R.at'⟩,fun D hD=>?_⟩
 refine T7 (rs.map V.ref) (fun i σ H2 => ∃ o,σ=[some (.int t),some (.int b),o]∧d9 H H2∧H2 D=some (.lst (((Ts.take i).map fun T=>sgI (hw t b T)).map V.int))) ⟨_,rfl,d9.new hD _,d7⟩ (fun i σ H2 _ ⟨_,_,s2,_⟩=>s2.seq R.at') ?_ ?_
 ·rintro i x σ H2 hx ⟨o,rfl,s2,e2⟩
  have hi:=(List.getElem?_eq_some_iff.mp hx).1
  rw [List.getElem?_map] at hx
  cases hp:rs[i]? with
  | none=>rw [hp] at hx;cases hx
  | some p =>
   rw [hp] at hx
   cases hx
   obtain ⟨T,hT,eT⟩:=R.rw'.get hp
   obtain ⟨_,l11,bT⟩:=R.ok T (List.mem_of_getElem? hT)
   subst_eqs
   have m1:c * T.length≤6000 * 11:=Nat.mul_le_mul hc l11
   refine ⟨p,T,t,b,5000,c,rfl,SqL.of (s2 _ _ eT),bT,ht,hb,by omega,hc,?_⟩
   have ln:=R.ln
   refine N5.mk hi e2 (Z5 (by rw [List.length_map,List.length_map,List.length_take];omega)) ⟨_,rfl,s2.over hD _,?_⟩
   rw [d7,ak1 hT]
 ·rintro σ H2 ⟨o,rfl,s2,e2⟩
  rw [List.length_map,lr,List.take_length] at e2
  refine ⟨D,_,rfl,SqL.of e2,fun v hv=>?_,?_,k H2 s2⟩
  ·obtain ⟨T,_,rfl⟩:=List.mem_map.mp hv
   exact bu8 _
  ·rw [List.length_map]
   have:=R.ln
   omega
theorem aE1 {T:List Int} (h:T ≠ []):atI (T.map V.int) (-1)=some (.int (ldA T)):=by
 have pos:=List.length_pos_iff.mpr h
 refine ar7 ?_
 rw [List.length_map,List.getElem?_map,List.getElem?_eq_getElem (by omega)]
 unfold ldA aZ
 rw [List.getElem?_eq_getElem (by omega)];rfl
theorem be3 {T:List Int} {m:Nat} (h:∀ v ∈ T,Int.natAbs v < 2 ^ m):(ldA T).natAbs < 2 ^ m:=am3 h _
def ao3 (K:PySem.W.Frag) (g:List Int→Int):Sp:=fun vs H Q _ => ∃ (a:Addr) (rs:List Addr) (Ts:List (List Int)),vs=[.ref a]∧ChR K H a rs Ts∧∀ H',d9 H H'→Q (.int (S7 0 (Ts.map g):Nat)) H'
abbrev v3:Stmt:=top 44
theorem aa9:j7 ["chain"] ["chain"] (d5 v3):=by and_intros
set_option maxHeartbeats 0 in
theorem ab7 {f f1:Addr} (d:Df K mg "changes_above_all" v3 ["chain"] f) (G_changes_of:Def P w K mg base CX0 1 "changes_of" f1 ["signs"] (aQ0 K)):Def P w K mg base CX0 2 "changes_above_all" f ["chain"] (ao3 K ldA):=by
 refine d.ok (N:=["chain"]) aa9 (by rintro vs H Q E ⟨_,_,_,h,_⟩;rw [h];rfl) (fun cdv A outer s H vs Q E hr h=>?_)
 obtain ⟨a,rs,Ts,rfl,R,k⟩:=h
 have hu:=hr.units
 refine ⟨_,(d8 (j8 (i3 G_changes_of hr (b7 (T5 (Nc:=["wholes"]) (caps:=[none]) rfl (Z9.of (osc:=d5 v3) (N:=["chain"]) (ks:=[]) rfl rfl rfl rfl L8 (by decide +kernel)) (E1 (pv 0)) (fun C s₂ H₂ fp pins=>(m6 (i:=0) (show List.Nodup (["wholes"]:List Str) by decide +kernel) rfl (Or.inl rfl) (Or.inr rfl))) (fun C s₂ H₂ fp pins=>(m8 (by exact y9:IxR _ (aB7 K)) (pv 0) (Q7 J4 d4) (fun _ _=>rfl)))) b9) j5))),?_⟩
 rw [show start ["chain"] [.ref a]=[some (.ref a)] from rfl]
 subst_eqs
 have lr:=R.rw'.length
 refine ⟨⟨_,R.at'⟩,fun D hD=>?_⟩
 refine T7 (rs.map V.ref) (fun i σ H2 => ∃ o,σ=[o]∧d9 H H2∧H2 D=some (.lst (((Ts.take i).map ldA).map V.int))) ⟨_,rfl,d9.new hD _,d7⟩ (fun i σ H2 _ ⟨_,_,s2,_⟩=>s2.seq R.at') ?_ ?_
 ·rintro i x σ H2 hx ⟨o,rfl,s2,e2⟩
  have hi:=(List.getElem?_eq_some_iff.mp hx).1
  rw [List.getElem?_map] at hx
  cases hp:rs[i]? with
  | none=>rw [hp] at hx;cases hx
  | some p =>
   rw [hp] at hx
   cases hx
   obtain ⟨T,hT,eT⟩:=R.rw'.get hp
   obtain ⟨n0,l11,bT⟩:=R.ok T (List.mem_of_getElem? hT)
   subst_eqs
   refine ⟨_,SqL.of (s2 _ _ eT),_,aE1 n0,?_⟩
   have ln:=R.ln
   refine N5.mk hi e2 (Z5 (by rw [List.length_map,List.length_map,List.length_take];omega)) ⟨_,rfl,s2.over hD _,?_⟩
   rw [d7,ak1 hT]
 ·rintro σ H2 ⟨o,rfl,s2,e2⟩
  rw [List.length_map,lr,List.take_length] at e2
  refine ⟨D,_,rfl,SqL.of e2,fun v hv=>?_,?_,k H2 s2⟩
  ·obtain ⟨T,hT,rfl⟩:=List.mem_map.mp hv
   exact be3 (R.ok T hT).2.2
  ·rw [List.length_map]
   have:=R.ln
   omega
abbrev v2:Stmt:=top 43
theorem aa8:j7 ["chain"] ["chain"] (d5 v2):=by and_intros
set_option maxHeartbeats 0 in
theorem ab6 {f f1:Addr} (d:Df K mg "changes_below_all" v2 ["chain"] f) (G_changes_of:Def P w K mg base CX0 1 "changes_of" f1 ["signs"] (aQ0 K)) (n_len:mg "len" = none):Def P w K mg base CX0 2 "changes_below_all" f ["chain"] (ao3 K ldB):=by
 refine d.ok (N:=["chain"]) aa8 (by rintro vs H Q E ⟨_,_,_,h,_⟩;rw [h];rfl) (fun cdv A outer s H vs Q E hr h=>?_)
 obtain ⟨a,rs,Ts,rfl,R,k⟩:=h
 have hu:=hr.units
 refine ⟨_,(d8 (j8 (i3 G_changes_of hr (b7 (T5 (Nc:=["wholes"]) (caps:=[none]) rfl (Z9.of (osc:=d5 v2) (N:=["chain"]) (ks:=[]) rfl rfl rfl rfl L8 (by decide +kernel)) (E1 (pv 0)) (fun C s₂ H₂ fp pins=>(m6 (i:=0) (show List.Nodup (["wholes"]:List Str) by decide +kernel) rfl (Or.inl rfl) (Or.inr rfl))) (fun C s₂ H₂ fp pins=>(ab4 (p5 aa1 (i6 bw8 (i9 (by exact q8:ae9 _ (.builtin "len") (bv4 K)) rfl n_len (by decide +kernel) (b7 (pv 0) b9)) d4) d4 (n5 _)) (Q7 J4 (m8 (by exact y9:IxR _ (aB7 K)) (pv 0) (Q7 J4 d4) (fun _ _=>rfl))) (m8 (by exact y9:IxR _ (aB7 K)) (pv 0) (Q7 J4 d4) (fun _ _=>rfl))))) b9) j5))),?_⟩
 rw [show start ["chain"] [.ref a]=[some (.ref a)] from rfl]
 subst_eqs
 have lr:=R.rw'.length
 refine ⟨⟨_,R.at'⟩,fun D hD=>?_⟩
 refine T7 (rs.map V.ref) (fun i σ H2 => ∃ o,σ=[o]∧d9 H H2∧H2 D=some (.lst (((Ts.take i).map ldB).map V.int))) ⟨_,rfl,d9.new hD _,d7⟩ (fun i σ H2 _ ⟨_,_,s2,_⟩=>s2.seq R.at') ?_ ?_
 ·rintro i x σ H2 hx ⟨o,rfl,s2,e2⟩
  have hi:=(List.getElem?_eq_some_iff.mp hx).1
  rw [List.getElem?_map] at hx
  cases hp:rs[i]? with
  | none=>rw [hp] at hx;cases hx
  | some p =>
   rw [hp] at hx
   cases hx
   obtain ⟨T,hT,eT⟩:=R.rw'.get hp
   obtain ⟨n0,l11,bT⟩:=R.ok T (List.mem_of_getElem? hT)
   subst_eqs
   have ln:=R.ln
   have e1:Builtin.bitAnd (T.length:Int) 1=((T.length % 2:Nat):Int):=by
    clear bT eT hT
    generalize T.length=n at l11
    have:n=0 ∨ n=1 ∨ n=2 ∨ n=3 ∨ n=4 ∨ n=5 ∨ n=6 ∨ n=7 ∨ n=8 ∨ n=9 ∨ n=10 ∨ n=11:=by omega
    rcases this with rfl | rfl | rfl | rfl | rfl | rfl | rfl | rfl | rfl | rfl | rfl | rfl <;> decide +kernel
   refine ⟨_,.inl (SqL.of (s2 _ _ eT)),rfl,?_⟩
   rw [List.length_map,e1]
   have fin:∀ v,v=ldB T→N5 D (List.map V.ref rs).length (fun i σ H2 => ∃ o,σ=[o]∧d9 H H2∧H2 D=some (HO.lst (List.map V.int (List.map ldB (List.take i Ts))))) i [some (V.ref p)] (V.int v) H2:=fun v hv=>by
    refine N5.mk hi e2 (Z5 (by rw [List.length_map,List.length_map,List.length_take];omega)) ⟨_,rfl,s2.over hD _,?_⟩
    rw [d7,ak1 hT,hv]
   refine D5 (fun h=>?_) (fun h=>?_)
   ·exact ⟨_,SqL.of (s2 _ _ eT),_,aE1 n0,_,rfl,fin _ (by unfold ldB;rw [if_pos (by omega)])⟩
   ·exact ⟨_,SqL.of (s2 _ _ eT),_,aE1 n0,fin _ (by unfold ldB;rw [if_neg (by omega)])⟩
 ·rintro σ H2 ⟨o,rfl,s2,e2⟩
  rw [List.length_map,lr,List.take_length] at e2
  refine ⟨D,_,rfl,SqL.of e2,fun v hv=>?_,?_,k H2 s2⟩
  ·obtain ⟨T,hT,rfl⟩:=List.mem_map.mp hv
   have:=be3 (R.ok T hT).2.2
   unfold ldB
   split
   ·rw [Int.natAbs_neg];exact this
   ·exact this
  ·rw [List.length_map]
   have:=R.ln
   omega
end
theorem bp5 {x d:Nat} (h:x + d≤8):90 * (2 * x + 1) + (d + 1) * (90 * (2 * x + 1) + 1)≤5000:=by
 have h1:x=0 ∨ x=1 ∨ x=2 ∨ x=3 ∨ x=4 ∨ x=5 ∨ x=6 ∨ x=7 ∨ x=8:=by omega
 rcases h1 with rfl | rfl | rfl | rfl | rfl | rfl | rfl | rfl | rfl <;> omega
theorem bj9 {s:Rat} {qs:List Rat} {ws:List Int} (e:qs=scl s ws) (t:T9 qs qs.length):A8 ws ws.length:=by
 refine ⟨Nat.le_refl _,(fun i v hi h=>by rw [List.getElem?_eq_none hi] at h;cases h),fun hn v h z=>?_⟩
 subst e
 rw [bl0] at t
 refine t.last hn _ (show (scl s ws)[ws.length - 1]? = some (s * (v:Rat)) by unfold scl;rw [List.getElem?_map,h];rfl) ?_
 rw [z,Rat.intCast_zero];grind
section
variable {P:Program} {w:World} {K:PySem.W.Frag} {mg:Str→Option Value} {base:Heap}
def aG7 (K:PySem.W.Frag):Sp:=fun vs H Q _ => ∃ (a b:Addr) (one other:List Int) (n S W1 W2:Nat),vs=[.ref a,.ref b]∧SqL K H a (one.map V.int)∧SqL K H b (other.map V.int)∧one.length≤30∧other.length=n + 1∧n≤30∧aZ other n ≠ 0∧A8 one one.length∧one.length≤n + S∧(∀ v ∈ one,Int.natAbs v < 2 ^ W1)∧(∀ v ∈ other,Int.natAbs v < 2 ^ W2)∧W1 + S * (W2 + 1)≤5000∧W2≤5000∧ExZ one other ∧
 ∀ lq Qz H',d9 H H'→H lq=none→H' lq=some (.lst (Qz.map V.int))→Qz.length=one.length - n→A8 Qz Qz.length→zp one=zp Qz * zp other→(∀ v ∈ Qz,Int.natAbs v < 2 ^ 5000)→Q (.ref lq) H'
set_option maxHeartbeats 0 in
theorem aq9 {f f1:Addr} (d:Df K mg "whole_over" E4 ["one","other"] f) (GD_whole_divided:Def P w K mg base CX0 2 "whole_divided" f1 ["one","other"] (aZ5 K)):Def P w K mg base CX0 3 "whole_over" f ["one","other"] (aG7 K):=by
 have G_whole_divided:=GD_whole_divided
 refine d.ok (N:=["one","other"]) at9 (by rintro vs H Q E ⟨_,_,_,_,_,_,_,_,h,_⟩;rw [h];rfl) (fun cdv A outer s H vs Q E hr h=>?_)
 obtain ⟨a,b,one,other,n,S,W1,W2,rfl,hS,hS',hl1,hl2,hn,h0,ht1,hS1,hw1,hw2,hT,hT2,hx,k⟩:=h
 refine ⟨_,(d8 (j8 (m8 p8 (i3 G_whole_divided hr (b7 (pv 0) (b7 (pv 1) b9)) j5) d4 (fun _ _=>rfl)))),?_⟩
 rw [show start ["one","other"] [.ref a,.ref b]=[some (.ref a),some (.ref b)] from rfl]
 subst_eqs
 refine ⟨a,b,one,other,n,S,W1,W2,rfl,hS,hS',hl1,hl2,hn,h0,ht1,hS1,hw1,hw2,hT,hT2,fun r lq lr many Qz Rz H1 s1 fq fr nqr er eq eR m1 mb qb rb rl rt ql qt dv ex=>?_⟩
 refine ⟨r,rfl,_,SqT.of er,_,rfl,k lq Qz H1 s1 fq eq ql qt ?_ fun v hv=>Nat.lt_of_lt_of_le (qb v hv) (h8 hT)⟩
 have m1:=ex hx
 subst m1
 obtain ⟨V,nv,hV,e⟩:=hx
 have e1:zp one=fz V * zp other:=Pf.ext e
 have e2:zp one=zp Qz * zp other + zp Rz:=Pf.ext fun k=>by
  have:=dv k
  rw [show ((1:Int):Rat)=1 from rfl] at this
  show zc one k=cv (zc Qz) (zc other) k + zc Rz k
  rw [← this];grind
 have oD:Dg (zc other) (n + 1):=by rw [← hl2];exact aa6 other
 have eD:(fz V - zp Qz) * zp other=zp Rz:=by grind
 have dD:Dg (fz V - zp Qz).f (max nv Qz.length):=fun k hk=>by
  rw [F7]
  show (V k:Rat) - zc Qz k=0
  rw [hV k (by omega),aa6 Qz k (by omega),Rat.intCast_zero];grind
 have back:=aE9 (f:=(fz V - zp Qz).f) (B:=zc other) (N:=n) dD oD (aO9 h0) (fun k hk=>by
  show ((fz V - zp Qz) * zp other).f k=0
  rw [eD]
  exact aa6 Rz k (by omega))
 have z:fz V - zp Qz=0:=Pf.ext fun k=>by rw [v6];exact back k (by omega)
 rw [e1]
 grind
def aQ1 (K:PySem.W.Frag):Sp:=fun vs H Q _ => ∃ (a:Addr) (xs:List V) (ps:List Rat) (L:List (Fp × Nat)),vs=[.ref a]∧SqL K H a xs∧B4 H xs ps∧ps ≠ []∧at5 ps L∧∀ r rs Ts H',d9 H H'→H' r=some (.lst (rs.map V.ref))→RwZ H' rs Ts→Chn Ts L→Q (.ref r) H'
abbrev K3:Stmt:=top 39
theorem Q4:j7 ["p","row","further","rest"] ["p"] (d5 K3):=by and_intros
set_option maxHeartbeats 0 in
theorem aH8 {f f1 f2 f3 f4 f5 f6 : Addr} (d : Df K mg "chain_of" K3 ["p"] f) (GP_lifted : Def P w K mg base CX0 3 "lifted" f1 ["p"] (aw4 K)) (G_over_content : Def P w K mg base CX0 3 "over_content" f2 ["wholes"] (aP7 K)) (G_whole_slope : Def P w K mg base CX0 1 "whole_slope" f3 ["wholes"] (aG8 K)) (GD_whole_divided : Def P w K mg base CX0 2 "whole_divided" f4 ["one", "other"] (aZ5 K)) (G_whole_scaled : Def P w K mg base CX0 2 "whole_scaled" f5 ["factor", "wholes"] (aw3 K)) (GD_whole_over : Def P w K mg base CX0 3 "whole_over" f6 ["one", "other"] (aG7 K)) : Def P w K mg base CX0 4 "chain_of" f ["p"] (aQ1 K) := by
  have G_lifted := GP_lifted
  have G_whole_divided := GD_whole_divided
  have G_whole_over := GD_whole_over
  refine d.ok (N := ["p", "row", "further", "rest"]) Q4 (by rintro vs H Q E ⟨_, _, _, _, h, _⟩; rw [h]; rfl) (fun cdv A outer s H vs Q E hr h => ?_)
  obtain ⟨a, xs, ps, L, rfl, hS, hN, hne, T, k⟩ := h
  have hu := hr.units
  refine ⟨_, (d6 (i4 (i := 1) Q4.nd rfl (Or.inr rfl) (C4 (b7 (m8 p8 (i3 G_lifted hr (b7 (pv 0) b9) j5) d4 (fun _ _ => rfl)) b9)))
      (d6 (i4 (i := 2) Q4.nd rfl (Or.inl rfl) (i3 G_over_content hr (b7 (i3 G_whole_slope hr (b7 (m8 y9 (pv 1) d4 (fun _ _ => rfl)) b9) j5) b9) j5))
      (d6 (X5 PassesOwn.never (ab3 (pv 2) (fun _ => rfl)) (d6 (i4 (i := 3) Q4.nd rfl (Or.inl rfl) (m8 p8 (i3 G_whole_divided hr (b7 (m8 y9 (pv 1) (Q7 J4 d4) (fun _ _ => rfl)) (b7 (pv 2) b9)) j5) d4 (fun _ _ => rfl)))
      (d6 (aQ8 (aR0 PySem.F.plainAttrs_list PySem.F.slot_list_append PySem.F.type_list_append X7 (pv 1) (b7 (pv 2) b9)))
      (d8 (i4 (i := 2) Q4.nd rfl (Or.inl rfl) (i3 G_over_content hr (b7 (i3 G_whole_scaled hr (b7 (Q7 J4 d4) (b7 (pv 3) b9)) j5) b9) j5))))))
      (d8 (j8 (T5 (Nc := ["row", "wholes"]) (caps := [some 1, none]) rfl (Z9.of (osc := d5 K3) (N := ["p", "row", "further", "rest"]) (ks := ["row"]) rfl rfl rfl rfl (G1 rfl L8) (by decide +kernel)) (E1 (pv 1)) (fun C s₂ H₂ fp pins => (m6 (i := 1) (show List.Nodup (["row", "wholes"] : List Str) by decide +kernel) rfl (Or.inl rfl) (Or.inr rfl))) (fun C s₂ H₂ fp pins => (i3 G_whole_over hr (b7 (pv 1) (b7 (m8 (by exact y9 : IxR _ (aB7 K)) (pv 0) (Q7 J4 d4) (fun _ _ => rfl)) b9)) j5)))))))), ?_⟩
  rw [show start ["p", "row", "further", "rest"] [.ref a] = [some (.ref a), none, none, none] from rfl]
  have lps : 0 < ps.length := List.length_pos_iff.mpr hne
  have le11 := T.le
  obtain ⟨k0, k00, ek⟩ := T.ex
  refine i7 (fun σ H1 => ∃ D l0 s0 P0, σ = [some (.ref a), some (.ref D), none, none] ∧ d9 H H1 ∧ H D = none ∧ H1 D = some (.lst [.ref l0]) ∧ H1 l0 = some (.lst (P0.map V.int)) ∧ l0 ≠ D ∧ 0 < s0 ∧ (∀ v ∈ P0, Int.natAbs v < 2 ^ 80) ∧ P0.length = ps.length ∧ ps = scl s0 P0 ∧ t9 P0 = 1) (fun N hN2 => ?_) ?_
  · subst_eqs
    refine ⟨a, xs, ps, rfl, hS, hN, 80, T.cl, by decide, by decide, by omega, T.tl, fun r rs l s ws H1 s1 fl er es el bs s0' wb wl e g sp => ⟨r, rfl, _, SqT.of er, _, rfl, by decide, fun D hD => hN2 _ _ ⟨D, l, s, ws, rfl, s1.trans (d9.new hD _), s1.free hD, d7, ?_, i5 el hD, sp, wb, wl, e, g ?_⟩⟩⟩
    · rw [j3 (i5 el hD)]; exact el
    · intro z; rw [z] at wl; simp at wl; omega
  rintro σ H1 ⟨D, l0, s0, P0, rfl, s1, fD, eD, el, lD, s00, bP, lP, esc, gP⟩
  have tP : A8 P0 P0.length := bj9 esc T.tl
  have P0n : P0 ≠ [] := fun z => by rw [z] at lP; simp at lP; omega
  refine i7 (fun σ H2 => ∃ lB Q0, ∃ h : Int, σ = [some (.ref a), some (.ref D), some (.ref lB), none] ∧ d9 H1 H2 ∧ H1 lB = none ∧ H2 lB = some (.lst (Q0.map V.int)) ∧ Q0.length + 1 = ps.length ∧ A8 Q0 Q0.length ∧ (Q0 ≠ [] → t9 Q0 = 1) ∧ (∀ k, (aZ Q0 k).natAbs < 2 ^ 84) ∧ 1 ≤ h ∧ dP (zp P0) = b8 (h : Rat) * zp Q0) (fun N hN2 => ?_) ?_
  · subst_eqs
    refine ⟨_, SqL.of eD, _, rfl, l0, P0, rfl, SqL.of el, fun v hv => Nat.lt_of_lt_of_le (bP v hv) (h8 (by decide)), by omega, tP, fun r zs H2 s2 f2 e2 l2 t2 a2 z2 => ?_⟩
    have bz : ∀ k, (aZ zs k).natAbs < 2 ^ 84 := fun k => by
      rw [a2, Int.natAbs_mul, Int.natAbs_natCast]
      rcases Nat.lt_or_ge (k + 1) 11 with y | y
      · have := am3 bP (k + 1)
        calc (k + 1) * (aZ P0 (k + 1)).natAbs ≤ 10 * (aZ P0 (k + 1)).natAbs := Nat.mul_le_mul_right _ (by omega)
          _ < 2 ^ 84 := by omega
      · have : aZ P0 (k + 1) = 0 := by unfold aZ; rw [List.getElem?_eq_none (by omega)]; rfl
        rw [this]; simp
    refine ⟨r, zs, rfl, e2, fun v hv => Nat.lt_of_lt_of_le (ak8 bz v hv) (h8 (by decide)), by omega, t2, fun r' qs h H3 s3 f3 e3 l3 h1 a3 g3 => ?_⟩
    refine hN2 _ _ ⟨r', qs, h, rfl, s2.trans s3, s2.free f3, e3, by omega, aP1 t2 l3 a3, fun z => g3 fun y => z (List.eq_nil_of_length_eq_zero (by rw [l3, y]; rfl)), fun k => ?_, h1, ?_⟩
    · have := bz k
      rw [a3, Int.natAbs_mul] at this
      exact Nat.lt_of_le_of_lt (Nat.le_mul_of_pos_left _ (by omega)) this
    · rw [← z2]
      refine Pf.ext fun k => ?_
      rw [M1]
      show zc zs k = _ * zc qs k
      unfold zc
      rw [a3, Rat.intCast_mul]
  rintro σ H2 ⟨lB0, Q0, h, rfl, s2, fB, eB0, lQ, tQ, gQ, bQ, h1, edP⟩
  have s12 := s1.trans s2
  have sP : zp P0 = b8 (s0⁻¹ * k0) * fP (tfs (L.map rt1)) := by
    have e1 : qp ps = b8 s0 * zp P0 := by rw [esc]; exact bv7 s0 P0
    have n0 : s0 ≠ 0 := by grind
    have i0 := B8 n0
    have e2 : zp P0 = b8 s0⁻¹ * (b8 s0 * zp P0) := by
      generalize b8 s0 = X at *
      generalize b8 s0⁻¹ = Y at *
      grind
    rw [e2, ← e1, ek, z4]; grind
  have hq : (h : Rat) ≠ 0 := ad3 (by omega)
  have sQ : zp Q0 = b8 ((h : Rat)⁻¹ * (s0⁻¹ * k0)) * dP (fP (tfs (L.map rt1))) := by
    have i0 := B8 hq
    have e2 : zp Q0 = b8 (h : Rat)⁻¹ * (b8 (h : Rat) * zp Q0) := by
      generalize b8 (h : Rat) = X at *
      generalize b8 (h : Rat)⁻¹ = Y at *
      grind
    have e3 : dP (b8 (s0⁻¹ * k0) * fP (tfs (L.map rt1))) = b8 (s0⁻¹ * k0) * dP (fP (tfs (L.map rt1))) := bF9 _ _
    rw [e2, ← edP, sP, e3, z4 (h : Rat)⁻¹]; generalize b8 (h : Rat)⁻¹ = X; generalize b8 (s0⁻¹ * k0) = Y; generalize dP (fP (tfs (L.map rt1))) = Z; exact (show ∀ X Y Z : Pf, X * (Y * Z) = X * Y * Z from fun X Y Z => by grind) X Y Z
  obtain ⟨G, hG⟩ : ∃ G, G = gP1 (tfs (L.map rt1)) := ⟨_, rfl⟩
  obtain ⟨g, mg, hg⟩ := T.gp hne
  rw [← hG] at mg
  have n8 := T.n8
  obtain ⟨f1', f2'⟩ := aJ5 (aG5 T.fl)
  have fns := TF.fn T.fl.tf
  rw [← hG] at f1' f2'
  have dG0 : Dvd G (zp P0) := ⟨b8 (s0⁻¹ * k0) * aP (tfs (L.map rt1)) 1, (w9 _).mul (as1 fns 1), by rw [sP, f1']; grind⟩
  have dG1 : Dvd G (zp Q0) := ⟨b8 ((h : Rat)⁻¹ * (s0⁻¹ * k0)) * R.sP (tfs (L.map rt1)) 1, (w9 _).mul (aJ4 fns 1), by rw [sQ, f2']; grind⟩
  have kP : ∀ k, (aZ P0 k).natAbs ≤ 2 ^ 84 := fun k => Nat.le_of_lt (Nat.lt_of_lt_of_le (am3 bP k) (h8 (by decide)))
  have kQ : ∀ k, (aZ Q0 k).natAbs ≤ 2 ^ 84 := fun k => Nat.le_of_lt (bQ k)
  have hK : 1 ≤ 2 ^ 84 := Nat.one_le_two_pow
  have hc : 2 * (2 * ps.length - 5) * 2 ^ 84 ≤ 2 ^ 90 := by
    rw [show (90 : Nat) = 6 + 84 by decide, Nat.pow_add 2 6]
    exact Nat.mul_le_mul_right _ (by omega)
  have C0 : Cs 90 ps.length P0 Q0 P0 Q0 := ⟨tP, tQ, by omega, by omega, gQ, Eu.base, fun k => Nat.lt_of_lt_of_le (am3 bP k) (h8 (by omega)), fun k => Nat.lt_of_lt_of_le (bQ k) (h8 (by omega))⟩
  have R0 := CR.start C0 (by omega) gP dG0 dG1
  have lenG : ∀ {X : List Int}, A8 X X.length → X ≠ [] → Dvd G (zp X) → g + 1 ≤ X.length := fun {X} tX nX dX => by
    have pX := List.length_pos_iff.mpr nX
    have := bo7 mg.lm (aI7 tX pX) dX
    omega
  refine i7 (fun σ H3 => ∃ lB rs Ss A o3, σ = [some (.ref a), some (.ref D), some (.ref lB), o3] ∧ d9 H H3 ∧ H3 D = some (.lst (rs.map V.ref)) ∧ RwZ H3 rs Ss ∧ CR 90 ps.length P0 Q0 G Ss A []) (fun N hN2 => ?_) ?_
  · show aj0 _ _ _ _ _
    obtain ⟨J, hJ⟩ : ∃ J : Nat → L2.St → Hp → Prop, ∀ m σ H3, J m σ H3 ↔ ∃ lB rs Ss A B o3, σ = [some (.ref a), some (.ref D), some (.ref lB), o3] ∧ d9 H H3 ∧ H3 D = some (.lst (rs.map V.ref)) ∧ RwZ H3 rs Ss ∧ D ∉ rs ∧ lB ≠ D ∧ H3 lB = some (.lst (B.map V.int)) ∧ CR 90 ps.length P0 Q0 G Ss A B ∧ m = B.length := ⟨_, fun _ _ _ => Iff.rfl⟩
    refine bj8 J Q0.length ((hJ _ _ _).mpr ⟨lB0, [l0], [P0], P0, Q0, _, rfl, s12, s2 _ _ eD, .cons (s2 _ _ el) .nil, by simpa using lD.symm, (i5 eD fB).symm, eB0, R0, rfl⟩) ?_
    intro m σ H3 hm
    obtain ⟨lB, rs, Ss, A, B, o3, rfl, s3, eD3, rw3, nD, lBD, eB, R, rfl⟩ := (hJ _ _ _).mp hm
    have lr := rw3.length
    have S := R.cs
    subst_eqs
    refine ⟨_, .inl ⟨_, SqL.of eB, rfl⟩, D5 (fun hB => WhG.mk ?_) (fun hB => ?_)⟩
    · have hB' : B ≠ [] := fun z => by rw [z] at hB; simp at hB
      have bpos : 0 < B.length := List.length_pos_iff.mpr hB'
      have lAB := S.lB
      have lA := S.lA
      have gB := lenG S.tB hB' R.gB
      have sl : Ss[Ss.length - 1]? = some A := by rw [← List.getLast?_eq_getElem?]; exact R.la
      have spos : 0 < Ss.length := (Nat.zero_lt_of_lt (List.getElem?_eq_some_iff.mp sl).1)
      obtain ⟨pA, hpA⟩ : ∃ pA, rs[rs.length - 1]? = some pA := ⟨_, List.getElem?_eq_getElem (by omega)⟩
      obtain ⟨A', hA', eA⟩ := rw3.get hpA
      rw [lr, sl] at hA'
      cases hA'
      obtain ⟨wd, hwd⟩ : ∃ wd, wd = 90 * (2 * (ps.length - A.length) + 1) := ⟨_, rfl⟩
      have sz := bp5 (x := ps.length - A.length) (d := A.length - B.length) (by omega)
      have swA := S.wA
      have swB := S.wB
      rw [← hwd] at sz swA swB
      subst_eqs
      have Dsz : wd ≤ 5000 := Nat.le_trans (Nat.le_add_right _ _) sz
      refine ⟨_, SqL.of eD3, _, ar7 (x := .ref pA) (by rw [List.length_map, List.getElem?_map, hpA]; rfl), pA, lB, A, B, B.length - 1, A.length - B.length + 1, wd, wd, rfl, SqL.of eA, SqL.of eB, by omega, by omega, by omega, Y6 S.tB bpos, S.tA, by omega, ak8 swA, ak8 swB, sz, Dsz, fun r6 lq lR many Qz Rz H6 s6 fq fr nqr er6 eq6 eR6 m1 mb qb rb rl rt ql qt dv ex => ?_⟩
      have eD6 := s6 _ _ eD3
      have lRD : lR ≠ D := (i5 eD3 fr).symm
      have rln := R.ln
      refine ⟨r6, rfl, _, SqT.of er6, _, rfl, .inl ⟨_, SqL.of eD6⟩, _, eD6, Z5 (by rw [List.length_map]; omega), ?_⟩
      have s7 : d9 H (upd H6 D (.lst (rs.map V.ref ++ [.ref lB]))) := (s3.trans s6).over fD _
      have eR7 : (upd H6 D (.lst (rs.map V.ref ++ [.ref lB]))) lR = some (.lst (Rz.map V.int)) := by rw [j3 lRD]; exact eR6
      have nD7 : D ∉ rs ++ [lB] := fun z => by
        rcases List.mem_append.mp z with y | y
        · exact nD y
        · exact lBD (List.mem_singleton.mp y).symm
      have rw7 : RwZ (upd H6 D (.lst (rs.map V.ref ++ [.ref lB]))) (rs ++ [lB]) (Ss ++ [B]) := ((rw3.same s6).append (.cons (s6 _ _ eB) .nil)).over nD7
      have eD7 : (upd H6 D (.lst (rs.map V.ref ++ [.ref lB]))) D = some (.lst ((rs ++ [lB]).map V.ref)) := by rw [d7, List.map_append]; rfl
      generalize upd H6 D (.lst (rs.map V.ref ++ [.ref lB])) = H7 at *
      refine ⟨-1, lR, Rz, wd + (A.length - B.length + 1) * (wd + 1), 1, rfl, SqL.of eR7, by omega, by decide, rb, Nat.le_trans (Nat.add_le_add_right sz 1) (by decide), fun r8 zs H8 s8 f8 e8 tz lz hz => ?_⟩
      have bz : ∀ v ∈ zs, Int.natAbs v < 2 ^ 6000 := ak8 fun k => by
        rw [hz k, Int.natAbs_mul]
        have := am3 rb k
        have h2 := Nat.lt_of_lt_of_le this (h8 (show wd + (A.length - B.length + 1) * (wd + 1) ≤ 6000 from Nat.le_trans sz (by decide)))
        simpa using h2
      refine ⟨r8, zs, rfl, e8, bz, by omega, tz, fun r9 Cz h9 H9 s9 f9 e9 l9 h91 z9 g9 => ?_⟩
      have hRz : ∀ k, aZ Rz k = -h9 * aZ Cz k := fun k => by
        have a1 := hz k
        have a2 := z9 k
        rw [Int.neg_mul, ← a2, a1]; omega
      have R' := R.step lP lQ kP kQ hK hc (by decide) bpos m1 dv hRz h91 qt (by omega) (aP1 tz l9 z9) (by omega) (fun hC => g9 fun z => hC (List.eq_nil_of_length_eq_zero (by rw [l9, z]; rfl)))
      exact WgN.mk (m' := Cz.length) (by omega) ((hJ _ _ _).mpr ⟨r9, rs ++ [lB], Ss ++ [B], B, Cz, _, rfl, s7.trans (s8.trans s9), s9 _ _ (s8 _ _ eD7), rw7.same (s8.trans s9), nD7, (i5 (s8 _ _ eD7) f9).symm, e9, R', rfl⟩)
    · have hB0 : B = [] := by
        cases B with
        | nil => rfl
        | cons => simp at hB
      subst hB0
      exact hN2 _ _ ⟨lB, rs, Ss, A, o3, rfl, s3, eD3, rw3, R⟩
  rintro σ H3 ⟨lB, rs, Ss, A, o3, rfl, s3, eD3, rw3, R⟩
  have lr := rw3.length
  have lA0 : A ≠ [] := fun z => by have := R.cs.lB; rw [z] at this; simp at this
  have apos := List.length_pos_iff.mpr lA0
  have gA := (R.ok A (List.mem_of_getLast? R.la)).2.1
  have rln : Ss.length ≤ 11 := by have := R.ln; simp at this; omega
  have hk : 0 < (s0⁻¹ * k0) * ((h : Rat)⁻¹ * (s0⁻¹ * k0)) := by
    have ih : 0 < (h : Rat)⁻¹ := Rat.inv_pos.mpr (Rat.intCast_pos.mpr (by omega))
    have is : 0 < s0⁻¹ := Rat.inv_pos.mpr s00
    generalize (h : Rat)⁻¹ = x at ih ⊢
    generalize s0⁻¹ = y at is ⊢
    have yk : y * k0 ≠ 0 := fun z => by
      rcases Rat.mul_eq_zero.mp z with z | z
      · rw [z] at is; grind
      · exact k00 z
    have sq : 0 < (y * k0) * (y * k0) := by
      rcases (show y * k0 < 0 ∨ 0 < y * k0 by grind) with z | z
      · have := Rat.mul_pos (show 0 < -(y * k0) by grind) (show 0 < -(y * k0) by grind)
        grind
      · exact Rat.mul_pos z z
    have := Rat.mul_pos ih sq
    grind
  have fin := CR.fin (ps := ps) (L := L) (by rw [← hG]; exact R) T hne sP sQ hk lA0 gA rln
  obtain ⟨bA, fin⟩ := fin
  have sl : Ss[Ss.length - 1]? = some A := by rw [← List.getLast?_eq_getElem?]; exact R.la
  have spos : 0 < Ss.length := (Nat.zero_lt_of_lt (List.getElem?_eq_some_iff.mp sl).1)
  obtain ⟨pA, hpA⟩ : ∃ pA, rs[rs.length - 1]? = some pA := ⟨_, List.getElem?_eq_getElem (by omega)⟩
  obtain ⟨A', hA', eA⟩ := rw3.get hpA
  rw [lr, sl] at hA'
  cases hA'
  subst_eqs
  refine ⟨⟨_, SqL.of eD3⟩, fun D2 hD2 => ?_⟩
  refine T7 (rs.map V.ref) (fun i σ H5 => ∃ o ts Ts, σ = [some (.ref D), o] ∧ d9 H3 H5 ∧ H5 D2 = some (.lst (ts.map V.ref)) ∧ RwZ H5 ts Ts ∧ D2 ∉ ts ∧ Qts A (Ss.take i) Ts ∧ ∀ T ∈ Ts, T ≠ [] ∧ A8 T T.length ∧ T.length ≤ 11 ∧ ∀ v ∈ T, Int.natAbs v < 2 ^ 5000) ⟨_, [], [], rfl, d9.new hD2 _, d7, .nil, by simp, .nil, by simp⟩ (fun i σ H5 _ ⟨_, _, _, _, s5, _⟩ => SqL.of (s5 _ _ eD3)) ?_ ?_
  · rintro i x σ H5 hx ⟨o, ts, Ts, rfl, s5, e5, rw5, nD5, qt5, ok5⟩
    have hi := (List.getElem?_eq_some_iff.mp hx).1
    rw [List.getElem?_map] at hx
    cases hp : rs[i]? with
    | none => rw [hp] at hx; cases hx
    | some p =>
      rw [hp] at hx
      cases hx
      obtain ⟨S, hS', eS⟩ := rw3.get hp
      obtain ⟨tS, gS, lS, lAS, bS⟩ := R.ok S (List.mem_of_getElem? hS')
      have nS : S ≠ [] := fun z => by rw [z] at lAS; simp at lAS; exact lA0 lAS
      have gS' := lenG tS nS (R.gs S (List.mem_of_getElem? hS'))
      subst_eqs
      have lts := rw5.length
      have lq5 := qt5.len
      rw [List.length_take] at lq5
      refine ⟨_, SqL.of (s5 _ _ eD3), _, ar7 (x := .ref pA) (by rw [List.length_map, List.getElem?_map, hpA]; rfl), p, pA, S, A, A.length - 1, S.length - A.length + 1, 90 * (2 * (ps.length - S.length) + 1), 75, rfl, SqL.of (s5 _ _ eS), SqL.of (s5 _ _ eA), by omega, by omega, by omega, Y6 R.cs.tA apos, tS, by omega, ak8 bS, ak8 bA, by omega, by decide, bo5 gA (R.all S (List.mem_of_getElem? hS')), fun lq Qz H6 s6 f6 e6 l6 t6 z6 b6 => ?_⟩
      have nlq : lq ≠ D2 := (i5 e5 f6).symm
      have nm : D2 ∉ ts ++ [lq] := fun z => by
        rcases List.mem_append.mp z with y | y
        · exact nD5 y
        · exact nlq (List.mem_singleton.mp y).symm
      refine N5.mk hi (s6 _ _ e5) (Z5 (by rw [List.length_map]; omega)) ⟨_, rfl, (s5.trans s6).over hD2 _, ts ++ [lq], by rw [d7, List.map_append]; rfl, Ts ++ [Qz], ((rw5.same s6).append (.cons e6 .nil)).over nm, nm, ?_, fun X hX => ?_⟩
      · rw [W3 hS']
        exact qt5.snoc z6
      · rcases List.mem_append.mp hX with y | y
        · exact ok5 X y
        · rw [List.mem_singleton.mp y]
          exact ⟨fun z => by rw [z] at l6; simp at l6; omega, t6, by omega, b6⟩
  · rintro σ H5 ⟨o, ts, Ts, rfl, s5, e5, rw5, nD5, qt5, ok5⟩
    rw [List.length_map, lr, List.take_length] at qt5
    exact k D2 ts Ts H5 (s3.trans s5) e5 rw5 (fin Ts qt5 ok5)
end
section
variable {P:Program} {w:World} {K:PySem.W.Frag} {mg:Str→Option Value} {base:Heap}
abbrev M6:Stmt:=top 49
theorem Q5:j7 ["_law_top","_law_bottom","_law_one","_law_other_here"] ["_law_top","_law_bottom"] (d5 M6):=by and_intros
theorem aI0 {f : Addr} (d : Df K mg "_law_low" M6 ["_law_top", "_law_bottom"] f) (n_abs : mg "abs" = none) : Def P w K mg base CX0 1 "_law_low" f ["_law_top", "_law_bottom"] aH1 := by
  refine d.ok (N := ["_law_top", "_law_bottom", "_law_one", "_law_other_here"]) Q5 (fun vs H Q E ⟨a, b, h, _⟩ => by rw [h]; rfl) (fun cdv A outer s H vs Q E hr h => ?_)
  obtain ⟨t, b, rfl, hb0, hb, k⟩ := h
  refine ⟨_, (d6 (i4 (i := 2) Q5.nd rfl (Or.inl rfl) (i9 V3 rfl n_abs (by decide +kernel) (b7 (pv 0) b9)))
      (d6 (i4 (i := 3) Q5.nd rfl (Or.inl rfl) (i9 V3 rfl n_abs (by decide +kernel) (b7 (pv 1) b9)))
      (d6 (X5 PassesOwn.never (p5 al4 (pv 3) d4 (n5 _)) (d8 (aL7 (i := 2) (j := 3) rfl Q5.nd rfl rfl (by decide) rfl rfl (b7 (pv 3) (b7 (i6 O3 (pv 2) (pv 3)) b9)) rfl)))
      (d6 (C9 (p5 ae4 (pv 1) d4 (n5 _)) (d8 (i4 (i := 2) Q5.nd rfl (Or.inl rfl) (i6 N0 d4 (pv 2)))) v8)
      (d8 (j8 (w8 (b7 (i6 M3 (pv 0) (pv 2)) (b7 (i6 M3 (pv 1) (pv 2)) b9))))))))), ?_⟩
  rw [show start ["_law_top", "_law_bottom", "_law_one", "_law_other_here"] [.int t, .int b] = [some (.int t), some (.int b), none, none] from rfl]
  subst_eqs
  refine aG4 (fun σ H1 => H1 = H ∧ ∃ x y : Int, σ = [some (.int t), some (.int b), some (.int x), some (.int y)] ∧ 0 ≤ x ∧ 0 ≤ y ∧ Int.gcd x y = Int.gcd t b) (fun σ _ => match σ with | [_, _, _, some (.int y)] => y.natAbs | _ => 0)
    ⟨rfl, _, _, rfl, by split <;> omega, by split <;> omega, ?_⟩ ?_ ?_
  · have e1 : (if t < 0 then -t else t) = (t.natAbs : Int) := by split <;> omega
    have e2 : (if b < 0 then -b else b) = (b.natAbs : Int) := by split <;> omega
    rw [e1, e2, Int.gcd_eq_natAbs_gcd_natAbs, Int.gcd_eq_natAbs_gcd_natAbs]; simp
  · rintro σ H1 ⟨rfl, x, y, rfl, hx, hy, hg⟩
    subst_eqs
    split
    · rename_i hy0
      exact ⟨by omega, hy, Int.fmod_nonneg_of_pos x hy0, by rw [aJ3]; exact hg, ab9 x (by omega)⟩
    · rename_i hy0
      have hy' : y = 0 := by omega
      subst hy'
      have ex : x = (Int.gcd t b : Int) := by
        rw [Int.gcd_zero_right] at hg
        omega
      have gp := ad4 (t := t) hb0
      have gl := bf8 (a := t) hb0 hb
      by_cases hs : b < 0
      · rw [if_pos hs]
        obtain ⟨e1, e2⟩ := aD9 (t := t) (g := 0 - x) hb0 (by rw [if_pos hs, ex]; omega)
        have dv : ∀ i, az8 i (0 - x) := fun i => ae7 (by omega) (by rw [show 0 - x = -x by omega, Int.natAbs_neg, ex]; exact ae5 gl)
        refine ⟨dv _, dv _, x9, fun r hr' => ?_⟩
        exact k r _ (d9.new hr' _) (by rw [d7]; unfold B5; rw [e1, e2])
      · rw [if_neg hs]
        obtain ⟨e1, e2⟩ := aD9 (t := t) (g := x) hb0 (by rw [if_neg hs, ex])
        have dv : ∀ i, az8 i x := fun i => ae7 (by omega) (by rw [ex]; exact ae5 gl)
        refine ⟨dv _, dv _, x9, fun r hr' => ?_⟩
        exact k r _ (d9.new hr' _) (by rw [d7]; unfold B5; rw [e1, e2])
  · intro σ H1 Q1 Q2 hQ h
    simp only [bz3, ipM, bv4, bt7, aG6, ap5, bv2, aZ2, tSl, aY7, aA2, bv1, bv3, aB9, bf3, M0, List.map_cons, List.map_nil, Option.bind_none, Option.bind_some, Option.join_some, bk1, bu0, bu3, tOr, bt8, aP3, tB, tOp, tUn, bu1, tBM, Y7, tC, tCB, bk2, aU1, C1, bz5, ao0, L9, ao1, ap4, aU0, bk3, bt5, bt9, tIf, aZ3, bt6, aY8, bk4, aA4, aZ0, aY9, aK7, aK6, bu2, ipI, rI, rI0, rU, aB8, aB7, bb0, ba9, rEq, rNe, aL4, aL3, aL2, bv5, bv6, bf1, bf0, bf2, ao2, cxR, cxX, Cx.nox, Cx.wish, Cx.body, Cx.suite, List.getElem?_cons_zero, List.getElem?_cons_succ, List.set_cons_zero, List.set_cons_succ, Option.some.injEq, V.int.injEq, V.bl.injEq, V.ref.injEq, V.str.injEq, exists_eq_left', exists_eq_left, exists_and_left, true_and, and_true, List.cons.injEq, reduceCtorEq, Bool.false_eq_true, if_false, if_true, exists_const, ↓reduceIte, tyV, List.length_cons, List.length_nil, exists_eq, List.append_nil, List.cons_append, List.nil_append, decide_eq_true_eq, not_true_eq_false, not_false_eq_true, Bool.not_eq_true', decide_eq_false_iff_not, Bool.not_true, Bool.not_false, and_assoc, false_and, false_or, or_false] at h ⊢
    obtain ⟨v, e1, i, e2, e3⟩ := h
    exact ⟨v, e1, i, e2, hQ _ _ e3⟩
abbrev M5:Stmt:=top 47
theorem N1:j7 ["_law_script","_law_at","_law_cell","_law_prime","_law_great"] ["_law_script","_law_at"] (d5 M5):=by and_intros
set_option maxHeartbeats 0 in
theorem aH9 {f:Addr} (d:Df K mg "_law_urn" M5 ["_law_script","_law_at"] f) (n_len:mg "len" = none) (n_abs:mg "abs" = none):Def P w K mg base CX0 1 "_law_urn" f ["_law_script","_law_at"] (br2 K):=by
 refine d.ok (N:=["_law_script","_law_at","_law_cell","_law_prime","_law_great"]) N1 (fun vs H Q E ⟨x,y,p,h,_⟩=>by rw [h];rfl) (fun cdv A outer s H vs Q E hr h=>?_)
 obtain ⟨a,ns,i,rfl,hS,h0,h64,k⟩:=h
 refine ⟨_,(d6 (i4 (i:=2) N1.nd rfl (Or.inl rfl) d4)
   (d6 (C9 (p5 ae4 (pv 1) (i9 q8 rfl n_len (by decide +kernel) (b7 (pv 0) b9)) (n5 _)) (d8 (i4 (i:=2) N1.nd rfl (Or.inl rfl) (m8 y9 (pv 0) (pv 1) (fun _ _=>rfl)))) v8)
   (d6 (i4 (i:=3) N1.nd rfl (Or.inl rfl) (m8 p8 (w8 (b7 d4 (b7 d4 (b7 d4 (b7 d4 (b7 d4 (b7 d4 (b7 d4 (b7 d4 b9))))))))) (i6 O3 (pv 1) d4) (fun _ _=>rfl)))
   (d6 (i4 (i:=4) N1.nd rfl (Or.inl rfl) d4)
   (d6 (C9 (p5 bc5 (i9 V3 rfl n_abs (by decide +kernel) (b7 (pv 2) b9)) (i6 ab5 d4 d4) (n5 _)) (d8 (i4 (i:=4) N1.nd rfl (Or.inl rfl) (i9 V3 rfl n_abs (by decide +kernel) (b7 (pv 2) b9)))) v8)
   (d8 (j8 (C4 (b7 (pv 4) (b7 (i6 O3 (i6 ab5 (i6 G8 (i6 G8 (i6 O3 (pv 2) (pv 3)) (i6 v1 d4 (pv 1))) d4) d4) (pv 3)) (b7 (pv 3) b9))))))))))),?_⟩
 rw [show start ["_law_script","_law_at","_law_cell","_law_prime","_law_great"] [.ref a,.int i]=[some (.ref a),some (.int i),none,none,none] from rfl]
 refine i7 (fun σ H1=>H1=H∧σ=[some (.ref a),some (.int i),some (.int 0),none,none]) (fun N hN=>?_) ?_
 ·subst_eqs
  exact hN _ _ ⟨rfl,rfl⟩
 rintro σ H1 ⟨rfl,rfl⟩
 refine i7 (fun σ H2=>H2=H1∧∃ c:Int,σ=[some (.ref a),some (.int i),some (.int c),none,none]) (fun N hN=>?_) ?_
 ·subst_eqs
  refine ⟨_,.inl hS,D5 (fun hl=>?_) (fun _=>hN _ _ ⟨rfl,_,rfl⟩)⟩
  obtain ⟨c,hc⟩:=aX4 (ns:=ns) h0 (by simpa using hl)
  exact ⟨_,hS,_,hc,hN _ _ ⟨rfl,c,rfl⟩⟩
 rintro σ H2 ⟨rfl,c,rfl⟩
 obtain ⟨pr,hpr,p1,p2⟩:=bb5 h0
 refine i7 (fun σ H3=>d9 H2 H3∧σ=[some (.ref a),some (.int i),some (.int c),some (.int pr),none]) (fun N hN=>?_) ?_
 ·subst_eqs
  exact ⟨by decide,fun p hp=>⟨by decide,_,SqT.of d7,_,hpr,hN _ _ ⟨d9.new hp _,rfl⟩⟩⟩
 rintro σ H3 ⟨s1,rfl⟩
 refine i7 (fun σ H4=>H4=H3∧σ=[some (.ref a),some (.int i),some (.int c),some (.int pr),some (.int 0)]) (fun N hN=>?_) ?_
 ·subst_eqs
  exact hN _ _ ⟨rfl,rfl⟩
 rintro σ H4 ⟨rfl,rfl⟩
 refine i7 (fun σ H5=>H5=H4∧∃ g:Int,0≤g∧σ=[some (.ref a),some (.int i),some (.int c),some (.int pr),some (.int g)]) (fun N hN=>?_) ?_
 ·subst_eqs
  exact ⟨⟨by decide,by decide,by decide⟩,D5 (fun _=>hN _ _ ⟨rfl,_,by split <;> omega,rfl⟩) (fun _=>hN _ _ ⟨rfl,_,Int.le_refl _,rfl⟩)⟩
 rintro σ H5 ⟨rfl,g,hg,rfl⟩
 subst_eqs
 have m0:=Int.fmod_nonneg_of_pos c (show 0 < pr by omega)
 have m1:=Int.fmod_lt_of_pos c (show 0 < pr by omega)
 refine ⟨by omega,bD0 (by decide),⟨by decide,by decide,by omega⟩,by omega,by decide,fun r hr'=>?_⟩
 refine k r _ (s1.trans (d9.new hr' _)) (s1.free hr') ⟨g,_,pr,d7,hg,Int.fmod_nonneg_of_pos _ (by omega),?_,by omega,by omega⟩
 have:=Int.fmod_lt_of_pos ((c.fmod pr + 65537 * i + 101) ^ (3:Int).toNat) (show 0 < pr by omega)
 omega
abbrev L5:Stmt:=top 48
theorem ah1:j7 ["_law_urn_here","_law_many","_law_drawn"] ["_law_urn_here","_law_many"] (d5 L5):=by and_intros
set_option maxHeartbeats 0 in
theorem aD5 {f : Addr} (d : Df K mg "_law_draw" L5 ["_law_urn_here", "_law_many"] f) : Def P w K mg base CX0 1 "_law_draw" f ["_law_urn_here", "_law_many"] N7 := by
  refine d.ok (N := ["_law_urn_here", "_law_many", "_law_drawn"]) ah1 (fun vs H Q E ⟨x, y, h, _⟩ => by rw [h]; rfl) (fun cdv A outer s H vs Q E hr h => ?_)
  obtain ⟨u, n, rfl, ⟨g, m, p, hu, g0, m0, m1, p0, p1⟩, n0, n1, k⟩ := h
  refine ⟨_, (d6 (C9 (p5 al4 (m8 y9 (pv 0) d4 (fun _ _ => rfl)) d4 (n5 _)) (d6 (i4 (i := 2) ah1.nd rfl (Or.inl rfl) (i6 O3 (m8 y9 (pv 0) d4 (fun _ _ => rfl)) (pv 1)))
      (d6 (Z2 (i6 M3 (m8 y9 (pv 0) d4 (fun _ _ => rfl)) (pv 1)) (aC5 (pv 0) d4 aa7))
      (d8 (j8 (pv 2))))) v8)
      (d6 (Z2 (i6 O3 (i6 G8 (i6 v1 (m8 y9 (pv 0) d4 (fun _ _ => rfl)) d4) d4) (m8 y9 (pv 0) d4 (fun _ _ => rfl))) (aC5 (pv 0) d4 aa7))
      (d8 (j8 (i6 O3 (i6 M3 (i6 O3 (i6 ab5 (i6 M3 (m8 y9 (pv 0) d4 (fun _ _ => rfl)) d4) d4) d4) d4) (pv 1)))))), ?_⟩
  rw [show start ["_law_urn_here", "_law_many", "_law_drawn"] [.ref u, .int n] = [some (.ref u), some (.int n), none] from rfl]
  have L1 : SqL K H u [.int g, .int m, .int p] := SqL.of hu
  have x0 : ∀ g m p : Int, atI [V.int g, .int m, .int p] 0 = some (.int g) := fun _ _ _ => rfl
  have x1 : ∀ g m p : Int, atI [V.int g, .int m, .int p] 1 = some (.int m) := fun _ _ _ => rfl
  have x2 : ∀ g m p : Int, atI [V.int g, .int m, .int p] 2 = some (.int p) := fun _ _ _ => rfl
  subst_eqs
  have dn : ∀ i, az8 i n := fun i => ae7 (by omega) (Nat.lt_of_lt_of_le (show n.natAbs < 2 ^ 40 by omega) (h8 (by decide)))
  refine ⟨_, L1, _, x0 g m p, _, rfl, D5 (fun hg => ?_) (fun hg => ?_)⟩
  · refine ⟨_, L1, _, x0 g m p, _, rfl, by omega, _, L1, _, x0 g m p, _, rfl, dn _, _, hu, 0, rfl, ?_⟩
    exact k _ _ (Int.fmod_nonneg_of_pos _ n0) (Int.fmod_lt_of_pos _ n0) (v9.upd _ _ _) ⟨g.fdiv n, m, p, d7, Int.fdiv_nonneg g0 (by omega), m0, m1, p0, p1⟩
  · have q0 := Int.fmod_nonneg_of_pos (m * 60013 + 12289) p0
    have q1 := Int.fmod_lt_of_pos (m * 60013 + 12289) p0
    have z : SqL K (upd H u (.lst [.int g, .int ((m * 60013 + 12289).fmod p), .int p])) u [.int g, .int ((m * 60013 + 12289).fmod p), .int p] := SqL.of d7
    have d16 : 0 ≤ ((m * 60013 + 12289).fmod p).fdiv 16 ∧ ((m * 60013 + 12289).fmod p).fdiv 16 < 2 ^ 40 := by
      rw [Int.fdiv_eq_ediv_of_nonneg _ (by decide)]
      omega
    refine ⟨_, L1, _, x1 g m p, _, rfl, bs1 (by decide), _, L1, _, x2 g m p, _, rfl, by omega, _, hu, 1, rfl, _, z, _, x1 _ _ _, _, rfl, ae7 (by decide) (Nat.lt_of_lt_of_le (show (16 : Int).natAbs < 2 ^ 40 by decide) (h8 (by decide))), ⟨by decide, by decide, by omega⟩, by decide, ae7 (by decide) (Nat.lt_of_lt_of_le (show (8 : Int).natAbs < 2 ^ 40 by decide) (h8 (by decide))), by omega, ?_⟩
    exact k _ _ (Int.fmod_nonneg_of_pos _ n0) (Int.fmod_lt_of_pos _ n0) (v9.upd _ _ _) ⟨g, _, p, d7, g0, q0, by omega, p0, p1⟩
abbrev L4:Stmt:=top 55
theorem aB6:j7 ["_law_urn_here"] ["_law_urn_here"] (d5 L4):=by and_intros
set_option maxHeartbeats 0 in
theorem aD4 {f fd:Addr} (d:Df K mg "_law_kind" L4 ["_law_urn_here"] f) (G__law_draw:Def P w K mg base CX0 1 "_law_draw" fd ["_law_urn_here","_law_many"] N7):Def P w K mg base CX0 2 "_law_kind" f ["_law_urn_here"] aZ9:=by
 refine d.ok (N:=["_law_urn_here"]) aB6 (fun vs H Q E ⟨u,h,_⟩=>by rw [h];rfl) (fun cdv A outer s H vs Q E hr h=>?_)
 obtain ⟨u,rfl,hu,k⟩:=h
 refine ⟨_,(d8 (j8 (m8 y9 (C4 (b7 d4 (b7 d4 (b7 d4 (b7 d4 (b7 d4 (b7 d4 (b7 d4 (b7 d4 b9))))))))) (i3 G__law_draw hr (b7 (pv 0) (b7 d4 b9)) j5) (fun _ _=>rfl)))),?_⟩
 rw [show start ["_law_urn_here"] [.ref u]=[some (.ref u)] from rfl]
 simp! [N7]
 refine ⟨by decide,fun l hl=>⟨ag7 hu hl,by decide,by decide,fun r H' r0 r1 sx hu'=>?_⟩⟩
 have e:=sx l _ d7 (ap2 hu hl)
 have sx':v9 u H H':=v9.trans (d9.x (d9.new hl _) u) sx
 have h3:r=0 ∨ r=1 ∨ r=2 ∨ r=3 ∨ r=4 ∨ r=5 ∨ r=6 ∨ r=7:=by omega
 rcases h3 with h | h | h | h | h | h | h | h <;> subst h <;> exact ⟨_,SqL.of e,_,rfl,k _ H' (by decide) sx' hu'⟩
abbrev D8:Stmt:=top 56
theorem ab0:j7 ["_law_urn_here","_law_kind_here","_law_top"] ["_law_urn_here","_law_kind_here"] (d5 D8):=by and_intros
abbrev E8:Stmt:=top 61
theorem au1:j7 ["_law_thing"] ["_law_thing"] (d5 E8):=by and_intros
theorem au9 {f:Addr} (d:Df K mg "_law_whole" E8 ["_law_thing"] f) (n_isinstance:mg "isinstance" = none) (n_int:mg "int" = none) (n_bool:mg "bool" = none):Def P w K mg base CX0 1 "_law_whole" f ["_law_thing"] aA7:=by
 refine d.ok (N:=["_law_thing"]) au1 (fun vs H Q E ⟨u,h,_⟩=>by rw [h];rfl) (fun cdv A outer s H vs Q E hr h=>?_)
 obtain ⟨i,rfl,k⟩:=h
 refine ⟨_,(d8 (j8 (aM0 (i9 t3 rfl n_isinstance (by decide +kernel) (b7 (pv 0) (b7 (aC6 (v:=.ty "int") rfl n_int (by decide +kernel) rfl) b9))) (aj4 (bb9 (i9 t3 rfl n_isinstance (by decide +kernel) (b7 (pv 0) (b7 (aC6 (v:=.ty "bool") rfl n_bool (by decide +kernel) rfl) b9)))))))),?_⟩
 rw [show start ["_law_thing"] [.int i]=[some (.int i)] from rfl]
 subst_eqs
 exact ⟨trivial,_,.of (.int i),_,aI9,bF6 ⟨trivial,_,.of (.int i),_,aE2,k⟩⟩
end
section
variable {P:Program} {w:World} {K:PySem.W.Frag} {mg:Str→Option Value} {base:Heap}
def spOther:Sp:=fun vs H Q _ => ∃ u kd,vs=[.ref u,.int kd]∧v7 H u∧∀ r q H',Sm q→q ≠ 0→v9 u H H'→v7 H' u→H' r=some (.tup (B5 q))→Q (.ref r) H'
abbrev F4:Stmt:=top 57
theorem ae1:j7 ["_law_urn_here","_law_kind_here","_law_found"] ["_law_urn_here","_law_kind_here"] (d5 F4):=by and_intros
def aZ6 (K:PySem.W.Frag):Sp:=fun vs H Q _ => ∃ a xs qs,vs=[.ref a]∧SqL K H a xs∧B4 H xs qs∧∀ m r H',T9 qs m→d9 H H'→H r=none→H' r=some (.lst (xs.take m))→Q (.ref r) H'
abbrev K4:Stmt:=top 59
theorem ah0:j7 ["_law_numbers","_law_found"] ["_law_numbers"] (d5 K4):=by and_intros
theorem bn5 {α:Type} {xs:List α} {x:α} (h:xs[xs.length - 1]? = some x):atI xs (-1)=some x:=by
 have hp:xs.length - 1 < xs.length:=(List.getElem?_eq_some_iff.mp h).1
 have e:ixN xs.length (-1)=some (xs.length - 1):=by
  unfold ixN
  rw [if_neg (by decide)]
  rw [if_pos (by omega)]
  congr 1
  omega
 unfold atI
 rw [e]
 exact h
set_option maxHeartbeats 0 in
theorem aC8 {f : Addr} (d : Df K mg "_law_trim" K4 ["_law_numbers"] f) (n_list : mg "list" = none) : Def P w K mg base CX0 1 "_law_trim" f ["_law_numbers"] (aZ6 K) := by
  refine d.ok (N := ["_law_numbers", "_law_found"]) ah0 (fun vs H Q E ⟨a, xs, qs, h, _⟩ => by rw [h]; rfl) (fun cdv A outer s H vs Q E hr h => ?_)
  obtain ⟨a, xs, qs, rfl, hS, hN, k⟩ := h
  have hu := hr.units
  refine ⟨_, (d6 (i4 (i := 1) ah0.nd rfl (Or.inl rfl) (N4 T8 rfl n_list (by decide +kernel) (b7 (pv 0) b9)))
      (d6 (X5 PassesOwn.never (PW.pt (W5 (p5 (aj6 hu) (pv 1) (C4 b9) (n5 _)) (W0 (p5 aa1 (m8 p8 (m8 y9 (pv 1) (Q7 J4 d4) (fun _ _ => rfl)) d4 (fun _ _ => rfl)) d4 (n5 _))))) (d8 (aQ8 (aL9 PySem.F.plainAttrs_list PySem.F.slot_list_pop PySem.F.type_list_pop by1 (pv 1)))))
      (d8 (j8 (pv 1))))), ?_⟩
  rw [show start ["_law_numbers", "_law_found"] [.ref a] = [some (.ref a), none] from rfl]
  subst_eqs
  refine ⟨_, .inl hS, fun l hl => ?_⟩
  refine ao9 (fun σ H1 => σ = [some (.ref a), some (.ref l)] ∧ ∃ m, m ≤ qs.length ∧ (∀ (i : Nat) (q : Rat), m ≤ i → qs[i]? = some q → q = 0) ∧ d9 H H1 ∧ H1 l = some (.lst (xs.take m))) (fun σ H1 => match H1 l with | some (.lst ys) => ys.length | _ => 0)
    ⟨rfl, qs.length, Nat.le_refl _, fun i q hi e => ?_, d9.new hl _, ?_⟩ ?_
  · rw [List.getElem?_eq_none hi] at e; cases e
  · rw [d7, ← hN.length, List.take_length]
  · rintro σ H1 ⟨rfl, m, hm, hz, sm, e1⟩
    have hml : (xs.take m).length = m := by rw [List.length_take, hN.length]; omega
    subst_eqs
    refine ⟨by decide, fun p hp => ?_⟩
    have n1 : B4 H1 (xs.take m) (qs.take m) := (hN.mono sm.tups).take m
    have pl : p ≠ l := (i5 e1 hp).symm
    have e2 : upd H1 p (.lst []) l = some (.lst (xs.take m)) := by rw [j3 pl.symm]; exact e1
    have n2 : B4 (upd H1 p (.lst [])) (xs.take m) (qs.take m) := n1.mono (ag6.new hp)
    refine ⟨O4 (qs.take m), O4 [], rfl, Q9 (SqL.of e2) n2, Q9 (SqL.of d7) .nil, ah6 _ _, Nat.le_trans (ao5 _) (by decide), ?_⟩
    rw [ai6]
    by_cases h0 : m = 0
    · subst h0
      simp only [List.take_zero, decide_true, Bool.not_true, Bool.false_eq_true, if_false]
      refine ⟨false, rfl, D5 (fun h => absurd h (by decide)) fun _ => k 0 l _ ⟨Nat.zero_le _, hz, fun h => absurd rfl h⟩ (sm.trans (d9.new hp _)) hl ?_⟩
      rw [e2]
    · have hlt : m - 1 < qs.length := by omega
      have hne : qs.take m ≠ [] := fun z => by
        have := congrArg List.length z
        rw [List.length_take, List.length_nil] at this
        omega
      simp only [hne, decide_false, Bool.not_false]
      obtain ⟨pv, hv, hpv⟩ := n2.get (i := m - 1) (q := qs[m - 1]) (by rw [List.getElem?_take_of_lt (by omega)]; exact List.getElem?_eq_getElem hlt)
      refine ⟨true, rfl, D5 (fun _ => ?_) (fun h => absurd rfl h)⟩
      refine ⟨_, SqL.of e2, _, bn5 (by rw [hml]; exact hv), _, rfl, _, SqT.of hpv, _, at0 _, rfl, ?_⟩
      refine D5 (fun hn => ?_) (fun hn => ?_)
      · have hn' : qs[m - 1].num = 0 := V.int.inj hn
        refine WhB.mk ?_
        subst_eqs
        refine ⟨.inl ⟨_, SqL.of e2⟩, _, e2, _, by rw [hml]; exact hv, WhN.mk ⟨rfl, m - 1, by omega, fun i q hi e => ?_, (sm.trans (d9.new hp _)).over hl _, ?_⟩ ?_⟩
        · by_cases hi' : i = m - 1
          · subst hi'
            rw [List.getElem?_eq_getElem hlt] at e
            cases e
            exact ar0.mp hn'
          · exact hz i q (by omega) e
        · rw [d7, List.dropLast_eq_take, hml, List.take_take, Nat.min_eq_left (by omega)]
        · rw [d7]
          simp only [e1, List.length_dropLast]
          omega
      · have hn' : qs[m - 1] ≠ 0 := fun z => hn (by rw [z]; rfl)
        exact k m l _ ⟨hm, hz, fun _ q e => by rw [List.getElem?_eq_getElem hlt] at e; cases e; exact hn'⟩ (sm.trans (d9.new hp _)) hl e2
end
structure BtN (k:Nat) (q:Rat):Prop where
 n:q.num.natAbs < 2 ^ 20000
 d:q.den < 2 ^ k
theorem BtN.d' {n:Nat} {q:Rat} (b:BtN n q):(q.den:Int).natAbs < 2 ^ n:=by rw [Int.natAbs_natCast];exact b.d
theorem BdN.t {n:Nat} {q:Rat} (b:BdN n q) (h:n≤20000):BtN n q:=⟨Nat.lt_of_lt_of_le b.n (h8 h),b.d⟩
theorem BdN.d' {n:Nat} {q:Rat} (b:BdN n q):(q.den:Int).natAbs < 2 ^ n:=by rw [Int.natAbs_natCast];exact b.d
theorem B4.set {H:Hp}:∀ {vs:List V} {qs:List Rat} (k:Nat) {p:Addr} {q:Rat},B4 H vs qs→H p=some (.tup (B5 q))→B4 H (vs.set k (.ref p)) (qs.set k q)
 | _,_,_,_,_,.nil,_=>.nil
 | _,_,0,_,_,.cons _ t,h=>.cons h t
 | _,_,k + 1,_,_,.cons h' t,h=>.cons h' (t.set k h)
theorem B4.rep {H:Hp} {p:Addr} {q:Rat} (h:H p=some (.tup (B5 q))):∀ n,B4 H (List.replicate n (.ref p)) (List.replicate n q)
 | 0=>.nil
 | n + 1=>.cons h (B4.rep h n)
section
variable {P:Program} {w:World} {K:PySem.W.Frag} {mg:Str→Option Value} {base:Heap}
def S9 (K:PySem.W.Frag) (op:Rat→Rat→Rat):Sp:=fun vs H Q _ => ∃ (x y:V) (p q:Rat) (m n:Nat),vs=[x,y]∧Num K H x p∧Num K H y q∧BtN m p∧BtN n q∧m + n≤6000∧bj4 H Q (op p q)
theorem bA4 {p q:Rat} {m n:Nat} (bp:BtN m p) (bq:BtN n q) (h:m + n≤6000):((p.den:Int) * q.den).natAbs < 2 ^ 6000:=by
 rw [Int.natAbs_mul]
 have:=Nat.mul_lt_mul'' bp.d' bq.d'
 rw [← Nat.pow_add] at this
 exact Nat.lt_of_lt_of_le this (h8 h)
theorem aF0 (p q:Rat):(p.den:Int) * q.den ≠ 0:=Int.ne_of_gt (Int.mul_pos (y7 p) (y7 q))
abbrev K8:Stmt:=top 50
theorem aB4:j7 ["_law_one","_law_other_here"] ["_law_one","_law_other_here"] (d5 K8):=by and_intros
theorem aD2 {f fl:Addr} (d:Df K mg "_law_plus" K8 ["_law_one","_law_other_here"] f) (G__law_low:Def P w K mg base CX0 1 "_law_low" fl ["_law_top","_law_bottom"] aH1):Def P w K mg base CX0 2 "_law_plus" f ["_law_one","_law_other_here"] (S9 K (· + ·)):=by
 refine d.ok (N:=["_law_one","_law_other_here"]) aB4 (by rintro vs H Q E ⟨x,y,p,q,m,n,h,_⟩;rw [h];rfl) (fun cdv A outer s H vs Q E hr h=>?_)
 obtain ⟨x,y,p,q,m,n,rfl,⟨ap,rfl,hp⟩,⟨aq,rfl,hq⟩,bp,bq,hmn,k⟩:=h
 refine ⟨_,(d8 (j8 (i3 G__law_low hr (b7 (i6 G8 (i6 v1 (m8 p8 (pv 0) d4 (fun _ _=>rfl)) (m8 p8 (pv 1) d4 (fun _ _=>rfl))) (i6 v1 (m8 p8 (pv 1) d4 (fun _ _=>rfl)) (m8 p8 (pv 0) d4 (fun _ _=>rfl)))) (b7 (i6 v1 (m8 p8 (pv 0) d4 (fun _ _=>rfl)) (m8 p8 (pv 1) d4 (fun _ _=>rfl))) b9)) j5))),?_⟩
 rw [show start ["_law_one","_law_other_here"] [.ref ap,.ref aq]=[some (.ref ap),some (.ref aq)] from rfl]
 subst_eqs
 refine ⟨_,hp,_,at0 p,_,hq,_,at1 q,_,rfl,_,rfl,J2 bp.n bq.d' (by omega),_,hq,_,at0 q,_,hp,_,at1 p,_,rfl,_,rfl,J2 bq.n bp.d' (by omega),_,hp,_,at1 p,_,hq,_,at1 q,_,rfl,_,rfl,J2 bp.d' bq.d' (by omega),?_⟩
 refine ⟨_,_,rfl,aF0 p q,bA4 bp bq hmn,?_⟩
 rw [← at4]
 exact k
abbrev F3:Stmt:=top 52
theorem au2:j7 ["_law_one","_law_other_here"] ["_law_one","_law_other_here"] (d5 F3):=by and_intros
theorem av1 {f fl:Addr} (d:Df K mg "_law_times" F3 ["_law_one","_law_other_here"] f) (G__law_low:Def P w K mg base CX0 1 "_law_low" fl ["_law_top","_law_bottom"] aH1):Def P w K mg base CX0 2 "_law_times" f ["_law_one","_law_other_here"] (S9 K (· * ·)):=by
 refine d.ok (N:=["_law_one","_law_other_here"]) au2 (by rintro vs H Q E ⟨x,y,p,q,m,n,h,_⟩;rw [h];rfl) (fun cdv A outer s H vs Q E hr h=>?_)
 obtain ⟨x,y,p,q,m,n,rfl,⟨ap,rfl,hp⟩,⟨aq,rfl,hq⟩,bp,bq,hmn,k⟩:=h
 refine ⟨_,(d8 (j8 (i3 G__law_low hr (b7 (i6 v1 (m8 p8 (pv 0) d4 (fun _ _=>rfl)) (m8 p8 (pv 1) d4 (fun _ _=>rfl))) (b7 (i6 v1 (m8 p8 (pv 0) d4 (fun _ _=>rfl)) (m8 p8 (pv 1) d4 (fun _ _=>rfl))) b9)) j5))),?_⟩
 rw [show start ["_law_one","_law_other_here"] [.ref ap,.ref aq]=[some (.ref ap),some (.ref aq)] from rfl]
 subst_eqs
 refine ⟨_,hp,_,at0 p,_,hq,_,at0 q,_,rfl,_,rfl,J2 bp.n bq.n (by omega),_,hp,_,at1 p,_,hq,_,at1 q,_,rfl,_,rfl,J2 bp.d' bq.d' (by omega),?_⟩
 refine ⟨_,_,rfl,aF0 p q,bA4 bp bq hmn,?_⟩
 rw [← ar3]
 exact k
end
section
variable {P:Program} {w:World} {K:PySem.W.Frag} {mg:Str→Option Value} {base:Heap}
def ag9 (K:PySem.W.Frag):Sp:=fun vs H Q _ => ∃ x y p q,vs=[x,y]∧Num K H x p∧Num K H y q∧BdN 6000 p∧BdN 6000 q∧Q (.bl (decide (p < q))) H
abbrev M4:Stmt:=top 26
theorem aH4:j7 ["one","other"] ["one","other"] (d5 M4):=by and_intros
theorem aH7 {f:Addr} (d:Df K mg "is_below" M4 ["one","other"] f):Def P w K mg base CX0 1 "is_below" f ["one","other"] (ag9 K):=by
 refine d.ok (N:=["one","other"]) aH4 (fun vs H Q E ⟨x,y,p,q,h,_⟩=>by rw [h];rfl) (fun cdv A outer s H vs Q E hr h=>?_)
 obtain ⟨x,y,p,q,rfl,⟨ap,rfl,hp⟩,⟨aq,rfl,hq⟩,bp,bq,k⟩:=h
 refine ⟨_,(d8 (j8 (O2 ae4 (i6 v1 (m8 p8 (pv 0) d4 (fun _ _=>rfl)) (m8 p8 (pv 1) d4 (fun _ _=>rfl))) (i6 v1 (m8 p8 (pv 1) d4 (fun _ _=>rfl)) (m8 p8 (pv 0) d4 (fun _ _=>rfl))) (n5 _)))),?_⟩
 rw [show start ["one","other"] [.ref ap,.ref aq]=[some (.ref ap),some (.ref aq)] from rfl]
 subst_eqs
 refine ⟨_,hp,_,at0 p,_,hq,_,at1 q,_,rfl,_,rfl,J2 bp.n bq.d',_,hq,_,at0 q,_,hp,_,at1 p,_,rfl,_,rfl,J2 bq.n bp.d',?_⟩
 have e:(p < q) ↔ (p.num * (q.den:Int) < q.num * (p.den:Int)):=Rat.lt_iff p q
 simp only [e] at k
 exact k
abbrev F5:Stmt:=top 54
theorem au3:j7 ["_law_one","_law_other_here"] ["_law_one","_law_other_here"] (d5 F5):=by and_intros
theorem av2 {f:Addr} (d:Df K mg "_law_below" F5 ["_law_one","_law_other_here"] f):Def P w K mg base CX0 1 "_law_below" f ["_law_one","_law_other_here"] (ag9 K):=by
 refine d.ok (N:=["_law_one","_law_other_here"]) au3 (fun vs H Q E ⟨x,y,p,q,h,_⟩=>by rw [h];rfl) (fun cdv A outer s H vs Q E hr h=>?_)
 obtain ⟨x,y,p,q,rfl,⟨ap,rfl,hp⟩,⟨aq,rfl,hq⟩,bp,bq,k⟩:=h
 refine ⟨_,(d8 (j8 (O2 ae4 (i6 v1 (m8 p8 (pv 0) d4 (fun _ _=>rfl)) (m8 p8 (pv 1) d4 (fun _ _=>rfl))) (i6 v1 (m8 p8 (pv 1) d4 (fun _ _=>rfl)) (m8 p8 (pv 0) d4 (fun _ _=>rfl))) (n5 _)))),?_⟩
 rw [show start ["_law_one","_law_other_here"] [.ref ap,.ref aq]=[some (.ref ap),some (.ref aq)] from rfl]
 subst_eqs
 refine ⟨_,hp,_,at0 p,_,hq,_,at1 q,_,rfl,_,rfl,J2 bp.n bq.d',_,hq,_,at0 q,_,hp,_,at1 p,_,rfl,_,rfl,J2 bq.n bp.d',?_⟩
 have e:(p < q) ↔ (p.num * (q.den:Int) < q.num * (p.den:Int)):=Rat.lt_iff p q
 simp only [e] at k
 exact k
end
def loA (o:Option Rat) (x:Rtu):Bool:=match o with | none=>true | some c=>abv c x
def hiA (o:Option Rat) (x:Rtu):Bool:=match o with | none=>true | some c => !abv c x
def af9 (rs:List Rtu) (ol oh:Option Rat):Nat:=rs.countP fun x=>loA ol x && hiA oh x
def at2 (ol oh:Option Rat):Bool:=match ol,oh with | some c,some d => !decide (c < d) | _,_=>false
def cLo (rs:List Rtu) (o:Option Rat):Nat:=match o with | none=>rs.length | some c=>rs.countP (abv c)
def cHi (rs:List Rtu) (o:Option Rat):Nat:=match o with | none=>0 | some c=>rs.countP (abv c)
theorem ay7 (p:Rtu→Bool):∀ rs:List Rtu,rs.length=rs.countP (fun x=>true && !p x) + rs.countP p
 | []=>rfl
 | x :: r=>by
  have:=ay7 p r
  rw [List.length_cons,List.countP_cons,List.countP_cons]
  cases p x <;> simp <;> simp at this <;> omega
theorem bh3 (rs:List Rtu) {ol oh:Option Rat} (h:at2 ol oh=false):cLo rs ol=af9 rs ol oh + cHi rs oh:=by
 cases ol with
 | none =>
  cases oh with
  | none =>
   show rs.length=rs.countP (fun _=>true && true) + 0
   simp
  | some d=>exact ay7 (abv d) rs
 | some c =>
  cases oh with
  | none =>
   show rs.countP (abv c)=rs.countP (fun x=>abv c x && true) + 0
   simp
  | some d =>
   have hcd:c < d:=by
    have:(!decide (c < d))=false:=h
    simpa using this
   exact ay5 hcd rs
theorem bu4 {i:Int} {x p:Rat} (hp:0 < p) (e:(i:Rat)=x * p):SS ((if 0 < i then 1 else if i < 0 then -1 else 0:Int):Rat) x:=by
 have hx:∀ y:Rat,(0 < y * p ↔ 0 < y)∧(y * p < 0 ↔ y < 0):=fun y=>by
  refine ⟨⟨fun h=>?_,fun h=>Rat.mul_pos h hp⟩,⟨fun h=>?_,fun h=>?_⟩⟩
  ·refine Classical.byContradiction fun z=>?_
   have:0≤-y:=by grind
   have:=Rat.mul_nonneg this (Rat.le_of_lt hp)
   grind
  ·refine Classical.byContradiction fun z=>?_
   have:0≤y:=by grind
   have:=Rat.mul_nonneg this (Rat.le_of_lt hp)
   grind
  ·have:=Rat.mul_pos (show 0 < -y by grind) hp
   grind
 obtain ⟨h1,h2⟩:=hx x
 rw [← e] at h1 h2
 have p1:(0 < (i:Rat)) ↔ 0 < i:=Rat.intCast_pos
 have p2:((i:Rat) < 0) ↔ i < 0:=Rat.intCast_neg_iff
 by_cases a:0 < i
 ·rw [if_pos a]
  have xp:=h1.mp (p1.mpr a)
  exact ⟨⟨fun z=>absurd z (by decide),fun z=>by grind⟩,⟨fun _=>xp,fun _=>by decide⟩⟩
 ·rw [if_neg a]
  by_cases b:i < 0
  ·rw [if_pos b]
   have xn:=h2.mp (p2.mpr b)
   exact ⟨⟨fun _=>xn,fun _=>by decide⟩,⟨fun z=>absurd z (by decide),fun z=>by grind⟩⟩
  ·rw [if_neg b]
   have n1:¬ 0 < x:=fun z=>a (p1.mp (h1.mpr z))
   have n2:¬ x < 0:=fun z=>b (p2.mp (h2.mpr z))
   exact ⟨⟨fun z=>absurd z (by decide),fun z=>absurd z n2⟩,⟨fun z=>absurd z (by decide),fun z=>absurd z n1⟩⟩
theorem aX5 {Ts:List (List Int)} {g:List Int→Int} {e:List Int→Rat} (h:∀ T,SS ((g T:Int):Rat) (e T)):az9 ((Ts.map g).map fun v:Int=>(v:Rat)) (Ts.map e):=by
 induction Ts with
 | nil=>exact .nil
 | cons T r ih=>exact .cons (h T) ih
theorem bi2 (q:Rat) (Ts:List (List Int)):S7 0 (Ts.map fun T=>sgI (hw q.num (q.den:Int) T))=chg 0 (Ts.map fun T=>evQ q (T.map fun v:Int=>(v:Rat))):=by
 rw [ao7]
 refine aO3 (aX5 fun T=>?_) (aA5 0)
 have dp:=y7 q
 have d0:(q.den:Int) ≠ 0:=by omega
 have e:=bs5 (t:=q.num) (b:=(q.den:Int)) d0 T
 have eq:((q.num:Int):Rat) / ((q.den:Int):Rat)=q:=by
  rw [← Rat.divInt_eq_div];exact Rat.num_divInt_den q
 rw [eq] at e
 have dq:(0:Rat) < ((q.den:Int):Rat):=Rat.intCast_pos.mpr dp
 have pp:∀ n:Nat,(0:Rat) < ((q.den:Int):Rat) ^ n:=fun n=>by
  induction n with
  | zero=>rw [Rat.pow_zero];decide
  | succ n ih=>rw [Rat.pow_succ];exact Rat.mul_pos ih dq
 refine bu4 ?_ e
 rw [Rat.div_def]
 exact Rat.mul_pos (pp _) (Rat.inv_pos.mpr dq)
def aO7 (K:PySem.W.Frag) (H:Hp) (v:V) (o:Option Rat):Prop:=match o with | none=>v=.non | some q=>Num K H v q∧BdN 6000 q
theorem Chn.chr {K:PySem.W.Frag} {H:Hp} {a:Addr} {rs:List Addr} {Ts:List (List Int)} {L:List (Fp × Nat)} (h:Chn Ts L) (e:H a=some (.lst (rs.map V.ref))) (r:RwZ H rs Ts):ChR K H a rs Ts:=⟨SqL.of e,r,fun T hT=>⟨(h.ok T hT).1,(h.ok T hT).2.2.1,(h.ok T hT).2.2.2⟩,h.ln.2⟩
section
variable {P:Program} {w:World} {K:PySem.W.Frag} {mg:Str→Option Value} {base:Heap}
def aP9 (K:PySem.W.Frag) (C C2:Addr):Sp:=fun vs H Q E => ∃ (a:Addr) (xs:List V) (ps:List Rat) (lo hi:V) (ol oh:Option Rat),vs=[.ref a,lo,hi]∧SqL K H a xs∧B4 H xs ps∧aO7 K H lo ol∧aO7 K H hi oh∧(ps=[]→E (.ref C) none H)∧(ps ≠ []→at2 ol oh=true→E (.ref C2) none H) ∧
 (ps ≠ []→at2 ol oh=false→∃ (L:List (Fp × Nat)) (rs:List Rtu) (m:Nat),at5 ps L∧(∀ a,NT (L.map rt1) a=rs.countP (abv a) + m)∧(∀ r ∈ rs,r.o=0 ∨ ((r.o=1 ∨ r.o=-1)∧0 < r.v))∧∀ H',d9 H H'→Q (.int (af9 rs ol oh:Nat)) H')
abbrev E5:Stmt:=top 45
theorem P9:j7 ["p","low","high","chain","at_low","at_high"] ["p","low","high"] (d5 E5):=by and_intros
set_option maxHeartbeats 0 in
theorem au5 {f f1 f2 f3 f4 f5 C C2 : Addr} (d : Df K mg "root_count" E5 ["p", "low", "high"] f) (G_is_below : Def P w K mg base CX0 1 "is_below" f1 ["one", "other"] (ag9 K)) (G_chain_of : Def P w K mg base CX0 4 "chain_of" f2 ["p"] (aQ1 K)) (G_changes_below_all : Def P w K mg base CX0 2 "changes_below_all" f3 ["chain"] (ao3 K ldB)) (G_changes_above_all : Def P w K mg base CX0 2 "changes_above_all" f4 ["chain"] (ao3 K ldA)) (G_changes_at : Def P w K mg base CX0 3 "changes_at" f5 ["chain", "top", "bottom"] (ba0 K)) (x_NoPolynomial : ExT K mg "NoPolynomial" C) (x_NoStretch : ExT K mg "NoStretch" C2) : Def P w K mg base (CXR P w) 5 "root_count" f ["p", "low", "high"] (aP9 K C C2) := by
  refine d.okR (N := ["p", "low", "high", "chain", "at_low", "at_high"]) P9 (by rintro vs H Q E ⟨_, _, _, _, _, _, _, h, _⟩; rw [h]; rfl) (fun cdv A outer s H vs Q E hr h => ?_)
  obtain ⟨a, xs, ps, lo, hi, ol, oh, rfl, hS, hN, nl, nh, k0, k1, k2⟩ := h
  refine ⟨_, (d6 (C9 (af2 (ab3 (pv 0) (fun _ => rfl))) (d8 (aH6 x_NoPolynomial.ox PySem.F.excBase_ValueError rfl rfl x_NoPolynomial.m aw9 (b7 O1 b9))) v8)
      (d6 (C9 (PW.pt (W5 (p5 ao4 (pv 1) U9 (n5 _)) (W5 (p5 ao4 (pv 2) U9 (n5 _)) (W0 (af2 (Z1 (i3 G_is_below hr (b7 (pv 1) (b7 (pv 2) b9)) j5))))))) (d8 (aH6 x_NoStretch.ox PySem.F.excBase_ValueError rfl rfl x_NoStretch.m aw9 (b7 O1 b9))) v8)
      (d6 (i4 (i := 3) P9.nd rfl (Or.inl rfl) (i3 G_chain_of hr (b7 (pv 0) b9) j5))
      (d6 (i4 (i := 4) P9.nd rfl (Or.inl rfl) (ab4 (p5 aC7 (pv 1) U9 (n5 _)) (i3 G_changes_below_all hr (b7 (pv 3) b9) j5) (i3 G_changes_at hr (b7 (pv 3) (b7 (m8 p8 (pv 1) d4 (fun _ _ => rfl)) (b7 (m8 p8 (pv 1) d4 (fun _ _ => rfl)) b9))) j5)))
      (d6 (i4 (i := 5) P9.nd rfl (Or.inl rfl) (ab4 (p5 aC7 (pv 2) U9 (n5 _)) (i3 G_changes_above_all hr (b7 (pv 3) b9) j5) (i3 G_changes_at hr (b7 (pv 3) (b7 (m8 p8 (pv 2) d4 (fun _ _ => rfl)) (b7 (m8 p8 (pv 2) d4 (fun _ _ => rfl)) b9))) j5)))
      (d8 (j8 (i6 N0 (pv 4) (pv 5))))))))), ?_⟩
  rw [show start ["p", "low", "high", "chain", "at_low", "at_high"] [.ref a, lo, hi] = [some (.ref a), some (lo), some (hi), none, none, none] from rfl]
  have ly := hN.length
  refine i7 (fun σ H1 => σ = [some (.ref a), some lo, some hi, none, none, none] ∧ H = H1 ∧ ps ≠ []) (fun N hN2 => ?_) ?_
  · simp! [av6]
    refine ⟨_, .inl ⟨_, hS, rfl⟩, D5 (fun h0 => ?_) (fun h0 => hN2 _ _ ⟨rfl, rfl, fun z => h0 ?_⟩)⟩
    · refine ⟨by decide, k0 ?_⟩
      cases ps with
      | nil => rfl
      | cons q t => cases hN; simp at h0
    · rw [z] at hN; cases hN; rfl
  rintro σ H1 ⟨rfl, rfl, hne⟩
  refine i7 (fun σ H1 => σ = [some (.ref a), some lo, some hi, none, none, none] ∧ H = H1 ∧ at2 ol oh = false) (fun N hN2 => ?_) ?_
  · simp! [av6]
    cases ol with
    | none =>
      have e : lo = .non := nl
      rw [if_neg (by simp [e])]
      exact hN2 _ _ ⟨rfl, rfl, by cases oh <;> rfl⟩
    | some c =>
      obtain ⟨⟨pl, rfl, hl⟩, bl⟩ := nl
      rw [if_pos (by simp)]
      cases oh with
      | none =>
        have e : hi = .non := nh
        rw [if_neg (by simp [e])]
        exact hN2 _ _ ⟨rfl, rfl, rfl⟩
      | some d' =>
        obtain ⟨⟨ph, rfl, hh⟩, bh⟩ := nh
        rw [if_pos (by simp)]
        refine ⟨_, _, c, d', rfl, ⟨pl, rfl, hl⟩, ⟨ph, rfl, hh⟩, bl, bh, _, rfl, D5 (fun z => ⟨by decide, k1 hne ?_⟩) (fun z => hN2 _ _ ⟨rfl, rfl, ?_⟩)⟩
        · show (!decide (c < d')) = true
          rw [z]; rfl
        · show (!decide (c < d')) = false
          cases e : decide (c < d') with
          | false => exact absurd e z
          | true => rfl
  rintro σ H1 ⟨rfl, rfl, hbad⟩
  obtain ⟨L, rs, m, T, hr', hv, k⟩ := k2 hne hbad
  refine i7 (fun σ H1 => ∃ D as Ts, σ = [some (.ref a), some lo, some hi, some (.ref D), none, none] ∧ d9 H H1 ∧ ChR K H1 D as Ts ∧ Chn Ts L) (fun N hN2 => ?_) ?_
  · subst_eqs
    exact ⟨a, xs, ps, L, rfl, hS, hN, hne, T, fun r as Ts H1 s1 e1 rw1 ch => hN2 _ _ ⟨r, as, Ts, rfl, s1, ch.chr e1 rw1, ch⟩⟩
  rintro σ H1 ⟨D, as, Ts, rfl, s1, R, ch⟩
  obtain ⟨C', c1, c2, c3⟩ := ch.ch hr' hv
  refine i7 (fun σ H2 => ∃ n : Nat, σ = [some (.ref a), some lo, some hi, some (.ref D), some (.int n), none] ∧ d9 H1 H2 ∧ n + C' = cLo rs ol + m) (fun N hN2 => ?_) ?_
  · subst_eqs
    cases ol with
    | none =>
      have e : lo = .non := nl
      rw [if_pos e]
      exact ⟨D, as, Ts, rfl, R, fun H2 s2 => hN2 _ _ ⟨_, rfl, s2, c3⟩⟩
    | some c =>
      obtain ⟨⟨pl, rfl, hl⟩, bl⟩ := nl
      rw [if_neg (by simp)]
      have hl1 := s1.tup hl
      refine ⟨_, rfl, _, hl1, _, at0 c, _, rfl, _, hl1, _, at1 c, D, as, Ts, c.num, (c.den : Int), 6000, rfl, R, bl.n, by rw [Int.natAbs_natCast]; exact bl.d, by decide, fun H2 s2 => hN2 _ _ ⟨_, rfl, s2, ?_⟩⟩
      rw [bi2]
      exact c1 c
  rintro σ H2 ⟨n, rfl, s2, en⟩
  have s12 := s1.trans s2
  have R2 := R.same s2
  refine i7 (fun σ H3 => ∃ n2 : Nat, σ = [some (.ref a), some lo, some hi, some (.ref D), some (.int n), some (.int n2)] ∧ d9 H2 H3 ∧ n2 + C' = cHi rs oh + m) (fun N hN2 => ?_) ?_
  · subst_eqs
    cases oh with
    | none =>
      have e : hi = .non := nh
      rw [if_pos e]
      exact ⟨D, as, Ts, rfl, R2, fun H2 s2 => hN2 _ _ ⟨_, rfl, s2, by rw [c2]; show m = 0 + m; omega⟩⟩
    | some c =>
      obtain ⟨⟨pl, rfl, hl⟩, bl⟩ := nh
      rw [if_neg (by simp)]
      have hl1 := s12.tup hl
      refine ⟨_, rfl, _, hl1, _, at0 c, _, rfl, _, hl1, _, at1 c, D, as, Ts, c.num, (c.den : Int), 6000, rfl, R2, bl.n, by rw [Int.natAbs_natCast]; exact bl.d, by decide, fun H2 s2 => hN2 _ _ ⟨_, rfl, s2, ?_⟩⟩
      rw [bi2]
      exact c1 c
  rintro σ H3 ⟨n2, rfl, s3, en2⟩
  subst_eqs
  have du := bh3 rs hbad
  have e : (n : Int) - (n2 : Int) = (af9 rs ol oh : Nat) := by omega
  rw [e]
  exact k H3 (s12.trans s3)
end
def sgQ (q:Rat):Int:=if 0 < q then 1 else if q < 0 then -1 else 0
theorem bu7 (q:Rat):(if q.num > 0 then (1:Int) else 0) - (if q.num < 0 then 1 else 0)=sgQ q:=by
 unfold sgQ
 have h1:(0 < q) ↔ q.num > 0:=by
  rw [Rat.lt_iff]
  show (0:Int) * (q.den:Int) < q.num * ((1:Nat):Int) ↔ _
  rw [Int.zero_mul];simp
 have h2:(q < 0) ↔ q.num < 0:=by
  rw [Rat.lt_iff]
  show q.num * ((1:Nat):Int) < (0:Int) * (q.den:Int) ↔ _
  rw [Int.zero_mul];simp
 by_cases a:q.num > 0
 ·rw [if_pos a,if_neg (by omega),if_pos (h1.mpr a)];rfl
 ·rw [if_neg a,if_neg (fun z=>a (h1.mp z))]
  by_cases b:q.num < 0
  ·rw [if_pos b,if_pos (h2.mpr b)];rfl
  ·rw [if_neg b,if_neg (fun z=>b (h2.mp z))];rfl
section
variable {P:Program} {w:World} {K:PySem.W.Frag} {mg:Str→Option Value} {base:Heap}
def br3 (K:PySem.W.Frag):Sp:=fun vs H Q _ => ∃ x q,vs=[x]∧Num K H x q∧Q (.int (sgQ q)) H
abbrev K5:Stmt:=top 53
theorem aB3:j7 ["_law_number_here"] ["_law_number_here"] (d5 K5):=by and_intros
set_option maxHeartbeats 0 in
theorem aC9 {f:Addr} (d:Df K mg "_law_sign" K5 ["_law_number_here"] f) (n_int:mg "int" = none):Def P w K mg base CX0 1 "_law_sign" f ["_law_number_here"] (br3 K):=by
 refine d.ok (N:=["_law_number_here"]) aB3 (by rintro vs H Q E ⟨_,_,h,_⟩;rw [h];rfl) (fun cdv A outer s H vs Q E hr h=>?_)
 obtain ⟨x,q,rfl,⟨a,rfl,ha⟩,k⟩:=h
 refine ⟨_,(d8 (j8 (i6 N0 (N4 ad6 rfl n_int (by decide +kernel) (b7 (O2 al4 (m8 p8 (pv 0) d4 (fun _ _=>rfl)) d4 (n5 _)) b9)) (N4 ad6 rfl n_int (by decide +kernel) (b7 (O2 ae4 (m8 p8 (pv 0) d4 (fun _ _=>rfl)) d4 (n5 _)) b9))))),?_⟩
 rw [show start ["_law_number_here"] [.ref a]=[some (.ref a)] from rfl]
 subst_eqs
 refine ⟨_,ha,_,at0 q,_,rfl,_,ha,_,at0 q,_,rfl,?_⟩
 rw [← bu7] at k
 exact k
end
section
variable {P:Program} {w:World} {K:PySem.W.Frag} {mg:Str→Option Value} {base:Heap}
abbrev K9:Stmt:=top 51
theorem aB5:j7 ["_law_one","_law_other_here"] ["_law_one","_law_other_here"] (d5 K9):=by and_intros
theorem aD3 {f fl:Addr} (d:Df K mg "_law_less" K9 ["_law_one","_law_other_here"] f) (G__law_low:Def P w K mg base CX0 1 "_law_low" fl ["_law_top","_law_bottom"] aH1):Def P w K mg base CX0 2 "_law_less" f ["_law_one","_law_other_here"] (S9 K (· - ·)):=by
 refine d.ok (N:=["_law_one","_law_other_here"]) aB5 (by rintro vs H Q E ⟨x,y,p,q,m,n,h,_⟩;rw [h];rfl) (fun cdv A outer s H vs Q E hr h=>?_)
 obtain ⟨x,y,p,q,m,n,rfl,⟨ap,rfl,hp⟩,⟨aq,rfl,hq⟩,bp,bq,hmn,k⟩:=h
 refine ⟨_,(d8 (j8 (i3 G__law_low hr (b7 (i6 N0 (i6 v1 (m8 p8 (pv 0) d4 (fun _ _=>rfl)) (m8 p8 (pv 1) d4 (fun _ _=>rfl))) (i6 v1 (m8 p8 (pv 1) d4 (fun _ _=>rfl)) (m8 p8 (pv 0) d4 (fun _ _=>rfl)))) (b7 (i6 v1 (m8 p8 (pv 0) d4 (fun _ _=>rfl)) (m8 p8 (pv 1) d4 (fun _ _=>rfl))) b9)) j5))),?_⟩
 rw [show start ["_law_one","_law_other_here"] [.ref ap,.ref aq]=[some (.ref ap),some (.ref aq)] from rfl]
 subst_eqs
 refine ⟨_,hp,_,at0 p,_,hq,_,at1 q,_,rfl,_,rfl,J2 bp.n bq.d' (by omega),_,hq,_,at0 q,_,hp,_,at1 p,_,rfl,_,rfl,J2 bq.n bp.d' (by omega),_,hp,_,at1 p,_,hq,_,at1 q,_,rfl,_,rfl,J2 bp.d' bq.d' (by omega),?_⟩
 refine ⟨_,_,rfl,aF0 p q,bA4 bp bq hmn,?_⟩
 rw [← aK8]
 exact k
end
theorem OvB.bt {B W e:Nat} {q:Rat} (h:OvB B W q) (hB:0 < B) (hBe:B < 2 ^ e) (hW:W≤20000):BtN e q:=by
 obtain ⟨v,rfl,b⟩:=h
 have:=ad5 (t:=v) (b:=(B:Int)) (by omega)
 rw [Int.natAbs_natCast] at this
 exact ⟨Nat.lt_of_le_of_lt this.1 (Nat.lt_of_lt_of_le b (h8 hW)),Nat.lt_of_le_of_lt this.2 hBe⟩
section
variable {P:Program} {w:World} {K:PySem.W.Frag} {mg:Str→Option Value} {base:Heap}
def aB0 (K:PySem.W.Frag):Sp:=fun vs H Q _ => ∃ (a b:Addr) (xs ys:List V) (ps qs:List Rat) (B C V' W e:Nat),vs=[.ref a,.ref b]∧SqL K H a xs∧SqL K H b ys∧B4 H xs ps∧B4 H ys qs∧(∀ q ∈ ps,OvB B V' q)∧(∀ q ∈ qs,OvB C W q)∧0 < B∧0 < C∧B * C < 2 ^ e∧1≤e∧2 * e≤6000∧V' + W≤19000∧ps.length≤20∧qs.length≤20 ∧
 ∀ m r zs H',T9 (V4 ps qs) m→(∀ q ∈ V4 ps qs,OvB (B * C) (V' + W + 400) q)→d9 H H'→H r=none→H' r=some (.lst zs)→B4 H' zs ((V4 ps qs).take m)→Q (.ref r) H'
abbrev z7:Stmt:=top 60
theorem B0:j7 ["_law_p","_law_q","_law_found","_law_i","_law_one","_law_j","_law_other_here"] ["_law_p","_law_q"] (d5 z7):=by and_intros
set_option maxHeartbeats 0 in
theorem af3 {f fp f1 f2:Addr} (d:Df K mg "_law_poly_times" z7 ["_law_p","_law_q"] f) (G__law_plus:Def P w K mg base CX0 2 "_law_plus" fp ["_law_one","_law_other_here"] (S9 K (· + ·))) (G__law_times:Def P w K mg base CX0 2 "_law_times" f1 ["_law_one","_law_other_here"] (S9 K (· * ·))) (G__law_trim:Def P w K mg base CX0 1 "_law_trim" f2 ["_law_numbers"] (aZ6 K)) (n_len:mg "len" = none) (n_enumerate:mg "enumerate" = none):Def P w K mg base CX0 3 "_law_poly_times" f ["_law_p","_law_q"] (aB0 K):=by
 refine d.ok (N:=["_law_p","_law_q","_law_found","_law_i","_law_one","_law_j","_law_other_here"]) B0 (by rintro vs H Q E ⟨_,_,_,_,_,_,_,_,_,_,_,h,_⟩;rw [h];rfl) (fun cdv A outer s H vs Q E hr h=>?_)
 obtain ⟨a,b,xs,ys,ps,qs,B,C,V',W,e,rfl,hS,hS',hN,hN',hs,hs',hB,hC,hBC,he1,he,hVW,hl,hl',k⟩:=h
 have hBCp:=Nat.mul_pos hB hC
 have hBe:B < 2 ^ e:=Nat.lt_of_le_of_lt (Nat.le_mul_of_pos_right _ hC) hBC
 have hCe:C < 2 ^ e:=Nat.lt_of_le_of_lt (Nat.le_mul_of_pos_left _ hB) hBC
 have hu:=hr.units
 refine ⟨_,(d6 (C9 (PW.pt (aQ7 (p5 (bc6 hu) (pv 0) (C4 b9) (n5 _)) (aL6 (p5 (bc6 hu) (pv 1) (C4 b9) (n5 _))))) (d8 (j8 (C4 b9))) v8)
   (d6 (i4 (i:=2) B0.nd rfl (Or.inl rfl) (i6 bc4 (C4 (b7 (w8 (b7 d4 (b7 d4 b9))) b9)) (i6 N0 (i6 G8 (i9 q8 rfl n_len (by decide +kernel) (b7 (pv 0) b9)) (i9 q8 rfl n_len (by decide +kernel) (b7 (pv 1) b9))) d4)))
   (d6 (O0 PassesOwn.never rfl (aC4 rfl n_enumerate (b7 (pv 0) b9)) (show PG _ _ (ao0 K 2 (L9 (C1 3) (L9 (C1 4) ao1))) from by (refine Z3 (n:=2) ?_ ?_ ?_ ?_;rfl;(refine z8 ?_ ?_ ?_;(exact (m6 (i:=3) B0.nd rfl (Or.inl rfl)));(refine z8 ?_ ?_ ?_;(exact (m6 (i:=4) B0.nd rfl (Or.inl rfl)));(exact T4);rfl);rfl);rfl;rfl)) (d8 (O0 PassesOwn.never rfl (aC4 rfl n_enumerate (b7 (pv 1) b9)) (show PG _ _ (ao0 K 2 (L9 (C1 5) (L9 (C1 6) ao1))) from by (refine Z3 (n:=2) ?_ ?_ ?_ ?_;rfl;(refine z8 ?_ ?_ ?_;(exact (m6 (i:=5) B0.nd rfl (Or.inl rfl)));(refine z8 ?_ ?_ ?_;(exact (m6 (i:=6) B0.nd rfl (Or.inl rfl)));(exact T4);rfl);rfl);rfl;rfl)) (d8 (Z2 (i3 G__law_plus hr (b7 (m8 y9 (pv 2) (i6 G8 (pv 3) (pv 5)) (fun _ _=>rfl)) (b7 (i3 G__law_times hr (b7 (pv 4) (b7 (pv 6) b9)) j5) b9)) j5) (aC5 (pv 2) (i6 G8 (pv 3) (pv 5)) aa7))))))
   (d8 (j8 (i3 G__law_trim hr (b7 (pv 2) b9) j5)))))),?_⟩
 rw [show start ["_law_p","_law_q","_law_found","_law_i","_law_one","_law_j","_law_other_here"] [.ref a,.ref b]=[some (.ref a),some (.ref b),none,none,none,none,none] from rfl]
 subst_eqs
 have tl0:T9 ([]:List Rat) 0:=⟨Nat.le_refl _,fun i q _ e=>by simp at e,fun h=>absurd rfl h⟩
 refine ⟨by decide,fun p hp=>?_⟩
 have S1:=d9.new hp (.lst [])
 refine ⟨O4 ps,O4 [],rfl,Q9 (S1.seq hS) (hN.mono S1.tups),Q9 (SqL.of d7) .nil,ah6 _ _,Nat.le_trans (ao5 _) (by decide),?_⟩
 rw [ai6]
 refine ⟨_,rfl,D5 (fun h=>⟨by decide,fun r hr'=>?_⟩) (fun h=>?_)⟩
 ·have e:V4 ps qs=[]:=by rw [V4,if_pos (.inl (by simpa using h))]
  rw [e] at k
  exact k 0 r [] _ tl0 (by simp) (S1.trans (d9.new hr' _)) (S1.free hr') d7 .nil
 have np:ps ≠ []:=fun z=>h (by simp [z])
 refine ⟨by decide,fun p2 hp2=>?_⟩
 have S2:=S1.trans (d9.new hp2 (.lst []))
 refine ⟨O4 qs,O4 [],rfl,Q9 (S2.seq hS') (hN'.mono S2.tups),Q9 (SqL.of d7) .nil,ah6 _ _,Nat.le_trans (ao5 _) (by decide),?_⟩
 rw [ai6]
 refine ⟨_,rfl,D5 (fun h=>⟨by decide,fun r hr'=>?_⟩) (fun h=>?_)⟩
 ·have e:V4 ps qs=[]:=by rw [V4,if_pos (.inr (by simpa using h))]
  rw [e] at k
  exact k 0 r [] _ tl0 (by simp) (S2.trans (d9.new hr' _)) (S2.free hr') d7 .nil
 have nq:qs ≠ []:=fun z=>h (by simp [z])
 have lx:=hN.length
 have ly:=hN'.length
 have lp:0 < ps.length:=List.length_pos_iff.mpr np
 have lq:0 < qs.length:=List.length_pos_iff.mpr nq
 refine ⟨x9,fun p3 hp3=>⟨ba1,fun p4 hp4=>?_⟩⟩
 have S3:=S2.trans (d9.new hp3 (.tup [.int 0,.int 1]))
 have S4:=S3.trans (d9.new hp4 (.lst [.ref p3]))
 refine ⟨_,.inl (S4.seq hS),_,.inl (S4.seq hS'),_,d7,by omega,by omega,?_,fun l hl0=>?_⟩
 ·simp only [List.length_cons,List.length_nil]
  exact Nat.le_trans (show _≤40 by omega) (by decide)
 have hz:(List.replicate ((xs.length:Int) + (ys.length:Int) - 1).toNat [V.ref p3]).flatten=List.replicate (ps.length + qs.length - 1) (V.ref p3):=by
  have e:((xs.length:Int) + (ys.length:Int) - 1).toNat=ps.length + qs.length - 1:=by omega
  rw [e,List.flatten_replicate_singleton]
 rw [hz]
 have S5:=S4.trans (d9.new hl0 (.lst (List.replicate (ps.length + qs.length - 1) (.ref p3))))
 have hlH:H l=none:=S4.free hl0
 have ez:(upd (upd (upd (upd (upd H p (.lst [])) p2 (.lst [])) p3 (.tup [.int 0,.int 1])) p4 (.lst [.ref p3])) l (.lst (List.replicate (ps.length + qs.length - 1) (.ref p3)))) p3=some (.tup (B5 0)):=d9.new hl0 _ _ _ (d9.new hp4 _ _ _ d7)
 refine ⟨_,rfl,a,rfl,⟨_,S5.seq hS⟩,as0 xs (fun i σ H2 => ∃ o3 o4 o5 o6,σ=[some (.ref a),some (.ref b),some (.ref l),o3,o4,o5,o6]∧d9 H H2∧∃ zs,H2 l=some (.lst zs)∧B4 H2 zs (G7 0 (List.replicate (ps.length + qs.length - 1) (0:Rat)) ps qs i)∧∀ v ∈ G7 0 (List.replicate (ps.length + qs.length - 1) (0:Rat)) ps qs i,OvB (B * C) (V' + W + i * qs.length) v)
  ⟨_,_,_,_,rfl,S5,_,d7,B4.rep ez _,fun v hv=>by rw [(List.mem_replicate.mp hv).2];exact OvB.zero _ _⟩ (fun i σ H2 ⟨_,_,_,_,_,s2,_⟩=>s2.seq hS) ?_ ?_⟩
 ·rintro i x σ H2 r hx ⟨o3,o4,o5,o6,rfl,s2,zs,e2,n2,b2⟩ hr'
  obtain ⟨px,q,rfl,hq,hpx⟩:=hN.getV hx
  have hi:=(List.getElem?_eq_some_iff.mp hq).1
  have sr:=d9.new hr' (.tup [.int i,.ref px])
  refine ⟨_,_,rfl,SqT.of d7,rfl,_,_,rfl,_,_,rfl,rfl,?_⟩
  refine ⟨_,rfl,b,rfl,⟨_,(s2.trans sr).seq hS'⟩,as0 ys (fun j σ H4 => ∃ o5 o6,σ=[some (.ref a),some (.ref b),some (.ref l),some (.int i),some (.ref px),o5,o6]∧d9 H H4∧∃ zs,H4 l=some (.lst zs)∧B4 H4 zs (C5 0 (G7 0 (List.replicate (ps.length + qs.length - 1) (0:Rat)) ps qs i) i q qs j)∧∀ v ∈ C5 0 (G7 0 (List.replicate (ps.length + qs.length - 1) (0:Rat)) ps qs i) i q qs j,OvB (B * C) (V' + W + (i * qs.length + j)) v)
   ⟨_,_,rfl,s2.trans sr,_,sr _ _ e2,n2.mono sr.tups,b2⟩ (fun i σ H2 ⟨_,_,_,s2,_⟩=>s2.seq hS') ?_ ?_⟩
  ·rintro j y σ H4 t hy ⟨o5,o6,rfl,s4,zs4,e4,n4,b4⟩ ht
   obtain ⟨py,q',rfl,hq',hpy⟩:=hN'.getV hy
   have hj:=(List.getElem?_eq_some_iff.mp hq').1
   have st:=d9.new ht (.tup [.int j,.ref py])
   have e5:=st _ _ e4
   have hF:i + j < (C5 0 (G7 0 (List.replicate (ps.length + qs.length - 1) (0:Rat)) ps qs i) i q qs j).length:=by
    rw [X8,aj5,List.length_replicate];omega
   have eg:=List.getElem?_eq_getElem hF
   obtain ⟨pv,hv,hpv⟩:=(n4.mono st.tups).get eg
   have ec:(i:Int) + (j:Int)=((i + j:Nat):Int):=by omega
   have hc:i * qs.length + j < 400:=by
    have h1:i * qs.length≤19 * qs.length:=Nat.mul_le_mul_right _ (by omega)
    omega
   subst_eqs
   have o1:=hs q (List.mem_of_getElem? hq)
   have o2:=hs' q' (List.mem_of_getElem? hq')
   have sq:=o1.bt hB hBe (by omega)
   have sq':=o2.bt hC hCe (by omega)
   refine ⟨_,SqT.of d7,rfl,_,_,rfl,_,_,rfl,rfl,_,rfl,_,SqL.of e5,_,(by rw [ec];exact Z8 hv),?_⟩
   refine ⟨_,_,q,q',e,e,rfl,⟨px,rfl,SqT.of (st _ _ (s4 _ _ hpx))⟩,⟨py,rfl,SqT.of (st _ _ (s4 _ _ hpy))⟩,sq,sq',by omega,fun r1 H5 s5 er1=>?_⟩
   have bold:=b4 _ (List.getElem_mem hF)
   refine ⟨_,_,_,_,e,e,rfl,⟨pv,rfl,SqT.of (s5 _ _ hpv)⟩,⟨r1,rfl,SqT.of er1⟩,bold.bt hBCp hBC (by omega),(o1.mul o2).bt hBCp hBC (by omega),by omega,fun r2 H6 s6 er2=>?_⟩
   have e6:=s6 _ _ (s5 _ _ e5)
   have lz:zs4.length=(C5 0 (G7 0 (List.replicate (ps.length + qs.length - 1) (0:Rat)) ps qs i) i q qs j).length:=n4.length
   have n6:B4 H6 zs4 (C5 0 (G7 0 (List.replicate (ps.length + qs.length - 1) (0:Rat)) ps qs i) i q qs j):=((n4.mono st.tups).mono s5.tups).mono s6.tups
   have estep:C5 0 (G7 0 (List.replicate (ps.length + qs.length - 1) (0:Rat)) ps qs i) i q qs (j + 1)=Y5 (C5 0 (G7 0 (List.replicate (ps.length + qs.length - 1) (0:Rat)) ps qs i) i q qs j) (i + j) (q * q'):=by
    rw [C5,hq'];rfl
   refine ⟨_,rfl,_,e6,i + j,?_,(s4.trans (st.trans (s5.trans s6))).over hlH _,_,d7,?_,?_⟩
   ·rw [ec]
    unfold ixN
    rw [if_pos (by omega),if_pos (by rw [lz];omega)]
    rfl
   ·rw [estep,← ak7 _ _ _ _ eg]
    exact (n6.set (i + j) er2).mono (ag6.lst e6)
   ·rw [estep]
    intro v hv'
    exact (aX6 hBCp b4 ((o1.mul o2).mono (by omega)) v hv').mono (by omega)
  ·rintro σ H4 ⟨o5,o6,rfl,s4,zs4,e4,n4,b4⟩
   refine ⟨_,_,_,_,rfl,s4,zs4,e4,?_,?_⟩
   ·rw [ly] at n4
    rw [G7,hq];exact n4
   ·rw [ly] at b4
    rw [G7,hq]
    intro v hv
    refine (b4 v hv).mono ?_
    have e:(i + 1) * qs.length=i * qs.length + qs.length:=by grind
    omega
 ·rintro σ H2 ⟨o3,o4,o5,o6,rfl,s2,zs,e2,n2,b2⟩
  rw [lx] at n2 b2
  have em:V4 ps qs=G7 0 (List.replicate (ps.length + qs.length - 1) 0) ps qs ps.length:=by rw [V4,if_neg (by simp [np,nq])]
  rw [← em] at n2 b2
  refine ⟨_,rfl,l,zs,_,rfl,SqL.of e2,n2,fun m r H3 tl s3 hr' e3=>?_⟩
  refine k m r _ _ tl (fun v hv=>(b2 v hv).mono ?_) (s2.trans s3) (s2.free hr') e3 ((n2.take m).mono s3.tups)
  have:ps.length * qs.length≤20 * 20:=Nat.mul_le_mul hl hl'
  omega
end
theorem bs0 {t b:Int} (h1:1≤b) (h6:b≤6) (h:t.natAbs≤9):N9 (Rat.divInt t b):=by
 have:=ad5 (t:=t) (b:=b) (by omega)
 exact ⟨by omega,by omega⟩
theorem N9.neg {q:Rat} (h:N9 q):N9 (-q):=⟨by show (-q.num).natAbs≤9;rw [Int.natAbs_neg];exact h.n,h.d⟩
theorem N9.bt {q:Rat} (h:N9 q):BtN 4 q:=⟨Nat.lt_of_le_of_lt h.n (Nat.lt_of_lt_of_le (show 9 < 2 ^ 4 by decide) (h8 (by decide))),Nat.lt_of_le_of_lt h.d (by decide)⟩
theorem aw6 {q:Rat} (h:0 < q.num):0 < q:=(Rat.lt_iff 0 q).mpr (by
 show (0:Int) * (q.den:Int) < q.num * ((1:Nat):Int)
 rw [Int.zero_mul];simpa using h)
theorem by0 {q:Rat} (h:N9 q) (q0:q ≠ 0):∃ q',[V.int (if q.num < 0 then -q.num else q.num),V.int q.den]=B5 q'∧N9 q'∧0 < q':=by
 have n0:q.num ≠ 0:=fun z=>q0 (Rat.num_eq_zero.mp z)
 by_cases z:q.num < 0
 ·refine ⟨-q,?_,h.neg,aw6 (by show 0 < -q.num;omega)⟩
  show _=[V.int (-q.num),V.int q.den]
  rw [if_pos z]
 ·refine ⟨q,?_,h,aw6 (by omega)⟩
  show _=[V.int q.num,V.int q.den]
  rw [if_neg z]
section
variable {P:Program} {w:World} {K:PySem.W.Frag} {mg:Str→Option Value} {base:Heap}
def ac8:Sp:=fun vs H Q _ => ∃ u kd,vs=[.ref u,.int kd]∧v7 H u∧(kd=0 ∨ kd=1)∧∀ r q H',N9 q→v9 u H H'→v7 H' u→H' r=some (.tup (B5 q))→Q (.ref r) H'
set_option maxHeartbeats 0 in
theorem am8 {f fd fl:Addr} (d:Df K mg "_law_number" D8 ["_law_urn_here","_law_kind_here"] f) (G__law_draw:Def P w K mg base CX0 1 "_law_draw" fd ["_law_urn_here","_law_many"] N7) (G__law_low:Def P w K mg base CX0 1 "_law_low" fl ["_law_top","_law_bottom"] aH1) (n_int:mg "int" = none):Def P w K mg base CX0 2 "_law_number" f ["_law_urn_here","_law_kind_here"] ac8:=by
 refine d.ok (N:=["_law_urn_here","_law_kind_here","_law_top"]) ab0 (fun vs H Q E ⟨u,kd,h,_⟩=>by rw [h];rfl) (fun cdv A outer s H vs Q E hr h=>?_)
 obtain ⟨u,kd,rfl,hu,hk,k⟩:=h
 refine ⟨_,(d6 (C9 (p5 aa1 (pv 1) d4 (n5 _)) (d6 (i4 (i:=2) ab0.nd rfl (Or.inl rfl) (i6 G8 (i6 v1 (i3 G__law_draw hr (b7 (pv 0) (b7 (i6 ab5 d4 d4) b9)) j5) (i6 ab5 d4 d4)) (i3 G__law_draw hr (b7 (pv 0) (b7 (i6 ab5 d4 d4) b9)) j5)))
   (d8 (j8 (i3 G__law_low hr (b7 (i6 v1 (pv 2) (m8 y9 (C4 (b7 d4 (b7 (Q7 J4 d4) b9))) (i3 G__law_draw hr (b7 (pv 0) (b7 d4 b9)) j5) (fun _ _=>rfl))) (b7 (i6 G8 d4 (i6 v1 (i3 G__law_draw hr (b7 (pv 0) (b7 (i6 ab5 d4 d4) b9)) j5) (i6 ab5 d4 d4))) b9)) j5)))) v8)
   (d8 (j8 (i3 G__law_low hr (b7 (i6 N0 (i3 G__law_draw hr (b7 (pv 0) (b7 d4 b9)) j5) d4) (b7 (i6 G8 d4 (i6 v1 (i3 G__law_draw hr (b7 (pv 0) (b7 d4 b9)) j5) (N4 ad6 rfl n_int (by decide +kernel) (b7 (O2 aa1 (pv 1) d4 (n5 _)) b9)))) b9)) j5)))),?_⟩
 rw [show start ["_law_urn_here","_law_kind_here","_law_top"] [.ref u,.int kd]=[some (.ref u),some (.int kd),none] from rfl]
 simp! [N7,bl1]
 refine D5 (fun hk2=>absurd hk2 (by omega)) (fun hk2=>?_)
 refine ⟨hu,by decide,by decide,fun r2 H2 a2 b2 s2 u2=>⟨u2,by decide,by decide,fun r3 H3 a3 b3 s3 u3=>⟨bD0 (by omega),?_⟩⟩⟩
 have hz:∃ z:Int,z=r3 * (if kd=0 then 1 else 0)∧0≤z∧z≤5:=by
  refine ⟨_,rfl,?_,?_⟩ <;> split <;> omega
 obtain ⟨z,ez,z0,z6⟩:=hz
 rw [← ez]
 refine ⟨_,_,rfl,by omega,Nat.lt_of_lt_of_le (show (1 + z).natAbs < 2 ^ 64 by omega) (h8 (by decide)),fun r H' sm hr'=>?_⟩
 exact k r _ H' (bs0 (by omega) (by omega) (by omega)) (s2.trans (s3.trans (d9.x sm u))) (d9.urn sm u3) hr'
def ap7:Sp:=fun vs H Q _ => ∃ u kd,vs=[.ref u,.int kd]∧v7 H u∧(kd=0 ∨ kd=1)∧∀ r q H',N9 q→q ≠ 0→v9 u H H'→v7 H' u→H' r=some (.tup (B5 q))→Q (.ref r) H'
set_option maxHeartbeats 0 in
theorem aq8 {f fd fl:Addr} (d:Df K mg "_law_other" F4 ["_law_urn_here","_law_kind_here"] f) (G__law_draw:Def P w K mg base CX0 1 "_law_draw" fd ["_law_urn_here","_law_many"] N7) (GP__law_number:Def P w K mg base CX0 2 "_law_number" fl ["_law_urn_here","_law_kind_here"] ac8):Def P w K mg base CX0 3 "_law_other" f ["_law_urn_here","_law_kind_here"] ap7:=by
 refine d.ok (N:=["_law_urn_here","_law_kind_here","_law_found"]) ae1 (fun vs H Q E ⟨u,kd,h,_⟩=>by rw [h];rfl) (fun cdv A outer s H vs Q E hr h=>?_)
 obtain ⟨u,kd,rfl,hu,hk,k⟩:=h
 have G__law_number:=GP__law_number
 refine ⟨_,(d6 (i4 (i:=2) ae1.nd rfl (Or.inl rfl) (i3 G__law_number hr (b7 (pv 0) (b7 (pv 1) b9)) j5))
   (d6 (C9 (p5 aa1 (m8 p8 (pv 2) d4 (fun _ _=>rfl)) d4 (n5 _)) (d8 (j8 (w8 (b7 (i6 G8 d4 (i3 G__law_draw hr (b7 (pv 0) (b7 d4 b9)) j5)) (b7 d4 b9))))) v8)
   (d8 (j8 (pv 2))))),?_⟩
 rw [show start ["_law_urn_here","_law_kind_here","_law_found"] [.ref u,.int kd]=[some (.ref u),some (.int kd),none] from rfl]
 simp! [N7]
 refine ⟨u,kd,rfl,hu,hk,fun r q H1 sm s1 u1 e1=>?_⟩
 refine ⟨r,rfl,_,SqT.of e1,_,at0 q,rfl,D5 (fun _=>?_) (fun hn=>?_)⟩
 ·refine ⟨u1,by decide,by decide,fun r2 H2 a2 b2 s2 u2=>⟨x9,fun l hl=>?_⟩⟩
  have hd:=af5 (n:=1 + r2) (d:=1) (by decide) (by simp)
  refine k l (Rat.divInt (1 + r2) 1) _ (bs0 (by decide) (by decide) (by omega)) ?_ (s1.trans (s2.trans (d9.x (d9.new hl _) u))) (ag7 u2 hl) ?_
  ·intro z
   rw [z] at hd
   have:(0:Rat).num=0:=rfl
   omega
  ·rw [d7]
   unfold B5
   rw [hd.1,hd.2]
 ·refine k r q H1 sm (fun z=>hn ?_) s1 u1 e1
  rw [z];rfl
def aH2:Sp:=fun vs H Q _ => ∃ u kd,vs=[.ref u,.int kd]∧v7 H u∧(kd=0 ∨ kd=1)∧∀ r q H',N9 q→0 < q→v9 u H H'→v7 H' u→H' r=some (.tup (B5 q))→Q (.ref r) H'
abbrev F6:Stmt:=top 58
theorem ae2:j7 ["_law_urn_here","_law_kind_here","_law_found"] ["_law_urn_here","_law_kind_here"] (d5 F6):=by and_intros
set_option maxHeartbeats 0 in
theorem av3 {f f1:Addr} (d:Df K mg "_law_above" F6 ["_law_urn_here","_law_kind_here"] f) (GP__law_other:Def P w K mg base CX0 3 "_law_other" f1 ["_law_urn_here","_law_kind_here"] ap7) (n_abs:mg "abs" = none):Def P w K mg base CX0 4 "_law_above" f ["_law_urn_here","_law_kind_here"] aH2:=by
 refine d.ok (N:=["_law_urn_here","_law_kind_here","_law_found"]) ae2 (by rintro vs H Q E ⟨_,_,h,_⟩;rw [h];rfl) (fun cdv A outer s H vs Q E hr h=>?_)
 obtain ⟨u,kd,rfl,hu,hk,k⟩:=h
 have G__law_other:=GP__law_other
 refine ⟨_,(d6 (i4 (i:=2) ae2.nd rfl (Or.inl rfl) (i3 G__law_other hr (b7 (pv 0) (b7 (pv 1) b9)) j5))
   (d8 (j8 (w8 (b7 (i9 V3 rfl n_abs (by decide +kernel) (b7 (m8 p8 (pv 2) d4 (fun _ _=>rfl)) b9)) (b7 (m8 p8 (pv 2) d4 (fun _ _=>rfl)) b9)))))),?_⟩
 rw [show start ["_law_urn_here","_law_kind_here","_law_found"] [.ref u,.int kd]=[some (.ref u),some (.int kd),none] from rfl]
 subst_eqs
 refine ⟨u,kd,rfl,hu,hk,fun r q H1 nk q0 s1 u1 e1=>?_⟩
 obtain ⟨q',e',n',p'⟩:=by0 nk q0
 refine ⟨r,rfl,_,SqT.of e1,_,at0 q,_,rfl,r,rfl,_,SqT.of e1,_,at1 q,x9,fun p hp=>?_⟩
 refine k p q' _ n' p' (s1.trans (d9.x (d9.new hp _) u)) (ag7 u1 hp) ?_
 rw [d7,e']
end
def RtO (r:Rtu):Prop:=N9 r.u∧N9 r.v∧(r.o=0 ∨ ((r.o=1 ∨ r.o=-1)∧0 < r.v))
theorem bm6 {B e:Nat} (hB:0 < B) (h:OvB B e 1):B < 2 ^ e:=by
 obtain ⟨v,ev,b⟩:=h
 have:v=(B:Int):=by
  have h1:Rat.divInt 1 1=Rat.divInt v B:=by rw [← ev];decide +kernel
  have:=(Rat.divInt_eq_divInt_iff (by decide) (by omega)).mp h1
  omega
 rw [this,Int.natAbs_natCast] at b
 exact b
theorem bx0 (x:Fp):(1:Rat) ∈ x.qs:=by
 unfold Fp.qs
 split <;> simp
structure bj5 (p:Pf) (n:Nat):Prop where
 lm:Lm p n
 ov:∃ B,0 < B∧B≤2 ^ (7 * n)∧OvP B (7 * n + 4) p
theorem FpB.cb {x:Fp} (F:FpB x):∃ C e,0 < C∧e + x.qs.length≤7 * x.n∧C < 2 ^ e∧∀ q ∈ x.qs,OvB C e q:=by
 obtain ⟨C,e,hC,le,oq⟩:=F.ov
 exact ⟨C,e,hC,le,bm6 hC (oq 1 (bx0 x)),oq⟩
theorem bj5.fac {p:Pf} {n:Nat} (h:bj5 p n) {x:Fp} (F:FpB x):bj5 (x.f * p) (x.n + n):=by
 refine ⟨(Fp.rf F.ok).lm.mul h.lm,?_⟩
 obtain ⟨B,hB,bB,ov⟩:=h.ov
 obtain ⟨C,e,hC,le,c1,oq⟩:=F.cb
 refine ⟨C * B,Nat.mul_pos hC hB,?_,?_⟩
 ·rw [show 7 * (x.n + n)=7 * x.n + 7 * n by omega,Nat.pow_add]
  exact Nat.mul_le_mul (Nat.le_trans (Nat.le_of_lt c1) (h8 (by omega))) bB
 ·have k:=OvP.mul hC hB (bb1 oq) ov (ax0 x.qs)
  rw [Fp.eqs] at k
  exact k.mono (by omega)
theorem bd7:bj5 1 0:=by
 obtain ⟨a,B,hB,ov⟩:=aI6
 exact ⟨a,1,by decide,by decide,fun k=>by
  rw [G6]
  split
  ·exact ⟨1,by decide +kernel,by decide⟩
  ·exact OvB.zero _ _⟩
theorem bt3 {ps:List Rat} {n:Nat} (tl:T9 ps ps.length) (lm:Lm (qp ps) n):ps.length=n + 1:=by
 have g2:n < ps.length:=Classical.byContradiction fun z=>lm.ld (ax0 ps _ (by omega))
 rcases Nat.lt_or_ge (n + 1) ps.length with y | y
 ·exfalso
  have h1:=List.getElem?_eq_getElem (l:=ps) (i:=ps.length - 1) (by omega)
  refine tl.last (by omega) _ h1 ?_
  have h3:aQ ps (ps.length - 1)=0:=lm.dg (ps.length - 1) (by omega)
  unfold aQ at h3
  rw [h1] at h3
  exact h3
 ·omega
structure Pol (ps:List Rat) (k:Rat) (M:Pf) (n:Nat):Prop where
 tl:T9 ps ps.length
 k9:N9 k
 k0:k ≠ 0
 e:qp ps=b8 k * M
 mc:bj5 M n
theorem Pol.len {ps:List Rat} {k:Rat} {M:Pf} {n:Nat} (h:Pol ps k M n):ps.length=n + 1:=bt3 h.tl (by rw [h.e];exact h.mc.lm.c h.k0)
theorem N9.ovb {q:Rat} (h:N9 q):OvB q.den 4 q:=⟨q.num,(Rat.num_divInt_den q).symm,Nat.lt_of_le_of_lt h.n (by decide)⟩
theorem Pol.bits {ps:List Rat} {k:Rat} {M:Pf} {n:Nat} (h:Pol ps k M n):∃ B,0 < B∧B < 2 ^ (7 * n + 3)∧∀ q ∈ ps,OvB B (7 * n + 8) q:=by
 obtain ⟨B,hB,bB,ov⟩:=h.mc.ov
 have kd:=k.den_pos
 have k6:=h.k9.d
 refine ⟨k.den * B,Nat.mul_pos kd hB,?_,bw7 fun i=>?_⟩
 ·rw [Nat.pow_add]
  have:=Nat.mul_le_mul k6 bB
  have p:=Nat.two_pow_pos (7 * n)
  omega
 ·rw [h.e,M1]
  exact (h.k9.ovb.mul (ov i)).mono (by omega)
theorem Pol.cl {ps:List Rat} {k:Rat} {M:Pf} {n:Nat} (h:Pol ps k M n):ClN (7 * n + 8) ps:=by
 obtain ⟨B,hB,bB,ov⟩:=h.bits
 exact aX2 hB (Nat.lt_of_lt_of_le bB (h8 (by omega))) ov
theorem bl6 {l:List Rat} {m:Nat} (t:T9 l m):qp (l.take m)=qp l:=Pf.ext fun k=>bp9 t k
theorem Pol.mul {ps:List Rat} {k:Rat} {M:Pf} {n:Nat} (h:Pol ps k M n) {x:Fp} (F:FpB x) {m:Nat} (t:T9 (V4 ps x.qs) m):Pol ((V4 ps x.qs).take m) k (x.f * M) (x.n + n) :=
 ⟨bk0 t,h.k9,h.k0,by rw [bl6 t,bv8,h.e,Fp.eqs];grind,h.mc.fac F⟩
theorem aQ9 {k:Rat} (h:N9 k) (h0:k ≠ 0):Pol [k] k 1 0:=by
 refine ⟨aK5 fun x hx=>by cases hx;exact h0,h,h0,Pf.ext fun i=>?_,bd7⟩
 rw [M1,G6]
 match i with
 | 0=>show k=k * _;rw [if_pos rfl];grind
 | i + 1=>rw [if_neg (by omega)];show (0:Rat)=_;grind
structure Drn (ps:List Rat) (L:List (Fp × Nat)) (rs:List Rtu) (few:Nat) (ap:Bool):Prop where
 fl:FL L
 fb:∀ x ∈ L,FpB x.1
 ex:∃ k n,Pol ps k (fP (tfs (L.map rt1))) n
 n8:nT (L.map rt1) + few≤8
 cn:∃ m,∀ a,NT (L.map rt1) a=rs.countP (abv a) + m
 ro:∀ r ∈ rs,RtO r
 ln:rs.length + few≤8
 pl:ap=false→az7 rs∧(∀ y ∈ L,y.1.k ≠ 2)∧∀ u,u ∈ rs.map (·.u) ↔ (⟨0,u,0⟩:Fp) ∈ L.map (·.1)
theorem bn1:N9 0:=⟨by decide,by decide⟩
theorem bp0 {k:Rat} (h:N9 k) (h0:k ≠ 0):Drn [k] [] [] 6 false where
 fl:=bz8
 fb:=fun x hx=>by simp at hx
 ex:=⟨k,0,aQ9 h h0⟩
 n8:=by decide
 cn:=⟨0,fun a=>rfl⟩
 ro:=fun r hr=>by simp at hr
 ln:=by decide
 pl:=fun _=>⟨⟨fun x hx=>by simp at hx,List.nodup_nil⟩,fun y hy=>by simp at hy,fun u=>by simp⟩
theorem aW6 {k u v:Rat} (h:N9 k) (h0:k ≠ 0) (nu:N9 u) (nv:N9 v) (v0:0 < v) {ps:List Rat} {m n:Nat} (hm:1≤m) (hp:Pol ps k (wP (⟨2,u,-v⟩:Fp).f m * 1) n):Drn ps [(⟨2,u,-v⟩,m)] [⟨u,-1,v⟩,⟨u,1,v⟩] 6 true where
 fl:=⟨fun x hx=>by rw [List.mem_singleton.mp hx];exact ⟨.inr (.inr ⟨rfl,by show -v < 0;grind⟩),hm⟩,by simp,fun x hx y hy ne=>absurd ((List.mem_singleton.mp hx).trans (List.mem_singleton.mp hy).symm) ne⟩
 fb:=fun x hx=>by
  rw [List.mem_singleton.mp hx]
  exact ai2 nu ⟨by show (-v.num).natAbs≤9;rw [Int.natAbs_neg];exact nv.n,nv.d⟩ (.inr (.inr ⟨rfl,by show -v < 0;grind⟩)) (by decide)
 ex:=⟨k,n,hp⟩
 n8:=Nat.le_refl 8
 cn:=⟨0,fun a=>by
  have e:=(Fp.cnt (x:=⟨2,u,-v⟩) (.inr (.inr ⟨rfl,by show -v < 0;grind⟩))).1 a
  have rs:Fp.rs ⟨2,u,-v⟩=[⟨u,-1,v⟩,⟨u,1,v⟩]:=by
   show [(⟨u,-1,- -v⟩:Rtu),⟨u,1,- -v⟩]=_
   rw [Rat.neg_neg]
  rw [rs] at e
  show Fp.N ⟨2,u,-v⟩ a + 0=_
  rw [e];rfl⟩
 ro:=fun r hr=>by
  simp only [List.mem_cons,List.not_mem_nil,or_false] at hr
  rcases hr with rfl | rfl
  ·exact ⟨nu,nv,.inr ⟨.inr rfl,v0⟩⟩
  ·exact ⟨nu,nv,.inr ⟨.inl rfl,v0⟩⟩
 ln:=Nat.le_refl 8
 pl:=fun z=>by cases z
theorem bb7 {ps:List Rat} {k:Rat} {M:Pf} {n j:Nat} {x:Fp} (h:Pol ps k (x.f * (wP x.f j * M)) (x.n + n)):Pol ps k (wP x.f (j + 1) * M) (x.n + n):=by
 have e:x.f * (wP x.f j * M)=wP x.f (j + 1) * M:=by show _=x.f * wP x.f j * M;grind
 rw [e] at h
 exact h
theorem Drn.quad {ps ps':List Rat} {L:List (Fp × Nat)} {rs:List Rtu} {few n:Nat} {ap:Bool} {k:Rat} (D:Drn ps L rs few ap) {u v:Rat} (nu:N9 u) (nv:N9 v) (v0:0 < v) {m:Nat} (hm:1≤m) (hf:2≤few) (hp:Pol ps' k (wP (⟨1,u,v⟩:Fp).f m * fP (tfs (L.map rt1))) n):Drn ps' (ai8 ⟨1,u,v⟩ m L) rs (few - 2) ap where
 fl:=D.fl.add (.inr (.inl ⟨rfl,v0⟩)) hm fun y _ _=>⟨fun z=>absurd z (by show (1:Nat) ≠ 2;decide),fun _=>rfl⟩
 fb:=fun x hx=>by
  rcases O8 hx with ⟨a,_⟩ | z
  ·rw [a];exact ai2 nu nv (.inr (.inl ⟨rfl,v0⟩)) (by decide)
  ·exact D.fb x z
 ex:=⟨k,n,by rw [aO6];exact hp⟩
 n8:=by
  rw [aR5 _ _ _ D.fl.nd]
  have:=D.n8
  have:Fp.n ⟨1,u,v⟩=2:=rfl
  split <;> omega
 cn:=by
  obtain ⟨c,hc⟩:=D.cn
  have e:=(Fp.cnt (x:=⟨1,u,v⟩) (.inr (.inl ⟨rfl,v0⟩))).1
  have e':∀ a,Fp.N ⟨1,u,v⟩ a=1:=fun a=>by rw [e];rfl
  refine ⟨c + if (⟨1,u,v⟩:Fp) ∈ L.map (·.1) then 0 else 1,fun a=>?_⟩
  rw [bc9 _ _ _ D.fl.nd,hc,e' a]
  omega
 ro:=D.ro
 ln:=by have:=D.ln;omega
 pl:=fun z=>by
  obtain ⟨a,b,c⟩:=D.pl z
  refine ⟨a,fun y hy=>?_,fun t=>(c t).trans ?_⟩
  ·rcases O8 hy with ⟨a,_⟩ | z
   ·rw [a];show (1:Nat) ≠ 2;decide
   ·exact b y z
  ·rw [P7 _ _ _ D.fl.nd]
   split
   ·exact Iff.rfl
   ·rw [List.mem_append,List.mem_singleton]
    exact ⟨.inl,fun h=>h.resolve_right fun z=>by cases z⟩
theorem Drn.lin {ps ps':List Rat} {L:List (Fp × Nat)} {rs:List Rtu} {few n:Nat} {k:Rat} (D:Drn ps L rs few false) {u:Rat} (nu:N9 u) {m:Nat} (hm:1≤m) (hf:1≤few) (hp:Pol ps' k (wP (⟨0,u,0⟩:Fp).f m * fP (tfs (L.map rt1))) n):Drn ps' (ai8 ⟨0,u,0⟩ m L) (au4 u rs) (few - 1) false where
 fl:=D.fl.add (.inl ⟨rfl,rfl⟩) hm fun y hy _=>⟨fun z=>absurd z (by show (0:Nat) ≠ 2;decide),fun z=>absurd z ((D.pl rfl).2.1 y hy)⟩
 fb:=fun x hx=>by
  rcases O8 hx with ⟨a,_⟩ | z
  ·rw [a];exact aS2 nu
  ·exact D.fb x z
 ex:=⟨k,n,by rw [aO6];exact hp⟩
 n8:=by
  rw [aR5 _ _ _ D.fl.nd]
  have:=D.n8
  have:Fp.n ⟨0,u,0⟩=1:=rfl
  split <;> omega
 cn:=by
  obtain ⟨c,hc⟩:=D.cn
  obtain ⟨a,b,i⟩:=D.pl rfl
  have e:=(Fp.cnt (x:=⟨0,u,0⟩) (.inl ⟨rfl,rfl⟩)).1
  refine ⟨c,fun t=>?_⟩
  rw [bc9 _ _ _ D.fl.nd,hc,aU9 _ _ a]
  by_cases z:u ∈ rs.map (·.u)
  ·rw [if_pos z,if_pos ((i u).mp z)];omega
  ·rw [if_neg z,if_neg fun y=>z ((i u).mpr y),e t]
   show _ + c + (List.countP (abv t) [(⟨u,0,0⟩:Rtu)] + 0)=_
   omega
 ro:=fun r hr=>by
  unfold au4 at hr
  rcases List.mem_append.mp hr with y | y
  ·rcases List.mem_append.mp y with z | z
   ·exact D.ro r (List.mem_filter.mp z).1
   ·rw [List.mem_singleton.mp z];exact ⟨nu,bn1,.inl rfl⟩
  ·exact D.ro r (List.mem_filter.mp y).1
 ln:=by
  have h1:=D.ln
  have h2:=ag2 (fun _=>true) u rs
  have ct:∀ l:List Rtu,List.countP (fun _=>true) l=l.length:=fun l=>by rw [List.countP_eq_length];intros;rfl
  rw [ct,ct,ct,ct] at h2
  unfold au4
  rw [List.length_append,List.length_append,List.length_singleton]
  omega
 pl:=fun _=>by
  obtain ⟨a,b,i⟩:=D.pl rfl
  refine ⟨aU8 a,fun y hy=>?_,fun t=>?_⟩
  ·rcases O8 hy with ⟨a,_⟩ | z
   ·rw [a];show (0:Nat) ≠ 2;decide
   ·exact b y z
  ·rw [bl9,i t,P7 _ _ _ D.fl.nd]
   split
   ·rename_i z
    exact ⟨fun h=>h.elim (fun y=>by rw [y];exact z) id,.inr⟩
   ·rw [List.mem_append,List.mem_singleton]
    exact ⟨fun h=>h.elim (fun y=>.inr (by rw [y])) .inl,fun h=>h.elim .inr fun y=>.inl (by cases y;rfl)⟩
theorem Drn.told {ps:List Rat} {L:List (Fp × Nat)} {rs:List Rtu} {few:Nat} {ap:Bool} (D:Drn ps L rs few ap) (h:ps.length≤11):at5 ps L:=by
 obtain ⟨k,n,hp⟩:=D.ex
 have l:=hp.len
 exact ⟨D.fl,D.fb,hp.tl,⟨k,hp.k0,hp.e⟩,hp.cl.mono (by omega),h,by have:=D.n8;omega⟩
end R
namespace L2
open PySem PySem.Spec PyProof.Rows
theorem aW7 {K:PySem.W.Frag} {a D:Addr} {g:TG} {tt:TT} {te:TE} {σ0:St} {H0:Hp} {Q:VK} (xs:List V) (Pv:Nat→St→Hp→Prop) (h0:Pv 0 σ0 H0) (hl:∀ i σ H,i≤xs.length→Pv i σ H→SqL K H a xs)
  (hs:∀ i x σ H,xs[i]? = some x→Pv i σ H→g x σ H fun σ4 H4=>tt σ4 H4 fun b H4'=>if b=true then te σ4 H4' fun y H5=>N5 D xs.length Pv i σ4 y H5 else aT6 xs.length Pv i σ4 H4')
  (hd:∀ σ H,Pv xs.length σ H→Q (.ref D) H):aO8 (Itl K a) D σ0 H0 g tt te Q:=by
 refine ⟨fun i m σ H=>m=xs.length - i∧i≤xs.length∧Pv i σ H,⟨xs.length,by simp,Nat.zero_le _,h0⟩,?_⟩
 rintro i m σ H ⟨rfl,hi,p⟩
 have q:=hl i σ H hi p
 by_cases hlt:i < xs.length
 ·refine .inr ⟨⟨xs,xs[i],q,List.getElem?_eq_getElem hlt⟩,?_⟩
  rintro x H3 ⟨rfl,hx⟩
  exact hs i x σ _ (hx xs q) p
 ·have e:i=xs.length:=by omega
  subst e
  exact .inl ⟨⟨xs,q,Nat.le_refl _⟩,hd σ H p⟩
end L2
namespace R
open PySem L2 PyProof.Rows
theorem Drn.few {ps:List Rat} {L:List (Fp × Nat)} {rs:List Rtu} {few few':Nat} {ap:Bool} (D:Drn ps L rs few ap) (h:few'≤few):Drn ps L rs few' ap:=⟨D.fl,D.fb,D.ex,by have:=D.n8;omega,D.cn,D.ro,by have:=D.ln;omega,D.pl⟩
theorem aQ2 (q:Rat):sgQ q=sg3 q:=rfl
def aG2 (H:Hp) (v:V) (r:Rtu):Prop:=∃ t pu pw,v=.ref t∧H t=some (.tup [.ref pu,.int r.o,.ref pw])∧H pu=some (.tup (B5 r.u))∧H pw=some (.tup (B5 r.v))
theorem aG2.mono {H H':Hp} {v:V} {r:Rtu} (s:ag6 H H') (h:aG2 H v r):aG2 H' v r:=by
 obtain ⟨t,pu,pw,e,a,b,c⟩:=h
 exact ⟨t,pu,pw,e,s _ _ a,s _ _ b,s _ _ c⟩
inductive Rts (H:Hp):List V→List Rtu→Prop where
 | nil:Rts H [] []
 | cons {v:V} {r:Rtu} {vs:List V} {rs:List Rtu} (h:aG2 H v r) (t:Rts H vs rs):Rts H (v :: vs) (r :: rs)
theorem Rts.mono {H H':Hp} {vs:List V} {rs:List Rtu} (s:ag6 H H') (h:Rts H vs rs):Rts H' vs rs:=by
 induction h with
 | nil=>exact .nil
 | cons a _ ih=>exact .cons (a.mono s) ih
theorem Rts.length {H:Hp} {vs:List V} {rs:List Rtu} (h:Rts H vs rs):vs.length=rs.length:=by
 induction h with
 | nil=>rfl
 | cons _ _ ih=>simp [ih]
theorem Rts.append {H:Hp} {vs ws:List V} {rs ss:List Rtu} (h:Rts H vs rs) (k:Rts H ws ss):Rts H (vs ++ ws) (rs ++ ss):=by
 induction h with
 | nil=>exact k
 | cons a _ ih=>exact .cons a ih
theorem Rts.get {H:Hp}:∀ {vs:List V} {rs:List Rtu} {i:Nat} {v:V},Rts H vs rs→vs[i]? = some v→∃ r,rs[i]? = some r∧aG2 H v r
 | _,_,_,_,.nil,e=>by simp at e
 | _,_,0,_,.cons h _,ev=>by cases ev;exact ⟨_,rfl,h⟩
 | _,_,i + 1,_,.cons _ t,ev=>t.get (i:=i) (by simpa using ev)
def dRt (r:Rtu):D:=.tup [V5 r.u,.v (.int r.o),V5 r.v]
theorem Rts.isDs {K:PySem.W.Frag} {H:Hp} {vs:List V} {rs:List Rtu} (h:Rts H vs rs):ac6 K H vs (rs.map dRt):=by
 induction h with
 | nil=>exact .nil
 | cons a _ ih =>
  obtain ⟨t,pu,pw,rfl,e1,e2,e3⟩:=a
  exact .cons (.tup (SqT.of e1) (.cons (aE4 (SqT.of e2)) (.cons (.v rfl) (.cons (aE4 (SqT.of e3)) .nil)))) ih
theorem aJ8:∀ rs:List Rtu,ag0 (rs.map dRt)≤4
 | []=>by simp [ag0]
 | r :: rs=>by
  have:=aJ8 rs
  have:dpD (dRt r)≤4:=by simp [dRt,V5,dpD,ag0]
  rw [List.map_cons,ag0];omega
theorem bc8 (ds:List D):okD (.lst ds) (.lst [])=true:=by
 cases ds <;> simp [okD,ad8]
theorem bg8 (rs:List Rtu):eqD (.lst (rs.map dRt)) (.lst [])=decide (rs=[]):=by
 cases rs <;> simp [eqD,O9]
theorem bh2 (rs:List Rtu) (ol oh:Option Rat) {i:Nat} {r:Rtu} (h:rs[i]? = some r):af9 (rs.take (i + 1)) ol oh=af9 (rs.take i) ol oh + if (loA ol r && hiA oh r)=true then 1 else 0:=by
 unfold af9
 rw [List.take_succ,h,List.countP_append]
 show _ + List.countP _ [r]=_
 rw [List.countP_cons,List.countP_nil,Nat.zero_add]
theorem nw {H:Hp} {a:Addr} (o:HO) (h:H a=none):∃ H',upd H a o=H'∧d9 H H'∧H' a=some o:=⟨_,rfl,d9.new h o,d7⟩
theorem N9.bd {q:Rat} (h:N9 q):BdN 4 q:=⟨Nat.lt_of_le_of_lt h.n (by decide),Nat.lt_of_le_of_lt h.d (by decide)⟩
theorem bk9 {c:Rat} {x:Rtu} (h:x.o=0 ∨ ((x.o=1 ∨ x.o=-1)∧0 < x.v)):decide (0≤al2 c x) = !abv c x:=by
 have e:=aH3 (c:=c) h
 cases z:abv c x with
 | true=>have:=e.mpr z;simp;omega
 | false =>
  have:¬ al2 c x < 0:=fun y=>by rw [e.mp y] at z;cases z
  simp;omega
theorem bk8 {c:Rat} {x:Rtu} (h:x.o=0 ∨ ((x.o=1 ∨ x.o=-1)∧0 < x.v)):decide (al2 c x < 0)=abv c x:=by
 have e:=aH3 (c:=c) h
 cases z:abv c x with
 | true=>have:=e.mpr z;simp;omega
 | false =>
  have:¬ al2 c x < 0:=fun y=>by rw [e.mp y] at z;cases z
  simp;omega
theorem aU5 (q:Rat):sg3 q=1 ∨ sg3 q=-1 ∨ sg3 q=0:=by
 unfold sg3
 split
 ·exact .inl rfl
 ·split
  ·exact .inr (.inl rfl)
  ·exact .inr (.inr rfl)
theorem bx3:HO.tup [V.int 1,V.int 1000]=HO.tup (B5 (mkRat 1 1000)):=by
 have n1:(mkRat 1 1000).num=1:=by decide +kernel
 have d1:(mkRat 1 1000).den=1000:=by decide +kernel
 unfold B5
 rw [n1,d1];rfl
theorem bx2:HO.tup [V.int (-1),V.int 1000]=HO.tup (B5 (mkRat (-1) 1000)):=by
 have n1:(mkRat (-1) 1000).num=-1:=by decide +kernel
 have d1:(mkRat (-1) 1000).den=1000:=by decide +kernel
 unfold B5
 rw [n1,d1];rfl
section
variable {P:Program} {w:World} {K:PySem.W.Frag} {mg:Str→Option Value} {base:Heap}
def aZ7 (K:PySem.W.Frag):Sp:=fun vs H Q _ => ∃ x c y r,vs=[x,y]∧Num K H x c∧aG2 H y r∧BdN 60 c∧RtO r∧∀ H',d9 H H'→Q (.int (al2 c r)) H'
abbrev K6:Stmt:=top 63
theorem N8:j7 ["_law_c","_law_root","_law_d","_law_u","_law_often","_law_v"] ["_law_c","_law_root"] (d5 K6):=by and_intros
set_option maxHeartbeats 0 in
theorem aD0 {f f1 f2 f3 : Addr} (d : Df K mg "_law_side" K6 ["_law_c", "_law_root"] f) (G__law_less : Def P w K mg base CX0 2 "_law_less" f1 ["_law_one", "_law_other_here"] (S9 K (· - ·))) (G__law_sign : Def P w K mg base CX0 1 "_law_sign" f2 ["_law_number_here"] (br3 K)) (G__law_times : Def P w K mg base CX0 2 "_law_times" f3 ["_law_one", "_law_other_here"] (S9 K (· * ·))) : Def P w K mg base CX0 3 "_law_side" f ["_law_c", "_law_root"] (aZ7 K) := by
  refine d.ok (N := ["_law_c", "_law_root", "_law_d", "_law_u", "_law_often", "_law_v"]) N8 (by rintro vs H Q E ⟨_, _, _, _, h, _⟩; rw [h]; rfl) (fun cdv A outer s H vs Q E hr h => ?_)
  obtain ⟨x, c, y, r, rfl, ⟨ac, rfl, hc⟩, ⟨t, pu, pw, rfl, et, eu, ev⟩, bc, ⟨nu, nv, ho⟩, k⟩ := h
  refine ⟨_, (d6 (Z2 (pv 1) (show PG _ _ (ao0 K 3 (L9 (C1 3) (L9 (C1 4) (L9 (C1 5) ao1)))) from by (refine Z3 (n := 3) ?_ ?_ ?_ ?_; rfl; (refine z8 ?_ ?_ ?_; (exact (m6 (i := 3) N8.nd rfl (Or.inl rfl))); (refine z8 ?_ ?_ ?_; (exact (m6 (i := 4) N8.nd rfl (Or.inl rfl))); (refine z8 ?_ ?_ ?_; (exact (m6 (i := 5) N8.nd rfl (Or.inl rfl))); (exact T4); rfl); rfl); rfl); rfl; rfl)))
      (d6 (i4 (i := 2) N8.nd rfl (Or.inl rfl) (i3 G__law_less hr (b7 (pv 0) (b7 (pv 3) b9)) j5))
      (d6 (C9 (p5 aa1 (pv 4) d4 (n5 _)) (d8 (j8 (i3 G__law_sign hr (b7 (pv 2) b9) j5))) v8)
      (d6 (C9 (p5 br7 (i3 G__law_sign hr (b7 (pv 2) b9) j5) (pv 4) (n5 _)) (d8 (j8 (i6 N0 d4 (pv 4)))) v8)
      (d8 (j8 (i6 v1 (pv 4) (i3 G__law_sign hr (b7 (i3 G__law_less hr (b7 (i3 G__law_times hr (b7 (pv 2) (b7 (pv 2) b9)) j5) (b7 (pv 5) b9)) j5) b9) j5)))))))), ?_⟩
  rw [show start ["_law_c", "_law_root", "_law_d", "_law_u", "_law_often", "_law_v"] [.ref ac, .ref t] = [some (.ref ac), some (.ref t), none, none, none, none] from rfl]
  subst_eqs
  have bd : BtN 65 (c - r.u) := (BdN.sub bc nu.bd).t (by decide)
  have bdd : BtN 130 ((c - r.u) * (c - r.u)) := ((BdN.sub bc nu.bd).mul (BdN.sub bc nu.bd)).t (by decide)
  refine ⟨_, SqT.of et, rfl, _, _, rfl, _, _, rfl, _, _, rfl, rfl, _, _, c, r.u, 60, 4, rfl, ⟨ac, rfl, hc⟩, ⟨pu, rfl, SqT.of eu⟩, bc.t (by decide), nu.bt, by decide, fun rd H1 s1 e1 => ⟨rfl, ?_⟩⟩
  unfold al2 at k
  by_cases o0 : r.o = 0
  · rw [if_pos (by rw [o0])]
    simp only [if_pos o0] at k
    exact ⟨_, _, rfl, ⟨rd, rfl, SqT.of e1⟩, k _ s1⟩
  rw [if_neg (fun z => o0 (V.int.inj z))]
  simp only [if_neg o0] at k
  refine ⟨_, _, rfl, ⟨rd, rfl, SqT.of e1⟩, rfl, ?_⟩
  rw [aQ2]
  by_cases so : sg3 (c - r.u) = r.o
  · rw [if_neg (fun z => z (by rw [so]))]
    simp only [if_neg (fun z => z so : ¬ (sg3 (c - r.u) ≠ r.o))] at k
    refine ⟨_, _, _, _, 65, 65, rfl, ⟨rd, rfl, SqT.of e1⟩, ⟨rd, rfl, SqT.of e1⟩, bd, bd, by decide, fun r2 H2 s2 e2 => ⟨_, _, _, r.v, 130, 4, rfl, ⟨r2, rfl, SqT.of e2⟩, ⟨pw, rfl, SqT.of (s2 _ _ (s1 _ _ ev))⟩, bdd, nv.bt, by decide, fun r3 H3 s3 e3 => ⟨_, _, rfl, ⟨r3, rfl, SqT.of e3⟩, _, rfl, _, rfl, bs1 ?_, k _ (s1.trans (s2.trans s3))⟩⟩⟩
    rw [aQ2]
    rcases aU5 ((c - r.u) * (c - r.u) - r.v) with z | z | z <;> rw [z] <;> decide
  · rw [if_pos (fun z => so (V.int.inj z))]
    simp only [if_pos so] at k
    exact ⟨_, rfl, k _ s1⟩
def br4 (K:PySem.W.Frag):Sp:=fun vs H Q _ => ∃ u kd a ts rs,vs=[.ref u,.int kd,.ref a]∧v7 H u∧a ≠ u∧(kd=0 ∨ kd=1)∧H a=some (.lst ts)∧Rts H ts rs∧(∀ r ∈ rs,RtO r)∧rs.length≤20∧∀ v o H',(∀ q,o=some q→BdN 60 q∧∃ b,v=.ref b∧H' b=some (.tup (B5 q)))→(o=none→v=.non)→v9 u H H'→v7 H' u→Q v H'
abbrev M7:Stmt:=top 65
theorem V9:j7 ["_law_urn_here","_law_kind_here","_law_roots","_law_way","_law_found"] ["_law_urn_here","_law_kind_here","_law_roots"] (d5 M7):=by and_intros
set_option maxHeartbeats 0 in
theorem aI1 {f f1 f2 f3:Addr} (d:Df K mg "_law_end" M7 ["_law_urn_here","_law_kind_here","_law_roots"] f) (G__law_draw:Def P w K mg base CX0 1 "_law_draw" f1 ["_law_urn_here","_law_many"] N7) (GP__law_number:Def P w K mg base CX0 2 "_law_number" f2 ["_law_urn_here","_law_kind_here"] ac8) (G__law_plus:Def P w K mg base CX0 2 "_law_plus" f3 ["_law_one","_law_other_here"] (S9 K (· + ·))) (n_len:mg "len" = none):Def P w K mg base CX0 3 "_law_end" f ["_law_urn_here","_law_kind_here","_law_roots"] (br4 K):=by
 have G__law_number:=GP__law_number
 refine d.ok (N:=["_law_urn_here","_law_kind_here","_law_roots","_law_way","_law_found"]) V9 (by rintro vs H Q E ⟨_,_,_,_,_,h,_⟩;rw [h];rfl) (fun cdv A outer s H vs Q E hr h=>?_)
 obtain ⟨u,kd,a,ts,rs,rfl,hU,au,hk,hS,hR,hO,hl,k⟩:=h
 have hu:=hr.units
 refine ⟨_,(d6 (i4 (i:=3) V9.nd rfl (Or.inl rfl) (i3 G__law_draw hr (b7 (pv 0) (b7 d4 b9)) j5))
   (d6 (i4 (i:=4) V9.nd rfl (Or.inl rfl) (i3 G__law_number hr (b7 (pv 0) (b7 (pv 1) b9)) j5))
   (d6 (C9 (p5 aa1 (pv 3) d4 (n5 _)) (d8 (j8 U9)) v8)
   (d6 (C9 (PW.pt (W5 (p5 ae4 (pv 3) d4 (n5 _)) (W0 (p5 (aj6 hu) (pv 2) (C4 b9) (n5 _))))) (d6 (i4 (i:=4) V9.nd rfl (Or.inl rfl) (m8 p8 (m8 y9 (pv 2) (i3 G__law_draw hr (b7 (pv 0) (b7 (i9 q8 rfl n_len (by decide +kernel) (b7 (pv 2) b9)) b9)) j5) (fun _ _=>rfl)) d4 (fun _ _=>rfl)))
   (d8 (j8 (i3 G__law_plus hr (b7 (pv 4) (b7 (m8 y9 (C4 (b7 (w8 (b7 d4 (b7 d4 b9))) (b7 (w8 (b7 d4 (b7 d4 b9))) (b7 (w8 (b7 (Q7 J4 d4) (b7 d4 b9))) (b7 (w8 (b7 d4 (b7 d4 b9))) b9))))) (i6 N0 (pv 3) d4) (fun _ _=>rfl)) b9)) j5)))) v8)
   (d8 (j8 (pv 4))))))),?_⟩
 rw [show start ["_law_urn_here","_law_kind_here","_law_roots","_law_way","_law_found"] [.ref u,.int kd,.ref a]=[some (.ref u),some (.int kd),some (.ref a),none,none] from rfl]
 refine i7 (fun σ H1 => ∃ way:Int,σ=[some (.ref u),some (.int kd),some (.ref a),some (.int way),none]∧v9 u H H1∧v7 H1 u∧0≤way∧way < 6) (fun N hN=>?_) ?_
 ·simp! [N7]
  exact ⟨hU,by decide,by decide,fun r H1 r0 r6 s1 u1=>hN _ _ ⟨r,rfl,s1,u1,r0,r6⟩⟩
 rintro σ H1 ⟨way,rfl,s1,u1,w0,w6⟩
 refine i7 (fun σ H2 => ∃ pn q,σ=[some (.ref u),some (.int kd),some (.ref a),some (.int way),some (.ref pn)]∧v9 u H H2∧v7 H2 u∧N9 q∧H2 pn=some (.tup (B5 q))) (fun N hN=>?_) ?_
 ·subst_eqs
  exact ⟨u,kd,rfl,u1,hk,fun r q H2 nq s2 u2 e2=>hN _ _ ⟨r,q,rfl,s1.trans s2,u2,nq,e2⟩⟩
 clear s1 u1
 rintro σ H2 ⟨pn,q,rfl,s2,u2,nq,e2⟩
 simp! [N7]
 have bq:BdN 60 q:=⟨Nat.lt_of_le_of_lt nq.n (by decide),Nat.lt_of_le_of_lt nq.d (by decide)⟩
 have kq:∀ H',d9 H2 H'→Q (.ref pn) H':=fun H' s'=>k _ (some q) _ (fun q' e=>by cases e;exact ⟨bq,pn,rfl,s' _ _ e2⟩) (fun z=>by cases z) (s2.trans (d9.x s' u)) (d9.urn s' u2)
 have eS2:=s2 _ _ hS au
 have hS2:SqL K H2 a ts:=SqL.of eS2
 have hR2:=hR.mono (s2.tups hU)
 have lt:=hR.length
 refine ⟨rfl,D5 (fun _=>k _ none _ (fun q' e=>by cases e) (fun _=>rfl) s2 u2) (fun w1=>D5 (fun w5=>⟨by decide,fun p hp=>?_⟩) (fun _=>kq _ (d9.refl _)))⟩
 have S1:=d9.new hp (.lst [])
 refine ⟨.lst (rs.map dRt),.lst [],rfl,.lst (S1.seq hS2) (hR2.mono S1.tups).isDs,.lst (SqL.of d7) .nil,bc8 _,?_,?_⟩
 ·have:=aJ8 rs
  exact Nat.le_trans (show _≤5 by rw [dpD];omega) (by decide)
 rw [bg8]
 refine ⟨_,rfl,D5 (fun h=>?_) (fun h=>kq _ S1)⟩
 have hne:rs ≠ []:=fun z=>by rw [z] at h;simp at h
 have rpos:=List.length_pos_iff.mpr hne
 have U1:=ag7 (o:=.lst []) u2 hp
 refine ⟨_,.inl (S1.seq hS2),U1,by omega,by omega,fun i H4 i0 il s4 u4=>?_⟩
 have s24:v9 u H2 H4:=(d9.x S1 u).trans s4
 have e4:=s24 _ _ eS2 au
 have R4:=hR2.mono (s24.tups u2)
 obtain ⟨v,hv⟩:∃ v,ts[i.toNat]? = some v:=⟨_,List.getElem?_eq_getElem (by omega)⟩
 obtain ⟨r,hr',t,pu,pw,rfl,et,eu,ew⟩:=R4.get hv
 have ro:=hO r (List.mem_of_getElem? hr')
 have hat:atI ts i=some (.ref t):=by
  have:=Z8 hv
  rwa [show ((i.toNat:Nat):Int)=i by omega] at this
 refine ⟨_,SqL.of e4,_,hat,_,rfl,_,SqT.of et,_,rfl,x9,fun p0 h0=>?_⟩
 obtain ⟨A0,y0,X0,g0⟩:=nw (.tup [.int 0,.int 1]) h0
 rw [y0]
 refine ⟨x9,fun p1 h1=>?_⟩
 obtain ⟨A1,y1,X1,g1⟩:=nw (.tup [.int 1,.int 1000]) h1
 rw [y1]
 refine ⟨x9,fun p2 h2=>?_⟩
 obtain ⟨A2,y2,X2,g2⟩:=nw (.tup [.int (-1),.int 1000]) h2
 rw [y2]
 refine ⟨x9,fun p3 h3=>?_⟩
 obtain ⟨A3,y3,X3,g3⟩:=nw (.tup [.int 0,.int 1]) h3
 rw [y3]
 refine ⟨by decide,fun p4 h4=>?_⟩
 obtain ⟨H5,y4,X4,g4⟩:=nw (.lst [.ref p0,.ref p1,.ref p2,.ref p3]) h4
 rw [y4]
 have Y3:=X3.trans X4
 have Y2:=X2.trans Y3
 have Y1:=X1.trans Y2
 have Y0:=X0.trans Y1
 have g0:=Y1 p0 _ g0
 have g1:=Y2 p1 _ g1
 have g2:=Y3 p2 _ g2
 have g3:=X4 p3 _ g3
 have fin:∀ (px:Addr) (c:Rat),H5 px=some (.tup (B5 c))→BdN 10 c→S9 K (fun x1 x2=>x1 + x2) [.ref pu,.ref px] H5 Q E0:=fun px c ex bc =>
  ⟨_,_,r.u,c,4,10,rfl,⟨pu,rfl,SqT.of (Y0 _ _ eu)⟩,⟨px,rfl,SqT.of ex⟩,ro.1.bt,bc.t (by decide),by decide,fun r6 H6 s6 e6=>k _ (some (r.u + c)) _ (fun q' e=>by cases e;exact ⟨(BdN.add ro.1.bd bc).mono (by decide),r6,rfl,e6⟩) (fun z=>by cases z) (s2.trans (s24.trans (d9.x (Y0.trans s6) u))) (d9.urn s6 (d9.urn Y0 u4))⟩
 have w4:way=1 ∨ way=2 ∨ way=3 ∨ way=4:=by omega
 rcases w4 with rfl | rfl | rfl | rfl
 ·exact ⟨_,SqL.of g4,_,rfl,fin p0 0 g0 (by constructor <;> decide)⟩
 ·exact ⟨_,SqL.of g4,_,rfl,fin p1 (mkRat 1 1000) (by rw [g1,bx3]) (by constructor <;> decide +kernel)⟩
 ·exact ⟨_,SqL.of g4,_,rfl,fin p2 (mkRat (-1) 1000) (by rw [g2,bx2]) (by constructor <;> decide +kernel)⟩
 ·exact ⟨_,SqL.of g4,_,rfl,fin p3 0 g3 (by constructor <;> decide)⟩
def br5 (K:PySem.W.Frag):Sp:=fun vs H Q _ => ∃ a ts rs lo hi ol oh,vs=[.ref a,lo,hi]∧SqL K H a ts∧Rts H ts rs∧(∀ r ∈ rs,RtO r)∧rs.length≤20∧aO7 K H lo ol∧aO7 K H hi oh∧(∀ q,ol=some q→BdN 60 q)∧(∀ q,oh=some q→BdN 60 q)∧∀ H',d9 H H'→Q (.int (af9 rs ol oh:Nat)) H'
abbrev M8:Stmt:=top 66
theorem N2:j7 ["_law_roots","_law_low_here","_law_high","_law_found","_law_root","_law_above_here","_law_beneath"] ["_law_roots","_law_low_here","_law_high"] (d5 M8):=by and_intros
set_option maxHeartbeats 0 in
theorem aI2 {f f1:Addr} (d:Df K mg "_law_due" M8 ["_law_roots","_law_low_here","_law_high"] f) (G__law_side:Def P w K mg base CX0 3 "_law_side" f1 ["_law_c","_law_root"] (aZ7 K)) (n_int:mg "int" = none):Def P w K mg base CX0 4 "_law_due" f ["_law_roots","_law_low_here","_law_high"] (br5 K):=by
 refine d.ok (N:=["_law_roots","_law_low_here","_law_high","_law_found","_law_root","_law_above_here","_law_beneath"]) N2 (by rintro vs H Q E ⟨_,_,_,_,_,_,_,h,_⟩;rw [h];rfl) (fun cdv A outer s H vs Q E hr h=>?_)
 obtain ⟨a,ts,rs,lo,hi,ol,oh,rfl,hS,hR,hO,hl,nl,nh,bl,bh,k⟩:=h
 refine ⟨_,(d6 (i4 (i:=3) N2.nd rfl (Or.inl rfl) d4)
   (d6 (O0 PassesOwn.never rfl (E1 (pv 0)) (m6 (i:=4) N2.nd rfl (Or.inl rfl)) (d6 (i4 (i:=5) N2.nd rfl (Or.inl rfl) (br6 (O2 aC7 (pv 1) U9 (n5 _)) (aj4 (O2 ae4 (i3 G__law_side hr (b7 (pv 1) (b7 (pv 4) b9)) j5) d4 (n5 _)))))
   (d6 (i4 (i:=6) N2.nd rfl (Or.inl rfl) (br6 (O2 aC7 (pv 2) U9 (n5 _)) (aj4 (O2 bc5 (i3 G__law_side hr (b7 (pv 2) (b7 (pv 4) b9)) j5) d4 (n5 _)))))
   (d8 (i4 (i:=3) N2.nd rfl (Or.inl rfl) (i6 G8 (pv 3) (N4 ad6 rfl n_int (by decide +kernel) (b7 (aM0 (pv 5) (aj4 (pv 6))) b9))))))))
   (d8 (j8 (pv 3))))),?_⟩
 rw [show start ["_law_roots","_law_low_here","_law_high","_law_found","_law_root","_law_above_here","_law_beneath"] [.ref a,lo,hi]=[some (.ref a),some (lo),some (hi),none,none,none,none] from rfl]
 have lt:=hR.length
 subst_eqs
 refine ⟨_,rfl,a,rfl,⟨_,hS⟩,ai3 (xs:=ts) (fun i σ H1=>d9 H H1∧∃ o4 o5 o6,σ=[some (.ref a),some lo,some hi,some (.int (af9 (rs.take i) ol oh:Nat)),o4,o5,o6]) ⟨d9.refl _,_,_,_,rfl⟩ (fun i σ H1 _ ⟨e,_⟩=>e.seq hS) ?_ ?_⟩
 ·rintro i x σ H1 hx ⟨s1,o4,o5,o6,rfl⟩
  obtain ⟨r,hr',rx⟩:=hR.get hx
  have rx1:=rx.mono s1.tups
  have ro:=hO r (List.mem_of_getElem? hr')
  have ds:=bh2 rs ol oh hr'
  refine i7 (fun σ H2=>d9 H1 H2∧σ=[some (.ref a),some lo,some hi,some (.int (af9 (rs.take i) ol oh:Nat)),some x,some (.bl (loA ol r)),o6]) (fun N hN=>?_) ?_
  ·subst_eqs
   cases ol with
   | none =>
    have e:lo=.non:=nl
    subst e
    rw [if_pos rfl]
    exact hN _ _ ⟨d9.refl _,rfl⟩
   | some c =>
    obtain ⟨⟨pl,rfl,hl'⟩,_⟩:=nl
    rw [if_neg (by simp)]
    refine ⟨_,c,_,r,rfl,⟨pl,rfl,s1.tup hl'⟩,rx1,bl c rfl,ro,fun H2 s2=>⟨_,rfl,hN _ _ ⟨s2,?_⟩⟩⟩
    rw [bk8 ro.2.2];rfl
  rintro σ H2 ⟨s2,rfl⟩
  have s12:=s1.trans s2
  refine i7 (fun σ H3=>d9 H2 H3∧σ=[some (.ref a),some lo,some hi,some (.int (af9 (rs.take i) ol oh:Nat)),some x,some (.bl (loA ol r)),some (.bl (hiA oh r))]) (fun N hN=>?_) ?_
  ·subst_eqs
   cases oh with
   | none =>
    have e:hi=.non:=nh
    subst e
    rw [if_pos rfl]
    exact hN _ _ ⟨d9.refl _,rfl⟩
   | some c =>
    obtain ⟨⟨pl,rfl,hl'⟩,_⟩:=nh
    rw [if_neg (by simp)]
    refine ⟨_,c,_,r,rfl,⟨pl,rfl,s12.tup hl'⟩,rx1.mono s2.tups,bh c rfl,ro,fun H3 s3=>⟨_,rfl,hN _ _ ⟨s3,?_⟩⟩⟩
    rw [bk9 ro.2.2];rfl
  rintro σ H3 ⟨s3,rfl⟩
  subst_eqs
  rw [ds]
  refine D5 (fun h=>⟨s12.trans s3,?_,_,rfl⟩) (fun h=>⟨s12.trans s3,?_,_,rfl⟩)
  ·rw [h,Bool.true_and];split <;> simp
  ·rw [Bool.eq_false_iff.mpr h,Bool.false_and];simp
 ·rintro σ H1 ⟨s1,o4,o5,o6,rfl⟩
  subst_eqs
  rw [lt,List.take_length]
  exact k _ s1
end
structure PRt (u:Addr) (H:Hp) (lp lr:Addr) (ps:List Rat) (rs:List Rtu):Prop where
 pu:lp ≠ u
 ru:lr ≠ u
 p:∃ xs,H lp=some (.lst xs)∧B4 H xs ps
 r:∃ ts,H lr=some (.lst ts)∧Rts H ts rs
theorem PRt.samex {u:Addr} {H H':Hp} {lp lr:Addr} {ps:List Rat} {rs:List Rtu} (h:PRt u H lp lr ps rs) (s:v9 u H H') (hu:v7 H u):PRt u H' lp lr ps rs:=by
 obtain ⟨a,b,⟨xs,e,n⟩,ts,f,t⟩:=h
 exact ⟨a,b,⟨xs,s _ _ e a,n.mono (s.tups hu)⟩,ts,s _ _ f b,t.mono (s.tups hu)⟩
theorem PRt.same {u:Addr} {H H':Hp} {lp lr:Addr} {ps:List Rat} {rs:List Rtu} (h:PRt u H lp lr ps rs) (s:d9 H H'):PRt u H' lp lr ps rs:=by
 obtain ⟨a,b,⟨xs,e,n⟩,ts,f,t⟩:=h
 exact ⟨a,b,⟨xs,s _ _ e,n.mono s.tups⟩,ts,s _ _ f,t.mono s.tups⟩
theorem nwu {H:Hp} {u a:Addr} (o:HO) (h:H a=none) (hu:v7 H u):∃ H',upd H a o=H'∧d9 H H'∧H' a=some o∧v7 H' u∧a ≠ u:=⟨_,rfl,d9.new h o,d7,ag7 hu h,ap2 hu h⟩
theorem aI5 {K:PySem.W.Frag} {H1:Hp} {lp lq:Addr} {xs ys:List V} {ps:List Rat} {k:Rat} {M:Pf} {n:Nat} {x:Fp} {Q E} (e1:H1 lp=some (.lst xs)) (n1:B4 H1 xs ps) (e2:H1 lq=some (.lst ys)) (n2:B4 H1 ys x.qs) (hp:Pol ps k M n) (F:FpB x) (hn:n≤10)
  (h:∀ r zs ps' H',d9 H1 H'→H1 r=none→H' r=some (.lst zs)→B4 H' zs ps'→Pol ps' k (x.f * M) (x.n + n)→Q (.ref r) H'):aB0 K [.ref lp,.ref lq] H1 Q E:=by
 obtain ⟨B,hB,bB,ov⟩:=hp.bits
 obtain ⟨C,e,hC,le,c1,oq⟩:=F.cb
 have l1:=hp.len
 have xn:x.n≤2:=by unfold Fp.n;split <;> omega
 have lx:x.qs.length≤3:=by unfold Fp.qs;split <;> simp
 have hBC:B * C < 2 ^ 100:=by
  refine Nat.lt_of_lt_of_le (Nat.mul_lt_mul'' bB c1) ?_
  rw [← Nat.pow_add]
  exact h8 (by omega)
 exact ⟨lp,lq,xs,ys,ps,x.qs,B,C,_,e,100,rfl,SqL.of e1,SqL.of e2,n1,n2,ov,oq,hB,hC,hBC,by decide,by decide,by omega,by omega,by omega,fun m r zs H' tm _ s' f' e' n'=>h r zs _ H' s' f' e' n' (hp.mul F tm)⟩
theorem Rts.mem {H:Hp} {vs:List V} {rs:List Rtu} {i:Nat} {v:V} (h:Rts H vs rs) (e:vs[i]? = some v):∃ r,rs[i]? = some r∧r ∈ rs∧aG2 H v r:=by
 obtain ⟨r,hr,ra⟩:=h.get e
 exact ⟨r,hr,List.mem_of_getElem? hr,ra⟩
theorem bh6 {K:PySem.W.Frag} {D lr:Addr} {H:Hp} {ts:List V} {rs:List Rtu} {tt:TT} {c:Option V} {Q:VK} (f:Rtu→Bool) (er:H lr=some (.lst ts)) (hR:Rts H ts rs) (hD:H D=none) (ll:rs.length≤20)
  (ht:∀ H1 x r (Q':Bool→Hp→Prop),d9 H H1→r ∈ rs→aG2 H1 x r→Q' (f r) H1→tt [c,some x] H1 Q')
  (k:∀ H' ds,d9 H H'→H' D=some (.lst ds)→Rts H' ds (rs.filter f)→Q (.ref D) H'):aO8 (Itl K lr) D [c,none] (upd H D (.lst [])) (C1 1) tt (Y7 1) Q:=by
 have lt:=hR.length
 refine aW7 ts (fun j σ H1=>(∃ o,σ=[c,o])∧d9 H H1∧∃ ds,H1 D=some (.lst ds)∧Rts H1 ds ((rs.take j).filter f)) ⟨⟨_,rfl⟩,d9.new hD _,[],d7,.nil⟩ (fun j σ H1 _ h=>SqL.of (h.2.1 _ _ er)) ?_ ?_
 ·rintro j x σ H1 hx ⟨⟨o,rfl⟩,s1,ds,ed,rd⟩
  have hj:=(List.getElem?_eq_some_iff.mp hx).1
  obtain ⟨r,hr,rm,ra⟩:=hR.mem hx
  have tk:rs.take (j + 1)=rs.take j ++ [r]:=by rw [List.take_succ,hr];rfl
  have ld:=rd.length
  have lf:=List.length_filter_le f (rs.take j)
  rw [List.length_take] at lf
  refine ht H1 x r _ s1 rm (ra.mono s1.tups) ?_
  cases e:f r with
  | true =>
   rw [if_pos rfl]
   refine ⟨x,rfl,N5.mk hj ed (Z5 (by omega)) ⟨⟨_,rfl⟩,s1.over hD _,ds ++ [x],d7,?_⟩⟩
   rw [tk,List.filter_append]
   have e2:[r].filter f=[r]:=by rw [List.filter_cons,e];rfl
   rw [e2]
   exact (rd.append (.cons (ra.mono s1.tups) .nil)).mono (ag6.lst ed)
  | false =>
   rw [if_neg (by decide)]
   refine aT6.mk hj ⟨⟨_,rfl⟩,s1,ds,ed,?_⟩
   rw [tk,List.filter_append]
   have e2:[r].filter f=[]:=by rw [List.filter_cons,e];rfl
   rw [e2,List.append_nil]
   exact rd
 ·rintro σ H1 ⟨⟨o,rfl⟩,s1,ds,ed,rd⟩
  rw [lt,List.take_length] at rd
  exact k H1 ds s1 ed rd
section
variable {P:Program} {w:World} {K:PySem.W.Frag} {mg:Str→Option Value} {base:Heap}
def aZ8 (K:PySem.W.Frag):Sp:=fun vs H Q _ => ∃ (u:Addr) (kd:Int) (room:Nat),vs=[.ref u,.int kd,.int room]∧v7 H u∧(kd=0 ∨ kd=1)∧4≤room∧room≤10∧∀ r lp lr ps rs L ap H',v9 u H H'→v7 H' u→H' r=some (.tup [.ref lp,.ref lr])→PRt u H' lp lr ps rs→Drn ps L rs 0 ap→ps.length≤room + 1→Q (.ref r) H'
abbrev v5:Stmt:=top 64
theorem e7:j7 ["_law_urn_here","_law_kind_here","_law_room","_law_p","_law_roots","_law_apart","_law_few","_law_turn","_law_often","_law_factor","_law_plain","_law_degree","_law_u","_law_v","_law_step","_law_ahead"] ["_law_urn_here","_law_kind_here","_law_room"] (d5 v5):=by and_intros
set_option maxHeartbeats 0 in
theorem af4 {f f1 f2 f3 f4 f5 f6 f7 f8 f9:Addr} (d:Df K mg "_law_drawn_seen" v5 ["_law_urn_here","_law_kind_here","_law_room"] f) (G__law_draw:Def P w K mg base CX0 1 "_law_draw" f1 ["_law_urn_here","_law_many"] N7) (GP__law_number:Def P w K mg base CX0 2 "_law_number" f2 ["_law_urn_here","_law_kind_here"] ac8) (GP__law_other:Def P w K mg base CX0 3 "_law_other" f3 ["_law_urn_here","_law_kind_here"] ap7) (G__law_above:Def P w K mg base CX0 4 "_law_above" f4 ["_law_urn_here","_law_kind_here"] aH2) (G__law_poly_times:Def P w K mg base CX0 3 "_law_poly_times" f5 ["_law_p","_law_q"] (aB0 K)) (G__law_less:Def P w K mg base CX0 2 "_law_less" f6 ["_law_one","_law_other_here"] (S9 K (· - ·))) (G__law_times:Def P w K mg base CX0 2 "_law_times" f7 ["_law_one","_law_other_here"] (S9 K (· * ·))) (G__law_plus:Def P w K mg base CX0 2 "_law_plus" f8 ["_law_one","_law_other_here"] (S9 K (· + ·))) (G__law_below:Def P w K mg base CX0 1 "_law_below" f9 ["_law_one","_law_other_here"] (ag9 K)) (n_range:mg "range" = none) (n_len:mg "len" = none):Def P w K mg base CX0 5 "_law_drawn_seen" f ["_law_urn_here","_law_kind_here","_law_room"] (aZ8 K):=by
 have G__law_number:=GP__law_number
 have G__law_other:=GP__law_other
 refine d.ok (N:=["_law_urn_here","_law_kind_here","_law_room","_law_p","_law_roots","_law_apart","_law_few","_law_turn","_law_often","_law_factor","_law_plain","_law_degree","_law_u","_law_v","_law_step","_law_ahead"]) e7 (by rintro vs H Q E ⟨_,_,_,h,_⟩;rw [h];rfl) (fun cdv A outer s H vs Q E hr h=>?_)
 obtain ⟨u,kd,room,rfl,hU,hk,r4,r10,k⟩:=h
 have hu:=hr.units
 refine ⟨_,(d6 (i4 (i:=3) e7.nd rfl (Or.inl rfl) (C4 (b7 (i3 G__law_other hr (b7 (pv 0) (b7 (pv 1) b9)) j5) b9)))
   (d6 (i4 (i:=4) e7.nd rfl (Or.inl rfl) (C4 b9))
   (d6 (i4 (i:=5) e7.nd rfl (Or.inl rfl) (O2 aa1 (i3 G__law_draw hr (b7 (pv 0) (b7 d4 b9)) j5) d4 (n5 _)))
   (d6 (C9 (Z1 (pv 5)) (d6 (Z2 (w8 (b7 (i3 G__law_number hr (b7 (pv 0) (b7 (pv 1) b9)) j5) (b7 (i3 G__law_above hr (b7 (pv 0) (b7 (pv 1) b9)) j5) b9))) (show PG _ _ (ao0 K 2 (L9 (C1 12) (L9 (C1 13) ao1))) from by (refine Z3 (n:=2) ?_ ?_ ?_ ?_;rfl;(refine z8 ?_ ?_ ?_;(exact (m6 (i:=12) e7.nd rfl (Or.inr rfl)));(refine z8 ?_ ?_ ?_;(exact (m6 (i:=13) e7.nd rfl (Or.inl rfl)));(exact T4);rfl);rfl);rfl;rfl)))
   (d6 (i4 (i:=4) e7.nd rfl (Or.inl rfl) (C4 (b7 (w8 (b7 (pv 12) (b7 (Q7 J4 d4) (b7 (pv 13) b9)))) (b7 (w8 (b7 (pv 12) (b7 d4 (b7 (pv 13) b9)))) b9))))
   (d8 (O0 PassesOwn.never rfl (U5 rfl n_range (b7 (i6 G8 d4 (i3 G__law_draw hr (b7 (pv 0) (b7 d4 b9)) j5)) b9)) (m6 (i:=7) e7.nd rfl (Or.inl rfl)) (d8 (i4 (i:=3) e7.nd rfl (Or.inl rfl) (i3 G__law_poly_times hr (b7 (pv 3) (b7 (C4 (b7 (i3 G__law_less hr (b7 (i3 G__law_times hr (b7 (pv 12) (b7 (pv 12) b9)) j5) (b7 (pv 13) b9)) j5) (b7 (i3 G__law_times hr (b7 (w8 (b7 (Q7 J4 d4) (b7 d4 b9))) (b7 (pv 12) b9)) j5) (b7 (w8 (b7 d4 (b7 d4 b9))) b9)))) b9)) j5))))))) v8)
   (d6 (i4 (i:=6) e7.nd rfl (Or.inl rfl) d4)
   (d6 (O0 PassesOwn.never rfl (U5 rfl n_range (b7 (i3 G__law_draw hr (b7 (pv 0) (b7 d4 b9)) j5) b9)) (m6 (i:=7) e7.nd rfl (Or.inl rfl)) (d6 (i4 (i:=8) e7.nd rfl (Or.inl rfl) (i6 G8 d4 (i3 G__law_draw hr (b7 (pv 0) (b7 d4 b9)) j5)))
   (d6 (Z2 (w8 (b7 (i3 G__law_number hr (b7 (pv 0) (b7 (pv 1) b9)) j5) (b7 (i3 G__law_above hr (b7 (pv 0) (b7 (pv 1) b9)) j5) b9))) (show PG _ _ (ao0 K 2 (L9 (C1 12) (L9 (C1 13) ao1))) from by (refine Z3 (n:=2) ?_ ?_ ?_ ?_;rfl;(refine z8 ?_ ?_ ?_;(exact (m6 (i:=12) e7.nd rfl (Or.inr rfl)));(refine z8 ?_ ?_ ?_;(exact (m6 (i:=13) e7.nd rfl (Or.inl rfl)));(exact T4);rfl);rfl);rfl;rfl)))
   (d6 (i4 (i:=9) e7.nd rfl (Or.inl rfl) (C4 (b7 (w8 (b7 (i6 N0 d4 (m8 p8 (pv 12) d4 (fun _ _=>rfl))) (b7 (m8 p8 (pv 12) d4 (fun _ _=>rfl)) b9))) (b7 (w8 (b7 d4 (b7 d4 b9))) b9))))
   (d6 (i4 (i:=10) e7.nd rfl (Or.inl rfl) (aM0 (O2 al4 (i3 G__law_draw hr (b7 (pv 0) (b7 d4 b9)) j5) d4 (n5 _)) (aj4 (bb9 (pv 5)))))
   (d6 (C9 (af2 (Z1 (pv 10))) (d8 (i4 (i:=9) e7.nd rfl (Or.inl rfl) (C4 (b7 (i3 G__law_plus hr (b7 (i3 G__law_times hr (b7 (pv 12) (b7 (pv 12) b9)) j5) (b7 (pv 13) b9)) j5) (b7 (i3 G__law_times hr (b7 (w8 (b7 (Q7 J4 d4) (b7 d4 b9))) (b7 (pv 12) b9)) j5) (b7 (w8 (b7 d4 (b7 d4 b9))) b9)))))) v8)
   (d6 (i4 (i:=11) e7.nd rfl (Or.inl rfl) (i6 N0 (i9 q8 rfl n_len (by decide +kernel) (b7 (pv 9) b9)) d4))
   (d8 (C9 (PW.pt (W5 (p5 br8 (i6 G8 (i6 N0 (i9 q8 rfl n_len (by decide +kernel) (b7 (pv 3) b9)) d4) (i6 v1 (pv 8) (pv 11))) (pv 2) (n5 _)) (W0 (p5 br8 (pv 11) (pv 6) (n5 _))))) (d6 (i4 (i:=6) e7.nd rfl (Or.inl rfl) (i6 N0 (pv 6) (pv 11)))
   (d6 (O0 PassesOwn.never rfl (U5 rfl n_range (b7 (pv 8) b9)) (m6 (i:=14) e7.nd rfl (Or.inl rfl)) (d8 (i4 (i:=3) e7.nd rfl (Or.inl rfl) (i3 G__law_poly_times hr (b7 (pv 3) (b7 (pv 9) b9)) j5))))
   (d8 (C9 (Z1 (pv 10)) (d6 (aC1 (i₀:=15) e7.nd rfl (Or.inl rfl) (Nc:=["_law_u","_law_root"]) (caps:=[some 12,none]) rfl (Z9.of (osc:=d5 v5) (N:=["_law_urn_here","_law_kind_here","_law_room","_law_p","_law_roots","_law_apart","_law_few","_law_turn","_law_often","_law_factor","_law_plain","_law_degree","_law_u","_law_v","_law_step","_law_ahead"]) (ks:=["_law_u"]) rfl rfl rfl rfl (G1 rfl L8) (by decide +kernel)) (E1 (pv 4)) (fun C s₂ H₂ fp pins=>(m6 (i:=1) (show List.Nodup (["_law_u","_law_root"]:List Str) by decide +kernel) rfl (Or.inl rfl) (Or.inr rfl))) (fun C s₂ H₂ fp pins=>(Z1 (i3 G__law_below hr (b7 (m8 (by exact p8:IxR _ (bb0 K)) (pv 1) d4 (fun _ _=>rfl)) (b7 (pv 0) b9)) j5))) (fun C s₂ H₂ fp pins=>(pv 1)))
   (d8 (i4 (i:=4) e7.nd rfl (Or.inl rfl) (i6 aq4 (i6 aq4 (pv 15) (C4 (b7 (w8 (b7 (pv 12) (b7 d4 (b7 (w8 (b7 d4 (b7 d4 b9))) b9)))) b9))) (aV3 (Nc:=["_law_u","_law_root"]) (caps:=[some 12,none]) rfl (Z9.of (osc:=d5 v5) (N:=["_law_urn_here","_law_kind_here","_law_room","_law_p","_law_roots","_law_apart","_law_few","_law_turn","_law_often","_law_factor","_law_plain","_law_degree","_law_u","_law_v","_law_step","_law_ahead"]) (ks:=["_law_u"]) rfl rfl rfl rfl (G1 rfl L8) (by decide +kernel)) (E1 (pv 4)) (fun C s₂ H₂ fp pins=>(m6 (i:=1) (show List.Nodup (["_law_u","_law_root"]:List Str) by decide +kernel) rfl (Or.inl rfl) (Or.inr rfl))) (fun C s₂ H₂ fp pins=>(Z1 (i3 G__law_below hr (b7 (pv 0) (b7 (m8 (by exact p8:IxR _ (bb0 K)) (pv 1) d4 (fun _ _=>rfl)) b9)) j5))) (fun C s₂ H₂ fp pins=>(pv 1))))))) v8)))) v8)))))))))
   (d8 (j8 (w8 (b7 (pv 3) (b7 (pv 4) b9))))))))))),?_⟩
 rw [show start ["_law_urn_here","_law_kind_here","_law_room","_law_p","_law_roots","_law_apart","_law_few","_law_turn","_law_often","_law_factor","_law_plain","_law_degree","_law_u","_law_v","_law_step","_law_ahead"] [.ref u,.int kd,.int room]=[some (.ref u),some (.int kd),some (.int room),none,none,none,none,none,none,none,none,none,none,none,none,none] from rfl]
 refine i7 (fun σ H1 => ∃ lp q0,σ=[some (.ref u),some (.int kd),some (.int room),some (.ref lp),none,none,none,none,none,none,none,none,none,none,none,none]∧v9 u H H1∧v7 H1 u∧lp ≠ u∧N9 q0∧q0 ≠ 0∧∃ xs,H1 lp=some (.lst xs)∧B4 H1 xs [q0]) (fun N hN=>?_) ?_
 ·subst_eqs
  refine ⟨u,kd,rfl,hU,hk,fun r q H1 nq q0 s1 u1 e1=>⟨ba1,fun p hp=>?_⟩⟩
  obtain ⟨H2,y2,S2,g2,u2,n2⟩:=nwu (.lst [.ref r]) hp u1
  rw [y2]
  exact hN _ _ ⟨p,q,rfl,s1.trans (d9.x S2 u),u2,n2,nq,q0,_,g2,.cons (S2 _ _ e1) .nil⟩
 rintro σ H1 ⟨lp,q0,rfl,s1,u1,lpu,n9,hq0,xs,ep,np⟩
 refine i7 (fun σ H2 => ∃ lr,σ=[some (.ref u),some (.int kd),some (.int room),some (.ref lp),some (.ref lr),none,none,none,none,none,none,none,none,none,none,none]∧v9 u H H2∧v7 H2 u∧PRt u H2 lp lr [q0] []) (fun N hN=>?_) ?_
 ·subst_eqs
  refine ⟨by decide,fun p hp=>?_⟩
  obtain ⟨H2,y2,S2,g2,u2,n2⟩:=nwu (.lst []) hp u1
  rw [y2]
  exact hN _ _ ⟨p,rfl,s1.trans (d9.x S2 u),u2,lpu,n2,⟨_,S2 _ _ ep,np.mono S2.tups⟩,_,g2,.nil⟩
 clear s1 u1 ep np
 rintro σ H2 ⟨lr,rfl,s2,u2,R2⟩
 refine i7 (fun σ H3 => ∃ ap:Bool,σ=[some (.ref u),some (.int kd),some (.int room),some (.ref lp),some (.ref lr),some (.bl ap),none,none,none,none,none,none,none,none,none,none]∧v9 u H H3∧v7 H3 u∧PRt u H3 lp lr [q0] []) (fun N hN=>?_) ?_
 ·simp! [N7]
  exact ⟨u2,by decide,by decide,fun r H3 _ _ s3 u3=>⟨rfl,hN _ _ ⟨_,rfl,s2.trans s3,u3,R2.samex s3 u2⟩⟩⟩
 clear s2 u2 R2
 rintro σ H3 ⟨ap,rfl,s3,u3,R3⟩
 refine i7 (fun σ H4 => ∃ lp lr ps rs L o7 o12 o13,σ=[some (.ref u),some (.int kd),some (.int room),some (.ref lp),some (.ref lr),some (.bl ap),none,o7,none,none,none,none,o12,o13,none,none]∧v9 u H H4∧v7 H4 u∧PRt u H4 lp lr ps rs∧Drn ps L rs 6 ap∧ps.length≤5) (fun N hN=>?_) ?_
 ·refine ⟨_,rfl,_,rfl,D5 (fun hap=>?_) (fun hap=>?_)⟩
  ·subst hap
   refine i7 (fun σ H4 => ∃ pu pv q v,σ=[some (.ref u),some (.int kd),some (.int room),some (.ref lp),some (.ref lr),some (.bl true),none,none,none,none,none,none,some (.ref pu),some (.ref pv),none,none]∧v9 u H H4∧v7 H4 u∧PRt u H4 lp lr [q0] []∧N9 q∧N9 v∧0 < v∧H4 pu=some (.tup (B5 q))∧H4 pv=some (.tup (B5 v))) (fun N hN=>?_) ?_
   ·subst_eqs
    refine ⟨u,kd,rfl,u3,hk,fun r q H4 nq s4 u4 e4=>⟨u,kd,rfl,u4,hk,fun r2 v H5 nv v0 s5 u5 e5=>⟨x9,fun p hp=>?_⟩⟩⟩
    obtain ⟨H6,y6,S6,g6,u6,_⟩:=nwu (.tup [.ref r,.ref r2]) hp u5
    rw [y6]
    have R6:=((R3.samex s4 u3).samex s5 u4).same S6
    exact ⟨_,SqT.of g6,rfl,_,_,rfl,_,_,rfl,rfl,hN _ _ ⟨r,r2,q,v,rfl,s3.trans (s4.trans (s5.trans (d9.x S6 u))),u6,R6,nq,nv,v0,S6 _ _ (s5.tups u4 _ _ e4),S6 _ _ e5⟩⟩
   clear s3 u3 R3
   rintro σ H4 ⟨pu,pv,q,v,rfl,s4,u4,R4,nq,nv,v0,eu,ev⟩
   refine i7 (fun σ H5 => ∃ lr,σ=[some (.ref u),some (.int kd),some (.int room),some (.ref lp),some (.ref lr),some (.bl true),none,none,none,none,none,none,some (.ref pu),some (.ref pv),none,none]∧v9 u H H5∧v7 H5 u∧PRt u H5 lp lr [q0] [⟨q,-1,v⟩,⟨q,1,v⟩]∧H5 pu=some (.tup (B5 q))∧H5 pv=some (.tup (B5 v))) (fun N hN=>?_) ?_
   ·subst_eqs
    refine ⟨by decide,fun p1 h1=>?_⟩
    obtain ⟨A1,y1,S1,g1,U1,_⟩:=nwu (.tup [.ref pu,.int (-1),.ref pv]) h1 u4
    rw [y1]
    refine ⟨by decide,fun p2 h2=>?_⟩
    obtain ⟨A2,y2,S2,g2,U2,_⟩:=nwu (.tup [.ref pu,.int 1,.ref pv]) h2 U1
    rw [y2]
    refine ⟨by decide,fun p3 h3=>?_⟩
    obtain ⟨A3,y3,S3,g3,U3,n3⟩:=nwu (.lst [.ref p1,.ref p2]) h3 U2
    rw [y3]
    have S:=S1.trans (S2.trans S3)
    have R':=R4.same S
    exact hN _ _ ⟨p3,rfl,s4.trans (d9.x S u),U3,⟨R'.pu,n3,R'.p,_,g3,.cons ⟨p1,pu,pv,rfl,(S2.trans S3) _ _ g1,S _ _ eu,S _ _ ev⟩ (.cons ⟨p2,pu,pv,rfl,S3 _ _ g2,S _ _ eu,S _ _ ev⟩ .nil)⟩,S _ _ eu,S _ _ ev⟩
   clear s4 u4 R4 eu ev
   rintro σ H5 ⟨lr,rfl,s5,u5,R5,eu,ev⟩
   have F2:FpB ⟨2,q,-v⟩:=ai2 nq nv.neg (.inr (.inr ⟨rfl,by show -v < 0;grind⟩)) (by decide)
   have bq:BtN 4 q:=nq.bt
   have bv:BtN 4 v:=nv.bt
   have bqq:BtN 8 (q * q):=(nq.bd.mul nq.bd).t (by decide)
   obtain ⟨J,hJ⟩:∃ J:Nat→L2.St→Hp→Prop,∀ t σ H6,J t σ H6 ↔ ∃ (o7:Option V) (lp:Addr) (ps:List Rat),σ=[some (.ref u),some (.int kd),some (.int room),some (.ref lp),some (.ref lr),some (.bl true),none,o7,none,none,none,none,some (.ref pu),some (.ref pv),none,none]∧v9 u H5 H6∧v7 H6 u∧PRt u H6 lp lr ps [⟨q,-1,v⟩,⟨q,1,v⟩]∧Pol ps q0 (wP (⟨2,q,-v⟩:Fp).f t * 1) (t * 2):=⟨_,fun _ _ _=>Iff.rfl⟩
   have w0:wP (⟨2,q,-v⟩:Fp).f 0 * 1=1:=by show (1:Pf) * 1=1;grind
   refine ⟨_,rfl,u,_,rfl,u5,by decide,by decide,fun r H6 r0 r2 s6 u6=>⟨1,r,rfl,rfl,1 + r,rfl,by omega,by omega,U7 J ((hJ _ _ _).mpr ⟨_,lp,[q0],rfl,s6,u6,R5.samex s6 u5,by rw [w0];exact aQ9 n9 hq0⟩) ?_ ?_⟩⟩
   ·intro t σ H7 ht h
    obtain ⟨o7,lp,ps,rfl,s7,u7,R7,hp⟩:=(hJ _ _ _).mp h
    have ht:t < 2:=by omega
    obtain ⟨xs,ep,np⟩:=R7.p
    have eu7:=s7.tups u5 _ _ eu
    have ev7:=s7.tups u5 _ _ ev
    subst_eqs
    refine ⟨_,_,q,q,4,4,rfl,⟨pu,rfl,SqT.of eu7⟩,⟨pu,rfl,SqT.of eu7⟩,bq,bq,by decide,fun r8 H8 s8 e8=>⟨_,_,_,v,8,4,rfl,⟨r8,rfl,SqT.of e8⟩,⟨pv,rfl,SqT.of (s8 _ _ ev7)⟩,bqq,bv,by decide,fun r9 H9 s9 e9=>⟨x9,fun p1 h1=>?_⟩⟩⟩
    have u9:=d9.urn s9 (d9.urn s8 u7)
    obtain ⟨HA,yA,SA,gA,uA,_⟩:=nwu (.tup [.int (-2),.int 1]) h1 u9
    rw [yA]
    refine ⟨_,_,(-2:Rat),q,1,4,rfl,⟨p1,rfl,SqT.of gA⟩,⟨pu,rfl,SqT.of (SA _ _ (s9 _ _ (s8 _ _ eu7)))⟩,⟨by decide,by decide⟩,bq,by decide,fun rB HB sB eB=>⟨x9,fun p2 h2=>?_⟩⟩
    have uB:=d9.urn sB uA
    obtain ⟨HC,yC,SC,gC,uC,_⟩:=nwu (.tup [.int 1,.int 1]) h2 uB
    rw [yC]
    refine ⟨by decide,fun p3 h3=>?_⟩
    obtain ⟨HD,yD,SD,gD,uD,_⟩:=nwu (.lst [.ref r9,.ref rB,.ref p2]) h3 uC
    rw [yD]
    have S9D:=SA.trans (sB.trans (SC.trans SD))
    have S7D:=s8.trans (s9.trans S9D)
    have nqs:B4 HD [.ref r9,.ref rB,.ref p2] (⟨2,q,-v⟩:Fp).qs:=by
     show B4 HD _ [q * q + -v,-2 * q,1]
     rw [← Rat.sub_eq_add_neg]
     exact .cons (S9D _ _ e9) (.cons ((SC.trans SD) _ _ eB) (.cons (show _=some (.tup (B5 1)) from SD _ _ gC) .nil))
    refine aI5 (S7D _ _ ep) (np.mono S7D.tups) gD nqs hp F2 (by omega) fun r' zs ps' H' s' f' e' n' hp'=>(hJ _ _ _).mpr ⟨_,r',ps',rfl,s7.trans (d9.x (S7D.trans s') u),d9.urn s' uD,⟨?_,R7.ru,⟨_,e',n'⟩,(R7.same (S7D.trans s')).r⟩,?_⟩
    ·exact ap2 uD f'
    ·have:=bb7 hp'
     rw [show Fp.n ⟨2,q,-v⟩ + t * 2=(t + 1) * 2 by show 2 + t * 2=_;omega] at this
     exact this
   ·intro σ H7 h
    obtain ⟨o7,lp,ps,rfl,s7,u7,R7,hp⟩:=(hJ _ _ _).mp h
    have l7:=hp.len
    exact hN _ _ ⟨lp,lr,ps,_,_,_,_,_,rfl,s5.trans s7,u7,R7,aW6 n9 hq0 nq nv v0 (by omega) hp,by omega⟩
  ·have e:ap=false:=by simpa using hap
   subst e
   exact hN _ _ ⟨lp,lr,[q0],[],[],_,_,_,rfl,s3,u3,R3,bp0 n9 hq0,by show 1≤5;decide⟩
 clear s3 u3 R3
 rintro σ H4 ⟨lp,lr,ps,rs,L,o7,o12,o13,rfl,s4,u4,R4,D4,l4⟩
 refine i7 (fun σ H5=>σ=[some (.ref u),some (.int kd),some (.int room),some (.ref lp),some (.ref lr),some (.bl ap),some (.int ((6:Nat):Int)),o7,none,none,none,none,o12,o13,none,none]∧H5=H4) (fun N hN=>?_) ?_
 ·subst_eqs
  exact hN _ _ ⟨rfl,rfl⟩
 rintro σ H5 ⟨rfl,rfl⟩
 obtain ⟨I,hI⟩:∃ I:Nat→L2.St→Hp→Prop,∀ i σ H6,I i σ H6 ↔ ∃ (o7 o8 o9 o10 o11 o12 o13 o14 o15:Option V) (lp lr:Addr) (ps:List Rat) (rs:List Rtu) (L:List (Fp × Nat)) (few:Nat),σ=[some (.ref u),some (.int kd),some (.int room),some (.ref lp),some (.ref lr),some (.bl ap),some (.int (few:Int)),o7,o8,o9,o10,o11,o12,o13,o14,o15]∧v9 u H H6∧v7 H6 u∧PRt u H6 lp lr ps rs∧Drn ps L rs few ap∧ps.length≤room + 1:=⟨_,fun _ _ _=>Iff.rfl⟩
 refine i7 (fun σ H6 => ∃ i,I i σ H6) (fun N hN=>?_) ?_
 ·refine ⟨_,rfl,u,_,rfl,u4,by decide,by decide,fun r H6 r0 r6 s6 u6=>⟨r,rfl,by omega,by omega,U7 I ((hI _ _ _).mpr ⟨_,_,_,_,_,_,_,_,_,lp,lr,ps,rs,L,6,rfl,s4.trans s6,u6,R4.samex s6 u4,D4,by omega⟩) ?_ (fun σ H7 h=>hN _ _ ⟨_,h⟩)⟩⟩
  clear s4 u4 R4 D4 l4 u6 s6
  rintro i σ H7 hi h
  obtain ⟨o7,o8,o9,o10,o11,o12,o13,o14,o15,lp,lr,ps,rs,L,few,rfl,s7,u7,R7,D7,l7⟩:=(hI _ _ _).mp h
  simp only [C1,List.set_cons_zero,List.set_cons_succ]
  refine i7 (fun σ H8 => ∃ m:Nat,σ=[some (.ref u),some (.int kd),some (.int room),some (.ref lp),some (.ref lr),some (.bl ap),some (.int (few:Int)),some (.int (0 + (i:Int))),some (.int (m:Int)),o9,o10,o11,o12,o13,o14,o15]∧v9 u H H8∧v7 H8 u∧PRt u H8 lp lr ps rs∧1≤m∧m≤3) (fun N hN=>?_) ?_
  ·simp! [N7]
   refine ⟨u7,by decide,by decide,fun r H8 r0 r3 s8 u8=>?_⟩
   obtain ⟨m,rfl⟩:∃ m:Nat,r=(m:Int):=⟨r.toNat,by omega⟩
   exact hN _ _ ⟨m + 1,by rw [show (1:Int) + (m:Int)=((m + 1:Nat):Int) by omega],s7.trans s8,u8,R7.samex s8 u7,by omega,by omega⟩
  clear s7 u7 R7
  rintro σ H8 ⟨m,rfl,s8,u8,R8,m1,m3⟩
  refine i7 (fun σ H9 => ∃ pu pv q v,σ=[some (.ref u),some (.int kd),some (.int room),some (.ref lp),some (.ref lr),some (.bl ap),some (.int (few:Int)),some (.int (0 + (i:Int))),some (.int (m:Int)),o9,o10,o11,some (.ref pu),some (.ref pv),o14,o15]∧v9 u H H9∧v7 H9 u∧PRt u H9 lp lr ps rs∧N9 q∧N9 v∧0 < v∧H9 pu=some (.tup (B5 q))∧H9 pv=some (.tup (B5 v))) (fun N hN=>?_) ?_
  ·subst_eqs
   refine ⟨u,kd,rfl,u8,hk,fun r q H4 nq s4 u4 e4=>⟨u,kd,rfl,u4,hk,fun r2 v H5 nv v0 s5 u5 e5=>⟨x9,fun p hp=>?_⟩⟩⟩
   obtain ⟨H6,y6,S6,g6,u6,_⟩:=nwu (.tup [.ref r,.ref r2]) hp u5
   rw [y6]
   have R6:=((R8.samex s4 u8).samex s5 u4).same S6
   exact ⟨_,SqT.of g6,rfl,_,_,rfl,_,_,rfl,rfl,hN _ _ ⟨r,r2,q,v,rfl,s8.trans (s4.trans (s5.trans (d9.x S6 u))),u6,R6,nq,nv,v0,S6 _ _ (s5.tups u4 _ _ e4),S6 _ _ e5⟩⟩
  clear s8 u8 R8
  rintro σ H9 ⟨pu,pv,q,v,rfl,s9,u9,R9,nq,nv,v0,eu,ev⟩
  refine i7 (fun σ HA => ∃ lf,σ=[some (.ref u),some (.int kd),some (.int room),some (.ref lp),some (.ref lr),some (.bl ap),some (.int (few:Int)),some (.int (0 + (i:Int))),some (.int (m:Int)),some (.ref lf),o10,o11,some (.ref pu),some (.ref pv),o14,o15]∧v9 u H HA∧v7 HA u∧PRt u HA lp lr ps rs∧HA pu=some (.tup (B5 q))∧HA pv=some (.tup (B5 v))∧lf ≠ u∧∃ ys,HA lf=some (.lst ys)∧B4 HA ys (⟨0,q,0⟩:Fp).qs) (fun N hN=>?_) ?_
  ·subst_eqs
   refine ⟨_,SqT.of eu,_,at0 q,_,rfl,_,SqT.of eu,_,at1 q,x9,fun p1 h1=>?_⟩
   obtain ⟨A1,y1,S1,g1,U1,_⟩:=nwu (.tup [.int (0 - q.num),.int q.den]) h1 u9
   rw [y1]
   refine ⟨x9,fun p2 h2=>?_⟩
   obtain ⟨A2,y2,S2,g2,U2,_⟩:=nwu (.tup [.int 1,.int 1]) h2 U1
   rw [y2]
   refine ⟨x9,fun p3 h3=>?_⟩
   obtain ⟨A3,y3,S3,g3,U3,n3⟩:=nwu (.lst [.ref p1,.ref p2]) h3 U2
   rw [y3]
   rw [Int.zero_sub] at g1
   have S:=S1.trans (S2.trans S3)
   exact hN _ _ ⟨p3,rfl,s9.trans (d9.x S u),U3,R9.same S,S _ _ eu,S _ _ ev,n3,_,g3,(.cons (q:=-q) ((S2.trans S3) p1 _ g1) (.cons (show _=some (.tup (B5 1)) from S3 p2 _ g2) .nil))⟩
  clear s9 u9 R9 eu ev
  rintro σ HA ⟨lf,rfl,sA,uA,RA,eu,ev,lfu,efA⟩
  refine i7 (fun σ HB => ∃ pl:Bool,σ=[some (.ref u),some (.int kd),some (.int room),some (.ref lp),some (.ref lr),some (.bl ap),some (.int (few:Int)),some (.int (0 + (i:Int))),some (.int (m:Int)),some (.ref lf),some (.bl pl),o11,some (.ref pu),some (.ref pv),o14,o15]∧(pl=true→ap=false)∧v9 u H HB∧v7 HB u∧PRt u HB lp lr ps rs∧HB pu=some (.tup (B5 q))∧HB pv=some (.tup (B5 v))∧lf ≠ u∧∃ ys,HB lf=some (.lst ys)∧B4 HB ys (⟨0,q,0⟩:Fp).qs) (fun N hN=>?_) ?_
  ·simp! [N7]
   obtain ⟨ys,e,ny⟩:=efA
   refine ⟨uA,by decide,by decide,fun r HB r0 r3 sB uB=>?_⟩
   have go:∀ pl:Bool,(pl=true→ap=false)→N [some (.ref u),some (.int kd),some (.int room),some (.ref lp),some (.ref lr),some (.bl ap),some (.int (few:Int)),some (.int (0 + (i:Int))),some (.int (m:Int)),some (.ref lf),some (.bl pl),o11,some (.ref pu),some (.ref pv),o14,o15] HB:=fun pl hpl=>hN _ _ ⟨pl,rfl,hpl,sA.trans sB,uB,RA.samex sB uA,sB.tups uA _ _ eu,sB.tups uA _ _ ev,lfu,ys,sB _ _ e lfu,ny.mono (sB.tups uA)⟩
   refine D5 (fun _=>go _ fun z=>?_) (fun _=>go _ fun z=>by cases z)
   simpa using z
  clear sA uA RA eu ev efA
  rintro σ HB ⟨pl,rfl,hpl,sB,uB,RB,eu,ev,_,efB⟩
  have bq:BtN 4 q:=nq.bt
  have bv:BtN 4 v:=nv.bt
  have bqq:BtN 8 (q * q):=(nq.bd.mul nq.bd).t (by decide)
  refine i7 (fun σ HC => ∃ lf x,σ=[some (.ref u),some (.int kd),some (.int room),some (.ref lp),some (.ref lr),some (.bl ap),some (.int (few:Int)),some (.int (0 + (i:Int))),some (.int (m:Int)),some (.ref lf),some (.bl pl),o11,some (.ref pu),some (.ref pv),o14,o15]∧x=(if pl=true then (⟨0,q,0⟩:Fp) else ⟨1,q,v⟩)∧v9 u H HC∧v7 HC u∧PRt u HC lp lr ps rs∧HC pu=some (.tup (B5 q))∧∃ ys,HC lf=some (.lst ys)∧B4 HC ys x.qs) (fun N hN=>?_) ?_
  ·subst_eqs
   refine D5 (fun h0=>?_) (fun h0=>?_)
   ·subst h0
    refine ⟨_,_,q,q,4,4,rfl,⟨pu,rfl,SqT.of eu⟩,⟨pu,rfl,SqT.of eu⟩,bq,bq,by decide,fun r8 H8 s8 e8=>⟨_,_,_,v,8,4,rfl,⟨r8,rfl,SqT.of e8⟩,⟨pv,rfl,SqT.of (s8 _ _ ev)⟩,bqq,bv,by decide,fun r9 H9 s9 e9=>⟨x9,fun p1 h1=>?_⟩⟩⟩
    have u9:=d9.urn s9 (d9.urn s8 uB)
    obtain ⟨HA,yA,SA,gA,uA,_⟩:=nwu (.tup [.int (-2),.int 1]) h1 u9
    rw [yA]
    refine ⟨_,_,(-2:Rat),q,1,4,rfl,⟨p1,rfl,SqT.of gA⟩,⟨pu,rfl,SqT.of (SA _ _ (s9 _ _ (s8 _ _ eu)))⟩,⟨by decide,by decide⟩,bq,by decide,fun rB HB sB' eB=>⟨x9,fun p2 h2=>?_⟩⟩
    have uB:=d9.urn sB' uA
    obtain ⟨HC,yC,SC,gC,uC,_⟩:=nwu (.tup [.int 1,.int 1]) h2 uB
    rw [yC]
    refine ⟨by decide,fun p3 h3=>?_⟩
    obtain ⟨HD,yD,SD,gD,uD,_⟩:=nwu (.lst [.ref r9,.ref rB,.ref p2]) h3 uC
    rw [yD]
    have S9D:=SA.trans (sB'.trans (SC.trans SD))
    have S7D:=s8.trans (s9.trans S9D)
    exact hN _ _ ⟨p3,_,rfl,rfl,sB.trans (d9.x S7D u),uD,RB.same S7D,S7D _ _ eu,_,gD,.cons (S9D _ _ e9) (.cons ((SC.trans SD) _ _ eB) (.cons (show _=some (.tup (B5 1)) from SD _ _ gC) .nil))⟩
   ·have h1:pl=true:=by simpa using h0
    subst h1
    exact hN _ _ ⟨lf,_,rfl,rfl,sB,uB,RB,eu,efB⟩
  clear sB uB RB eu ev efB
  rintro σ HC ⟨lf,x,rfl,ex,sC,uC,RC,eu,ys,ef,nf⟩
  have FB:FpB x:=by
   rw [ex]
   split
   ·exact aS2 nq
   ·exact ai2 nq nv (.inr (.inl ⟨rfl,v0⟩)) (by decide)
  have xn:x.qs.length=x.n + 1:=by rw [ex];split <;> rfl
  have xn2:1≤x.n∧x.n≤2:=by unfold Fp.n;split <;> omega
  have ly:=nf.length
  refine i7 (fun σ HD=>σ=[some (.ref u),some (.int kd),some (.int room),some (.ref lp),some (.ref lr),some (.bl ap),some (.int (few:Int)),some (.int (0 + (i:Int))),some (.int (m:Int)),some (.ref lf),some (.bl pl),some (.int (x.n:Int)),some (.ref pu),some (.ref pv),o14,o15]∧HD=HC) (fun N hN=>?_) ?_
  ·subst_eqs
   exact ⟨_,.inl (SqL.of ef),hN _ _ ⟨by rw [show ((ys.length:Int) - 1)=(x.n:Int) by omega],rfl⟩⟩
  rintro σ HD ⟨rfl,rfl⟩
  obtain ⟨k0,n,hp⟩:=D7.ex
  have lps:=hp.len
  obtain ⟨xs,ep,np⟩:=RC.p
  have lx:=np.length
  have mo:IntMulOk (m:Int) (x.n:Int):=J2 (m:=10) (n:=10) (by rw [Int.natAbs_natCast];omega) (by rw [Int.natAbs_natCast];omega) (by decide)
  have stay:I (i + 1) [some (.ref u),some (.int kd),some (.int room),some (.ref lp),some (.ref lr),some (.bl ap),some (.int (few:Int)),some (.int (0 + (i:Int))),some (.int (m:Int)),some (.ref lf),some (.bl pl),some (.int (x.n:Int)),some (.ref pu),some (.ref pv),o14,o15] HD:=(hI _ _ _).mpr ⟨_,_,_,_,_,_,_,_,_,lp,lr,ps,rs,L,few,rfl,sC,uC,RC,D7,l7⟩
  refine ⟨_,rfl,_,_,rfl,.inl (SqL.of ep),_,_,rfl,rfl,_,rfl,_,rfl,_,_,rfl,rfl,mo,_,_,rfl,rfl,_,rfl,_,_,rfl,rfl,_,rfl,D5 (fun h1=>⟨_,rfl,_,rfl,_,_,rfl,rfl,_,rfl,D5 (fun h2=>?_) (fun h2=>stay)⟩) (fun h1=>D5 (fun z=>by cases z) (fun _=>stay))⟩
  have h1:=of_decide_eq_true h1
  have h2:=of_decide_eq_true h2
  clear stay
  refine i7 (fun σ HE=>σ=[some (.ref u),some (.int kd),some (.int room),some (.ref lp),some (.ref lr),some (.bl ap),some (.int ((few - x.n:Nat):Int)),some (.int (0 + (i:Int))),some (.int (m:Int)),some (.ref lf),some (.bl pl),some (.int (x.n:Int)),some (.ref pu),some (.ref pv),o14,o15]∧HE=HD) (fun N hN=>?_) ?_
  ·subst_eqs
   exact hN _ _ ⟨by rw [show ((few:Int) - (x.n:Int))=((few - x.n:Nat):Int) by omega],rfl⟩
  rintro σ HE ⟨rfl,rfl⟩
  have hmx:m * x.n + n≤room:=by
   have:((m * x.n:Nat):Int)=(m:Int) * (x.n:Int):=Int.natCast_mul _ _
   omega
  obtain ⟨J,hJ⟩:∃ J:Nat→L2.St→Hp→Prop,∀ t σ HF,J t σ HF ↔ ∃ (o14:Option V) (lp:Addr) (ps:List Rat),σ=[some (.ref u),some (.int kd),some (.int room),some (.ref lp),some (.ref lr),some (.bl ap),some (.int ((few - x.n:Nat):Int)),some (.int (0 + (i:Int))),some (.int (m:Int)),some (.ref lf),some (.bl pl),some (.int (x.n:Int)),some (.ref pu),some (.ref pv),o14,o15]∧d9 HE HF∧v7 HF u∧PRt u HF lp lr ps rs∧Pol ps k0 (wP x.f t * fP (tfs (L.map rt1))) (t * x.n + n):=⟨_,fun _ _ _=>Iff.rfl⟩
  have w0:wP x.f 0 * fP (tfs (L.map rt1))=fP (tfs (L.map rt1)):=by show (1:Pf) * _=_;grind
  refine i7 (fun σ HF=>J m σ HF) (fun N hN=>?_) ?_
  ·refine ⟨_,rfl,_,rfl,by omega,by omega,U7 J ((hJ _ _ _).mpr ⟨_,lp,ps,rfl,d9.refl _,uC,RC,by rw [w0,Nat.zero_mul,Nat.zero_add];exact hp⟩) ?_ (fun σ HF h=>hN _ _ ?_)⟩
   ·intro t σ HF ht h
    obtain ⟨o14,lp,ps,rfl,sF,uF,RF,hp⟩:=(hJ _ _ _).mp h
    have ht:t < m:=by omega
    obtain ⟨xs,ep,np⟩:=RF.p
    have tm:(t + 1) * x.n≤m * x.n:=Nat.mul_le_mul_right _ ht
    rw [Nat.add_mul,Nat.one_mul] at tm
    subst_eqs
    refine aI5 ep np (sF _ _ ef) (nf.mono sF.tups) hp FB (by omega) fun r' zs ps' H' s' f' e' n' hp'=>(hJ _ _ _).mpr ⟨_,r',ps',rfl,sF.trans s',d9.urn s' uF,⟨ap2 uF f',RF.ru,⟨_,e',n'⟩,(RF.same s').r⟩,?_⟩
    have:=bb7 hp'
    rw [show x.n + (t * x.n + n)=(t + 1) * x.n + n by rw [Nat.add_mul,Nat.one_mul];omega] at this
    exact this
   ·have e:((m:Int)).toNat=m:=by omega
    rw [e] at h
    exact h
  clear hp lps lx
  rintro σ HF hF
  obtain ⟨o14,lp,ps,rfl,sF,uF,RF,hp⟩:=(hJ _ _ _).mp hF
  have lps:=hp.len
  have euF:=sF _ _ eu
  refine ⟨_,rfl,_,rfl,D5 (fun hpl1=>?_) (fun hpl1=>?_)⟩
  ·subst hpl1
   have ap0:=hpl rfl
   subst ap0
   obtain ⟨ts,er,hR⟩:=RF.r
   have lts:=hR.length
   have lr8:=D7.ln
   have hO:=D7.ro
   have b6:∀ {y:Rat},N9 y→BdN 6000 y:=fun h=>h.bd.mono (by decide)
   subst_eqs
   refine ⟨⟨_,SqL.of er⟩,fun D1 hD1=>bh6 (fun r=>decide (r.u < q)) er hR hD1 (by omega) ?_ ?_⟩
   ·rintro H1 y r Q' s1 rm ⟨a,pu',pw,rfl,ea,eu',_⟩ k'
    subst_eqs
    exact ⟨_,SqT.of ea,_,rfl,_,_,r.u,q,rfl,⟨pu',rfl,SqT.of eu'⟩,⟨pu,rfl,SqT.of (s1 _ _ euF)⟩,b6 (hO r rm).1,b6 nq,_,rfl,k'⟩
   rintro H1 d1 s1 e1 R1
   have u1:=d9.urn s1 uF
   have l1:=R1.length
   have lf1:=List.length_filter_le (fun r:Rtu=>decide (r.u < q)) rs
   refine ⟨x9,fun p1 h1=>?_⟩
   obtain ⟨A1,y1,X1,g1,U1,_⟩:=nwu (.tup [.int 0,.int 1]) h1 u1
   rw [y1]
   refine ⟨by decide,fun p2 h2=>?_⟩
   obtain ⟨A2,y2,X2,g2,U2,_⟩:=nwu (.tup [.ref pu,.int 0,.ref p1]) h2 U1
   rw [y2]
   refine ⟨by decide,fun p3 h3=>?_⟩
   obtain ⟨A3,y3,X3,g3,U3,_⟩:=nwu (.lst [.ref p2]) h3 U2
   rw [y3]
   have X13:=X1.trans (X2.trans X3)
   refine ⟨D1,rfl,d1,X13 _ _ e1,_,g3,Nat.le_of_lt (Z5 (by rw [List.length_singleton];omega)),fun p4 h4=>?_⟩
   obtain ⟨A4,y4,X4,g4,U4,_⟩:=nwu (.lst (d1 ++ [.ref p2])) h4 U3
   rw [y4]
   have X14:=X13.trans X4
   have sF4:=s1.trans X14
   have rn:aG2 A4 (.ref p2) ⟨q,0,0⟩:=⟨p2,pu,p1,rfl,(X3.trans X4) _ _ g2,sF4 _ _ euF,(X2.trans (X3.trans X4)) _ _ g1⟩
   refine ⟨⟨_,SqL.of (sF4 _ _ er)⟩,fun D2 hD2=>bh6 (fun r=>decide (q < r.u)) (sF4 _ _ er) (hR.mono sF4.tups) hD2 (by omega) ?_ ?_⟩
   ·rintro H1 y r Q' s1 rm ⟨a,pu',pw,rfl,ea,eu',_⟩ k'
    subst_eqs
    exact ⟨_,SqT.of ea,_,rfl,_,_,q,r.u,rfl,⟨pu,rfl,SqT.of (s1 _ _ (sF4 _ _ euF))⟩,⟨pu',rfl,SqT.of eu'⟩,b6 nq,b6 (hO r rm).1,_,rfl,k'⟩
   rintro H5 d2 s5 e5 R5
   have l5:=R5.length
   have lf5:=List.length_filter_le (fun r:Rtu=>decide (q < r.u)) rs
   refine ⟨D2,rfl,_,s5 _ _ g4,d2,e5,Nat.le_of_lt (Z5 (by rw [List.length_append,List.length_singleton];omega)),fun p6 h6=>?_⟩
   obtain ⟨A6,y6,X6,g6,U6,n6⟩:=nwu (.lst (d1 ++ [.ref p2] ++ d2)) h6 (d9.urn s5 U4)
   rw [y6]
   have S:=sF4.trans (s5.trans X6)
   have ex:x=⟨0,q,0⟩:=ex
   subst ex
   have hf:1≤few:=by have:Fp.n ⟨0,q,0⟩=1:=rfl;omega
   have R':=RF.same S
   refine (hI _ _ _).mpr ⟨_,_,_,_,_,_,_,_,_,lp,p6,ps,au4 q rs,_,_,rfl,sC.trans (d9.x (sF.trans S) u),U6,⟨R'.pu,n6,R'.p,_,g6,?_⟩,D7.lin nq m1 hf hp,by omega⟩
   exact ((R1.mono (X14.trans (s5.trans X6)).tups).append (.cons (rn.mono (s5.trans X6).tups) .nil)).append (R5.mono X6.tups)
  ·have e:pl=false:=by simpa using hpl1
   subst e
   have ex:x=⟨1,q,v⟩:=ex
   subst ex
   exact (hI _ _ _).mpr ⟨_,_,_,_,_,_,_,_,_,lp,lr,ps,rs,_,_,rfl,sC.trans (d9.x sF u),uF,RF,D7.quad nq nv v0 m1 (by show 2≤few;have:Fp.n ⟨1,q,v⟩=2:=rfl;omega) hp,by omega⟩
 rintro σ H6 ⟨i,h⟩
 obtain ⟨o7,o8,o9,o10,o11,o12,o13,o14,o15,lp,lr,ps,rs,L,few,rfl,s7,u7,R7,D7,l7⟩:=(hI _ _ _).mp h
 subst_eqs
 refine ⟨x9,fun p hp=>?_⟩
 obtain ⟨A1,y1,S1,g1,U1,_⟩:=nwu (.tup [.ref lp,.ref lr]) hp u7
 rw [y1]
 exact k p lp lr ps rs L ap _ (s7.trans (d9.x S1 u)) U1 g1 (R7.same S1) (D7.few (Nat.zero_le _)) l7
end
section
variable {P:Program} {w:World} {K:PySem.W.Frag} {mg:Str→Option Value} {base:Heap}
def ad9 (j i:Nat):List V:=[V.bl (decide (j=i)),V.bl (decide (j=i + 1)),V.bl (decide (j=i + 2)),V.bl (decide (j=i + 3))]
abbrev E9:Stmt:=top 62
theorem G5:j7 ["_law_e","_law_told","_law_names"] ["_law_e"] (d5 E9):=by and_intros
set_option maxHeartbeats 0 in
theorem av0 {a : CAd} {f : Addr} (d : Df K mg "_law_which" E9 ["_law_e"] f) (X : XTx K mg a) (n_isinstance : mg "isinstance" = none) (n_ValueError : mg "ValueError" = none) : bq5 P w K mg base 1 "_law_which" f ["_law_e"] (aA8 K a) := by
  obtain ⟨x_NoFraction, x_NoPolynomial, x_NoStretch, x_NoRow, x_NoPair, x_NoBack, x_NoForm, x_NoParts, x_NoDegree, x_NoSteps, x_NoBox, x_NoGain, x_NoText, x_NoLine, x_NoName, x_NoDeed⟩ := X
  refine d.okX (N := ["_law_e", "_law_told", "_law_names"]) G5 (fun vs H Q E ⟨u, q, j, h, _⟩ => by rw [h]; rfl) (fun cdv A outer s H vs Q E hr h => ?_)
  obtain ⟨e, C, j, rfl, kt, hj, he, k⟩ := h
  refine ⟨_, (d6 (i4 (i := 1) G5.nd rfl (Or.inl rfl) (C4 (b7 (i9 t3 rfl n_isinstance (by decide +kernel) (b7 (pv 0) (b7 (C6 (v := .ref _) rfl x_NoFraction.m rfl) b9))) (b7 (i9 t3 rfl n_isinstance (by decide +kernel) (b7 (pv 0) (b7 (C6 (v := .ref _) rfl x_NoPolynomial.m rfl) b9))) (b7 (i9 t3 rfl n_isinstance (by decide +kernel) (b7 (pv 0) (b7 (C6 (v := .ref _) rfl x_NoStretch.m rfl) b9))) (b7 (i9 t3 rfl n_isinstance (by decide +kernel) (b7 (pv 0) (b7 (C6 (v := .ref _) rfl x_NoRow.m rfl) b9))) b9))))))
      (d6 (i4 (i := 1) G5.nd rfl (Or.inl rfl) (i6 aq4 (pv 1) (C4 (b7 (i9 t3 rfl n_isinstance (by decide +kernel) (b7 (pv 0) (b7 (C6 (v := .ref _) rfl x_NoPair.m rfl) b9))) (b7 (i9 t3 rfl n_isinstance (by decide +kernel) (b7 (pv 0) (b7 (C6 (v := .ref _) rfl x_NoBack.m rfl) b9))) (b7 (i9 t3 rfl n_isinstance (by decide +kernel) (b7 (pv 0) (b7 (C6 (v := .ref _) rfl x_NoForm.m rfl) b9))) (b7 (i9 t3 rfl n_isinstance (by decide +kernel) (b7 (pv 0) (b7 (C6 (v := .ref _) rfl x_NoParts.m rfl) b9))) b9)))))))
      (d6 (i4 (i := 1) G5.nd rfl (Or.inl rfl) (i6 aq4 (pv 1) (C4 (b7 (i9 t3 rfl n_isinstance (by decide +kernel) (b7 (pv 0) (b7 (C6 (v := .ref _) rfl x_NoDegree.m rfl) b9))) (b7 (i9 t3 rfl n_isinstance (by decide +kernel) (b7 (pv 0) (b7 (C6 (v := .ref _) rfl x_NoSteps.m rfl) b9))) (b7 (i9 t3 rfl n_isinstance (by decide +kernel) (b7 (pv 0) (b7 (C6 (v := .ref _) rfl x_NoBox.m rfl) b9))) (b7 (i9 t3 rfl n_isinstance (by decide +kernel) (b7 (pv 0) (b7 (C6 (v := .ref _) rfl x_NoGain.m rfl) b9))) b9)))))))
      (d6 (i4 (i := 1) G5.nd rfl (Or.inl rfl) (i6 aq4 (pv 1) (C4 (b7 (i9 t3 rfl n_isinstance (by decide +kernel) (b7 (pv 0) (b7 (C6 (v := .ref _) rfl x_NoText.m rfl) b9))) (b7 (i9 t3 rfl n_isinstance (by decide +kernel) (b7 (pv 0) (b7 (C6 (v := .ref _) rfl x_NoLine.m rfl) b9))) (b7 (i9 t3 rfl n_isinstance (by decide +kernel) (b7 (pv 0) (b7 (C6 (v := .ref _) rfl x_NoName.m rfl) b9))) (b7 (i9 t3 rfl n_isinstance (by decide +kernel) (b7 (pv 0) (b7 (C6 (v := .ref _) rfl x_NoDeed.m rfl) b9))) b9)))))))
      (d6 (i4 (i := 2) G5.nd rfl (Or.inl rfl) O1)
      (d6 (C9 (PW.pt (aQ7 (p5 br7 (aR0 PySem.F.plainAttrs_list PySem.F.slot_list_count PySem.F.type_list_count bd6 (pv 1) (b7 ax4 b9)) d4 (n5 _)) (aL6 (af2 (Z1 (i9 t3 rfl n_isinstance (by decide +kernel) (b7 (pv 0) (b7 (aC6 (v := .ty "ValueError") rfl n_ValueError (by decide +kernel) rfl) b9)))))))) (d8 (j8 O1)) v8)
      (d8 (j8 (m8 y9 (aR0 PySem.F.plainAttrs_str PySem.F.slot_str_split PySem.F.type_str_split bd4 (pv 2) (b7 O1 b9)) (aR0 PySem.F.plainAttrs_list PySem.F.slot_list_index PySem.F.type_list_index bd5 (pv 1) (b7 ax4 b9)) (fun _ _ => rfl)))))))))), ?_⟩
  rw [show start ["_law_e", "_law_told", "_law_names"] [.ref e] = [some (.ref e), none, none] from rfl]
  have ty : ∀ {H' : Hp}, d9 H H' → TyX K H' (.ref e) (.ref C) := fun sm => .exc (sm _ _ he) kt.ec
  refine i7 (fun σ H1 => ∃ l, σ = [some (.ref e), some (.ref l), none] ∧ d9 H H1 ∧ H1 l = some (.lst (ad9 j 0))) (fun N hN => ?_) ?_
  · subst_eqs
    exact ⟨trivial, _, ty (d9.refl _), _, kt.k_NoFraction, trivial, _, ty (d9.refl _), _, kt.k_NoPolynomial, trivial, _, ty (d9.refl _), _, kt.k_NoStretch, trivial, _, ty (d9.refl _), _, kt.k_NoRow, by decide, fun l h => hN _ _ ⟨l, rfl, d9.new h _, d7⟩⟩
  rintro σ H1 ⟨l1, rfl, sA1, eA1⟩
  refine i7 (fun σ H2 => ∃ l, σ = [some (.ref e), some (.ref l), none] ∧ d9 H H2 ∧ H2 l = some (.lst (ad9 j 0 ++ ad9 j 4))) (fun N hN => ?_) ?_
  · subst_eqs
    exact ⟨trivial, _, ty sA1, _, kt.k_NoPair, trivial, _, ty sA1, _, kt.k_NoBack, trivial, _, ty sA1, _, kt.k_NoForm, trivial, _, ty sA1, _, kt.k_NoParts, by decide, fun p hp => ⟨_, (j3 (i5 eA1 hp)).trans eA1, _, d7, (show (8 : Nat) ≤ sizeLine from by decide), fun l h => hN _ _ ⟨l, rfl, (sA1.trans (d9.new hp _)).trans (d9.new h _), d7⟩⟩⟩
  rintro σ H2 ⟨l2, rfl, sA2, eA2⟩
  refine i7 (fun σ H2 => ∃ l, σ = [some (.ref e), some (.ref l), none] ∧ d9 H H2 ∧ H2 l = some (.lst (ad9 j 0 ++ ad9 j 4 ++ ad9 j 8))) (fun N hN => ?_) ?_
  · subst_eqs
    exact ⟨trivial, _, ty sA2, _, kt.k_NoDegree, trivial, _, ty sA2, _, kt.k_NoSteps, trivial, _, ty sA2, _, kt.k_NoBox, trivial, _, ty sA2, _, kt.k_NoGain, by decide, fun p hp => ⟨_, (j3 (i5 eA2 hp)).trans eA2, _, d7, (show (12 : Nat) ≤ sizeLine from by decide), fun l h => hN _ _ ⟨l, rfl, (sA2.trans (d9.new hp _)).trans (d9.new h _), d7⟩⟩⟩
  rintro σ H3 ⟨l3, rfl, sA3, eA3⟩
  refine i7 (fun σ H2 => ∃ l, σ = [some (.ref e), some (.ref l), none] ∧ d9 H H2 ∧ H2 l = some (.lst (ad9 j 0 ++ ad9 j 4 ++ ad9 j 8 ++ ad9 j 12))) (fun N hN => ?_) ?_
  · subst_eqs
    exact ⟨trivial, _, ty sA3, _, kt.k_NoText, trivial, _, ty sA3, _, kt.k_NoLine, trivial, _, ty sA3, _, kt.k_NoName, trivial, _, ty sA3, _, kt.k_NoDeed, by decide, fun p hp => ⟨_, (j3 (i5 eA3 hp)).trans eA3, _, d7, (show (16 : Nat) ≤ sizeLine from by decide), fun l h => hN _ _ ⟨l, rfl, (sA3.trans (d9.new hp _)).trans (d9.new h _), d7⟩⟩⟩
  rintro σ H4 ⟨l4, rfl, sA4, eA4⟩
  have eT : H4 l4 = some (.lst (told j)) := eA4
  clear eA4
  subst_eqs
  refine ⟨.inl ⟨_, SqL.of eT⟩, _, eT, rfl, aw1 j hj, rfl, ?_⟩
  rw [aK4 j hj]
  refine D5 (fun hh => absurd rfl hh) (fun _ => ?_)
  refine ⟨trivial, _, ty sA4, _, kt.kV, ?_⟩
  refine D5 (fun hh => absurd hh (by decide)) (fun _ => ?_)
  refine ⟨by decide +kernel, by decide +kernel, by decide +kernel, by decide +kernel, by rw [al3]; decide, fun l hl => ?_⟩
  have eT' : (upd H4 l (.lst ((ad1 "fraction polynomial stretch row pair back form parts degree steps box gain text line name deed" " ").map V.str))) l4 = some (.lst (told j)) := (j3 (i5 eT hl)).trans eT
  refine ⟨.inl ⟨_, SqL.of eT'⟩, _, eT', rfl, aw1 j hj, _, aY6 j hj, _, SqL.of d7, _, bn0 hj, ?_⟩
  exact k _ (sA4.trans (d9.new hl _))
end
end R
set_option maxRecDepth 100000
local macro_rules | `(tactic| simp_wf) => `(tactic| first | rfl | decide | exact .inl rfl | (intro _; rfl))
namespace R
open PySem L2 PyProof.Rows
def dTN (n:Int):D:=.tup [.v (.str "told"),.v (.int n)]
theorem bg7 (n:Int):eqD (dTN n) (dTN n)=true:=by simp [dTN,eqD,O9,eqV]
theorem bc7 (m n:Int):okD (dTN m) (dTN n)=true:=by simp [dTN,okD,ad8]
theorem bs9 (n:Int):dpD (dTN n)≤60:=by simp [dTN,dpD,ag0]
theorem aE3 {K:PySem.W.Frag} {H:Hp} {p:Addr} {n:Int} (h:SqT K H p [.str "told",.int n]):IsD K H (.ref p) (dTN n):=.tup h (.cons (.v rfl) (.cons (.v rfl) .nil))
def av7 (H:Hp) (v:V) (o:Option Rat):Prop:=(∀ q,o=some q→BdN 60 q∧∃ b,v=.ref b∧H b=some (.tup (B5 q)))∧(o=none→v=.non)
theorem av7.mono {H H':Hp} {v:V} {o:Option Rat} (h:av7 H v o) (s:ag6 H H'):av7 H' v o:=⟨fun q e=>by
 obtain ⟨a,b,c,d⟩:=h.1 q e
 exact ⟨a,b,c,s _ _ d⟩,h.2⟩
theorem av7.on {K:PySem.W.Frag} {H:Hp} {v:V} {o:Option Rat} (h:av7 H v o):aO7 K H v o:=by
 cases o with
 | none=>exact h.2 rfl
 | some q =>
  obtain ⟨a,b,rfl,d⟩:=h.1 q rfl
  exact ⟨⟨b,rfl,SqT.of d⟩,a.mono (by decide)⟩
theorem av7.b60 {H:Hp} {v:V} {o:Option Rat} (h:av7 H v o):∀ q,o=some q→BdN 60 q:=fun q e=>(h.1 q e).1
theorem bo9 (rs:List Rtu):af9 rs none none=rs.length:=by
 show rs.countP (fun _=>true && true)=_
 rw [List.countP_eq_length];intros;rfl
section
variable {P:Program} {w:World} {K:PySem.W.Frag} {mg:Str→Option Value} {base:Heap}
def aH0 (K:PySem.W.Frag):Sp:=fun vs H Q _ => ∃ (a:Addr) (xs:List V) (ps:List Rat) (lo hi:V) (ol oh:Option Rat),vs=[.ref a,lo,hi]∧SqL K H a xs∧B4 H xs ps∧aO7 K H lo ol∧aO7 K H hi oh∧(ps=[]→∀ r H',d9 H H'→H' r=some (.tup [.str "refused",.str "polynomial"])→Q (.ref r) H')∧(ps ≠ []→at2 ol oh=true→∀ r H',d9 H H'→H' r=some (.tup [.str "refused",.str "stretch"])→Q (.ref r) H') ∧
 (ps ≠ []→at2 ol oh=false→∃ (L:List (Fp × Nat)) (rs:List Rtu) (m:Nat),at5 ps L∧(∀ a,NT (L.map rt1) a=rs.countP (abv a) + m)∧(∀ r ∈ rs,r.o=0 ∨ ((r.o=1 ∨ r.o=-1)∧0 < r.v))∧∀ r H',d9 H H'→H' r=some (.tup [.str "told",.int (af9 rs ol oh:Nat)])→Q (.ref r) H')
abbrev K7:Stmt:=top 67
theorem Z0:j7 ["_law_p","_law_low_here","_law_high","_law_e","_law_found"] ["_law_p","_law_low_here","_law_high"] (d5 K7):=by and_intros
set_option maxHeartbeats 0 in
theorem aD1 {a : CAd} {f fw fg : Addr} (d : Df K mg "_law_said" K7 ["_law_p", "_law_low_here", "_law_high"] f) (G_root_count : Def P w K mg base (CXR P w) 5 "root_count" fg ["p", "low", "high"] (aP9 K a.c_NoPolynomial a.c_NoStretch)) (G__law_which : bq5 P w K mg base 1 "_law_which" fw ["_law_e"] (aA8 K a)) (x_RestError : ExT K mg "RestError" a.c_RestError) (kt : bj6 K a a.c_NoPolynomial 1) (kt2 : bj6 K a a.c_NoStretch 2) : Def P w K mg base CX0 6 "_law_said" f ["_law_p", "_law_low_here", "_law_high"] (aH0 K) := by
  refine d.ok (N := ["_law_p", "_law_low_here", "_law_high", "_law_e", "_law_found"]) Z0 (by rintro vs H Q E ⟨_, _, _, _, _, _, _, h, _⟩; rw [h]; rfl) (fun cdv A outer s H vs Q E hr h => ?_)
  obtain ⟨b, xs, ps, lo, hi, ol, oh, rfl, hS, hN, nl, nh, k0, k1, k2⟩ := h
  refine ⟨_, (d6 (bw0 (i := 3) (C := a.c_RestError) rfl rfl rfl Z0.nd rfl rfl rfl x_RestError.m (fun E xe pn hx => (d8 (i4 (i := 4) Z0.nd rfl (Or.inl rfl) (i3 G_root_count hr (b7 (pv 0) (b7 (pv 1) (b7 (pv 2) b9))) hx)))) (fun b => (d8 (j8 (w8 (b7 O1 (b7 (bm4 G__law_which (hr.toX.mark _) (b7 (pv 3) b9)) b9)))))))
      (d8 (j8 (w8 (b7 O1 (b7 (pv 4) b9)))))), ?_⟩
  rw [show start ["_law_p", "_law_low_here", "_law_high", "_law_e", "_law_found"] [.ref b, lo, hi] = [some (.ref b), some (lo), some (hi), none, none] from rfl]
  simp! [bC1, aA8]
  refine ⟨b, xs, ps, lo, hi, ol, oh, rfl, hS, hN, nl, nh, fun p0 => ⟨kt.ex, fun e he => ⟨_, rfl, e, rfl, _, 1, kt, by decide, d7, fun H2 s2 => ⟨x9, fun p hp => k0 p0 p _ ((d9.new he _).trans (s2.trans (d9.new hp _))) d7⟩⟩⟩, fun p1 bd => ⟨kt2.ex, fun e he => ⟨_, rfl, e, rfl, _, 2, kt2, by decide, d7, fun H2 s2 => ⟨x9, fun p hp => k1 p1 bd p _ ((d9.new he _).trans (s2.trans (d9.new hp _))) d7⟩⟩⟩, fun pn gd => ?_⟩
  obtain ⟨L, rs, m, T, hc, hv, k⟩ := k2 pn gd
  exact ⟨L, rs, m, T, hc, hv, fun H1 s1 => ⟨x9, fun p hp => k p _ (s1.trans (d9.new hp _)) d7⟩⟩
abbrev ae3:Stmt:=top 68
theorem P3:j7 ["_law_script","_law_at","_law_urn_here","_law_kind_here","_law_handed","_law_turn","_law_p","_law_roots","_law_due_here","_law_again","_law_low_here","_law_high","_law_found"] ["_law_script"] (d5 ae3):=by and_intros
set_option maxHeartbeats 0 in
theorem bx1 {f g1 g2 g3 g4 g5 g6 g7 g8:Addr} {fd:FuncData} (F:Fun K "law" "law" ae3 f fd) (G__law_urn:Def P w K mg base CX0 1 "_law_urn" g1 ["_law_script","_law_at"] (br2 K)) (G__law_kind:Def P w K mg base CX0 2 "_law_kind" g2 ["_law_urn_here"] aZ9) (G__law_drawn_seen:Def P w K mg base CX0 5 "_law_drawn_seen" g3 ["_law_urn_here","_law_kind_here","_law_room"] (aZ8 K)) (G__law_end:Def P w K mg base CX0 3 "_law_end" g4 ["_law_urn_here","_law_kind_here","_law_roots"] (br4 K)) (G__law_due:Def P w K mg base CX0 4 "_law_due" g5 ["_law_roots","_law_low_here","_law_high"] (br5 K)) (G__law_below:Def P w K mg base CX0 1 "_law_below" g6 ["_law_one","_law_other_here"] (ag9 K)) (G__law_said:Def P w K mg base CX0 6 "_law_said" g7 ["_law_p","_law_low_here","_law_high"] (aH0 K)) (G__law_whole:Def P w K mg base CX0 1 "_law_whole" g8 ["_law_thing"] aA7)
  (n_range:mg "range" = none) (n_max:mg "max" = none) (n_min:mg "min" = none) (n_len:mg "len" = none) (n_list:mg "list" = none):ai9 P w K mg base CX0 7 f fd ["_law_script"] (aP8 K):=by
 refine F.ok (N:=["_law_script","_law_at","_law_urn_here","_law_kind_here","_law_handed","_law_turn","_law_p","_law_roots","_law_due_here","_law_again","_law_low_here","_law_high","_law_found"]) P3 (fun vs H Q E ⟨x,y,h,_⟩=>by rw [h];rfl) (fun cdv A outer s H vs Q E hr h=>?_)
 obtain ⟨as,ns,rfl,hS,h63,k⟩:=h
 have hu:=hr.units
 refine ⟨_,(@d6 _ _ _ _ _ (@O0 _ _ _ _ _ _ _ _ PassesOwn.never rfl (@U5 _ _ _ _ _ _ rfl n_range (@b7 _ _ _ _ _ (@i9 _ _ _ _ _ _ _ _ _ (az0 rfl) rfl n_max (by decide +kernel) (@b7 _ _ _ _ _ d4 (@b7 _ _ _ _ _ (@i9 _ _ _ _ _ _ _ _ _ (aX3 rfl) rfl n_min (by decide +kernel) (@b7 _ _ _ _ _ d4 (@b7 _ _ _ _ _ (@i9 _ _ _ _ _ _ _ _ _ q8 rfl n_len (by decide +kernel) (@b7 _ _ _ _ _ (pv 0) b9 (by simp_wf)) (by simp_wf) (by simp_wf) (by simp_wf) (by simp_wf)) b9 (by simp_wf)) (by simp_wf)) (by simp_wf) (by simp_wf) (by simp_wf) (by simp_wf)) b9 (by simp_wf)) (by simp_wf)) (by simp_wf) (by simp_wf) (by simp_wf) (by simp_wf)) b9 (by simp_wf)) (by simp_wf)) (m6 (i:=1) P3.nd rfl (Or.inl rfl)) (@d6 _ _ _ _ _ (@i4 _ _ 2 _ _ _ _ P3.nd rfl (Or.inl rfl) (@i3 _ _ _ _ _ _ _ _ _ _ _ _ _ _ G__law_urn hr (@b7 _ _ _ _ _ (pv 0) (@b7 _ _ _ _ _ (pv 1) b9 (by simp_wf)) (by simp_wf)) j5 (by simp_wf) (by simp_wf) (by simp_wf) (by simp_wf) (by simp_wf)) (by simp_wf) (by simp_wf)) (@d6 _ _ _ _ _ (@i4 _ _ 3 _ _ _ _ P3.nd rfl (Or.inl rfl) (@i6 _ _ _ _ _ _ _ _ O3 (@i3 _ _ _ _ _ _ _ _ _ _ _ _ _ _ G__law_kind hr (@b7 _ _ _ _ _ (pv 2) b9 (by simp_wf)) j5 (by simp_wf) (by simp_wf) (by simp_wf) (by simp_wf) (by simp_wf)) d4) (by simp_wf) (by simp_wf)) (@d6 _ _ _ _ _ (@Z2 _ _ _ _ _ _ (@i3 _ _ _ _ _ _ _ _ _ _ _ _ _ _ G__law_drawn_seen hr (@b7 _ _ _ _ _ (pv 2) (@b7 _ _ _ _ _ (pv 3) (@b7 _ _ _ _ _ d4 b9 (by simp_wf)) (by simp_wf)) (by simp_wf)) j5 (by simp_wf) (by simp_wf) (by simp_wf) (by simp_wf) (by simp_wf)) (show PG _ _ (ao0 K 2 (L9 (C1 6) (L9 (C1 7) ao1))) from by (refine Z3 (n:=2) ?_ ?_ ?_ ?_;rfl;(refine z8 ?_ ?_ ?_;(exact (m6 (i:=6) P3.nd rfl (Or.inl rfl))) ;(refine z8 ?_ ?_ ?_;(exact (m6 (i:=7) P3.nd rfl (Or.inl rfl))) ;(exact T4) ;rfl) ;rfl) ;rfl;rfl)) (by simp_wf) (by simp_wf) (by simp_wf)) (@d6 _ _ _ _ _ (@i4 _ _ 4 _ _ _ _ P3.nd rfl (Or.inl rfl) (@N4 _ _ _ _ _ _ _ _ _ T8 rfl n_list (by decide +kernel) (@b7 _ _ _ _ _ (pv 6) b9 (by simp_wf)) (by simp_wf) (by simp_wf) (by simp_wf) (by simp_wf)) (by simp_wf) (by simp_wf)) (@d6 _ _ _ _ _ (@O0 _ _ _ _ _ _ _ _ PassesOwn.never rfl (@U5 _ _ _ _ _ _ rfl n_range (@b7 _ _ _ _ _ d4 b9 (by simp_wf)) (by simp_wf)) (m6 (i:=5) P3.nd rfl (Or.inl rfl)) (@d6 _ _ _ _ _ (@aL7 _ _ 10 11 _ _ _ _ _ _ _ _ _ _ _ rfl P3.nd rfl rfl (by decide) rfl rfl (@b7 _ _ _ _ _ (@i3 _ _ _ _ _ _ _ _ _ _ _ _ _ _ G__law_end hr (@b7 _ _ _ _ _ (pv 2) (@b7 _ _ _ _ _ (pv 3) (@b7 _ _ _ _ _ (pv 7) b9 (by simp_wf)) (by simp_wf)) (by simp_wf)) j5 (by simp_wf) (by simp_wf) (by simp_wf) (by simp_wf) (by simp_wf)) (@b7 _ _ _ _ _ (@i3 _ _ _ _ _ _ _ _ _ _ _ _ _ _ G__law_end hr (@b7 _ _ _ _ _ (pv 2) (@b7 _ _ _ _ _ (pv 3) (@b7 _ _ _ _ _ (pv 7) b9 (by simp_wf)) (by simp_wf)) (by simp_wf)) j5 (by simp_wf) (by simp_wf) (by simp_wf) (by simp_wf) (by simp_wf)) b9 (by simp_wf)) (by simp_wf)) rfl (by simp_wf)) (@d6 _ _ _ _ _ (@i4 _ _ 8 _ _ _ _ P3.nd rfl (Or.inl rfl) (@w8 _ _ _ _ _ (@b7 _ _ _ _ _ O1 (@b7 _ _ _ _ _ (@i3 _ _ _ _ _ _ _ _ _ _ _ _ _ _ G__law_due hr (@b7 _ _ _ _ _ (pv 7) (@b7 _ _ _ _ _ (pv 10) (@b7 _ _ _ _ _ (pv 11) b9 (by simp_wf)) (by simp_wf)) (by simp_wf)) j5 (by simp_wf) (by simp_wf) (by simp_wf) (by simp_wf) (by simp_wf)) b9 (by simp_wf)) (by simp_wf))) (by simp_wf) (by simp_wf)) (@d6 _ _ _ _ _ (@C9 _ _ _ _ _ _ _ _ (@PW.pt _ _ _ (@W5 _ _ _ _ _ _ _ (@p5 _ _ _ _ _ _ _ _ ao4 (pv 10) U9 (n5 _)) (@W5 _ _ _ _ _ _ _ (@p5 _ _ _ _ _ _ _ _ ao4 (pv 11) U9 (n5 _)) (@W0 _ _ _ _ (@af2 _ _ _ _ (@Z1 _ _ _ (@i3 _ _ _ _ _ _ _ _ _ _ _ _ _ _ G__law_below hr (@b7 _ _ _ _ _ (pv 10) (@b7 _ _ _ _ _ (pv 11) b9 (by simp_wf)) (by simp_wf)) j5 (by simp_wf) (by simp_wf) (by simp_wf) (by simp_wf) (by simp_wf)) (by simp_wf))))))) (@d8 _ _ _ (@i4 _ _ 8 _ _ _ _ P3.nd rfl (Or.inl rfl) (@w8 _ _ _ _ _ (@b7 _ _ _ _ _ O1 (@b7 _ _ _ _ _ O1 b9 (by simp_wf)) (by simp_wf))) (by simp_wf) (by simp_wf))) v8) (@d6 _ _ _ _ _ (@O0 _ _ _ _ _ _ _ _ PassesOwn.never rfl (@U5 _ _ _ _ _ _ rfl n_range (@b7 _ _ _ _ _ d4 b9 (by simp_wf)) (by simp_wf)) (m6 (i:=9) P3.nd rfl (Or.inl rfl)) (@d6 _ _ _ _ _ (@i4 _ _ 12 _ _ _ _ P3.nd rfl (Or.inl rfl) (@i3 _ _ _ _ _ _ _ _ _ _ _ _ _ _ G__law_said hr (@b7 _ _ _ _ _ (pv 4) (@b7 _ _ _ _ _ (pv 10) (@b7 _ _ _ _ _ (pv 11) b9 (by simp_wf)) (by simp_wf)) (by simp_wf)) j5 (by simp_wf) (by simp_wf) (by simp_wf) (by simp_wf) (by simp_wf)) (by simp_wf) (by simp_wf)) (@d8 _ _ _ (@C9 _ _ _ _ _ _ _ _ (@PW.pt _ _ _ (@aQ7 _ _ _ _ _ _ _ (@p5 _ _ _ _ _ _ _ _ (aj6 hu) (pv 12) (pv 8) (n5 _)) (@aQ7 _ _ _ _ _ _ _ (@PW.pt _ _ _ (@W5 _ _ _ _ _ _ _ (@p5 _ _ _ _ _ _ _ _ aa1 (@m8 _ _ _ _ _ _ _ p8 (pv 12) d4 (fun _ _=>rfl)) O1 (n5 _)) (@W0 _ _ _ _ (@af2 _ _ _ _ (@Z1 _ _ _ (@i3 _ _ _ _ _ _ _ _ _ _ _ _ _ _ G__law_whole hr (@b7 _ _ _ _ _ (@m8 _ _ _ _ _ _ _ p8 (pv 12) d4 (fun _ _=>rfl)) b9 (by simp_wf)) j5 (by simp_wf) (by simp_wf) (by simp_wf) (by simp_wf) (by simp_wf)) (by simp_wf)))))) (@aL6 _ _ _ _ (@p5 _ _ _ _ _ _ _ _ (aj6 hu) (pv 4) (pv 6) (n5 _)))))) (@d8 _ _ _ (@j8 _ _ _ _ ax4)) v8))) (by simp_wf)) (@d8 _ _ _ (@C9 _ _ _ _ _ _ _ _ (@p5 _ _ _ _ _ _ _ _ (aj6 hu) (@i3 _ _ _ _ _ _ _ _ _ _ _ _ _ _ G__law_said hr (@b7 _ _ _ _ _ (@C4 _ _ _ _ b9) (@b7 _ _ _ _ _ (pv 10) (@b7 _ _ _ _ _ (pv 11) b9 (by simp_wf)) (by simp_wf)) (by simp_wf)) j5 (by simp_wf) (by simp_wf) (by simp_wf) (by simp_wf) (by simp_wf)) (@w8 _ _ _ _ _ (@b7 _ _ _ _ _ O1 (@b7 _ _ _ _ _ O1 b9 (by simp_wf)) (by simp_wf))) (n5 _)) (@d8 _ _ _ (@j8 _ _ _ _ ax4)) v8)))))) (by simp_wf)) (@d8 _ _ _ (@C9 _ _ _ _ _ _ _ _ (@p5 _ _ _ _ _ _ _ _ (aj6 hu) (@i3 _ _ _ _ _ _ _ _ _ _ _ _ _ _ G__law_said hr (@b7 _ _ _ _ _ (pv 4) (@b7 _ _ _ _ _ U9 (@b7 _ _ _ _ _ U9 b9 (by simp_wf)) (by simp_wf)) (by simp_wf)) j5 (by simp_wf) (by simp_wf) (by simp_wf) (by simp_wf) (by simp_wf)) (@w8 _ _ _ _ _ (@b7 _ _ _ _ _ O1 (@b7 _ _ _ _ _ (@i9 _ _ _ _ _ _ _ _ _ q8 rfl n_len (by decide +kernel) (@b7 _ _ _ _ _ (pv 7) b9 (by simp_wf)) (by simp_wf) (by simp_wf) (by simp_wf) (by simp_wf)) b9 (by simp_wf)) (by simp_wf))) (n5 _)) (@d8 _ _ _ (@j8 _ _ _ _ ax4)) v8))))))) (by simp_wf)) (@d8 _ _ _ (@j8 _ _ _ _ ax4))),?_⟩
 rw [show start ["_law_script","_law_at","_law_urn_here","_law_kind_here","_law_handed","_law_turn","_law_p","_law_roots","_law_due_here","_law_again","_law_low_here","_law_high","_law_found"] [.ref as]=[some (.ref as),none,none,none,none,none,none,none,none,none,none,none,none] from rfl]
 have hlen:(((ns.map V.int).length:Nat):Int)=(ns.length:Int):=by rw [List.length_map]
 obtain ⟨I,hI⟩:∃ I:Nat→L2.St→Hp→Prop,∀ i σ H1,I i σ H1 ↔ ∃ o1 o2 o3 o4 o5 o6 o7 o8 o9 o10 o11 o12,σ=[some (.ref as),o1,o2,o3,o4,o5,o6,o7,o8,o9,o10,o11,o12]∧SqL K H1 as (ns.map V.int):=⟨_,fun _ _ _=>Iff.rfl⟩
 refine ⟨_,rfl,as,_,rfl,.inl hS,4,_,rfl,1,_,rfl,_,rfl,?_,?_,U7 I ((hI _ _ _).mpr ⟨_,_,_,_,_,_,_,_,_,_,_,_,rfl,hS⟩) ?_ ?_⟩
 ·rw [hlen];split <;> split <;> omega
 ·rw [hlen];split <;> split <;> omega
 ·intro i σ H1 hi hI1
  obtain ⟨o1,o2,o3,o4,o5,o6,o7,o8,o9,o10,o11,o12,rfl,hS1⟩:=(hI _ _ _).mp hI1
  rw [hlen] at hi
  have hi4:i < 4:=by
   revert hi
   split <;> split <;> omega
  simp only [C1,List.set_cons_zero,List.set_cons_succ]
  refine i7 (fun σ H2 => ∃ u,σ=[some (.ref as),some (.int (0 + (i:Int))),some (.ref u),o3,o4,o5,o6,o7,o8,o9,o10,o11,o12]∧d9 H1 H2∧H1 u=none∧v7 H2 u) (fun N hN=>?_) ?_
  ·subst_eqs
   exact ⟨as,ns,_,rfl,hS1,by omega,by omega,fun u H2 s2 hu0 hu2=>hN _ _ ⟨u,rfl,s2,hu0,hu2⟩⟩
  rintro σ H2 ⟨u,rfl,s2,fu,u2⟩
  have sx2:=d9.x s2 u
  refine i7 (fun σ H3 => ∃ kd:Int,σ=[some (.ref as),some (.int (0 + (i:Int))),some (.ref u),some (.int kd),o4,o5,o6,o7,o8,o9,o10,o11,o12]∧v9 u H1 H3∧v7 H3 u∧(kd=0 ∨ kd=1)) (fun N hN=>?_) ?_
  ·subst_eqs
   refine ⟨u,rfl,u2,fun r H3 hr3 s3 u3=>⟨r,rfl,by decide,hN _ _ ⟨_,rfl,sx2.trans s3,u3,?_⟩⟩⟩
   rcases hr3 with rfl | rfl | rfl
   ·exact .inl rfl
   ·exact .inr rfl
   ·exact .inl rfl
  clear sx2 u2 s2
  rintro σ H3 ⟨kd,rfl,s3,u3,hk⟩
  refine i7 (fun σ H4 => ∃ lp lr ps rs L ap,σ=[some (.ref as),some (.int (0 + (i:Int))),some (.ref u),some (.int kd),o4,o5,some (.ref lp),some (.ref lr),o8,o9,o10,o11,o12]∧v9 u H1 H4∧v7 H4 u∧PRt u H4 lp lr ps rs∧Drn ps L rs 0 ap∧ps.length≤11) (fun N hN=>?_) ?_
  ·subst_eqs
   exact ⟨u,kd,10,rfl,u3,hk,by decide,by decide,fun r lp lr ps rs L ap H4 s4 u4 e4 R4 D4 l4=>⟨r,rfl,_,SqT.of e4,rfl,_,_,rfl,_,_,rfl,rfl,hN _ _ ⟨lp,lr,ps,rs,L,ap,rfl,s3.trans s4,u4,R4,D4,l4⟩⟩⟩
  clear s3 u3
  rintro σ H4 ⟨lp,lr,ps,rs,L,ap,rfl,s4,u4,R4,D4,l4⟩
  have T:=D4.told l4
  obtain ⟨mm,cn⟩:=D4.cn
  have ro:=D4.ro
  have hv:∀ r ∈ rs,r.o=0 ∨ ((r.o=1 ∨ r.o=-1)∧0 < r.v):=fun r h=>(ro r h).2.2
  have l8:rs.length≤20:=by have:=D4.ln;omega
  have pn:ps ≠ []:=fun z=>by
   obtain ⟨k0,n,hp⟩:=D4.ex
   have:=hp.len
   rw [z] at this
   cases this
  obtain ⟨xs,ep,np⟩:=R4.p
  obtain ⟨ts,er,hR⟩:=R4.r
  have lts:=hR.length
  have lxs:=np.length
  refine i7 (fun σ H5 => ∃ lh,σ=[some (.ref as),some (.int (0 + (i:Int))),some (.ref u),some (.int kd),some (.ref lh),o5,some (.ref lp),some (.ref lr),o8,o9,o10,o11,o12]∧d9 H4 H5∧lh ≠ u∧H5 lh=some (.lst xs)) (fun N hN=>?_) ?_
  ·subst_eqs
   exact ⟨xs,.inl (SqL.of ep),fun p0 hp0=>hN _ _ ⟨p0,rfl,d9.new hp0 _,ap2 u4 hp0,d7⟩⟩
  rintro σ H5 ⟨lh,rfl,s5,lhu,eh⟩
  have u5:=d9.urn s5 u4
  have ep:=s5 _ _ ep
  have er:=s5 _ _ er
  have np:=np.mono s5.tups
  have hR:=hR.mono s5.tups
  obtain ⟨B,hB⟩:∃ B:Nat→L2.St→Hp→Prop,∀ t σ H6,B t σ H6 ↔ ∃ o5 o8 o9 o10 o11 o12,σ=[some (.ref as),some (.int (0 + (i:Int))),some (.ref u),some (.int kd),some (.ref lh),o5,some (.ref lp),some (.ref lr),o8,o9,o10,o11,o12]∧v9 u H5 H6∧v7 H6 u:=⟨_,fun _ _ _=>Iff.rfl⟩
  refine i7 (fun σ H6 => ∃ t,B t σ H6) (fun N hN=>?_) ?_
  ·refine ⟨3,rfl,by decide,by decide,U7 B ((hB _ _ _).mpr ⟨_,_,_,_,_,_,rfl,d9.x (d9.refl _) u,u5⟩) ?_ (fun σ H6 h=>hN _ _ ⟨_,h⟩)⟩
   intro t σ H6 ht hB6
   obtain ⟨o5,o8,o9,o10,o11,o12,rfl,s6,u6⟩:=(hB _ _ _).mp hB6
   simp only [C1,List.set_cons_zero,List.set_cons_succ]
   have er6:=s6 _ _ er R4.ru
   have hR6:=hR.mono (s6.tups u5)
   refine i7 (fun σ H7 => ∃ lo hi ol oh,σ=[some (.ref as),some (.int (0 + (i:Int))),some (.ref u),some (.int kd),some (.ref lh),some (.int (0 + (t:Int))),some (.ref lp),some (.ref lr),o8,o9,some lo,some hi,o12]∧v9 u H5 H7∧v7 H7 u∧av7 H7 lo ol∧av7 H7 hi oh) (fun N hN=>?_) ?_
   ·subst_eqs
    refine ⟨u,kd,lr,ts,rs,rfl,u6,R4.ru,hk,er6,hR6,ro,l8,fun lo ol H7 h1 h2 s7 u7=>⟨u,kd,lr,ts,rs,rfl,u7,R4.ru,hk,s7 _ _ er6 R4.ru,hR6.mono (s7.tups u6),ro,l8,fun hi oh H8 h3 h4 s8 u8=>?_⟩⟩
    exact hN _ _ ⟨lo,hi,ol,oh,rfl,s6.trans (s7.trans s8),u8,av7.mono ⟨h1,h2⟩ (s8.tups u7),⟨h3,h4⟩⟩
   clear er6 hR6 s6 u6
   rintro σ H7 ⟨lo,hi,ol,oh,rfl,s7,u7,nl,nh⟩
   have er7:=s7 _ _ er R4.ru
   have ep7:=s7 _ _ ep R4.pu
   have eh7:=s7 _ _ eh lhu
   have hR7:=hR.mono (s7.tups u5)
   have np7:=np.mono (s7.tups u5)
   refine i7 (fun σ H8 => ∃ pd,σ=[some (.ref as),some (.int (0 + (i:Int))),some (.ref u),some (.int kd),some (.ref lh),some (.int (0 + (t:Int))),some (.ref lp),some (.ref lr),some (.ref pd),o9,some lo,some hi,o12]∧d9 H7 H8∧H8 pd=some (.tup [.str "told",.int (af9 rs ol oh:Nat)])) (fun N hN=>?_) ?_
   ·subst_eqs
    refine ⟨lr,ts,rs,lo,hi,ol,oh,rfl,SqL.of er7,hR7,ro,l8,nl.on,nh.on,nl.b60,nh.b60,fun H8 s8=>⟨x9,fun p hp=>hN _ _ ⟨p,rfl,s8.trans (d9.new hp _),d7⟩⟩⟩
   rintro σ H8 ⟨pd,rfl,s8,ed⟩
   refine i7 (fun σ H9 => ∃ pd,σ=[some (.ref as),some (.int (0 + (i:Int))),some (.ref u),some (.int kd),some (.ref lh),some (.int (0 + (t:Int))),some (.ref lp),some (.ref lr),some (.ref pd),o9,some lo,some hi,o12]∧d9 H7 H9∧((at2 ol oh=true∧H9 pd=some (.tup [.str "refused",.str "stretch"])) ∨ (at2 ol oh=false∧H9 pd=some (.tup [.str "told",.int (af9 rs ol oh:Nat)])))) (fun N hN=>?_) ?_
   ·subst_eqs
    have good:at2 ol oh=false→N [some (.ref as),some (.int (0 + (i:Int))),some (.ref u),some (.int kd),some (.ref lh),some (.int (0 + (t:Int))),some (.ref lp),some (.ref lr),some (.ref pd),o9,some lo,some hi,o12] H8:=fun g=>hN _ _ ⟨pd,rfl,s8,.inr ⟨g,ed⟩⟩
    cases ol with
    | none =>
     rw [if_neg (by rw [nl.2 rfl];simp)]
     exact good (by cases oh <;> rfl)
    | some c =>
     obtain ⟨bc,pc,rfl,ec⟩:=nl.1 c rfl
     rw [if_pos (by simp)]
     cases oh with
     | none =>
      rw [if_neg (by rw [nh.2 rfl];simp)]
      exact good rfl
     | some c' =>
      obtain ⟨bc',pc',rfl,ec'⟩:=nh.1 c' rfl
      rw [if_pos (by simp)]
      refine ⟨_,_,c,c',rfl,⟨pc,rfl,SqT.of (s8 _ _ ec)⟩,⟨pc',rfl,SqT.of (s8 _ _ ec')⟩,bc.mono (by decide),bc'.mono (by decide),_,rfl,D5 (fun z=>⟨x9,fun p hp=>hN _ _ ⟨p,rfl,s8.trans (d9.new hp _),.inl ⟨?_,d7⟩⟩⟩) (fun z=>good ?_)⟩
      ·show (!decide (c < c'))=true
       rw [z];rfl
      ·show (!decide (c < c'))=false
       cases e:decide (c < c') with
       | false=>exact absurd e z
       | true=>rfl
   clear ed s8
   rintro σ H9 ⟨pd,rfl,s9,ed⟩
   obtain ⟨C,hC⟩:∃ C:Nat→L2.St→Hp→Prop,∀ v σ HA,C v σ HA ↔ ∃ o9 o12,σ=[some (.ref as),some (.int (0 + (i:Int))),some (.ref u),some (.int kd),some (.ref lh),some (.int (0 + (t:Int))),some (.ref lp),some (.ref lr),some (.ref pd),o9,some lo,some hi,o12]∧d9 H9 HA:=⟨_,fun _ _ _=>Iff.rfl⟩
   refine i7 (fun σ HA => ∃ v,C v σ HA) (fun N hN=>?_) ?_
   ·refine ⟨2,rfl,by decide,by decide,U7 C ((hC _ _ _).mpr ⟨_,_,rfl,d9.refl _⟩) ?_ (fun σ H6 h=>hN _ _ ⟨_,h⟩)⟩
    intro v σ HA hv' hCA
    obtain ⟨o9,o12,rfl,sA⟩:=(hC _ _ _).mp hCA
    have S7A:=s9.trans sA
    simp only [C1,List.set_cons_zero,List.set_cons_succ]
    refine i7 (fun σ HB => ∃ pf,σ=[some (.ref as),some (.int (0 + (i:Int))),some (.ref u),some (.int kd),some (.ref lh),some (.int (0 + (t:Int))),some (.ref lp),some (.ref lr),some (.ref pd),some (.int (0 + (v:Int))),some lo,some hi,some (.ref pf)]∧d9 HA HB∧((at2 ol oh=true∧HB pf=some (.tup [.str "refused",.str "stretch"])) ∨ (at2 ol oh=false∧HB pf=some (.tup [.str "told",.int (af9 rs ol oh:Nat)])))) (fun N hN=>?_) ?_
    ·subst_eqs
     refine ⟨lh,xs,ps,lo,hi,ol,oh,rfl,SqL.of (S7A _ _ eh7),np7.mono S7A.tups,(nl.mono S7A.tups).on,(nh.mono S7A.tups).on,fun z=>absurd z pn,fun _ bd r HB sB eB=>hN _ _ ⟨r,rfl,sB,.inl ⟨bd,eB⟩⟩,fun _ gd=>⟨L,rs,mm,T,cn,hv,fun r HB sB eB=>hN _ _ ⟨r,rfl,sB,.inr ⟨gd,eB⟩⟩⟩⟩
    rintro σ HB ⟨pf,rfl,sB,ef⟩
    have S9B:=sA.trans sB
    have S7B:=s9.trans S9B
    simp! [aA7,bl1]
    have idh:IsD K HB (.ref lh) (O4 ps):=Q9 (SqL.of (S7B _ _ eh7)) (np7.mono S7B.tups)
    have idp:IsD K HB (.ref lp) (O4 ps):=Q9 (SqL.of (S7B _ _ ep7)) (np7.mono S7B.tups)
    have last:bC5 K (.ref lh) (.ref lp) HB fun x H' => ∃ k,x=.bl k∧if k=true then Q (.bl false) H' else C (v + 1) [some (.ref as),some (.int (0 + (i:Int))),some (.ref u),some (.int kd),some (.ref lh),some (.int (0 + (t:Int))),some (.ref lp),some (.ref lr),some (.ref pd),some (.int (0 + (v:Int))),some lo,some hi,some (.ref pf)] H':=by
     refine ⟨O4 ps,O4 ps,rfl,idh,idp,ah6 _ _,Nat.le_trans (ao5 _) (by decide),?_⟩
     rw [ai6,decide_eq_true rfl]
     exact ⟨false,rfl,D5 (fun h=>absurd h (by decide)) (fun _=>(hC _ _ _).mpr ⟨_,_,rfl,S9B⟩)⟩
    rcases ef with ⟨bd,ef⟩ | ⟨gd,ef⟩
    ·have ed':=ed.elim (fun h=>h.2) (fun h=>by rw [bd] at h;cases h.1)
     refine ⟨Y4 "refused" "stretch",Y4 "refused" "stretch",rfl,ai0 (SqT.of ef),ai0 (SqT.of (S9B _ _ ed')),aI3 _ _ _ _,aS5 _ _,?_⟩
     rw [aJ6]
     exact ⟨false,rfl,D5 (fun h=>absurd h (by decide)) (fun _=>⟨_,SqT.of ef,_,rfl,rfl,D5 (fun h=>absurd h (by decide)) (fun _=>last)⟩)⟩
    ·have ed':=ed.elim (fun h=>by rw [gd] at h;cases h.1) (fun h=>h.2)
     refine ⟨dTN _,dTN _,rfl,aE3 (SqT.of ef),aE3 (SqT.of (S9B _ _ ed')),bc7 _ _,bs9 _,?_⟩
     rw [bg7]
     exact ⟨false,rfl,D5 (fun h=>absurd h (by decide)) (fun _=>⟨_,SqT.of ef,_,rfl,rfl,D5 (fun h=>⟨_,SqT.of ef,_,rfl,_,rfl,last⟩) (fun z=>absurd rfl z)⟩)⟩
   rintro σ HA ⟨v,hA⟩
   obtain ⟨o9,o12,rfl,sA⟩:=(hC _ _ _).mp hA
   subst_eqs
   have S7A:=s9.trans sA
   refine ⟨by decide,fun p0 h0=>?_⟩
   have X0:=d9.new h0 (.lst [])
   have S:=S7A.trans X0
   refine ⟨p0,[],[],lo,hi,ol,oh,rfl,SqL.of d7,.nil,(nl.mono S.tups).on,(nh.mono S.tups).on,fun _ r HE sE eE=>⟨x9,fun p1 h1=>?_⟩,fun z=>absurd rfl z,fun z=>absurd rfl z⟩
   have X1:=d9.new h1 (.tup [.str "refused",.str "polynomial"])
   refine ⟨Y4 "refused" "polynomial",Y4 "refused" "polynomial",rfl,ai0 (SqT.of (X1 _ _ eE)),ai0 (SqT.of d7),aI3 _ _ _ _,aS5 _ _,?_⟩
   rw [aJ6]
   have S':=S.trans (sE.trans X1)
   exact ⟨false,rfl,D5 (fun h=>absurd h (by decide)) (fun _=>(hB _ _ _).mpr ⟨_,_,_,_,_,_,rfl,s7.trans (d9.x S' u),d9.urn S' u7⟩)⟩
  rintro σ H6 ⟨t,h6⟩
  obtain ⟨o5,o8,o9,o10,o11,o12,rfl,s6,u6⟩:=(hB _ _ _).mp h6
  subst_eqs
  refine ⟨lh,xs,ps,.non,.non,none,none,rfl,SqL.of (s6 _ _ eh lhu),np.mono (s6.tups u5),rfl,rfl,fun z=>absurd z pn,fun _ z=>absurd z (by decide),fun _ _=>⟨L,rs,mm,T,cn,hv,fun r HE sE eE=>⟨ts,.inl (SqL.of (sE _ _ (s6 _ _ er R4.ru))),x9,fun p1 h1=>?_⟩⟩⟩
  rw [bo9] at eE
  rw [lts]
  have X1:=d9.new h1 (.tup [.str "told",.int (rs.length:Nat)])
  refine ⟨dTN (rs.length:Nat),dTN (rs.length:Nat),rfl,aE3 (SqT.of (X1 _ _ eE)),aE3 (SqT.of d7),bc7 _ _,bs9 _,?_⟩
  rw [bg7]
  exact ⟨false,rfl,D5 (fun h=>absurd h (by decide)) (fun _=>(hI _ _ _).mpr ⟨_,_,_,_,_,_,_,_,_,_,_,_,rfl,(s4.trans ((d9.x s5 u).trans (s6.trans (d9.x (sE.trans X1) u)))).seq fu hS1⟩)⟩
 ·intro σ H1 hI1
  obtain ⟨o1,o2,o3,o4,o5,o6,o7,o8,o9,o10,o11,o12,rfl,_⟩:=(hI _ _ _).mp hI1
  subst_eqs
  exact k _
end
end R
set_option maxRecDepth 100000
def PySem.W.Fast.tw17778457791751733925:Unit:=()
def PySem.W.Fast.tw2975629260062378422:Unit:=()
def PySem.W.Fast.tw1694563314387164933:Unit:=()
def PySem.W.Fast.tw6364337784880420098:Unit:=()
def PySem.W.Fast.tw6534875162054310518:Unit:=()
def PySem.W.Fast.tw554438772046173595:Unit:=()
def PySem.W.Fast.tw7440945039453848192:Unit:=()
def PySem.W.Fast.tw15661506885770080546:Unit:=()
def PySem.W.Fast.tw11013643928047383242:Unit:=()
def PySem.W.Fast.tw937672868019161699:Unit:=()
def PySem.W.Fast.tw18410291059590189006:Unit:=()
def PySem.W.Fast.tw18051974452691275168:Unit:=()
def PySem.W.Fast.tw10098549540780797699:Unit:=()
def PySem.W.Fast.tw3234829115501953025:Unit:=()
def PySem.W.Fast.tw9111940609401587236:Unit:=()
def PySem.W.Fast.tw1924169384975604390:Unit:=()
def PySem.W.Fast.tw12993314272238306814:Unit:=()
def PySem.W.Fast.tw15187976174994720316:Unit:=()
def PySem.W.Fast.tw8121330180273187244:Unit:=()
def PySem.W.Fast.tw14130270797680217382:Unit:=()
def PySem.W.Fast.tw6302637301994040145:Unit:=()
def PySem.W.Fast.tw9924911048348034373:Unit:=()
def PySem.W.Fast.tw17718299268933119500:Unit:=()
def PySem.W.Fast.tw2498436544017161073:Unit:=()
def PySem.W.Fast.tw7323549614252887507:Unit:=()
def PySem.W.Fast.tw15528507746721957743:Unit:=()
def PySem.W.Fast.tw2338245169516094360:Unit:=()
def PySem.W.Fast.tw15411805979591203842:Unit:=()
def PySem.W.Fast.tw16267628775013790348:Unit:=()
def PySem.W.Fast.tw5369844264482719333:Unit:=()
def PySem.W.Fast.tw9187567499199882306:Unit:=()
def PySem.W.Fast.tw10875968802317069640:Unit:=()
def PySem.W.Fast.tw7224599392759044821:Unit:=()
def PySem.W.Fast.tw13080414966845248428:Unit:=()
def PySem.W.Fast.tw12236075553755081142:Unit:=()
def PySem.W.Fast.tw9308847591998801802:Unit:=()
def PySem.W.Fast.tw8959565578753852271:Unit:=()
def PySem.W.Fast.tw9905634923116591549:Unit:=()
def PySem.W.Fast.tw14119744086949858710:Unit:=()
def PySem.W.Fast.tw3707378581419051070:Unit:=()
def PySem.W.Fast.tw11982677321379260376:Unit:=()
def PySem.W.Fast.tw6859139683104582294:Unit:=()
def PySem.W.Fast.tw771986042535575941:Unit:=()
def PySem.W.Fast.tw17861670442755571817:Unit:=()
def PySem.W.Fast.tw12651497989615093423:Unit:=()
def PySem.W.Fast.tw7987532386559332548:Unit:=()
def PySem.W.Fast.tw7281364794095114049:Unit:=()
def PySem.W.Fast.tw7142872949963532243:Unit:=()
def PySem.W.Fast.tw6049397486860314754:Unit:=()
def PySem.W.Fast.tw10764691504382677286:Unit:=()
def PySem.W.Fast.tw13052547296686367108:Unit:=()
def PySem.W.Fast.tw17112058364970284292:Unit:=()
def PySem.W.Fast.tw18443399159829526941:Unit:=()
def PySem.W.Fast.tw2335069065276405037:Unit:=()
def PySem.W.Fast.tw14505526523660739217:Unit:=()
def PySem.W.Fast.tw16494550444317539182:Unit:=()
def PySem.W.Fast.tw7499649081672760581:Unit:=()
def PySem.W.Fast.tw16645465638781655415:Unit:=()
def PySem.W.Fast.tw3503122943732659316:Unit:=()
def PySem.W.Fast.tw7474847608732486949:Unit:=()
def PySem.W.Fast.tw1988991351569290509:Unit:=()
def PySem.W.Fast.tw6034566209323358756:Unit:=()
def PySem.W.Fast.tw18121536997491368617:Unit:=()
def PySem.W.Fast.tw6113294573223585090:Unit:=()
def PySem.W.Fast.tw962372822396656715:Unit:=()
def PySem.W.Fast.tw17345205502069177764:Unit:=()
def PySem.W.Fast.tw5025038308620772597:Unit:=()
def PySem.W.Fast.tw1747131617909233933:Unit:=()
def PySem.W.Fast.tw3443884639950249686:Unit:=()
def PySem.W.Fast.tw13758594704593060540:Unit:=()
def PySem.W.Fast.tw12991406345309805586:Unit:=()
def PySem.W.Fast.tw16684818390313192831:Unit:=()
def PySem.W.Fast.tw6701062873857423172:Unit:=()
def PySem.W.Fast.tw17075367144353262368:Unit:=()
def PySem.W.Fast.tw1983992564950326040:Unit:=()
def PySem.W.Fast.tw10130255163068517971:Unit:=()
def PySem.W.Fast.tw14271713073639359432:Unit:=()
def PySem.W.Fast.tw18099944659829597762:Unit:=()
def PySem.W.Fast.tw6278959194289144617:Unit:=()
def PySem.W.Fast.tw10986125045491584577:Unit:=()
def PySem.W.Fast.tw12017242555011675316:Unit:=()
def PySem.W.Fast.tw6421925013826835259:Unit:=()
def PySem.W.Fast.tw14051821563394637239:Unit:=()
def PySem.W.Fast.tw1929162102508591139:Unit:=()
def PySem.W.Fast.tw17072896459870587167:Unit:=()
def PySem.W.Fast.tw12362563785616578354:Unit:=()
def PySem.W.Fast.tw13882256307067314962:Unit:=()
def PySem.W.Fast.tw17125904946549083453:Unit:=()
def PySem.W.Fast.tw6577511349934245187:Unit:=()
def PySem.W.Fast.tw12822293046015176278:Unit:=()
def PySem.W.Fast.tw17585469854743705910:Unit:=()
def PySem.W.Fast.tw5114660263855129243:Unit:=()
def PySem.W.Fast.tw2177182464094633640:Unit:=()
def PySem.W.Fast.tw6528535345512719893:Unit:=()
def PySem.W.Fast.tw1419471653680318653:Unit:=()
def PySem.W.Fast.tw9659910318647445099:Unit:=()
def PySem.W.Fast.tw16668806042701188895:Unit:=()
def PySem.W.Fast.tw9173146842035030332:Unit:=()
def PySem.W.Fast.tw10530150756345981742:Unit:=()
def PySem.W.Fast.tw6219681402279265170:Unit:=()
def PySem.W.Fast.tw9059322270046878744:Unit:=()
def PySem.W.Fast.tw2228161702208563109:Unit:=()
def PySem.W.Fast.tw2390300976622840910:Unit:=()
def PySem.W.Fast.tw14111917229536475620:Unit:=()
def PySem.W.Fast.tw9173566156770819959:Unit:=()
def PySem.W.Fast.tw13054479410741507768:Unit:=()
def PySem.W.Fast.tw357789318388839342:Unit:=()
def PySem.W.Fast.tw5199873112863150940:Unit:=()
def PySem.W.Fast.tw463948506382579302:Unit:=()
def PySem.W.Fast.tw16262287451827341033:Unit:=()
def PySem.W.Fast.tw2017096633726343883:Unit:=()
def PySem.W.Fast.tw8151218068362548349:Unit:=()
def PySem.W.Fast.tw4016616888391801603:Unit:=()
def PySem.W.Fast.tw6557862204482443971:Unit:=()
def PySem.W.Fast.tw1581832225495226268:Unit:=()
def PySem.W.Fast.tw88526521487727011:Unit:=()
def PySem.W.Fast.tw6023262896644565500:Unit:=()
def PySem.W.Fast.tw7728799887567957763:Unit:=()
def PySem.W.Fast.tw5805740797047023499:Unit:=()
def PySem.W.Fast.tw7509378031917121302:Unit:=()
def PySem.W.Fast.tw13802031080136504228:Unit:=()
def PySem.W.Fast.tw3246351382428041426:Unit:=()
def PySem.W.Fast.tw10305614040421230433:Unit:=()
def PySem.W.Fast.tw12764046779016864010:Unit:=()
def PySem.W.Fast.tw17928191276206610740:Unit:=()
def PySem.W.Fast.tw13500187926793568406:Unit:=()
def PySem.W.Fast.tw5386385148493368305:Unit:=()
def PySem.W.Fast.tw12395396403518498771:Unit:=()
def PySem.W.Fast.tw558739557098877938:Unit:=()
def PySem.W.Fast.tw11160033217266096394:Unit:=()
def PySem.W.Fast.tw3909097667576431969:Unit:=()
def PySem.W.Fast.tw9924598675684290471:Unit:=()
def PySem.W.Fast.tw4409962403054729020:Unit:=()
def PySem.W.Fast.tw17706631831277561465:Unit:=()
def PySem.W.Fast.tw7867180996613760893:Unit:=()
def PySem.W.Fast.tw14332545932511815971:Unit:=()
def PySem.W.Fast.tw1037210667643114830:Unit:=()
def PySem.W.Fast.tw6537628561464147171:Unit:=()
def PySem.W.Fast.tw423898421031219398:Unit:=()
def PySem.W.Fast.tw5836222501272617709:Unit:=()
def PySem.W.Fast.tw13506845130479227904:Unit:=()
def PySem.W.Fast.tw1168980439034294683:Unit:=()
def PySem.W.Fast.tw3817438750012172870:Unit:=()
def PySem.W.Fast.tw122489281153355490:Unit:=()
def PySem.W.Fast.tw12806684904966949753:Unit:=()
def PySem.W.Fast.tw14878296051020981532:Unit:=()
def PySem.W.Fast.tw17215437346207648137:Unit:=()
def PySem.W.Fast.tw15187308154386374989:Unit:=()
def PySem.W.Fast.tw8800865387864660464:Unit:=()
def PySem.W.Fast.tw16957222067481236988:Unit:=()
def PySem.W.Fast.tw14015137140298081963:Unit:=()
def PySem.W.Fast.tw11439580846000065912:Unit:=()
def PySem.W.Fast.tw1877851676857769011:Unit:=()
def PySem.W.Fast.tw6164656082864739089:Unit:=()
def PySem.W.Fast.tw11892665046256767666:Unit:=()
def PySem.W.Fast.tw3570077868365315805:Unit:=()
def PySem.W.Fast.tw13447024657106274016:Unit:=()
def PySem.W.Fast.tw2798264252700928054:Unit:=()
def PySem.W.Fast.tw14790925151178992866:Unit:=()
def PySem.W.Fast.tw6909381031081119807:Unit:=()
def PySem.W.Fast.tw11765759278052564953:Unit:=()
def PySem.W.Fast.tw732443796769831019:Unit:=()
def PySem.W.Fast.tw14786760627902547354:Unit:=()
def PySem.W.Fast.tw62422493978290328:Unit:=()
def PySem.W.Fast.tw17151990236462629324:Unit:=()
def PySem.W.Fast.tw315518125169965395:Unit:=()
def PySem.W.Fast.tw18334327592241014476:Unit:=()
def PySem.W.Fast.tw14207634857746362284:Unit:=()
def PySem.W.Fast.tw10428782439733226493:Unit:=()
def PySem.W.Fast.tw4222586987803053809:Unit:=()
def PySem.W.Fast.tw9372459310333806557:Unit:=()
def PySem.W.Fast.tw16904325993594126138:Unit:=()
def PySem.W.Fast.tw8765298142662665692:Unit:=()
def PySem.W.Fast.tw3892366778067246598:Unit:=()
def PySem.W.Fast.tw4567377619895167549:Unit:=()
def PySem.W.Fast.tw16111997580152648732:Unit:=()
def PySem.W.Fast.tw10999789757409396276:Unit:=()
def PySem.W.Fast.tw3491934199543853035:Unit:=()
def PySem.W.Fast.tw15924621240760160898:Unit:=()
def PySem.W.Fast.tw14941503016912187386:Unit:=()
def PySem.W.Fast.tw11317393019106807811:Unit:=()
def PySem.W.Fast.tw10905742022147903147:Unit:=()
def PySem.W.Fast.tw17433605488134438516:Unit:=()
def PySem.W.Fast.tw10700792792002216013:Unit:=()
def PySem.W.Fast.tw16266512872261699571:Unit:=()
def PySem.W.Fast.tw9742113686001065937:Unit:=()
def PySem.W.Fast.tw3591157589702125373:Unit:=()
def PySem.W.Fast.tw4201041573056289930:Unit:=()
def PySem.W.Fast.tw4201803200235646808:Unit:=()
def PySem.W.Fast.tw2247225836756438522:Unit:=()
def PySem.W.Fast.tw10847837919314898087:Unit:=()
def PySem.W.Fast.tw17120124155449583311:Unit:=()
def PySem.W.Fast.tw10456159472997913259:Unit:=()
def PySem.W.Fast.tw4791269794976471526:Unit:=()
def PySem.W.Fast.tw7172812934850746047:Unit:=()
def PySem.W.Fast.tw14672245146163429607:Unit:=()
def PySem.W.Fast.tw7115481340860383318:Unit:=()
def PySem.W.Fast.tw13105638881022003707:Unit:=()
def PySem.W.Fast.tw2637827954427945296:Unit:=()
def PySem.W.Fast.tw13095547762791866989:Unit:=()
def PySem.W.Fast.tw15041677235506171606:Unit:=()
def PySem.W.Fast.tw1413639962471263659:Unit:=()
def PySem.W.Fast.tw12513944132040639114:Unit:=()
def PySem.W.Fast.tw4638147603239951965:Unit:=()
def PySem.W.Fast.tw14695147675562307995:Unit:=()
def PySem.W.Fast.tw13649352973022870925:Unit:=()
def PySem.W.Fast.tw17183931955379023921:Unit:=()
def PySem.W.Fast.tw418623543325690489:Unit:=()
def PySem.W.Fast.tw3368001364144318939:Unit:=()
def PySem.W.Fast.tw11012306533714612203:Unit:=()
def PySem.W.Fast.tw7983087757447502007:Unit:=()
def PySem.W.Fast.tw17401275513757581646:Unit:=()
def PySem.W.Fast.tw5628082146631754030:Unit:=()
def PySem.W.Fast.tw17921720494460334095:Unit:=()
def PySem.W.Fast.tw13213839978033041915:Unit:=()
def PySem.W.Fast.tw8830387014118454868:Unit:=()
def PySem.W.Fast.tw2386403168851023398:Unit:=()
def PySem.W.Fast.tw7641295726699721719:Unit:=()
def PySem.W.Fast.tw8309758154999839322:Unit:=()
def PySem.W.Fast.tw13629276193844412599:Unit:=()
def PySem.W.Fast.tw16104536258102677156:Unit:=()
def PySem.W.Fast.tw15195352336041893945:Unit:=()
def PySem.W.Fast.tw9473706537713612029:Unit:=()
def PySem.W.Fast.tw12326008853538357466:Unit:=()
def PySem.W.Fast.tw14408620306035621965:Unit:=()
def PySem.W.Fast.tw17200298869109525839:Unit:=()
def PySem.W.Fast.tw6100975090942372918:Unit:=()
def PySem.W.Fast.tw4154585534116835062:Unit:=()
def PySem.W.Fast.tw8303046913350320867:Unit:=()
def PySem.W.Fast.tw5102473404417008735:Unit:=()
def PySem.W.Fast.tw11926476200976503774:Unit:=()
def PySem.W.Fast.tw11311144116118510851:Unit:=()
def PySem.W.Fast.tw483665672958503290:Unit:=()
def PySem.W.Fast.tw16641143632741823227:Unit:=()
def PySem.W.Fast.tw12281136906546730807:Unit:=()
def PySem.W.Fast.tw3819996907590203723:Unit:=()
def PySem.W.Fast.tw6210078039231689665:Unit:=()
def PySem.W.Fast.tw5259780849483747810:Unit:=()
def PySem.W.Fast.tw5196217840034530809:Unit:=()
def PySem.W.Fast.tw10159518606500871094:Unit:=()
def PySem.W.Fast.tw3701796566502985607:Unit:=()
def PySem.W.Fast.tw6653776358450020873:Unit:=()
def PySem.W.Fast.tw8509802250745547264:Unit:=()
def PySem.W.Fast.tw8058239421214418182:Unit:=()
def PySem.W.Fast.tw3499829628894889761:Unit:=()
def PySem.W.Fast.tw1459051270689948343:Unit:=()
def PySem.W.Fast.tw17164212178903025130:Unit:=()
def PySem.W.Fast.tw3072086367918562752:Unit:=()
def PySem.W.Fast.tw5612252275016380996:Unit:=()
def PySem.W.Fast.tw8140197658706595166:Unit:=()
def PySem.W.Fast.tw5146721024663098854:Unit:=()
def PySem.W.Fast.tw8617980055706164087:Unit:=()
def PySem.W.Fast.tw11682924699670590921:Unit:=()
def PySem.W.Fast.tw11864494439998209086:Unit:=()
def PySem.W.Fast.tw9600562939345114670:Unit:=()
def PySem.W.Fast.tw397936322622593657:Unit:=()
def PySem.W.Fast.tw4498329908899930939:Unit:=()
def PySem.W.Fast.tw5863867737356836752:Unit:=()
def PySem.W.Fast.tw11513135811644930249:Unit:=()
def PySem.W.Fast.tw3157646483299425980:Unit:=()
def PySem.W.Fast.tw316796932177900427:Unit:=()
def PySem.W.Fast.tw14110287703605045230:Unit:=()
def PySem.W.Fast.tw18438484100607944243:Unit:=()
def PySem.W.Fast.tw3619251395823145946:Unit:=()
def PySem.W.Fast.tw7403599417405417665:Unit:=()
def PySem.W.Fast.tw16730651998345049929:Unit:=()
def PySem.W.Fast.tw6178555745403095928:Unit:=()
def PySem.W.Fast.tw5434996064408975705:Unit:=()
def PySem.W.Fast.tw998186376365090675:Unit:=()
def PySem.W.Fast.tw893742940201923401:Unit:=()
def PySem.W.Fast.tw1654194762739316824:Unit:=()
def PySem.W.Fast.tw17926790969300510601:Unit:=()
def PySem.W.Fast.tw16867931882426800756:Unit:=()
def PySem.W.Fast.tw7815659778585436736:Unit:=()
def PySem.W.Fast.tw11156877915887206278:Unit:=()
def PySem.W.Fast.tw14784193431061945054:Unit:=()
def PySem.W.Fast.tw4196859093790458279:Unit:=()
def PySem.W.Fast.tw14380327728831561069:Unit:=()
def PySem.W.Fast.tw15674699845313043814:Unit:=()
def PySem.W.Fast.tw5931049585525920643:Unit:=()
def PySem.W.Fast.tw17636063309413084784:Unit:=()
def PySem.W.Fast.tw11120912005540791095:Unit:=()
def PySem.W.Fast.tw13496258298979006551:Unit:=()
def PySem.W.Fast.tw15725028364058962944:Unit:=()
def PySem.W.Fast.tw6146787038394814901:Unit:=()
def PySem.W.Fast.tw467002883277807560:Unit:=()
def PySem.W.Fast.tw1177419432137410926:Unit:=()
def PySem.W.Fast.tw18175527937025274749:Unit:=()
def PySem.W.Fast.tw7109511995124407062:Unit:=()
def PySem.W.Fast.tw8467128074989404773:Unit:=()
def PySem.W.Fast.tw10920122963371200326:Unit:=()
def PySem.W.Fast.tw9220613874196678365:Unit:=()
def PySem.W.Fast.tw12349060475279974483:Unit:=()
def PySem.W.Fast.tw10264906423743898191:Unit:=()
def PySem.W.Fast.tw2915313800267101503:Unit:=()
def PySem.W.Fast.tw14215877199751996542:Unit:=()
def PySem.W.Fast.tw5496479434172725442:Unit:=()
def PySem.W.Fast.tw15407919854945462130:Unit:=()
def PySem.W.Fast.tw4710586663542385533:Unit:=()
def PySem.W.Fast.tw7261517985317212669:Unit:=()
def PySem.W.Fast.tw1271638828278758763:Unit:=()
def PySem.W.Fast.tw15102769416984813580:Unit:=()
def PySem.W.Fast.tw16378822564417633761:Unit:=()
def PySem.W.Fast.tw16571004598981292313:Unit:=()
def PySem.W.Fast.tw8374259194828885388:Unit:=()
def PySem.W.Fast.tw446629175146516499:Unit:=()
def PySem.W.Fast.tw18237577412248102942:Unit:=()
def PySem.W.Fast.tw833976696893617968:Unit:=()
def PySem.W.Fast.tw17194222329481499951:Unit:=()
def PySem.W.Fast.tw16954990180241230310:Unit:=()
def PySem.W.Fast.tw15881290141783794621:Unit:=()
def PySem.W.Fast.tw9020125380745457109:Unit:=()
def PySem.W.Fast.tw3306993414508610424:Unit:=()
def PySem.W.Fast.tw15442963540601776956:Unit:=()
def PySem.W.Fast.tw7893353581149873637:Unit:=()
def PySem.W.Fast.tw15042351549248931660:Unit:=()
def PySem.W.Fast.tw13710306970364478845:Unit:=()
def PySem.W.Fast.tw2929145246554542524:Unit:=()
def PySem.W.Fast.tw4408367024311423755:Unit:=()
def PySem.W.Fast.tw8812639606982543210:Unit:=()
def PySem.W.Fast.tw8570963116139185296:Unit:=()
def PySem.W.Fast.tw6676245414050421253:Unit:=()
def PySem.W.Fast.tw12099011690192354510:Unit:=()
def PySem.W.Fast.tw15099934433615017892:Unit:=()
def PySem.W.Fast.tw8574781754459064779:Unit:=()
def PySem.W.Fast.tw7146192247514585384:Unit:=()
def PySem.W.Fast.tw15486837850191645331:Unit:=()
def PySem.W.Fast.tw7396002777622550261:Unit:=()
def PySem.W.Fast.tw6854314749260422646:Unit:=()
def PySem.W.Fast.tw7179287503806854303:Unit:=()
def PySem.W.Fast.tw8792797473034749751:Unit:=()
def PySem.W.Fast.tw1090800052337640930:Unit:=()
namespace R
open PySem L2 PyProof.Rows
section
variable {l:PySem.W.OpenLaw} {w:World} {K:PySem.W.Frag} {h:Heap} {mg:Str→Option Value}
set_option maxHeartbeats 0 in
theorem bB2 {fa f0 f1 f2 f3 f4 f5 f6 f7 f8 f9 f10 f11 f12 f13 f14 f15 f16 f17 f18 f19 f20 f21 f22 f23 f24 f25 f26 f27 f28 f29 f30 f31 f32 f33 f34 f35 f36 f37 f38 f39 f40 f41:Addr} {C_NoFraction C_NoPolynomial C_NoStretch C_NoRow C_NoPair C_NoBack C_NoForm C_NoParts C_NoDegree C_NoSteps C_NoBox C_NoGain C_NoText C_NoLine C_NoName C_NoDeed C_RestError:Addr} {od0 an0:Option Addr} {sl0:Array (Option Value)} {oc0 kV0 dc0 pm0 cd0 ct0:Value} {od1 an1:Option Addr} {sl1:Array (Option Value)} {oc1 kV1 dc1 pm1 cd1 ct1:Value} {od2 an2:Option Addr} {sl2:Array (Option Value)} {oc2 kV2 dc2 pm2 cd2 ct2:Value} {od3 an3:Option Addr} {sl3:Array (Option Value)} {oc3 kV3 dc3 pm3 cd3 ct3:Value} {od4 an4:Option Addr} {sl4:Array (Option Value)} {oc4 kV4 dc4 pm4 cd4 ct4:Value} {od5 an5:Option Addr} {sl5:Array (Option Value)} {oc5 kV5 dc5 pm5 cd5 ct5:Value} {od6 an6:Option Addr} {sl6:Array (Option Value)} {oc6 kV6 dc6 pm6 cd6 ct6:Value} {od7 an7:Option Addr} {sl7:Array (Option Value)} {oc7 kV7 dc7 pm7 cd7 ct7:Value} {od8 an8:Option Addr} {sl8:Array (Option Value)} {oc8 kV8 dc8 pm8 cd8 ct8:Value} {od9 an9:Option Addr} {sl9:Array (Option Value)} {oc9 kV9 dc9 pm9 cd9 ct9:Value} {od10 an10:Option Addr} {sl10:Array (Option Value)} {oc10 kV10 dc10 pm10 cd10 ct10:Value} {od11 an11:Option Addr} {sl11:Array (Option Value)} {oc11 kV11 dc11 pm11 cd11 ct11:Value} {od12 an12:Option Addr} {sl12:Array (Option Value)} {oc12 kV12 dc12 pm12 cd12 ct12:Value} {od13 an13:Option Addr} {sl13:Array (Option Value)} {oc13 kV13 dc13 pm13 cd13 ct13:Value} {od14 an14:Option Addr} {sl14:Array (Option Value)} {oc14 kV14 dc14 pm14 cd14 ct14:Value} {od15 an15:Option Addr} {sl15:Array (Option Value)} {oc15 kV15 dc15 pm15 cd15 ct15:Value} {od16 an16:Option Addr} {sl16:Array (Option Value)} {oc16 kV16 dc16 pm16 cd16 ct16:Value} {od17 an17:Option Addr} {sl17:Array (Option Value)} {oc17 kV17 dc17 pm17 cd17 ct17:Value} {od18 an18:Option Addr} {sl18:Array (Option Value)} {oc18 kV18 dc18 pm18 cd18 ct18:Value} {od19 an19:Option Addr} {sl19:Array (Option Value)} {oc19 kV19 dc19 pm19 cd19 ct19:Value} {od20 an20:Option Addr} {sl20:Array (Option Value)} {oc20 kV20 dc20 pm20 cd20 ct20:Value} {od21 an21:Option Addr} {sl21:Array (Option Value)} {oc21 kV21 dc21 pm21 cd21 ct21:Value} {od22 an22:Option Addr} {sl22:Array (Option Value)} {oc22 kV22 dc22 pm22 cd22 ct22:Value} {od23 an23:Option Addr} {sl23:Array (Option Value)} {oc23 kV23 dc23 pm23 cd23 ct23:Value} {od24 an24:Option Addr} {sl24:Array (Option Value)} {oc24 kV24 dc24 pm24 cd24 ct24:Value} {od25 an25:Option Addr} {sl25:Array (Option Value)} {oc25 kV25 dc25 pm25 cd25 ct25:Value} {od26 an26:Option Addr} {sl26:Array (Option Value)} {oc26 kV26 dc26 pm26 cd26 ct26:Value} {od27 an27:Option Addr} {sl27:Array (Option Value)} {oc27 kV27 dc27 pm27 cd27 ct27:Value} {od28 an28:Option Addr} {sl28:Array (Option Value)} {oc28 kV28 dc28 pm28 cd28 ct28:Value} {od29 an29:Option Addr} {sl29:Array (Option Value)} {oc29 kV29 dc29 pm29 cd29 ct29:Value} {od30 an30:Option Addr} {sl30:Array (Option Value)} {oc30 kV30 dc30 pm30 cd30 ct30:Value} {od31 an31:Option Addr} {sl31:Array (Option Value)} {oc31 kV31 dc31 pm31 cd31 ct31:Value} {od32 an32:Option Addr} {sl32:Array (Option Value)} {oc32 kV32 dc32 pm32 cd32 ct32:Value} {od33 an33:Option Addr} {sl33:Array (Option Value)} {oc33 kV33 dc33 pm33 cd33 ct33:Value} {od34 an34:Option Addr} {sl34:Array (Option Value)} {oc34 kV34 dc34 pm34 cd34 ct34:Value} {od35 an35:Option Addr} {sl35:Array (Option Value)} {oc35 kV35 dc35 pm35 cd35 ct35:Value} {od36 an36:Option Addr} {sl36:Array (Option Value)} {oc36 kV36 dc36 pm36 cd36 ct36:Value} {od37 an37:Option Addr} {sl37:Array (Option Value)} {oc37 kV37 dc37 pm37 cd37 ct37:Value} {od38 an38:Option Addr} {sl38:Array (Option Value)} {oc38 kV38 dc38 pm38 cd38 ct38:Value} {od39 an39:Option Addr} {sl39:Array (Option Value)} {oc39 kV39 dc39 pm39 cd39 ct39:Value} {od40 an40:Option Addr} {sl40:Array (Option Value)} {oc40 kV40 dc40 pm40 cd40 ct40:Value} {od41 an41:Option Addr} {sl41:Array (Option Value)} {oc41 kV41 dc41 pm41 cd41 ct41:Value} {t_SHORT:Tok} {A_ONE:Addr} {td_ONE:Option Addr} {ts_ONE:Array (Option Value)} {tn_ONE:Nat} {tt0_ONE tt1_ONE:Tok}
  (X:K.In h) (G:h.Ns mainGlobals mg) (hfa:mg "law" = some (.ref fa))
  (a0:PySem.W.nsIn K mainGlobals "changes_of" = some (some (.ref f0)))
  (l0:K.lookup f0=some ⟨oc0,od0,.func (PySem.W.fnOf "changes_of" "changes_of" (j9 E7) (j6 E7) (d5 E7) .none kV0 dc0 pm0 an0 cd0 ct0),sl0⟩)
  (c0:PySem.W.codeIn K cd0 "changes_of" = true) (k0:PySem.W.keepIn K (.ref f0)=true)
  (a1:PySem.W.nsIn K mainGlobals "common_divisor" = some (some (.ref f1)))
  (l1:K.lookup f1=some ⟨oc1,od1,.func (PySem.W.fnOf "common_divisor" "common_divisor" (j9 B1) (j6 B1) (d5 B1) .none kV1 dc1 pm1 an1 cd1 ct1),sl1⟩)
  (c1:PySem.W.codeIn K cd1 "common_divisor" = true) (k1:PySem.W.keepIn K (.ref f1)=true)
  (a2:PySem.W.nsIn K mainGlobals "content_of" = some (some (.ref f2)))
  (l2:K.lookup f2=some ⟨oc2,od2,.func (PySem.W.fnOf "content_of" "content_of" (j9 E6) (j6 E6) (d5 E6) .none kV2 dc2 pm2 an2 cd2 ct2),sl2⟩)
  (c2:PySem.W.codeIn K cd2 "content_of" = true) (k2:PySem.W.keepIn K (.ref f2)=true)
  (a3:PySem.W.nsIn K mainGlobals "cleared" = some (some (.ref f3)))
  (l3:K.lookup f3=some ⟨oc3,od3,.func (PySem.W.fnOf "cleared" "cleared" (j9 N3) (j6 N3) (d5 N3) .none kV3 dc3 pm3 an3 cd3 ct3),sl3⟩)
  (c3:PySem.W.codeIn K cd3 "cleared" = true) (k3:PySem.W.keepIn K (.ref f3)=true)
  (a4:PySem.W.nsIn K mainGlobals "lifted" = some (some (.ref f4)))
  (l4:K.lookup f4=some ⟨oc4,od4,.func (PySem.W.fnOf "lifted" "lifted" (j9 Q6) (j6 Q6) (d5 Q6) .none kV4 dc4 pm4 an4 cd4 ct4),sl4⟩)
  (c4:PySem.W.codeIn K cd4 "lifted" = true) (k4:PySem.W.keepIn K (.ref f4)=true)
  (a5:PySem.W.nsIn K mainGlobals "trimmed" = some (some (.ref f5)))
  (l5:K.lookup f5=some ⟨oc5,od5,.func (PySem.W.fnOf "trimmed" "trimmed" (j9 P4) (j6 P4) (d5 P4) .none kV5 dc5 pm5 an5 cd5 ct5),sl5⟩)
  (c5:PySem.W.codeIn K cd5 "trimmed" = true) (k5:PySem.W.keepIn K (.ref f5)=true)
  (a6:PySem.W.nsIn K mainGlobals "whole_divided" = some (some (.ref f6)))
  (l6:K.lookup f6=some ⟨oc6,od6,.func (PySem.W.fnOf "whole_divided" "whole_divided" (j9 x8) (j6 x8) (d5 x8) .none kV6 dc6 pm6 an6 cd6 ct6),sl6⟩)
  (c6:PySem.W.codeIn K cd6 "whole_divided" = true) (k6:PySem.W.keepIn K (.ref f6)=true)
  (a7:PySem.W.nsIn K mainGlobals "whole_scaled" = some (some (.ref f7)))
  (l7:K.lookup f7=some ⟨oc7,od7,.func (PySem.W.fnOf "whole_scaled" "whole_scaled" (j9 B6) (j6 B6) (d5 B6) .none kV7 dc7 pm7 an7 cd7 ct7),sl7⟩)
  (c7:PySem.W.codeIn K cd7 "whole_scaled" = true) (k7:PySem.W.keepIn K (.ref f7)=true)
  (a8:PySem.W.nsIn K mainGlobals "whole_over" = some (some (.ref f8)))
  (l8:K.lookup f8=some ⟨oc8,od8,.func (PySem.W.fnOf "whole_over" "whole_over" (j9 E4) (j6 E4) (d5 E4) .none kV8 dc8 pm8 an8 cd8 ct8),sl8⟩)
  (c8:PySem.W.codeIn K cd8 "whole_over" = true) (k8:PySem.W.keepIn K (.ref f8)=true)
  (a9:PySem.W.nsIn K mainGlobals "over_content" = some (some (.ref f9)))
  (l9:K.lookup f9=some ⟨oc9,od9,.func (PySem.W.fnOf "over_content" "over_content" (j9 B7) (j6 B7) (d5 B7) .none kV9 dc9 pm9 an9 cd9 ct9),sl9⟩)
  (c9:PySem.W.codeIn K cd9 "over_content" = true) (k9:PySem.W.keepIn K (.ref f9)=true)
  (a10:PySem.W.nsIn K mainGlobals "whole_slope" = some (some (.ref f10)))
  (l10:K.lookup f10=some ⟨oc10,od10,.func (PySem.W.fnOf "whole_slope" "whole_slope" (j9 C7) (j6 C7) (d5 C7) .none kV10 dc10 pm10 an10 cd10 ct10),sl10⟩)
  (c10:PySem.W.codeIn K cd10 "whole_slope" = true) (k10:PySem.W.keepIn K (.ref f10)=true)
  (a11:PySem.W.nsIn K mainGlobals "whole_worth" = some (some (.ref f11)))
  (l11:K.lookup f11=some ⟨oc11,od11,.func (PySem.W.fnOf "whole_worth" "whole_worth" (j9 D6) (j6 D6) (d5 D6) .none kV11 dc11 pm11 an11 cd11 ct11),sl11⟩)
  (c11:PySem.W.codeIn K cd11 "whole_worth" = true) (k11:PySem.W.keepIn K (.ref f11)=true)
  (a12:PySem.W.nsIn K mainGlobals "sign_of_whole" = some (some (.ref f12)))
  (l12:K.lookup f12=some ⟨oc12,od12,.func (PySem.W.fnOf "sign_of_whole" "sign_of_whole" (j9 C3) (j6 C3) (d5 C3) .none kV12 dc12 pm12 an12 cd12 ct12),sl12⟩)
  (c12:PySem.W.codeIn K cd12 "sign_of_whole" = true) (k12:PySem.W.keepIn K (.ref f12)=true)
  (a13:PySem.W.nsIn K mainGlobals "sign_at" = some (some (.ref f13)))
  (l13:K.lookup f13=some ⟨oc13,od13,.func (PySem.W.fnOf "sign_at" "sign_at" (j9 P5) (j6 P5) (d5 P5) .none kV13 dc13 pm13 an13 cd13 ct13),sl13⟩)
  (c13:PySem.W.codeIn K cd13 "sign_at" = true) (k13:PySem.W.keepIn K (.ref f13)=true)
  (a14:PySem.W.nsIn K mainGlobals "changes_at" = some (some (.ref f14)))
  (l14:K.lookup f14=some ⟨oc14,od14,.func (PySem.W.fnOf "changes_at" "changes_at" (j9 C8) (j6 C8) (d5 C8) .none kV14 dc14 pm14 an14 cd14 ct14),sl14⟩)
  (c14:PySem.W.codeIn K cd14 "changes_at" = true) (k14:PySem.W.keepIn K (.ref f14)=true)
  (a15:PySem.W.nsIn K mainGlobals "changes_above_all" = some (some (.ref f15)))
  (l15:K.lookup f15=some ⟨oc15,od15,.func (PySem.W.fnOf "changes_above_all" "changes_above_all" (j9 v3) (j6 v3) (d5 v3) .none kV15 dc15 pm15 an15 cd15 ct15),sl15⟩)
  (c15:PySem.W.codeIn K cd15 "changes_above_all" = true) (k15:PySem.W.keepIn K (.ref f15)=true)
  (a16:PySem.W.nsIn K mainGlobals "changes_below_all" = some (some (.ref f16)))
  (l16:K.lookup f16=some ⟨oc16,od16,.func (PySem.W.fnOf "changes_below_all" "changes_below_all" (j9 v2) (j6 v2) (d5 v2) .none kV16 dc16 pm16 an16 cd16 ct16),sl16⟩)
  (c16:PySem.W.codeIn K cd16 "changes_below_all" = true) (k16:PySem.W.keepIn K (.ref f16)=true)
  (a17:PySem.W.nsIn K mainGlobals "chain_of" = some (some (.ref f17)))
  (l17:K.lookup f17=some ⟨oc17,od17,.func (PySem.W.fnOf "chain_of" "chain_of" (j9 K3) (j6 K3) (d5 K3) .none kV17 dc17 pm17 an17 cd17 ct17),sl17⟩)
  (c17:PySem.W.codeIn K cd17 "chain_of" = true) (k17:PySem.W.keepIn K (.ref f17)=true)
  (a18:PySem.W.nsIn K mainGlobals "_law_low" = some (some (.ref f18)))
  (l18:K.lookup f18=some ⟨oc18,od18,.func (PySem.W.fnOf "_law_low" "_law_low" (j9 M6) (j6 M6) (d5 M6) .none kV18 dc18 pm18 an18 cd18 ct18),sl18⟩)
  (c18:PySem.W.codeIn K cd18 "_law_low" = true) (k18:PySem.W.keepIn K (.ref f18)=true)
  (a19:PySem.W.nsIn K mainGlobals "_law_urn" = some (some (.ref f19)))
  (l19:K.lookup f19=some ⟨oc19,od19,.func (PySem.W.fnOf "_law_urn" "_law_urn" (j9 M5) (j6 M5) (d5 M5) .none kV19 dc19 pm19 an19 cd19 ct19),sl19⟩)
  (c19:PySem.W.codeIn K cd19 "_law_urn" = true) (k19:PySem.W.keepIn K (.ref f19)=true)
  (a20:PySem.W.nsIn K mainGlobals "_law_draw" = some (some (.ref f20)))
  (l20:K.lookup f20=some ⟨oc20,od20,.func (PySem.W.fnOf "_law_draw" "_law_draw" (j9 L5) (j6 L5) (d5 L5) .none kV20 dc20 pm20 an20 cd20 ct20),sl20⟩)
  (c20:PySem.W.codeIn K cd20 "_law_draw" = true) (k20:PySem.W.keepIn K (.ref f20)=true)
  (a21:PySem.W.nsIn K mainGlobals "_law_kind" = some (some (.ref f21)))
  (l21:K.lookup f21=some ⟨oc21,od21,.func (PySem.W.fnOf "_law_kind" "_law_kind" (j9 L4) (j6 L4) (d5 L4) .none kV21 dc21 pm21 an21 cd21 ct21),sl21⟩)
  (c21:PySem.W.codeIn K cd21 "_law_kind" = true) (k21:PySem.W.keepIn K (.ref f21)=true)
  (a22:PySem.W.nsIn K mainGlobals "_law_number" = some (some (.ref f22)))
  (l22:K.lookup f22=some ⟨oc22,od22,.func (PySem.W.fnOf "_law_number" "_law_number" (j9 D8) (j6 D8) (d5 D8) .none kV22 dc22 pm22 an22 cd22 ct22),sl22⟩)
  (c22:PySem.W.codeIn K cd22 "_law_number" = true) (k22:PySem.W.keepIn K (.ref f22)=true)
  (a23:PySem.W.nsIn K mainGlobals "_law_whole" = some (some (.ref f23)))
  (l23:K.lookup f23=some ⟨oc23,od23,.func (PySem.W.fnOf "_law_whole" "_law_whole" (j9 E8) (j6 E8) (d5 E8) .none kV23 dc23 pm23 an23 cd23 ct23),sl23⟩)
  (c23:PySem.W.codeIn K cd23 "_law_whole" = true) (k23:PySem.W.keepIn K (.ref f23)=true)
  (a24:PySem.W.nsIn K mainGlobals "_law_other" = some (some (.ref f24)))
  (l24:K.lookup f24=some ⟨oc24,od24,.func (PySem.W.fnOf "_law_other" "_law_other" (j9 F4) (j6 F4) (d5 F4) .none kV24 dc24 pm24 an24 cd24 ct24),sl24⟩)
  (c24:PySem.W.codeIn K cd24 "_law_other" = true) (k24:PySem.W.keepIn K (.ref f24)=true)
  (a25:PySem.W.nsIn K mainGlobals "_law_trim" = some (some (.ref f25)))
  (l25:K.lookup f25=some ⟨oc25,od25,.func (PySem.W.fnOf "_law_trim" "_law_trim" (j9 K4) (j6 K4) (d5 K4) .none kV25 dc25 pm25 an25 cd25 ct25),sl25⟩)
  (c25:PySem.W.codeIn K cd25 "_law_trim" = true) (k25:PySem.W.keepIn K (.ref f25)=true)
  (a26:PySem.W.nsIn K mainGlobals "_law_plus" = some (some (.ref f26)))
  (l26:K.lookup f26=some ⟨oc26,od26,.func (PySem.W.fnOf "_law_plus" "_law_plus" (j9 K8) (j6 K8) (d5 K8) .none kV26 dc26 pm26 an26 cd26 ct26),sl26⟩)
  (c26:PySem.W.codeIn K cd26 "_law_plus" = true) (k26:PySem.W.keepIn K (.ref f26)=true)
  (a27:PySem.W.nsIn K mainGlobals "_law_times" = some (some (.ref f27)))
  (l27:K.lookup f27=some ⟨oc27,od27,.func (PySem.W.fnOf "_law_times" "_law_times" (j9 F3) (j6 F3) (d5 F3) .none kV27 dc27 pm27 an27 cd27 ct27),sl27⟩)
  (c27:PySem.W.codeIn K cd27 "_law_times" = true) (k27:PySem.W.keepIn K (.ref f27)=true)
  (a28:PySem.W.nsIn K mainGlobals "is_below" = some (some (.ref f28)))
  (l28:K.lookup f28=some ⟨oc28,od28,.func (PySem.W.fnOf "is_below" "is_below" (j9 M4) (j6 M4) (d5 M4) .none kV28 dc28 pm28 an28 cd28 ct28),sl28⟩)
  (c28:PySem.W.codeIn K cd28 "is_below" = true) (k28:PySem.W.keepIn K (.ref f28)=true)
  (a29:PySem.W.nsIn K mainGlobals "_law_below" = some (some (.ref f29)))
  (l29:K.lookup f29=some ⟨oc29,od29,.func (PySem.W.fnOf "_law_below" "_law_below" (j9 F5) (j6 F5) (d5 F5) .none kV29 dc29 pm29 an29 cd29 ct29),sl29⟩)
  (c29:PySem.W.codeIn K cd29 "_law_below" = true) (k29:PySem.W.keepIn K (.ref f29)=true)
  (a30:PySem.W.nsIn K mainGlobals "root_count" = some (some (.ref f30)))
  (l30:K.lookup f30=some ⟨oc30,od30,.func (PySem.W.fnOf "root_count" "root_count" (j9 E5) (j6 E5) (d5 E5) .none kV30 dc30 pm30 an30 cd30 ct30),sl30⟩)
  (c30:PySem.W.codeIn K cd30 "root_count" = true) (k30:PySem.W.keepIn K (.ref f30)=true)
  (a31:PySem.W.nsIn K mainGlobals "_law_sign" = some (some (.ref f31)))
  (l31:K.lookup f31=some ⟨oc31,od31,.func (PySem.W.fnOf "_law_sign" "_law_sign" (j9 K5) (j6 K5) (d5 K5) .none kV31 dc31 pm31 an31 cd31 ct31),sl31⟩)
  (c31:PySem.W.codeIn K cd31 "_law_sign" = true) (k31:PySem.W.keepIn K (.ref f31)=true)
  (a32:PySem.W.nsIn K mainGlobals "_law_less" = some (some (.ref f32)))
  (l32:K.lookup f32=some ⟨oc32,od32,.func (PySem.W.fnOf "_law_less" "_law_less" (j9 K9) (j6 K9) (d5 K9) .none kV32 dc32 pm32 an32 cd32 ct32),sl32⟩)
  (c32:PySem.W.codeIn K cd32 "_law_less" = true) (k32:PySem.W.keepIn K (.ref f32)=true)
  (a33:PySem.W.nsIn K mainGlobals "_law_poly_times" = some (some (.ref f33)))
  (l33:K.lookup f33=some ⟨oc33,od33,.func (PySem.W.fnOf "_law_poly_times" "_law_poly_times" (j9 z7) (j6 z7) (d5 z7) .none kV33 dc33 pm33 an33 cd33 ct33),sl33⟩)
  (c33:PySem.W.codeIn K cd33 "_law_poly_times" = true) (k33:PySem.W.keepIn K (.ref f33)=true)
  (a34:PySem.W.nsIn K mainGlobals "_law_above" = some (some (.ref f34)))
  (l34:K.lookup f34=some ⟨oc34,od34,.func (PySem.W.fnOf "_law_above" "_law_above" (j9 F6) (j6 F6) (d5 F6) .none kV34 dc34 pm34 an34 cd34 ct34),sl34⟩)
  (c34:PySem.W.codeIn K cd34 "_law_above" = true) (k34:PySem.W.keepIn K (.ref f34)=true)
  (a35:PySem.W.nsIn K mainGlobals "_law_side" = some (some (.ref f35)))
  (l35:K.lookup f35=some ⟨oc35,od35,.func (PySem.W.fnOf "_law_side" "_law_side" (j9 K6) (j6 K6) (d5 K6) .none kV35 dc35 pm35 an35 cd35 ct35),sl35⟩)
  (c35:PySem.W.codeIn K cd35 "_law_side" = true) (k35:PySem.W.keepIn K (.ref f35)=true)
  (a36:PySem.W.nsIn K mainGlobals "_law_end" = some (some (.ref f36)))
  (l36:K.lookup f36=some ⟨oc36,od36,.func (PySem.W.fnOf "_law_end" "_law_end" (j9 M7) (j6 M7) (d5 M7) .none kV36 dc36 pm36 an36 cd36 ct36),sl36⟩)
  (c36:PySem.W.codeIn K cd36 "_law_end" = true) (k36:PySem.W.keepIn K (.ref f36)=true)
  (a37:PySem.W.nsIn K mainGlobals "_law_due" = some (some (.ref f37)))
  (l37:K.lookup f37=some ⟨oc37,od37,.func (PySem.W.fnOf "_law_due" "_law_due" (j9 M8) (j6 M8) (d5 M8) .none kV37 dc37 pm37 an37 cd37 ct37),sl37⟩)
  (c37:PySem.W.codeIn K cd37 "_law_due" = true) (k37:PySem.W.keepIn K (.ref f37)=true)
  (a38:PySem.W.nsIn K mainGlobals "_law_drawn_seen" = some (some (.ref f38)))
  (l38:K.lookup f38=some ⟨oc38,od38,.func (PySem.W.fnOf "_law_drawn_seen" "_law_drawn_seen" (j9 v5) (j6 v5) (d5 v5) .none kV38 dc38 pm38 an38 cd38 ct38),sl38⟩)
  (c38:PySem.W.codeIn K cd38 "_law_drawn_seen" = true) (k38:PySem.W.keepIn K (.ref f38)=true)
  (a39:PySem.W.nsIn K mainGlobals "_law_which" = some (some (.ref f39)))
  (l39:K.lookup f39=some ⟨oc39,od39,.func (PySem.W.fnOf "_law_which" "_law_which" (j9 E9) (j6 E9) (d5 E9) .none kV39 dc39 pm39 an39 cd39 ct39),sl39⟩)
  (c39:PySem.W.codeIn K cd39 "_law_which" = true) (k39:PySem.W.keepIn K (.ref f39)=true)
  (a40:PySem.W.nsIn K mainGlobals "_law_said" = some (some (.ref f40)))
  (l40:K.lookup f40=some ⟨oc40,od40,.func (PySem.W.fnOf "_law_said" "_law_said" (j9 K7) (j6 K7) (d5 K7) .none kV40 dc40 pm40 an40 cd40 ct40),sl40⟩)
  (c40:PySem.W.codeIn K cd40 "_law_said" = true) (k40:PySem.W.keepIn K (.ref f40)=true)
  (a41:PySem.W.nsIn K mainGlobals "law" = some (some (.ref f41)))
  (l41:K.lookup f41=some ⟨oc41,od41,.func (PySem.W.fnOf "law" "law" (j9 ae3) (j6 ae3) (d5 ae3) .none kV41 dc41 pm41 an41 cd41 ct41),sl41⟩)
  (c41:PySem.W.codeIn K cd41 "law" = true) (k41:PySem.W.keepIn K (.ref f41)=true)
  (z_ValueError:PySem.W.nsIn K mainGlobals "ValueError" = some none)
  (z_abs:PySem.W.nsIn K mainGlobals "abs" = some none)
  (z_bool:PySem.W.nsIn K mainGlobals "bool" = some none)
  (z_enumerate:PySem.W.nsIn K mainGlobals "enumerate" = some none)
  (z_int:PySem.W.nsIn K mainGlobals "int" = some none)
  (z_isinstance:PySem.W.nsIn K mainGlobals "isinstance" = some none)
  (z_len:PySem.W.nsIn K mainGlobals "len" = some none)
  (z_list:PySem.W.nsIn K mainGlobals "list" = some none)
  (z_max:PySem.W.nsIn K mainGlobals "max" = some none)
  (z_min:PySem.W.nsIn K mainGlobals "min" = some none)
  (z_range:PySem.W.nsIn K mainGlobals "range" = some none)
  (z_reversed:PySem.W.nsIn K mainGlobals "reversed" = some none)
  (y_SHORT:PySem.W.nsIn K mainGlobals "SHORT" = some (some (.int 6000 t_SHORT)))
  (y_ONE:PySem.W.nsIn K mainGlobals "ONE" = some (some (.ref A_ONE)))
  (u_ONE:K.lookup A_ONE=some ⟨.type "tuple",td_ONE,.seq #[.int 1 tt0_ONE,.int 1 tt1_ONE] tn_ONE,ts_ONE⟩)
  (m_NoFraction:PySem.W.nsIn K mainGlobals "NoFraction" = some (some (.ref C_NoFraction)))
  (x_NoFraction:PySem.W.excIn K C_NoFraction [.type "ValueError",.type "Exception",.type "BaseException",.type "object"] "ValueError.__new__" = true)
  (e_NoFraction:D9 K C_NoFraction)
  (m_NoPolynomial:PySem.W.nsIn K mainGlobals "NoPolynomial" = some (some (.ref C_NoPolynomial)))
  (x_NoPolynomial:PySem.W.excIn K C_NoPolynomial [.type "ValueError",.type "Exception",.type "BaseException",.type "object"] "ValueError.__new__" = true)
  (e_NoPolynomial:D9 K C_NoPolynomial)
  (m_NoStretch:PySem.W.nsIn K mainGlobals "NoStretch" = some (some (.ref C_NoStretch)))
  (x_NoStretch:PySem.W.excIn K C_NoStretch [.type "ValueError",.type "Exception",.type "BaseException",.type "object"] "ValueError.__new__" = true)
  (e_NoStretch:D9 K C_NoStretch)
  (m_NoRow:PySem.W.nsIn K mainGlobals "NoRow" = some (some (.ref C_NoRow)))
  (x_NoRow:PySem.W.excIn K C_NoRow [.type "ValueError",.type "Exception",.type "BaseException",.type "object"] "ValueError.__new__" = true)
  (e_NoRow:D9 K C_NoRow)
  (m_NoPair:PySem.W.nsIn K mainGlobals "NoPair" = some (some (.ref C_NoPair)))
  (x_NoPair:PySem.W.excIn K C_NoPair [.type "ValueError",.type "Exception",.type "BaseException",.type "object"] "ValueError.__new__" = true)
  (e_NoPair:D9 K C_NoPair)
  (m_NoBack:PySem.W.nsIn K mainGlobals "NoBack" = some (some (.ref C_NoBack)))
  (x_NoBack:PySem.W.excIn K C_NoBack [.type "ValueError",.type "Exception",.type "BaseException",.type "object"] "ValueError.__new__" = true)
  (e_NoBack:D9 K C_NoBack)
  (m_NoForm:PySem.W.nsIn K mainGlobals "NoForm" = some (some (.ref C_NoForm)))
  (x_NoForm:PySem.W.excIn K C_NoForm [.type "ValueError",.type "Exception",.type "BaseException",.type "object"] "ValueError.__new__" = true)
  (e_NoForm:D9 K C_NoForm)
  (m_NoParts:PySem.W.nsIn K mainGlobals "NoParts" = some (some (.ref C_NoParts)))
  (x_NoParts:PySem.W.excIn K C_NoParts [.type "ValueError",.type "Exception",.type "BaseException",.type "object"] "ValueError.__new__" = true)
  (e_NoParts:D9 K C_NoParts)
  (m_NoDegree:PySem.W.nsIn K mainGlobals "NoDegree" = some (some (.ref C_NoDegree)))
  (x_NoDegree:PySem.W.excIn K C_NoDegree [.type "ValueError",.type "Exception",.type "BaseException",.type "object"] "ValueError.__new__" = true)
  (e_NoDegree:D9 K C_NoDegree)
  (m_NoSteps:PySem.W.nsIn K mainGlobals "NoSteps" = some (some (.ref C_NoSteps)))
  (x_NoSteps:PySem.W.excIn K C_NoSteps [.type "ValueError",.type "Exception",.type "BaseException",.type "object"] "ValueError.__new__" = true)
  (e_NoSteps:D9 K C_NoSteps)
  (m_NoBox:PySem.W.nsIn K mainGlobals "NoBox" = some (some (.ref C_NoBox)))
  (x_NoBox:PySem.W.excIn K C_NoBox [.type "ValueError",.type "Exception",.type "BaseException",.type "object"] "ValueError.__new__" = true)
  (e_NoBox:D9 K C_NoBox)
  (m_NoGain:PySem.W.nsIn K mainGlobals "NoGain" = some (some (.ref C_NoGain)))
  (x_NoGain:PySem.W.excIn K C_NoGain [.type "ValueError",.type "Exception",.type "BaseException",.type "object"] "ValueError.__new__" = true)
  (e_NoGain:D9 K C_NoGain)
  (m_NoText:PySem.W.nsIn K mainGlobals "NoText" = some (some (.ref C_NoText)))
  (x_NoText:PySem.W.excIn K C_NoText [.type "ValueError",.type "Exception",.type "BaseException",.type "object"] "ValueError.__new__" = true)
  (e_NoText:D9 K C_NoText)
  (m_NoLine:PySem.W.nsIn K mainGlobals "NoLine" = some (some (.ref C_NoLine)))
  (x_NoLine:PySem.W.excIn K C_NoLine [.type "ValueError",.type "Exception",.type "BaseException",.type "object"] "ValueError.__new__" = true)
  (e_NoLine:D9 K C_NoLine)
  (m_NoName:PySem.W.nsIn K mainGlobals "NoName" = some (some (.ref C_NoName)))
  (x_NoName:PySem.W.excIn K C_NoName [.type "ValueError",.type "Exception",.type "BaseException",.type "object"] "ValueError.__new__" = true)
  (e_NoName:D9 K C_NoName)
  (m_NoDeed:PySem.W.nsIn K mainGlobals "NoDeed" = some (some (.ref C_NoDeed)))
  (x_NoDeed:PySem.W.excIn K C_NoDeed [.type "ValueError",.type "Exception",.type "BaseException",.type "object"] "ValueError.__new__" = true)
  (e_NoDeed:D9 K C_NoDeed)
  (m_RestError:PySem.W.nsIn K mainGlobals "RestError" = some (some (.ref C_RestError)))
  (x_RestError:PySem.W.excIn K C_RestError [.type "ValueError",.type "Exception",.type "BaseException",.type "object"] "ValueError.__new__" = true)
  (e_RestError:D9 K C_RestError)
  (kt_NoPolynomial:bj6 K (⟨C_NoFraction,C_NoPolynomial,C_NoStretch,C_NoRow,C_NoPair,C_NoBack,C_NoForm,C_NoParts,C_NoDegree,C_NoSteps,C_NoBox,C_NoGain,C_NoText,C_NoLine,C_NoName,C_NoDeed,C_RestError⟩:CAd) C_NoPolynomial 1)
  (kt_NoStretch:bj6 K (⟨C_NoFraction,C_NoPolynomial,C_NoStretch,C_NoRow,C_NoPair,C_NoBack,C_NoForm,C_NoParts,C_NoDegree,C_NoSteps,C_NoBox,C_NoGain,C_NoText,C_NoLine,C_NoName,C_NoDeed,C_RestError⟩:CAd) C_NoStretch 2) :
  ∃ fd:FuncData,(∀ (s:Shared) (v:Value),BindsTo s fd ⟨[v],[]⟩ [("_law_script",v)])∧∀ base:Heap,K.In base→base.Ns mainGlobals mg→ai9 l.prog w K mg base CX0 7 fa fd ["_law_script"] (aP8 K):=by
 have e:=hfa.symm.trans (PySem.W.mg_of X G a41)
 cases e
 have F_changes_of:=t5 (st:=E7) l0 c0 k0
 have b_changes_of:=F_changes_of.binds (ps:=["signs"]) fun _ _ _ _ _ _ us hl=>match us,hl with | [_],_=>rfl
 have d_changes_of:Df K mg "changes_of" E7 ["signs"] f0:=⟨⟨_,F_changes_of,b_changes_of⟩,PySem.W.mg_of X G a0⟩
 have F_common_divisor:=t5 (st:=B1) l1 c1 k1
 have b_common_divisor:=F_common_divisor.binds (ps:=["one","other"]) fun _ _ _ _ _ _ us hl=>match us,hl with | [_,_],_=>rfl
 have d_common_divisor:Df K mg "common_divisor" B1 ["one","other"] f1:=⟨⟨_,F_common_divisor,b_common_divisor⟩,PySem.W.mg_of X G a1⟩
 have F_content_of:=t5 (st:=E6) l2 c2 k2
 have b_content_of:=F_content_of.binds (ps:=["wholes"]) fun _ _ _ _ _ _ us hl=>match us,hl with | [_],_=>rfl
 have d_content_of:Df K mg "content_of" E6 ["wholes"] f2:=⟨⟨_,F_content_of,b_content_of⟩,PySem.W.mg_of X G a2⟩
 have F_cleared:=t5 (st:=N3) l3 c3 k3
 have b_cleared:=F_cleared.binds (ps:=["numbers"]) fun _ _ _ _ _ _ us hl=>match us,hl with | [_],_=>rfl
 have d_cleared:Df K mg "cleared" N3 ["numbers"] f3:=⟨⟨_,F_cleared,b_cleared⟩,PySem.W.mg_of X G a3⟩
 have F_lifted:=t5 (st:=Q6) l4 c4 k4
 have b_lifted:=F_lifted.binds (ps:=["p"]) fun _ _ _ _ _ _ us hl=>match us,hl with | [_],_=>rfl
 have d_lifted:Df K mg "lifted" Q6 ["p"] f4:=⟨⟨_,F_lifted,b_lifted⟩,PySem.W.mg_of X G a4⟩
 have F_trimmed:=t5 (st:=P4) l5 c5 k5
 have b_trimmed:=F_trimmed.binds (ps:=["wholes"]) fun _ _ _ _ _ _ us hl=>match us,hl with | [_],_=>rfl
 have d_trimmed:Df K mg "trimmed" P4 ["wholes"] f5:=⟨⟨_,F_trimmed,b_trimmed⟩,PySem.W.mg_of X G a5⟩
 have F_whole_divided:=t5 (st:=x8) l6 c6 k6
 have b_whole_divided:=F_whole_divided.binds (ps:=["one","other"]) fun _ _ _ _ _ _ us hl=>match us,hl with | [_,_],_=>rfl
 have d_whole_divided:Df K mg "whole_divided" x8 ["one","other"] f6:=⟨⟨_,F_whole_divided,b_whole_divided⟩,PySem.W.mg_of X G a6⟩
 have F_whole_scaled:=t5 (st:=B6) l7 c7 k7
 have b_whole_scaled:=F_whole_scaled.binds (ps:=["factor","wholes"]) fun _ _ _ _ _ _ us hl=>match us,hl with | [_,_],_=>rfl
 have d_whole_scaled:Df K mg "whole_scaled" B6 ["factor","wholes"] f7:=⟨⟨_,F_whole_scaled,b_whole_scaled⟩,PySem.W.mg_of X G a7⟩
 have F_whole_over:=t5 (st:=E4) l8 c8 k8
 have b_whole_over:=F_whole_over.binds (ps:=["one","other"]) fun _ _ _ _ _ _ us hl=>match us,hl with | [_,_],_=>rfl
 have d_whole_over:Df K mg "whole_over" E4 ["one","other"] f8:=⟨⟨_,F_whole_over,b_whole_over⟩,PySem.W.mg_of X G a8⟩
 have F_over_content:=t5 (st:=B7) l9 c9 k9
 have b_over_content:=F_over_content.binds (ps:=["wholes"]) fun _ _ _ _ _ _ us hl=>match us,hl with | [_],_=>rfl
 have d_over_content:Df K mg "over_content" B7 ["wholes"] f9:=⟨⟨_,F_over_content,b_over_content⟩,PySem.W.mg_of X G a9⟩
 have F_whole_slope:=t5 (st:=C7) l10 c10 k10
 have b_whole_slope:=F_whole_slope.binds (ps:=["wholes"]) fun _ _ _ _ _ _ us hl=>match us,hl with | [_],_=>rfl
 have d_whole_slope:Df K mg "whole_slope" C7 ["wholes"] f10:=⟨⟨_,F_whole_slope,b_whole_slope⟩,PySem.W.mg_of X G a10⟩
 have F_whole_worth:=t5 (st:=D6) l11 c11 k11
 have b_whole_worth:=F_whole_worth.binds (ps:=["wholes","top","bottom"]) fun _ _ _ _ _ _ us hl=>match us,hl with | [_,_,_],_=>rfl
 have d_whole_worth:Df K mg "whole_worth" D6 ["wholes","top","bottom"] f11:=⟨⟨_,F_whole_worth,b_whole_worth⟩,PySem.W.mg_of X G a11⟩
 have F_sign_of_whole:=t5 (st:=C3) l12 c12 k12
 have b_sign_of_whole:=F_sign_of_whole.binds (ps:=["whole"]) fun _ _ _ _ _ _ us hl=>match us,hl with | [_],_=>rfl
 have d_sign_of_whole:Df K mg "sign_of_whole" C3 ["whole"] f12:=⟨⟨_,F_sign_of_whole,b_sign_of_whole⟩,PySem.W.mg_of X G a12⟩
 have F_sign_at:=t5 (st:=P5) l13 c13 k13
 have b_sign_at:=F_sign_at.binds (ps:=["wholes","top","bottom"]) fun _ _ _ _ _ _ us hl=>match us,hl with | [_,_,_],_=>rfl
 have d_sign_at:Df K mg "sign_at" P5 ["wholes","top","bottom"] f13:=⟨⟨_,F_sign_at,b_sign_at⟩,PySem.W.mg_of X G a13⟩
 have F_changes_at:=t5 (st:=C8) l14 c14 k14
 have b_changes_at:=F_changes_at.binds (ps:=["chain","top","bottom"]) fun _ _ _ _ _ _ us hl=>match us,hl with | [_,_,_],_=>rfl
 have d_changes_at:Df K mg "changes_at" C8 ["chain","top","bottom"] f14:=⟨⟨_,F_changes_at,b_changes_at⟩,PySem.W.mg_of X G a14⟩
 have F_changes_above_all:=t5 (st:=v3) l15 c15 k15
 have b_changes_above_all:=F_changes_above_all.binds (ps:=["chain"]) fun _ _ _ _ _ _ us hl=>match us,hl with | [_],_=>rfl
 have d_changes_above_all:Df K mg "changes_above_all" v3 ["chain"] f15:=⟨⟨_,F_changes_above_all,b_changes_above_all⟩,PySem.W.mg_of X G a15⟩
 have F_changes_below_all:=t5 (st:=v2) l16 c16 k16
 have b_changes_below_all:=F_changes_below_all.binds (ps:=["chain"]) fun _ _ _ _ _ _ us hl=>match us,hl with | [_],_=>rfl
 have d_changes_below_all:Df K mg "changes_below_all" v2 ["chain"] f16:=⟨⟨_,F_changes_below_all,b_changes_below_all⟩,PySem.W.mg_of X G a16⟩
 have F_chain_of:=t5 (st:=K3) l17 c17 k17
 have b_chain_of:=F_chain_of.binds (ps:=["p"]) fun _ _ _ _ _ _ us hl=>match us,hl with | [_],_=>rfl
 have d_chain_of:Df K mg "chain_of" K3 ["p"] f17:=⟨⟨_,F_chain_of,b_chain_of⟩,PySem.W.mg_of X G a17⟩
 have F__law_low:=t5 (st:=M6) l18 c18 k18
 have b__law_low:=F__law_low.binds (ps:=["_law_top","_law_bottom"]) fun _ _ _ _ _ _ us hl=>match us,hl with | [_,_],_=>rfl
 have d__law_low:Df K mg "_law_low" M6 ["_law_top","_law_bottom"] f18:=⟨⟨_,F__law_low,b__law_low⟩,PySem.W.mg_of X G a18⟩
 have F__law_urn:=t5 (st:=M5) l19 c19 k19
 have b__law_urn:=F__law_urn.binds (ps:=["_law_script","_law_at"]) fun _ _ _ _ _ _ us hl=>match us,hl with | [_,_],_=>rfl
 have d__law_urn:Df K mg "_law_urn" M5 ["_law_script","_law_at"] f19:=⟨⟨_,F__law_urn,b__law_urn⟩,PySem.W.mg_of X G a19⟩
 have F__law_draw:=t5 (st:=L5) l20 c20 k20
 have b__law_draw:=F__law_draw.binds (ps:=["_law_urn_here","_law_many"]) fun _ _ _ _ _ _ us hl=>match us,hl with | [_,_],_=>rfl
 have d__law_draw:Df K mg "_law_draw" L5 ["_law_urn_here","_law_many"] f20:=⟨⟨_,F__law_draw,b__law_draw⟩,PySem.W.mg_of X G a20⟩
 have F__law_kind:=t5 (st:=L4) l21 c21 k21
 have b__law_kind:=F__law_kind.binds (ps:=["_law_urn_here"]) fun _ _ _ _ _ _ us hl=>match us,hl with | [_],_=>rfl
 have d__law_kind:Df K mg "_law_kind" L4 ["_law_urn_here"] f21:=⟨⟨_,F__law_kind,b__law_kind⟩,PySem.W.mg_of X G a21⟩
 have F__law_number:=t5 (st:=D8) l22 c22 k22
 have b__law_number:=F__law_number.binds (ps:=["_law_urn_here","_law_kind_here"]) fun _ _ _ _ _ _ us hl=>match us,hl with | [_,_],_=>rfl
 have d__law_number:Df K mg "_law_number" D8 ["_law_urn_here","_law_kind_here"] f22:=⟨⟨_,F__law_number,b__law_number⟩,PySem.W.mg_of X G a22⟩
 have F__law_whole:=t5 (st:=E8) l23 c23 k23
 have b__law_whole:=F__law_whole.binds (ps:=["_law_thing"]) fun _ _ _ _ _ _ us hl=>match us,hl with | [_],_=>rfl
 have d__law_whole:Df K mg "_law_whole" E8 ["_law_thing"] f23:=⟨⟨_,F__law_whole,b__law_whole⟩,PySem.W.mg_of X G a23⟩
 have F__law_other:=t5 (st:=F4) l24 c24 k24
 have b__law_other:=F__law_other.binds (ps:=["_law_urn_here","_law_kind_here"]) fun _ _ _ _ _ _ us hl=>match us,hl with | [_,_],_=>rfl
 have d__law_other:Df K mg "_law_other" F4 ["_law_urn_here","_law_kind_here"] f24:=⟨⟨_,F__law_other,b__law_other⟩,PySem.W.mg_of X G a24⟩
 have F__law_trim:=t5 (st:=K4) l25 c25 k25
 have b__law_trim:=F__law_trim.binds (ps:=["_law_numbers"]) fun _ _ _ _ _ _ us hl=>match us,hl with | [_],_=>rfl
 have d__law_trim:Df K mg "_law_trim" K4 ["_law_numbers"] f25:=⟨⟨_,F__law_trim,b__law_trim⟩,PySem.W.mg_of X G a25⟩
 have F__law_plus:=t5 (st:=K8) l26 c26 k26
 have b__law_plus:=F__law_plus.binds (ps:=["_law_one","_law_other_here"]) fun _ _ _ _ _ _ us hl=>match us,hl with | [_,_],_=>rfl
 have d__law_plus:Df K mg "_law_plus" K8 ["_law_one","_law_other_here"] f26:=⟨⟨_,F__law_plus,b__law_plus⟩,PySem.W.mg_of X G a26⟩
 have F__law_times:=t5 (st:=F3) l27 c27 k27
 have b__law_times:=F__law_times.binds (ps:=["_law_one","_law_other_here"]) fun _ _ _ _ _ _ us hl=>match us,hl with | [_,_],_=>rfl
 have d__law_times:Df K mg "_law_times" F3 ["_law_one","_law_other_here"] f27:=⟨⟨_,F__law_times,b__law_times⟩,PySem.W.mg_of X G a27⟩
 have F_is_below:=t5 (st:=M4) l28 c28 k28
 have b_is_below:=F_is_below.binds (ps:=["one","other"]) fun _ _ _ _ _ _ us hl=>match us,hl with | [_,_],_=>rfl
 have d_is_below:Df K mg "is_below" M4 ["one","other"] f28:=⟨⟨_,F_is_below,b_is_below⟩,PySem.W.mg_of X G a28⟩
 have F__law_below:=t5 (st:=F5) l29 c29 k29
 have b__law_below:=F__law_below.binds (ps:=["_law_one","_law_other_here"]) fun _ _ _ _ _ _ us hl=>match us,hl with | [_,_],_=>rfl
 have d__law_below:Df K mg "_law_below" F5 ["_law_one","_law_other_here"] f29:=⟨⟨_,F__law_below,b__law_below⟩,PySem.W.mg_of X G a29⟩
 have F_root_count:=t5 (st:=E5) l30 c30 k30
 have b_root_count:=F_root_count.binds (ps:=["p","low","high"]) fun _ _ _ _ _ _ us hl=>match us,hl with | [_,_,_],_=>rfl
 have d_root_count:Df K mg "root_count" E5 ["p","low","high"] f30:=⟨⟨_,F_root_count,b_root_count⟩,PySem.W.mg_of X G a30⟩
 have F__law_sign:=t5 (st:=K5) l31 c31 k31
 have b__law_sign:=F__law_sign.binds (ps:=["_law_number_here"]) fun _ _ _ _ _ _ us hl=>match us,hl with | [_],_=>rfl
 have d__law_sign:Df K mg "_law_sign" K5 ["_law_number_here"] f31:=⟨⟨_,F__law_sign,b__law_sign⟩,PySem.W.mg_of X G a31⟩
 have F__law_less:=t5 (st:=K9) l32 c32 k32
 have b__law_less:=F__law_less.binds (ps:=["_law_one","_law_other_here"]) fun _ _ _ _ _ _ us hl=>match us,hl with | [_,_],_=>rfl
 have d__law_less:Df K mg "_law_less" K9 ["_law_one","_law_other_here"] f32:=⟨⟨_,F__law_less,b__law_less⟩,PySem.W.mg_of X G a32⟩
 have F__law_poly_times:=t5 (st:=z7) l33 c33 k33
 have b__law_poly_times:=F__law_poly_times.binds (ps:=["_law_p","_law_q"]) fun _ _ _ _ _ _ us hl=>match us,hl with | [_,_],_=>rfl
 have d__law_poly_times:Df K mg "_law_poly_times" z7 ["_law_p","_law_q"] f33:=⟨⟨_,F__law_poly_times,b__law_poly_times⟩,PySem.W.mg_of X G a33⟩
 have F__law_above:=t5 (st:=F6) l34 c34 k34
 have b__law_above:=F__law_above.binds (ps:=["_law_urn_here","_law_kind_here"]) fun _ _ _ _ _ _ us hl=>match us,hl with | [_,_],_=>rfl
 have d__law_above:Df K mg "_law_above" F6 ["_law_urn_here","_law_kind_here"] f34:=⟨⟨_,F__law_above,b__law_above⟩,PySem.W.mg_of X G a34⟩
 have F__law_side:=t5 (st:=K6) l35 c35 k35
 have b__law_side:=F__law_side.binds (ps:=["_law_c","_law_root"]) fun _ _ _ _ _ _ us hl=>match us,hl with | [_,_],_=>rfl
 have d__law_side:Df K mg "_law_side" K6 ["_law_c","_law_root"] f35:=⟨⟨_,F__law_side,b__law_side⟩,PySem.W.mg_of X G a35⟩
 have F__law_end:=t5 (st:=M7) l36 c36 k36
 have b__law_end:=F__law_end.binds (ps:=["_law_urn_here","_law_kind_here","_law_roots"]) fun _ _ _ _ _ _ us hl=>match us,hl with | [_,_,_],_=>rfl
 have d__law_end:Df K mg "_law_end" M7 ["_law_urn_here","_law_kind_here","_law_roots"] f36:=⟨⟨_,F__law_end,b__law_end⟩,PySem.W.mg_of X G a36⟩
 have F__law_due:=t5 (st:=M8) l37 c37 k37
 have b__law_due:=F__law_due.binds (ps:=["_law_roots","_law_low_here","_law_high"]) fun _ _ _ _ _ _ us hl=>match us,hl with | [_,_,_],_=>rfl
 have d__law_due:Df K mg "_law_due" M8 ["_law_roots","_law_low_here","_law_high"] f37:=⟨⟨_,F__law_due,b__law_due⟩,PySem.W.mg_of X G a37⟩
 have F__law_drawn_seen:=t5 (st:=v5) l38 c38 k38
 have b__law_drawn_seen:=F__law_drawn_seen.binds (ps:=["_law_urn_here","_law_kind_here","_law_room"]) fun _ _ _ _ _ _ us hl=>match us,hl with | [_,_,_],_=>rfl
 have d__law_drawn_seen:Df K mg "_law_drawn_seen" v5 ["_law_urn_here","_law_kind_here","_law_room"] f38:=⟨⟨_,F__law_drawn_seen,b__law_drawn_seen⟩,PySem.W.mg_of X G a38⟩
 have F__law_which:=t5 (st:=E9) l39 c39 k39
 have b__law_which:=F__law_which.binds (ps:=["_law_e"]) fun _ _ _ _ _ _ us hl=>match us,hl with | [_],_=>rfl
 have d__law_which:Df K mg "_law_which" E9 ["_law_e"] f39:=⟨⟨_,F__law_which,b__law_which⟩,PySem.W.mg_of X G a39⟩
 have F__law_said:=t5 (st:=K7) l40 c40 k40
 have b__law_said:=F__law_said.binds (ps:=["_law_p","_law_low_here","_law_high"]) fun _ _ _ _ _ _ us hl=>match us,hl with | [_,_,_],_=>rfl
 have d__law_said:Df K mg "_law_said" K7 ["_law_p","_law_low_here","_law_high"] f40:=⟨⟨_,F__law_said,b__law_said⟩,PySem.W.mg_of X G a40⟩
 have F_law:=t5 (st:=ae3) l41 c41 k41
 have b_law:=F_law.binds (ps:=["_law_script"]) fun _ _ _ _ _ _ us hl=>match us,hl with | [_],_=>rfl
 have d_law:Df K mg "law" ae3 ["_law_script"] fa:=⟨⟨_,F_law,b_law⟩,PySem.W.mg_of X G a41⟩
 have n_ValueError:=PySem.W.mg_none_of X G z_ValueError
 have n_abs:=PySem.W.mg_none_of X G z_abs
 have n_bool:=PySem.W.mg_none_of X G z_bool
 have n_enumerate:=PySem.W.mg_none_of X G z_enumerate
 have n_int:=PySem.W.mg_none_of X G z_int
 have n_isinstance:=PySem.W.mg_none_of X G z_isinstance
 have n_len:=PySem.W.mg_none_of X G z_len
 have n_list:=PySem.W.mg_none_of X G z_list
 have n_max:=PySem.W.mg_none_of X G z_max
 have n_min:=PySem.W.mg_none_of X G z_min
 have n_range:=PySem.W.mg_none_of X G z_range
 have n_reversed:=PySem.W.mg_none_of X G z_reversed
 have c_SHORT:=PySem.W.mg_of X G y_SHORT
 have c_ONE:=PySem.W.mg_of X G y_ONE
 have t_ONE:∀ H:Hp,SqT K H A_ONE [.int 1,.int 1]:=fun H=>.inr ⟨_,_,_,u_ONE,rfl,rfl,(show 2≤sizeLine by decide),(.cons ⟨_,rfl⟩ (.cons ⟨_,rfl⟩ .nil))⟩
 have X_NoFraction:ExT K mg "NoFraction" C_NoFraction:=⟨PySem.W.mg_of X G m_NoFraction,⟨x_NoFraction⟩,e_NoFraction⟩
 have X_NoPolynomial:ExT K mg "NoPolynomial" C_NoPolynomial:=⟨PySem.W.mg_of X G m_NoPolynomial,⟨x_NoPolynomial⟩,e_NoPolynomial⟩
 have X_NoStretch:ExT K mg "NoStretch" C_NoStretch:=⟨PySem.W.mg_of X G m_NoStretch,⟨x_NoStretch⟩,e_NoStretch⟩
 have X_NoRow:ExT K mg "NoRow" C_NoRow:=⟨PySem.W.mg_of X G m_NoRow,⟨x_NoRow⟩,e_NoRow⟩
 have X_NoPair:ExT K mg "NoPair" C_NoPair:=⟨PySem.W.mg_of X G m_NoPair,⟨x_NoPair⟩,e_NoPair⟩
 have X_NoBack:ExT K mg "NoBack" C_NoBack:=⟨PySem.W.mg_of X G m_NoBack,⟨x_NoBack⟩,e_NoBack⟩
 have X_NoForm:ExT K mg "NoForm" C_NoForm:=⟨PySem.W.mg_of X G m_NoForm,⟨x_NoForm⟩,e_NoForm⟩
 have X_NoParts:ExT K mg "NoParts" C_NoParts:=⟨PySem.W.mg_of X G m_NoParts,⟨x_NoParts⟩,e_NoParts⟩
 have X_NoDegree:ExT K mg "NoDegree" C_NoDegree:=⟨PySem.W.mg_of X G m_NoDegree,⟨x_NoDegree⟩,e_NoDegree⟩
 have X_NoSteps:ExT K mg "NoSteps" C_NoSteps:=⟨PySem.W.mg_of X G m_NoSteps,⟨x_NoSteps⟩,e_NoSteps⟩
 have X_NoBox:ExT K mg "NoBox" C_NoBox:=⟨PySem.W.mg_of X G m_NoBox,⟨x_NoBox⟩,e_NoBox⟩
 have X_NoGain:ExT K mg "NoGain" C_NoGain:=⟨PySem.W.mg_of X G m_NoGain,⟨x_NoGain⟩,e_NoGain⟩
 have X_NoText:ExT K mg "NoText" C_NoText:=⟨PySem.W.mg_of X G m_NoText,⟨x_NoText⟩,e_NoText⟩
 have X_NoLine:ExT K mg "NoLine" C_NoLine:=⟨PySem.W.mg_of X G m_NoLine,⟨x_NoLine⟩,e_NoLine⟩
 have X_NoName:ExT K mg "NoName" C_NoName:=⟨PySem.W.mg_of X G m_NoName,⟨x_NoName⟩,e_NoName⟩
 have X_NoDeed:ExT K mg "NoDeed" C_NoDeed:=⟨PySem.W.mg_of X G m_NoDeed,⟨x_NoDeed⟩,e_NoDeed⟩
 have X_RestError:ExT K mg "RestError" C_RestError:=⟨PySem.W.mg_of X G m_RestError,⟨x_RestError⟩,e_RestError⟩
 have XX:XTx K mg (⟨C_NoFraction,C_NoPolynomial,C_NoStretch,C_NoRow,C_NoPair,C_NoBack,C_NoForm,C_NoParts,C_NoDegree,C_NoSteps,C_NoBox,C_NoGain,C_NoText,C_NoLine,C_NoName,C_NoDeed,C_RestError⟩:CAd):=⟨X_NoFraction,X_NoPolynomial,X_NoStretch,X_NoRow,X_NoPair,X_NoBack,X_NoForm,X_NoParts,X_NoDegree,X_NoSteps,X_NoBox,X_NoGain,X_NoText,X_NoLine,X_NoName,X_NoDeed⟩
 refine ⟨PySem.W.fnOf "law" "law" (j9 ae3) (j6 ae3) (d5 ae3) .none kV41 dc41 pm41 an41 cd41 ct41,fun s v=>.of_eq rfl,fun base _ _=>?_⟩
 have G_changes_of:=au7 (P:=l.prog) (w:=w) (base:=base) d_changes_of
 have G_common_divisor:=ah4 (P:=l.prog) (w:=w) (base:=base) d_common_divisor ⟨_,c_SHORT⟩ n_abs
 have G_content_of:=au6 (P:=l.prog) (w:=w) (base:=base) d_content_of G_common_divisor
 have G_cleared:=aM4 (P:=l.prog) (w:=w) (base:=base) d_cleared G_common_divisor
 have GP_lifted:=aM5 (P:=l.prog) (w:=w) (base:=base) d_lifted G_cleared G_content_of c_ONE t_ONE
 have G_trimmed:=aM2 (P:=l.prog) (w:=w) (base:=base) d_trimmed n_len
 have GD_whole_divided:=ah5 (P:=l.prog) (w:=w) (base:=base) d_whole_divided G_trimmed n_len n_max n_list n_abs n_enumerate
 have G_whole_scaled:=am6 (P:=l.prog) (w:=w) (base:=base) d_whole_scaled G_trimmed
 have G_over_content:=am7 (P:=l.prog) (w:=w) (base:=base) d_over_content G_content_of n_list
 have G_whole_slope:=aq7 (P:=l.prog) (w:=w) (base:=base) d_whole_slope n_len n_range
 have G_whole_worth:=aq6 (P:=l.prog) (w:=w) (base:=base) d_whole_worth n_reversed
 have G_sign_of_whole:=aj7 (P:=l.prog) (w:=w) (base:=base) d_sign_of_whole
 have G_sign_at:=aM3 (P:=l.prog) (w:=w) (base:=base) d_sign_at G_sign_of_whole G_whole_worth
 have G_changes_at:=au8 (P:=l.prog) (w:=w) (base:=base) d_changes_at G_changes_of G_sign_at
 have G_changes_above_all:=ab7 (P:=l.prog) (w:=w) (base:=base) d_changes_above_all G_changes_of
 have G_changes_below_all:=ab6 (P:=l.prog) (w:=w) (base:=base) d_changes_below_all G_changes_of n_len
 have GD_whole_over:=aq9 (P:=l.prog) (w:=w) (base:=base) d_whole_over GD_whole_divided
 have G_chain_of:=aH8 (P:=l.prog) (w:=w) (base:=base) d_chain_of GP_lifted G_over_content G_whole_slope GD_whole_divided G_whole_scaled GD_whole_over
 have G__law_low:=aI0 (P:=l.prog) (w:=w) (base:=base) d__law_low n_abs
 have G__law_urn:=aH9 (P:=l.prog) (w:=w) (base:=base) d__law_urn n_len n_abs
 have G__law_draw:=aD5 (P:=l.prog) (w:=w) (base:=base) d__law_draw
 have G__law_kind:=aD4 (P:=l.prog) (w:=w) (base:=base) d__law_kind G__law_draw
 have G__law_whole:=au9 (P:=l.prog) (w:=w) (base:=base) d__law_whole n_isinstance n_int n_bool
 have G__law_trim:=aC8 (P:=l.prog) (w:=w) (base:=base) d__law_trim n_list
 have G__law_plus:=aD2 (P:=l.prog) (w:=w) (base:=base) d__law_plus G__law_low
 have G__law_times:=av1 (P:=l.prog) (w:=w) (base:=base) d__law_times G__law_low
 have G_is_below:=aH7 (P:=l.prog) (w:=w) (base:=base) d_is_below
 have G__law_below:=av2 (P:=l.prog) (w:=w) (base:=base) d__law_below
 have G_root_count:=au5 (P:=l.prog) (w:=w) (base:=base) d_root_count G_is_below G_chain_of G_changes_below_all G_changes_above_all G_changes_at X_NoPolynomial X_NoStretch
 have G__law_sign:=aC9 (P:=l.prog) (w:=w) (base:=base) d__law_sign n_int
 have G__law_less:=aD3 (P:=l.prog) (w:=w) (base:=base) d__law_less G__law_low
 have G__law_poly_times:=af3 (P:=l.prog) (w:=w) (base:=base) d__law_poly_times G__law_plus G__law_times G__law_trim n_len n_enumerate
 have GP__law_number:=am8 (P:=l.prog) (w:=w) (base:=base) d__law_number G__law_draw G__law_low n_int
 have GP__law_other:=aq8 (P:=l.prog) (w:=w) (base:=base) d__law_other G__law_draw GP__law_number
 have G__law_above:=av3 (P:=l.prog) (w:=w) (base:=base) d__law_above GP__law_other n_abs
 have G__law_side:=aD0 (P:=l.prog) (w:=w) (base:=base) d__law_side G__law_less G__law_sign G__law_times
 have G__law_end:=aI1 (P:=l.prog) (w:=w) (base:=base) d__law_end G__law_draw GP__law_number G__law_plus n_len
 have G__law_due:=aI2 (P:=l.prog) (w:=w) (base:=base) d__law_due G__law_side n_int
 have G__law_drawn_seen:=af4 (P:=l.prog) (w:=w) (base:=base) d__law_drawn_seen G__law_draw GP__law_number GP__law_other G__law_above G__law_poly_times G__law_less G__law_times G__law_plus G__law_below n_range n_len
 have G__law_which:=av0 (P:=l.prog) (w:=w) (base:=base) d__law_which XX n_isinstance n_ValueError
 have G__law_said:=aD1 (P:=l.prog) (w:=w) (base:=base) d__law_said G_root_count G__law_which X_RestError kt_NoPolynomial kt_NoStretch
 exact bx1 (P:=l.prog) (w:=w) (base:=base) F_law G__law_urn G__law_kind G__law_drawn_seen G__law_end G__law_due G__law_below G__law_said G__law_whole n_range n_max n_min n_len n_list
end
theorem bE8 {l:PySem.W.OpenLaw} {q:Program} {loose:List Str} {XP:(Str→Option Value)→Heap→Prop} {YP:World→Heap→Prop} {d:DefRec} {K:Params→PySem.W.Frag} (hn:l.most=some 63) (hdf:d.params.defaults=[])
  (hY:∀ (w:World) (h:Heap),YP w h→(K w.params).In h)
  (F:∀ (w:World) (mg:Str→Option Value) (fa:Addr) (h:Heap),(K w.params).In h→h.Ns mainGlobals mg→mg d.name=some (.ref fa) →
   ∃ fd:FuncData,(∀ (s:Shared) (u:Value),BindsTo s fd ⟨[u],[]⟩ [("_law_script",u)])∧∀ base:Heap,(K w.params).In base→base.Ns mainGlobals mg→ai9 l.prog w (K w.params) mg base CX0 7 fa fd ["_law_script"] (aP8 (K w.params))) :
  PySem.W.WalkO q loose XP YP l.row.toRowW d [] (fun f vs=>PySem.call f vs) :=
 L2.aP0 (n:=63) (k:=7) (x := "_law_script") (CX:=fun _=>CX0) (sp:=fun w=>aP8 (K w.params)) hn (by decide) hdf ⟨rfl,by decide,by decide⟩ hY F (fun _ _ a ns hl _ hS=>⟨a,ns,rfl,hS,hl,fun _=>rfl⟩) fun _ _ _ _ _ z=>z
end R
open PySem PySem.W PyProof.Rows
set_option maxRecDepth 100000 in
set_option maxHeartbeats 0 in
theorem PySem.Challenge.cw_restward_k10_roots_counted_holds : PySem.Challenge.rw_restward_k10_roots_counted.Holds := by
  w_on; o_law; k_head; (case hw => w_witness2)
  k_fill
  refine R.bE8 (l := PySem.Challenge.rw_restward_k10_roots_counted) rfl rfl (fun w h Y => PySem.W.kIn_of Y) ?F
  case F =>
    intro w mg fa h KX G hmg
    refine' R.bB2 KX G hmg ?a0 ?l0 ?c0 ?k0 ?a1 ?l1 ?c1 ?k1 ?a2 ?l2 ?c2 ?k2 ?a3 ?l3 ?c3 ?k3 ?a4 ?l4 ?c4 ?k4 ?a5 ?l5 ?c5 ?k5 ?a6 ?l6 ?c6 ?k6 ?a7 ?l7 ?c7 ?k7 ?a8 ?l8 ?c8 ?k8 ?a9 ?l9 ?c9 ?k9 ?a10 ?l10 ?c10 ?k10 ?a11 ?l11 ?c11 ?k11 ?a12 ?l12 ?c12 ?k12 ?a13 ?l13 ?c13 ?k13 ?a14 ?l14 ?c14 ?k14 ?a15 ?l15 ?c15 ?k15 ?a16 ?l16 ?c16 ?k16 ?a17 ?l17 ?c17 ?k17 ?a18 ?l18 ?c18 ?k18 ?a19 ?l19 ?c19 ?k19 ?a20 ?l20 ?c20 ?k20 ?a21 ?l21 ?c21 ?k21 ?a22 ?l22 ?c22 ?k22 ?a23 ?l23 ?c23 ?k23 ?a24 ?l24 ?c24 ?k24 ?a25 ?l25 ?c25 ?k25 ?a26 ?l26 ?c26 ?k26 ?a27 ?l27 ?c27 ?k27 ?a28 ?l28 ?c28 ?k28 ?a29 ?l29 ?c29 ?k29 ?a30 ?l30 ?c30 ?k30 ?a31 ?l31 ?c31 ?k31 ?a32 ?l32 ?c32 ?k32 ?a33 ?l33 ?c33 ?k33 ?a34 ?l34 ?c34 ?k34 ?a35 ?l35 ?c35 ?k35 ?a36 ?l36 ?c36 ?k36 ?a37 ?l37 ?c37 ?k37 ?a38 ?l38 ?c38 ?k38 ?a39 ?l39 ?c39 ?k39 ?a40 ?l40 ?c40 ?k40 ?a41 ?l41 ?c41 ?k41 ?z_ValueError ?z_abs ?z_bool ?z_enumerate ?z_int ?z_isinstance ?z_len ?z_list ?z_max ?z_min ?z_range ?z_reversed ?y_SHORT ?y_ONE ?u_ONE ?m_NoFraction ?x_NoFraction ?e_NoFraction ?m_NoPolynomial ?x_NoPolynomial ?e_NoPolynomial ?m_NoStretch ?x_NoStretch ?e_NoStretch ?m_NoRow ?x_NoRow ?e_NoRow ?m_NoPair ?x_NoPair ?e_NoPair ?m_NoBack ?x_NoBack ?e_NoBack ?m_NoForm ?x_NoForm ?e_NoForm ?m_NoParts ?x_NoParts ?e_NoParts ?m_NoDegree ?x_NoDegree ?e_NoDegree ?m_NoSteps ?x_NoSteps ?e_NoSteps ?m_NoBox ?x_NoBox ?e_NoBox ?m_NoGain ?x_NoGain ?e_NoGain ?m_NoText ?x_NoText ?e_NoText ?m_NoLine ?x_NoLine ?e_NoLine ?m_NoName ?x_NoName ?e_NoName ?m_NoDeed ?x_NoDeed ?e_NoDeed ?m_RestError ?x_RestError ?e_RestError ?kt_NoPolynomial ?kt_NoStretch
    (case a0 => k_is); (case l0 => k_is); (case c0 => k_is); (case k0 => k_is)
    (case a1 => k_is); (case l1 => k_is); (case c1 => k_is); (case k1 => k_is)
    (case a2 => k_is); (case l2 => k_is); (case c2 => k_is); (case k2 => k_is)
    (case a3 => k_is); (case l3 => k_is); (case c3 => k_is); (case k3 => k_is)
    (case a4 => k_is); (case l4 => k_is); (case c4 => k_is); (case k4 => k_is)
    (case a5 => k_is); (case l5 => k_is); (case c5 => k_is); (case k5 => k_is)
    (case a6 => k_is); (case l6 => k_is); (case c6 => k_is); (case k6 => k_is)
    (case a7 => k_is); (case l7 => k_is); (case c7 => k_is); (case k7 => k_is)
    (case a8 => k_is); (case l8 => k_is); (case c8 => k_is); (case k8 => k_is)
    (case a9 => k_is); (case l9 => k_is); (case c9 => k_is); (case k9 => k_is)
    (case a10 => k_is); (case l10 => k_is); (case c10 => k_is); (case k10 => k_is)
    (case a11 => k_is); (case l11 => k_is); (case c11 => k_is); (case k11 => k_is)
    (case a12 => k_is); (case l12 => k_is); (case c12 => k_is); (case k12 => k_is)
    (case a13 => k_is); (case l13 => k_is); (case c13 => k_is); (case k13 => k_is)
    (case a14 => k_is); (case l14 => k_is); (case c14 => k_is); (case k14 => k_is)
    (case a15 => k_is); (case l15 => k_is); (case c15 => k_is); (case k15 => k_is)
    (case a16 => k_is); (case l16 => k_is); (case c16 => k_is); (case k16 => k_is)
    (case a17 => k_is); (case l17 => k_is); (case c17 => k_is); (case k17 => k_is)
    (case a18 => k_is); (case l18 => k_is); (case c18 => k_is); (case k18 => k_is)
    (case a19 => k_is); (case l19 => k_is); (case c19 => k_is); (case k19 => k_is)
    (case a20 => k_is); (case l20 => k_is); (case c20 => k_is); (case k20 => k_is)
    (case a21 => k_is); (case l21 => k_is); (case c21 => k_is); (case k21 => k_is)
    (case a22 => k_is); (case l22 => k_is); (case c22 => k_is); (case k22 => k_is)
    (case a23 => k_is); (case l23 => k_is); (case c23 => k_is); (case k23 => k_is)
    (case a24 => k_is); (case l24 => k_is); (case c24 => k_is); (case k24 => k_is)
    (case a25 => k_is); (case l25 => k_is); (case c25 => k_is); (case k25 => k_is)
    (case a26 => k_is); (case l26 => k_is); (case c26 => k_is); (case k26 => k_is)
    (case a27 => k_is); (case l27 => k_is); (case c27 => k_is); (case k27 => k_is)
    (case a28 => k_is); (case l28 => k_is); (case c28 => k_is); (case k28 => k_is)
    (case a29 => k_is); (case l29 => k_is); (case c29 => k_is); (case k29 => k_is)
    (case a30 => k_is); (case l30 => k_is); (case c30 => k_is); (case k30 => k_is)
    (case a31 => k_is); (case l31 => k_is); (case c31 => k_is); (case k31 => k_is)
    (case a32 => k_is); (case l32 => k_is); (case c32 => k_is); (case k32 => k_is)
    (case a33 => k_is); (case l33 => k_is); (case c33 => k_is); (case k33 => k_is)
    (case a34 => k_is); (case l34 => k_is); (case c34 => k_is); (case k34 => k_is)
    (case a35 => k_is); (case l35 => k_is); (case c35 => k_is); (case k35 => k_is)
    (case a36 => k_is); (case l36 => k_is); (case c36 => k_is); (case k36 => k_is)
    (case a37 => k_is); (case l37 => k_is); (case c37 => k_is); (case k37 => k_is)
    (case a38 => k_is); (case l38 => k_is); (case c38 => k_is); (case k38 => k_is)
    (case a39 => k_is); (case l39 => k_is); (case c39 => k_is); (case k39 => k_is)
    (case a40 => k_is); (case l40 => k_is); (case c40 => k_is); (case k40 => k_is)
    (case a41 => k_is); (case l41 => k_is); (case c41 => k_is); (case k41 => k_is)
    (case z_ValueError => k_is)
    (case z_abs => k_is)
    (case z_bool => k_is)
    (case z_enumerate => k_is)
    (case z_int => k_is)
    (case z_isinstance => k_is)
    (case z_len => k_is)
    (case z_list => k_is)
    (case z_max => k_is)
    (case z_min => k_is)
    (case z_range => k_is)
    (case z_reversed => k_is)
    (case y_SHORT => k_is)
    (case y_ONE => k_is); (case u_ONE => k_is)
    (case m_NoFraction => k_is); (case x_NoFraction => k_exc); (case e_NoFraction => (refine ⟨?_, ?_, ?_, ?_, ?_, ?_⟩ <;> first | k_is | kernel_rfl))
    (case m_NoPolynomial => k_is); (case x_NoPolynomial => k_exc); (case e_NoPolynomial => (refine ⟨?_, ?_, ?_, ?_, ?_, ?_⟩ <;> first | k_is | kernel_rfl))
    (case m_NoStretch => k_is); (case x_NoStretch => k_exc); (case e_NoStretch => (refine ⟨?_, ?_, ?_, ?_, ?_, ?_⟩ <;> first | k_is | kernel_rfl))
    (case m_NoRow => k_is); (case x_NoRow => k_exc); (case e_NoRow => (refine ⟨?_, ?_, ?_, ?_, ?_, ?_⟩ <;> first | k_is | kernel_rfl))
    (case m_NoPair => k_is); (case x_NoPair => k_exc); (case e_NoPair => (refine ⟨?_, ?_, ?_, ?_, ?_, ?_⟩ <;> first | k_is | kernel_rfl))
    (case m_NoBack => k_is); (case x_NoBack => k_exc); (case e_NoBack => (refine ⟨?_, ?_, ?_, ?_, ?_, ?_⟩ <;> first | k_is | kernel_rfl))
    (case m_NoForm => k_is); (case x_NoForm => k_exc); (case e_NoForm => (refine ⟨?_, ?_, ?_, ?_, ?_, ?_⟩ <;> first | k_is | kernel_rfl))
    (case m_NoParts => k_is); (case x_NoParts => k_exc); (case e_NoParts => (refine ⟨?_, ?_, ?_, ?_, ?_, ?_⟩ <;> first | k_is | kernel_rfl))
    (case m_NoDegree => k_is); (case x_NoDegree => k_exc); (case e_NoDegree => (refine ⟨?_, ?_, ?_, ?_, ?_, ?_⟩ <;> first | k_is | kernel_rfl))
    (case m_NoSteps => k_is); (case x_NoSteps => k_exc); (case e_NoSteps => (refine ⟨?_, ?_, ?_, ?_, ?_, ?_⟩ <;> first | k_is | kernel_rfl))
    (case m_NoBox => k_is); (case x_NoBox => k_exc); (case e_NoBox => (refine ⟨?_, ?_, ?_, ?_, ?_, ?_⟩ <;> first | k_is | kernel_rfl))
    (case m_NoGain => k_is); (case x_NoGain => k_exc); (case e_NoGain => (refine ⟨?_, ?_, ?_, ?_, ?_, ?_⟩ <;> first | k_is | kernel_rfl))
    (case m_NoText => k_is); (case x_NoText => k_exc); (case e_NoText => (refine ⟨?_, ?_, ?_, ?_, ?_, ?_⟩ <;> first | k_is | kernel_rfl))
    (case m_NoLine => k_is); (case x_NoLine => k_exc); (case e_NoLine => (refine ⟨?_, ?_, ?_, ?_, ?_, ?_⟩ <;> first | k_is | kernel_rfl))
    (case m_NoName => k_is); (case x_NoName => k_exc); (case e_NoName => (refine ⟨?_, ?_, ?_, ?_, ?_, ?_⟩ <;> first | k_is | kernel_rfl))
    (case m_NoDeed => k_is); (case x_NoDeed => k_exc); (case e_NoDeed => (refine ⟨?_, ?_, ?_, ?_, ?_, ?_⟩ <;> first | k_is | kernel_rfl))
    (case m_RestError => k_is); (case x_RestError => k_exc); (case e_RestError => (refine ⟨?_, ?_, ?_, ?_, ?_, ?_⟩ <;> first | k_is | kernel_rfl))
    (case kt_NoPolynomial => (refine ⟨?_, ?_, ?_, ?_, ?_, ?_, ?_, ?_, ?_, ?_, ?_, ?_, ?_, ?_, ?_, ?_, ?_, ?_, ?_⟩ <;> first | kernel_rfl | (refine ⟨?_, ?_, ?_, ?_, ?_, ?_⟩ <;> first | k_is | kernel_rfl)))
    (case kt_NoStretch => (refine ⟨?_, ?_, ?_, ?_, ?_, ?_, ?_, ?_, ?_, ?_, ?_, ?_, ?_, ?_, ?_, ?_, ?_, ?_, ?_⟩ <;> first | kernel_rfl | (refine ⟨?_, ?_, ?_, ?_, ?_, ?_⟩ <;> first | k_is | kernel_rfl)))
