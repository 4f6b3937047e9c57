import PyProof.Rows.All
import Wide.All
import OpenK.AllK
import Wide.FinOn
import PyProof.EqAt
import PyProof.EqKinds
import PyProof.TupleCall
import KE.KTryMore
import KE.KIsNot
import PyProof.MeetsStr
import PyProof.Rows.RuleM_int
import PyProof.CompFree
import PyProof.WalksEnum
import PyProof.EnumMake
import PyProof.NeKinds
import PyProof.ConsumeWalk
import PyProof.CompMap
import PyProof.Rows.EqBoolInt
import KE.IntBitsLaws
import PyProof.ZipIter
import PyProof.Rows.ZipGen
import PyProof.MinMaxWalk
import PyProof.WalkInts
import PyProof.Rows.CallKwBuiltin
import PyProof.CompUse
import KE.KRevIter
import PyProof.Rows.Range3
import PyProof.NsDelKeeps
import PyProof.SumAny
import PyProof.TupleIter
import PyProof.WalksMore
import PySem.Challenge.RW_restward_k27_polynomials_from_parts
set_option Elab.async false
set_option linter.all false
-- CHANGE: your row's module here,as the last of these rows
set_option maxRecDepth 100000
namespace L2
open PySem PySem.Spec PyProof.Rows
abbrev Key:=Sum Int Str
def bo3:Key→Value→Bool
 | .inl k,v=>Value.isInt k v
 | .inr x,v=>Value.isStrOf x v
def by4 (w:World):Key→Int
 | .inl k=>hashInt k
 | .inr x=>hashStr w x
theorem E7:∀ {k:Key} {v:Value},bo3 k v=true→(∃ i t,k=Sum.inl i∧v=Value.int i t)∨(∃ x t,k=Sum.inr x∧v=Value.str x t)
 | .inl i,v,h=>by
  obtain ⟨t,e⟩:=Value.isInt_shape (k:=i) (v:=v) h
  exact .inl ⟨i,t,rfl,e⟩
 | .inr x,v,h=>by
  obtain ⟨t,e⟩:=Value.isStrOf_shape (x:=x) (v:=v) h
  exact .inr ⟨x,t,rfl,e⟩
theorem bt4 (a b:Int):decide ((Sum.inl a:Key)=Sum.inl b)=(a == b):=by
 by_cases e:a=b
 ·subst e;simp
 ·have h : ¬ (Sum.inl a:Key)=Sum.inl b:=fun q=>e (Sum.inl.inj q)
  rw [decide_eq_false h]
  exact (beq_eq_false_iff_ne.mpr e).symm
theorem bt1 (a b:Str):decide ((Sum.inr a:Key)=Sum.inr b)=decide (a=b):=by
 by_cases e:a=b
 ·subst e;simp
 ·have h : ¬ (Sum.inr a:Key)=Sum.inr b:=fun q=>e (Sum.inr.inj q)
  rw [decide_eq_false h,decide_eq_false e]
theorem bt3 (a:Int) (b:Str):decide ((Sum.inl a:Key)=Sum.inr b)=false:=decide_eq_false (fun q=>nomatch q)
theorem bt2 (a:Str) (b:Int):decide ((Sum.inr a:Key)=Sum.inl b)=false:=decide_eq_false (fun q=>nomatch q)
def aG9 (prog:Program) (w:World):PySem.KeyKind prog w Key where
 is:=bo3
 hash:=by4 w
 inj:=fun v a b ha hb=>by
  rcases E7 ha with ⟨i,t,rfl,rfl⟩ | ⟨x,t,rfl,rfl⟩
  ·rcases E7 hb with ⟨j,u,rfl,e⟩ | ⟨y,u,rfl,e⟩
   ·injection e with e1 _;rw [e1]
   ·exact nomatch e
  ·rcases E7 hb with ⟨j,u,rfl,e⟩ | ⟨y,u,rfl,e⟩
   ·exact nomatch e
   ·injection e with e1 _;rw [e1]
 byValue:=fun k v h=>by
  rcases E7 h with ⟨i,t,rfl,rfl⟩ | ⟨x,t,rfl,rfl⟩ <;> rfl
 pyHash:=fun hv h=>by
  rcases E7 hv with ⟨i,t,rfl,rfl⟩ | ⟨x,t,rfl,rfl⟩
  ·exact wpAny_pyHash_int h
  ·exact wpAny_pyHash_str h
 eqBool:=fun hu hv h=>by
  rcases E7 hu with ⟨i,t,rfl,rfl⟩ | ⟨x,t,rfl,rfl⟩
  ·rcases E7 hv with ⟨j,u,rfl,rfl⟩ | ⟨y,u,rfl,rfl⟩
   ·rw [bt4] at h;exact wpAny_eqBool_int h
   ·rw [bt3] at h;exact SeqAt.EqAt.int_str i t y u _ _ _ _ h
  ·rcases E7 hv with ⟨j,u,rfl,rfl⟩ | ⟨y,u,rfl,rfl⟩
   ·rw [bt2] at h;exact SeqAt.EqAt.str_int x t j u _ _ _ _ h
   ·rw [bt1] at h;exact wpAny_eqBool_str h
 «strs»:=fun k x t v h=>by
  rcases E7 h with ⟨i,u,rfl,e⟩ | ⟨y,u,rfl,e⟩
  ·exact nomatch e
  ·injection e with e1 _
   subst e1
   cases v <;> rfl
inductive V where
 | non | bl (b:Bool) | int (i:Int) | str (x:Str) | byt (b:Array UInt8) | flt (b:UInt64) | ref (a:Addr) | ty (n:String)
 deriving DecidableEq
def A4:V→Value→Prop
 | .non,u=>u=Value.none
 | .bl b,u=>u=Value.bool b
 | .int i,u=>∃ t,u=Value.int i t
 | .str x,u=>∃ t,u=Value.str x t
 | .byt b,u=>∃ t,u=Value.bytes b t
 | .flt b,u=>∃ t,u=Value.float b t
 | .ref a,u=>u=Value.ref a
 | .ty n,u=>u=Value.type n
abbrev o0:List V→List Value→Prop:=Paired A4
theorem o0.length {xs:List V} {us:List Value} (r:o0 xs us):xs.length=us.length:=Paired.length r
theorem o0.get:∀ {xs:List V} {us:List Value} {i:Nat} {x:V},o0 xs us→xs[i]? = some x→∃ u,us[i]? = some u∧A4 x u
 | _,_,_,_,.nil,e=>by simp at e
 | _,_,0,_,.cons r _,e=>by simp at e;subst e;exact ⟨_,rfl,r⟩
 | _,_,i+1,x,.cons _ t,e=>by
  obtain ⟨u,h1,h2⟩:=o0.get (i:=i) (x:=x) t (by simpa using e)
  exact ⟨u,by simpa using h1,h2⟩
theorem o0.set {x:V} {u:Value} (r:A4 x u):∀ {xs:List V} {us:List Value} (i:Nat),o0 xs us→o0 (xs.set i x) (us.set i u)
 | _,_,_,.nil=>.nil
 | _,_,0,.cons _ t=>.cons r t
 | _,_,i+1,.cons q t=>.cons q (o0.set r i t)
theorem o0.append:∀ {xs ys:List V} {us ws:List Value},o0 xs us→o0 ys ws→o0 (xs++ys) (us++ws)
 | _,_,_,_,.nil,s=>s
 | _,_,_,_,.cons r t,s=>.cons r (o0.append t s)
theorem o0.take:∀ {xs:List V} {us:List Value} (n:Nat),o0 xs us→o0 (xs.take n) (us.take n)
 | _,_,0,_=>.nil
 | _,_,_+1,.nil=>.nil
 | _,_,n+1,.cons r t=>.cons r (o0.take n t)
theorem o0.drop:∀ {xs:List V} {us:List Value} (n:Nat),o0 xs us→o0 (xs.drop n) (us.drop n)
 | _,_,0,r=>r
 | _,_,_+1,.nil=>.nil
 | _,_,n+1,.cons _ t=>o0.drop n t
theorem o0.none_of:∀ {xs:List V} {us:List Value} {i:Nat},o0 xs us→xs[i]? = none→us[i]? = none:=fun {xs us i} r e=>by
 have h1:=r.length
 have h2:xs.length≤i:=List.getElem?_eq_none_iff.mp e
 exact List.getElem?_eq_none_iff.mpr (by lia)
def bv3:Option V→Option Value→Prop
 | some v,some u=>A4 v u
 | none,none=>True
 | _,_=>False
def KV {κ:Type}:List (κ × V)→List (κ × Value)→Prop:=Paired fun (p : κ × V) (q : κ × Value)=>p.1=q.1∧A4 p.2 q.2
def kV:Key→V
 | .inl i=>.int i
 | .inr x=>.str x
inductive HO where
 /-- a list -/
 | lst (xs:List V)
 /-- a tuple (never changes) -/
 | tup (xs:List V)
 /-- a dict whose keys are ints and texts;one whose keys are tuples of ints and texts (the empty one is both) -/
 | dK (kvs:List (Key × V)) | dT (kvs:List (List Key × V))
 /-- a set of ints: its members,its size -/
 | set (S:Int→Bool) (n:Nat)
 /-- an instance of the class at C,its dict at dx,its attributes -/
 | ins (C dx:Addr) (fs:List (Str × V))
 /-- the dict of the instance at x -/
 | own (x:Addr)
 /-- the dict of an exception -/
 | xd (fs:List (Str × V))
 /-- a bound method,f of x -/
 | met (f x:Addr)
 /-- a range object lo,lo+1,.. al8 hi -/
 | rng (lo hi:Int)
 /-- a thing that is known to the object (the script;a dict while a loop walks it): read,never written while it is so -/
 | frz (o:Obj) (u:HO)
 /-- a code object's table -/
 | tbl (ps:Array Value)
 /-- any other thing,by what is true of its one object (a def of one's own: SetO a S n:=HO.ext fun h=>..) -/
 | ext (φ:Heap→Prop)
abbrev Hp:=Addr→Option HO
def upd (H:Hp) (a:Addr) (o:HO):Hp:=fun b=>if b=a then some o else H b
theorem b8 {H:Hp} {a:Addr} {o:HO}:upd H a o a=some o:=by unfold upd;rw [if_pos rfl]
theorem j0 {H:Hp} {a b:Addr} {o:HO} (h:b≠a):upd H a o b=H b:=by unfold upd;rw [if_neg h]
theorem bo2 {H:Hp} {a b:Addr} {o u:HO} (h:H a=some o) (h':H b=some u) (d:o≠u):a≠b:=by
 intro e;subst e;rw [h] at h';exact d (Option.some.inj h')
theorem g9 {H:Hp} {a b:Addr} {o:HO} (h:H a=some o) (h':H b=none):a≠b:=by
 intro e;subst e;rw [h] at h';cases h'
section
variable (P:Program) (w:World)
def G7 (H:Hp) (h:Heap) (a:Addr):HO→Prop
 | .lst xs=>xs.length≤sizeLine∧∃ (its:List Value) (n:Nat),o0 xs its∧h.get? a=some { cls:=.type "list",data:=.seq its.toArray n }
 | .tup xs=>xs.length≤sizeLine∧∃ its:List Value,o0 xs its∧IsTup h a its.toArray
 | .dK kvs=>kvs.length≤sizeLine∧(a == sysModules)=false∧∃ vs,KV kvs vs∧h.DictOf (aG9 P w) a vs
 | .dT kvs=>kvs.length≤sizeLine∧(a == sysModules)=false∧∃ xs:List (List Key × Addr × Value),
   Paired (fun (p:List Key × V) (q:List Key × Addr × Value)=>p.1=q.1∧H q.2.1=some (.tup (p.1.map kV))∧A4 p.2 q.2.2) kvs xs ∧
   ∃ o es ep,h.get? a=some o∧o.ExactDict∧o.data = .dict es ep∧es.toList=xs.map (entryOfKey (tupleKind (aG9 P w)))∧(xs.map (·.1)).Nodup
 | .set S n=>h.SetOf (intKind P w) a S n
 | .ins C dx fs=>H dx=some (.own a)∧fs.length≤1000∧dx≠a∧h.get? a=some (PySem.W.instObj C dx) ∧
   ∃ mA,h.Ns1 dx mA∧(∀ f,bv3 (fs.lookup f) (mA f))∧PySem.Within mA (fs.map (·.1))
 | .own _=>∃ o,h.get? a=some o
 | .xd fs=>∃ mA,h.Ns1 a mA∧∀ f,bv3 (fs.lookup f) (mA f)
 | .rng lo hi=>∃ t u v,h.get? a=some { cls:=.type "range",data:=.fields #[.int lo t,.int hi u,.int 1 v] }
 | .frz o u=>h.get? a=some o∧G7 H h a u
 | .tbl ps=>h.get? a=some { cls:=.none,data:=.fields ps }
 | .met f x=>h.get? a=some (PySem.W.methodObj (.ref f) (.ref x))
 | .ext φ=>φ h∧(∃ o,h.get? a=some o)∧∀ h1 h2:Heap,φ h1→(∀ o,h1.get? a=some o→h2.get? a=some o)→φ h2
def HOk (H:Hp) (h:Heap):Prop:=∀ a o,H a=some o→G7 P w H h a o
end
section
variable {P:Program} {w:World} {H H':Hp} {h h':Heap} {a:Addr} {o:HO}
theorem G7.lt (x:G7 P w H h a o):a<h.objs.size:=by
 cases o with
 | lst xs=>obtain ⟨_,_,_,_,e⟩:=x;exact Heap.lt_size e
 | tup xs=>obtain ⟨_,_,_,p⟩:=x;exact p.lt
 | dK kvs=>obtain ⟨_,_,_,_,o,_,_,e,_⟩:=x;exact Heap.lt_size e
 | dT kvs=>obtain ⟨_,_,_,_,o,_,_,e,_⟩:=x;exact Heap.lt_size e
 | set S n=>obtain ⟨o,_,_,_,e,_⟩:=x;exact Heap.lt_size e
 | ins C dx fs=>obtain ⟨_,_,_,e,_⟩:=x;exact Heap.lt_size e
 | own y=>obtain ⟨_,e⟩:=x;exact Heap.lt_size e
 | xd fs=>obtain ⟨_,⟨_,_,_,e,_⟩,_⟩:=x;exact Heap.lt_size e
 | rng lo hi=>obtain ⟨_,_,_,e⟩:=x;exact Heap.lt_size e
 | frz ob u=>obtain ⟨e,_⟩:=x;exact Heap.lt_size e
 | tbl ps=>exact Heap.lt_size (show h.get? a=some _ from x)
 | met f y=>exact Heap.lt_size (show h.get? a=some _ from x)
 | ext φ=>obtain ⟨_,⟨_,e⟩,_⟩:=x;exact Heap.lt_size e
theorem Paired.mapP {α β:Type} {F G : α→β→Prop}:∀ {l₁:List α} {l₂:List β},Paired F l₁ l₂→(∀ a b,F a b→G a b)→Paired G l₁ l₂
 | _,_,.nil,_=>.nil
 | _,_,.cons r t,f=>.cons (f _ _ r) (Paired.mapP t f)
theorem G7.stay (x:G7 P w H h a o) (k:∀ b u,(b=a∨H b=some (.own a))→h.get? b=some u→h'.get? b=some u)
  (ho:∀ b,H b=some (.own a)→H' b=some (.own a)) (ht:∀ b xs,H b=some (.tup xs)→H' b=some (.tup xs)):G7 P w H' h' a o:=by
 induction o with
 | lst xs=>obtain ⟨z,its,n,r,e⟩:=x;exact ⟨z,its,n,r,k _ _ (.inl rfl) e⟩
 | tup xs=>obtain ⟨z,its,r,ob,e,c⟩:=x;exact ⟨z,its,r,ob,k _ _ (.inl rfl) e,c⟩
 | dK kvs=>obtain ⟨z,y,vs,r,ob,es,ep,e,c⟩:=x;exact ⟨z,y,vs,r,ob,es,ep,k _ _ (.inl rfl) e,c⟩
 | dT kvs=>
  obtain ⟨z,y,xs,r,ob,es,ep,e,c⟩:=x
  exact ⟨z,y,xs,Paired.mapP r fun p q z=>⟨z.1,ht _ _ z.2.1,z.2.2⟩,ob,es,ep,k _ _ (.inl rfl) e,c⟩
 | set S n=>obtain ⟨ob,es,ep,t,e,c⟩:=x;exact ⟨ob,es,ep,t,k _ _ (.inl rfl) e,c⟩
 | ins C dx fs=>
  obtain ⟨d,z,ne,e,mA,⟨od,es,ep,e2,c⟩,r⟩:=x
  exact ⟨ho _ d,z,ne,k _ _ (.inl rfl) e,mA,⟨od,es,ep,k _ _ (.inr d) e2,c⟩,r⟩
 | own y=>obtain ⟨ob,e⟩:=x;exact ⟨ob,k _ _ (.inl rfl) e⟩
 | xd fs=>obtain ⟨mA,⟨od,es,ep,e,c⟩,r⟩:=x;exact ⟨mA,⟨od,es,ep,k _ _ (.inl rfl) e,c⟩,r⟩
 | rng lo hi=>obtain ⟨t,u,v,e⟩:=x;exact ⟨t,u,v,k _ _ (.inl rfl) e⟩
 | frz ob u ih=>obtain ⟨e,q⟩:=x;exact ⟨k _ _ (.inl rfl) e,ih q⟩
 | tbl ps=>
  have e:h.get? a=some { cls:=.none,data:=.fields ps }:=x
  show h'.get? a=some { cls:=.none,data:=.fields ps }
  exact k a _ (.inl rfl) e
 | met f y=>
  have e:h.get? a=some (PySem.W.methodObj (.ref f) (.ref y)):=x
  show h'.get? a=some (PySem.W.methodObj (.ref f) (.ref y))
  exact k a _ (.inl rfl) e
 | ext φ=>obtain ⟨p,⟨o,e⟩,st⟩:=x;exact ⟨st _ _ p fun o q=>k _ _ (.inl rfl) q,⟨o,k _ _ (.inl rfl) e⟩,st⟩
theorem HOk.lt (x:HOk P w H h) (e:H a=some o):a<h.objs.size:=(x a o e).lt
theorem HOk.fresh (x:HOk P w H h) (e:h.objs.size≤a):H a=none:=by
 cases q:H a with
 | none=>rfl
 | some u=>exact absurd (Nat.lt_of_lt_of_le (x.lt q) e) (Nat.lt_irrefl _)
theorem HOk.kept (x:HOk P w H h) (k:∀ b u,h.get? b=some u→h'.get? b=some u):HOk P w H h':=fun a o e=>
 (x a o e).stay (fun b u _ q=>k b u q) (fun _ q=>q) fun _ _ q=>q
theorem HOk.laid (x:HOk P w H h) (k:∀ b u,h.get? b=some u→h'.get? b=some u) (hp:h.objs.size≤a) (new:G7 P w (upd H a o) h' a o):HOk P w (upd H a o) h':=fun b u e=>by
 have hn:=x.fresh hp
 by_cases hb:b=a
 ·subst hb;rw [b8] at e;cases e;exact new
 ·rw [j0 hb] at e
  exact (x b u e).stay (fun c v _ q=>k c v q) (fun c q=>by rw [j0 (g9 q hn)];exact q) fun c xs q=>by rw [j0 (g9 q hn)];exact q
end
def Rd (H:Hp) (a:Addr) (u:HO):Prop:=H a=some u∨∃ o,H a=some (.frz o u)
theorem Rd.ok {P:Program} {w:World} {H:Hp} {h:Heap} {a:Addr} {u:HO} (r:Rd H a u) (x:HOk P w H h):G7 P w H h a u:=by
 rcases r with r | ⟨o,r⟩
 ·exact x a u r
 ·obtain ⟨_,q⟩:=x a _ r
  exact q
def Mut:Option HO→Prop
 | some (.lst _)=>True
 | some (.dK _)=>True
 | some (.dT _)=>True
 | some (.set _ _)=>True
 | some (.ins _ _ _)=>True
 | some (.ext _)=>True
 | _=>False
section
variable {P:Program} {w:World} {H:Hp} {h h':Heap} {x e:Addr} {o':HO}
theorem HOk.write (ok:HOk P w H h) (mu:Mut (H x)) (he:e=x∨H e=some (.own x)) (k:∀ b u,b≠e→h.get? b=some u→h'.get? b=some u) (heo:∃ u,h'.get? e=some u)
  (new:G7 P w (upd H x o') h' x o'):HOk P w (upd H x o') h':=fun b u q=>by
 have nown:∀ c y,H c=some (.own y)→c≠x:=fun c y r z=>by subst z;rw [r] at mu;exact mu
 have ntup:∀ c xs,H c=some (.tup xs)→c≠x:=fun c xs r z=>by subst z;rw [r] at mu;exact mu
 by_cases hb:b=x
 ·subst hb;rw [b8] at q;cases q;exact new
 ·rw [j0 hb] at q
  by_cases hbe:b=e
  ·have q':H b=some (.own x):=by
    rcases he with z | z
    ·exact absurd (hbe.trans z) hb
    ·rw [hbe];exact z
   rw [q] at q';cases q'
   obtain ⟨v,hv⟩:=heo
   exact ⟨v,by rw [hbe];exact hv⟩
  ·refine (ok b u q).stay (fun c v hc r=>k c v ?_ r) (fun c r=>by rw [j0 (nown c b r)];exact r) fun c xs r=>by rw [j0 (ntup c xs r)];exact r
   rcases hc with rfl | hc
   ·exact hbe
   ·rintro rfl
    rcases he with z | z
    ·exact nown c b hc z
    ·rw [hc] at z;cases z;exact hb rfl
end
structure Un (fs ex:List Addr) (H H':Hp) (h h':Heap):Prop where
 keep:∀ b o,h.get? b=some o→H b=none→b ∉ fs→b ∉ ex→h'.get? b=some o
 slot:∀ b o,h.get? b=some o→H b=none→b∈fs→b ∉ ex→∃ sl,h'.get? b=some { o with slots:=sl }
 free:∀ b o,h.get? b=some o→H b=none→b ∉ ex→H' b=none
 there:∀ b o,h.get? b=some o→b ∉ ex→∃ o',h'.get? b=some o'
 tups:∀ b xs,H b=some (.tup xs)→H' b=some (.tup xs)
 frzs:∀ b o u,H b=some (.frz o u)→H' b=some (.frz o u)
 tbls:∀ b ps,H b=some (.tbl ps)→∃ more,H' b=some (.tbl (ps++more))
section
variable {fs fs' ex ex':List Addr} {H H1 H2:Hp} {h h1 h2 h':Heap} {a x e:Addr} {o:HO}
theorem Un.any (u:Un fs ex H H1 h h1) {b:Addr} {ob:Obj} (q:h.get? b=some ob) (n:H b=none) (hx:b ∉ ex):∃ sl,h1.get? b=some { ob with slots:=sl }:=by
 by_cases hb:b∈fs
 ·exact u.slot b ob q n hb hx
 ·exact ⟨ob.slots,u.keep b ob q n hb hx⟩
theorem Un.kept (k:∀ b u,h.get? b=some u→h'.get? b=some u):Un fs ex H H h h':=
 ⟨fun b ob q _ _ _=>k b ob q,fun b ob q _ _ _=>⟨ob.slots,k b ob q⟩,fun _ _ _ n _=>n,fun b ob q _=>⟨ob,k b ob q⟩,fun _ _ q=>q,fun _ _ _ q=>q,fun _ ps q=>⟨#[],by rw [q];simp⟩⟩
theorem Un.refl:Un fs ex H H h h:=Un.kept fun _ _ q=>q
theorem Un.laid (k:∀ b u,h.get? b=some u→h'.get? b=some u) (hp:h.objs.size≤a) (hn:H a=none):Un fs ex H (upd H a o) h h' where
 keep:=fun b u q _ _ _=>k b u q
 slot:=fun b u q _ _ _=>⟨u.slots,k b u q⟩
 free:=fun b u q n _=>by rw [j0 (Nat.ne_of_lt (Nat.lt_of_lt_of_le (Heap.lt_size q) hp))];exact n
 there:=fun b u q _=>⟨u,k b u q⟩
 tups:=fun b xs q=>by rw [j0 (g9 q hn)];exact q
 frzs:=fun b u xs q=>by rw [j0 (g9 q hn)];exact q
 tbls:=fun b ps q=>⟨#[],by rw [j0 (g9 q hn),q];simp⟩
theorem Un.write (mu:Mut (H x)) (he:e=x∨H e=some (.own x)) (k:∀ b u,b≠e→h.get? b=some u→h'.get? b=some u) (heo:∃ u,h'.get? e=some u):Un fs ex H (upd H x o) h h':=by
 have hx:∀ b,H b=none→b≠x:=fun b n z=>by subst z;rw [n] at mu;exact mu
 have hb:∀ b,H b=none→b≠e:=fun b n z=>by
  subst z
  rcases he with r | r
  ·exact hx b n r
  ·rw [n] at r;cases r
 have hm:∀ b u,H b=some u→¬ Mut (some u)→b≠x:=fun b u q nm z=>by subst z;rw [q] at mu;exact nm mu
 refine ⟨fun b u q n _ _=>k b u (hb b n) q,fun b u q n _ _=>⟨u.slots,k b u (hb b n) q⟩,fun b u q n _=>by rw [j0 (hx b n)];exact n,fun b u q _=>?_,
  fun b xs q=>by rw [j0 (hm b _ q fun z=>z)];exact q,fun b u xs q=>by rw [j0 (hm b _ q fun z=>z)];exact q,fun b ps q=>⟨#[],by rw [j0 (hm b _ q fun z=>z),q];simp⟩⟩
 by_cases hbe:b=e
 ·subst hbe;exact heo
 ·exact ⟨u,k b u hbe q⟩
end
def trk (h:Heap) (H:Hp):List Addr:=(List.range h.objs.size).filter fun a=>(H a).isSome
def aH6 (h:Heap) (H:Hp):Heap:=PySem.W.hideAll h (trk h H)
theorem aX1 (h:Heap) (H:Hp):(aH6 h H).objs.size=h.objs.size:=PySem.W.hideAll_size _ _
theorem bf6 {h:Heap} {H:Hp} {b:Addr} {o:Obj} (e:h.get? b=some o) (n:H b=none):(aH6 h H).get? b=some o:=
 PySem.W.hideAll_get _ e fun hm=>by
  have q:(H b).isSome=true:=(List.mem_filter.mp hm).2
  rw [n] at q;simp at q
theorem bk2 {h:Heap} {H:Hp} {b:Addr} {o:Obj} (e:(aH6 h H).get? b=some o):h.get? b=some o∧H b=none:=by
 have e':h.get? b=some o:=PySem.W.of_hideAll (trk h H) e
 refine ⟨e',?_⟩
 cases q:H b with
 | none=>rfl
 | some x=>
  have hm:b∈trk h H:=List.mem_filter.mpr ⟨List.mem_range.mpr (Heap.lt_size e'),by simp [q]⟩
  have z:(aH6 h H).get? b=none:=PySem.W.hideAll_none (trk h H) hm
  rw [z] at e;cases e
def bm0 (g h:Heap) (L:Addr):List (Addr × Obj):=(List.range h.objs.size).filterMap fun a=>if a=L∨(g.get? a).isSome=true then none else (h.get? a).map fun o=>(a,o)
def ar0 (g h:Heap) (L d:Addr):List (Addr × Obj):=(bm0 g h L).filter fun p=>decide (p.1≠d)
structure Mod (K:PySem.W.Frag) (mg:Str→Option Value) (base:Heap):Prop where
 kin:K.In base
 glob:base.Ns mainGlobals mg
 blt:∃ mb,base.Ns builtinsNs mb∧∀ x:Str,x≠"__name__" → mb x=bootBuiltins x
 nolimit:base.NoLimit
/-- the context: a def's body (or a comprehension's block) running. base: fixed through the whole law;s₀,H₀: the entry;outer: the frames whose slots others may change (a def's callers);stack: all frames that run;
   ex: iterators that were made ahead of the entry and are walked here (a comprehension's);fn: the names whose cells were made at the entry (a def: all;a comprehension's block: its own);calm: not within an except suite;pn: pins that every state bears;xe: what is wanted of an exception that leaves the code -/
structure Cx where
 prog:Program
 w:World
 K:PySem.W.Frag
 mg:Str→Option Value
 base:Heap
 A:Around
 N:List Str
 s₀:Shared
 H₀:Hp
 env:Env
 outer:List Env
 stack:List Env
 ex:List Addr
 fn:Str→Bool
 calm:Bool
 pn:List (Addr × Obj)
 xe:Value→Shared→Prop
def frs (l:List Env):List Addr:=l.filterMap (·.frame)
abbrev Cx.fs (X:Cx):List Addr:=frs X.outer
def Vis (sc:Scope) (x:Str):Prop:=sc.names.lookup x=some .local∨sc.names.lookup x=some .cell∨sc.names.lookup x=some .free
def Loc (sc:Scope) (x:Str):Prop:=sc.names.lookup x=some .local∨sc.names.lookup x=some .cell
def by9 (env:Env) (h:Heap) (m:Str→Option Value) (x:Str) (u:Value):Prop:=
 (env.kindOf x=some .local∧m x=some u)∨((env.kindOf x=some .cell∨env.kindOf x=some .free)∧∃ c,env.cells.lookup x=some c∧h.IsCell c (some u))
structure Cx.Ok (X:Cx):Prop where
 mod:Mod X.K X.mg X.base
 kind:X.env.scope.kind = .function
 glob:X.env.globals=mainGlobals
 blt:X.env.builtins=builtinsNs
 above:X.s₀.heap.objs.size≤X.env.locals
 inj:∀ x y c,X.env.cells.lookup x=some c→X.env.cells.lookup y=some c→x=y
 has:∀ x,(X.env.kindOf x=some .cell∨X.env.kindOf x=some .free)→∃ c,X.env.cells.lookup x=some c
 cab:∀ x c,X.fn x=true→X.env.cells.lookup x=some c→X.s₀.heap.objs.size≤c
 hd:X.calm=true→X.A.handled=none
 frames:X.A.frames=some X.stack
 stk:X.stack=X.outer∨(X.stack=X.env :: X.outer∧X.env.frame=some X.env.locals)
 exf:∀ b∈X.ex,b≠X.env.locals∧∀ x c,X.env.cells.lookup x=some c→c≠b
 bs:∀ b o,X.base.get? b=some o→X.s₀.heap.get? b=some o∧X.H₀ b=none
 bsz:X.base.objs.size≤X.s₀.heap.objs.size
 noex:∀ b o,X.base.get? b=some o→b ∉ X.ex
 exfs:∀ b∈X.ex,b ∉ X.fs
 funs:X.s₀.heap.FunFrames X.base X.outer
 frf:∀ b∈X.fs,X.H₀ b=none
structure Inv (X:Cx) (pins:List (Addr × Obj)) (σ:List (Option V)) (H:Hp) (s:Shared):Prop where
 ok:X.Ok
 os:s.os=X.s₀.os
 bare:AllBare s.gens
 base:Un X.fs X.ex X.H₀ H X.s₀.heap s.heap
 loc:∃ m,s.heap.Ns X.env.locals m∧∀ (i:Nat) (x:Str) (v:V),X.N[i]? = some x→σ[i]? = some (some v)→Vis X.env.scope x→∃ u,A4 v u∧by9 X.env s.heap m x u
 cell:∀ x c,X.env.cells.lookup x=some c→∃ v,s.heap.IsCell c v
 free:H X.env.locals=none
 freeC:∀ x c,X.env.cells.lookup x=some c→H c=none
 pin:∀ p∈X.pn++pins,s.heap.get? p.1=some p.2∧H p.1=none∧p.1≠X.env.locals∧p.1 ∉ X.fs∧∀ v,p.2.data≠.cell v
 hok:HOk X.prog X.w H s.heap
 len:σ.length=X.N.length
section
variable {X:Cx} {pins:List (Addr × Obj)} {σ:List (Option V)} {H H':Hp} {s:Shared} {h':Heap}
theorem Cx.Ok.nofr (ok:X.Ok) {b:Addr} {o:Obj} (e:X.base.get? b=some o):b ∉ X.fs:=fun hb=>by
 have:=(ok.funs.mem hb).1
 rw [e] at this;cases this
theorem Inv.bs (I:Inv X pins σ H s):∀ b o,X.base.get? b=some o→s.heap.get? b=some o∧H b=none:=fun b o e=>
 ⟨I.base.keep b o (I.ok.bs b o e).1 (I.ok.bs b o e).2 (I.ok.nofr e) (I.ok.noex b o e),I.base.free b o (I.ok.bs b o e).1 (I.ok.bs b o e).2 (I.ok.noex b o e)⟩
theorem Inv.bk (I:Inv X pins σ H s):∀ b o,X.base.get? b=some o→s.heap.get? b=some o:=fun b o e=>(I.bs b o e).1
theorem Inv.mod (I:Inv X pins σ H s):Mod X.K X.mg X.base:=I.ok.mod
theorem Inv.kIn (I:Inv X pins σ H s):X.K.In s.heap:=I.ok.mod.kin.keeps I.bk
theorem Inv.fr (I:Inv X pins σ H s):∃ m,Fr X.base X.env.locals s.heap m:=
 let ⟨m,hn,_⟩:=I.loc
 ⟨m,hn,I.bk,Nat.le_trans I.ok.bsz I.ok.above⟩
theorem Inv.lt (I:Inv X pins σ H s):X.env.locals<s.heap.objs.size:=let ⟨_,hn,_⟩:=I.loc;hn.lt
theorem Inv.sz (I:Inv X pins σ H s):X.s₀.heap.objs.size≤s.heap.objs.size:=Nat.le_trans I.ok.above (Nat.le_of_lt I.lt)
theorem Inv.nofs (I:Inv X pins σ H s) {a:Addr} (h:s.heap.objs.size≤a):a ∉ X.fs:=fun hb=>by
 obtain ⟨_,o,ho,_⟩:=I.ok.funs.mem hb
 exact absurd (Nat.lt_of_lt_of_le (Heap.lt_size ho) (Nat.le_trans I.sz h)) (Nat.lt_irrefl _)
theorem Inv.cne (I:Inv X pins σ H s):∀ x c,X.env.cells.lookup x=some c→c≠X.env.locals:=fun x c e z=>by
 obtain ⟨v,o,ho,hd⟩:=I.cell x c e
 obtain ⟨m,⟨o',es,ep,ho',hd',_⟩,_⟩:=I.loc
 rw [z,ho'] at ho;cases ho;rw [hd'] at hd;cases hd
theorem Inv.funs (I:Inv X pins σ H s):s.heap.FunFrames X.base X.outer:=by
 have all:∀ (l:List Env),(∀ b∈frs l,b∈X.fs)→X.s₀.heap.FunFrames X.base l→s.heap.FunFrames X.base l:=by
  intro l
  induction l with
  | nil=>intro _ _;trivial
  | cons env r ih=>
   intro hs hl
   obtain ⟨hk,⟨L,o,hf,hn,ho,hd⟩,hr⟩:=hl
   have hL:L∈X.fs:=hs L (by unfold frs;rw [List.filterMap_cons,hf];exact List.mem_cons_self)
   obtain ⟨sl,e⟩:=I.base.slot L o ho (I.ok.frf L hL) hL fun z=>I.ok.exfs L z hL
   exact ⟨hk,⟨L,_,hf,hn,e,hd⟩,ih (fun b hb=>hs b (by unfold frs;rw [List.filterMap_cons,hf];exact List.mem_cons_of_mem _ hb)) hr⟩
 exact all X.outer (fun _ hb=>hb) I.ok.funs
theorem Inv.stack (I:Inv X pins σ H s):s.heap.FunFrames X.base X.stack:=by
 rcases I.ok.stk with e | ⟨e,hf⟩
 ·rw [e];exact I.funs
 ·rw [e]
  obtain ⟨m,hn,_⟩:=I.loc
  refine .cons (by rw [I.ok.kind];decide) hf hn ?_ I.funs
  exact Heap.get?_none_of_le (Nat.le_trans I.ok.bsz I.ok.above)
theorem Inv.stkSub (I:Inv X pins σ H s):∀ b∈frs X.stack,b∈X.env.locals :: X.fs:=fun b hb=>by
 rcases I.ok.stk with e | ⟨e,hf⟩
 ·rw [e] at hb;exact List.mem_cons_of_mem _ hb
 ·rw [e] at hb
  unfold frs at hb
  rw [List.filterMap_cons,hf] at hb
  exact hb
theorem Inv.stkFree (I:Inv X pins σ H s):∀ b∈frs X.stack,H b=none:=fun b hb=>by
 rcases List.mem_cons.mp (I.stkSub b hb) with e | hb
 ·rw [e];exact I.free
 ·obtain ⟨_,o,ho,_⟩:=I.ok.funs.mem hb
  exact I.base.free b o ho (I.ok.frf b hb) fun z=>I.ok.exfs b z hb
theorem Inv.step {g':Array GenState} {t':Nat} {d':Drawn} {ch:List Addr} (I:Inv X pins σ H s)
  (hch:∀ b∈ch,(b∈X.ex∨X.s₀.heap.objs.size≤b)∧b≠X.env.locals∧(∀ x c,X.env.cells.lookup x=some c→c≠b)∧∀ p∈X.pn++pins,p.1≠b)
  (keep:∀ b o,b≠X.env.locals→b ∉ X.fs→b ∉ ch→s.heap.get? b=some o→H b=none→h'.get? b=some o)
  (slot:∀ b o,b≠X.env.locals→b∈X.fs→b ∉ ch→s.heap.get? b=some o→H b=none→∃ sl,h'.get? b=some { o with slots:=sl }) (free:∀ b o,b ∉ ch→s.heap.get? b=some o→H b=none→H' b=none)
  (there:∀ b o,b ∉ ch→s.heap.get? b=some o→∃ o',h'.get? b=some o')
  (tups:∀ b xs,H b=some (.tup xs)→H' b=some (.tup xs)) (frzs:∀ b o u,H b=some (.frz o u)→H' b=some (.frz o u)) (tbls:∀ b ps,H b=some (.tbl ps)→∃ more,H' b=some (.tbl (ps++more)))
  (ns:∀ m,s.heap.Ns X.env.locals m→h'.Ns X.env.locals m) (hok:HOk X.prog X.w H' h') (hg:AllBare g') :
  Inv X pins σ H' { s with heap:=h',gens:=g',drawn:=d',toks:=t' }:=by
 have neL:∀ b o,X.s₀.heap.get? b=some o→b≠X.env.locals:=fun b o e=>Nat.ne_of_lt (Nat.lt_of_lt_of_le (Heap.lt_size e) I.ok.above)
 have neC:∀ b o,X.s₀.heap.get? b=some o→b ∉ X.ex→b ∉ ch:=fun b o e hx hb=>by
  rcases (hch b hb).1 with z | z
  ·exact hx z
  ·exact absurd (Nat.lt_of_lt_of_le (Heap.lt_size e) z) (Nat.lt_irrefl _)
 have cellK:∀ x c,X.env.cells.lookup x=some c→∀ v,s.heap.IsCell c v→h'.IsCell c v:=fun x c e v ⟨o,ho,hd⟩=>by
  have nch:c ∉ ch:=fun z=>(hch c z).2.2.1 x c e rfl
  by_cases hc:c∈X.fs
  ·obtain ⟨sl,q⟩:=slot c o (I.cne x c e) hc nch ho (I.freeC x c e)
   exact ⟨_,q,hd⟩
  ·exact ⟨o,keep c o (I.cne x c e) hc nch ho (I.freeC x c e),hd⟩
 refine ⟨I.ok,I.os,hg,⟨fun b o e n hb hx=>?_,fun b o e n hb hx=>?_,fun b o e n hx=>?_,fun b o e hx=>?_,fun b xs e=>tups b xs (I.base.tups b xs e),fun b o xs e=>frzs b o xs (I.base.frzs b o xs e),fun b ps e=>?_⟩,?_,fun x c e=>?_,?_,fun x c e=>?_,fun p hp=>?_,hok,I.len⟩
 ·exact keep b o (neL b o e) hb (neC b o e hx) (I.base.keep b o e n hb hx) (I.base.free b o e n hx)
 ·obtain ⟨sl,e1⟩:=I.base.slot b o e n hb hx
  obtain ⟨sl',e2⟩:=slot b _ (neL b o e) hb (neC b o e hx) e1 (I.base.free b o e n hx)
  exact ⟨sl',e2⟩
 ·obtain ⟨o',e1⟩:=I.base.there b o e hx
  exact free b o' (neC b o e hx) e1 (I.base.free b o e n hx)
 ·obtain ⟨o',e1⟩:=I.base.there b o e hx
  exact there b o' (neC b o e hx) e1
 ·obtain ⟨m1,e1⟩:=I.base.tbls b ps e
  obtain ⟨m2,e2⟩:=tbls b _ e1
  exact ⟨m1++m2,by rw [e2,Array.append_assoc]⟩
 ·obtain ⟨m,hn,hl⟩:=I.loc
  refine ⟨m,ns m hn,fun i x v e1 e2 e3=>?_⟩
  obtain ⟨u,r,l⟩:=hl i x v e1 e2 e3
  refine ⟨u,r,?_⟩
  rcases l with l | ⟨k,c,e,z⟩
  ·exact .inl l
  ·exact .inr ⟨k,c,e,cellK x c e _ z⟩
 ·obtain ⟨v,z⟩:=I.cell x c e
  exact ⟨v,cellK x c e v z⟩
 ·obtain ⟨m,⟨o,_,_,ho,_⟩,_⟩:=I.loc
  exact free _ o (fun z=>(hch _ z).2.1 rfl) ho I.free
 ·obtain ⟨v,o,ho,hd⟩:=I.cell x c e
  exact free c o (fun z=>(hch c z).2.2.1 x c e rfl) ho (I.freeC x c e)
 ·obtain ⟨e,n,ne,nf,d⟩:=I.pin p hp
  have nch:p.1 ∉ ch:=fun z=>(hch p.1 z).2.2.2 p hp rfl
  exact ⟨keep p.1 p.2 ne nf nch e n,free p.1 p.2 nch e n,ne,nf,d⟩
theorem Inv.un {t':Nat} (I:Inv X pins σ H s) (u:Un X.fs [] H H' s.heap h') (hok:HOk X.prog X.w H' h'):Inv X pins σ H' { s with heap:=h',toks:=t' }:=by
 obtain ⟨m,⟨o,es,ep,ho,r⟩,_⟩:=id I.loc
 obtain ⟨sl,hL⟩:=u.any ho I.free (by simp)
 exact I.step (g':=s.gens) (d':=s.drawn) (ch:=[]) (fun _ z=>nomatch z) (fun b o _ hb _ e n=>u.keep b o e n hb (by simp)) (fun b o _ hb _ e n=>u.slot b o e n hb (by simp)) (fun b o _ e n=>u.free b o e n (by simp)) (fun b o _ e=>u.there b o e (by simp)) u.tups u.frzs u.tbls (fun m' hm=>by
  obtain ⟨o',es',ep',ho',r'⟩:=hm
  rw [ho] at ho';cases ho'
  exact ⟨_,es',ep',hL,r'⟩) hok I.bare
theorem Inv.call {g':Array GenState} {t':Nat} {d':Drawn} {ch:List Addr} (I:Inv X pins σ H s) (u:Un (frs X.stack) ch H H' s.heap h') (hok:HOk X.prog X.w H' h') (hg:AllBare g')
  (hch:∀ b∈ch,(b∈X.ex∨X.s₀.heap.objs.size≤b)∧b≠X.env.locals∧(∀ x c,X.env.cells.lookup x=some c→c≠b)∧∀ p∈X.pn++pins,p.1≠b) :
  Inv X pins σ H' { s with heap:=h',gens:=g',drawn:=d',toks:=t' }:=by
 obtain ⟨m,⟨o,es,ep,ho,r⟩,_⟩:=id I.loc
 obtain ⟨sl,hL⟩:=u.any ho I.free fun z=>(hch _ z).2.1 rfl
 exact I.step (ch:=ch) hch (fun b o hL hb hc e n=>u.keep b o e n (fun z=>(List.mem_cons.mp (I.stkSub b z)).elim hL hb) hc) (fun b o _ _ hc e n=>u.any e n hc) (fun b o hc e n=>u.free b o e n hc) (fun b o hc e=>u.there b o e hc) u.tups u.frzs u.tbls (fun m' hm=>by
  obtain ⟨o',es',ep',ho',r'⟩:=hm
  rw [ho] at ho';cases ho'
  exact ⟨_,es',ep',hL,r'⟩) hok hg
theorem Inv.turned {t':Nat} {it:Addr} (I:Inv X pins σ H s) (k:∀ b o,b≠it→s.heap.get? b=some o→h'.get? b=some o) (hn:H it=none) (hL:it≠X.env.locals)
  (h1:it∈X.ex∨X.s₀.heap.objs.size≤it) (h2:∀ x c,X.env.cells.lookup x=some c→c≠it) (h3:∀ p∈X.pn++pins,p.1≠it):Inv X pins σ H { s with heap:=h',toks:=t' }:=by
 have nit:∀ b u,H b=some u→b≠it:=fun b u e z=>by rw [z,hn] at e;cases e
 refine I.step (g':=s.gens) (d':=s.drawn) (ch:=[it]) (fun b hb=>?_) (fun b o _ _ hc e _=>k b o (fun z=>hc (by simp [z])) e) (fun b o _ _ hc e _=>⟨o.slots,k b o (fun z=>hc (by simp [z])) e⟩) (fun _ _ _ _ n=>n)
  (fun b o hc e=>⟨o,k b o (fun z=>hc (by simp [z])) e⟩) (fun _ _ e=>e) (fun _ _ _ e=>e) (fun b ps e=>⟨#[],by rw [e];simp⟩) (fun m hm=>?_) (fun b u e=>?_) I.bare
 ·have e:b=it:=by simpa using hb
  subst e
  exact ⟨h1,hL,h2,h3⟩
 ·obtain ⟨o,es,ep,ho,r⟩:=hm
  exact ⟨o,es,ep,k _ o (Ne.symm hL) ho,r⟩
 ·refine (I.hok b u e).stay (fun c v hc q=>k c v ?_ q) (fun _ q=>q) fun _ _ q=>q
  rcases hc with z | z
  ·rw [z];exact nit b u e
  ·exact nit c _ z
theorem Inv.tok (I:Inv X pins σ H s) (t:Nat):Inv X pins σ H { s with toks:=t }:=I.un (h':=s.heap) (t':=t) Un.refl I.hok
theorem Inv.kept {t':Nat} (I:Inv X pins σ H s) (k:∀ b u,s.heap.get? b=some u→h'.get? b=some u):Inv X pins σ H { s with heap:=h',toks:=t' }:=I.un (Un.kept k) (I.hok.kept k)
theorem Inv.laid {a:Addr} {o:HO} {t':Nat} (I:Inv X pins σ H s) (k:∀ b u,s.heap.get? b=some u→h'.get? b=some u) (hp:s.heap.objs.size≤a) (new:G7 X.prog X.w (upd H a o) h' a o) :
  Inv X pins σ (upd H a o) { s with heap:=h',toks:=t' }:=I.un (Un.laid k hp (I.hok.fresh hp)) (I.hok.laid k hp new)
theorem Inv.write {x e:Addr} {o:HO} {t':Nat} (I:Inv X pins σ H s) (mu:Mut (H x)) (he:e=x∨H e=some (.own x)) (k:∀ b u,b≠e→s.heap.get? b=some u→h'.get? b=some u) (heo:∃ u,h'.get? e=some u)
  (new:G7 X.prog X.w (upd H x o) h' x o):Inv X pins σ (upd H x o) { s with heap:=h',toks:=t' }:=I.un (Un.write mu he k heo) (I.hok.write mu he k heo new)
theorem Inv.weak {σ':List (Option V)} (I:Inv X pins σ H s) (hl:σ'.length=σ.length) (w:∀ (i:Nat) v,σ'[i]? = some (some v)→σ[i]? = some (some v)):Inv X pins σ' H s:=
 ⟨I.ok,I.os,I.bare,I.base,let ⟨m,hn,hl'⟩:=I.loc;⟨m,hn,fun i x v e1 e2 e3=>hl' i x v e1 (w i v e2) e3⟩,I.cell,I.free,I.freeC,I.pin,I.hok,hl.trans I.len⟩
theorem Inv.pins_of {pins':List (Addr × Obj)} (I:Inv X pins σ H s) (h:∀ p∈pins',s.heap.get? p.1=some p.2∧H p.1=none∧p.1≠X.env.locals∧p.1 ∉ X.fs∧∀ v,p.2.data≠.cell v):Inv X pins' σ H s:=
 ⟨I.ok,I.os,I.bare,I.base,I.loc,I.cell,I.free,I.freeC,fun p hp=>(List.mem_append.mp hp).elim (fun z=>I.pin p (List.mem_append_left _ z)) (h p),I.hok,I.len⟩
theorem aL8 {N:List Str} (hN:N.Nodup) {i j:Nat} {x:Str} (a:N[i]? = some x) (b:N[j]? = some x):i=j:=by
 obtain ⟨h1,e1⟩:=List.getElem?_eq_some_iff.mp a
 obtain ⟨h2,e2⟩:=List.getElem?_eq_some_iff.mp b
 exact (List.getElem_inj hN).mp (e1.trans e2.symm)
theorem aV1 {M:Model} {A:Around} {E:Value→Shared→Prop} {i:Nat} {x:Str} {v:V} {u:Value} {Q:Unit→Shared→Prop} (I:Inv X pins σ H s) (hN:X.N.Nodup) (hi:X.N[i]? = some x) (hx:Loc X.env.scope x) (r:A4 v u)
  (h:∀ s',Inv X pins (σ.set i (some v)) H s'→(∃ a,Heap.SameBut a s.heap s'.heap∧(a=X.env.locals∨X.env.cells.lookup x=some a))→Q () s') (hf:X.fn x=true∨X.env.scope.names.lookup x=some .local:=by first | exact .inl rfl | exact .inr rfl | assumption):wpAny M A (storeName X.env x u) Q E s:=by
 obtain ⟨m,hn,hl⟩:=id I.loc
 have hcls:(X.env.scope.kind == .class || (X.env.scope.kind == .module && X.env.locals != X.env.globals))=false:=by rw [I.ok.kind];rfl
 have hiσ:i<σ.length:=by rw [I.len];exact (List.getElem?_eq_some_iff.mp hi).1
 have cne:=I.cne
 have tracked:∀ {a:Addr} {h':Heap},(∃ o,s.heap.get? a=some o∧H a=none)→Heap.SameBut a s.heap h'→HOk X.prog X.w H h':=fun {a h'} ha hs b ob e=>by
  obtain ⟨_,_,hfree⟩:=ha
  refine (I.hok b ob e).stay (fun c w' hc q=>(hs.2 c ?_).trans q) (fun _ q=>q) fun _ _ q=>q
  rintro rfl
  rcases hc with rfl | hc
  ·rw [hfree] at e;cases e
  ·rw [hfree] at hc;cases hc
 rcases hx with hk | hk
 ·refine wpAny_storeName_local hk hn (fun h' hn' hs=>?_) hcls
  obtain ⟨oL,_,_,hoL,_⟩:=id hn
  refine h _ ⟨I.ok,I.os,I.bare,⟨fun b o e n hb hx=>?_,fun b o e n hb hx=>?_,I.base.free,fun b o e hx=>?_,I.base.tups,I.base.frzs,I.base.tbls⟩,⟨_,hn',fun j y v' e1 e2 e3=>?_⟩,fun y c e=>?_,I.free,I.freeC,fun p hp=>?_,tracked ⟨oL,hoL,I.free⟩ hs,by simpa using I.len⟩ ⟨_,hs,.inl rfl⟩
  ·exact (hs.2 b (Nat.ne_of_lt (Nat.lt_of_lt_of_le (Heap.lt_size e) I.ok.above))).trans (I.base.keep b o e n hb hx)
  ·obtain ⟨sl,e1⟩:=I.base.slot b o e n hb hx
   exact ⟨sl,(hs.2 b (Nat.ne_of_lt (Nat.lt_of_lt_of_le (Heap.lt_size e) I.ok.above))).trans e1⟩
  ·obtain ⟨o',e1⟩:=I.base.there b o e hx
   exact ⟨o',(hs.2 b (Nat.ne_of_lt (Nat.lt_of_lt_of_le (Heap.lt_size e) I.ok.above))).trans e1⟩
  ·by_cases hj:j=i
   ·subst hj
    rw [hi] at e1;cases e1
    rw [List.getElem?_set_self hiσ] at e2
    cases e2
    exact ⟨u,r,.inl ⟨hk,by simp⟩⟩
   ·rw [List.getElem?_set_ne (Ne.symm hj)] at e2
    obtain ⟨u',r',q⟩:=hl j y v' e1 e2 e3
    refine ⟨u',r',?_⟩
    rcases q with ⟨k,e⟩ | ⟨k,c,e,z⟩
    ·refine .inl ⟨k,?_⟩
     have:y≠x:=fun e=>hj (aL8 hN e1 (e ▸ hi))
     simp [this,e]
    ·exact .inr ⟨k,c,e,z.sameBut hs (cne y c e)⟩
  ·obtain ⟨w',z⟩:=I.cell y c e
   exact ⟨w',z.sameBut hs (cne y c e)⟩
  ·obtain ⟨e,n,ne,nf,d⟩:=I.pin p hp
   exact ⟨(hs.2 p.1 ne).trans e,n,ne,nf,d⟩
 ·have hfn:X.fn x=true:=by
   rcases hf with z | z
   ·exact z
   ·rw [z] at hk;cases hk
  obtain ⟨c,hc⟩:=I.ok.has x (.inl hk)
  obtain ⟨w',z⟩:=I.cell x c hc
  refine wpAny_storeName_cell I.ok.kind hk hc z (fun h' hc' hs=>?_)
  obtain ⟨oc,hoc,hocd⟩:=id z
  refine h { s with heap:=h' } ⟨I.ok,I.os,I.bare,⟨fun b o e n hb hx=>?_,fun b o e n hb hx=>?_,I.base.free,fun b o e hx=>?_,I.base.tups,I.base.frzs,I.base.tbls⟩,⟨m,hn.sameBut hs (Ne.symm (cne x c hc)),fun j y v' e1 e2 e3=>?_⟩,fun y c' e=>?_,I.free,I.freeC,fun p hp=>?_,tracked ⟨oc,hoc,I.freeC x c hc⟩ hs,by simpa using I.len⟩ ⟨c,hs,.inr hc⟩
  ·exact (hs.2 b (Nat.ne_of_lt (Nat.lt_of_lt_of_le (Heap.lt_size e) (I.ok.cab x c hfn hc)))).trans (I.base.keep b o e n hb hx)
  ·obtain ⟨sl,e1⟩:=I.base.slot b o e n hb hx
   exact ⟨sl,(hs.2 b (Nat.ne_of_lt (Nat.lt_of_lt_of_le (Heap.lt_size e) (I.ok.cab x c hfn hc)))).trans e1⟩
  ·obtain ⟨o',e1⟩:=I.base.there b o e hx
   exact ⟨o',(hs.2 b (Nat.ne_of_lt (Nat.lt_of_lt_of_le (Heap.lt_size e) (I.ok.cab x c hfn hc)))).trans e1⟩
  ·by_cases hj:j=i
   ·subst hj
    rw [hi] at e1;cases e1
    rw [List.getElem?_set_self hiσ] at e2
    cases e2
    exact ⟨u,r,.inr ⟨.inl hk,c,hc,hc'⟩⟩
   ·rw [List.getElem?_set_ne (Ne.symm hj)] at e2
    obtain ⟨u',r',q⟩:=hl j y v' e1 e2 e3
    refine ⟨u',r',?_⟩
    rcases q with q | ⟨k,c',e,z'⟩
    ·exact .inl q
    ·refine .inr ⟨k,c',e,z'.sameBut hs ?_⟩
     rintro rfl
     exact hj (aL8 hN e1 (I.ok.inj _ _ _ e hc ▸ hi))
  ·by_cases hcc:c'=c
   ·subst hcc;exact ⟨_,hc'⟩
   ·obtain ⟨w2,z2⟩:=I.cell y c' e
    exact ⟨w2,z2.sameBut hs hcc⟩
  ·obtain ⟨e,n,ne,nf,d⟩:=I.pin p hp
   refine ⟨(hs.2 p.1 ?_).trans e,n,ne,nf,d⟩
   intro q
   rw [q,hoc] at e
   have q':oc=p.2:=Option.some.inj e
   exact d w' (by rw [←q'];exact hocd)
theorem aa7 {M:Model} {A:Around} {E:Value→Shared→Prop} {i:Nat} {x:Str} {v:V} {u:Value} {Q:Unit→Shared→Prop} (I:Inv X pins σ H s) (hN:X.N.Nodup) (hi:X.N[i]? = some x) (hx:Loc X.env.scope x) (r:A4 v u)
  (h:∀ s',Inv X pins (σ.set i (some v)) H s'→Q () s') (hf:X.fn x=true∨X.env.scope.names.lookup x=some .local:=by first | exact .inl rfl | exact .inr rfl | assumption):wpAny M A (storeName X.env x u) Q E s:=
 aV1 I hN hi hx r (fun s' I' _=>h s' I') hf
theorem Inv.call' {s':Shared} {ch:List Addr} (I:Inv X pins σ H s) (ho:s'.os=s.os) (u:Un (frs X.stack) ch H H' s.heap s'.heap) (hok:HOk X.prog X.w H' s'.heap) (hg:AllBare s'.gens)
  (hch:∀ b∈ch,(b∈X.ex∨X.s₀.heap.objs.size≤b)∧b≠X.env.locals∧(∀ x c,X.env.cells.lookup x=some c→c≠b)∧∀ p∈X.pn++pins,p.1≠b):Inv X pins σ H' s':=by
 obtain ⟨h',g',d',t',o'⟩:=s'
 have e:o'=s.os:=ho
 subst e
 exact I.call (g':=g') (t':=t') (d':=d') u hok hg hch
end
abbrev XK:=Value→Option Addr→Hp→Prop
abbrev St:=List (Option V)
abbrev VK:=V→Hp→Prop
abbrev TE:=St→Hp→VK→Prop
abbrev TT:=St→Hp→(Bool→Hp→Prop)→Prop
abbrev TA:=St→Hp→(List V→Hp→Prop)→Prop
structure ai6 where
 nx:St→Hp→Prop
 rt:VK
 bk:St→Hp→Prop:=fun _ _=>False
 ct:St→Hp→Prop:=fun _ _=>False
abbrev TS:=ai6→St→Hp→Prop
def EP (X:Cx) (pins:List (Addr × Obj)) (σ:St) (Q:VK) (u:Value) (s':Shared):Prop:=∃ v H',Inv X pins σ H' s'∧A4 v u∧Q v H'
def TP (X:Cx) (pins:List (Addr × Obj)) (σ:St) (Q:Bool→Hp→Prop) (b:Bool) (s':Shared):Prop:=∃ H',Inv X pins σ H' s'∧Q b H'
def AP (X:Cx) (pins:List (Addr × Obj)) (σ:St) (Q:List V→Hp→Prop) (us:List Value) (s':Shared):Prop:=∃ vs H',Inv X pins σ H' s'∧o0 vs us∧Q vs H'
def SP (X:Cx) (pins:List (Addr × Obj)) (D:ai6) (f:Flow) (s':Shared):Prop:=
 match f with
 | .next=>∃ σ' H',Inv X pins σ' H' s'∧D.nx σ' H'
 | .brk=>∃ σ' H',Inv X pins σ' H' s'∧D.bk σ' H'
 | .cont=>∃ σ' H',Inv X pins σ' H' s'∧D.ct σ' H'
 | .ret u=>∃ v σ' H',Inv X pins σ' H' s'∧A4 v u∧D.rt v H'
def PE (X:Cx) (e:Expr) (t:TE):Prop:=
 ∀ (pins:List (Addr × Obj)) (s:Shared) (σ:St) (H:Hp) (Q:VK),Inv X pins σ H s→t σ H Q→wpAny (model X.prog X.w) X.A (eval e X.env) (EP X pins σ Q) X.xe s
def PT (X:Cx) (e:Expr) (t:TT):Prop:=
 ∀ (pins:List (Addr × Obj)) (s:Shared) (σ:St) (H:Hp) (Q:Bool→Hp→Prop),Inv X pins σ H s→t σ H Q→wpAny (model X.prog X.w) X.A (isTrue e X.env (eval e X.env)) (TP X pins σ Q) X.xe s
def PW (X:Cx) (e:Expr) (t:TT):Prop:=
 ∀ (whole:Sem Value) (pins:List (Addr × Obj)) (s:Shared) (σ:St) (H:Hp) (Q:Bool→Hp→Prop),Inv X pins σ H s→t σ H Q→wpAny (model X.prog X.w) X.A (isTrue e X.env whole) (TP X pins σ Q) X.xe s
theorem PW.pt {X:Cx} {e:Expr} {t:TT} (h:PW X e t):PT X e t:=h _
def PA (X:Cx) (es:List Expr) (t:TA):Prop:=
 ∀ (pos:Pos) (pins:List (Addr × Obj)) (s:Shared) (σ:St) (H:Hp) (Q:List V→Hp→Prop),Inv X pins σ H s→t σ H Q→wpAny (model X.prog X.w) X.A (spliced (backTo pos (starEach es X.env))) (AP X pins σ Q) X.xe s
def PS (X:Cx) (st:Stmt) (t:TS):Prop:=
 ∀ (pins:List (Addr × Obj)) (s:Shared) (σ:St) (H:Hp) (D:ai6),Inv X pins σ H s→t D σ H→wpAny (model X.prog X.w) X.A (exec st X.env) (SP X pins D) X.xe s
def PSs (X:Cx) (st:List Stmt) (t:TS):Prop:=
 ∀ (pins:List (Addr × Obj)) (s:Shared) (σ:St) (H:Hp) (D:ai6),Inv X pins σ H s→t D σ H→wpAny (model X.prog X.w) X.A (execs st X.env) (SP X pins D) X.xe s
theorem thn {α:Type} {t:Sem α} {Q Q' : α→Shared→Prop} {M:Model} {A:Around} {E:Value→Shared→Prop} {s:Shared} (h:wpAny M A t Q E s) (hQ:∀ a s,Q a s→Q' a s):wpAny M A t Q' E s:=wpAny_mono h hQ fun _ _ x=>x
section
variable {X:Cx}
def aa6 (i:Nat):TE:=fun σ H Q=>∃ v,σ[i]? = some (some v)∧Q v H
def tC (v:V):TE:=fun _ H Q=>Q v H
theorem br8 {i:Nat} {x:Str} {pos:Pos} (hN:X.N[i]? = some x) (hv:Vis X.env.scope x) (hd:(x == ("__debug__" : Str))=false:=by decide) (hcd:(x == ("__classdict__" : Str))=false:=by decide):PE X (.Name x pos) (aa6 i):=by
 intro pins s σ H Q I h
 obtain ⟨v,e,h⟩:=h
 obtain ⟨m,hn,hl⟩:=I.loc
 obtain ⟨u,r,l⟩:=hl i x v hN e hv
 have fin:EP X pins σ Q u s:=⟨v,H,I,r,h⟩
 rcases l with ⟨hk,hm⟩ | ⟨hk,c,hc,hcell⟩
 ·exact wpAny_Name (wpAny_loadName_local I.ok.kind hk hn hm fin) hd
 ·rcases hk with hk | hk
  ·exact wpAny_Name (wpAny_loadName_cell I.ok.kind hk hc hcell fin) hd
  ·exact wpAny_Name (wpAny_loadName_free I.ok.kind hk hc hcell fin hcd) hd
theorem d4 {i j pos}:PE X (.Constant (.int i) j pos) (tC (.int i)):=fun _ _ _ H _ I h=>wpAny_Constant_int ⟨.int i,H,I.tok _,⟨_,rfl⟩,h⟩
theorem G6 {b j pos}:PE X (.Constant (.bool b) j pos) (tC (.bl b)):=fun _ _ _ H _ I h=>Constant_bool ⟨.bl b,H,I,rfl,h⟩
theorem aO9 {j pos}:PE X (.Constant .none j pos) (tC .non):=fun _ _ _ H _ I h=>Constant_none ⟨.non,H,I,rfl,h⟩
theorem W0 {x j pos}:PE X (.Constant (.str x) j pos) (tC (.str x)):=fun _ _ _ H _ I h=>Calls.Constant_str ⟨.str x,H,I.tok _,⟨_,rfl⟩,h⟩
def Gl (X:Cx) (x:Str):Prop:=X.env.kindOf x=some .globalImplicit
theorem ak7 {E:Value→Shared→Prop} {pins:List (Addr × Obj)} {s:Shared} {σ:St} {H:Hp} {x:Str} {u:Value} {pos:Pos} {Q:Value→Shared→Prop} (I:Inv X pins σ H s) (hg:Gl X x) (hm:X.mg x=some u) (h:Q u s)
  (hd:(x == ("__debug__" : Str))=false:=by decide):wpAny (model X.prog X.w) X.A (eval (.Name x pos) X.env) Q E s:=
 Calls.Name_function_global I.ok.kind hg (Calls.loadGlobal_global (by rw [I.ok.glob];exact I.mod.glob.keeps I.bk) hm h) hd
theorem ae4 {E:Value→Shared→Prop} {pins:List (Addr × Obj)} {s:Shared} {σ:St} {H:Hp} {x:Str} {u:Value} {pos:Pos} {Q:Value→Shared→Prop} (I:Inv X pins σ H s) (hg:Gl X x) (hm:X.mg x=none) (hv:bootBuiltins x=some u) (h:Q u s)
  (hn:x≠"__name__":=by decide) (hd:(x == ("__debug__" : Str))=false:=by decide):wpAny (model X.prog X.w) X.A (eval (.Name x pos) X.env) Q E s:=by
 obtain ⟨mb,h1,h2⟩:=I.mod.blt
 exact Calls.Name_function_global I.ok.kind hg (Calls.loadGlobal_builtin (by rw [I.ok.glob];exact I.mod.glob.keeps I.bk) hm (by rw [I.ok.blt];exact h1.keeps I.bk) ((h2 x hn).trans hv) h) hd
theorem v4 {x:Str} {v:V} {u:Value} {pos:Pos} (hg:Gl X x) (hm:X.mg x=some u) (r:A4 v u) (hd:(x == ("__debug__" : Str))=false:=by decide):PE X (.Name x pos) (tC v):=
 fun _ _ _ H _ I h=>ak7 I hg hm ⟨v,H,I,r,h⟩ hd
theorem W7 {x:Str} {v:V} {u:Value} {pos:Pos} (hg:Gl X x) (hm:X.mg x=none) (hv:bootBuiltins x=some u) (r:A4 v u) (hn:x≠"__name__":=by decide) (hd:(x == ("__debug__" : Str))=false:=by decide):PE X (.Name x pos) (tC v):=
 fun _ _ _ H _ I h=>ae4 I hg hm hv ⟨v,H,I,r,h⟩ hn hd
variable {a b:Expr} {ta tb:TE} {pos:Pos}
def PC (X:Cx) (op:CmpOp) (a b:Expr) (t:TE):Prop:=
 ∀ (pins:List (Addr × Obj)) (s:Shared) (σ:St) (H:Hp) (Q:VK),Inv X pins σ H s→t σ H Q →
  wpAny (model X.prog X.w) X.A (eval a X.env) (fun v s₁=>wpAny (model X.prog X.w) X.A (eval b X.env) (fun u s₂=>wpAny (model X.prog X.w) X.A (compareOp op v u) (EP X pins σ Q) X.xe s₂) X.xe s₁) X.xe s
def tB (t:TE):TT:=fun σ H Q=>t σ H fun x H1=>∃ c,x = .bl c∧Q c H1
theorem Q9 {e:Expr} {t:TE} (h:PE X e t) (he:∀ whole,isTrue e X.env whole=(do let v ←whole;standAt e.pos;holding [v] (truthy v)):=by intro _;rfl):PT X e (tB t):=by
 intro pins s σ H Q I hw
 refine isTrue_plain (thn (h pins s σ H _ I hw) fun v s1 ⟨x,H1,I1,r1,q1⟩=>?_) (he _)
 obtain ⟨d,rfl,q⟩:=q1
 cases r1
 exact wpAny_truthy_bool ⟨H1,I1,q⟩
variable {tA tB':TT} {ar0:List Expr}
def bp9 (t u:TT):TT:=fun σ H Q=>t σ H fun c H1=>if c=true then u σ H1 Q else Q false H1
def tOr (t u:TT):TT:=fun σ H Q=>t σ H fun c H1=>if c=true then Q true H1 else u σ H1 Q
def bp5 (t:TT):TT:=fun σ H Q=>t σ H fun c H1=>Q (!c) H1
theorem af7 (ha:PT X a tA):PW X (.BoolOp .And [a] pos) tA:=by
 intro wh pins s σ H Q I h
 refine isTrue_and (thn (ha pins s σ H Q I h) fun c s1 e=>?_)
 cases c with
 | true=>exact isTrue_and_nil e
 | false=>exact e
theorem V7 (ha:PT X a tA):PW X (.BoolOp .Or [a] pos) tA:=by
 intro wh pins s σ H Q I h
 refine isTrue_or (thn (ha pins s σ H Q I h) fun c s1 e=>?_)
 cases c with
 | false=>exact isTrue_or_nil e
 | true=>exact e
theorem am7 (ha:PT X a tA) (hb:PW X (.BoolOp .And (b :: ar0) pos) tB'):PW X (.BoolOp .And (a :: b :: ar0) pos) (bp9 tA tB'):=by
 intro wh pins s σ H Q I h
 refine isTrue_and (thn (ha pins s σ H _ I h) fun c s1 ⟨H1,I1,q1⟩=>?_)
 cases c with
 | true=>exact hb wh pins s1 σ H1 Q I1 q1
 | false=>exact ⟨H1,I1,q1⟩
theorem W3 (ha:PT X a tA) (hb:PW X (.BoolOp .Or (b :: ar0) pos) tB'):PW X (.BoolOp .Or (a :: b :: ar0) pos) (tOr tA tB'):=by
 intro wh pins s σ H Q I h
 refine isTrue_or (thn (ha pins s σ H _ I h) fun c s1 ⟨H1,I1,q1⟩=>?_)
 cases c with
 | true=>exact ⟨H1,I1,q1⟩
 | false=>exact hb wh pins s1 σ H1 Q I1 q1
theorem G0 (ha:PT X a tA):PT X (.UnaryOp .Not a pos) (bp5 tA):=by
 intro pins s σ H Q I h
 exact isTrue_not (ha pins s σ H (fun c H1=>Q (!c) H1) I h)
def ba5 (ta tb:TE):TE:=fun σ H Q=>ta σ H fun x H1=>∃ c,x = .bl c∧if c=true then tb σ H1 Q else Q (.bl false) H1
def aZ8 (ta:TE):TE:=fun σ H Q=>ta σ H fun x H1=>∃ c,x = .bl c∧Q (.bl (!c)) H1
theorem am9 {op} {t:TE} (h:PE X a t):PE X (.BoolOp op [a] pos) t:=fun pins s σ H Q I hw=>BoolOp_one (h pins s σ H Q I hw)
theorem ah8 (ha:PE X a ta) (hb:PE X (.BoolOp .And (b :: ar0) pos) tb):PE X (.BoolOp .And (a :: b :: ar0) pos) (ba5 ta tb):=by
 intro pins s σ H Q I h
 refine BoolOp_and (thn (ha pins s σ H _ I h) fun v s1 ⟨x,H1,I1,r1,q1⟩=>?_)
 obtain ⟨c,rfl,q1⟩:=q1
 cases r1
 refine wpAny_truthy_bool ?_
 cases c with
 | true=>exact hb pins s1 σ H1 Q I1 q1
 | false=>exact ⟨.bl false,H1,I1,rfl,q1⟩
theorem bd0 (ha:PE X a ta):PE X (.UnaryOp .Not a pos) (aZ8 ta):=by
 intro pins s σ H Q I h
 refine UnaryOp_ (thn (ha pins s σ H _ I h) fun v s1 ⟨x,H1,I1,r1,q1⟩=>?_)
 obtain ⟨c,rfl,q1⟩:=q1
 cases r1
 exact not_of (wpAny_truthy_bool ⟨.bl (!c),H1,I1,rfl,q1⟩)
def tIf (t:TT) (ta tb:TE):TE:=fun σ H Q=>t σ H fun c H1=>if c=true then ta σ H1 Q else tb σ H1 Q
theorem Y4 {c:Expr} (hc:PT X c tA) (ha:PE X a ta) (hb:PE X b tb):PE X (.IfExp c a b pos) (tIf tA ta tb):=by
 intro pins s σ H Q I h
 refine wpAny_IfExp (thn (hc pins s σ H _ I h) fun d s1 ⟨H1,I1,q1⟩=>?_)
 cases d with
 | true=>exact ha pins s1 σ H1 Q I1 q1
 | false=>exact hb pins s1 σ H1 Q I1 q1
end
def SqL (K:PySem.W.Frag) (H:Hp) (a:Addr) (xs:List V):Prop:=
 Rd H a (.lst xs) ∨
  ∃ (o:Obj) (its:Array Value) (n:Nat),K.lookup a=some o∧o.cls = .type "list" ∧ o.dict=none∧o.data = .seq its n∧its.size≤sizeLine∧o0 xs its.toList
def SqT (K:PySem.W.Frag) (H:Hp) (a:Addr) (xs:List V):Prop:=
 Rd H a (.tup xs) ∨
  ∃ (o:Obj) (its:Array Value) (n:Nat),K.lookup a=some o∧o.cls = .type "tuple" ∧ o.data = .seq its n∧its.size≤sizeLine∧o0 xs its.toList
def by6:Value→Option V
 | .none=>some .non
 | .bool b=>some (.bl b)
 | .int i _=>some (.int i)
 | .str x _=>some (.str x)
 | .bytes b _=>some (.byt b)
 | .float b _=>some (.flt b)
 | .ref a=>some (.ref a)
 | .type n=>some (.ty n)
 | _=>none
theorem A4.abs {x:V} {u:Value} (r:A4 x u):by6 u=some x:=by
 cases x with
 | non=>cases r;rfl
 | bl _=>cases r;rfl
 | int _=>obtain ⟨t,rfl⟩:=r;rfl
 | str _=>obtain ⟨t,rfl⟩:=r;rfl
 | byt _=>obtain ⟨t,rfl⟩:=r;rfl
 | flt _=>obtain ⟨t,rfl⟩:=r;rfl
 | ref _=>cases r;rfl
 | ty _=>cases r;rfl
theorem A4.inj {x y:V} {u:Value} (r:A4 x u) (q:A4 y u):x=y:=Option.some.inj (r.abs.symm.trans q.abs)
theorem o0.inj:∀ {xs ys:List V} {us:List Value},o0 xs us→o0 ys us→xs=ys
 | _,_,_,.nil,.nil=>rfl
 | _,_,_,.cons r t,.cons r' t'=>by rw [r.inj r',o0.inj t t']
section
variable {X:Cx} {pins:List (Addr × Obj)} {σ:St} {H:Hp} {s:Shared} {a:Addr} {xs ys:List V}
theorem SqL.of {K:PySem.W.Frag} (h:H a=some (.lst xs)):SqL K H a xs:=.inl (.inl h)
theorem SqT.of {K:PySem.W.Frag} (h:H a=some (.tup xs)):SqT K H a xs:=.inl (.inl h)
theorem Inv.list (I:Inv X pins σ H s) (h:SqL X.K H a xs):∃ its:List Value,o0 xs its∧PlainL s.heap a its.toArray∧xs.length≤sizeLine:=by
 rcases h with h | ⟨o,its,n,hk,hc,hd,hs,hz,r⟩
 ·obtain ⟨z,its,n,r,e⟩:=h.ok I.hok
  exact ⟨its,r,⟨_,n,e,rfl,rfl,rfl⟩,z⟩
 ·refine ⟨its.toList,r,⟨o,n,I.kIn a o hk,hc,hd,by simpa using hs⟩,?_⟩
  have e:=r.length
  simp only [Array.length_toList] at e
  lia
theorem Inv.tuple (I:Inv X pins σ H s) (h:SqT X.K H a xs):∃ its:List Value,o0 xs its∧IsTup s.heap a its.toArray∧xs.length≤sizeLine:=by
 rcases h with h | ⟨o,its,n,hk,hc,hs,hz,r⟩
 ·obtain ⟨z,its,r,p⟩:=h.ok I.hok
  exact ⟨its,r,p,z⟩
 ·refine ⟨its.toList,r,⟨o,I.kIn a o hk,hc,n,by simpa using hs⟩,?_⟩
  have e:=r.length
  simp only [Array.length_toList] at e
  omega
theorem Inv.list_inj (I:Inv X pins σ H s) (h:SqL X.K H a xs) (h':SqL X.K H a ys):xs=ys:=by
 obtain ⟨its,r,⟨o,n,e,_,_,d⟩,_⟩:=I.list h
 obtain ⟨its',r',⟨o',n',e',_,_,d'⟩,_⟩:=I.list h'
 rw [e] at e';cases e'
 rw [d] at d'
 injection d' with d1 _
 have:its=its':=by simpa using congrArg Array.toList d1
 subst this
 exact r.inj r'
theorem Inv.tuple_inj (I:Inv X pins σ H s) (h:SqT X.K H a xs) (h':SqT X.K H a ys):xs=ys:=by
 obtain ⟨its,r,⟨o,e,_,n,d⟩,_⟩:=I.tuple h
 obtain ⟨its',r',⟨o',e',_,n',d'⟩,_⟩:=I.tuple h'
 rw [e] at e';cases e'
 rw [d] at d'
 injection d' with d1 _
 have:its=its':=by simpa using congrArg Array.toList d1
 subst this
 exact r.inj r'
end
abbrev Cx.wish (X:Cx) (E:Value→Shared→Prop):Cx:={ X with xe:=E }
abbrev Cx.nox (X:Cx):Cx:=X.wish fun _ _=>False
theorem Cx.Ok.wish {X:Cx} (ok:X.Ok) (E:Value→Shared→Prop):(X.wish E).Ok:=
 ⟨ok.mod,ok.kind,ok.glob,ok.blt,ok.above,ok.inj,ok.has,ok.cab,ok.hd,ok.frames,ok.stk,ok.exf,ok.bs,ok.bsz,ok.noex,ok.exfs,ok.funs,ok.frf⟩
theorem Cx.Ok.unwish {X:Cx} {E:Value→Shared→Prop} (ok:(X.wish E).Ok):X.Ok:=
 ⟨ok.mod,ok.kind,ok.glob,ok.blt,ok.above,ok.inj,ok.has,ok.cab,ok.hd,ok.frames,ok.stk,ok.exf,ok.bs,ok.bsz,ok.noex,ok.exfs,ok.funs,ok.frf⟩
section
variable {X:Cx} {pins:List (Addr × Obj)} {σ:St} {H:Hp} {s:Shared} {E:Value→Shared→Prop}
theorem Inv.wish (I:Inv X pins σ H s) (E:Value→Shared→Prop):Inv (X.wish E) pins σ H s:=⟨I.ok.wish E,I.os,I.bare,I.base,I.loc,I.cell,I.free,I.freeC,I.pin,I.hok,I.len⟩
theorem Inv.unwish (I:Inv (X.wish E) pins σ H s):Inv X pins σ H s:=⟨I.ok.unwish,I.os,I.bare,I.base,I.loc,I.cell,I.free,I.freeC,I.pin,I.hok,I.len⟩
theorem SP.unwish {D:ai6} {f:Flow} {s':Shared} (h:SP (X.wish E) pins D f s'):SP X pins D f s':=by
 cases f with
 | next=>obtain ⟨σ',H',I,q⟩:=h;exact ⟨σ',H',I.unwish,q⟩
 | brk=>obtain ⟨σ',H',I,q⟩:=h;exact ⟨σ',H',I.unwish,q⟩
 | cont=>obtain ⟨σ',H',I,q⟩:=h;exact ⟨σ',H',I.unwish,q⟩
 | ret u=>obtain ⟨v,σ',H',I,r,q⟩:=h;exact ⟨v,σ',H',I.unwish,r,q⟩
theorem PSs.nox {st:List Stmt} {t:TS} (h:PSs X.nox st t):PSs X st t:=fun pins s σ H D I hw=>
 wpAny_mono (h pins s σ H D (I.wish _) hw) (fun _ _ q=>q.unwish) fun _ _ z=>False.elim z
end
section
variable {X:Cx} {st:Stmt} {ar0:List Stmt} {t u:TS} {e:Expr} {te:TE} {pos:Pos}
def aZ9:TS:=fun D σ H=>D.nx σ H
def bi0 (t u:TS):TS:=fun D σ H=>t { D with nx:=u D } σ H
theorem m8:PSs X [] aZ9:=fun _ _ σ H _ I h=>wpAny_execs_nil ⟨σ,H,I,h⟩
theorem b9 (h1:PS X st t) (h2:PSs X ar0 u):PSs X (st :: ar0) (bi0 t u):=by
 intro pins s σ H D I h
 refine wpAny_execs_cons (thn (h1 pins s σ H { D with nx:=u D } I h) fun f s1 q=>?_)
 cases f with
 | next=>
  obtain ⟨σ',H',I',q⟩:=q
  exact h2 pins s1 σ' H' D I' q
 | ret v=>exact q
 | brk=>exact q
 | cont=>exact q
theorem d7 (h1:PS X st t):PSs X [st] t:=by
 intro pins s σ H D I h
 refine wpAny_execs_cons (thn (h1 pins s σ H D I h) fun f s1 q=>?_)
 cases f with
 | next=>exact wpAny_execs_nil q
 | ret v=>exact q
 | brk=>exact q
 | cont=>exact q
theorem Inv.quiet {pins:List (Addr × Obj)} {σ:St} {H:Hp} {s:Shared} (I:Inv X pins σ H s):interactive X.env=false:=by simp [interactive,I.ok.kind]
def ba1 (te:TE):TS:=fun D σ H=>te σ H fun _ H1=>D.nx σ H1
theorem af8 (he:PE X e te) (hs:swapsWith e none pos.line X.env=pure false:=by rfl):PS X (.Expr e pos) (ba1 te):=by
 intro pins s σ H D I h
 exact wpAny_Expr_any (thn (he pins s σ H _ I h) fun v s1 ⟨x,H1,I1,r1,q1⟩=>⟨σ,H1,I1,q1⟩) I.quiet hs
def bi1 (te:TE):TS:=fun D σ H=>te σ H D.rt
theorem g8 (he:PE X e te):PS X (.Return (some e) pos) (bi1 te):=by
 intro pins s σ H D I h
 exact wpAny_Return_some (thn (he pins s σ H _ I h) fun v s1 ⟨x,H1,I1,r1,q1⟩=>⟨x,σ,H1,I1,r1,q1⟩)
def bp7 (c:TT) (t u:TS):TS:=fun D σ H=>c σ H fun b H1=>if b=true then t D σ H1 else u D σ H1
theorem A0 {c:Expr} {a b:List Stmt} {tc:TT} (hc:PT X c tc) (ha:PSs X a t) (hb:PSs X b u):PS X (.If c a b pos) (bp7 tc t u):=by
 intro pins s σ H D I h
 refine wpAny_If (thn (hc pins s σ H _ I h) fun d s1 ⟨H1,I1,q1⟩=>?_)
 cases d with
 | true=>exact ha pins s1 σ H1 D I1 q1
 | false=>exact hb pins s1 σ H1 D I1 q1
def aN8:TS:=fun _ _ _=>False
theorem aj7:PS X st aN8:=fun _ _ _ _ _ _ h=>h.elim
end
abbrev TG:=V→St→Hp→(St→Hp→Prop)→Prop
abbrev TGs:=List V→St→Hp→(St→Hp→Prop)→Prop
def PG (X:Cx) (target:Expr) (t:TG):Prop:=
 ∀ (pins:List (Addr × Obj)) (s:Shared) (σ:St) (H:Hp) (v:V) (u:Value) (Q:St→Hp→Prop),Inv X pins σ H s→A4 v u→t v σ H Q →
  wpAny (model X.prog X.w) X.A (assign target X.env u) (fun _ s'=>∃ σ' H',Inv X pins σ' H' s'∧Q σ' H') X.xe s
def PGs (X:Cx) (ts:List Expr) (t:TGs):Prop:=
 ∀ (pins:List (Addr × Obj)) (s:Shared) (σ:St) (H:Hp) (vs:List V) (us:List Value) (Q:St→Hp→Prop),Inv X pins σ H s→o0 vs us→t vs σ H Q →
  wpAny (model X.prog X.w) X.A (assignInOrder ((assignEach ts X.env).map (·.2)) us) (fun _ s'=>∃ σ' H',Inv X pins σ' H' s'∧Q σ' H') X.xe s
abbrev bh4:=V→V→V→Hp→(Hp→Prop)→Prop
def bv5 (X:Cx) (t:bh4):Prop:=
 ∀ (pins:List (Addr × Obj)) (s:Shared) (σ:St) (H:Hp) (o i v:V) (ov iv u:Value) (Q:Hp→Prop),Inv X pins σ H s→A4 o ov→A4 i iv→A4 v u→t o i v H Q →
  wpAny (model X.prog X.w) X.A (setItem ov iv u) (fun _ s'=>∃ H',Inv X pins σ H' s'∧Q H') X.xe s
abbrev TIp:=V→V→Hp→VK→Prop
def PIp (X:Cx) (op:Operator) (t:TIp):Prop:=
 ∀ (pins:List (Addr × Obj)) (s:Shared) (σ:St) (H:Hp) (x y:V) (v u:Value) (Q:VK),Inv X pins σ H s→A4 x v→A4 y u→t x y H Q →
  wpAny (model X.prog X.w) X.A (inplaceOp op v u) (EP X pins σ Q) X.xe s
section
variable {X:Cx} {pos:Pos}
def n8 (i:Nat):TG:=fun v σ H Q=>Q (σ.set i (some v)) H
theorem e8 {i:Nat} {x:Str} (hN:X.N.Nodup) (hi:X.N[i]? = some x) (hx:Loc X.env.scope x) (hf:X.fn x=true∨X.env.scope.names.lookup x=some .local:=by first | exact .inl rfl | exact .inr rfl | assumption):PG X (.Name x pos) (n8 i):=by
 intro pins s σ H v u Q I r h
 exact wpAny_assign_Name (aa7 I hN hi hx r (fun s' I'=>⟨_,H,I',h⟩) hf)
def P4:TGs:=fun vs σ H Q=>vs=[]∧Q σ H
def p5 (t:TG) (u:TGs):TGs:=fun vs σ H Q=>∃ v r,vs=v :: r∧t v σ H fun σ' H'=>u r σ' H' Q
theorem v9:PGs X [] P4:=by
 intro pins s σ H vs us Q I r h
 obtain ⟨e,h⟩:=h
 subst e
 cases r
 exact assignInOrder_nil ⟨σ,H,I,h⟩
theorem g7 {e:Expr} {es:List Expr} {t:TG} {u:TGs} (h1:PG X e t) (h2:PGs X es u)
  (hs:(assignEach (e :: es) X.env).map (·.2)=assign e X.env :: (assignEach es X.env).map (·.2):=by rfl):PGs X (e :: es) (p5 t u):=by
 intro pins s σ H vs us Q I r h
 obtain ⟨v,vr,e1,h⟩:=h
 subst e1
 cases r with
 | cons r rr=>
  rw [hs]
  refine assignInOrder_cons (thn (h1 pins s σ H _ _ _ I r h) fun _ s1 ⟨σ1,H1,I1,q1⟩=>?_)
  exact h2 pins s1 σ1 H1 _ _ Q I1 rr q1
def P3 (K:PySem.W.Frag) (n:Nat) (t:TGs):TG:=fun v σ H Q=>∃ a xs,v = .ref a∧SqT K H a xs∧xs.length=n∧t xs σ H Q
theorem B5 {es:List Expr} {k:Nat} {t:TGs} {n:Nat} (hc:X.calm=true) (h:PGs X es t)
  (hn:(assignEach es X.env).length=n:=by rfl) (hst:(assignEach es X.env).findIdx? (·.1)=none:=by rfl):PG X (.Tuple es k pos) (P3 X.K n t):=by
 intro pins s σ H v u Q I r hw
 obtain ⟨a,xs,e1,hq,hl,hw⟩:=hw
 subst e1
 cases r
 obtain ⟨its,rv,ht,hz⟩:=I.tuple hq
 refine assign_Tuple_tuple (I.ok.hd hc) ht (by simp [hn,←hl,rv.length]) hst fun h' hx=>?_
 have I1:Inv X pins σ H { s with heap:=h' }:=I.kept (t':=s.toks) fun b o e=>hx b o (Nat.ne_of_lt (Heap.lt_size e)) e
 exact h pins _ σ H xs _ Q I1 (by simpa using rv) hw
def bu3 (to ti:TE) (t:bh4):TG:=fun v σ H Q=>to σ H fun o H1=>ti σ H1 fun i H2=>t o i v H2 fun H3=>Q σ H3
theorem aF8 {o i:Expr} {to ti:TE} {t:bh4} (ho:PE X o to) (hi:PE X i ti) (hs:bv5 X t)
  (ha:∀ v,assign (.Subscript o i pos) X.env v=(do
   let ov ←holding [v] (eval o X.env)
   let iv ←holding [v,ov] (eval i X.env)
   standAt pos
   holding [v,ov,iv] (setItem ov iv v)
   release [v,ov,iv] []):=by intro _;rfl):PG X (.Subscript o i pos) (bu3 to ti t):=by
 intro pins s σ H v u Q I r h
 rw [ha]
 refine wpAny_bind (wpAny_holding (thn (ho pins s σ H _ I h) fun ov s1 ⟨x,H1,I1,r1,q1⟩=>?_))
 refine wpAny_bind (wpAny_holding (thn (hi pins s1 σ H1 _ I1 q1) fun iv s2 ⟨y,H2,I2,r2,q2⟩=>?_))
 refine wpAny_bind (wpAny_standAt (wpAny_bind (wpAny_holding (thn (hs pins s2 σ H2 x y v ov iv u _ I2 r1 r2 r q2) fun _ s3 ⟨H3,I3,q3⟩=>?_))))
 exact wpAny_release ⟨σ,H3,I3,q3⟩
def ba4 (te:TE) (g:TG):TS:=fun D σ H=>te σ H fun x H1=>g x σ H1 D.nx
theorem K8 {tg e:Expr} {te:TE} {g:TG} (he:PE X e te) (hg:PG X tg g) (hs:swapsWithSole [tg] e pos.line X.env=pure false:=by rfl) (hw:swappedStores [tg] e X.env=pure none:=by rfl)
  (h1:(assignEach [tg] X.env).map (·.2)=[assign tg X.env]:=by rfl):PS X (.Assign [tg] e pos) (ba4 te g):=by
 intro pins s σ H D I h
 refine wpAny_Assign_stores (thn (he pins s σ H _ I h) fun v s1 ⟨x,H1,I1,r1,q1⟩=>?_) hs hw
 rw [h1]
 exact thn (hg pins s1 σ H1 x v _ I1 r1 q1) fun _ s2 q=>q
theorem i7 {i:Nat} {x:Str} {e:Expr} {te:TE} {pos':Pos} (hN:X.N.Nodup) (hi:X.N[i]? = some x) (hx:Loc X.env.scope x) (he:PE X e te) (hs:swapsWith e (some (.Name x pos')) pos.line X.env=pure false:=by rfl) (hf:X.fn x=true∨X.env.scope.names.lookup x=some .local:=by first | exact .inl rfl | exact .inr rfl | assumption) :
  PS X (.Assign [.Name x pos'] e pos) (ba4 te (n8 i)):=by
 intro pins s σ H D I h
 refine wpAny_Assign_Name (thn (he pins s σ H _ I h) fun v s1 ⟨y,H1,I1,r1,q1⟩=>?_) hs
 exact aa7 I1 hN hi hx r1 (fun s2 I2=>⟨_,H1,I2,q1⟩) hf
def bi2 (i j:Nat) (ta:TA):TS:=fun D σ H=>ta σ H fun vs H1=>∃ v w,vs=[v,w]∧D.nx ((σ.set i (some v)).set j (some w)) H1
theorem V8 {i j:Nat} {x y:Str} {a b:Expr} {ta:TA} {px py pt:Pos} {kt k2 pt2} (hc:X.calm=true) (hN:X.N.Nodup) (hi:X.N[i]? = some x) (hj:X.N[j]? = some y) (hij:i≠j)
  (hx:X.env.scope.names.lookup x=some .local) (hy:X.env.scope.names.lookup y=some .local) (ha:PA X [a,b] ta)
  (hw:swappedStores [.Tuple [.Name x px,.Name y py] kt pt] (.Tuple [a,b] k2 pt2) X.env=pure (some [x,y]))
  (hs:swapsWithSole [.Tuple [.Name x px,.Name y py] kt pt] (.Tuple [a,b] k2 pt2) pos.line X.env=pure false:=by rfl) :
  PS X (.Assign [.Tuple [.Name x px,.Name y py] kt pt] (.Tuple [a,b] k2 pt2) pos) (bi2 i j ta):=by
 intro pins s σ H D I h
 rw [exec_Assign_arm]
 refine wpAny_bind (wpAny_standAt ?_)
 rw [hs]
 refine wpAny_bind (wpAny_pure ?_)
 rw [if_neg (by decide)]
 refine wpAny_bind (Tuple_ (thn (ha _ pins s σ H _ I h) fun us s1 ⟨vs,H1,I1,r1,q1⟩=>?_))
 obtain ⟨v,w,e1,q1⟩:=q1
 subst e1
 obtain ⟨u1,u2,rfl,rv,rw'⟩:∃ u1 u2,us=[u1,u2]∧A4 v u1∧A4 w u2:=by
  cases r1 with
  | cons p q=>
   cases q with
   | cons p' q'=>
    cases q'
    exact ⟨_,_,rfl,p,p'⟩
 refine wpAny_newObj_type ?_ (by show 2≤sizeLine;decide)
 have I2:Inv X pins σ H1 { s1 with heap:=s1.heap.push { cls:=.type "tuple",data:=.seq [u1,u2].toArray } }:=I1.kept (t':=s1.toks) fun b o e=>Heap.get?_push_of_some _ e
 rw [hw]
 refine wpAny_bind (wpAny_pure ?_)
 show wpAny (model X.prog X.w) X.A (do rule "assign.swapped-stores";let items ←unpackItems (.ref s1.heap.objs.size) 2 none;assignInOrder [fun v=>bindName X.env y v,fun v=>bindName X.env x v] items.reverse;pure Flow.next) _ _ _
 refine wpAny_bind (wpAny_rule (wpAny_bind (unpackItems_tuple (items:=#[u1,u2]) (I.ok.hd hc) (IsTup.new s1.heap _) fun h' hx'=>?_)))
 have I3:=I2.kept (h':=h') (t':=s1.toks) fun b o e=>hx' b o (Nat.ne_of_lt (Heap.lt_size e)) e
 show wpAny _ _ (assignInOrder [fun v=>bindName X.env y v,fun v=>bindName X.env x v] [u2,u1] >>= fun _=>pure Flow.next) _ _ _
 refine wpAny_bind (assignInOrder_cons (wpAny_bindName (aa7 I3 hN hj (.inl hy) rw' (fun s2 I4=>?_) (.inr hy))))
 refine assignInOrder_cons (wpAny_bindName (aa7 I4 hN hi (.inl hx) rv (fun s3 I5=>assignInOrder_nil (wpAny_pure ?_)) (.inr hx)))
 rw [List.set_comm _ _ (Ne.symm hij)] at I5
 exact ⟨_,H1,I5,q1⟩
def bp8 (i:Nat) (te:TE) (ti:TIp):TS:=fun D σ H=>∃ x,σ[i]? = some (some x)∧te σ H fun y H1=>ti x y H1 fun z H2=>D.nx (σ.set i (some z)) H2
theorem aO7 {i:Nat} {x:Str} {e:Expr} {te:TE} {op:Operator} {ti:TIp} {pos':Pos} (hN:X.N.Nodup) (hi:X.N[i]? = some x) (hx:Loc X.env.scope x) (he:PE X e te) (ho:PIp X op ti) (hf:X.fn x=true∨X.env.scope.names.lookup x=some .local:=by first | exact .inl rfl | exact .inr rfl | assumption) :
  PS X (.AugAssign (.Name x pos') op e pos) (bp8 i te ti):=by
 intro pins s σ H D I h
 obtain ⟨v,e1,h⟩:=h
 obtain ⟨m,hn,hl⟩:=I.loc
 have vis:Vis X.env.scope x:=by rcases hx with k | k;exact .inl k;exact .inr (.inl k)
 obtain ⟨u,r,l⟩:=hl i x v hi e1 vis
 refine wpAny_AugAssign_Name ?_
 have go:wpAny (model X.prog X.w) X.A (eval e X.env) (fun w s₂=>wpAny (model X.prog X.w) X.A (inplaceOp op u w) (fun r s₃=>wpAny (model X.prog X.w) X.A (storeName X.env x r) (fun _=>SP X pins D .next) X.xe s₃) X.xe s₂) X.xe s:=by
  refine thn (he pins s σ H _ I h) fun w s1 ⟨y,H1,I1,r1,q1⟩=>?_
  refine thn (ho pins s1 σ H1 v y u w _ I1 r r1 q1) fun z s2 ⟨zv,H2,I2,r2,q2⟩=>?_
  exact aa7 I2 hN hi hx r2 (fun s3 I3=>⟨_,H2,I3,q2⟩) hf
 rcases l with ⟨hk,hm⟩ | ⟨hk,c,hc,hcell⟩
 ·exact wpAny_loadName_local I.ok.kind hk hn hm go
 ·rcases hk with hk | hk
  ·exact wpAny_loadName_cell I.ok.kind hk hc hcell go
  ·rcases hx with k | k
   ·have:X.env.scope.names.lookup x=some .free:=hk
    rw [k] at this;cases this
   ·have:X.env.scope.names.lookup x=some .free:=hk
    rw [k] at this;cases this
def ba3 (to ti te:TE) (tget:V→V→Hp→VK→Prop) (tip:TIp) (tset:bh4):TS:=fun D σ H=>to σ H fun o H1=>ti σ H1 fun i H2=>tget o i H2 fun x H3=>te σ H3 fun y H4=>tip x y H4 fun z H5=>tset o i z H5 fun H6=>D.nx σ H6
def bx9 (X:Cx) (t:V→V→Hp→VK→Prop):Prop:=
 ∀ (pins:List (Addr × Obj)) (s:Shared) (σ:St) (H:Hp) (o i:V) (ov iv:Value) (Q:VK),Inv X pins σ H s→A4 o ov→A4 i iv→t o i H Q →
  wpAny (model X.prog X.w) X.A (getItem ov iv) (EP X pins σ Q) X.xe s
theorem aF6 {o i e:Expr} {to ti te:TE} {tget:V→V→Hp→VK→Prop} {tip:TIp} {tset:bh4} {op:Operator} {tpos:Pos} (ho:PE X o to) (hi:PE X i ti) (hg:bx9 X tget) (he:PE X e te) (hp:PIp X op tip) (hs:bv5 X tset)
  (ha:∀ ov iv new,augStore i ov iv new=(do holding [new,ov,iv] (setItem ov iv new);release [new,ov,iv] [];pure .next):=by intros;rfl):PS X (.AugAssign (.Subscript o i tpos) op e pos) (ba3 to ti te tget tip tset):=by
 intro pins s σ H D I h
 refine wpAny_AugAssign_SubscriptAny (thn (ho pins s σ H _ I h) fun ov s1 ⟨x1,H1,I1,r1,q1⟩=>?_) ha
 refine thn (hi pins s1 σ H1 _ I1 q1) fun iv s2 ⟨x2,H2,I2,r2,q2⟩=>?_
 refine thn (hg pins s2 σ H2 x1 x2 ov iv _ I2 r1 r2 q2) fun old s3 ⟨x3,H3,I3,r3,q3⟩=>?_
 refine thn (he pins s3 σ H3 _ I3 q3) fun v s4 ⟨x4,H4,I4,r4,q4⟩=>?_
 refine thn (hp pins s4 σ H4 x3 x4 old v _ I4 r3 r4 q4) fun new s5 ⟨x5,H5,I5,r5,q5⟩=>?_
 exact thn (hs pins s5 σ H5 x1 x2 x5 ov iv new _ I5 r1 r2 r5 q5) fun _ s6 ⟨H6,I6,q6⟩=>⟨σ,H6,I6,q6⟩
def ipI (f:Int→Int→Int):TIp:=fun x y H Q=>∃ i j,x = .int i∧y = .int j∧Q (.int (f i j)) H
theorem bf1:PIp X .Add (ipI fun i j=>i+j):=by
 intro pins s σ H x y v u Q I r1 r2 h
 obtain ⟨i,j,e1,e2,q⟩:=h
 subst e1;subst e2
 obtain ⟨t,rfl⟩:=r1
 obtain ⟨t',rfl⟩:=r2
 exact iadd_int ⟨.int _,H,I.tok _,⟨_,rfl⟩,q⟩
theorem aQ7:PIp X .Sub (ipI fun i j=>i - j):=by
 intro pins s σ H x y v u Q I r1 r2 h
 obtain ⟨i,j,e1,e2,q⟩:=h
 subst e1;subst e2
 obtain ⟨t,rfl⟩:=r1
 obtain ⟨t',rfl⟩:=r2
 exact isub_int ⟨.int _,H,I.tok _,⟨_,rfl⟩,q⟩
end
section
variable {X:Cx} {pos:Pos}
def am0 (c:TT) (tb:TS):TS:=fun D σ H=>∃ W:Nat→St→Hp→Prop,(∃ m,W m σ H)∧∀ m σ H,W m σ H →
 c σ H fun b H1=>if b=true then ∃ N:St→Hp→Prop,(∀ σ' H',N σ' H'→∃ m',m'<m∧W m' σ' H')∧tb { D with nx:=N,ct:=N,bk:=D.nx } σ H1 else D.nx σ H1
theorem V1 {c:Expr} {body:List Stmt} {tc:TT} {tb:TS} (hp:PassesOwn (model X.prog X.w) X.A X.env X.xe) (hc:PT X c tc) (hb:PSs X body tb):PS X (.While c body [] pos) (am0 tc tb):=by
 intro pins s σ H D I h
 obtain ⟨W,⟨m0,w0⟩,turn⟩:=h
 refine wpAny_While (codeAny_whileLoop (fun n s'=>∃ σ' H',Inv X pins σ' H' s'∧W n σ' H') ?_ m0 ⟨σ,H,I,w0⟩)
 rintro n s1 ⟨σ1,H1,I1,w1⟩
 refine wpAny_passesOwn hp (thn (hc pins s1 σ1 H1 _ I1 (turn n σ1 H1 w1)) fun b s2 ⟨H2,I2,q2⟩=>?_)
 cases b with
 | true=>
  obtain ⟨N,hN,q2⟩:=q2
  rw [if_pos rfl]
  refine wpAny_passesOwn hp (thn (hb pins s2 σ1 H2 _ I2 q2) fun f s3 q3=>?_)
  cases f with
  | next=>
   obtain ⟨σ3,H3,I3,n3⟩:=q3
   obtain ⟨m',hm,w3⟩:=hN σ3 H3 n3
   exact ⟨m',hm,σ3,H3,I3,w3⟩
  | cont=>
   obtain ⟨σ3,H3,I3,n3⟩:=q3
   obtain ⟨m',hm,w3⟩:=hN σ3 H3 n3
   exact ⟨m',hm,σ3,H3,I3,w3⟩
  | brk=>exact q3
  | ret v=>exact q3
 | false=>
  rw [if_neg Bool.false_ne_true]
  exact wpAny_execs_nil ⟨σ1,H2,I2,q2⟩
end
structure It where
 go:Nat→Hp→Prop
 yld:Nat→Hp→V→Hp→Prop
 stop:Nat→Hp→Prop
def ar9 (X:Cx) (pins:List (Addr × Obj)) (H:Hp) (b:Addr):Prop:=
 H b=none∧b≠X.env.locals∧b ∉ X.fs∧(b∈X.ex∨X.s₀.heap.objs.size≤b)∧(∀ x c,X.env.cells.lookup x=some c→c≠b)∧∀ p∈X.pn++pins,p.1≠b
theorem Inv.fpOk {X:Cx} {pins:List (Addr × Obj)} {σ:St} {H H':Hp} {s:Shared} {b:Addr} (I:Inv X pins σ H s) (hb:s.heap.objs.size≤b) (hn:H' b=none):ar9 X pins H' b:=by
 refine ⟨hn,Nat.ne_of_gt (Nat.lt_of_lt_of_le I.lt hb),I.nofs hb,.inr (Nat.le_trans I.sz hb),fun x c e z=>?_,fun p hp z=>?_⟩
 ·obtain ⟨v,q⟩:=I.cell x c e
  exact absurd (Nat.lt_of_lt_of_le q.lt (by rw [z];exact hb)) (Nat.lt_irrefl _)
 ·exact absurd (Nat.lt_of_lt_of_le (Heap.lt_size (I.pin p hp).1) (by rw [z];exact hb)) (Nat.lt_irrefl _)
structure aY7 (P:Program) (w:World) (K:PySem.W.Frag) (tg:Expr) (J:It) (fp:List Addr) (it:Addr) (tn:Nat→Heap→Prop):Prop where
 mem:it∈fp
 obj:∀ i h,tn i h→∀ b∈fp,∃ o,h.get? b=some o∧∀ v,o.data≠.cell v
 keep:∀ i h h',tn i h→(∀ b∈fp,∀ o,h.get? b=some o→h'.get? b=some o)→tn i h'
 item:∀ (X:Cx),X.prog=P→X.w=w→X.K=K→X.calm=true→∀ (i:Nat) (pins:List (Addr × Obj)) (s:Shared) (σ:St) (H:Hp) (E:Value→Shared→Prop),Inv X pins σ H s→(∀ b∈fp,ar9 X pins H b)→tn i s.heap→J.go i H →
  wpAny (model P w) X.A (pyNext (.ref it)) (fun r s1=>∃ u,r=some u ∧
   wpAny (model P w) X.A (letOwnedTupleGo tg (.ref it) u) (fun _ s2=>∃ x H',Inv X pins σ H' s2∧A4 x u∧J.yld i H x H'∧tn (i+1) s2.heap∧∀ b∈fp,H' b=none) E s1) E s
 done:∀ (X:Cx),X.prog=P→X.w=w→X.K=K→X.calm=true→∀ (i:Nat) (pins:List (Addr × Obj)) (s:Shared) (σ:St) (H:Hp) (E:Value→Shared→Prop),Inv X pins σ H s→(∀ b∈fp,ar9 X pins H b)→tn i s.heap→J.stop i H →
  wpAny (model P w) X.A (pyNext (.ref it)) (fun r s1=>r=none∧Inv X pins σ H s1) E s
 self:∀ (A:Around) (i:Nat) (s:Shared) (Q:Value→Shared→Prop) (E:Value→Shared→Prop),tn i s.heap→Q (.ref it) s→wpAny (model P w) A (pyIter (.ref it)) Q E s
abbrev TI:=St→Hp→(It→Hp→Prop)→Prop
def PIE (X:Cx) (pins:List (Addr × Obj)) (σ:St) (tg:Expr) (R:It→Hp→Prop) (itv:Value) (s2:Shared):Prop:=
 ∃ (it:Addr) (fp:List Addr) (tn:Nat→Heap→Prop) (J:It) (H':Hp),itv = .ref it∧Inv X pins σ H' s2∧aY7 X.prog X.w X.K tg J fp it tn∧tn 0 s2.heap∧(∀ b∈fp,ar9 X pins H' b)∧R J H'
def PI (X:Cx) (tg iter:Expr) (wi:TI):Prop:=
 ∀ (pins:List (Addr × Obj)) (s:Shared) (σ:St) (H:Hp) (R:It→Hp→Prop),Inv X pins σ H s→wi σ H R →
  wpAny (model X.prog X.w) X.A (eval iter X.env) (fun v s1=>wpAny (model X.prog X.w) X.A (pyIter v) (PIE X pins σ tg R) X.xe s1) X.xe s
theorem bf8 {M:Model} {A:Around} {E:Value→Shared→Prop} {s:Shared} {tg:Expr} {it:Addr} {u:Value} {o:Obj} {n:String} {vs:Array Value} {Q:Unit→Shared→Prop} (ho:s.heap.get? it=some o) (hc:o.cls = .type n) (hd:o.data = .fields vs)
    (hn:["enumerate","zip","dict_itemiterator","dict_reverseitemiterator","odict_iterator","itertools.zip_longest","itertools.pairwise"].contains n=false) (hQ:Q () s):wpAny M A (letOwnedTupleGo tg (.ref it) u) Q E s:=by
  unfold letOwnedTupleGo
  cases tg <;> first
    | exact wpAny_pure hQ
    | (cases u <;> first
        | exact wpAny_pure hQ
        | (refine wpAny_bind (wpAny_load ho ?_)
           rw [hc,hd]
           show wpAny M A (if (["enumerate","zip","dict_itemiterator","dict_reverseitemiterator","odict_iterator","itertools.zip_longest","itertools.pairwise"].contains n && vs[0]? == some (rawInt _))=true then _ else _) Q E s
           rw [if_neg (by intro h;rw [hn,Bool.false_and] at h;cases h)]
           exact wpAny_pure hQ))
def Itl (K:PySem.W.Frag) (a:Addr):It:=
 ⟨fun i H=>∃ xs x,SqL K H a xs∧xs[i]? = some x,fun i H x H'=>H'=H∧∀ xs,SqL K H a xs→xs[i]? = some x,fun i H=>∃ xs,SqL K H a xs∧xs.length≤i⟩
def Itr (lo:Int) (n:Nat):It:=⟨fun i _=>i<n,fun i H x H'=>H'=H∧x = .int (lo+i),fun i _=>n≤i⟩
theorem aU9 {P:Program} {w:World} {K:PySem.W.Frag} {tg:Expr} (a it:Addr):aY7 P w K tg (Itl K a) [it] it (fun i h=>h.IsListIter it a i) where
 mem:=by simp
 obj:=fun i h st b hb=>by
  have e:b=it:=by simpa using hb
  subst e
  obtain ⟨o,e,c,d⟩:=st
  exact ⟨o,e,fun v z=>by rw [d] at z;cases z⟩
 keep:=fun i h h' st k=>st.at fun o e=>k it (by simp) o e
 item:=by
  intro X hP hw hK hc i pins s σ H E I hf st hg
  subst hP hw hK
  obtain ⟨xs,x,hq,hx⟩:=hg
  obtain ⟨its,rv,p,hz⟩:=I.list hq
  obtain ⟨u,hu,ru⟩:=rv.get hx
  obtain ⟨f0,f1,f2,f3,f4,f5⟩:=hf it (by simp)
  refine wpAny_pyNext_list_item st p.isList (x:=u) (by simpa using hu) fun h' st' sb=>?_
  have I1:Inv X pins σ H { s with heap:=h' }:=I.turned (t':=s.toks) (fun b o hb e=>(sb.2 b hb).trans e) f0 f1 f3 f4 f5
  obtain ⟨o,e,c,d⟩:=id st'
  exact ⟨u,rfl,bf8 (s:={ s with heap:=h' }) e c d (by decide) ⟨x,H,I1,ru,⟨rfl,fun ys hy=>by rw [I.list_inj hy hq];exact hx⟩,st',fun b hb=>(hf b hb).1⟩⟩
 done:=by
  intro X hP hw hK hc i pins s σ H E I hf st hg
  subst hP hw hK
  obtain ⟨xs,hq,hx⟩:=hg
  obtain ⟨its,rv,p,hz⟩:=I.list hq
  obtain ⟨f0,f1,f2,f3,f4,f5⟩:=hf it (by simp)
  have hl:=rv.length
  exact wpAny_pyNext_list_end (I.ok.hd hc) st p.isList (by simp;lia) fun h' eb=>⟨rfl,I.turned (t':=s.toks) (fun b o hb e=>eb b o hb e) f0 f1 f3 f4 f5⟩
 self:=fun _ _ _ _ _ st h=>wpAny_pyIter_listiter st h
theorem aN5 {P:Program} {w:World} {K:PySem.W.Frag} {tg:Expr} (it:Addr) (lo:Int) (n:Nat):aY7 P w K tg (Itr lo n) [it] it (fun i h=>IsRangeIter h it (lo+(i:Nat) * 1) ((n:Int) - (i:Nat)) 1) where
 mem:=by simp
 obj:=fun i h st b hb=>by
  have e:b=it:=by simpa using hb
  subst e
  exact ⟨_,st,fun v z=>by
   have z':Data.fields _=Data.cell v:=z
   cases z'⟩
 keep:=fun i h h' st k=>k it (by simp) _ st
 item:=by
  intro X hP hw hK hc i pins s σ H E I hf st hg
  subst hP hw hK
  obtain ⟨f0,f1,f2,f3,f4,f5⟩:=hf it (by simp)
  have W:=Walks.range (prog:=X.prog) (w:=X.w) (I.ok.hd hc) it lo 1 n
  refine W.item i s _ _ hg st fun v h' tk hv st' kk=>?_
  obtain ⟨t,rfl⟩:=hv
  have I1:Inv X pins σ H { s with heap:=h',toks:=tk }:=I.turned (fun b o hb e=>kk b o (by simpa using hb) e) f0 f1 f3 f4 f5
  refine ⟨_,rfl,bf8 (s:={ s with heap:=h',toks:=tk }) (n:="range_iterator") st' rfl rfl (by decide) ⟨.int (lo+i),H,I1,⟨t,?_⟩,⟨rfl,rfl⟩,st',fun b hb=>(hf b hb).1⟩⟩
  rw [Int.mul_one]
 done:=by
  intro X hP hw hK hc i pins s σ H E I hf st hg
  subst hP hw hK
  obtain ⟨f0,f1,f2,f3,f4,f5⟩:=hf it (by simp)
  exact wpAny_pyNext_range_end (I.ok.hd hc) st (by have:n≤i:=hg;omega) fun h' eb=>⟨rfl,I.turned (t':=s.toks) (fun b o hb e=>eb b o hb e) f0 f1 f3 f4 f5⟩
 self:=fun _ _ _ _ _ st h=>wpAny_pyIter_rangeiter st h
section
variable {X:Cx} {tg:Expr}
def bf4 (K:PySem.W.Frag) (tl:TE):TI:=fun σ H R=>tl σ H fun x H1=>∃ a,x = .ref a∧(∃ xs,SqL K H1 a xs)∧R (Itl K a) H1
theorem D4 {l:Expr} {tl:TE} (hl:PE X l tl):PI X tg l (bf4 X.K tl):=by
 intro pins s σ H R I h
 refine thn (hl pins s σ H _ I h) fun v s1 ⟨x,H1,I1,r1,q1⟩=>?_
 obtain ⟨a,e,⟨xs,hq⟩,q⟩:=q1
 subst e
 cases r1
 obtain ⟨its,rv,p,hz⟩:=I1.list hq
 refine wpAny_pyIter_list p.isList ?_
 refine ⟨s1.heap.objs.size,[s1.heap.objs.size],_,_,H1,rfl,I1.kept (t':=s1.toks) fun b o e=>Heap.get?_push_of_some _ e,aU9 a _,⟨_,Heap.get?_push_size _ rfl,rfl,rfl⟩,fun b hb=>?_,q⟩
 have e:b=s1.heap.objs.size:=by simpa using hb
 subst e
 exact I1.fpOk (Nat.le_refl _) (I1.hok.fresh (Nat.le_refl _))
theorem bc0 {pins:List (Addr × Obj)} {σ:St} {H:Hp} {s:Shared} {R:It→Hp→Prop} {E:Value→Shared→Prop} {lo hi:Int} {t u v:Tok} {tk:Nat} (I:Inv X pins σ H s) (h1 : -(2 ^ 62)≤lo) (h2:lo<2 ^ 62) (h3 : -(2 ^ 62)≤hi) (h4:hi<2 ^ 62)
  (q:R (Itr lo (hi - lo).toNat) H):wpAny (model X.prog X.w) X.A (pyIter (.ref s.heap.objs.size)) (PIE X pins σ tg R) E { s with heap:=s.heap.push { cls:=.type "range",data:=.fields #[.int lo t,.int hi u,.int 1 v] },toks:=tk }:=by
 refine wpAny_pyIter_range (IsRange.new ..) (small_one h1 h2 h3 h4) ?_
 have I1:Inv X pins σ H { s with heap:=s.heap.push { cls:=.type "range",data:=.fields #[.int lo t,.int hi u,.int 1 v] },toks:=tk }:=I.kept fun b o e=>Heap.get?_push_of_some _ e
 refine ⟨(s.heap.push { cls:=.type "range",data:=.fields #[.int lo t,.int hi u,.int 1 v] }).objs.size,[(s.heap.push { cls:=.type "range",data:=.fields #[.int lo t,.int hi u,.int 1 v] }).objs.size],_,_,H,rfl,
  I1.kept (t':=tk) fun b o e=>Heap.get?_push_of_some _ e,aN5 _ lo (hi - lo).toNat,?_,fun b hb=>?_,q⟩
 ·have e1:lo+((0:Nat):Int) * 1=lo:=by simp
  have e2:(((hi - lo).toNat:Nat):Int) - ((0:Nat):Int)=Builtin.Range.rangeSize lo hi 1:=by rw [rangeSize_one];split <;> lia
  show IsRangeIter _ _ (lo+((0:Nat):Int) * 1) ((((hi - lo).toNat:Nat):Int) - ((0:Nat):Int)) 1
  rw [e1,e2]
  exact Heap.get?_push_size _ rfl
 ·have e:b=(s.heap.push { cls:=.type "range",data:=.fields #[.int lo t,.int hi u,.int 1 v] }).objs.size:=by simpa using hb
  subst e
  exact I1.fpOk (Nat.le_refl _) (I1.hok.fresh (Nat.le_refl _))
def bf3 (ta:TA):TI:=fun σ H R=>ta σ H fun vs H1=>∃ j:Int,vs=[.int j]∧-(2 ^ 62)≤j∧j<2 ^ 62∧R (Itr 0 j.toNat) H1
theorem am8 {a:Expr} {ta:TA} {p pos:Pos} (hg:Gl X "range") (hm:X.mg "range" = none) (ha:PA X [a] ta) (hs:starEach [a] X.env=[(false,eval a X.env)]:=by rfl):PI X tg (.Call (.Name "range" p) [a] [] pos) (bf3 ta):=by
 intro pins s σ H R I h
 refine Call_ (ae4 I hg hm boot_range (PyProof.Rows.callWith_type1 (thn (ha pos pins s σ H _ I h) fun us s1 ⟨vs,H1,I1,r1,q1⟩=>?_) hs rfl))
 obtain ⟨j,e,q1,q2,q⟩:=q1
 subst e
 cases r1 with
 | cons r rr=>
  cases rr
  obtain ⟨t,rfl⟩:=r
  exact call_range_1 (bc0 I1 (by simp) (by omega) q1 q2 (by simpa using q))
def by2 (wi:TI) (g:TG) (tb:TS):TS:=fun D σ H=>wi σ H fun J H1=>∃ W:Nat→Nat→St→Hp→Prop,(∃ m,W 0 m σ H1)∧∀ i m σ H,W i m σ H →
 (J.stop i H∧D.nx σ H)∨(J.go i H∧∃ N:St→Hp→Prop,(∀ σ' H',N σ' H'→∃ m',m'<m∧W (i+1) m' σ' H')∧∀ x H',J.yld i H x H'→g x σ H' fun σ2 H2=>tb { D with nx:=N,ct:=N,bk:=D.nx } σ2 H2)
def aF7 (fp:List Addr) (h:Heap):List (Addr × Obj):=fp.filterMap fun b=>(h.get? b).map fun o=>(b,o)
theorem M7 {fp:List Addr} {h:Heap} {b:Addr} {o:Obj} (hb:b∈fp) (e:h.get? b=some o):(b,o)∈aF7 fp h:=List.mem_filterMap.mpr ⟨b,hb,by rw [e];rfl⟩
theorem aW1 {fp:List Addr} {h:Heap} {p:Addr × Obj} (hp:p∈aF7 fp h):p.1∈fp∧h.get? p.1=some p.2:=by
 obtain ⟨b,hb,e⟩:=List.mem_filterMap.mp hp
 cases q:h.get? b with
 | none=>rw [q] at e;cases e
 | some o=>
  rw [q] at e
  have e':(b,o)=p:=Option.some.inj e
  subst e'
  exact ⟨hb,q⟩
theorem Inv.pinned {pins:List (Addr × Obj)} {σ:St} {H:Hp} {s:Shared} {fp:List Addr} (I:Inv X pins σ H s) (hf:∀ b∈fp,ar9 X pins H b) (ho:∀ b∈fp,∃ o,s.heap.get? b=some o∧∀ v,o.data≠.cell v):Inv X (pins++aF7 fp s.heap) σ H s:=
 I.pins_of fun p hp=>(List.mem_append.mp hp).elim (fun z=>I.pin p (List.mem_append_right _ z)) fun z=>by
  obtain ⟨hb,e⟩:=aW1 z
  obtain ⟨f0,f1,f2,_⟩:=hf p.1 hb
  obtain ⟨o,e',d⟩:=ho p.1 hb
  rw [e] at e';cases e'
  exact ⟨e,f0,f1,f2,d⟩
theorem Inv.unpinned {pins pl:List (Addr × Obj)} {σ:St} {H:Hp} {s:Shared} (I:Inv X (pins++pl) σ H s):Inv X pins σ H s:=I.pins_of fun p hp=>I.pin p (List.mem_append_right _ (List.mem_append_left _ hp))
theorem R1 {iter:Expr} {body:List Stmt} {wi:TI} {g:TG} {tb:TS} {pos:Pos} (hp:PassesOwn (model X.prog X.w) X.A X.env X.xe) (hc:X.calm=true) (hi:PI X tg iter wi) (hg:PG X tg g) (hb:PSs X body tb)
  (hs:∀ x,foldedSetIterable iter X.env x=pure x:=by intro _;rfl):PS X (.For tg iter body [] pos) (by2 wi g tb):=by
 intro pins s σ H D I h
 refine wpAny_For (thn (hi pins s σ H _ I h) fun v s1 h1=>thn h1 fun itv s2 h2=>?_) hs
 obtain ⟨it,fp,tn,J,H2,e,I2,T,st2,f2,W,⟨m0,w0⟩,turn⟩:=h2
 subst e
 -- what stays true of the iterator's objects through the loop
 have stat:∀ {H':Hp},(∀ b∈fp,H' b=none)→∀ b∈fp,ar9 X pins H' b:=fun hn b hb=>⟨hn b hb,(f2 b hb).2⟩
 refine codeAny_forLoop_any (fun n s'=>∃ i σ' H',Inv X pins σ' H' s'∧tn i s'.heap∧(∀ b∈fp,H' b=none)∧W i n σ' H') ?_ m0 ⟨0,σ,H2,I2,st2,fun b hb=>(f2 b hb).1,w0⟩
 rintro n s3 ⟨i,σ3,H3,I3,st3,fr3,w3⟩
 rcases turn i n σ3 H3 w3 with ⟨stop,qn⟩ | ⟨go,N,hN,step⟩
 ·refine wpAny_passesOwn hp (thn (T.done X rfl rfl rfl hc i pins s3 σ3 H3 X.xe I3 (stat fr3) st3 stop) fun r s4 ⟨hr,I4⟩=>?_)
  subst hr
  exact wpAny_execs_nil ⟨σ3,H3,I4,qn⟩
 ·refine wpAny_passesOwn hp (thn (T.item X rfl rfl rfl hc i pins s3 σ3 H3 X.xe I3 (stat fr3) st3 go) fun r s4 ⟨u,hr,h4⟩=>?_)
  subst hr
  refine wpAny_passesOwn hp (thn h4 fun _ s5 ⟨x,H5,I5,r5,y5,st5,fr5⟩=>?_)
  have I5':=I5.pinned (stat fr5) (T.obj _ _ st5)
  refine wpAny_passesOwn hp (thn (hg _ s5 σ3 H5 x u _ I5' r5 (step x H5 y5)) fun _ s6 ⟨σ6,H6,I6,q6⟩=>?_)
  refine wpAny_passesOwn hp (thn (hb _ s6 σ6 H6 _ I6 q6) fun f s7 q7=>?_)
  have again:∀ {σ7:St} {H7:Hp},Inv X (pins++aF7 fp s5.heap) σ7 H7 s7→N σ7 H7→∃ m,m<n∧∃ i σ' H',Inv X pins σ' H' s7∧tn i s7.heap∧(∀ b∈fp,H' b=none)∧W i m σ' H':=fun {σ7 H7} I7 n7=>by
   obtain ⟨m',hm,w7⟩:=hN σ7 H7 n7
   refine ⟨m',hm,i+1,σ7,H7,I7.unpinned,T.keep _ _ _ st5 fun b hb o e=>(I7.pin (b,o) (List.mem_append_right _ (List.mem_append_right _ (M7 hb e)))).1,fun b hb=>?_,w7⟩
   obtain ⟨o,e,d⟩:=T.obj _ _ st5 b hb
   exact (I7.pin (b,o) (List.mem_append_right _ (List.mem_append_right _ (M7 hb e)))).2.1
  cases f with
  | next=>obtain ⟨σ7,H7,I7,n7⟩:=q7;exact again I7 n7
  | cont=>obtain ⟨σ7,H7,I7,n7⟩:=q7;exact again I7 n7
  | brk=>obtain ⟨σ7,H7,I7,q7⟩:=q7;exact ⟨σ7,H7,I7.unpinned,q7⟩
  | ret v=>obtain ⟨x7,σ7,H7,I7,r7,q7⟩:=q7;exact ⟨x7,σ7,H7,I7.unpinned,r7,q7⟩
end
theorem ak8 {K:PySem.W.Frag} {a:Addr} {xs:List V} {g:TG} {tb:TS} {D:ai6} {σ:St} {H:Hp} (Pv:Nat→St→Hp→Prop) (h0:Pv 0 σ H) (hl:∀ i σ H,i≤xs.length→Pv i σ H→SqL K H a xs)
  (hs:∀ i x σ H,xs[i]? = some x→Pv i σ H→g x σ H fun σ2 H2=>tb { D with nx:=Pv (i+1),ct:=Pv (i+1),bk:=D.nx } σ2 H2) (hd:∀ σ H,Pv xs.length σ H→D.nx σ H) :
  ∃ W:Nat→Nat→St→Hp→Prop,(∃ m,W 0 m σ H)∧∀ i m σ H,W i m σ H →
   ((Itl K a).stop i H∧D.nx σ H)∨((Itl K a).go i H∧∃ N:St→Hp→Prop,(∀ σ' H',N σ' H'→∃ m',m'<m∧W (i+1) m' σ' H')∧∀ x H',(Itl K a).yld i H x H'→g x σ H' fun σ2 H2=>tb { D with nx:=N,ct:=N,bk:=D.nx } σ2 H2):=by
 refine ⟨fun i m σ H=>m=xs.length - i∧i≤xs.length∧Pv i σ H,⟨xs.length,by simp,Nat.zero_le _,h0⟩,?_⟩
 rintro i m σ H ⟨rfl,hi,p⟩
 have q:=hl i σ H hi p
 by_cases hlt:i<xs.length
 ·refine .inr ⟨⟨xs,xs[i],q,by simp [hlt]⟩,Pv (i+1),fun σ' H' p'=>⟨xs.length - (i+1),by omega,rfl,hlt,p'⟩,fun x H' y=>?_⟩
  obtain ⟨e,y⟩:=y
  subst e
  exact hs i x σ _ (y xs q) p
 ·have e:i=xs.length:=by lia
  subst e
  exact .inl ⟨⟨xs,q,Nat.le_refl _⟩,hd σ H p⟩
theorem aC0 {lo:Int} {n:Nat} {g:TG} {tb:TS} {D:ai6} {σ:St} {H:Hp} (Pv:Nat→St→Hp→Prop) (h0:Pv 0 σ H)
  (hs:∀ i σ H,i<n→Pv i σ H→g (.int (lo+i)) σ H fun σ2 H2=>tb { D with nx:=Pv (i+1),ct:=Pv (i+1),bk:=D.nx } σ2 H2) (hd:∀ σ H,Pv n σ H→D.nx σ H) :
  ∃ W:Nat→Nat→St→Hp→Prop,(∃ m,W 0 m σ H)∧∀ i m σ H,W i m σ H →
   ((Itr lo n).stop i H∧D.nx σ H)∨((Itr lo n).go i H∧∃ N:St→Hp→Prop,(∀ σ' H',N σ' H'→∃ m',m'<m∧W (i+1) m' σ' H')∧∀ x H',(Itr lo n).yld i H x H'→g x σ H' fun σ2 H2=>tb { D with nx:=N,ct:=N,bk:=D.nx } σ2 H2):=by
 refine ⟨fun i m σ H=>m=n - i∧i≤n∧Pv i σ H,⟨n,by simp,Nat.zero_le _,h0⟩,?_⟩
 rintro i m σ H ⟨rfl,hi,p⟩
 by_cases hlt:i<n
 ·refine .inr ⟨hlt,Pv (i+1),fun σ' H' p'=>⟨n - (i+1),by omega,rfl,hlt,p'⟩,fun x H' y=>?_⟩
  obtain ⟨e,y⟩:=y
  subst e y
  exact hs i σ _ hlt p
 ·have e:i=n:=by lia
  subst e
  exact .inl ⟨Nat.le_refl _,hd σ H p⟩
theorem aJ0 {c:TT} {tb:TS} {D:ai6} {σ:St} {H:Hp} (Pv:St→Hp→Prop) (μ:St→Hp→Nat) (h0:Pv σ H)
  (hs:∀ σ H,Pv σ H→c σ H fun b H1=>if b=true then tb { D with nx:=fun σ' H'=>Pv σ' H'∧μ σ' H' < μ σ H,ct:=fun σ' H'=>Pv σ' H'∧μ σ' H' < μ σ H,bk:=D.nx } σ H1 else D.nx σ H1)
  (mono:∀ σ H Q Q',(∀ b H1,Q b H1→Q' b H1)→c σ H Q→c σ H Q'):am0 c tb D σ H:=by
 refine ⟨fun m σ H=>m = μ σ H∧Pv σ H,⟨_,rfl,h0⟩,?_⟩
 rintro m σ H ⟨rfl,p⟩
 refine mono σ H _ _ (fun b H1 q=>?_) (hs σ H p)
 cases b with
 | true=>exact ⟨_,fun σ' H' ⟨p',l⟩=>⟨_,l,rfl,p'⟩,q⟩
 | false=>exact q
abbrev R2:=V→V→Hp→VK→Prop
def OpR (X:Cx) (f:Value→Value→Sem Value) (r:R2):Prop:=
 ∀ (pins:List (Addr × Obj)) (s:Shared) (σ:St) (H:Hp) (x y:V) (v u:Value) (Q:VK),Inv X pins σ H s→A4 x v→A4 y u→r x y H Q →
  wpAny (model X.prog X.w) X.A (f v u) (EP X pins σ Q) X.xe s
def UnR (X:Cx) (f:Value→Sem Value) (r:V→Hp→VK→Prop):Prop:=
 ∀ (pins:List (Addr × Obj)) (s:Shared) (σ:St) (H:Hp) (x:V) (v:Value) (Q:VK),Inv X pins σ H s→A4 x v→r x H Q →
  wpAny (model X.prog X.w) X.A (f v) (EP X pins σ Q) X.xe s
def aa1 (X:Cx) (f:Value) (r:List V→Hp→VK→Prop):Prop:=
 ∀ (pins:List (Addr × Obj)) (s:Shared) (σ:St) (H:Hp) (xs:List V) (us:List Value) (Q:VK),Inv X pins σ H s→o0 xs us→r xs H Q →
  wpAny (model X.prog X.w) X.A (call f us) (EP X pins σ Q) X.xe s
def by7 (X:Cx) (r:V→Hp→(Bool→Hp→Prop)→Prop):Prop:=
 ∀ (pins:List (Addr × Obj)) (s:Shared) (σ:St) (H:Hp) (x:V) (v:Value) (Q:Bool→Hp→Prop),Inv X pins σ H s→A4 x v→r x H Q →
  wpAny (model X.prog X.w) X.A (truthy v) (TP X pins σ Q) X.xe s
def tOp (r:R2) (ta tb:TE):TE:=fun σ H Q=>ta σ H fun x H1=>tb σ H1 fun y H2=>r x y H2 Q
def tUn (r:V→Hp→VK→Prop) (ta:TE):TE:=fun σ H Q=>ta σ H fun x H1=>r x H1 Q
def rI (C:Int→Int→Prop) (g:Int→Int→V):R2:=fun x y H Q=>∃ i j,x = .int i∧y = .int j∧C i j∧Q (g i j) H
def rI0 (g:Int→Int→V):R2:=fun x y H Q=>∃ i j,x = .int i∧y = .int j∧Q (g i j) H
def rU (g:Int→V):V→Hp→VK→Prop:=fun x H Q=>∃ i,x = .int i∧Q (g i) H
section
variable {X:Cx} {a b c:Expr} {ta tb tc:TE} {pos:Pos}
theorem bu9 (ha:PE X a ta) (hb:PE X b tb) {pins:List (Addr × Obj)} {s:Shared} {σ:St} {H:Hp} {R:V→V→Hp→Prop} (I:Inv X pins σ H s)
  (h:ta σ H fun x H1=>tb σ H1 fun y H2=>R x y H2) {Q:Value→Shared→Prop} {f:Value→Value→Sem Value}
  (hf:∀ v u s2 x y H2,Inv X pins σ H2 s2→A4 x v→A4 y u→R x y H2→wpAny (model X.prog X.w) X.A (f v u) Q X.xe s2) :
  wpAny (model X.prog X.w) X.A (eval a X.env) (fun v s₁=>wpAny (model X.prog X.w) X.A (eval b X.env) (fun u s₂=>wpAny (model X.prog X.w) X.A (f v u) Q X.xe s₂) X.xe s₁) X.xe s:=by
 refine thn (ha pins s σ H _ I h) fun v s1 ⟨x,H1,I1,r1,q1⟩=>?_
 refine thn (hb pins s1 σ H1 _ I1 q1) fun u s2 ⟨y,H2,I2,r2,q2⟩=>?_
 exact hf v u s2 x y H2 I2 r1 r2 q2
theorem g6 {op:Operator} {r:R2} (ho:OpR X (binaryOp op) r) (ha:PE X a ta) (hb:PE X b tb):PE X (.BinOp a op b pos) (tOp r ta tb):=by
 intro pins s σ H Q I h
 exact wpAny_BinOp (bu9 ha hb I h fun v u s2 x y H2 I2 rx ry q=>ho pins s2 σ H2 x y v u Q I2 rx ry q)
theorem Y3 {op:UnaryOp} {r:V→Hp→VK→Prop} (ho:UnR X (unaryOp op) r) (ha:PE X a ta):PE X (.UnaryOp op a pos) (tUn r ta):=by
 intro pins s σ H Q I h
 exact UnaryOp_ (thn (ha pins s σ H _ I h) fun v s1 ⟨x,H1,I1,r1,q1⟩=>ho pins s1 σ H1 x v Q I1 r1 q1)
theorem opI {f:Value→Value→Sem Value} {C:Int→Int→Prop} {g:Int→Int→Int}
  (rule:∀ (i j:Int) (t u:Tok) (s:Shared) (Q:Value→Shared→Prop) (E:Value→Shared→Prop),C i j→Q (.int (g i j) s.toks) { s with toks:=s.toks+1 }→wpAny (model X.prog X.w) X.A (f (.int i t) (.int j u)) Q E s) :
  OpR X f (rI C fun i j=>.int (g i j)):=by
 intro pins s σ H x y v u Q I rx ry h
 obtain ⟨i,j,rfl,rfl,hc,q⟩:=h
 obtain ⟨t,rfl⟩:=rx
 obtain ⟨t',rfl⟩:=ry
 exact rule i j t t' s _ _ hc ⟨.int (g i j),H,I.tok _,⟨_,rfl⟩,q⟩
theorem bs0 {f:Value→Value→Sem Value} {g:Int→Int→Int}
  (rule:∀ (i j:Int) (t u:Tok) (s:Shared) (Q:Value→Shared→Prop) (E:Value→Shared→Prop),Q (.int (g i j) s.toks) { s with toks:=s.toks+1 }→wpAny (model X.prog X.w) X.A (f (.int i t) (.int j u)) Q E s) :
  OpR X f (rI0 fun i j=>.int (g i j)):=by
 intro pins s σ H x y v u Q I rx ry h
 obtain ⟨i,j,rfl,rfl,q⟩:=h
 obtain ⟨t,rfl⟩:=rx
 obtain ⟨t',rfl⟩:=ry
 exact rule i j t t' s _ _ ⟨.int (g i j),H,I.tok _,⟨_,rfl⟩,q⟩
theorem bj8 {f:Value→Value→Sem Value} {g:Int→Int→Bool}
  (rule:∀ (i j:Int) (t u:Tok) (s:Shared) (Q:Value→Shared→Prop) (E:Value→Shared→Prop),Q (.bool (g i j)) s→wpAny (model X.prog X.w) X.A (f (.int i t) (.int j u)) Q E s) :
  OpR X f (rI0 fun i j=>.bl (g i j)):=by
 intro pins s σ H x y v u Q I rx ry h
 obtain ⟨i,j,rfl,rfl,q⟩:=h
 obtain ⟨t,rfl⟩:=rx
 obtain ⟨t',rfl⟩:=ry
 exact rule i j t t' s _ _ ⟨.bl (g i j),H,I,rfl,q⟩
def bw0 (i j:Int):Prop:=0≤j∧j≤1000000∧i.natAbs<2 ^ 64
theorem L7:OpR X (binaryOp .Add) (rI0 fun i j=>.int (i+j)):=bs0 fun _ _ _ _ _ _ _ q=>add_int q
theorem N3:OpR X (binaryOp .Sub) (rI0 fun i j=>.int (i - j)):=bs0 fun _ _ _ _ _ _ _ q=>sub_int q
theorem R8:OpR X (binaryOp .Mod) (rI (fun _ j=>j≠0) fun i j=>.int (i.fmod j)):=opI fun _ _ _ _ _ _ _ hc q=>mod_int' hc q
theorem ad9:OpR X (binaryOp .Pow) (rI bw0 fun i j=>.int (i ^ j.toNat)):=opI fun _ _ _ _ _ _ _ hc q=>pow_int_small hc.1 hc.2.1 hc.2.2 q
theorem bd7:OpR X (binaryOp .BitAnd) (rI0 fun i j=>.int (Builtin.bitAnd i j)):=bs0 fun _ _ _ _ _ _ _ q=>and_int q
theorem unI {f:Value→Sem Value} {g:Int→Int}
  (rule:∀ (i:Int) (t:Tok) (s:Shared) (Q:Value→Shared→Prop) (E:Value→Shared→Prop),Q (.int (g i) s.toks) { s with toks:=s.toks+1 }→wpAny (model X.prog X.w) X.A (f (.int i t)) Q E s) :
  UnR X f (rU fun i=>.int (g i)):=by
 intro pins s σ H x v Q I rx h
 obtain ⟨i,rfl,q⟩:=h
 obtain ⟨t,rfl⟩:=rx
 exact rule i t s _ _ ⟨.int (g i),H,I.tok _,⟨_,rfl⟩,q⟩
theorem O2:UnR X (unaryOp .USub) (rU fun i=>.int (-i)):=unI fun _ _ _ _ _ q=>neg_int q
end
def aK6:V→V→Bool
 | .non,.non=>true | .non,.int _=>true | .int _,.non=>true | .non,.bl _=>true | .bl _,.non=>true | .non,.str _=>true | .str _,.non=>true
 | .int _,.int _=>true | .bl _,.bl _=>true | .str _,.str _=>true | .byt _,.byt _=>true
 | .int _,.str _=>true | .str _,.int _=>true | .bl _,.str _=>true | .str _,.bl _=>true
 | _,_=>false
def rEq:R2:=fun x y H Q=>aK6 x y=true∧Q (.bl (decide (x=y))) H
def rNe:R2:=fun x y H Q=>aK6 x y=true∧Q (.bl (!decide (x=y))) H
theorem aU3 {i j:Int}:decide (V.int i=V.int j)=(i == j):=by
 rw [Bool.eq_iff_iff]
 simp
theorem bg8 {i j:Bool}:decide (V.bl i=V.bl j)=(i == j):=by
 rw [Bool.eq_iff_iff]
 simp
theorem aU2 {i j:Str}:decide (V.str i=V.str j)=(i == j):=by
 rw [Bool.eq_iff_iff]
 simp
theorem aU4 {i j:Array UInt8}:decide (V.byt i=V.byt j)=(i.toList == j.toList):=by
 rw [Bool.eq_iff_iff]
 cases i
 cases j
 simp
section
variable {X:Cx} {a b c:Expr} {ta tb tc:TE} {pos:Pos}
theorem z9 {pins:List (Addr × Obj)} {σ:St} {H:Hp} {s:Shared} {Q:VK} {k k':Bool} (I:Inv X pins σ H s) (q:Q (.bl k) H) (e:k=k'):EP X pins σ Q (.bool k') s:=by
 subst e
 exact ⟨.bl k,H,I,rfl,q⟩
theorem aj9:OpR X (compareOp .Eq) rEq:=by
 intro pins s σ H x y v u Q I rx ry h
 obtain ⟨hs,q⟩:=h
 cases x with
 | non=>
  cases rx
  cases y with
  | non=>cases ry;exact PySem.EqNone.eq_none_none (z9 I q (by simp))
  | bl j=>cases ry;exact PySem.EqNone.eq_none_bool (z9 I q (by simp))
  | int j=>obtain ⟨t',rfl⟩:=ry;exact PySem.EqNone.eq_none_int (z9 I q (by simp))
  | str j=>obtain ⟨t',rfl⟩:=ry;exact PySem.EqNone.eq_none_str (z9 I q (by simp))
  | _=>exact absurd (show false=true from hs) Bool.false_ne_true
 | bl i=>
  cases rx
  cases y with
  | non=>cases ry;exact PySem.EqNone.eq_bool_none (z9 I q (by simp))
  | bl j=>cases ry;exact eq_bool (z9 I q bg8)
  | str j=>obtain ⟨t',rfl⟩:=ry;exact PySem.EqMixed.eq_bool_str (z9 I q (by simp))
  | _=>exact absurd (show false=true from hs) Bool.false_ne_true
 | int i=>
  obtain ⟨t,rfl⟩:=rx
  cases y with
  | non=>cases ry;exact PySem.EqNone.eq_int_none (z9 I q (by simp))
  | int j=>obtain ⟨t',rfl⟩:=ry;exact eq_int (z9 I q aU3)
  | str j=>obtain ⟨t',rfl⟩:=ry;exact PySem.EqMixed.eq_int_str (z9 I q (by simp))
  | _=>exact absurd (show false=true from hs) Bool.false_ne_true
 | str i=>
  obtain ⟨t,rfl⟩:=rx
  cases y with
  | non=>cases ry;exact PySem.EqNone.eq_str_none (z9 I q (by simp))
  | bl j=>cases ry;exact PySem.EqMixed.eq_str_bool (z9 I q (by simp))
  | int j=>obtain ⟨t',rfl⟩:=ry;exact PySem.EqMixed.eq_str_int (z9 I q (by simp))
  | str j=>obtain ⟨t',rfl⟩:=ry;exact eq_str (z9 I q aU2)
  | _=>exact absurd (show false=true from hs) Bool.false_ne_true
 | byt i=>
  obtain ⟨t,rfl⟩:=rx
  cases y with
  | byt j=>obtain ⟨t',rfl⟩:=ry;exact PySem.W.eq_bytes (z9 I q aU4)
  | _=>exact absurd (show false=true from hs) Bool.false_ne_true
 | _=>cases y <;> exact absurd (show false=true from hs) Bool.false_ne_true
theorem bd5:OpR X (compareOp .NotEq) rNe:=by
 intro pins s σ H x y v u Q I rx ry h
 obtain ⟨hs,q⟩:=h
 cases x with
 | non=>
  cases rx
  cases y with
  | non=>cases ry;exact PySem.EqNone.ne_none_none (z9 I q (by simp))
  | bl j=>cases ry;exact PySem.EqNone.ne_none_bool (z9 I q (by simp))
  | int j=>obtain ⟨t',rfl⟩:=ry;exact PySem.EqNone.ne_none_int (z9 I q (by simp))
  | str j=>obtain ⟨t',rfl⟩:=ry;exact PySem.EqNone.ne_none_str (z9 I q (by simp))
  | _=>exact absurd (show false=true from hs) Bool.false_ne_true
 | bl i=>
  cases rx
  cases y with
  | non=>cases ry;exact PySem.EqNone.ne_bool_none (z9 I q (by simp))
  | bl j=>cases ry;exact ne_bool (z9 I q (congrArg not bg8))
  | str j=>obtain ⟨t',rfl⟩:=ry;exact PySem.EqMixed.ne_bool_str (z9 I q (by simp))
  | _=>exact absurd (show false=true from hs) Bool.false_ne_true
 | int i=>
  obtain ⟨t,rfl⟩:=rx
  cases y with
  | non=>cases ry;exact PySem.EqNone.ne_int_none (z9 I q (by simp))
  | int j=>obtain ⟨t',rfl⟩:=ry;exact ne_int (z9 I q (congrArg not aU3))
  | str j=>obtain ⟨t',rfl⟩:=ry;exact PySem.EqMixed.ne_int_str (z9 I q (by simp))
  | _=>exact absurd (show false=true from hs) Bool.false_ne_true
 | str i=>
  obtain ⟨t,rfl⟩:=rx
  cases y with
  | non=>cases ry;exact PySem.EqNone.ne_str_none (z9 I q (by simp))
  | bl j=>cases ry;exact PySem.EqMixed.ne_str_bool (z9 I q (by simp))
  | int j=>obtain ⟨t',rfl⟩:=ry;exact PySem.EqMixed.ne_str_int (z9 I q (by simp))
  | str j=>obtain ⟨t',rfl⟩:=ry;exact ne_str (z9 I q (congrArg not aU2))
  | _=>exact absurd (show false=true from hs) Bool.false_ne_true
 | byt i=>
  obtain ⟨t,rfl⟩:=rx
  cases y with
  | byt j=>obtain ⟨t',rfl⟩:=ry;exact PySem.W.ne_bytes (z9 I q (congrArg not aU4))
  | _=>exact absurd (show false=true from hs) Bool.false_ne_true
 | _=>cases y <;> exact absurd (show false=true from hs) Bool.false_ne_true
theorem ad0:OpR X (compareOp .Lt) (rI0 fun i j=>.bl (decide (i<j))):=bj8 fun _ _ _ _ _ _ _ q=>lt_int q
theorem bn9:OpR X (compareOp .LtE) (rI0 fun i j=>.bl (decide (i≤j))):=bj8 fun _ _ _ _ _ _ _ q=>le_int q
theorem aj8:OpR X (compareOp .Gt) (rI0 fun i j=>.bl (decide (j<i))):=bj8 fun _ _ _ _ _ _ _ q=>gt_int q
theorem bo0:OpR X (compareOp .GtE) (rI0 fun i j=>.bl (decide (j≤i))):=bj8 fun _ _ _ _ _ _ _ q=>ge_int q
theorem j6 (b:Expr) {op:CmpOp} (h:op≠.In:=by decide) (h2:op≠.NotIn:=by decide):behindInMarks op b=false:=by
 have e1:(op == CmpOp.In)=false:=by cases op <;> first | rfl | exact absurd rfl h
 have e2:(op == CmpOp.NotIn)=false:=by cases op <;> first | rfl | exact absurd rfl h2
 cases b <;> simp [behindInMarks,e1,e2]
theorem W6 {op:CmpOp} {r:R2} (ho:OpR X (compareOp op) r) (ha:PE X a ta) (hb:PE X b tb) (hm:behindInMarks op b=false):PE X (.Compare a [op] [b] pos) (tOp r ta tb):=by
 intro pins s σ H Q I h
 exact wpAny_Compare1 (bu9 ha hb I h fun v u s2 x y H2 I2 rx ry q=>ho pins s2 σ H2 x y v u Q I2 rx ry q) hm
def aJ3 (t:TE):TT:=fun σ H Q=>t σ H fun x H'=>∃ k,x = .bl k∧Q k H'
theorem j3 {op:CmpOp} {r:R2} (ho:OpR X (compareOp op) r) (ha:PE X a ta) (hb:PE X b tb) (hm:behindInMarks op b=false):PT X (.Compare a [op] [b] pos) (aJ3 (tOp r ta tb)):=by
 intro pins s σ H Q I h
 refine wpAny_isTrue_Compare1 (thn (ha pins s σ H _ I h) fun v s1 ⟨x,H1,I1,r1,q1⟩=>thn (hb pins s1 σ H1 _ I1 q1) fun u s2 ⟨y,H2,I2,r2,q2⟩=>
  thn (ho pins s2 σ H2 x y v u _ I2 r1 r2 q2) fun c s3 ⟨z,H3,I3,r3,k,e,q3⟩=>?_) hm
 subst e
 cases r3
 exact wpAny_truthy_bool ⟨H3,I3,q3⟩
def aa4 (K:PySem.W.Frag) (x:V) (H:Hp) (k:Bool):Prop:=
 match x with
 | .non=>k=false
 | .bl b=>k=b
 | .int i=>k=(i != 0)
 | .str y=>y.length≤sizeLine∧k=((y.length:Int) != 0)
 | .byt y=>y.size≤sizeLine∧k=((y.size:Int) != 0)
 | .ref p=>(∃ xs,SqL K H p xs∧k = !xs.isEmpty)∨(∃ xs,SqT K H p xs∧k = !xs.isEmpty)∨∃ kvs,H p=some (.dK kvs)∧k = !kvs.isEmpty
 | _=>False
theorem aQ6 {κ:Type} {kvs:List (κ × V)} {vs:List (κ × Value)} (r:KV kvs vs):(!vs.isEmpty) = !kvs.isEmpty:=by
 cases r <;> rfl
theorem ai1 {xs:List V} {its:List Value} (r:o0 xs its):(!its.toArray.isEmpty) = !xs.isEmpty:=by
 cases r <;> simp
theorem ae3:(sizeLine:Nat)<2 ^ 63:=by rw [sizeLine_eq];decide
theorem bp0:by7 X (fun x H Q=>∃ k,aa4 X.K x H k∧Q k H):=by
 intro pins s σ H x v Q I rx h
 obtain ⟨k,e,q⟩:=h
 have hl:=ae3
 have hs:sizeLine=16777216:=sizeLine_eq
 cases x with
 | non=>
  cases rx
  have e':k=false:=e
  subst e'
  exact truthy_none ⟨H,I,q⟩
 | bl b=>
  cases rx
  have e':k=b:=e
  subst e'
  exact wpAny_truthy_bool ⟨H,I,q⟩
 | int i=>
  obtain ⟨t,rfl⟩:=rx
  have e':k=(i != 0):=e
  subst e'
  exact PySem.P.truthy_int ⟨H,I,q⟩
 | str y=>
  obtain ⟨t,rfl⟩:=rx
  obtain ⟨hy,e'⟩:y.length≤sizeLine∧k=((y.length:Int) != 0):=e
  subst e'
  exact PySem.P.truthy_str (by lia) ⟨H,I.tok _,q⟩
 | byt y=>
  obtain ⟨t,rfl⟩:=rx
  obtain ⟨hy,e'⟩:y.size≤sizeLine∧k=((y.size:Int) != 0):=e
  subst e'
  exact PySem.W.truthy_bytes (by lia) ⟨H,I.tok _,q⟩
 | ref p=>
  cases rx
  have e':(∃ xs,SqL X.K H p xs∧k = !xs.isEmpty)∨(∃ xs,SqT X.K H p xs∧k = !xs.isEmpty)∨∃ kvs,H p=some (.dK kvs)∧k = !kvs.isEmpty:=e
  rcases e' with ⟨xs,hx,e'⟩ | ⟨xs,hx,e'⟩ | ⟨kvs,hx,e'⟩
  ·subst e'
   obtain ⟨its,r,pl,hz⟩:=I.list hx
   have hlen:=r.length
   exact wpAny_truthy_list pl.isList (by simp only [List.size_toArray];lia) ⟨H,I.tok _,by rw [ai1 r];exact q⟩
  ·subst e'
   obtain ⟨its,r,pl,hz⟩:=I.tuple hx
   have hlen:=r.length
   exact truthy_tuple pl (by simp only [List.size_toArray];omega) ⟨H,I.tok _,by rw [ai1 r];exact q⟩
  ·subst e'
   obtain ⟨hz,hS,vs,r,m⟩:kvs.length≤sizeLine∧(p == sysModules)=false∧∃ vs,KV kvs vs∧s.heap.DictOf (aG9 X.prog X.w) p vs:=I.hok p _ hx
   have hlen:kvs.length=vs.length:=Paired.length r
   exact wpAny_truthy_dict hS m (by lia) ⟨H,I.tok _,by rw [aQ6 r];exact q⟩
 | _=>exact (show False from e).elim
theorem C4 (ha:PE X a ta) (he:∀ whole,isTrue a X.env whole=(do let v ←whole;standAt a.pos;holding [v] (truthy v))) :
  PT X a (fun σ H Q=>ta σ H fun x H'=>∃ k,aa4 X.K x H' k∧Q k H'):=by
 intro pins s σ H Q I h
 exact isTrue_plain (thn (ha pins s σ H _ I h) fun v s1 ⟨x,H1,I1,r1,q1⟩=>bp0 pins s1 σ H1 x v Q I1 r1 q1) (he _)
theorem aa5 {x:V} {us:List Value} (r:o0 [x] us):∃ u,us=[u]∧A4 x u:=by
 cases r with
 | cons r1 r2=>cases r2;exact ⟨_,rfl,r1⟩
theorem bm9 {x y:V} {us:List Value} (r:o0 [x,y] us):∃ u w',us=[u,w']∧A4 x u∧A4 y w':=by
 cases r with
 | cons r1 r2=>
  cases r2 with
  | cons r3 r4=>cases r4;exact ⟨_,_,rfl,r1,r3⟩
theorem Z0:aa1 X (.builtin "abs") (fun xs H Q=>∃ i,xs=[.int i]∧Q (.int (if i<0 then -i else i)) H):=by
 intro pins s σ H xs us Q I r h
 obtain ⟨i,rfl,q⟩:=h
 obtain ⟨u,rfl,t,rfl⟩:=aa5 r
 exact call_abs_int fun u tk=>⟨.int (if i<0 then -i else i),H,I.tok _,⟨_,rfl⟩,q⟩
theorem ap1 (hc:X.calm=true):aa1 X (.builtin "max") (fun xs H Q=>∃ i j,xs=[.int i,.int j]∧Q (.int (if j > i then j else i)) H):=by
 intro pins s σ H xs us Q I r h
 obtain ⟨i,j,rfl,q⟩:=h
 obtain ⟨u,w',rfl,⟨t,rfl⟩,⟨t',rfl⟩⟩:=bm9 r
 refine max_two_ints (I.ok.hd hc) fun h' tk k=>⟨_,H,I.kept k,?_,q⟩
 by_cases hj:j > i
 ·rw [if_pos hj,if_pos hj];exact ⟨_,rfl⟩
 ·rw [if_neg hj,if_neg hj];exact ⟨_,rfl⟩
theorem aY0 (hc:X.calm=true):aa1 X (.builtin "min") (fun xs H Q=>∃ i j,xs=[.int i,.int j]∧Q (.int (if j<i then j else i)) H):=by
 intro pins s σ H xs us Q I r h
 obtain ⟨i,j,rfl,q⟩:=h
 obtain ⟨u,w',rfl,⟨t,rfl⟩,⟨t',rfl⟩⟩:=bm9 r
 refine min_two_ints (I.ok.hd hc) fun h' tk k=>⟨_,H,I.kept k,?_,q⟩
 by_cases hj:j<i
 ·rw [if_pos hj,if_pos hj];exact ⟨_,rfl⟩
 ·rw [if_neg hj,if_neg hj];exact ⟨_,rfl⟩
theorem aY2:aa1 X (.type "int") (fun xs H Q=>(∃ i,xs=[.int i]∧Q (.int i) H)∨∃ k,xs=[.bl k]∧Q (.int (if k then 1 else 0)) H):=by
 intro pins s σ H xs us Q I r h
 rcases h with ⟨i,rfl,q⟩ | ⟨k,rfl,q⟩
 ·obtain ⟨u,rfl,t,rfl⟩:=aa5 r
  exact call_int_int ⟨.int i,H,I,⟨_,rfl⟩,q⟩
 ·obtain ⟨u,rfl,r1⟩:=aa5 r
  cases r1
  exact call_int_bool ⟨.int (if k then 1 else 0),H,I.tok _,⟨_,rfl⟩,q⟩
end
structure bv7 (h:Heap) (x dx C:Addr) (mA:Str→Option Value):Prop where
 obj:h.get? x=some (PySem.W.instObj C dx)
 ns:h.Ns1 dx mA
 ne:dx≠x
theorem aW7 {h:Heap} {dx:Addr} {mA:Str→Option Value} (n:h.Ns1 dx mA):∃ od,h.get? dx=some od∧∀ name,PySem.W.lookIn name od=some (mA name):=by
 obtain ⟨o,es,ep,ho,hd,hk,_,hm⟩:=n
 refine ⟨o,ho,fun name=>?_⟩
 have e:=hm name
 unfold nsFind findBy at e
 rw [←Array.find?_toList] at e
 unfold PySem.W.lookIn
 rw [hd]
 dsimp only
 split
 ·rename_i y q
  rw [q] at e
  exact congrArg some e
 ·rename_i q
  rw [q] at e
  have a:es.toList.any (·.refKey)=false:=by
   rw [List.any_eq_false]
   intro y hy
   obtain ⟨z,t,hkey⟩:=hk y (Array.mem_toList_iff.mp hy)
   simp [DictEntry.refKey,hkey]
  have a' : ¬ es.toList.any (·.refKey)=true:=by rw [a];exact Bool.false_ne_true
  rw [if_neg a']
  exact congrArg some e
theorem bv7.look {h:Heap} {x dx C:Addr} {mA:Str→Option Value} (I:bv7 h x dx C mA):∃ od,PySem.W.InstAt h x (PySem.W.instObj C dx) C (some od)∧∀ name,PySem.W.lookIn name od=some (mA name):=
 let ⟨od,ho,hl⟩:=aW7 I.ns
 ⟨od,⟨I.obj,rfl,rfl,ho⟩,hl⟩
section
variable {P:Program} {w:World} {H H':Hp} {h h':Heap} {a C dx:Addr} {fs fs':List (Str × V)}
theorem bl0 (hok:HOk P w H h) (e:H a=some (.ins C dx fs)):∃ mA,bv7 h a dx C mA∧(∀ f,bv3 (fs.lookup f) (mA f))∧PySem.Within mA (fs.map (·.1))∧fs.length≤1000∧H dx=some (.own a):=by
 obtain ⟨d,z,ne,ob,mA,n,r,q⟩:=(show G7 P w H h a (.ins C dx fs) from hok a _ e)
 exact ⟨mA,⟨ob,n,ne⟩,r,q,z,d⟩
end
structure Cls (K:PySem.W.Frag) (C:Addr):Prop where
 pg:PySem.W.plainGet K C Str.empty=true
 hd:PySem.W.hasDictIn K C=true
 po:PySem.W.plainOver K C=true
 sa:PySem.W.findIn K (.ref C) "__setattr__" = some (some (.builtin "object.__setattr__"))
theorem Cls.get {K:PySem.W.Frag} {C:Addr} (c:Cls K C) (f:Str):PySem.W.plainGet K C f=true:=c.pg
structure Con (K:PySem.W.Frag) (C:Addr) (f:Str) (v:V) (u:Value):Prop where
 at_:PySem.W.findIn K (.ref C) f=some (some u)
 rel:A4 v u
 get:PySem.W.specialIn K u "__get__" = some none
 cp:PySem.W.copiedNames.contains f=false
structure Meth (K:PySem.W.Frag) (C:Addr) (m:Str) (f:Addr):Prop where
 at_:PySem.W.findIn K (.ref C) m=some (some (.ref f))
 fn:PySem.W.isFn K (.ref f)=true
 kp:PySem.W.keepIn K (.ref f)=true
section
variable {X:Cx} {pins:List (Addr × Obj)} {σ:St} {H:Hp} {s:Shared} {A:Around} {E:Value→Shared→Prop} {Q:Value→Shared→Prop} {c:Value} {b:Bool}
inductive ap3 (K:PySem.W.Frag) (H:Hp):V→Value→Prop where
 | non:ap3 K H .non (.type "NoneType")
 | bl (x:Bool):ap3 K H (.bl x) (.type "bool")
 | int (i:Int):ap3 K H (.int i) (.type "int")
 | str (x:Str):ap3 K H (.str x) (.type "str")
 | flt (x:UInt64):ap3 K H (.flt x) (.type "float")
 | lst {a:Addr} {xs:List V} (e:H a=some (.lst xs)):ap3 K H (.ref a) (.type "list")
 | frz {a:Addr} {o:Obj} {xs:List V} (e:H a=some (.frz o (.lst xs))):ap3 K H (.ref a) (.type "list")
 | tup {a:Addr} {xs:List V} (e:H a=some (.tup xs)):ap3 K H (.ref a) (.type "tuple")
 | dK {a:Addr} {kvs:List (Key × V)} (e:H a=some (.dK kvs)):ap3 K H (.ref a) (.type "dict")
 | dT {a:Addr} {kvs:List (List Key × V)} (e:H a=some (.dT kvs)):ap3 K H (.ref a) (.type "dict")
 | ins {a C dx:Addr} {fs:List (Str × V)} (e:H a=some (.ins C dx fs)) (cl:Cls K C) (ha:PySem.W.findIn K (.ref C) "__class__" = some (some (.builtin "object.__class__")))
   (hn:PySem.W.specialIn K (.builtin "object.__class__") "__get__" = some (some (.builtin "getset_descriptor.__get__"))) (htk:PySem.W.takesIn K (.builtin "object.__class__")=some true)
   (hm:PySem.W.mroIn K C (.type "object")=some true):ap3 K H (.ref a) (.ref C)
theorem aX0 {x:V} {u t:Value} (I:Inv X pins σ H s) (rx:A4 x u) (ty:ap3 X.K H x t) (e:PySem.W.kitOne X.K t c=some b) (h:∀ tk,Q (.bool b) { s with toks:=tk }) :
  wpAny (model X.prog X.w) A (call (.builtin "isinstance") [u,c]) Q E s:=by
 cases ty with
 | non=>cases (show u=Value.none from rx);exact PySem.W.kia_one PySem.W.kitx_none I.kIn True.intro e (fun z=>nomatch z) h
 | bl y=>cases (show u=Value.bool y from rx);exact PySem.W.kia_one PySem.W.kitx_bool I.kIn True.intro e (fun z=>nomatch z) h
 | int i=>obtain ⟨t,q⟩:=(show ∃ t,u=Value.int i t from rx);cases q;exact PySem.W.kia_one PySem.W.kitx_int I.kIn True.intro e (fun z=>nomatch z) h
 | str y=>obtain ⟨t,q⟩:=(show ∃ t,u=Value.str y t from rx);cases q;exact PySem.W.kia_one PySem.W.kitx_str I.kIn True.intro e (fun z=>nomatch z) h
 | flt y=>obtain ⟨t,q⟩:=(show ∃ t,u=Value.float y t from rx);cases q;exact PySem.W.kia_one PySem.W.kitx_float I.kIn True.intro e (fun z=>nomatch z) h
 | @lst a xs ea=>
  cases (show u=Value.ref a from rx)
  obtain ⟨_,_,n,_,h1⟩:=(show G7 X.prog X.w H s.heap a (.lst xs) from I.hok a _ ea)
  exact PySem.W.kia_one PySem.W.kitx_list I.kIn ⟨_,h1,rfl⟩ e (fun z=>nomatch z) h
 | @frz a ob xs ea=>
  cases (show u=Value.ref a from rx)
  obtain ⟨_,_,_,n,_,h1⟩:=(show G7 X.prog X.w H s.heap a (.frz ob (.lst xs)) from I.hok a _ ea)
  exact PySem.W.kia_one PySem.W.kitx_list I.kIn ⟨_,h1,rfl⟩ e (fun z=>nomatch z) h
 | @tup a xs ea=>
  cases (show u=Value.ref a from rx)
  obtain ⟨_,_,_,p⟩:=(show G7 X.prog X.w H s.heap a (.tup xs) from I.hok a _ ea)
  obtain ⟨o,h1,h2,_⟩:=p
  exact PySem.W.kia_one PySem.W.kitx_tuple I.kIn ⟨o,h1,h2⟩ e (fun z=>nomatch z) h
 | @dK a kvs ea=>
  cases (show u=Value.ref a from rx)
  obtain ⟨_,_,vs,_,p⟩:=(show G7 X.prog X.w H s.heap a (.dK kvs) from I.hok a _ ea)
  obtain ⟨o,es,ep,h1,h2,_⟩:=p
  exact PySem.W.kia_one PySem.W.kitx_dict I.kIn ⟨o,h1,h2.1⟩ e (fun z=>nomatch z) h
 | @dT a kvs ea=>
  cases (show u=Value.ref a from rx)
  obtain ⟨_,_,xs,_,o,es,ep,h1,h2,_⟩:=(show G7 X.prog X.w H s.heap a (.dT kvs) from I.hok a _ ea)
  exact PySem.W.kia_one PySem.W.kitx_dict I.kIn ⟨o,h1,h2.1⟩ e (fun z=>nomatch z) h
 | @ins a C dx fs ea cl ha hn htk hm=>
  cases (show u=Value.ref a from rx)
  obtain ⟨mA,O,_⟩:=bl0 I.hok ea
  obtain ⟨od,J,_⟩:=O.look
  exact PySem.W.kia_one (PySem.W.kitx_own (cl.get _) cl.hd ha hn htk hm) I.kIn J e (fun z=>nomatch z) h
end
structure Z2 (k:Nat) (A:Around):Prop where
 hd:A.handled=none
 dp:A.depth+3 * k+5<recursionLimit
 un:A.units+16 * k+200<cLine
theorem Z2.mono {j k:Nat} {A:Around} (r:Z2 k A) (h:j≤k):Z2 j A:=⟨r.hd,by have:=r.dp;lia,by have:=r.un;lia⟩
theorem Z2.deeper {k:Nat} {A:Around} (r:Z2 (k+1) A) (env:Env):Z2 k (A.deeper env):=
 ⟨r.hd,by have:=r.dp;show A.depth+1+3 * k+5<_;lia,by have:=r.un;show A.units+3+16 * k+200<_;lia⟩
theorem Z2.depth {k:Nat} {A:Around} (r:Z2 k A):A.depth<recursionLimit:=by have:=r.dp;lia
theorem Z2.units {k:Nat} {A:Around} (r:Z2 k A):A.units+64<cLine:=by have:=r.un;lia
def aJ4:TA:=fun _ H Q=>Q [] H
def ag5 (ta:TE) (tr:TA):TA:=fun σ H Q=>ta σ H fun x H1=>tr σ H1 fun xs H2=>Q (x :: xs) H2
section
variable {X:Cx} {e:Expr} {es:List Expr} {te:TE} {t:TA} {pos:Pos}
theorem b7:PA X [] aJ4:=fun _ _ _ _ H Q I h=>Calls.spliced_nil ⟨[],H,I,.nil,h⟩
theorem b6 (ha:PE X e te) (hr:PA X es t) (hs:starEach (e :: es) X.env=(false,eval e X.env) :: starEach es X.env:=by rfl):PA X (e :: es) (ag5 te t):=by
 intro pos pins s σ H Q I h
 rw [hs]
 show wpAny _ _ (spliced ((false,eval e X.env) :: backTo pos (starEach es X.env))) _ _ s
 refine Calls.spliced_cons (thn (ha pins s σ H _ I h) fun u s1 ⟨x,H1,I1,r1,q1⟩=>?_)
 exact thn (hr pos pins s1 σ H1 _ I1 q1) fun us s2 ⟨xs,H2,I2,r2,q2⟩=>⟨x :: xs,H2,I2,.cons r1 r2,q2⟩
def bh9 (t:TA):TE:=fun σ H Q=>t σ H fun xs H1=>xs.length≤sizeLine∧∀ p,H1 p=none→Q (.ref p) (upd H1 p (.tup xs))
def bp6 (t:TA):TE:=fun σ H Q=>t σ H fun xs H1=>xs.length≤sizeLine∧∀ p,H1 p=none→Q (.ref p) (upd H1 p (.lst xs))
theorem j9 {x1} (h:PA X es t):PE X (.Tuple es x1 pos) (bh9 t):=by
 intro pins s σ H Q I hq
 refine wpAny_Tuple_spliced (thn (h pos pins s σ H _ I hq) fun us s1 ⟨xs,H1,I1,r,z,q⟩=>⟨by rw [←r.length];exact z,?_⟩)
 have hf:H1 s1.heap.objs.size=none:=I1.hok.fresh (Nat.le_refl _)
 refine ⟨.ref s1.heap.objs.size,upd H1 s1.heap.objs.size (.tup xs),I1.laid (t':=s1.toks) (fun b u e=>Heap.get?_push_of_some _ e) (Nat.le_refl _) ?_,rfl,q _ hf⟩
 exact ⟨z,us,r,⟨_,Heap.get?_push_size _ rfl,rfl,_,rfl⟩⟩
theorem t6 (h:PA X es t):PE X (.List es pos) (bp6 t):=by
 intro pins s σ H Q I hq
 refine wpAny_List_spliced (thn (h pos pins s σ H _ I hq) fun us s1 ⟨xs,H1,I1,r,z,q⟩=>⟨by rw [←r.length];exact z,?_⟩)
 have hf:H1 s1.heap.objs.size=none:=I1.hok.fresh (Nat.le_refl _)
 refine ⟨.ref s1.heap.objs.size,upd H1 s1.heap.objs.size (.lst xs),I1.laid (t':=s1.toks) (fun b u e=>Heap.get?_push_of_some _ e) (Nat.le_refl _) ?_,rfl,q _ hf⟩
 exact ⟨z,us,0,r,Heap.get?_push_size _ rfl⟩
end
abbrev Sp:=List V→Hp→VK→XK→Prop
abbrev CXT:=List Env→Hp→Shared→XK→Value→Shared→Prop
structure aY8 (P:Program) (w:World) (K:PySem.W.Frag) (mg:Str→Option Value) (base:Heap) (A:Around) (outer:List Env) (s:Shared) (H:Hp):Prop where
 frames:A.frames=some outer
 mod:Mod K mg base
 bs:∀ b o,base.get? b=some o→s.heap.get? b=some o∧H b=none
 bsz:base.objs.size≤s.heap.objs.size
 funs:s.heap.FunFrames base outer
 frf:∀ b∈frs outer,H b=none
 hok:HOk P w H s.heap
 bare:AllBare s.gens
def CE (outer:List Env) (P:Program) (w:World) (H:Hp) (s:Shared) (Q:VK) (u:Value) (s':Shared):Prop:=
 ∃ v H',s'.os=s.os∧AllBare s'.gens∧Un (frs outer) [] H H' s.heap s'.heap∧HOk P w H' s'.heap∧A4 v u∧Q v H'
def CR (CX:CXT) (outer:List Env) (P:Program) (w:World) (H:Hp) (s:Shared) (Q:VK) (E:XK) (r:Result) (s':Shared):Prop:=
 match r with
 | .ok (.ret u)=>CE outer P w H s Q u s'
 | .ok _=>False
 | .error e=>CX outer H s E e s'
structure ae9 (P:Program) (w:World) (K:PySem.W.Frag) (mg:Str→Option Value) (base:Heap) (CX:CXT) (k:Nat) (f:Addr) (fd:FuncData) (ps:List Str) (sp:Sp):Prop where
 len:∀ vs H Q E,sp vs H Q E→vs.length=ps.length
 run:∀ (A:Around) (outer:List Env) (s:Shared) (H:Hp) (args:Args) (us:List Value) (vs:List V) (Q:VK) (E:XK),Z2 k A→aY8 P w K mg base A outer s H→BindsTo s fd args (ps.zip us)→o0 vs us→sp vs H Q E →
  codeAny (model P w) A (.call (.ref f) args) (CR CX outer P w H s Q E) s
theorem ae9.mono {P:Program} {w:World} {K:PySem.W.Frag} {mg:Str→Option Value} {base:Heap} {CX:CXT} {j k:Nat} {f:Addr} {fd:FuncData} {ps:List Str} {sp:Sp} (F:ae9 P w K mg base CX j f fd ps sp) (h:j≤k) :
  ae9 P w K mg base CX k f fd ps sp:=⟨F.len,fun A outer s H args us vs Q E hr=>F.run A outer s H args us vs Q E (hr.mono h)⟩
theorem ae9.imp {P:Program} {w:World} {K:PySem.W.Frag} {mg:Str→Option Value} {base:Heap} {CX:CXT} {k:Nat} {f:Addr} {fd:FuncData} {ps:List Str} {sp sp':Sp} (F:ae9 P w K mg base CX k f fd ps sp)
  (h:∀ vs H Q E,sp' vs H Q E→sp vs H Q E):ae9 P w K mg base CX k f fd ps sp':=
 ⟨fun vs H Q E q=>F.len vs H Q E (h _ _ _ _ q),fun A outer s H args us vs Q E hr he hb hv hs=>F.run A outer s H args us vs Q E hr he hb hv (h _ _ _ _ hs)⟩
section
variable {X:Cx} {pins:List (Addr × Obj)} {σ:St} {H:Hp} {s s':Shared}
theorem Inv.env0 (I:Inv X pins σ H s):aY8 X.prog X.w X.K X.mg X.base X.A X.stack s H:=
 ⟨I.ok.frames,I.ok.mod,I.bs,Nat.le_trans I.ok.bsz I.sz,I.stack,I.stkFree,I.hok,I.bare⟩
theorem Inv.after {Q:VK} {u:Value} (I:Inv X pins σ H s) (h:CE X.stack X.prog X.w H s Q u s'):EP X pins σ Q u s':=by
 obtain ⟨v,H',os,bare,un,hok,r,q⟩:=h
 obtain ⟨hh,g,d,t,os'⟩:=s'
 obtain rfl:os'=s.os:=os
 exact ⟨v,H',I.call (h':=hh) (g':=g) (d':=d) (t':=t) (ch:=[]) un hok bare (fun b z=>absurd z (by simp)),r,q⟩
end
def bn1 (sp:Sp) (dvs:List V) (E:XK) (t:TA):TE:=fun σ H Q=>t σ H fun vs H1=>sp (vs++dvs) H1 Q E
def af0 (K:PySem.W.Frag) (fd:FuncData) (ps:List Str) (ds:List Value):Prop:=
 ∀ (s:Shared) (us:List Value),K.In s.heap→(us++ds).length=ps.length→BindsTo s fd ⟨us,[]⟩ (ps.zip (us++ds))
theorem af0.all {K:PySem.W.Frag} {fd:FuncData} {ps:List Str} (h:∀ us:List Value,us.length=ps.length→bindArgs fd ⟨us,[]⟩=pure (ps.zip us)):af0 K fd ps []:=fun s us _ hl=>by
 rw [List.append_nil] at hl ⊢
 exact .of_eq (h us hl)
def ax2 (CX:CXT) (X:Cx) (E:XK):Prop:=∀ (pins:List (Addr × Obj)) (σ:St) (H:Hp) (s:Shared) (e:Value) (s':Shared),Inv X pins σ H s→CX X.stack H s E e s'→X.xe e s'
section
variable {X:Cx} {CX:CXT} {k:Nat} {f C:Addr} {fd:FuncData} {ps:List Str} {sp:Sp} {dvs:List V} {ds:List Value} {E:XK} {x m:Str} {p pos apos:Pos} {e o:Expr} {es:List Expr} {ta:TE} {t:TA}
theorem bq1 {pins:List (Addr × Obj)} {σ:St} {H:Hp} {s:Shared} {Q:VK} {us:List Value} {vs:List V} (F:ae9 X.prog X.w X.K X.mg X.base CX k f fd ps sp) (hr:Z2 k X.A) (hb:af0 X.K fd ps ds) (hd:o0 dvs ds) (hx:ax2 CX X E)
  (I:Inv X pins σ H s) (r:o0 vs us) (h:sp (vs++dvs) H Q E):wpAny (model X.prog X.w) X.A (call (.ref f) us) (EP X pins σ Q) X.xe s:=by
 have r2:o0 (vs++dvs) (us++ds):=r.append hd
 have hl:(us++ds).length=ps.length:=by rw [←r2.length];exact F.len _ _ _ _ h
 refine wpAny_call (codeAny_mono (F.run X.A X.stack s H ⟨us,[]⟩ (us++ds) (vs++dvs) Q E hr I.env0 (hb s us I.kIn hl) r2 h) fun r s' hq=>?_)
 cases r with
 | error e=>exact hx pins σ H s e s' I hq
 | ok fl=>
  cases fl with
  | ret u=>exact I.after hq
  | next=>exact False.elim hq
  | brk=>exact False.elim hq
  | cont=>exact False.elim hq
theorem bj6 (F:ae9 X.prog X.w X.K X.mg X.base CX k f fd ps sp) (hr:Z2 k X.A) (hg:Gl X x) (hm:X.mg x=some (.ref f)) (hk:PySem.W.keepIn X.K (.ref f)=true) (hb:af0 X.K fd ps ds) (hd:o0 dvs ds) (hx:ax2 CX X E)
  (ha:PA X (e :: es) t) (hdb:(x == ("__debug__" : Str))=false:=by decide) (he:starEach (e :: es) X.env=(false,eval e X.env) :: starEach es X.env:=by rfl) (hpl:(backTo pos (starEach es X.env)).any (·.1)=false:=by rfl) :
  PE X (.Call (.Name x p) (e :: es) [] pos) (bn1 sp dvs E t):=by
 intro pins s σ H Q I h
 refine wpAny_Call_Name_kw (ak7 I hg hm ?_ hdb)
 refine PySem.W.callWith_K (h₀:=X.base) I.ok.mod.kin hk (thn (ha pos pins s σ H _ I h) fun us s1 ⟨vs,H1,I1,r,q⟩=>⟨I1.kIn,?_⟩) he hpl
 exact bq1 F hr hb hd hx I1 r q
structure Mk (K:PySem.W.Frag) (C f:Addr):Prop where
 makes:PySem.W.makesIn K C=true
 init:PySem.W.findIn K (.ref C) "__init__" = some (some (.ref f))
 fn:PySem.W.isFn K (.ref f)=true
 kp:PySem.W.keepIn K (.ref C)=true
end
section
variable {X:Cx} {CX:CXT} {k:Nat} {f C:Addr} {fd:FuncData} {ps ks:List Str} {sp:Sp} {E:XK} {x m:Str} {p pos apos kpos:Pos} {e o:Expr} {es:List Expr} {kws:List Keyword} {te ta:TE} {t tk:TA} {nm:Option Str}
structure KBinds (K:PySem.W.Frag) (fd:FuncData) (ps ks:List Str) (g:List Value→List Value→List Value) (gV:List V→List V→List V):Prop where
 to:∀ (s:Shared) (us ws:List Value),K.In s.heap→(g us ws).length=ps.length→BindsTo s fd ⟨us,ks.zip ws⟩ (ps.zip (g us ws))
 rel:∀ {vs:List V} {us:List Value} {zs:List V} {ws:List Value},o0 vs us→o0 zs ws→o0 (gV vs zs) (g us ws)
variable {g:List Value→List Value→List Value} {gV:List V→List V→List V}
end
structure i8 (N P:List Str) (sc:Scope):Prop where
 kind:sc.kind = .function
 co:sc.isCoroutine=false
 gen:sc.isGenerator=false
 nd:N.Nodup
 pre:N.take P.length=P
 par:∀ x∈P,sc.names.lookup x=some .local∨sc.names.lookup x=some .cell
 nofree:∀ y∈sc.names,y.2≠.free
theorem aC8 {kindOf:Str→Option NameKind} {x:Str}:∀ {binds:List (Str × Value)} {m:Str→Option Value},(∀ v,(x,v) ∉ binds)→bindL kindOf binds m x=m x
 | [],_,_=>rfl
 | (n,v) :: r,m,h=>by
  unfold bindL
  rw [aC8 fun w hw=>h w (List.mem_cons_of_mem _ hw)]
  split
  ·have:x≠n:=by rintro rfl;exact h v List.mem_cons_self
   simp [this]
  ·rfl
theorem aD0 {kindOf:Str→Option NameKind} {x:Str}:∀ {binds:List (Str × Value)} {m:Str→Option Value},(∀ v,(x,v) ∉ binds)→bindC kindOf binds m x=m x
 | [],_,_=>rfl
 | (n,v) :: r,m,h=>by
  unfold bindC
  rw [aD0 fun w hw=>h w (List.mem_cons_of_mem _ hw)]
  split
  ·rfl
  ·have:x≠n:=by rintro rfl;exact h v List.mem_cons_self
   simp [this]
theorem aC9 {kindOf:Str→Option NameKind} {x:Str} {v:Value}:∀ {P:List Str} {vs:List Value} {i:Nat} {m:Str→Option Value},P.Nodup→P[i]? = some x→vs[i]? = some v→kindOf x=some .local →
  bindL kindOf (P.zip vs) m x=some v
 | [],_,_,_,_,h,_,_=>by simp at h
 | _ :: _,[],_,_,_,_,h,_=>by simp at h
 | p :: P,w :: vs,0,m,nd,h1,h2,hk=>by
  simp at h1 h2;subst h1;subst h2
  show bindL kindOf ((p,w) :: P.zip vs) m p=_
  unfold bindL
  rw [aC8 fun v hv=>(List.nodup_cons.mp nd).1 (List.of_mem_zip hv).1,if_pos hk]
  simp
 | p :: P,w :: vs,i+1,m,nd,h1,h2,hk=>by
  show bindL kindOf ((p,w) :: P.zip vs) m x=_
  unfold bindL
  exact aC9 (i:=i) (List.nodup_cons.mp nd).2 (by simpa using h1) (by simpa using h2) hk
theorem aD1 {kindOf:Str→Option NameKind} {x:Str} {v:Value}:∀ {P:List Str} {vs:List Value} {i:Nat} {m:Str→Option Value},P.Nodup→P[i]? = some x→vs[i]? = some v→kindOf x≠some .local →
  bindC kindOf (P.zip vs) m x=some v
 | [],_,_,_,_,h,_,_=>by simp at h
 | _ :: _,[],_,_,_,_,h,_=>by simp at h
 | p :: P,w :: vs,0,m,nd,h1,h2,hk=>by
  simp at h1 h2;subst h1;subst h2
  show bindC kindOf ((p,w) :: P.zip vs) m p=_
  unfold bindC
  rw [aD0 fun v hv=>(List.nodup_cons.mp nd).1 (List.of_mem_zip hv).1,if_neg hk]
  simp
 | p :: P,w :: vs,i+1,m,nd,h1,h2,hk=>by
  show bindC kindOf ((p,w) :: P.zip vs) m x=_
  unfold bindC
  exact aD1 (i:=i) (List.nodup_cons.mp nd).2 (by simpa using h1) (by simpa using h2) hk
def start (N:List Str) (vs:List V):St:=vs.map some++List.replicate (N.length - vs.length) none
def ao9 (CX:CXT) (P:Program) (w:World) (K:PySem.W.Frag) (mg:Str→Option Value) (base:Heap) (N:List Str) (qual:Str) (scope:Scope) (f:Addr) (cd:Value) (A:Around) (outer:List Env) (s:Shared) (H:Hp) (E:XK):Cx where
 prog:=P
 w:=w
 K:=K
 mg:=mg
 base:=base
 A:=A.deeper (envOfC qual scope s.heap.objs.size f cd)
 N:=N
 s₀:=s
 H₀:=H
 env:=envOfC qual scope s.heap.objs.size f cd
 outer:=outer
 stack:=envOfC qual scope s.heap.objs.size f cd :: outer
 ex:=[]
 calm:=true
 fn:=fun _=>true
 pn:=[]
 xe:=fun e s'=>wpAny (model P w) (A.deeper (envOfC qual scope s.heap.objs.size f cd)) (leaving (envOfC qual scope s.heap.objs.size f cd) e) (fun _ s''=>CX outer H s E e s'') (fun e' s''=>CX outer H s E e' s'') s'
theorem aN1 {sc:Scope} {n:Nat} {x:Str} (h:sc.names.lookup x=some .cell):∃ c,(cellsFrom n sc.names []).lookup x=some c:=by
 have q:=PySem.W.cellsFrom_some sc.names n [] (.inl h)
 exact Option.isSome_iff_exists.mp q
theorem aB7 {CX:CXT} {P:Program} {w:World} {K:PySem.W.Frag} {mg:Str→Option Value} {base:Heap} {N ps:List Str} {qual:Str} {scope:Scope} {f:Addr} {cd:Value} {A:Around} {outer:List Env} {s s1:Shared} {H:Hp} {E:XK} {us:List Value} {vs:List V}
  (S:i8 N ps scope) (hd:A.handled=none) (e0:aY8 P w K mg base A outer s H) (hl:vs.length=ps.length) (r:o0 vs us)
  (x:InCallC s s.heap.objs.size (bindL (envOfC qual scope s.heap.objs.size f cd).kindOf (ps.zip us) fun _=>none) (cellsFrom (s.heap.objs.size+1) scope.names []) (bindC (envOfC qual scope s.heap.objs.size f cd).kindOf (ps.zip us) fun _=>none) s1) :
  Inv (ao9 CX P w K mg base N qual scope f cd A outer s H E) [] (start N vs) H s1:=by
 have hpl:ps.length≤N.length:=by have:=congrArg List.length S.pre;rw [List.length_take] at this;lia
 obtain ⟨h1,tk,rfl,hk⟩:=x.done
 have noA:∀ b:Addr,b ∉ (ao9 CX P w K mg base N qual scope f cd A outer s H E).ex:=fun b z=>absurd (show b∈([]:List Addr) from z) (by simp)
 refine ⟨⟨e0.mod,S.kind,rfl,rfl,Nat.le_refl _,fun y z c h1 h2=>?_,fun y hy=>?_,fun y c _ h=>?_,fun _=>hd,Around.frames_deeper e0.frames,.inr ⟨rfl,rfl⟩,fun b z=>absurd z (noA b),e0.bs,e0.bsz,fun b _ _=>noA b,fun b z=>absurd z (noA b),e0.funs,e0.frf⟩,
  rfl,e0.bare,Un.kept hk,⟨_,x.toInCall.ns,fun i y v h1 h2 h3=>?_⟩,fun y c h=>⟨_,x.cell y c h⟩,e0.hok.fresh (Nat.le_refl _),fun y c h=>?_,fun p hp=>absurd (show p∈([]:List (Addr × Obj)) from hp) (by simp),e0.hok.kept hk,?_⟩
 ·exact name_of_addr x.apart (PySem.mem_of_lookup h1) (PySem.mem_of_lookup h2)
 ·have hy:scope.names.lookup y=some .cell∨scope.names.lookup y=some .free:=hy
  rcases hy with hy | hy
  ·exact aN1 hy
  ·exact absurd rfl (S.nofree _ (PySem.mem_of_lookup hy))
 ·exact Nat.le_of_lt (x.above y c (PySem.mem_of_lookup h))
 ·have hi:i<vs.length:=by
   unfold start at h2
   by_cases hi:i<vs.length
   ·exact hi
   ·rw [List.getElem?_append_right (by simpa using hi)] at h2
    rw [List.getElem?_replicate] at h2
    split at h2 <;> cases h2
  have ha:vs[i]? = some v:=by
   unfold start at h2
   rw [List.getElem?_append_left (by simpa using hi),List.getElem?_map] at h2
   cases e:vs[i]? with
   | none=>rw [e] at h2;cases h2
   | some a=>rw [e] at h2;cases h2;rfl
  obtain ⟨u,hu,rv⟩:=r.get ha
  have hp:ps[i]? = some y:=by
   rw [←S.pre,List.getElem?_take_of_lt (by lia)];exact h1
  have ndP:ps.Nodup:=by rw [←S.pre];exact S.nd.sublist (List.take_sublist _ _)
  refine ⟨u,rv,?_⟩
  rcases S.par y (List.mem_of_getElem? hp) with k | k
  ·exact .inl ⟨k,aC9 ndP hp hu k⟩
  ·obtain ⟨c,e⟩:=aN1 (n:=s.heap.objs.size+1) k
   refine .inr ⟨.inl k,c,e,?_⟩
   have q:=x.cell y c e
   rw [aD1 ndP hp hu (by show scope.names.lookup y≠_;rw [k];decide)] at q
   exact q
 ·exact e0.hok.fresh (Nat.le_of_lt (x.above y c (PySem.mem_of_lookup h)))
 ·unfold start
  show _=N.length
  rw [List.length_append,List.length_map,List.length_replicate]
  lia
theorem bo6 {CX:CXT} {P:Program} {w:World} {K:PySem.W.Frag} {mg:Str→Option Value} {base:Heap} {k:Nat} {f:Addr} {name qual:Str} {params:Arguments} {body:List Stmt} {scope:Scope} {dV kV doc pm cdv ct oc:Value} {an od:Option Addr}
  {osl:Array (Option Value)} {N ps:List Str} {sp:Sp} (lk:K.lookup f=some ⟨oc,od,.func (PySem.W.fnOf name qual params body scope dV kV doc pm an cdv ct),osl⟩) (hcd:PySem.W.codeIn K cdv qual=true) (S:i8 N ps scope)
  (len:∀ vs H Q E,sp vs H Q E→vs.length=ps.length)
  (hbody:∀ (A:Around) (outer:List Env) (s:Shared) (H:Hp) (vs:List V) (Q:VK) (E:XK),Z2 k (A.deeper (envOfC qual scope s.heap.objs.size f cdv))→sp vs H Q E →
   ∃ t,PSs (ao9 CX P w K mg base N qual scope f cdv A outer s H E) body t∧t { nx:=fun _ H'=>Q .non H',rt:=Q } (start N vs) H) :
  ae9 P w K mg base CX (k+1) f (PySem.W.fnOf name qual params body scope dV kV doc pm an cdv ct) ps sp:=by
 refine ⟨len,fun A outer s H args us vs Q E hr e0 hb r hsp=>?_⟩
 have hl:=len _ _ _ _ hsp
 have KX:K.In s.heap:=e0.mod.kin.keeps fun b o e=>(e0.bs b o e).1
 have lim:s.heap.NoLimit:=e0.mod.nolimit.keeps fun b o e=>(e0.bs b o e).1
 have hkind:∀ y∈ps.zip us,scope.names.lookup y.1=some .local∨(scope.names.lookup y.1=some .cell∧((cellsFrom (s.heap.objs.size+1) scope.names []).lookup y.1).isSome=true):=fun ⟨n,v⟩ hy=>by
  rcases S.par n (List.of_mem_zip hy).1 with q | q
  ·exact .inl q
  ·exact .inr ⟨q,PySem.W.cellsFrom_some _ _ _ (.inl q)⟩
 refine codeAny_call_function hr.depth (KX _ _ lk) rfl S.co S.gen rfl (PySem.W.codeRec_of KX hcd) (hb _ _ _ _ ?_)
 refine wpAny_newFunctionEnv_cells S.kind hkind fun env he s1 x=>?_
 subst he
 refine ⟨lim.keeps x.toInCall.keep,codeAny_func ?_⟩
 obtain ⟨t,ht,hq⟩:=hbody A outer s H vs Q E (hr.deeper _) hsp
 have I:Inv (ao9 CX P w K mg base N qual scope f cdv A outer s H E) [] (start N vs) H s1:=aB7 S hr.hd e0 hl r x
 refine wpAny_mono (ht [] s1 (start N vs) H _ I hq) (fun fl s' hs=>?_) fun e s' hs=>hs
 have fin:∀ {σ':St} {H':Hp} {v:V} {u:Value},Inv (ao9 CX P w K mg base N qual scope f cdv A outer s H E) [] σ' H' s'→A4 v u→Q v H'→CE outer P w H s Q u s':=
  fun {σ' H' v u} J rv q=>⟨v,H',J.os,J.bare,J.base,J.hok,rv,q⟩
 cases fl with
 | ret u=>
  obtain ⟨v,σ',H',J,rv,q⟩:=hs
  exact fin J rv q
 | next=>
  obtain ⟨σ',H',J,q⟩:=hs
  exact fin (v:=V.non) (u:=Value.none) J rfl q
 | brk=>
  obtain ⟨_,_,_,q⟩:=hs
  exact False.elim q
 | cont=>
  obtain ⟨_,_,_,q⟩:=hs
  exact False.elim q
section
variable {X:Cx} {x:Str} {p pos:Pos} {e:Expr} {es:List Expr} {t:TA} {id T:String} {r:List V→Hp→VK→Prop}
def tCB (r:List V→Hp→VK→Prop) (t:TA):TE:=fun σ H Q=>t σ H fun vs H1=>r vs H1 Q
theorem d8 (hc:aa1 X (.builtin id) r) (hg:Gl X x) (hm:X.mg x=none) (hv:bootBuiltins x=some (.builtin id)) (ha:PA X (e :: es) t) (hn:x≠"__name__":=by decide) (hdb:(x == ("__debug__" : Str))=false:=by decide)
  (he:starEach (e :: es) X.env=(false,eval e X.env) :: starEach es X.env:=by rfl) (hpl:(backTo pos (starEach es X.env)).any (·.1)=false:=by rfl):PE X (.Call (.Name x p) (e :: es) [] pos) (tCB r t):=by
 intro pins s σ H Q I h
 refine wpAny_Call_Name_kw (ae4 I hg hm hv ?_ hn hdb)
 exact PyProof.Rows.callWith_builtin1 (thn (ha pos pins s σ H _ I h) fun us s1 ⟨vs,H1,I1,r1,q1⟩=>hc pins s1 σ H1 vs us Q I1 r1 q1) he hpl
theorem G3 (hc:aa1 X (.type T) r) (hg:Gl X x) (hm:X.mg x=none) (hv:bootBuiltins x=some (.type T)) (ha:PA X (e :: es) t) (hn:x≠"__name__":=by decide) (hdb:(x == ("__debug__" : Str))=false:=by decide)
  (he:starEach (e :: es) X.env=(false,eval e X.env) :: starEach es X.env:=by rfl) (hpl:(backTo pos (starEach es X.env)).any (·.1)=false:=by rfl):PE X (.Call (.Name x p) (e :: es) [] pos) (tCB r t):=by
 intro pins s σ H Q I h
 refine wpAny_Call_Name_kw (ae4 I hg hm hv ?_ hn hdb)
 exact PyProof.Rows.callWith_type1 (thn (ha pos pins s σ H _ I h) fun us s1 ⟨vs,H1,I1,r1,q1⟩=>hc pins s1 σ H1 vs us Q I1 r1 q1) he hpl
end
end L2
namespace HT
open PySem PyProof.Rows
section
open PySem.SeqAt
open PySem.AutoSeq1 (wpAny_loadPart')
open PySem.MeetsSeq PySem.MeetsSeq2 PySem.MeetsSeq3
end
section
variable {prog:Program} {w:World} {A:Around} {E:Value→Shared→Prop} {s:Shared}
def sIx (n d:Nat):Option Int→Nat
 | none=>d
 | some v=>if v<0 then (v+(n:Int)).toNat else min v.toNat n
end
end HT
namespace L2
open PySem PySem.Spec PyProof.Rows
abbrev TO:=St→Hp→(Option Int→Hp→Prop)→Prop
def PO (X:Cx) (e:Option Expr) (t:TO):Prop:=
 ∀ (pins:List (Addr × Obj)) (s:Shared) (σ:St) (H:Hp) (Q:Option Int→Hp→Prop),Inv X pins σ H s→t σ H Q →
  wpAny (model X.prog X.w) X.A (evalPart e X.env) (fun u s'=>∃ o H',Inv X pins σ H' s'∧IsPart u o∧Q o H') X.xe s
def aE2:TO:=fun _ H Q=>Q none H
def aZ7 (t:TE):TO:=fun σ H Q=>t σ H fun x H1=>∃ i,x = .int i∧Q (some i) H1
section
variable {X:Cx} {e:Expr} {te:TE} {lo hi:Option Expr} {tl th:TO} {pos p2:Pos}
theorem R4:PO X none aE2:=by
 intro pins s σ H Q I h
 rw [evalPart_none]
 exact wpAny_pure ⟨none,H,I,.none,h⟩
theorem R3 (h:PE X e te):PO X (some e) (aZ7 te):=by
 intro pins s σ H Q I hw
 rw [evalPart_some]
 refine thn (h pins s σ H _ I hw) fun u s1 ⟨x,H1,I1,r1,q1⟩=>?_
 obtain ⟨i,rfl,q⟩:=q1
 obtain ⟨t,rfl⟩:=r1
 exact ⟨some i,H1,I1,.int i t,q⟩
def SlR (X:Cx) (r:V→Option Int→Option Int→Hp→VK→Prop):Prop:=
 ∀ (pins:List (Addr × Obj)) (s:Shared) (σ:St) (H:Hp) (x:V) (v vl vu:Value) (lo hi:Option Int) (sl:Addr) (Q:VK),Inv X pins σ H s→A4 x v→s.heap.IsSliceOf sl vl vu .none→IsPart vl lo→IsPart vu hi→r x lo hi H Q →
  ∃ T id,typeLookup (.type T) "__getitem__" = pure (some (.builtin id))∧s.TypeIs v T∧wpAny (model X.prog X.w) X.A (getItem v (.ref sl)) (EP X pins σ Q) X.xe s
def tSl (r:V→Option Int→Option Int→Hp→VK→Prop) (te:TE) (tl th:TO):TE:=fun σ H Q=>te σ H fun x H1=>tl σ H1 fun l H2=>th σ H2 fun u H3=>r x l u H3 Q
theorem V2 {r:V→Option Int→Option Int→Hp→VK→Prop} (hr:SlR X r) (he:PE X e te) (hl:PO X lo tl) (hu:PO X hi th):PE X (.Subscript e (.Slice lo hi none p2) pos) (tSl r te tl th):=by
 intro pins s σ H Q I h
 refine Subscript_ (thn (he pins s σ H _ I h) fun v s1 ⟨x,H1,I1,r1,q1⟩=>?_)
 refine wpAny_Slice (thn (hl pins s1 σ H1 _ I1 q1) fun vl s2 ⟨l,H2,I2,pl,q2⟩=>thn (hu pins s2 σ H2 _ I2 q2) fun vu s3 ⟨u,H3,I3,pu,q3⟩=>?_)
 rw [evalPart_none]
 refine wpAny_pure ?_
 have I4:Inv X pins σ H3 { s3 with heap:=s3.heap.push { cls:=.type "slice",data:=.fields #[vl,vu,.none] } }:=I3.kept (t':=s3.toks) fun b ob q=>Heap.get?_push_of_some _ q
 obtain ⟨T,id,hT,ht,hg⟩:=hr pins { s3 with heap:=s3.heap.push { cls:=.type "slice",data:=.fields #[vl,vu,.none] } } σ H3 x v vl vu l u s3.heap.objs.size Q I4 r1 (Heap.IsSliceOf.new ..) pl pu q3
 show wpAny (model X.prog X.w) X.A (subscriptTail e (.Slice lo hi none p2) v (.ref s3.heap.objs.size)) (EP X pins σ Q) X.xe { s3 with heap:=s3.heap.push { cls:=.type "slice",data:=.fields #[vl,vu,.none] } }
 exact tail_any (ops:=[.ref s3.heap.objs.size,v]) ht hT hg (by with_unfolding_all rfl)
def al3 (xs:List V) (lo hi:Option Int):List V:=(xs.drop (HT.sIx xs.length 0 lo)).take (HT.sIx xs.length xs.length hi - HT.sIx xs.length 0 lo)
theorem aq7 (xs:List V) (lo hi:Option Int):(al3 xs lo hi).length≤xs.length:=by
 unfold al3
 rw [List.length_take,List.length_drop]
 lia
end
def ixN (n:Nat) (i:Int):Option Nat:=if 0≤i then (if i<n then some i.toNat else none) else if -(n:Int)≤i then some (i+n).toNat else none
def atI {α:Type} (xs:List α) (i:Int):Option α:=(ixN xs.length i).bind fun j=>xs[j]?
theorem aT2 {n:Nat} {i:Int} {j:Nat} (h:ixN n i=some j):seqIndex? i n=some j∧j<n∧-(n:Int)≤i∧i<n:=by
 unfold ixN at h
 by_cases h0:0≤i
 ·rw [if_pos h0] at h
  by_cases h1:i<n
  ·rw [if_pos h1] at h
   have e:i.toNat=j:=Option.some.inj h
   exact ⟨by rw [seqIndex_of h0 h1,e],by lia,by omega,h1⟩
  ·rw [if_neg h1] at h;cases h
 ·rw [if_neg h0] at h
  by_cases h1 : -(n:Int)≤i
  ·rw [if_pos h1] at h
   have e:(i+n).toNat=j:=Option.some.inj h
   exact ⟨by rw [seqIndex_neg (by omega) h1,e],by lia,h1,by lia⟩
  ·rw [if_neg h1] at h;cases h
theorem aI6 {α:Type} {xs:List α} {i:Int} {v : α} (h:atI xs i=some v):∃ j,seqIndex? i xs.length=some j∧xs[j]? = some v∧j<xs.length∧-(xs.length:Int)≤i∧i<xs.length:=by
 unfold atI at h
 cases e:ixN xs.length i with
 | none=>rw [e] at h;cases h
 | some j=>
  rw [e] at h
  obtain ⟨h1,h2,h3,h4⟩:=aT2 e
  exact ⟨j,h1,h,h2,h3,h4⟩
theorem F7 {α:Type} {xs:List α} {j:Nat} {v : α} (h:xs[j]? = some v):atI xs (j:Int)=some v:=by
 have hj:j<xs.length:=(List.getElem?_eq_some_iff.mp h).1
 have e:ixN xs.length (j:Int)=some j:=by
  unfold ixN
  rw [if_pos (by simp),if_pos (by omega)];simp
 unfold atI;rw [e];exact h
def bm4 (b:Expr):Prop:=∀ o i,subscripted b false o i=operate [o,i] (getItem o i)
def IxR (X:Cx) (r:R2):Prop:=
 ∀ (value slice:Expr) (pins:List (Addr × Obj)) (s:Shared) (σ:St) (H:Hp) (x y:V) (v u:Value) (Q:VK),Inv X pins σ H s→A4 x v→A4 y u→r x y H Q →
  subscripted slice false v u=operate [v,u] (getItem v u)→wpAny (model X.prog X.w) X.A (subscriptTail value slice v u) (EP X pins σ Q) X.xe s
def MtR (X:Cx) (id:String) (r:V→List V→Hp→VK→Prop):Prop:=
 ∀ (pins:List (Addr × Obj)) (s:Shared) (σ:St) (H:Hp) (x:V) (xs:List V) (v:Value) (us:List Value) (Q:VK),Inv X pins σ H s→A4 x v→o0 xs us→r x xs H Q →
  wpAny (model X.prog X.w) X.A (call (.builtin id) (v :: us)) (EP X pins σ Q) X.xe s
section
variable {X:Cx} {a b:Expr} {ta tb:TE} {pos:Pos}
theorem j8 {r:R2} (hr:IxR X r) (ha:PE X a ta) (hb:PE X b tb) (hs:bm4 b):PE X (.Subscript a b pos) (tOp r ta tb):=by
 intro pins s σ H Q I h
 exact Subscript_ (bu9 ha hb I h fun v u s2 x y H2 I2 rx ry q=>hr a b pins s2 σ H2 x y v u Q I2 rx ry q (hs _ _))
def aO2 (K:PySem.W.Frag):R2:=fun x y H Q=>∃ p xs i v,x = .ref p∧y = .int i∧SqL K H p xs∧atI xs i=some v∧Q v H
def bj2 (K:PySem.W.Frag):R2:=fun x y H Q=>∃ p xs i v,x = .ref p∧y = .int i∧SqT K H p xs∧atI xs i=some v∧Q v H
theorem u7:IxR X (aO2 X.K):=by
 intro value slice pins s σ H x y v u Q I rx ry h hs
 obtain ⟨p,xs,i,z,rfl,rfl,hq,he,q⟩:=h
 cases rx
 obtain ⟨t,rfl⟩:=ry
 obtain ⟨its,r,pl,hz⟩:=I.list hq
 obtain ⟨j,h1,h2,h3,h4,h5⟩:=aI6 he
 obtain ⟨w,ew,rw'⟩:=r.get h2
 have hl:=r.length
 have hn:=ae3
 have fin:EP X pins σ Q w s:=⟨z,H,I,rw',q⟩
 by_cases h0:0≤i
 ·have hj:i.toNat=j:=by
   rw [seqIndex_of h0 h5] at h1
   exact Option.some.inj h1
  exact item_listR pl.isList h0 (by lia) (by rw [hj];simpa using ew) fin hs
 ·have hj:(i+(its.toArray.size:Int)).toNat=j:=by
   rw [seqIndex_neg (by lia) h4] at h1
   rw [List.size_toArray,←hl]
   exact Option.some.inj h1
  exact subscriptTail_builtinR (x:=w) pl.isList.typeIs slot_list_getitem.lookup
   (wpAny_getItem_list_neg (Q:=fun r s'=>r=w∧EP X pins σ Q r s') pl.isList (by omega) (by rw [List.size_toArray] <;> lia) (by lia) (by rw [hj];simpa using ew) ⟨rfl,fin⟩) hs
theorem p8:IxR X (bj2 X.K):=by
 intro value slice pins s σ H x y v u Q I rx ry h hs
 obtain ⟨p,xs,i,z,rfl,rfl,hq,he,q⟩:=h
 cases rx
 obtain ⟨t,rfl⟩:=ry
 obtain ⟨its,r,pl,hz⟩:=I.tuple hq
 obtain ⟨j,h1,h2,h3,h4,h5⟩:=aI6 he
 obtain ⟨w,ew,rw'⟩:=r.get h2
 have hl:=r.length
 have hn:=ae3
 have fin:EP X pins σ Q w s:=⟨z,H,I,rw',q⟩
 exact subscriptTail_builtinR (x:=w) pl.typeIs slot_tuple_getitem.lookup
  (getItem_tuple (j:=j) (Q:=fun r s'=>r=w∧EP X pins σ Q r s') pl (by lia) (by lia) (by rw [List.size_toArray,←hl];exact h1) (by simpa using ew) ⟨rfl,fin⟩) hs
theorem aQ2 (its:List Value) (n j:Nat) (u:Value):Obj.mapSeq (·.setIfInBounds j u) { cls:=.type "list",data:=.seq its.toArray n }={ cls:=.type "list",data:=.seq (its.set j u).toArray n }:=by
 simp [Obj.mapSeq]
theorem Inv.lst {pins:List (Addr × Obj)} {σ:St} {H:Hp} {s:Shared} {p:Addr} {xs:List V} (I:Inv X pins σ H s) (h:H p=some (.lst xs)) :
  ∃ (its:List Value) (n:Nat),o0 xs its∧s.heap.get? p=some { cls:=.type "list",data:=.seq its.toArray n }∧xs.length≤sizeLine:=by
 obtain ⟨z,its,n,r,e⟩:=I.hok p _ h
 exact ⟨its,n,r,e,z⟩
theorem Inv.lstUpd {pins:List (Addr × Obj)} {σ:St} {H:Hp} {s:Shared} {p:Addr} {xs ys:List V} {its its':List Value} {n n':Nat} {f:Obj→Obj} (I:Inv X pins σ H s) (h:H p=some (.lst xs))
  (ho:s.heap.get? p=some { cls:=.type "list",data:=.seq its.toArray n }) (hf:f { cls:=.type "list",data:=.seq its.toArray n }={ cls:=.type "list",data:=.seq its'.toArray n' }) (r:o0 ys its') (hz:ys.length≤sizeLine) (t:Nat) :
  Inv X pins σ (upd H p (.lst ys)) { s with heap:=s.heap.update p f,toks:=t }:=by
 have e:(s.heap.update p f).get? p=some { cls:=.type "list",data:=.seq its'.toArray n' }:=by
  rw [Heap.get?_update_self f ho (by rw [hf] <;> rfl),hf]
 refine I.write (x:=p) (e:=p) (by rw [h];trivial) (.inl rfl) (fun b u hb q=>(Heap.get?_update_other _ _ (Ne.symm hb)).trans q) ⟨_,e⟩ ?_
 exact ⟨hz,its',n',r,e⟩
def bc1:V→V→V→Hp→(Hp→Prop)→Prop:=fun o i v H Q=>∃ p xs k j,o = .ref p∧i = .int k∧H p=some (.lst xs)∧ixN xs.length k=some j∧Q (upd H p (.lst (xs.set j v)))
theorem Y2:bv5 X bc1:=by
 intro pins s σ H o i v ov iv u Q I ro ri rv h
 obtain ⟨p,xs,k,j,rfl,rfl,hp,hj,q⟩:=h
 cases ro
 obtain ⟨t,rfl⟩:=ri
 obtain ⟨its,n,r,ho,hz⟩:=I.lst hp
 obtain ⟨h1,h2,h3,h4⟩:=aT2 hj
 have hl:=r.length
 have hn:=ae3
 have I':Inv X pins σ (upd H p (.lst (xs.set j v))) { s with heap:=s.heap.update p (Obj.mapSeq (·.setIfInBounds j u)) }:=
  I.lstUpd hp ho (aQ2 its n j u) (r.set rv j) (by rw [List.length_set];exact hz) s.toks
 by_cases h0:0≤k
 ·have hk:k.toNat=j:=by
   rw [seqIndex_of h0 h4] at h1
   exact Option.some.inj h1
  exact PySem.W.ki_setAt ho h0 (by lia) (by rw [List.size_toArray,←hl];exact h4) (by rw [hk];exact ⟨_,I',q⟩)
 ·have hk:(k+(its.toArray.size:Int)).toNat=j:=by
   rw [seqIndex_neg (by lia) h3] at h1
   rw [List.size_toArray,←hl]
   exact Option.some.inj h1
  exact PySem.W.ki_setBack ho (by omega) (by rw [List.size_toArray,←hl];exact h3) (by lia) (by rw [hk];exact ⟨_,I',q⟩)
theorem aE8 (lo hi:Option Int) (n:Nat):(sliceBounds lo hi none n).1=((HT.sIx n 0 lo:Nat):Int)∧(sliceBounds lo hi none n).2.1=((HT.sIx n n hi:Nat):Int)∧(sliceBounds lo hi none n).2.2=1:=by
 refine ⟨?_,?_,rfl⟩
 ·cases lo with
  | none=>simp [sliceBounds,HT.sIx]
  | some i=>
   simp only [sliceBounds,HT.sIx,Option.getD_none,show (1:Int) > 0 by decide,if_true]
   by_cases h:i<0
   ·simp only [h,if_true] <;> lia
   ·simp only [h,if_false] <;> lia
 ·cases hi with
  | none=>simp [sliceBounds,HT.sIx]
  | some i=>
   simp only [sliceBounds,HT.sIx,Option.getD_none,show (1:Int) > 0 by decide,if_true]
   by_cases h:i<0
   ·simp only [h,if_true] <;> omega
   ·simp only [h,if_false] <;> omega
theorem ax4 (its:List Value) (lo hi:Option Int):slicePick its.toArray lo hi none=((its.drop (HT.sIx its.length 0 lo)).take (HT.sIx its.length its.length hi - HT.sIx its.length 0 lo)).toArray:=by
 obtain ⟨h1,h2,h3⟩:=aE8 lo hi its.toArray.size
 unfold slicePick
 rw [h1,h2,h3]
 simp only [sliceRange_one,pick_run,List.size_toArray] <;> rfl
def bq2 (K:PySem.W.Frag):V→Option Int→Option Int→Hp→VK→Prop:=fun x lo hi H Q=>∃ a xs,x = .ref a∧SqL K H a xs∧∀ p,H p=none→Q (.ref p) (upd H p (.lst (al3 xs lo hi)))
theorem Z4:SlR X (bq2 X.K):=by
 intro pins s σ H x v vl vu lo hi sl Q I rx hs pl pu h
 obtain ⟨a,xs,rfl,hx,q⟩:=h
 cases rx
 obtain ⟨its,r,ht,hz⟩:=I.list hx
 have hlen:=r.length
 refine ⟨"list",_,slot_list_getitem.lookup,ht.isList.typeIs,?_⟩
 refine wpAny_getItem_list_slice ht.isList hs pl pu .none (by simp) ?_ (by rw [List.size_toArray] <;> lia)
 rw [ax4,←hlen]
 refine ⟨.ref s.heap.objs.size,_,I.laid (t':=s.toks) (o:=.lst (al3 xs lo hi)) (fun b ob q=>Heap.get?_push_of_some _ q) (Nat.le_refl _) ?_,rfl,q _ (I.hok.fresh (Nat.le_refl _))⟩
 exact ⟨Nat.le_trans (aq7 xs lo hi) hz,_,0,(r.drop (HT.sIx xs.length 0 lo)).take (HT.sIx xs.length xs.length hi - HT.sIx xs.length 0 lo),Heap.get?_push_size _ rfl⟩
def Y8:V→Bool
 | .non=>true
 | .bl _=>true
 | .int _=>true
 | .str _=>true
 | _=>false
def eqV:V→V→Bool
 | .non,.non=>true
 | .bl a,.bl b=>a == b
 | .bl a,.int b=>(if a then 1 else 0) == b
 | .int a,.bl b=>a == (if b then 1 else 0)
 | .int a,.int b=>a == b
 | .str a,.str b=>a == b
 | _,_=>false
theorem bg4 {A:Around} {s:Shared} {y x:V} {u v:Value} (ry:A4 y u) (rx:A4 x v) (fy:Y8 y=true) (fx:Y8 x=true):SeqAt.EqAt A s u v (eqV y x):=by
 cases y with
 | non=>
  cases ry
  cases x with
  | non=>cases rx;exact SeqAt.EqAt.same _
  | bl b=>cases rx;exact SeqAt.EqAt.none_bool b
  | int b=>obtain ⟨t,rfl⟩:=rx;exact SeqAt.EqAt.none_int b t
  | str b=>obtain ⟨t,rfl⟩:=rx;exact SeqAt.EqAt.none_str b t
  | _=>exact absurd (show false=true from fx) Bool.false_ne_true
 | bl a=>
  cases ry
  cases x with
  | non=>cases rx;exact SeqAt.EqAt.bool_none a
  | bl b=>cases rx;exact SeqAt.EqAt.bool_bool a b
  | int b=>obtain ⟨t,rfl⟩:=rx;exact SeqAt.EqAt.bool_int a b t
  | str b=>obtain ⟨t,rfl⟩:=rx;exact SeqAt.EqAt.bool_str a b t
  | _=>exact absurd (show false=true from fx) Bool.false_ne_true
 | int a=>
  obtain ⟨t',rfl⟩:=ry
  cases x with
  | non=>cases rx;exact SeqAt.EqAt.int_none a t'
  | bl b=>cases rx;exact SeqAt.EqAt.int_bool a t' b
  | int b=>obtain ⟨t,rfl⟩:=rx;exact SeqAt.EqAt.int_int a t' b t
  | str b=>obtain ⟨t,rfl⟩:=rx;exact SeqAt.EqAt.int_str a t' b t
  | _=>exact absurd (show false=true from fx) Bool.false_ne_true
 | str a=>
  obtain ⟨t',rfl⟩:=ry
  cases x with
  | non=>cases rx;exact SeqAt.EqAt.str_none a t'
  | bl b=>cases rx;exact SeqAt.EqAt.str_bool a t' b
  | int b=>obtain ⟨t,rfl⟩:=rx;exact SeqAt.EqAt.str_int a t' b t
  | str b=>obtain ⟨t,rfl⟩:=rx;exact SeqAt.EqAt.str_str a t' b t
  | _=>exact absurd (show false=true from fx) Bool.false_ne_true
 | _=>exact absurd (show false=true from fy) Bool.false_ne_true
def eqU (x:V) (u:Value):Bool:=match u with
 | .none=>eqV .non x
 | .bool b=>eqV (.bl b) x
 | .int i _=>eqV (.int i) x
 | .str z _=>eqV (.str z) x
 | _=>false
theorem aR0 {x y:V} {u:Value} (r:A4 y u) (f:Y8 y=true):eqU x u=eqV y x:=by
 cases y with
 | non=>cases r;rfl
 | bl b=>cases r;rfl
 | int i=>obtain ⟨t,rfl⟩:=r;rfl
 | str z=>obtain ⟨t,rfl⟩:=r;rfl
 | _=>exact absurd (show false=true from f) Bool.false_ne_true
theorem av2 {A:Around} {s:Shared} {x:V} {v:Value} (rx:A4 x v) (fx:Y8 x=true):∀ {xs:List V} {us:List Value},o0 xs us→xs.all Y8=true→∀ u∈us,SeqAt.EqAt A s u v (eqU x u)
 | _,_,.nil,_=>fun u hu=>by cases hu
 | y :: xs,u :: us,.cons r t,f=>fun u' hu=>by
  rw [List.all_cons,Bool.and_eq_true] at f
  rcases List.mem_cons.mp hu with rfl | hu
  ·rw [aR0 r f.1];exact bg4 r rx f.1 fx
  ·exact av2 rx fx t f.2 u' hu
theorem i3:aa1 X (.builtin "len") (fun xs H Q=>∃ p ys,xs=[.ref p]∧(SqL X.K H p ys∨SqT X.K H p ys)∧Q (.int ys.length) H):=by
 intro pins s σ H xs us Q I r h
 obtain ⟨p,ys,rfl,hq,q⟩:=h
 obtain ⟨u,rfl,rx⟩:=aa5 r
 cases rx
 have hn:=ae3
 rcases hq with hq | hq
 ·obtain ⟨its,r',pl,hz⟩:=I.list hq
  have hlen:=r'.length
  exact Calls.call_len_list pl.isList (by simp only [List.size_toArray] <;> lia) ⟨.int ys.length,H,I.tok _,⟨s.toks+1,by rw [List.size_toArray,hlen]⟩,q⟩
 ·obtain ⟨its,r',pl,hz⟩:=I.tuple hq
  have hlen:=r'.length
  exact len_tuple pl (by simp only [List.size_toArray] <;> omega) ⟨.int ys.length,H,I.tok _,⟨s.toks+1,by rw [List.size_toArray,hlen]⟩,q⟩
theorem E8:aa1 X (.type "list") (fun xs H Q=>∃ p ys,xs=[.ref p]∧(SqL X.K H p ys∨SqT X.K H p ys)∧∀ l,H l=none→Q (.ref l) (upd H l (.lst ys))):=by
 intro pins s σ H xs us Q I r h
 obtain ⟨p,ys,rfl,hq,q⟩:=h
 obtain ⟨u,rfl,rx⟩:=aa5 r
 cases rx
 have fin:∀ (its:List Value),o0 ys its→ys.length≤sizeLine→∀ (h':Heap) (c':Nat),(∀ b o',s.heap.get? b=some o'→h'.get? b=some o') →
   h'.get? s.heap.objs.size=some { cls:=.type "list",dict:=none,data:=.seq its.toArray c',slots:=#[] }→EP X pins σ Q (.ref s.heap.objs.size) { s with heap:=h' }:=fun its r' hz h' c' kp e=>
  ⟨.ref s.heap.objs.size,_,I.laid (t':=s.toks) kp (Nat.le_refl _) (show G7 X.prog X.w _ h' _ (.lst ys) from ⟨hz,its,c',r',e⟩),rfl,q _ (I.hok.fresh (Nat.le_refl _))⟩
 rcases hq with hq | hq
 ·obtain ⟨its,r',pl,hz⟩:=I.list hq
  have hlen:=r'.length
  obtain ⟨o,ho,hc,n,hd⟩:=pl.isList
  exact call_list_seq p (.inl rfl) ho hc hd (fun h' c' kp e=>fin its r' hz h' c' kp e) (by simp only [List.size_toArray] <;> omega)
 ·obtain ⟨its,r',pl,hz⟩:=I.tuple hq
  have hlen:=r'.length
  obtain ⟨o,ho,hc,n,hd⟩:=pl
  exact call_list_seq p (.inr rfl) ho hc hd (fun h' c' kp e=>fin its r' hz h' c' kp e) (by simp only [List.size_toArray] <;> omega)
theorem az2:aa1 X (.type "tuple") (fun xs H Q=>∃ p ys,xs=[.ref p]∧((SqL X.K H p ys∧∀ l,H l=none→Q (.ref l) (upd H l (.tup ys)))∨(SqT X.K H p ys∧Q (.ref p) H))):=by
 intro pins s σ H xs us Q I r h
 obtain ⟨p,ys,rfl,h⟩:=h
 obtain ⟨u,rfl,rx⟩:=aa5 r
 cases rx
 rcases h with ⟨hq,q⟩ | ⟨hq,q⟩
 ·obtain ⟨its,r',pl,hz⟩:=I.list hq
  have hlen:=r'.length
  refine call_tuple_list pl.isList (fun h' kp=>?_) (by simp only [List.size_toArray] <;> omega)
  have I1:Inv X pins σ H { s with heap:=h' }:=I.kept (t':=s.toks) kp
  have I2:Inv X pins σ (upd H h'.objs.size (.tup ys)) { s with heap:=h'.push { cls:=.type "tuple",data:=.seq its.toArray } }:=
   I1.laid (t':=s.toks) (fun b o e=>Heap.get?_push_of_some _ e) (Nat.le_refl _) (show G7 X.prog X.w _ _ _ (.tup ys) from ⟨hz,its,r',IsTup.new _ _⟩)
  exact ⟨.ref h'.objs.size,_,I2,rfl,q _ (I1.hok.fresh (Nat.le_refl _))⟩
 ·obtain ⟨its,r',pl,hz⟩:=I.tuple hq
  exact call_tuple_same pl ⟨.ref p,H,I,rfl,q⟩
def tyV (K:PySem.W.Frag) (T:String) (x:V) (H:Hp):Prop:=match x with
 | .str _=>T = "str"
 | .int _=>T = "int"
 | .ref p=>(T = "list" ∧ ∃ xs,SqL K H p xs)∨(T = "tuple" ∧ ∃ o,K.lookup p=some o∧o.cls = .type "tuple" ∧ o.dict=none) ∨
   (T = "dict" ∧ ((∃ kvs,H p=some (.dK kvs))∨∃ kvs,H p=some (.dT kvs)))∨(T = "set" ∧ ∃ S n,H p=some (.set S n))
 | _=>False
theorem aZ1 {pins:List (Addr × Obj)} {σ:St} {H:Hp} {s:Shared} {T:String} {x:V} {v:Value} (I:Inv X pins σ H s) (r:A4 x v) (ty:tyV X.K T x H) :
  s.TypeIs v T∧∀ a,v = .ref a→∃ ob,s.heap.get? a=some ob∧ob.dict=none:=by
 cases x with
 | str z=>
  obtain ⟨t,rfl⟩:=r
  cases (show T = "str" from ty)
  exact ⟨typeIs_str s z t,fun _ e=>nomatch e⟩
 | int i=>
  obtain ⟨t,rfl⟩:=r
  cases (show T = "int" from ty)
  exact ⟨typeIs_int s i t,fun _ e=>nomatch e⟩
 | ref p=>
  cases r
  rcases ty with ⟨rfl,xs,hq⟩ | ⟨rfl,o,hk,hc,hd⟩ | ⟨rfl,hk⟩ | ⟨rfl,S,n,hk⟩
  ·obtain ⟨its,_,pl,_⟩:=I.list hq
   refine ⟨pl.isList.typeIs,fun a e=>?_⟩
   cases e
   obtain ⟨o,n,e,c,hd,_⟩:=pl
   exact ⟨o,e,hd⟩
  ·refine ⟨⟨o,I.kIn p o hk,hc⟩,fun a e=>?_⟩
   cases e
   exact ⟨o,I.kIn _ o hk,hd⟩
  ·have z:∃ o,s.heap.get? p=some o∧o.ExactDict:=by
    rcases hk with ⟨kvs,hk⟩ | ⟨kvs,hk⟩
    ·obtain ⟨_,_,_,_,o,_,_,e,ex,_⟩:=I.hok p _ hk
     exact ⟨o,e,ex⟩
    ·obtain ⟨_,_,_,_,o,_,_,e,ex,_⟩:=I.hok p _ hk
     exact ⟨o,e,ex⟩
   obtain ⟨o,e,ex⟩:=z
   refine ⟨⟨o,e,ex.1⟩,fun a e2=>?_⟩
   cases e2
   exact ⟨o,e,ex.2.1⟩
  ·obtain ⟨o,_,_,_,e,ex,_⟩:=I.hok p _ hk
   refine ⟨⟨o,e,ex.1⟩,fun a e2=>?_⟩
   cases e2
   exact ⟨o,e,ex.2.1⟩
 | _=>exact False.elim ty
def bi5 (K:PySem.W.Frag) (T:String) (r:V→List V→Hp→VK→Prop) (to:TE):TE:=fun σ H Q=>to σ H fun x H1=>tyV K T x H1∧r x [] H1 Q
def tBM (K:PySem.W.Frag) (T:String) (r:V→List V→Hp→VK→Prop) (to:TE) (t:TA):TE:=fun σ H Q=>to σ H fun x H1=>tyV K T x H1∧t σ H1 fun xs H2=>r x xs H2 Q
variable {o e:Expr} {es:List Expr} {to:TE} {t:TA} {name:Str} {apos cpos:Pos} {T id:String} {r:V→List V→Hp→VK→Prop}
theorem ao0 (pa:PlainAttrs T) (slot:Slot T name id) (hty:typeOf (.builtin id)=pure (.type "method_descriptor")) (hm:MtR X id r) (ho:PE X o to)
  (hbase:attributeBase o name X.env (eval o X.env)=eval o X.env:=by rfl) (hline:(apos.endLine == cpos.line)=true:=by rfl):PE X (.Call (.Attribute o name apos) [] [] cpos) (bi5 X.K T r to):=by
 intro pins s σ H Q I h
 refine wpAny_Call_method0_late hbase hline (thn (ho pins s σ H _ I h) fun v s1 ⟨x,H1,I1,r1,ty,q1⟩=>?_)
 obtain ⟨h1,h2⟩:=aZ1 I1 r1 ty
 exact ⟨T,id,pa,slot,hty,h1,h2,Calls.callWith_builtin rfl (PySem.evalArgs_none (hm pins s1 σ H1 x [] v [] Q I1 r1 .nil q1))⟩
theorem ap7 (pa:PlainAttrs T) (slot:Slot T name id) (hty:typeOf (.builtin id)=pure (.type "method_descriptor")) (hm:MtR X id r) (ho:PE X o to) (ha:PA X (e :: es) t)
  (hbase:attributeBase o name X.env (eval o X.env)=eval o X.env:=by rfl)
  (hfew:((backTo cpos (starEach (e :: es) X.env)).all (fun x=>!x.1) && (backToKw cpos (keywordEach [] X.env)).all (fun x=>x.1.isSome)
   && decide ((e :: es).length+([]:List Keyword).length+(if ([]:List Keyword).isEmpty then 0 else 1)<30))=true:=by rfl)
  (hline:(apos.endLine == cpos.line)=true:=by rfl) (hs:starEach (e :: es) X.env=(false,eval e X.env) :: starEach es X.env:=by rfl) (hplain:(backTo cpos (starEach es X.env)).any (·.1)=false:=by rfl) :
  PE X (.Call (.Attribute o name apos) (e :: es) [] cpos) (tBM X.K T r to t):=by
 intro pins s σ H Q I h
 refine wpAny_Call_method_late hbase hfew hline rfl (thn (ho pins s σ H _ I h) fun v s1 ⟨x,H1,I1,r1,ty,q1⟩=>?_)
 obtain ⟨h1,h2⟩:=aZ1 I1 r1 ty
 refine ⟨T,id,pa,slot,hty,h1,h2,?_⟩
 have hA:=ha cpos pins s1 σ H1 _ I1 q1
 rw [hs] at hA ⊢
 refine Calls.callWith_builtin (by show (false || (backTo cpos (starEach es X.env)).any (·.1))=false;rw [hplain] <;> rfl) (Calls.evalArgs_plain ?_)
 exact thn hA fun us s2 ⟨vs,H2,I2,r2,q2⟩=>hm pins s2 σ H2 x vs v us Q I2 r1 r2 q2
/- xs.append(e),list.index on a module's tuple .. are MtR facts of 06m -/
end
def MtM (X:Cx) (id:String) (r:V→List V→Hp→VK→Prop):Prop:=
 ∀ (pins:List (Addr × Obj)) (s:Shared) (σ:St) (H:Hp) (x:V) (xs:List V) (v:Value) (us:List Value) (Q:VK),Inv X pins σ H s→A4 x v→o0 xs us→r x xs H Q →
  wpAny (model X.prog X.w) X.A (call (.builtin id) (v :: us)) (EP X pins σ Q) X.xe s
theorem o0.one:∀ {x:V} {us:List Value},o0 [x] us→∃ u,us=[u]∧A4 x u
 | _,_,.cons r .nil=>⟨_,rfl,r⟩
theorem o0.two:∀ {x y:V} {us:List Value},o0 [x,y] us→∃ u v,us=[u,v]∧A4 x u∧A4 y v
 | _,_,_,.cons r (.cons q .nil)=>⟨_,_,rfl,r,q⟩
theorem o0.zero:∀ {us:List Value},o0 [] us→us=[]
 | _,.nil=>rfl
theorem o0.dropLast {xs:List V} {us:List Value} (h:o0 xs us):o0 xs.dropLast us.dropLast:=by
 induction h with
 | nil=>exact .nil
 | cons r t ih=>
  cases t with
  | nil=>exact .nil
  | cons q t'=>exact .cons r ih
theorem o0.rep {xs:List V} {us:List Value} (h:o0 xs us):∀ k:Nat,o0 (List.replicate k xs).flatten (List.replicate k us).flatten
 | 0=>.nil
 | k+1=>by
  rw [List.replicate_succ,List.replicate_succ,List.flatten_cons,List.flatten_cons]
  exact o0.append h (o0.rep h k)
theorem aQ9 {α:Type} (l:List α):l.eraseIdx (l.length - 1)=l.dropLast:=by
 induction l with
 | nil=>rfl
 | cons a r ih=>
  cases r with
  | nil=>rfl
  | cons b r=>
   have e:(a :: b :: r).length - 1=((b :: r).length - 1)+1:=by
    have h1:(a :: b :: r).length=r.length+2:=rfl
    have h2:(b :: r).length=r.length+1:=rfl
    simp
   rw [e,List.eraseIdx_cons_succ,ih]
   all_goals rfl
theorem aC1 (its:List Value):∀ (k:Nat) (acc:List Value),
  List.foldl (fun x1 x2=>x1++x2) acc.toArray (List.replicate k its.toArray)=(acc++(List.replicate k its).flatten).toArray
 | 0,acc=>by simp
 | k+1,acc=>by
  have e:acc.toArray++its.toArray=(acc++its).toArray:=by simp
  have e2:(acc++its)++(List.replicate k its).flatten=acc++(List.replicate (k+1) its).flatten:=by
   rw [List.replicate_succ,List.flatten_cons,List.append_assoc]
  rw [←e2,←aC1 its k (acc++its),←e,List.replicate_succ,List.foldl_cons]
section
variable {X:Cx} {pins:List (Addr × Obj)} {σ:St} {H:Hp} {s:Shared} {l b:Addr} {xs ys zs:List V}
theorem Inv.lset {its its':List Value} {n:Nat} {f:Array Value→Array Value} {t':Nat} (I:Inv X pins σ H s) (hH:H l=some (.lst xs))
  (e:s.heap.get? l=some { cls:=.type "list",data:=.seq its.toArray n }) (hf:f its.toArray=its'.toArray) (hv:o0 ys its') (hz:ys.length≤sizeLine) :
  Inv X pins σ (upd H l (.lst ys)) { s with heap:=s.heap.update l (Obj.mapSeq f),toks:=t' }:=by
 have q:=PySem.IsL.update e f
 rw [hf] at q
 refine I.write (x:=l) (e:=l) (by rw [hH];exact trivial) (.inl rfl) (fun b' u hb hu=>(Heap.get?_update_other s.heap (Obj.mapSeq f) (Ne.symm hb)).trans hu) ⟨_,q⟩ ?_
 exact ⟨hz,its',_,hv,q⟩
theorem Inv.lnew {its:List Value} {t':Nat} (I:Inv X pins σ H s) (hv:o0 ys its) (hz:ys.length≤sizeLine) :
  Inv X pins σ (upd H s.heap.objs.size (.lst ys)) { s with heap:=s.heap.push { cls:=.type "list",data:=.seq its.toArray },toks:=t' }:=
 I.laid (fun _ _ q=>Heap.get?_push_of_some _ q) (Nat.le_refl _) ⟨hz,its,0,hv,Heap.get?_push_size _ rfl⟩
theorem Inv.fresh (I:Inv X pins σ H s):H s.heap.objs.size=none:=I.hok.fresh (Nat.le_refl _)
theorem Inv.lstM (I:Inv X pins σ H s) (hH:H l=some (.lst xs)):xs.length≤sizeLine∧∃ (its:List Value) (n:Nat),o0 xs its∧xs.length=its.length∧s.heap.get? l=some { cls:=.type "list",data:=.seq its.toArray n }:=by
 obtain ⟨z,its,n,r,e⟩:=I.hok l _ hH
 exact ⟨z,its,n,r,r.length,e⟩
theorem be1 {n:Nat} (h:n≤sizeLine):Builtin.List.listTooLong n=false:=by
 unfold Builtin.List.listTooLong
 exact decide_eq_false (by lia)
end
section
variable {X:Cx}
def aF5:V→List V→Hp→VK→Prop:=fun x vs H Q=>∃ l xs y,x = .ref l∧vs=[y]∧H l=some (.lst xs)∧xs.length<sizeLine∧Q .non (upd H l (.lst (xs++[y])))
theorem U0:MtM X "list.append" aF5:=by
 intro pins s σ H x vs v us Q I rx rv h
 obtain ⟨l,xs,y,rfl,rfl,hH,hz,q⟩:=h
 cases rx
 obtain ⟨u,rfl,ru⟩:=rv.one
 obtain ⟨z,its,n,r,hl,e⟩:=I.lstM hH
 refine call_meets F.slot_list_append ⟨_,e,rfl⟩ F.entry_list_append (F.args_list_append_2 _ _) (PySem.list_append l its.toArray n u (by rw [List.size_toArray];lia)) ⟨e,?_⟩
 refine ⟨.non,_,I.lset (its':=its++[u]) hH e (by simp) (r.append (.cons ru .nil)) ?_,rfl,q⟩
 rw [List.length_append,List.length_singleton]
 lia
def rExtend:V→List V→Hp→VK→Prop:=fun x vs H Q=>∃ l b xs zs,x = .ref l∧vs=[.ref b]∧H l=some (.lst xs)∧H b=some (.lst zs)∧xs.length+zs.length≤sizeLine∧Q .non (upd H l (.lst (xs++zs)))
def bq4:V→List V→Hp→VK→Prop:=fun x vs H Q=>∃ l xs y,x = .ref l∧vs=[]∧H l=some (.lst xs)∧xs[xs.length - 1]? = some y∧Q y (upd H l (.lst xs.dropLast))
theorem bt0:MtM X "list.pop" bq4:=by
 intro pins s σ H x vs v us Q I rx rv h
 obtain ⟨l,xs,y,rfl,rfl,hH,hy,q⟩:=h
 cases rx
 have hus:=rv.zero
 subst hus
 obtain ⟨z,its,n,r,hl,e⟩:=I.lstM hH
 obtain ⟨u,hu,ru⟩:=r.get hy
 have hy':its.toArray[its.toArray.size - 1]? = some u:=by
  show its.toArray[its.length - 1]? = some u
  rw [←Array.getElem?_toList,←hl]
  exact hu
 refine call_meets F.slot_list_pop ⟨_,e,rfl⟩ F.entry_list_pop (F.args_list_pop_1 _) (MeetsSeq.list_pop_last l its.toArray n u hy' (by rw [List.size_toArray];lia)) ⟨e,?_⟩
 refine ⟨y,_,I.lset (its':=its.dropLast) hH e ?_ r.dropLast ?_,ru,q⟩
 ·show its.toArray.eraseIdxIfInBounds (its.toArray.size - 1)=its.dropLast.toArray
  rw [List.size_toArray,List.eraseIdxIfInBounds_toArray,aQ9]
 ·rw [List.length_dropLast]
  lia
def bq7:R2:=fun x y H Q=>∃ l b xs zs,x = .ref l∧y = .ref b∧H l=some (.lst xs)∧H b=some (.lst zs)∧xs.length+zs.length≤sizeLine∧∀ p,H p=none→Q (.ref p) (upd H p (.lst (xs++zs)))
theorem aa3:OpR X (binaryOp .Add) bq7:=by
 intro pins s σ H x y v u Q I rx ry h
 obtain ⟨l,b,xs,zs,rfl,rfl,hH,hB,hz,q⟩:=h
 cases rx
 cases ry
 obtain ⟨z,its,n,r,hl,e⟩:=I.lstM hH
 obtain ⟨z2,its2,n2,r2,hl2,e2⟩:=I.lstM hB
 refine PySem.P.add_list e e2 ?_ (by rw [List.size_toArray,List.size_toArray];lia)
 have ea:its.toArray++its2.toArray=(its++its2).toArray:=by simp
 rw [ea]
 exact ⟨.ref _,_,I.lnew (t':=s.toks) (r.append r2) (by rw [List.length_append];omega),rfl,q _ I.fresh⟩
def bq3:R2:=fun x y H Q=>∃ l k xs,x = .ref l∧y = .int k∧H l=some (.lst xs)∧-(2 ^ 63)≤k∧k<2 ^ 63∧xs.length * k.toNat≤sizeLine ∧
 ∀ p,H p=none→Q (.ref p) (upd H p (.lst (List.replicate k.toNat xs).flatten))
theorem bk7 {α:Type} (xs:List α) (k:Nat):(List.replicate k xs).flatten.length=k * xs.length:=by
 induction k with
 | zero=>simp
 | succ k ih=>rw [List.replicate_succ,List.flatten_cons,List.length_append,ih,Nat.succ_mul,Nat.add_comm]
theorem au5:OpR X (binaryOp .Mult) bq3:=by
 intro pins s σ H x y v u Q I rx ry h
 obtain ⟨l,k,xs,rfl,rfl,hH,h1,h2,hz,q⟩:=h
 cases rx
 obtain ⟨t,rfl⟩:=ry
 obtain ⟨z,its,n,r,hl,e⟩:=I.lstM hH
 have hlen:its.toArray.size * k.toNat≤sizeLine:=by rw [List.size_toArray,←hl];exact hz
 have hcap : ¬ its.toArray.size * k.toNat > (2 ^ 63 - 1) / 8:=by
  have:(sizeLine:Nat)≤(2 ^ 63 - 1) / 8:=by decide
  lia
 have hfit : ¬ (!Builtin.List.listFitsIndex k)=true:=by
  rw [fitsIndex_both h1 h2]
  exact Bool.false_ne_true
 have hlong : ¬ Builtin.List.listTooLong (its.toArray.size * k.toNat)=true:=by
  rw [be1 hlen]
  exact Bool.false_ne_true
 have hnew:List.foldl (fun x1 x2=>x1++x2) #[] (List.replicate (if its.toArray.isEmpty=true then 0 else k.toNat) its.toArray)=(List.replicate k.toNat its).flatten.toArray:=by
  have f0:∀ m:Nat,List.foldl (fun x1 x2=>x1++x2) #[] (List.replicate m its.toArray)=(List.replicate m its).flatten.toArray:=fun m=>by
   have:=aC1 its m []
   rw [List.nil_append] at this
   exact this
  rw [f0]
  cases its with
  | nil=>simp
  | cons a r'=>rw [if_neg (by simp)]
 refine wpAny_binaryOp_repeat_ref (T:="list") (U:="int") (by decide) ⟨_,e,rfl⟩ (fun s'=>typeIs_int s' k t) noFill_list_mul F.fills_int_mul F.slot_int_rmul repeat_list F.slot_int_index.lookup
  (call_meets F.slot_int_rmul (typeIs_int s k t) F.entry_int_rmul (F.args_int_rmul_2 _ _) (int___rmul___int_list k t l its.toArray n)
   ⟨e,rfl,⟨_,e,rfl⟩,call_meets F.slot_list_mul ⟨_,e,rfl⟩ F.entry_list_mul (F.args_list_mul_2 _ _) (AutoListH.list___mul___list_int_3 l its.toArray n k t hfit hcap hlong) ⟨e,?_⟩⟩)
 rw [hnew]
 exact ⟨.ref _,_,I.lnew (t':=s.toks) (r.rep k.toNat) (by rw [bk7,Nat.mul_comm];exact hz),rfl,q _ I.fresh⟩
end
end L2
namespace Att
open PySem PySem.W PySem.Calls PyProof.Rows
theorem ar6 {P:Params} {h:Heap}:∀ (ns:List Int) (vs:List Value),WellAll P h vs (ns.map WData.int)→IntsAre vs ns:=by
 intro ns
 induction ns with
 | nil=>
  intro vs w
  rw [List.map_nil] at w
  cases w
  exact .nil
 | cons n ns ih=>
  intro vs w
  rw [List.map_cons] at w
  cases w with
  | cons a b=>
   cases a
   exact .cons _ _ (ih _ b)
theorem aV2 {l:OpenLaw} {n:Nat} (hn:l.most=some n) {P:Params} {h:Heap} {args:List WData} {vals:List Value}
  (hpre:l.row.toRowW.claim.pre args=true) (hwl:WellAll P h vals args) :
  ∃ a vs ns,vals=[Value.ref a]∧args=[WData.list (ns.map WData.int)]∧h.get? a=some { cls:=.type "list",data:=.seq vs.toArray }∧IntsAre vs ns∧ns.length≤n:=by
 have hsh:WShape.hasAll [] args [.list .int]=true:=(pre_splitW hpre).1
 have hc:l.pre.holds [] { args:=args }=true:=(pre_splitW hpre).2
 obtain ⟨d,r,rfl,h1,h2⟩:=hasAllW_cons hsh
 obtain rfl:=hasAllW_nil h2
 obtain ⟨xs,rfl,h3⟩:=hasW_list h1
 obtain ⟨ns,rfl⟩:=items_int h3
 have hlen:ns.length≤n:=by
  unfold OpenLaw.pre at hc
  have h4:(WTm.not (.lt (.lit (.int (n:Int))) (.len (.arg 0)))).holds [] { args:=[.list (ns.map .int)] }=true:=by
   have h4:=(holds_andW hc).1
   rw [hn] at h4
   exact h4
  have h5:=condW_of h4 (w_not (w_lt w_lit (w_len_list (w_arg rfl))))
  rw [List.length_map] at h5
  refine Nat.le_of_not_lt fun q=>?_
  have q':(n:Int)<((ns.length:Nat):Int):=by omega
  first
   | (rw [decide_eq_true q'] at h5;exact absurd h5 (by decide))
   | (simp at h5;omega)
 cases hwl with
 | cons w1 w2=>
  cases w2
  cases w1 with
  | list ho hall=>exact ⟨_,_,ns,rfl,rfl,ho,ar6 ns _ hall,hlen⟩
theorem aV8 (l:OpenLaw) (args:List WData):l.row.toRowW.claim.post args (.bool true) args=true:=
 postW_of (r:=l.row.toRowW) (X:=(true == true))
  (show WShape.has [] (.bool true) .bool=true by first | rfl | decide | simp [WShape.has,WShape.arms,WShape.armsAll])
  (show (WTm.eq .res (.lit (.bool true))).value [] { args:=args,res:=some (.bool true),after:=args }=some (.bool (true == true)) from w_eq_bool (w_res rfl) w_lit) rfl
theorem attach_call {l:OpenLaw} {n:Nat} {q:Program} {loose:List Str} {XP:(Str→Option Value)→Heap→Prop} {YP:World→Heap→Prop} {d:DefRec}
  (hn:l.most=some n) (hdf:d.params.defaults=[])
  (call:∀ (w:World) (s₀ s₁:Shared) (mg mb:Str→Option Value) (fa:Addr) (o:Obj) (pm cd doc:Value) (a:Addr) (vs:List Value) (ns:List Int),
   Ground q loose [] XP w s₀ mg mb s₁.heap→YP w s₁.heap →
   s₁.heap.get? fa=some o→o.data = .func (docDef d.name d.params d.body d.scope pm cd doc)→s₁.heap.CodeRec cd d.name→mg d.name=some (.ref fa) →
   s₁.heap.get? a=some { cls:=.type "list",data:=.seq vs.toArray }→IntsAre vs ns→ns.length≤n→s₁.gens = #[] →
   codeAny (model l.prog w) callerA (.call (.ref fa) ⟨[.ref a],[]⟩) (fun r s'=>r = .ok (.ret (.bool true))∧OldK s₁.heap s'.heap∧s'.os=s₁.os∧AllBare s'.gens) s₁) :
  WalkO q loose XP YP l.row.toRowW d [] (fun f vs=>PySem.call f vs):=by
 intro w s₀ s₁ mg mb G Y fa o pm cd doc dV kV ho hd hcd hD hmg hg args vals as hpre hlay hrd hwl hlo
 obtain rfl:dV = .none:=Dflts.none hD hdf
 obtain rfl:kV = .none:=Dflts.noKw hD
 obtain ⟨a,vs,ns,rfl,rfl,hobj,hints,hlen⟩:=aV2 hn hpre hwl
 refine enter_call (codeAny_mono (call w s₀ s₁ mg mb fa o pm cd doc a vs ns G Y ho (fd_plain hd) hcd hmg hobj hints hlen hg) fun r s' hq=>?_)
 obtain ⟨rfl,h2,h3,h4⟩:=hq
 exact ⟨.inl ⟨.bool true,.bool true,[],rfl,fun _=>rfl,.bool true,aV8 l _,fun _=>⟨List.Pairwise.nil,fun _ hm=>(nomatch hm)⟩⟩,h2,h3,h4⟩
end Att
namespace L2
open PySem PySem.Spec PyProof.Rows
theorem az7:∀ {vs:List Value} {ns:List Int},IntsAre vs ns→o0 (ns.map V.int) vs
 | _,_,.nil=>.nil
 | _,_,.cons n t h=>.cons ⟨t,rfl⟩ (az7 h)
def bv6 (H:Hp):Prop:=∀ b,H b=none∨∃ o xs,H b=some (.frz o (.lst xs))
theorem be9 {P:Program} {w:World} {K:PySem.W.Frag} {mg mb:Str→Option Value} {CX:CXT} {k:Nat} {fa a:Addr} {fd:FuncData} {x:Str} {sp:Sp} {s₁:Shared} {vs:List Value} {ns:List Int}
  (KX:K.In s₁.heap) (hns:s₁.heap.Ns mainGlobals mg) (hb:s₁.heap.Ns builtinsNs mb) (hbb:∀ x:Str,x≠"__name__" → mb x=bootBuiltins x) (hlim:s₁.heap.NoLimit) (hg:s₁.gens = #[])
  (ha:s₁.heap.get? a=some { cls:=.type "list",data:=.seq vs.toArray }) (hi:IntsAre vs ns) (hl:ns.length≤sizeLine) (hr:Z2 k callerA)
  (F:∀ base:Heap,K.In base→base.Ns mainGlobals mg→ae9 P w K mg base CX k fa fd [x] sp) (hbind:∀ (s:Shared) (u:Value),BindsTo s fd ⟨[u],[]⟩ [(x,u)])
  (hsp:∀ H:Hp,bv6 H→SqL K H a (ns.map V.int)→sp [.ref a] H (fun v _=>v = .bl true) fun _ _ _=>False)
  (hCX:∀ H e s',CX [] H s₁ (fun _ _ _=>False) e s'→False) :
  codeAny (model P w) callerA (.call (.ref fa) ⟨[.ref a],[]⟩) (fun r s'=>r = .ok (.ret (.bool true))∧OldK s₁.heap s'.heap∧s'.os=s₁.os∧AllBare s'.gens) s₁:=by
 have rv:=az7 hi
 have lenV:=hi.length
 -- from an abstract heap in which nothing but the script may be tracked
 have core:∀ H:Hp,bv6 H→SqL K H a (ns.map V.int)→HOk P w H s₁.heap→(∀ b,H b≠none→b=a)→(H a≠none→K.lookup a=none) →
   codeAny (model P w) callerA (.call (.ref fa) ⟨[.ref a],[]⟩) (fun r s'=>r = .ok (.ret (.bool true))∧OldK s₁.heap s'.heap∧s'.os=s₁.os∧AllBare s'.gens) s₁:=by
  intro H hO hS hok hA hK
  have base_of:∀ {b:Addr} {o:Obj},s₁.heap.get? b=some o→H b=none→(aH6 s₁.heap H).get? b=some o:=fun e n=>bf6 e n
  have noA:∀ {b:Addr} {o:Obj} {es:Array DictEntry} {ep:Nat},s₁.heap.get? b=some o→o.data = .dict es ep→H b=none:=fun {b o es ep} e d=>by
   cases q:H b with
   | none=>rfl
   | some u=>
    have e':b=a:=hA b (by rw [q];simp)
    subst e'
    rw [ha] at e;cases e
    have d':Data.seq vs.toArray _=Data.dict es ep:=d
    cases d'
  have nsK:∀ {b:Addr} {m:Str→Option Value},s₁.heap.Ns b m→(aH6 s₁.heap H).Ns b m:=fun {b m} ⟨o,es,ep,e,d,r⟩=>⟨o,es,ep,base_of e (noA e d),d,r⟩
  have hKb:K.In (aH6 s₁.heap H):=fun b o e=>base_of (KX b o e) (by
   cases q:H b with
   | none=>rfl
   | some u=>
    have e':b=a:=hA b (by rw [q];simp)
    subst e'
    rw [hK (by rw [q];simp)] at e;cases e)
  have hM:Mod K mg (aH6 s₁.heap H):=⟨hKb,nsK hns,⟨mb,nsK hb,hbb⟩,let ⟨mc,h1,h2⟩:=hlim;⟨mc,nsK h1,h2⟩⟩
  have e0:aY8 P w K mg (aH6 s₁.heap H) callerA [] s₁ H:=⟨rfl,hM,fun b o e=>bk2 e,Nat.le_of_eq (aX1 _ _),trivial,fun b hb=>absurd (show b∈([]:List Addr) from hb) (by simp),hok,.of_eq hg⟩
  refine codeAny_mono ((F _ hKb (nsK hns)).run callerA [] s₁ H ⟨[.ref a],[]⟩ [.ref a] [.ref a] _ _ hr e0 (hbind s₁ (.ref a)) (.cons rfl .nil) (hsp H hO hS)) fun r s' h=>?_
  cases r with
  | error e=>exact (hCX H e s' h).elim
  | ok fl=>
   cases fl with
   | next=>exact False.elim h
   | brk=>exact False.elim h
   | cont=>exact False.elim h
   | ret u=>
    obtain ⟨v,H',os,bare,un,hok',r',q⟩:=h
    have q':v = .bl true:=q
    subst q'
    obtain rfl:u=Value.bool true:=r'
    refine ⟨rfl,OldK.of_keep fun b o e=>?_,os,bare⟩
    cases q:H b with
    | none=>exact un.keep b o e q (by intro z;exact absurd (show b∈([]:List Addr) from z) (by simp)) (by simp)
    | some u=>
     rcases hO b with z | ⟨ob,xs,z⟩
     ·rw [q] at z;cases z
     ·have z2:=un.frzs b ob _ z
      obtain ⟨e1,_⟩:=hok b _ z
      obtain ⟨e2,_⟩:=hok' b _ z2
      rw [e] at e1;cases e1
      exact e2
 cases hk:K.lookup a with
 | some o=>
  -- the script is one of the module's own objects
  have e:=KX a o hk
  rw [ha] at e
  cases e
  refine core (fun _=>none) (fun _=>.inl rfl) (.inr ⟨_,vs.toArray,_,hk,rfl,rfl,rfl,by rw [List.size_toArray,lenV];exact hl,by simpa using rv⟩) (fun b u z=>by have z':(none:Option HO)=some u:=z;cases z') (fun b z=>absurd rfl z) fun z=>absurd rfl z
 | none=>
  refine core (fun b=>if b=a then some (.frz { cls:=.type "list",data:=.seq vs.toArray } (.lst (ns.map V.int))) else none) (fun b=>?_) (.inl (.inr ⟨{ cls:=.type "list",data:=.seq vs.toArray },if_pos rfl⟩)) (fun b u z=>?_) (fun b z=>?_) fun _=>hk
  ·by_cases hb:b=a
   ·exact .inr ⟨_,_,if_pos hb⟩
   ·exact .inl (if_neg hb)
  ·by_cases hb:b=a
   ·have z':=(if_pos hb).symm.trans z
    cases z'
    subst hb
    exact ⟨ha,by rw [List.length_map];exact hl,vs,_,rv,ha⟩
   ·have z':=(if_neg hb).symm.trans z
    cases z'
  ·by_cases hb:b=a
   ·exact hb
   ·exact absurd (if_neg hb) z
abbrev KOf {K:PySem.W.Frag} {h:Heap} (_:K.In h):PySem.W.Frag:=K
theorem aS0 {l:PySem.W.OpenLaw} {n k:Nat} {q:Program} {loose:List Str} {XP:(Str→Option Value)→Heap→Prop} {YP:World→Heap→Prop} {d:DefRec} {K:Params→PySem.W.Frag} {CX:World→CXT} {sp:World→Sp} {x:Str}
  (hn:l.most=some n) (hn2:n≤sizeLine) (hdf:d.params.defaults=[]) (hr:Z2 k callerA)
  (hY:∀ (w:World) (h:Heap),YP w h→(K w.params).In h)
  (F:∀ (w:World) (mg:Str→Option Value) (fa:Addr) (h:Heap),(K w.params).In h→h.Ns mainGlobals mg→mg d.name=some (.ref fa) →
   ∃ fd:FuncData,(∀ (s:Shared) (u:Value),BindsTo s fd ⟨[u],[]⟩ [(x,u)]) ∧
    ∀ base:Heap,(K w.params).In base→base.Ns mainGlobals mg→ae9 l.prog w (K w.params) mg base (CX w) k fa fd [x] (sp w))
  (hsp:∀ (w:World) (H:Hp) (a:Addr) (ns:List Int),ns.length≤n→bv6 H→SqL (K w.params) H a (ns.map V.int)→sp w [.ref a] H (fun v _=>v = .bl true) fun _ _ _=>False)
  (hCX:∀ (w:World) (H:Hp) (s:Shared) (e:Value) (s':Shared),CX w [] H s (fun _ _ _=>False) e s'→False) :
  PySem.W.WalkO q loose XP YP l.row.toRowW d [] (fun f vs=>PySem.call f vs):=by
 refine Att.attach_call hn hdf fun w s₀ s₁ mg mb fa o pm cd doc a vs ns G Y ho hd hcd hmg hobj hints hlen hg=>?_
 have KX:=hY w _ Y
 obtain ⟨fd,hb,hF⟩:=F w mg fa _ KX G.T.g hmg
 exact be9 KX G.T.g G.T.b G.T.builtins G.T.nolimit hg hobj hints (Nat.le_trans hlen hn2) hr hF hb (fun H hO hS=>hsp w H a ns hlen hO hS) fun H e s'=>hCX w H s₁ e s'
end L2
/- THE LAST THEOREM (shape;LID,My.* are yours):
   My.Adr: a structure of the addresses that your layer names (classes,functions);My.Txt K t: a structure (Prop) of the equations over K;
   My.txt_mk:{K} {implicit addresses ..} (e1:nsIn K mainGlobals "law" = some (some (.ref f))) (e2:K.lookup f=some ⟨oc,od,.func (fnOf "law" "law" params body scope dV kV doc pm an cdv ct),sl⟩) (e3:codeIn K cdv "law" = true) .. : ∃ t,My.Txt K t
set_option maxRecDepth 100000 in
set_option maxHeartbeats 0 in
theorem PySem.Challenge.cw_LID_holds : PySem.Challenge.rw_LID.Holds := by
 w_on;o_law;k_head;(case hw=>w_witness2)
 k_fill
 refine L2.aS0 (l:=PySem.Challenge.rw_LID) (n:=63) (k:=40) (x:="script") (CX:=fun w=>..) (sp:=fun _=>My.sp_law) rfl (by decide) rfl ⟨rfl,by decide,by decide⟩ (fun w h Y=>PySem.W.kIn_of Y) ?F ?S ?C
 case F=>
  intro w mg fa h KX G hmg
  have T:∃ t,My.Txt (L2.KOf KX) t:=by
   dsimp only [L2.KOf]                          -- K must stand as «<heap const> w.params» for k_is
   refine' My.txt_mk ?e1 ?e2 ?e3 ..
   (case e1=>PySem.W.k_is)                    -- in the order: a name -> its address -> its object -> its parts
   (case e2=>PySem.W.k_is)
   ..
  obtain ⟨t,T⟩:=T
  have e0:=hmg.symm.trans (PySem.W.mg_of KX G T.law)
  cases e0                                       -- fa is the law's own address
  exact ⟨_,fun s u=>.of_eq rfl,fun base kb nb=>My.law_fn T kb nb⟩     -- if «.of_eq rfl» comes too early: refine' ⟨_,?b,fun base kb nb=>My.law_fn T kb nb⟩;exact fun s u=>.of_eq rfl
 case S=>exact fun w H a ns hl hO hS=>..
 case C=>exact ..
(the tactic k_is has no namespace: write k_is) -/
namespace L2
open PySem PySem.Spec PyProof.Rows
def i9 (s:Stmt):Arguments:=match s with
 | .FunctionDef _ a _ _ _ _ _ _ _ _=>a
 | _=>{ posonlyargs:=[],args:=[],vararg:=none,kwonlyargs:=[],kw_defaults:=[],kwarg:=none,defaults:=[] }
def i6 (s:Stmt):List Stmt:=match s with
 | .FunctionDef _ _ b _ _ _ _ _ _ _=>b
 | _=>[]
def d3 (s:Stmt):Scope:=match s with
 | .FunctionDef _ _ _ _ _ _ sc _ _ _=>sc
 | _=>{ kind:=.function,names:=[],isGenerator:=false,isCoroutine:=false }
abbrev CX0:CXT:=fun _ _ _ _ _ _=>False
abbrev E0:XK:=fun _ _ _=>False
theorem i5 {X:Cx}:ax2 CX0 X E0:=fun _ _ _ _ _ _ _ h=>h.elim
structure Fun (K:PySem.W.Frag) (x qual:Str) (st:Stmt) (f:Addr) (fd:FuncData):Prop where
 ex:∃ (oc:Value) (od:Option Addr) (kV doc pm:Value) (an:Option Addr) (cdv ct:Value) (osl:Array (Option Value)),
  fd=PySem.W.fnOf x qual (i9 st) (i6 st) (d3 st) .none kV doc pm an cdv ct∧K.lookup f=some ⟨oc,od,.func fd,osl⟩∧PySem.W.codeIn K cdv qual=true
 kp:PySem.W.keepIn K (.ref f)=true
section
variable {P:Program} {w:World} {K:PySem.W.Frag} {mg:Str→Option Value} {base:Heap}
theorem Fun.ok {x qual:Str} {st:Stmt} {f:Addr} {fd:FuncData} {N ps:List Str} {k:Nat} {sp:Sp} (F:Fun K x qual st f fd) (S:i8 N ps (d3 st)) (len:∀ vs H Q E,sp vs H Q E→vs.length=ps.length)
  (hbody:∀ (cdv:Value) (A:Around) (outer:List Env) (s:Shared) (H:Hp) (vs:List V) (Q:VK) (E:XK),Z2 k (A.deeper (envOfC qual (d3 st) s.heap.objs.size f cdv))→sp vs H Q E →
   ∃ t,PSs (ao9 CX0 P w K mg base N qual (d3 st) f cdv A outer s H E).nox (i6 st) t∧t { nx:=fun _ H'=>Q .non H',rt:=Q } (start N vs) H):ae9 P w K mg base CX0 (k+1) f fd ps sp:=by
 obtain ⟨oc,od,kV,doc,pm,an,cdv,ct,osl,rfl,lk,hcd⟩:=F.ex
 refine bo6 lk hcd S len fun A outer s H vs Q E hr hsp=>?_
 obtain ⟨t,h,q⟩:=hbody cdv A outer s H vs Q E hr hsp
 exact ⟨t,h.nox,q⟩
theorem Fun.binds {x qual:Str} {st:Stmt} {f:Addr} {fd:FuncData} {ps:List Str} (F:Fun K x qual st f fd)
  (h:∀ (kV doc pm:Value) (an:Option Addr) (cdv ct:Value) (us:List Value),us.length=ps.length→bindArgs (PySem.W.fnOf x qual (i9 st) (i6 st) (d3 st) .none kV doc pm an cdv ct) ⟨us,[]⟩=pure (ps.zip us)):af0 K fd ps []:=by
 obtain ⟨oc,od,kV,doc,pm,an,cdv,ct,osl,rfl,lk,hcd⟩:=F.ex
 exact .all (h kV doc pm an cdv ct)
theorem m6 {x qual:Str} {st:Stmt} {f:Addr} {oc:Value} {od an:Option Addr} {osl:Array (Option Value)} {kV doc pm cdv ct:Value} (l:K.lookup f=some ⟨oc,od,.func (PySem.W.fnOf x qual (i9 st) (i6 st) (d3 st) .none kV doc pm an cdv ct),osl⟩)
  (c:PySem.W.codeIn K cdv qual=true) (k:PySem.W.keepIn K (.ref f)=true):Fun K x qual st f (PySem.W.fnOf x qual (i9 st) (i6 st) (d3 st) .none kV doc pm an cdv ct):=⟨⟨oc,od,kV,doc,pm,an,cdv,ct,osl,rfl,l,c⟩,k⟩
end
section
variable {X:Cx}
theorem pv (i:Nat) {x:Str} {pos:Pos} (hN:X.N[i]? = some x:=by rfl) (hv:Vis X.env.scope x:=by first | exact Or.inl rfl | exact Or.inr (Or.inl rfl) | exact Or.inr (Or.inr rfl)) (hd:(x == ("__debug__" : Str))=false:=by decide)
  (hcd:(x == ("__classdict__" : Str))=false:=by decide):PE X (.Name x pos) (aa6 i):=br8 hN hv hd hcd
end
theorem by5 {A B:Prop} (h:A):if true=true then A else B:=by
 rw [if_pos rfl]
 exact h
theorem t9 {c A B:Prop} [Decidable c] (h1:c→A) (h2 : ¬ c→B):if c then A else B:=by
 by_cases h:c
 ·rw [if_pos h]
  exact h1 h
 ·rw [if_neg h]
  exact h2 h
def d5 (H H':Hp):Prop:=∀ b o,H b=some o→H' b=some o
theorem d5.refl (H:Hp):d5 H H:=fun _ _ h=>h
theorem d5.trans {H H1 H2:Hp} (a:d5 H H1) (b:d5 H1 H2):d5 H H2:=fun c o h=>b c o (a c o h)
theorem d5.free {H H':Hp} (e:d5 H H') {l:Addr} (h:H' l=Option.none):H l=Option.none:=by
 cases q:H l with
 | none=>rfl
 | some o=>
  rw [e l o q] at h
  cases h
theorem d5.seq {K:PySem.W.Frag} {H H':Hp} {a:Addr} {xs:List V} (e:d5 H H') (h:SqL K H a xs):SqL K H' a xs:=by
 rcases h with (h | ⟨o,h⟩) | h
 ·exact .inl (.inl (e _ _ h))
 ·exact .inl (.inr ⟨o,e _ _ h⟩)
 ·exact .inr h
section
variable {P:Program} {w:World} {H:Hp} {h:Heap} {a:Addr} {o:HO}
theorem G7.there (x:G7 P w H h a o):∃ ob,h.get? a=some ob:=by
 cases o with
 | lst xs=>obtain ⟨_,_,_,_,e⟩:=x;exact ⟨_,e⟩
 | tup xs=>obtain ⟨_,_,_,ob,e,_⟩:=x;exact ⟨_,e⟩
 | dK kvs=>obtain ⟨_,_,_,_,o,_,_,e,_⟩:=x;exact ⟨_,e⟩
 | dT kvs=>obtain ⟨_,_,_,_,o,_,_,e,_⟩:=x;exact ⟨_,e⟩
 | set S n=>obtain ⟨o,_,_,_,e,_⟩:=x;exact ⟨_,e⟩
 | ins C dx fs=>obtain ⟨_,_,_,e,_⟩:=x;exact ⟨_,e⟩
 | own y=>obtain ⟨_,e⟩:=x;exact ⟨_,e⟩
 | xd fs=>obtain ⟨_,⟨_,_,_,e,_⟩,_⟩:=x;exact ⟨_,e⟩
 | rng lo hi=>obtain ⟨_,_,_,e⟩:=x;exact ⟨_,e⟩
 | frz ob u=>obtain ⟨e,_⟩:=x;exact ⟨_,e⟩
 | tbl ps=>exact ⟨_,(show h.get? a=some _ from x)⟩
 | met f y=>exact ⟨_,(show h.get? a=some _ from x)⟩
 | ext φ=>obtain ⟨_,e,_⟩:=x;exact e
end
def CXR (P:Program) (w:World):CXT:=fun outer H s E e s'=>∃ (a:Addr) (cls a0:Value) (H':Hp) (B:Heap),e = .ref a∧s'.os=s.os∧AllBare s'.gens ∧
 Heap.FlyingW B outer a cls a0 s'.heap∧(∀ b o,s.heap.get? b=some o→H b=none→b ∉ frs outer→B.get? b=some o)∧(∀ b o,s.heap.get? b=some o→b ∉ frs outer→∃ o',B.get? b=some o') ∧
 HOk P w H' B∧Un (frs outer) [] H H' s.heap s'.heap∧H' a=none∧E cls none H'
def bh6 (X:Cx) (R:Value→Hp→Prop):Prop:=∀ (pins:List (Addr × Obj)) (σ:St) (H:Hp) (s:Shared) (h':Heap) (e:Addr) (cls:Value) (vs:List Value),Inv X pins σ H s→Heap.MadeExcOf s.heap h' e cls vs→R cls H →
 X.xe (.ref e) { s with heap:=h' }
section
variable {CX:CXT} {P:Program} {w:World} {K:PySem.W.Frag} {mg:Str→Option Value} {base:Heap} {N:List Str} {qual:Str} {scope:Scope} {f:Addr} {cd:Value} {A:Around} {outer:List Env} {s₀:Shared} {H₀:Hp} {E:XK}
abbrev cxR (P:Program) (w:World) (K:PySem.W.Frag) (mg:Str→Option Value) (base:Heap) (N:List Str) (qual:Str) (scope:Scope) (f:Addr) (cd:Value) (A:Around) (outer:List Env) (s₀:Shared) (H₀:Hp) (E:XK):Cx:=ao9 (CXR P w) P w K mg base N qual scope f cd A outer s₀ H₀ E
theorem bu1 {X:Cx} {pins:List (Addr × Obj)} {σ:St} {H:Hp} {s:Shared} (I:Inv X pins σ H s):HOk X.prog X.w H (PySem.W.hideAll s.heap (frs X.stack)):=fun b u e=>by
 refine (I.hok b u e).stay (fun c v hc q=>PySem.W.hideAll_get _ q fun hm=>?_) (fun _ q=>q) fun _ _ q=>q
 have z:=I.stkFree c hm
 rcases hc with rfl | hc
 ·rw [z] at e;cases e
 ·rw [z] at hc;cases hc
theorem aV5:bh6 (cxR P w K mg base N qual scope f cd A outer s₀ H₀ E) (fun cls H'=>E cls none H'):=by
 intro pins σ H s h' e cls vs I hx hE
 have frS:=I.stack
 have hin:∀ env∈(cxR P w K mg base N qual scope f cd A outer s₀ H₀ E).stack,∀ b,env.frame=some b→b∈frs (cxR P w K mg base N qual scope f cd A outer s₀ H₀ E).stack:=fun env he b hb=>List.mem_filterMap.mpr ⟨env,he,hb⟩
 have lo:∀ b o,s₀.heap.get? b=some o→b ∉ frs outer→b ∉ frs (cxR P w K mg base N qual scope f cd A outer s₀ H₀ E).stack:=fun b o q hb hm=>by
  rcases List.mem_cons.mp (I.stkSub b hm) with z | z
  ·exact absurd z (Nat.ne_of_lt (Nat.lt_of_lt_of_le (Heap.lt_size q) I.ok.above))
  ·exact hb z
 refine wpAny_leaves_madeW (base:=PySem.W.hideAll s.heap (frs (cxR P w K mg base N qual scope f cd A outer s₀ H₀ E).stack)) I.ok.frames rfl (fun b o q=>PySem.W.of_hideAll _ q) (PySem.W.funFrames_hide frS hin) hx fun h2 t x1 x2 x3 x4=>?_
 have hk:∀ b o,s.heap.get? b=some o→b ∉ frs (cxR P w K mg base N qual scope f cd A outer s₀ H₀ E).stack→h2.get? b=some o:=fun b o q hb=>x1.1 b o (PySem.W.hideAll_get _ q hb)
 have hfr:∀ b o,s.heap.get? b=some o→b∈frs (cxR P w K mg base N qual scope f cd A outer s₀ H₀ E).stack→∃ sl,h2.get? b=some { o with slots:=sl }:=fun b o q hb=>by
  obtain ⟨_,ob,hob,hnf⟩:=frS.mem hb
  rw [q] at hob;cases hob
  exact x4 b o (hx.keeps b o q) hnf
 have hany:∀ b o,s.heap.get? b=some o→∃ o',h2.get? b=some o':=fun b o q=>by
  by_cases hb:b∈frs (cxR P w K mg base N qual scope f cd A outer s₀ H₀ E).stack
  ·obtain ⟨sl,z⟩:=hfr b o q hb;exact ⟨_,z⟩
  ·exact ⟨_,hk b o q hb⟩
 have nx:∀ b:Addr,b ∉ (cxR P w K mg base N qual scope f cd A outer s₀ H₀ E).ex:=fun b z=>absurd (show b∈([]:List Addr) from z) (by simp)
 refine ⟨e,cls,.ref t,H,_,rfl,I.os,I.bare,x1,fun b o q n hb=>PySem.W.hideAll_get _ (I.base.keep b o q n hb (nx b)) (lo b o q hb),fun b o q hb=>?_,bu1 I,⟨fun b o q n hb _=>?_,fun b o q n hb _=>?_,fun b o q n _=>I.base.free b o q n (nx b),fun b o q _=>?_,I.base.tups,I.base.frzs,I.base.tbls⟩,?_,hE⟩
 ·obtain ⟨o',z⟩:=I.base.there b o q (nx b)
  exact ⟨o',PySem.W.hideAll_get _ z (lo b o q hb)⟩
 ·exact hk b o (I.base.keep b o q n hb (nx b)) (lo b o q hb)
 ·obtain ⟨sl,z⟩:=I.base.slot b o q n hb (nx b)
  have hm:b∈frs (cxR P w K mg base N qual scope f cd A outer s₀ H₀ E).stack:=by
   show b∈frs (_ :: outer)
   unfold frs at hb ⊢
   rw [List.filterMap_cons]
   exact List.mem_cons_of_mem _ hb
  obtain ⟨sl',z'⟩:=hfr b _ z hm
  exact ⟨sl',z'⟩
 ·obtain ⟨o',z⟩:=I.base.there b o q (nx b)
  exact hany b o' z
 ·cases q:H e with
  | none=>rfl
  | some u=>
   obtain ⟨ob,z⟩:=(I.hok e u q).there
   rw [hx.new] at z;cases z
end
structure bm5 (K:PySem.W.Frag) (C:Addr) (bm:List Value) (newId:String):Prop where
 ok:PySem.W.excIn K C bm newId=true
theorem bm5.obj {K:PySem.W.Frag} {C:Addr} {bm:List Value} {newId:String} (O:bm5 K C bm newId) {h:Heap} (X:K.In h) :
  ∃ tl N nm q bs hdct sn sub ab col dd k0 k1 k2 k3 k5 mN,h.get? C=some (excClassObj nm q C N bs tl hdct sn sub ab col dd k0 k1 k2 k3 k5 newId)∧h.Ns N mN∧mN "__init__" = none∧OwnTail h bm tl:=by
 have q:=O.ok
 unfold PySem.W.excIn at q
 split at q
 ·rename_i dd cd sl ho
  split at q
  ·rename_i C' bm' k0 k1 k2 k3 n k5 hm hs
   simp only [Bool.and_eq_true,beq_iff_eq,Bool.not_eq_true'] at q
   obtain ⟨⟨⟨⟨⟨rfl,rfl⟩,hdel⟩,ht⟩,hok⟩,hni⟩:=q
   obtain ⟨nm,bs,mro,ns,qn,hd,sn,sub,ab,col,del⟩:=cd
   dsimp only at hm hdel hok hni
   subst hm hdel
   have hsl:sl = #[k0,k1,k2,k3,some (.builtin n),k5]:=by
    obtain ⟨l⟩:=sl
    simp only at hs
    rw [hs]
   subst hsl
   exact ⟨bm',ns,nm,qn,bs,hd,sn,sub,ab,col,dd,k0,k1,k2,k3,k5,_,X _ _ ho,.of_isNs (PySem.W.isNs_of_in X hok),PySem.W.nsMap_none_of_in X hok hni,PySem.W.tail_of_in X ht⟩
  ·cases q
 ·cases q
section
variable {X:Cx} {x:Str} {C:Addr} {bm:List Value} {newId B initId:String} {e:Expr} {es:List Expr} {te:TA} {np cpos pos:Pos} {R:Value→Hp→Prop}
def aN7 (C:Addr) (te:TA) (R:Value→Hp→Prop):TS:=fun _ σ H=>te σ H fun vs H1=>vs.length≤sizeLine∧R (.ref C) H1
theorem bc6 (O:bm5 X.K C bm newId) (FB:ExcBaseFacts B newId initId bm) (hc:X.calm=true) (hg:Gl X x) (hm:X.mg x=some (.ref C)) (hr:bh6 X R) (he:PA X (e :: es) te)
  (hst:starEach (e :: es) X.env=(false,eval e X.env) :: starEach es X.env:=by rfl) (hplain:(backTo cpos (starEach es X.env)).any (·.1)=false:=by rfl) (hd:(x == ("__debug__" : Str))=false:=by decide) :
  PS X (.Raise (some (.Call (.Name x np) (e :: es) [] cpos)) none pos) (aN7 C te R):=by
 intro pins s σ H D I h
 obtain ⟨tl,N,nm,q,bs,hdct,sn,sub,ab,col,dd,k0,k1,k2,k3,k5,mN,hC,hN,hni,T⟩:=O.obj I.ok.mod.kin
 refine wpAny_Raise_call_subT (C:=C) (nm:=nm) (q:=q) (N:=N) (bs:=bs) (bm:=tl) (hdct:=hdct) (sn:=sn) (sub:=sub) (ab:=ab) (col:=col) (dd:=dd) (k0:=k0) (k1:=k1) (k2:=k2) (k3:=k3) (k5:=k5)
  FB (mN:=mN) (T.hasType FB.hasBase) (I.ok.hd hc) (by rw [hst];show (false || (backTo cpos (starEach es X.env)).any (·.1))=false;rw [hplain];rfl) hni (ak7 I hg hm ⟨rfl,?_⟩ hd)
 have hA:=he cpos pins s σ H _ I h
 rw [hst] at hA ⊢
 refine Calls.evalArgs_plain (thn hA fun us s2 ⟨vs,H1,I1,r1,hl,q1⟩=>⟨rfl,?_,I1.bk _ _ hC,hN.keeps I1.bk,T.keeps I1.bk,fun h' a hx=>hr pins σ H1 s2 h' a _ us I1 hx q1⟩)
 show us.length≤sizeLine
 rw [←r1.length];exact hl
end
section
variable {X:Cx} {pins:List (Addr × Obj)} {σ:St} {H H':Hp} {s s':Shared}
theorem Inv.reA {A2:Around} {c2:Bool} {E2:Value→Shared→Prop} (I:Inv X pins σ H s) (hf:A2.frames=X.A.frames) (hc:c2=true→A2.handled=none):Inv { X with A:=A2,calm:=c2,xe:=E2 } pins σ H s:=
 ⟨⟨I.ok.mod,I.ok.kind,I.ok.glob,I.ok.blt,I.ok.above,I.ok.inj,I.ok.has,I.ok.cab,hc,hf.trans I.ok.frames,I.ok.stk,I.ok.exf,I.ok.bs,I.ok.bsz,I.ok.noex,I.ok.exfs,I.ok.funs,I.ok.frf⟩,
  I.os,I.bare,I.base,I.loc,I.cell,I.free,I.freeC,I.pin,I.hok,I.len⟩
theorem Inv.unA {A2:Around} {c2:Bool} {E2:Value→Shared→Prop} (I:Inv { X with A:=A2,calm:=c2,xe:=E2 } pins σ H s) (ok:X.Ok):Inv X pins σ H s:=
 ⟨ok,I.os,I.bare,I.base,I.loc,I.cell,I.free,I.freeC,I.pin,I.hok,I.len⟩
theorem Inv.bear {E2:Value→Shared→Prop} (I:Inv X pins σ H s):Inv { X with xe:=E2,pn:=X.pn++pins } [] σ H s:=
 ⟨⟨I.ok.mod,I.ok.kind,I.ok.glob,I.ok.blt,I.ok.above,I.ok.inj,I.ok.has,I.ok.cab,I.ok.hd,I.ok.frames,I.ok.stk,I.ok.exf,I.ok.bs,I.ok.bsz,I.ok.noex,I.ok.exfs,I.ok.funs,I.ok.frf⟩,
  I.os,I.bare,I.base,I.loc,I.cell,I.free,I.freeC,fun p hp=>I.pin p (by simpa using hp),I.hok,I.len⟩
theorem Inv.unbear {E2:Value→Shared→Prop} {pins':List (Addr × Obj)} (I:Inv { X with xe:=E2,pn:=X.pn++pins } pins' σ H s):Inv X pins σ H s:=
 ⟨⟨I.ok.mod,I.ok.kind,I.ok.glob,I.ok.blt,I.ok.above,I.ok.inj,I.ok.has,I.ok.cab,I.ok.hd,I.ok.frames,I.ok.stk,I.ok.exf,I.ok.bs,I.ok.bsz,I.ok.noex,I.ok.exfs,I.ok.funs,I.ok.frf⟩,
  I.os,I.bare,I.base,I.loc,I.cell,I.free,I.freeC,fun p hp=>I.pin p (List.mem_append_left _ hp),I.hok,I.len⟩
def aq0 (X:Cx):St:=List.replicate X.N.length none
theorem Inv.forget (I:Inv X pins σ H s):Inv X pins (aq0 X) H s:=
 I.weak (by unfold aq0;rw [List.length_replicate];exact I.len.symm) fun i v e=>by
  unfold aq0 at e
  rw [List.getElem?_replicate] at e
  split at e <;> cases e
theorem Inv.relocal {h':Heap} {m':Str→Option Value} {t':Nat} (I:Inv X pins σ H s) (hn':h'.Ns X.env.locals m') (hs:Heap.SameBut X.env.locals s.heap h'):Inv X pins (aq0 X) H { s with heap:=h',toks:=t' }:=by
 have cne:=I.cne
 refine ⟨I.ok,I.os,I.bare,⟨fun b o e n hb hx=>?_,fun b o e n hb hx=>?_,I.base.free,fun b o e hx=>?_,I.base.tups,I.base.frzs,I.base.tbls⟩,⟨_,hn',fun j y v' e1 e2 e3=>?_⟩,fun y c e=>?_,I.free,I.freeC,fun p hp=>?_,fun b ob e=>?_,?_⟩
 ·exact (hs.2 b (Nat.ne_of_lt (Nat.lt_of_lt_of_le (Heap.lt_size e) I.ok.above))).trans (I.base.keep b o e n hb hx)
 ·obtain ⟨sl,e1⟩:=I.base.slot b o e n hb hx
  exact ⟨sl,(hs.2 b (Nat.ne_of_lt (Nat.lt_of_lt_of_le (Heap.lt_size e) I.ok.above))).trans e1⟩
 ·obtain ⟨o',e1⟩:=I.base.there b o e hx
  exact ⟨o',(hs.2 b (Nat.ne_of_lt (Nat.lt_of_lt_of_le (Heap.lt_size e) I.ok.above))).trans e1⟩
 ·unfold aq0 at e2
  rw [List.getElem?_replicate] at e2
  split at e2 <;> cases e2
 ·obtain ⟨w',z⟩:=I.cell y c e
  exact ⟨w',z.sameBut hs (cne y c e)⟩
 ·obtain ⟨e,n,ne,nf,d⟩:=I.pin p hp
  exact ⟨(hs.2 p.1 ne).trans e,n,ne,nf,d⟩
 ·refine (I.hok b ob e).stay (fun c w' hc q=>(hs.2 c ?_).trans q) (fun _ q=>q) fun _ _ q=>q
  rintro rfl
  rcases hc with rfl | hc
  ·rw [I.free] at e;cases e
  ·rw [I.free] at hc;cases hc
 ·show (List.replicate X.N.length none).length=_
  exact List.length_replicate
def Exc (cls:Value) (a:Addr):HO:=.ext fun h=>∃ o vs,h.get? a=some o∧o.cls=cls∧o.data = .fields vs
end
theorem Exc.ok {P:Program} {w:World} {H:Hp} {h:Heap} {cls:Value} {a:Addr} {o:Obj} {vs:Array Value} (h1:h.get? a=some o) (h2:o.cls=cls) (h3:o.data = .fields vs):G7 P w H h a (Exc cls a):=
 ⟨⟨o,vs,h1,h2,h3⟩,⟨o,h1⟩,fun _ _ ⟨o,vs,q1,q2,q3⟩ k=>⟨o,vs,k o q1,q2,q3⟩⟩
theorem Inv.track {X:Cx} {pins:List (Addr × Obj)} {σ:St} {H:Hp} {s:Shared} {o:HO} {a:Addr} (I:Inv X pins σ H s) (hn:H a=none) (new:G7 X.prog X.w (upd H a o) s.heap a o)
  (h1:∀ b ob,X.s₀.heap.get? b=some ob→X.H₀ b=none→b ∉ X.ex→b≠a) (h2:X.env.locals≠a) (h3:∀ x c,X.env.cells.lookup x=some c→c≠a) (h4:∀ p∈X.pn++pins,p.1≠a):Inv X pins σ (upd H a o) s:=
 ⟨I.ok,I.os,I.bare,⟨I.base.keep,I.base.slot,fun b ob q n hx=>by rw [j0 (h1 b ob q n hx)];exact I.base.free b ob q n hx,I.base.there,fun b xs q=>by rw [j0 (g9 (I.base.tups b xs q) hn)];exact I.base.tups b xs q,
   fun b ob u q=>by rw [j0 (g9 (I.base.frzs b ob u q) hn)];exact I.base.frzs b ob u q,fun b ps q=>by obtain ⟨m,z⟩:=I.base.tbls b ps q;exact ⟨m,by rw [j0 (g9 z hn)];exact z⟩⟩,
  I.loc,I.cell,by rw [j0 h2];exact I.free,fun x c q=>by rw [j0 (h3 x c q)];exact I.freeC x c q,fun p hp=>let ⟨e1,e2,e3⟩:=I.pin p hp;⟨e1,by rw [j0 (h4 p hp)];exact e2,e3⟩,
  fun b u e=>by
   by_cases hb:b=a
   ·subst hb;rw [b8] at e;cases e;exact new
   ·rw [j0 hb] at e
    exact (I.hok b u e).stay (fun _ _ _ q=>q) (fun c q=>by rw [j0 (g9 q hn)];exact q) fun c xs q=>by rw [j0 (g9 q hn)];exact q,
  I.len⟩
theorem Inv.caught {X:Cx} {pins:List (Addr × Obj)} {σ:St} {H:Hp} {s s':Shared} {a:Addr} {cls a0:Value} {H':Hp} {B h6:Heap} (I:Inv X pins σ H s) (os:s'.os=s.os) (bare:AllBare s'.gens) (fl:Heap.FlyingW B X.stack a cls a0 s'.heap)
  (hB:∀ b o,s.heap.get? b=some o→H b=none→b ∉ frs X.stack→B.get? b=some o) (hth:∀ b o,s.heap.get? b=some o→b ∉ frs X.stack→∃ o',B.get? b=some o') (hok:HOk X.prog X.w H' B)
  (un:Un (frs X.stack) [] H H' s.heap s'.heap) (st:B.StaysIn h6) (up:s'.heap.UpToSlots h6):Inv X pins σ H' { s' with heap:=h6 }:=by
 have hfr:∀ b o,s'.heap.get? b=some o→b∈frs X.stack→∃ sl,h6.get? b=some { o with slots:=sl }:=fun b o q hb=>by
  obtain ⟨_,ob,hob,hnf⟩:=fl.2.2.1.mem hb
  rw [q] at hob;cases hob
  exact up b o q hnf
 refine I.call' (s':={ s' with heap:=h6 }) (ch:=[]) os ⟨fun b o q n hb _=>st b o (hB b o q n hb),fun b o q n hb _=>?_,un.free,fun b o q _=>?_,un.tups,un.frzs,un.tbls⟩ (hok.kept fun b u q=>st b u q) bare (fun b z=>absurd z (by simp))
 ·obtain ⟨sl,z⟩:=un.slot b o q n hb (by simp)
  obtain ⟨sl2,z2⟩:=hfr b _ z hb
  exact ⟨sl2,z2⟩
 ·by_cases hb:b∈frs X.stack
  ·obtain ⟨o2,z2⟩:=un.there b o q (by simp)
   obtain ⟨sl,z3⟩:=hfr b o2 z2 hb
   exact ⟨_,z3⟩
  ·obtain ⟨o2,z2⟩:=hth b o q hb
   exact ⟨o2,st b o2 z2⟩
abbrev Cx.body (X:Cx) (xe:Value→Shared→Prop) (pn:List (Addr × Obj)):Cx:={ X with xe:=xe,pn:=pn }
abbrev Cx.suite (X:Cx) (a:Addr):Cx:={ X with A:=X.A.mark (some (.ref a)),calm:=false,xe:=fun _ _=>False }
def bw3 (K:PySem.W.Frag) (n C i:Nat) (tb:XK→TS) (th:Addr→TS):TS:=fun D σ H=>
 tb (fun cls _ H'=>PySem.W.exmOne K cls (.ref C)=some true∧∀ a,H' a=none→th a { nx:=fun _ _=>False,rt:=D.rt } ((List.replicate n none).set i (some (.ref a))) (upd H' a (Exc cls a))) D σ H
section
variable {X:Cx}
theorem br0 {body:List Stmt} {x n:Str} {C:Addr} {i:Nat} {b₀:Stmt} {suite:List Stmt} {tb:XK→TS} {th:Addr→TS} {np hpos pos:Pos} {l:List Env} (hst:X.stack=X.env :: l) (hfr:X.env.frame=some X.env.locals)
  (hex0:X.ex=[]) (hN:X.N.Nodup) (hi:X.N[i]? = some n) (hl:X.env.kindOf n=some .local) (hg:Gl X x) (hm:X.mg x=some (.ref C))
  (hb:∀ (E:XK) (xe:Value→Shared→Prop) (pn:List (Addr × Obj)),ax2 (CXR X.prog X.w) (X.body xe pn) E→PSs (X.body xe pn) body (tb E))
  (hs:∀ a,PSs (X.suite a) (b₀ :: suite) (th a)) (hd:(x == ("__debug__" : Str))=false:=by decide) :
  PS X (.Try body [.ExceptHandler (some (.Name x np)) (some n) (b₀ :: suite) hpos] [] [] pos) (bw3 X.K X.N.length C i tb th):=by
 intro pins s σ H D I h
 refine wpAny_Try_except ?_
 refine wpAny_mono (hb _ (fun e s₁=>wpAny (model X.prog X.w) X.A (noteFrame e X.env) (fun _ s₂=>wpAny (model X.prog X.w) X.A (setFlight e none) (fun _ s₃=>wpAny (model X.prog X.w) X.A (handleBy e X.env [.ExceptHandler (some (.Name x np)) (some n) (b₀ :: suite) hpos]) (SP X pins D) X.xe s₃) X.xe s₂) X.xe s₁) (X.pn++pins) ?_ [] s σ H D I.bear h) ?_ fun _ _ z=>z
 case refine_2=>
  intro f s1 hf
  cases f with
  | next=>
   obtain ⟨σ',H',J,q⟩:=hf
   exact wpAny_execs_nil ⟨σ',H',J.unbear,q⟩
  | brk=>
   obtain ⟨σ',H',J,q⟩:=hf
   exact ⟨σ',H',J.unbear,q⟩
  | cont=>
   obtain ⟨σ',H',J,q⟩:=hf
   exact ⟨σ',H',J.unbear,q⟩
  | ret u=>
   obtain ⟨v,σ',H',J,r,q⟩:=hf
   exact ⟨v,σ',H',J.unbear,r,q⟩
 case refine_1=>
  intro pins' σ' H1 s1 e s2 J0 hcx
  have J:Inv X pins σ' H1 s1:=J0.unbear
  obtain ⟨a,cls,a0,H2,B,rfl,os,bare,fl,hB,hth,hok,un,hn,hE⟩:=hcx
  obtain ⟨hex,hsu⟩:=hE
  have fl':Heap.FlyingW B (X.env :: l) a cls a0 s2.heap:=by rw [←hst];exact fl
  refine wpAny_looks_onW (by rw [J.ok.frames,hst]) hfr fl' fun h4 held4 up4=>?_
  refine wpAny_landsW held4 fun h5 fl5 up5=>?_
  have J5:Inv X pins σ' H2 { s2 with heap:=h5 }:=J.caught os bare fl hB hth hok un fl5.1 (up4.trans up5)
  obtain ⟨ob,hob,hobc⟩:=fl5.there
  have LT:PySem.W.Looks (model X.prog X.w) h5 (typeOf (.ref a)) cls:=hobc ▸ (PySem.W.Looks.ld hob).andThen .now
  have J5h:Inv (X.suite a) pins σ' H2 { s2 with heap:=h5 }:=J5.reA rfl (fun z=>nomatch z)
  refine wpAny_handleBy_cons (codeAny_handlers_test (ak7 (X:=X.suite a) J5h hg hm ?_ hd)) (by intro q;cases q)
  refine (PySem.W.exm_one (M:=model X.prog X.w) J5.kIn LT hex).at ?_
  refine codeAny_handlers_suite_as ?_
  refine lands_againW fl5 fun h6 fl6 up6=>?_
  have J6:Inv X pins σ' H2 { s2 with heap:=h6 }:=J.caught os bare fl hB hth hok un fl6.1 ((up4.trans up5).trans up6)
  have J6h:Inv (X.suite a) pins (aq0 X) H2 { s2 with heap:=h6 }:=(show Inv (X.suite a) pins σ' H2 { s2 with heap:=h6 } from J6.reA rfl (fun z=>nomatch z)).forget
  -- the exception is tracked
  obtain ⟨oe,ws,hoe,hoec,hoed,_⟩:=fl6.first
  have nfr:∀ b∈frs X.stack,b≠a:=fun b hb z=>by
   obtain ⟨_,o',ho',hnf⟩:=fl6.2.2.1.mem (show b∈frs (X.env :: l) from hst ▸ hb)
   subst z
   have ho6:h6.get? b=some o':=ho'
   rw [hoe] at ho6;cases ho6
   exact hnf ws hoed
  have nB:∀ b o,B.get? b=some o→b≠a:=fun b o q z=>by rw [z,fl.2.1] at q;cases q
  have nL:X.env.locals≠a:=nfr _ (by rw [hst];unfold frs;rw [List.filterMap_cons,hfr];exact List.mem_cons_self)
  have J7:Inv (X.suite a) pins (aq0 X) (upd H2 a (Exc cls a)) { s2 with heap:=h6 }:=by
   refine J6h.track hn (Exc.ok hoe hoec hoed) (fun b ob q n hx=>?_) nL (fun y c q=>?_) (fun p hp=>?_)
   ·have hx':b ∉ X.ex:=hx
    by_cases hbf:b∈frs X.stack
    ·exact nfr b hbf
    ·have z1:b ∉ X.fs:=fun z=>hbf (by
      rcases J.ok.stk with e | ⟨e,_⟩
      ·rw [e];exact z
      ·rw [e];unfold frs;rw [List.filterMap_cons,hfr];exact List.mem_cons_of_mem _ z)
     exact nB b ob (hB b ob (J.base.keep b ob q n z1 hx') (J.base.free b ob q n hx') hbf)
   ·obtain ⟨v,o',ho',hd'⟩:=J6h.cell y c q
    intro z
    subst z
    have z1:h6.get? c=some o':=ho'
    rw [hoe] at z1;cases z1
    rw [hoed] at hd';cases hd'
   ·have hp':p∈X.pn++pins:=hp
    obtain ⟨e1,e2,e3,e4,_⟩:=J.pin p hp'
    refine nB p.1 p.2 (hB p.1 p.2 e1 e2 fun z=>?_)
    rcases List.mem_cons.mp (J.stkSub p.1 z) with y | y
    ·exact e3 y
    ·exact e4 y
  refine aa7 (X:=X.suite a) J7 hN hi (.inl hl) (v:=.ref a) (u:=.ref a) rfl (fun s8 J8=>?_) (.inr hl)
  refine wpAny_mono (hs a pins s8 _ _ { nx:=fun _ _=>False,rt:=D.rt } J8 (hsu a hn)) (fun f s9 hf=>?_) fun _ _ z=>False.elim z
  cases f with
  | next=>obtain ⟨_,_,_,q⟩:=hf;exact False.elim q
  | brk=>obtain ⟨_,_,_,q⟩:=hf;exact False.elim q
  | cont=>obtain ⟨_,_,_,q⟩:=hf;exact False.elim q
  | ret u=>
   obtain ⟨v,σ9,H9,J9,r9,q9⟩:=hf
   obtain ⟨m9,hn9,_⟩:=id J9.loc
   have J9':Inv X pins σ9 H9 s9:=J9.unA J.ok
   refine wpAny_nameGoes hl hn9 (by rw [J.ok.kind];rfl) fun h' m' hn' hs'=>?_
   exact ⟨v,aq0 X,H9,J9'.relocal hn' hs',r9,q9⟩
end
structure T5 (k:Nat) (A:Around):Prop where
 dp:A.depth+3 * k+5<recursionLimit
 un:A.units+16 * k+200<cLine
theorem Z2.toX {k:Nat} {A:Around} (r:Z2 k A):T5 k A:=⟨r.dp,r.un⟩
theorem T5.mono {j k:Nat} {A:Around} (r:T5 k A) (h:j≤k):T5 j A:=⟨by have:=r.dp;omega,by have:=r.un;omega⟩
theorem T5.deeper {k:Nat} {A:Around} (r:T5 (k+1) A) (env:Env):T5 k (A.deeper env):=
 ⟨by have:=r.dp;show A.depth+1+3 * k+5<_;omega,by have:=r.un;show A.units+3+16 * k+200<_;omega⟩
theorem T5.mark {k:Nat} {A:Around} (r:T5 k A) (v:Option Value):T5 k (A.mark v):=⟨r.dp,r.un⟩
theorem T5.depth {k:Nat} {A:Around} (r:T5 k A):A.depth<recursionLimit:=by have:=r.dp;omega
structure aU8 (P:Program) (w:World) (K:PySem.W.Frag) (mg:Str→Option Value) (base:Heap) (k:Nat) (f:Addr) (fd:FuncData) (ps:List Str) (sp:Sp):Prop where
 len:∀ vs H Q E,sp vs H Q E→vs.length=ps.length
 run:∀ (A:Around) (outer:List Env) (s:Shared) (H:Hp) (args:Args) (us:List Value) (vs:List V) (Q:VK) (E:XK),T5 k A→aY8 P w K mg base A outer s H→BindsTo s fd args (ps.zip us)→o0 vs us→sp vs H Q E →
  codeAny (model P w) A (.call (.ref f) args) (CR CX0 outer P w H s Q E) s
abbrev cxX (P:Program) (w:World) (K:PySem.W.Frag) (mg:Str→Option Value) (base:Heap) (N:List Str) (qual:Str) (scope:Scope) (f:Addr) (cd:Value) (A:Around) (outer:List Env) (s₀:Shared) (H₀:Hp) (E:XK):Cx:=
 { ao9 CX0 P w K mg base N qual scope f cd A outer s₀ H₀ E with calm:=false,xe:=fun _ _=>False }
theorem Fun.okX {P:Program} {w:World} {K:PySem.W.Frag} {mg:Str→Option Value} {base:Heap} {x qual:Str} {st:Stmt} {f:Addr} {fd:FuncData} {N ps:List Str} {k:Nat} {sp:Sp} (F:Fun K x qual st f fd) (S:i8 N ps (d3 st)) (len:∀ vs H Q E,sp vs H Q E→vs.length=ps.length)
  (hbody:∀ (cdv:Value) (A:Around) (outer:List Env) (s:Shared) (H:Hp) (vs:List V) (Q:VK) (E:XK),T5 k (A.deeper (envOfC qual (d3 st) s.heap.objs.size f cdv))→sp vs H Q E →
   ∃ t,PSs (cxX P w K mg base N qual (d3 st) f cdv A outer s H E) (i6 st) t∧t { nx:=fun _ H'=>Q .non H',rt:=Q } (start N vs) H):aU8 P w K mg base (k+1) f fd ps sp:=by
 obtain ⟨oc,od,kV,doc,pm,an,cdv,ct,osl,rfl,lk,hcd⟩:=F.ex
 refine ⟨len,fun A outer s H args us vs Q E hr e0 hb r hsp=>?_⟩
 have hl:=len _ _ _ _ hsp
 have KX:K.In s.heap:=e0.mod.kin.keeps fun b o e=>(e0.bs b o e).1
 have lim:s.heap.NoLimit:=e0.mod.nolimit.keeps fun b o e=>(e0.bs b o e).1
 have hkind:∀ y∈ps.zip us,(d3 st).names.lookup y.1=some .local∨((d3 st).names.lookup y.1=some .cell∧((cellsFrom (s.heap.objs.size+1) (d3 st).names []).lookup y.1).isSome=true):=fun ⟨n,v⟩ hy=>by
  rcases S.par n (List.of_mem_zip hy).1 with q | q
  ·exact .inl q
  ·exact .inr ⟨q,PySem.W.cellsFrom_some _ _ _ (.inl q)⟩
 refine codeAny_call_function hr.depth (KX _ _ lk) rfl S.co S.gen rfl (PySem.W.codeRec_of KX hcd) (hb _ _ _ _ ?_)
 refine wpAny_newFunctionEnv_cells S.kind hkind fun env he s1 x=>?_
 subst he
 refine ⟨lim.keeps x.toInCall.keep,codeAny_func ?_⟩
 obtain ⟨t,ht,hq⟩:=hbody cdv A outer s H vs Q E (hr.deeper _) hsp
 have e0':aY8 P w K mg base { A with handled:=none } outer s H:=⟨e0.frames,e0.mod,e0.bs,e0.bsz,e0.funs,e0.frf,e0.hok,e0.bare⟩
 have I0:Inv (ao9 CX0 P w K mg base N qual (d3 st) f cdv { A with handled:=none } outer s H E) [] (start N vs) H s1:=aB7 S rfl e0' hl r x
 have I:Inv (cxX P w K mg base N qual (d3 st) f cdv A outer s H E) [] (start N vs) H s1:=I0.reA (A2:=A.deeper (envOfC qual (d3 st) s.heap.objs.size f cdv)) (by rfl) (fun z=>nomatch z)
 refine wpAny_mono (ht [] s1 (start N vs) H _ I hq) (fun fl s' hs=>?_) fun e s' hs=>False.elim hs
 have fin:∀ {σ':St} {H':Hp} {v:V} {u:Value},Inv (cxX P w K mg base N qual (d3 st) f cdv A outer s H E) [] σ' H' s'→A4 v u→Q v H'→CE outer P w H s Q u s':=
  fun {σ' H' v u} J rv q=>⟨v,H',J.os,J.bare,J.base,J.hok,rv,q⟩
 cases fl with
 | ret u=>
  obtain ⟨v,σ',H',J,rv,q⟩:=hs
  exact fin J rv q
 | next=>
  obtain ⟨σ',H',J,q⟩:=hs
  exact fin (v:=V.non) (u:=Value.none) J rfl q
 | brk=>
  obtain ⟨_,_,_,q⟩:=hs
  exact False.elim q
 | cont=>
  obtain ⟨_,_,_,q⟩:=hs
  exact False.elim q
section
variable {X:Cx} {CX:CXT} {k:Nat} {f:Addr} {fd:FuncData} {ps:List Str} {sp:Sp} {E:XK} {x:Str} {p pos:Pos} {e:Expr} {es:List Expr} {t:TA}
theorem bj0 {pins:List (Addr × Obj)} {σ:St} {H:Hp} {s:Shared} {Q:VK} {us:List Value} {vs:List V} (F:aU8 X.prog X.w X.K X.mg X.base k f fd ps sp) (hr:T5 k X.A) (hb:af0 X.K fd ps [])
  (I:Inv X pins σ H s) (r:o0 vs us) (h:sp vs H Q E):wpAny (model X.prog X.w) X.A (call (.ref f) us) (EP X pins σ Q) X.xe s:=by
 have hl:(us++[]).length=ps.length:=by rw [List.append_nil,←r.length];exact F.len _ _ _ _ h
 have hb':=hb s us I.kIn hl
 rw [List.append_nil] at hb'
 refine wpAny_call (codeAny_mono (F.run X.A X.stack s H ⟨us,[]⟩ us vs Q E hr I.env0 hb' r h) fun r s' hq=>?_)
 cases r with
 | error e=>exact False.elim hq
 | ok fl=>
  cases fl with
  | ret u=>exact I.after hq
  | next=>exact False.elim hq
  | brk=>exact False.elim hq
  | cont=>exact False.elim hq
def aE3 (sp:Sp) (t:TA):TE:=fun σ H Q=>t σ H fun vs H1=>sp vs H1 Q E0
theorem bd1 (F:aU8 X.prog X.w X.K X.mg X.base k f fd ps sp) (hr:T5 k X.A) (hg:Gl X x) (hm:X.mg x=some (.ref f)) (hk:PySem.W.keepIn X.K (.ref f)=true) (hb:af0 X.K fd ps [])
  (ha:PA X (e :: es) t) (hdb:(x == ("__debug__" : Str))=false:=by decide) (he:starEach (e :: es) X.env=(false,eval e X.env) :: starEach es X.env:=by rfl) (hpl:(backTo pos (starEach es X.env)).any (·.1)=false:=by rfl) :
  PE X (.Call (.Name x p) (e :: es) [] pos) (aE3 sp t):=by
 intro pins s σ H Q I h
 refine wpAny_Call_Name_kw (ak7 I hg hm ?_ hdb)
 refine PySem.W.callWith_K (h₀:=X.base) I.ok.mod.kin hk (thn (ha pos pins s σ H _ I h) fun us s1 ⟨vs,H1,I1,r,q⟩=>⟨I1.kIn,?_⟩) he hpl
 exact bj0 F hr hb I1 r q
structure FnV (P:Program) (w:World) (K:PySem.W.Frag) (mg:Str→Option Value) (base:Heap) (k:Nat) (f:Addr) (sp:Sp):Prop where
 ex:∃ fd ps,ae9 P w K mg base (CXR P w) k f fd ps sp∧af0 K fd ps []
 kp:PySem.W.keepIn K (.ref f)=true
end
end L2
-- the class of an exception,isinstance,great numbers
set_option maxRecDepth 100000
namespace L2
open PySem PySem.W PySem.Spec PyProof.Rows Builtin Builtin.ObjectAttr Builtin.Getset_descriptor
section
variable {prog:Program} {w:World} {A:Around} {E:Value→Shared→Prop} {s:Shared} {K:Frag} {a C:Addr} {o:Obj}
theorem az1 {R:Result→Shared→Prop} {tp:Value} (X:K.In s.heap) (hx:s.heap.get? a=some o) (hc:o.cls = .ref C) (hm:mroIn K C (.type "object")=some true)
  (h:R (.ok (.ret (.ref C))) s):codeAny (model prog w) A (.call (.builtin "getset_descriptor.__get__") ⟨[.builtin "object.__class__",.ref a,tp],[]⟩) R s:=by
 obtain ⟨hh,g,dr,t,os⟩:=s
 have L0:Looks (model prog w) hh (typeOf (.ref a)) (.ref C):=hc ▸ (Looks.ld hx).andThen .now
 have L1:=looks_mroIn (M:=model prog w) X hm
 refine codeAny_call_builtin KF.slot_gs.plain KF.entry_gs (KF.slot_gs.check _ _ _ _ _ _ _ _ KF.type_class (KF.args_gs _ _ _) ?_)
 unfold Builtin.«getset_descriptor.__get__» descrGet
 rw [dga_obj]
 refine wpAny_bind (wpAny_pure ?_)
 unfold descrGetter descrCheckInstance descrNameAndClass isInstance
 simp only [KF.owner_class]
 repeat lk
 refine ⟨Code.quiet_builtin _ (by decide +kernel),codeAny_builtin KF.entry_class ?_⟩
 unfold Builtin.«object.__class__» shownTypeOf
 repeat lk
 exact h
theorem aX3 {tk:Tok} {Q:Fin→Shared→Prop} (X:K.In s.heap) (hx:s.heap.get? a=some o) (hc:o.cls = .ref C) (g3:findIn K (.ref C) "__class__" = some (some (.builtin "object.__class__"))) (hm:mroIn K C (.type "object")=some true)
  (hq:Q (.done (.ret (.ref C))) s):wpAny (model prog w) A (Builtin.«object.__getattribute__» ⟨[.ref a,.str "__class__" tk],[]⟩) Q E s:=by
 obtain ⟨hh,g,dr,t,os⟩:=s
 have L0:Looks (model prog w) hh (typeOf (.ref a)) (.ref C):=hc ▸ (Looks.ld hx).andThen .now
 have L1:=looks_findIn (M:=model prog w) X g3
 have f5:typeOf (.builtin "object.__class__")=pure (.type "getset_descriptor"):=KF.type_class
 have f6:=F.slot_gs_get.lookup
 have f7:=F.slot_gs_set.lookup
 repeat (any_goals (first | assumption | (with_reducible refine wpAny_loadPart_at hx ?_;rw [hc]) | with_reducible refine L1.at ?_ | wp_step))
 refine az1 X hx hc hm ?_
 repeat (any_goals (first | assumption | wp_step))
theorem aX5 {M:Model} {nameV:Value} {Q:Unit→Shared→Prop} (X:K.In s.heap) (hx:s.heap.get? a=some o) (hc:o.cls = .ref C) (hmB:mroIn K C (.type "BaseException")=some true) (hq:Q () s) :
  wpAny M A (checkBuiltinCall "BaseException.__getattribute__" ⟨[.ref a,nameV],[]⟩) Q E s:=by
 obtain ⟨hh,g,d,t,os⟩:=s
 have L3:=looks_mroIn (M:=M) X hmB
 have hk:builtinKind "BaseException.__getattribute__" = some .slot:=by decide +kernel
 have hsplit:splitId "BaseException.__getattribute__" = some ("BaseException","__getattribute__"):=by decide +kernel
 have ha:=F.args_bexc_ga (.ref a) nameV
 simp only [checkBuiltinCall,hk,hsplit]
 refine wpAny_bind ?_
 ·unfold isInstance
  repeat (first | (with_reducible refine wpAny_loadPart_at hx ?_;rw [hc]) | with_reducible refine L3.at ?_ | wp_step)
  exact hq
theorem aX4 {Q:Option Value→Shared→Prop} (X:K.In s.heap) (hx:s.heap.get? a=some o) (hc:o.cls = .ref C) (g1:findIn K (.ref C) "__getattribute__" = some (some (.builtin "BaseException.__getattribute__"))) (g2:findIn K (.ref C) "__getattr__" = some none)
  (g3:findIn K (.ref C) "__class__" = some (some (.builtin "object.__class__"))) (hm:mroIn K C (.type "object")=some true) (hmB:mroIn K C (.type "BaseException")=some true)
  (h:Q (some (.ref C)) { s with toks:=s.toks+1 }):wpAny (model prog w) A (getAttr? (.ref a) "__class__") Q E s:=by
 obtain ⟨hh,g,d,t,os⟩:=s
 have L0:Looks (model prog w) hh (typeOf (.ref a)) (.ref C):=hc ▸ (Looks.ld hx).andThen .now
 have L1:=looks_findIn (M:=model prog w) X g1
 have L2:=looks_findIn (M:=model prog w) X g2
 have L3:=looks_mroIn (M:=model prog w) X hmB
 unfold getAttr? getAttrBy? getAttrBy
 refine wpAny_bind (wpAny_mkText (wpAny_bind (wpAny_attempt (wpAny_holding (wpAny_bind (L0.at (wpAny_bind (L1.at ?_))))))))
 have hx2:(Value.builtin "BaseException.__getattribute__" == Value.builtin "object.__getattribute__")=false:=by decide +kernel
 have hx1:(onTheHeap (Value.ref C) && Value.builtin "BaseException.__getattribute__" == Value.builtin "object.__getattribute__")=false:=by rw [hx2];rfl
 show wpAny _ _ (if (onTheHeap (Value.ref C) && Value.builtin "BaseException.__getattribute__" == Value.builtin "object.__getattribute__")=true then _ else _) _ _ _
 rw [if_neg (by rw [hx1];decide)]
 have f3:=PySem.F.attr_ValueError.ga.bind (.ref a)
 have hx0:(false && onTheHeap (Value.builtin "BaseException.__getattribute__"))=false:=rfl
 unfold getAttrByItsOwn hookBefore
 repeat (any_goals (first | assumption | (with_reducible refine wpAny_loadPart_at hx ?_;rw [hc]) | with_reducible refine L1.at ?_ | with_reducible refine L2.at ?_ | wp_step))
 refine codeAny_call_builtin PySem.F.attr_ValueError.ga.plain F.entry_bexc_ga (aX5 X hx hc hmB (aX3 X hx hc g3 hm ?_))
 dsimp only
 unfold handedOut
 exact wpAny_pure (wpAny_pure h)
structure F5 (K:Frag) (C:Addr):Prop where
 cl:(clsIn K C).isSome=true
 g1:findIn K (.ref C) "__getattribute__" = some (some (.builtin "BaseException.__getattribute__"))
 g2:findIn K (.ref C) "__getattr__" = some none
 g3:findIn K (.ref C) "__class__" = some (some (.builtin "object.__class__"))
 hm:mroIn K C (.type "object")=some true
 hB:mroIn K C (.type "BaseException")=some true
theorem bf0 (c:F5 K C):KitX K (.ref a) (.ref C) (fun h=>∃ o,h.get? a=some o∧o.cls = .ref C) where
 ty:=fun _ _ _ ⟨o,hx,hc⟩=>hc ▸ (Looks.ld hx).andThen .now
 it:=fun _ _ X _=>by
  obtain ⟨cdD,hcD⟩:=Option.isSome_iff_exists.mp c.cl
  unfold clsIn at hcD
  split at hcD
  ·rename_i c' d' cd' sl' ho
   intro A' Q' E' s' k q
   unfold isType loadHead
   exact wpAny_bind (wpAny_loadPart (k _ _ (X _ _ ho)) (wpAny_pure q))
  ·cases hcD
 ne:=fun h tp dd its n sl X htp=>by
  obtain ⟨cdD,hcD⟩:=Option.isSome_iff_exists.mp c.cl
  refine Bool.eq_false_iff.mpr fun q=>?_
  have e:C=tp:=Value.ref.inj (beq_iff_eq.mp q)
  subst e
  unfold clsIn at hcD
  split at hcD
  ·rename_i c' d' cd' sl' ho
   have z:=(X _ _ ho).symm.trans htp
   cases z
  ·cases hcD
 ca:=fun X ⟨o,hx,hc⟩ k=>aX4 X hx hc c.g1 c.g2 c.g3 c.hm c.hB k
end
section
variable {X:Cx}
def bx6:V→Value
 | .ty n=>.type n
 | .ref a=>.ref a
 | _=>.none
def isC:V→Prop
 | .ty _=>True
 | .ref _=>True
 | _=>False
inductive TyX (K:Frag) (H:Hp):V→Value→Prop where
 | of {x:V} {t:Value} (h:ap3 K H x t):TyX K H x t
 | exc {a C:Addr} (e:H a=some (Exc (.ref C) a)) (c:F5 K C):TyX K H (.ref a) (.ref C)
 | sqt {a:Addr} {xs:List V} (h:SqT K H a xs):TyX K H (.ref a) (.type "tuple")
 | sql {a:Addr} {xs:List V} (h:SqL K H a xs):TyX K H (.ref a) (.type "list")
def bq6 (K:Frag):List V→Hp→VK→Prop:=fun xs H Q=>∃ x c t b,xs=[x,c]∧isC c∧TyX K H x t∧kitOne K t (bx6 c)=some b∧Q (.bl b) H
theorem j5:aa1 X (.builtin "isinstance") (bq6 X.K):=by
 intro pins s σ H us vs Q I r h
 obtain ⟨x,c,t,b,rfl,ic,ty,e,q⟩:=h
 obtain ⟨u,cu,rfl,rx,rc⟩:=o0.two r
 have ec:cu=bx6 c:=by
  cases c with
  | ty n=>exact rc
  | ref a=>exact rc
  | _=>exact False.elim ic
 subst ec
 have fin:∀ tk,EP X pins σ Q (.bool b) { s with toks:=tk }:=fun tk=>⟨.bl b,H,I.tok tk,rfl,q⟩
 cases ty with
 | of ty=>exact aX0 I rx ty e fin
 | @exc a C ea cl=>
  cases (show u=Value.ref a from rx)
  obtain ⟨⟨o,_,h1,h2,_⟩,_⟩:=(show G7 X.prog X.w H s.heap a (Exc (.ref C) a) from I.hok a _ ea)
  exact kia_one (bf0 cl) I.kIn ⟨o,h1,h2⟩ e (fun z=>nomatch z) fin
 | @sqt a xs h=>
  cases (show u=Value.ref a from rx)
  obtain ⟨_,_,⟨o,h1,h2,_⟩,_⟩:=I.tuple h
  exact kia_one kitx_tuple I.kIn ⟨o,h1,h2⟩ e (fun z=>nomatch z) fin
 | @sql a xs h=>
  cases (show u=Value.ref a from rx)
  obtain ⟨_,_,⟨o,n,h1,h2,_⟩,_⟩:=I.list h
  exact kia_one kitx_list I.kIn ⟨o,h1,h2⟩ e (fun z=>nomatch z) fin
theorem w8:OpR X (binaryOp .Mult) (rI IntMulOk fun i j=>.int (i * j)):=opI fun _ _ _ _ _ _ _ hc q=>mul_int q hc
def ax3 (_ j:Int):Prop:=j≠0∧j.natAbs.log2<9000
theorem C1:OpR X (binaryOp .FloorDiv) (rI ax3 fun i j=>.int (i.fdiv j)):=opI fun _ _ _ _ _ _ _ hc q=>floordiv_int hc.1 q (.inl (PyProof.noPylong_of_log2 hc.2))
end
open PySem PySem.Spec PyProof.Rows
inductive D where
 | v (x:V)
 | tup (ds:List D)
 | lst (ds:List D)
mutual
def eqD:D→D→Bool
 | .v x,.v y=>eqV x y
 | .tup a,.tup b=>P8 a b
 | .lst a,.lst b=>P8 a b
 | _,_=>false
def P8:List D→List D→Bool
 | [],[]=>true
 | x :: xs,y :: ys=>eqD x y && P8 xs ys
 | _,_=>false
end
mutual
def okD:D→D→Bool
 | .v _,.v _=>true
 | .tup a,.tup b=>ad3 a b
 | .lst a,.lst b=>ad3 a b
 | _,_=>false
def ad3:List D→List D→Bool
 | x :: xs,y :: ys=>okD x y && ad3 xs ys
 | _,_=>true
end
mutual
def dpD:D→Nat
 | .v _=>0
 | .tup a=>ag3 a+1
 | .lst a=>ag3 a+1
def ag3:List D→Nat
 | []=>0
 | x :: xs=>max (dpD x) (ag3 xs)
end
mutual
inductive IsD (K:PySem.W.Frag) (H:Hp):V→D→Prop where
 | v {x:V} (f:Y8 x=true):IsD K H x (.v x)
 | tup {p:Addr} {xs:List V} {ds:List D} (h:SqT K H p xs) (t:N4 K H xs ds):IsD K H (.ref p) (.tup ds)
 | lst {p:Addr} {xs:List V} {ds:List D} (h:SqL K H p xs) (t:N4 K H xs ds):IsD K H (.ref p) (.lst ds)
inductive N4 (K:PySem.W.Frag) (H:Hp):List V→List D→Prop where
 | nil:N4 K H [] []
 | cons {x:V} {xs:List V} {d:D} {ds:List D} (h:IsD K H x d) (t:N4 K H xs ds):N4 K H (x :: xs) (d :: ds)
end
theorem N4.length {K:PySem.W.Frag} {H:Hp}:∀ {xs:List V} {ds:List D},N4 K H xs ds→xs.length=ds.length
 | _,_,.nil=>rfl
 | _,_,.cons _ t=>congrArg (· + 1) t.length
theorem bg3:∀ {x:V},Y8 x=true→eqV x x=true
 | .non,_=>rfl
 | .bl a,_=>by simp [eqV]
 | .int a,_=>by simp [eqV]
 | .str a,_=>by simp [eqV]
 | .byt _,h=>absurd (show false=true from h) Bool.false_ne_true
 | .flt _,h=>absurd (show false=true from h) Bool.false_ne_true
 | .ref _,h=>absurd (show false=true from h) Bool.false_ne_true
 | .ty _,h=>absurd (show false=true from h) Bool.false_ne_true
section
variable {X:Cx} {pins:List (Addr × Obj)} {σ:St} {H:Hp} {s:Shared}
mutual
theorem aw0 (I:Inv X pins σ H s):∀ {x:V} {d d':D},IsD X.K H x d→IsD X.K H x d'→okD d d'=true→eqD d d'=true
 | _,_,_,.v f,.v _,_=>by rw [eqD];exact bg3 f
 | _,_,_,.tup h t,.tup h' t',ok=>by
  have e:=I.tuple_inj h h'
  subst e
  rw [eqD]
  rw [okD] at ok
  exact ao8 I t t' ok
 | _,_,_,.lst h t,.lst h' t',ok=>by
  have e:=I.list_inj h h'
  subst e
  rw [eqD]
  rw [okD] at ok
  exact ao8 I t t' ok
 | _,_,_,.v f,.tup _ _,_=>absurd (show false=true from f) Bool.false_ne_true
 | _,_,_,.v f,.lst _ _,_=>absurd (show false=true from f) Bool.false_ne_true
 | _,_,_,.tup _ _,.v f,_=>absurd (show false=true from f) Bool.false_ne_true
 | _,_,_,.lst _ _,.v f,_=>absurd (show false=true from f) Bool.false_ne_true
 | _,_,_,.tup _ _,.lst _ _,ok=>by simp [okD] at ok
 | _,_,_,.lst _ _,.tup _ _,ok=>by simp [okD] at ok
theorem ao8 (I:Inv X pins σ H s):∀ {xs:List V} {ds ds':List D},N4 X.K H xs ds→N4 X.K H xs ds'→ad3 ds ds'=true→P8 ds ds'=true
 | _,_,_,.nil,.nil,_=>by rw [P8]
 | _,_,_,.cons h t,.cons h' t',ok=>by
  rw [ad3,Bool.and_eq_true] at ok
  rw [P8,aw0 I h h' ok.1,ao8 I t t' ok.2]
  rfl
end
def ae5 (ds ds':List D) (j:Nat):Bool:=match ds[j]?,ds'[j]? with
 | some d,some d'=>eqD d d'
 | _,_=>true
theorem ae7 (n:Nat) (e:Nat→Bool):(List.range (n+1)).all e=(e 0 && (List.range n).all fun j=>e (j+1)):=by
 rw [List.range_succ_eq_map,List.all_cons,List.all_map];rfl
theorem ag2:∀ (ds ds':List D),((List.range (min ds.length ds'.length)).all (ae5 ds ds') && ds.length == ds'.length)=P8 ds ds'
 | [],[]=>by rw [P8];rfl
 | [],_ :: _=>by simp [P8]
 | _ :: _,[]=>by simp [P8]
 | x :: xs,y :: ys=>by
  have ih:=ag2 xs ys
  rw [P8,←ih]
  have e1:min (x :: xs).length (y :: ys).length=min xs.length ys.length+1:=by simp only [List.length_cons];simp
  rw [e1,ae7]
  have e2:((x :: xs).length == (y :: ys).length)=(xs.length == ys.length):=by
   by_cases h:xs.length=ys.length <;> simp [h]
  rw [e2,Bool.and_assoc]
  rfl
theorem ah1 (ds ds':List D) (h:ds.length=ds'.length):(List.range ds.length).all (ae5 ds ds')=P8 ds ds':=by
 rw [←ag2,←h,Nat.min_self];simp
theorem av8:∀ (ds ds':List D),ds.length≠ds'.length→P8 ds ds'=false
 | [],[],h=>absurd rfl h
 | [],_ :: _,_=>by simp [P8]
 | _ :: _,[],_=>by simp [P8]
 | x :: xs,y :: ys,h=>by
  rw [P8,av8 xs ys (fun e=>h (by simp [e]))];simp
theorem aA8 (I:Inv X pins σ H s) {p p':Addr} {xs ys:List V} {ds ds':List D} {A:Around} (h:SqT X.K H p xs) (t:N4 X.K H xs ds) (h':SqT X.K H p' ys) (t':N4 X.K H ys ds') (hu:A.units<cLine)
  (q:∀ {us vs:List Value},o0 xs us→o0 ys vs→∀ (j:Nat) (h1:j<us.length) (h2:j<vs.length),SeqAt.EqAt A.in1 s us[j] vs[j] (ae5 ds ds' j)):SeqAt.RcAt A s (.ref p) (.ref p') (P8 ds ds'):=by
  obtain ⟨its,r1,i1,_⟩:=I.tuple h
  obtain ⟨its',r2,i2,_⟩:=I.tuple h'
  have z:=SeqAt.RcAt.tuples (A:=A) (items:=its.toArray) (items2:=its'.toArray) (e:=ae5 ds ds') i1 i2 hu (fun j h1 h2=>q r1 r2 j (by simpa using h1) (by simpa using h2))
  have e1:its.toArray.size=ds.length:=by rw [List.size_toArray,←r1.length,t.length]
  have e2:its'.toArray.size=ds'.length:=by rw [List.size_toArray,←r2.length,t'.length]
  rw [e1,e2,ag2] at z
  exact z
theorem aA9 (I:Inv X pins σ H s) {p p':Addr} {xs ys:List V} {ds ds':List D} {A:Around} (h:SqL X.K H p xs) (t:N4 X.K H xs ds) (h':SqL X.K H p' ys) (t':N4 X.K H ys ds') (hu:A.units<cLine)
  (q:∀ {us vs:List Value},o0 xs us→o0 ys vs→∀ (j:Nat) (h1:j<us.length) (h2:j<vs.length),SeqAt.EqAt A.in1 s us[j] vs[j] (ae5 ds ds' j)):SeqAt.RcAt A s (.ref p) (.ref p') (P8 ds ds'):=by
  obtain ⟨its,r1,i1,_⟩:=I.list h
  obtain ⟨its',r2,i2,_⟩:=I.list h'
  have e1:its.toArray.size=ds.length:=by rw [List.size_toArray,←r1.length,t.length]
  have e2:its'.toArray.size=ds'.length:=by rw [List.size_toArray,←r2.length,t'.length]
  by_cases hl:ds.length=ds'.length
  ·have z:=SeqAt.RcAt.lists (A:=A) (items:=its.toArray) (items2:=its'.toArray) (e:=ae5 ds ds') i1.isList i2.isList (by rw [e1,e2,hl]) hu (fun j h1 h2=>q r1 r2 j (by simpa using h1) (by simpa using h2))
   rw [e1,ah1 ds ds' hl] at z
   exact z
  ·rw [av8 ds ds' hl]
   exact SeqAt.RcAt.lists_lengths i1.isList i2.isList (by rw [e1,e2];simpa using hl) hu
mutual
theorem bu5 (I:Inv X pins σ H s):∀ {x y:V} {d d':D} {u v:Value} {A:Around},IsD X.K H x d→IsD X.K H y d'→okD d d'=true→A4 x u→A4 y v→A.units+dpD d<cLine→SeqAt.EqAt A s u v (eqD d d')
 | _,_,_,_,_,_,_,.v f,.v f',_,r,r',_=>by rw [eqD];exact bg4 r r' f f'
 | _,_,_,_,u,v,A,.tup (p:=p) h t,.tup (p:=p') h' t',ok,r,r',hu=>by
  cases (show u=Value.ref p from r)
  cases (show v=Value.ref p' from r')
  by_cases hp:p=p'
  ·subst hp
   rw [aw0 I (.tup h t) (.tup h' t') ok]
   exact SeqAt.EqAt.same _
  ·rw [okD] at ok
   rw [dpD] at hu
   rw [eqD]
   exact SeqAt.EqAt.of_refs hp (aA8 I h t h' t' (by lia) fun r1 r2 j h1 h2=>ac6 (A:=A.in1) I t t' ok r1 r2 (by show A.units+1+_<_;lia) j h1 h2)
 | _,_,_,_,u,v,A,.lst (p:=p) h t,.lst (p:=p') h' t',ok,r,r',hu=>by
  cases (show u=Value.ref p from r)
  cases (show v=Value.ref p' from r')
  by_cases hp:p=p'
  ·subst hp
   rw [aw0 I (.lst h t) (.lst h' t') ok]
   exact SeqAt.EqAt.same _
  ·rw [okD] at ok
   rw [dpD] at hu
   rw [eqD]
   exact SeqAt.EqAt.of_refs hp (aA9 I h t h' t' (by omega) fun r1 r2 j h1 h2=>ac6 (A:=A.in1) I t t' ok r1 r2 (by show A.units+1+_<_;omega) j h1 h2)
 | _,_,_,_,_,_,_,.v _,.tup _ _,ok,_,_,_=>by simp [okD] at ok
 | _,_,_,_,_,_,_,.v _,.lst _ _,ok,_,_,_=>by simp [okD] at ok
 | _,_,_,_,_,_,_,.tup _ _,.v _,ok,_,_,_=>by simp [okD] at ok
 | _,_,_,_,_,_,_,.lst _ _,.v _,ok,_,_,_=>by simp [okD] at ok
 | _,_,_,_,_,_,_,.tup _ _,.lst _ _,ok,_,_,_=>by simp [okD] at ok
 | _,_,_,_,_,_,_,.lst _ _,.tup _ _,ok,_,_,_=>by simp [okD] at ok
theorem ac6 (I:Inv X pins σ H s):∀ {xs ys:List V} {ds ds':List D} {us vs:List Value} {A:Around},N4 X.K H xs ds→N4 X.K H ys ds'→ad3 ds ds'=true→o0 xs us→o0 ys vs→A.units+ag3 ds<cLine →
  ∀ (j:Nat) (h1:j<us.length) (h2:j<vs.length),SeqAt.EqAt A s us[j] vs[j] (ae5 ds ds' j)
 | _,_,_,_,_,_,_,.nil,_,_,.nil,_,_=>fun j h1 _=>absurd h1 (Nat.not_lt_zero _)
 | _,_,_,_,_,_,_,.cons _ _,.nil,_,_,.nil,_=>fun j _ h2=>absurd h2 (Nat.not_lt_zero _)
 | _,_,_,_,_,_,A,.cons h t,.cons h' t',ok,.cons r rs,.cons r' rs',hu=>fun j h1 h2=>by
  rw [ad3,Bool.and_eq_true] at ok
  rw [ag3] at hu
  cases j with
  | zero=>exact bu5 I h h' ok.1 r r' (by lia)
  | succ j=>exact ac6 I t t' ok.2 rs rs' (by lia) j (by simpa using h1) (by simpa using h2)
end
def D.isV:D→Bool
 | .v _=>true
 | _=>false
def by3 (K:PySem.W.Frag):R2:=fun x y H Q=>∃ d d',d.isV=false∧IsD K H x d∧IsD K H y d'∧okD d d'=true∧dpD d≤60∧Q (.bl (eqD d d')) H
theorem ae0 (hu:X.A.units+64<cLine):OpR X (compareOp .Eq) (by3 X.K):=by
 intro pins s σ H x y v u Q I rx ry h
 obtain ⟨d,d',nf,h1,h2,ok,dp,q⟩:=h
 have fin:EP X pins σ Q (.bool (eqD d d')) s:=⟨.bl _,H,I,rfl,q⟩
 cases h1 with
 | v f=>
  cases h2 with
  | v f'=>exact absurd (show true=false from nf) (by decide)
  | tup _ _=>simp [okD] at ok
  | lst _ _=>simp [okD] at ok
 | @tup p xs ds h t=>
  cases h2 with
  | v f'=>simp [okD] at ok
  | @tup p' ys ds' h' t'=>
   cases (show v=Value.ref p from rx)
   cases (show u=Value.ref p' from ry)
   rw [okD] at ok
   rw [dpD] at dp
   rw [eqD] at fin
   exact aA8 I h t h' t' (by omega) (fun r1 r2 j h1 h2=>ac6 (A:=X.A.in1) I t t' ok r1 r2 (by show X.A.units+1+_<_;lia) j h1 h2) X.prog X.w X.xe _ fin
  | lst _ _=>simp [okD] at ok
 | @lst p xs ds h t=>
  cases h2 with
  | v f'=>simp [okD] at ok
  | tup _ _=>simp [okD] at ok
  | @lst p' ys ds' h' t'=>
   cases (show v=Value.ref p from rx)
   cases (show u=Value.ref p' from ry)
   rw [okD] at ok
   rw [dpD] at dp
   rw [eqD] at fin
   exact aA9 I h t h' t' (by omega) (fun r1 r2 j h1 h2=>ac6 (A:=X.A.in1) I t t' ok r1 r2 (by show X.A.units+1+_<_;omega) j h1 h2) X.prog X.w X.xe _ fin
end
open PySem PySem.Spec PyProof.Rows
section
variable {X:Cx}
def aF4:V→List V→Hp→VK→Prop:=fun x vs H Q=>∃ i,x = .int i∧vs=[]∧Q (.int (Builtin.Int.intBits i)) H
theorem ab2:MtM X "int.bit_length" aF4:=by
 intro pins s σ H x vs v us Q I rx rv h
 obtain ⟨i,rfl,rfl,q⟩:=h
 obtain ⟨t,rfl⟩:=rx
 cases o0.zero rv
 exact call_int_bit_length ⟨.int _,H,I.tok _,⟨_,rfl⟩,q⟩
theorem aC6 {x:V}:∀ {xs:List V} {us:List Value},o0 xs us→xs.all Y8=true→us.countP (eqU x)=xs.countP fun y=>eqV y x
 | _,_,.nil,_=>rfl
 | y :: xs,u :: us,.cons r t,f=>by
  rw [List.all_cons,Bool.and_eq_true] at f
  rw [List.countP_cons,List.countP_cons,aR0 r f.1,aC6 t f.2]
def aO4:V→List V→Hp→VK→Prop:=fun x vs H Q=>∃ l xs y,x = .ref l∧vs=[y]∧H l=some (.lst xs)∧Y8 y=true∧xs.all Y8=true∧Q (.int (xs.countP fun z=>eqV z y)) H
theorem be5:MtM X "list.count" aO4:=by
 intro pins s σ H x vs v us Q I rx rv h
 obtain ⟨l,xs,y,rfl,rfl,hH,fy,fx,q⟩:=h
 cases rx
 obtain ⟨u,rfl,ru⟩:=rv.one
 obtain ⟨z,its,n,r,hl,e⟩:=I.lstM hH
 refine call_meets F.slot_list_count ⟨_,e,rfl⟩ F.entry_list_count (F.args_list_count_2 _ _) (SeqAt.list_countAt l its.toArray n none #[] u (eqU y)) ⟨e,fun w hw=>av2 ru fy r fx w (by simpa using hw),?_⟩
 refine ⟨.int _,H,I.tok _,⟨_,rfl⟩,?_⟩
 rw [show its.toArray.toList=its from rfl,aC6 r fx]
 exact q
theorem aT8 {y:V} {xs:List V} {us:List Value} (r:o0 xs us) (f:xs.all Y8=true) (j:Nat) (hj:j<us.length) (hx:j<xs.length):eqU y us[j]=eqV xs[j] y:=by
 obtain ⟨u,e1,e2⟩:=r.get (List.getElem?_eq_getElem hx)
 have e3:us[j]=u:=by rw [List.getElem?_eq_getElem hj] at e1;exact Option.some.inj e1
 rw [e3]
 exact aR0 e2 (List.all_eq_true.mp f _ (List.getElem_mem hx))
def aO3:V→List V→Hp→VK→Prop:=fun x vs H Q=>∃ l xs y j,x = .ref l∧vs=[y]∧H l=some (.lst xs)∧Y8 y=true∧xs.all Y8=true∧(xs.findIdx? fun z=>eqV z y)=some j∧Q (.int (j:Nat)) H
theorem be4:MtM X "list.index" aO3:=by
  intro pins s σ H x vs v us Q I rx rv h
  obtain ⟨l,xs,y,j,rfl,rfl,hH,fy,fx,hi,q⟩:=h
  cases rx
  obtain ⟨u,rfl,ru⟩:=rv.one
  obtain ⟨z,its,n,r,hl,e⟩:=I.lstM hH
  obtain ⟨hj,h1,h2⟩:=List.findIdx?_eq_some_iff_getElem.mp hi
  have hz:xs.length<2 ^ 63:=Nat.lt_of_le_of_lt z ae3
  refine call_meets F.slot_list_index ⟨_, e, rfl⟩ F.entry_list_index (F.args_list_index_2 _ _) (SeqAt.list_indexAt l its.toArray n none #[] u (eqU y) j (by simpa [← hl] using hj) (by have : (xs.length : Int) < 2 ^ 63 := by exact_mod_cast hz
                                                                                                                                                                                       lia) ?_ ?_) ⟨e, fun w hw => av2 ru fy r fx w (by simpa using hw), ?_⟩
  · rw [show its.toArray[j]'(by simpa [←hl] using hj)=its[j]'(by rw [←hl];exact hj) from rfl,aT8 r fx j _ hj];exact h1
  · intro m hm hlt
    have hm':m<its.length:=by simpa using hm
    rw [show its.toArray[m]'hm=its[m]'hm' from rfl,aT8 r fx m _ (by rw [hl];exact hm')]
    have:=h2 m hlt
    simpa using this
  · exact ⟨.int _,H,I.tok _,⟨_,rfl⟩,q⟩
theorem az6:∀ (t:Nat) (ps:List Str),o0 (ps.map V.str) (strsFrom t ps)
 | _,[]=>.nil
 | t,p :: ps=>.cons ⟨_,rfl⟩ (az6 (t+1) ps)
def af9 (x y:Str):List Str:=Builtin.Str.partsBetween x (Builtin.Str.occurrences x y 0 x.length (x.length+1)) y.length
def aO1:V→List V→Hp→VK→Prop:=fun v vs H Q=>∃ x y,v = .str x∧vs=[.str y]∧(decide (x.length<y.length) || decide (Builtin.Str.strKind x<Builtin.Str.strKind y))=false∧(y.length == 0)=false ∧
 (Builtin.Str.occurrences x y 0 x.length (x.length+1)).isEmpty=false∧x.length≤sizeLine∧(af9 x y).length≤sizeLine∧∀ l,H l=none→Q (.ref l) (upd H l (.lst ((af9 x y).map V.str)))
theorem be3:MtM X "str.split" aO1:=by
 intro pins s σ H x vs v us Q I rx rv h
 obtain ⟨x',y,rfl,rfl,h1,h2,h3,h4,h5,q⟩:=h
 obtain ⟨t,rfl⟩:=rx
 obtain ⟨u,rfl,t',rfl⟩:=rv.one
 refine call_meets F.slot_str_split rfl F.entry_str_split (F.args_str_split_2 _ _) (meets_str_split_sep x' y t t' h1 h2 h3 h4 h5) ?_
 exact ⟨.ref _,_,I.lnew (ys:=(af9 x' y).map V.str) (az6 _ _) (by rw [List.length_map];exact h5),rfl,q _ I.fresh⟩
end
open PySem PySem.Spec PyProof.Rows
structure Df (K:PySem.W.Frag) (mg:Str→Option Value) (x:Str) (st:Stmt) (ps:List Str) (f:Addr):Prop where
 ex:∃ fd,Fun K x x st f fd∧af0 K fd ps []
 m:mg x=some (.ref f)
structure Def (P:Program) (w:World) (K:PySem.W.Frag) (mg:Str→Option Value) (base:Heap) (CX:CXT) (k:Nat) (x:Str) (f:Addr) (ps:List Str) (sp:Sp):Prop where
 ex:∃ fd,ae9 P w K mg base CX k f fd ps sp∧af0 K fd ps []
 m:mg x=some (.ref f)
 kp:PySem.W.keepIn K (.ref f)=true
structure bm7 (P:Program) (w:World) (K:PySem.W.Frag) (mg:Str→Option Value) (base:Heap) (k:Nat) (x:Str) (f:Addr) (ps:List Str) (sp:Sp):Prop where
 ex:∃ fd,aU8 P w K mg base k f fd ps sp∧af0 K fd ps []
 m:mg x=some (.ref f)
 kp:PySem.W.keepIn K (.ref f)=true
section
variable {P:Program} {w:World} {K:PySem.W.Frag} {mg:Str→Option Value} {base:Heap} {k:Nat} {x:Str} {f:Addr} {ps N:List Str} {sp:Sp} {st:Stmt} {CX:CXT}
theorem Df.ok (d:Df K mg x st ps f) (S:i8 N ps (d3 st)) (len:∀ vs H Q E,sp vs H Q E→vs.length=ps.length)
  (hbody:∀ (cdv:Value) (A:Around) (outer:List Env) (s:Shared) (H:Hp) (vs:List V) (Q:VK) (E:XK),Z2 k (A.deeper (envOfC x (d3 st) s.heap.objs.size f cdv))→sp vs H Q E →
   ∃ t,PSs (ao9 CX0 P w K mg base N x (d3 st) f cdv A outer s H E).nox (i6 st) t∧t { nx:=fun _ H'=>Q .non H',rt:=Q } (start N vs) H):Def P w K mg base CX0 (k+1) x f ps sp:=by
 obtain ⟨fd,F,b⟩:=d.ex
 exact ⟨⟨fd,F.ok S len hbody,b⟩,d.m,F.kp⟩
theorem Df.okR (d:Df K mg x st ps f) (S:i8 N ps (d3 st)) (len:∀ vs H Q E,sp vs H Q E→vs.length=ps.length)
  (hbody:∀ (cdv:Value) (A:Around) (outer:List Env) (s:Shared) (H:Hp) (vs:List V) (Q:VK) (E:XK),Z2 k (A.deeper (envOfC x (d3 st) s.heap.objs.size f cdv))→sp vs H Q E →
   ∃ t,PSs (cxR P w K mg base N x (d3 st) f cdv A outer s H E) (i6 st) t∧t { nx:=fun _ H'=>Q .non H',rt:=Q } (start N vs) H):Def P w K mg base (CXR P w) (k+1) x f ps sp:=by
 obtain ⟨fd,F,b⟩:=d.ex
 have kp:=F.kp
 obtain ⟨oc,od,kV,doc,pm,an,cdv,ct,osl,rfl,lk,hcd⟩:=F.ex
 exact ⟨⟨_,bo6 lk hcd S len fun A outer s H vs Q E hr hsp=>hbody cdv A outer s H vs Q E hr hsp,b⟩,d.m,kp⟩
theorem Df.okX (d:Df K mg x st ps f) (S:i8 N ps (d3 st)) (len:∀ vs H Q E,sp vs H Q E→vs.length=ps.length)
  (hbody:∀ (cdv:Value) (A:Around) (outer:List Env) (s:Shared) (H:Hp) (vs:List V) (Q:VK) (E:XK),T5 k (A.deeper (envOfC x (d3 st) s.heap.objs.size f cdv))→sp vs H Q E →
   ∃ t,PSs (cxX P w K mg base N x (d3 st) f cdv A outer s H E) (i6 st) t∧t { nx:=fun _ H'=>Q .non H',rt:=Q } (start N vs) H):bm7 P w K mg base (k+1) x f ps sp:=by
 obtain ⟨fd,F,b⟩:=d.ex
 exact ⟨⟨fd,F.okX S len hbody,b⟩,d.m,F.kp⟩
theorem Def.imp {sp':Sp} (d:Def P w K mg base CX k x f ps sp) (h:∀ vs H Q E,sp' vs H Q E→sp vs H Q E):Def P w K mg base CX k x f ps sp':=
 let ⟨fd,F,b⟩:=d.ex
 ⟨⟨fd,F.imp h,b⟩,d.m,d.kp⟩
end
section
variable {X:Cx} {CX:CXT} {k j:Nat} {f:Addr} {ps:List Str} {sp:Sp} {E:XK} {x:Str} {p pos:Pos} {e:Expr} {es:List Expr} {t:TA}
def bi3 (sp:Sp) (E:XK) (t:TA):TE:=fun σ H Q=>t σ H fun vs H1=>sp vs H1 Q E
theorem d9 (d:Def X.prog X.w X.K X.mg X.base CX j x f ps sp) (hr:Z2 k X.A) (ha:PA X (e :: es) t) (hx:ax2 CX X E) (hj:j≤k:=by decide) (hg:Gl X x:=by rfl)
  (hdb:(x == ("__debug__" : Str))=false:=by decide) (he:starEach (e :: es) X.env=(false,eval e X.env) :: starEach es X.env:=by rfl) (hpl:(backTo pos (starEach es X.env)).any (·.1)=false:=by rfl) :
  PE X (.Call (.Name x p) (e :: es) [] pos) (bi3 sp E t):=by
 obtain ⟨fd,F,b⟩:=d.ex
 have z:=bj6 (E:=E) (es:=es) (e:=e) (p:=p) (pos:=pos) (F.mono hj) hr hg d.m d.kp b .nil hx ha hdb he hpl
 intro pins s σ H Q I h
 refine z pins s σ H Q I ?_
 unfold bn1
 simpa only [List.append_nil,bi3] using h
theorem bj5 (d:bm7 X.prog X.w X.K X.mg X.base j x f ps sp) (hr:T5 k X.A) (ha:PA X (e :: es) t) (hj:j≤k:=by decide) (hg:Gl X x:=by rfl)
  (hdb:(x == ("__debug__" : Str))=false:=by decide) (he:starEach (e :: es) X.env=(false,eval e X.env) :: starEach es X.env:=by rfl) (hpl:(backTo pos (starEach es X.env)).any (·.1)=false:=by rfl) :
  PE X (.Call (.Name x p) (e :: es) [] pos) (aE3 sp t):=by
 obtain ⟨fd,F,b⟩:=d.ex
 exact bd1 F (hr.mono hj) hg d.m d.kp b ha hdb he hpl
end
theorem d5.new {H:Hp} {p:Addr} (h:H p=none) (o:HO):d5 H (upd H p o):=fun b u q=>by rw [j0 (g9 q h)];exact q
theorem d5.tup {K:PySem.W.Frag} {H H':Hp} {a:Addr} {xs:List V} (e:d5 H H') (h:SqT K H a xs):SqT K H' a xs:=by
 rcases h with h | h
 ·rcases h with h | ⟨o,h⟩
  ·exact .inl (.inl (e _ _ h))
  ·exact .inl (.inr ⟨o,e _ _ h⟩)
 ·exact .inr h
open PySem PySem.Spec PyProof.Rows
section
variable {prog:Program} {w:World} {A:Around} {R:Result→Shared→Prop} {s:Shared}
theorem aC7 {elt target iter:Expr} {scope:Scope} {pos:Pos} {it acc:Value} {env:Env} (I:Nat→Shared→Prop)
  (turn:∀ n s,I n s→wpAny (model prog w) A (pyNext it) (fun r s₁=>match r with
   | none=>R (.ok .next) s₁
   | some v=>wpAny (model prog w) A (letOwnedTupleGo target it v) (fun _ s₁'=>wpAny (model prog w) A (assign target env v) (fun _ s₂=>wpAny (model prog w) A (eval elt env) (fun x s₃=>
     wpAny (model prog w) A (call (.builtin "list.append") [acc,x]) (fun _ s₄=>∃ m,m<n∧I m s₄) (fun _ _=>False) s₃)
     (fun _ _=>False) s₂) (fun _ _=>False) s₁') (fun _ _=>False) s₁) (fun _ _=>False) s)
  (n:Nat) (h:I n s) :
  codeAny (model prog w) A (.compLoop (.ListComp elt [⟨target,iter,[],0⟩] scope pos) 0 it acc env) R s:=by
 refine codeAny_loop rfl I (fun n s hI=>?_) n h
 show wpAny _ _ ((compTurn (.ListComp elt [⟨target,iter,[],0⟩] scope pos) 0 it acc env).onRaise (fun x=>do noteFrame x env;theTreesLotGoes x)) _ _ s
 refine wpAny_noted ?_
 rw [compTurn_list1]
 have no:∀ {P:Value→Shared→Prop} (e:Value) (s:Shared),False→P e s:=fun _ _ h=>h.elim
 refine wpAny_bind (wpAny_standAt (wpAny_bind (wpAny_mono (turn n s hI) (fun r s₁ h₁=>?_) no)))
 cases r with
 | none=>exact wpAny_pure h₁
 | some v=>
  refine wpAny_bind (wpAny_mono h₁ (fun _ s₁' h₁'=>?_) no)
  exact wpAny_bind (wpAny_mono h₁' (fun _ s₂ h₂=>wpAny_bind (wpAny_bind (wpAny_mono h₂ (fun x s₃ h₃=>wpAny_bind (wpAny_mono h₃
   (fun _ s₄ h₄=>wpAny_pure (wpAny_pure ⟨rfl,h₄⟩)) no)) no))) no)
end
abbrev Cx.block (X:Cx) (scope:Scope) (cl:List (Str × Addr)) (C:Addr) (Nc:List Str) (s₂:Shared) (H₂:Hp) (fp:List Addr) (pins:List (Addr × Obj)):Cx:=
 { X with N:=Nc,s₀:=s₂,H₀:=H₂,env:=compEnvC scope cl C X.env,outer:=X.stack,ex:=fp,fn:=fun _=>false,pn:=X.pn++pins,xe:=fun _ _=>False }
def Z9 (caps:List (Option Nat)) (σ:St):St:=caps.map fun o=>o.bind fun j=>(σ[j]?).join
def ba2 (wi:TI) (caps:List (Option Nat)) (g:TG) (te:TE):TE:=fun σ H Q=>wi σ H fun J H1=>∀ D,H1 D=none→∃ W:Nat→Nat→St→Hp→Prop,(∃ m,W 0 m (Z9 caps σ) (upd H1 D (.lst []))) ∧
 ∀ i m σc H2,W i m σc H2→(J.stop i H2∧Q (.ref D) H2) ∨
  (J.go i H2∧∀ x H3,J.yld i H2 x H3→g x σc H3 fun σ4 H4=>te σ4 H4 fun y H5=>∃ ys,H5 D=some (.lst ys)∧ys.length<sizeLine∧∃ m',m'<m∧W (i+1) m' σ4 (upd H5 D (.lst (ys++[y]))))
section
variable {X:Cx}
structure Z3 (X:Cx) (scope:Scope) (cl:List (Str × Addr)) (Nc:List Str) (caps:List (Option Nat)):Prop where
 clos:closureFor scope X.env=pure cl
 sub:∀ x c,cl.lookup x=some c→X.env.cells.lookup x=some c
 has:∀ x,(relabel scope X.env).names.lookup x=some .cell∨(relabel scope X.env).names.lookup x=some .free→∃ c,cl.lookup x=some c
 nocell:∀ x∈scope.names,x.2≠.cell
 kind:scope.kind = .function
 names:∀ x∈scope.names,x.2 = .local→scope.names.lookup x.1=some .local
 len:caps.length=Nc.length
 cap:∀ (i j:Nat) (x:Str),caps[i]? = some (some j)→Nc[i]? = some x→X.N[j]? = some x∧Vis X.env.scope x∧X.env.kindOf x≠some .local∧((relabel scope X.env).names.lookup x=some .cell∨(relabel scope X.env).names.lookup x=some .free)
theorem Inv.sameC {pins:List (Addr × Obj)} {σ:St} {H H':Hp} {s s':Shared} {h'':Heap} {fp:List Addr} {C:Addr} (I:Inv X pins σ H s) (hf:∀ b∈fp,ar9 X pins H b) (os:s'.os=s.os) (bare:AllBare s'.gens)
  (un:Un (frs X.stack) fp H H' s.heap s'.heap) (hok:HOk X.prog X.w H' s'.heap) (hC:s.heap.objs.size≤C) (hCn:H' C=none) (sb:Heap.SameBut C s'.heap h''):Inv X pins σ H' { s' with heap:=h'' }:=by
 have ne:∀ b o,s.heap.get? b=some o→b≠C:=fun b o e=>Nat.ne_of_lt (Nat.lt_of_lt_of_le (Heap.lt_size e) hC)
 refine I.call' (s':={ s' with heap:=h'' }) (ch:=fp) os ⟨fun b o e n h1 h2=>(sb.2 b (ne b o e)).trans (un.keep b o e n h1 h2),fun b o e n h1 h2=>?_,un.free,fun b o e h2=>?_,un.tups,un.frzs,un.tbls⟩ (fun b u e=>?_) bare (fun b hb=>?_)
 ·obtain ⟨sl,z⟩:=un.slot b o e n h1 h2
  exact ⟨sl,(sb.2 b (ne b o e)).trans z⟩
 ·obtain ⟨o',z⟩:=un.there b o e h2
  exact ⟨o',(sb.2 b (ne b o e)).trans z⟩
 ·refine (hok b u e).stay (fun c v hc q=>(sb.2 c ?_).trans q) (fun _ q=>q) fun _ _ q=>q
  rintro rfl
  rcases hc with rfl | hc
  ·rw [hCn] at e;cases e
  ·rw [hCn] at hc;cases hc
 ·obtain ⟨_,f1,_,f3,f4,f5⟩:=hf b hb
  exact ⟨f3,f1,f4,f5⟩
theorem R6 {elt tg iter:Expr} {scope:Scope} {pos:Pos} {cl:List (Str × Addr)} {Nc:List Str} {caps:List (Option Nat)} {wi:TI} {g:TG} {te:TE} (hc:X.calm=true) (cp:Z3 X scope cl Nc caps) (hi:PI X tg iter wi)
  (hg:∀ C s₂ H₂ fp pins,PG (X.block scope cl C Nc s₂ H₂ fp pins) tg g) (he:∀ C s₂ H₂ fp pins,PE (X.block scope cl C Nc s₂ H₂ fp pins) elt te) (hs:∀ x,foldedSetIterable iter X.env x=pure x:=by intro _;rfl) :
  PE X (.ListComp elt [⟨tg,iter,[],0⟩] scope pos) (ba2 wi caps g te):=by
 intro pins s σ H Q I h
 rw [eval_ListComp]
 refine wpAny_comprehension_free (use:=none) rfl hs cp.clos cp.kind cp.names ?_
 refine thn (hi pins s σ H _ I h) fun v s1 h1=>thn h1 fun itv s2 h2=>?_
 obtain ⟨it,fp,tn,J,H2,e,I2,T,st2,f2,hW⟩:=h2
 subst e
 refine wpAny_newObj_type ?_ (by show 0≤sizeLine;exact Nat.zero_le _)
 refine wpAny_newFunctionEnv cp.nocell (by intro y hy;simp at hy) (fun h4 hns hsb=>?_) cp.kind
 dsimp only at hns hsb ⊢
 generalize hH3:s2.heap.push { cls:=.type "list",dict:=none,data:=.seq ([]:List Value).toArray }=H3 at hns hsb ⊢
 have hCe:H3.objs.size=s2.heap.objs.size+1:=by rw [←hH3,Heap.size_push]
 have al8:∀ b o,s2.heap.get? b=some o→b≠H3.objs.size:=fun b o e=>by rw [hCe];exact Nat.ne_of_lt (Nat.lt_succ_of_lt (Heap.lt_size e))
 have old:∀ b o,s2.heap.get? b=some o→h4.get? b=some o:=fun b o e=>hsb.extBut b o (al8 b o e) (Heap.get?_push_of_some _ (hH3 ▸ Heap.get?_push_of_some _ e))
 have hD:h4.get? s2.heap.objs.size=some { cls:=.type "list",dict:=none,data:=.seq ([]:List Value).toArray }:=
  hsb.extBut _ _ (by rw [hCe];exact Nat.ne_of_lt (Nat.lt_succ_self _)) (Heap.get?_push_of_some _ (hH3 ▸ Heap.get?_push_size _ rfl))
 have hDn:H2 s2.heap.objs.size=none:=I2.fresh
 have hCn:H2 H3.objs.size=none:=I2.hok.fresh (by rw [hCe];exact Nat.le_succ _)
 have hCs:s2.heap.objs.size≤H3.objs.size:=by rw [hCe];exact Nat.le_succ _
 have hDC:s2.heap.objs.size≠H3.objs.size:=by rw [hCe];exact Nat.ne_of_lt (Nat.lt_succ_self _)
 have fpl:∀ b∈fp,∃ o,s2.heap.get? b=some o:=fun b hb=>let ⟨o,e,_⟩:=T.obj _ _ st2 b hb;⟨o,e⟩
 have fpC:∀ b∈fp,b≠H3.objs.size:=fun b hb=>let ⟨o,e⟩:=fpl b hb;al8 b o e
 have fpD:∀ b∈fp,b≠s2.heap.objs.size:=fun b hb=>let ⟨o,e⟩:=fpl b hb;Nat.ne_of_lt (Heap.lt_size e)
 have stkN:∀ b,b≠X.env.locals→b ∉ X.fs→b ∉ frs X.stack:=fun b h1 h2 z=>(List.mem_cons.mp (I2.stkSub b z)).elim h1 h2
 obtain ⟨W,⟨m0,w0⟩,turn⟩:=hW s2.heap.objs.size hDn
 have okB:(X.block scope cl H3.objs.size Nc s2 H2 fp pins).Ok:=by
  refine ⟨I2.ok.mod,?_,I2.ok.glob,I2.ok.blt,hCs,fun x y c h1 h2=>I2.ok.inj x y c (cp.sub x c h1) (cp.sub y c h2),fun x hx=>cp.has x hx,fun x c h=>(by cases h),I2.ok.hd,I2.ok.frames,.inl rfl,fun b hb=>⟨fpC b hb,fun x c h=>(f2 b hb).2.2.2.2.1 x c (cp.sub x c h)⟩,I2.bs,Nat.le_trans I2.ok.bsz I2.sz,fun b o e hb=>?_,fun b hb=>stkN b (f2 b hb).2.1 (f2 b hb).2.2.1,I2.stack,I2.stkFree⟩
  ·exact cp.kind
  ·rcases (f2 b hb).2.2.2.1 with z | z
   ·exact I2.ok.noex b o e z
   ·exact absurd (Nat.lt_of_lt_of_le (Heap.lt_size e) (Nat.le_trans I2.ok.bsz z)) (Nat.lt_irrefl _)
 have hokB:HOk X.prog X.w (upd H2 s2.heap.objs.size (.lst [])) h4:=I2.hok.laid old (Nat.le_refl _) ⟨Nat.zero_le _,[],_,.nil,hD⟩
 have IB:Inv (X.block scope cl H3.objs.size Nc s2 H2 fp pins) [] (Z9 caps σ) (upd H2 s2.heap.objs.size (.lst [])) { s2 with heap:=h4,toks:=s2.toks+([]:List (Str × Value)).length }:=by
  refine ⟨okB,rfl,I2.bare,Un.laid old (Nat.le_refl _) hDn,⟨_,hns,fun i x v e1 e2 e3=>?_⟩,fun x c e=>?_,(show upd H2 s2.heap.objs.size (.lst []) H3.objs.size=none by rw [j0 (Ne.symm hDC)];exact hCn),fun x c e=>?_,fun p hp=>?_,hokB,?_⟩
  ·unfold Z9 at e2
   rw [List.getElem?_map] at e2
   cases hcap:caps[i]? with
   | none=>rw [hcap] at e2;cases e2
   | some o=>
    rw [hcap] at e2
    cases o with
    | none=>cases e2
    | some j=>
     have hj:σ[j]? = some (some v):=by
      have e2':(σ[j]?).join=some v:=Option.some.inj e2
      cases q:σ[j]? with
      | none=>rw [q] at e2';cases e2'
      | some z=>rw [q] at e2';exact congrArg some e2'
     obtain ⟨n1,n2,n3,n4⟩:=cp.cap i j x hcap e1
     obtain ⟨m,hm,hl⟩:=I2.loc
     obtain ⟨u,r,q⟩:=hl j x v n1 hj n2
     rcases q with ⟨k,_⟩ | ⟨k,c,ec,z⟩
     ·exact absurd k n3
     ·obtain ⟨c',ec'⟩:=cp.has x n4
      have:=cp.sub x c' ec'
      rw [ec] at this;cases this
      obtain ⟨oc,ho,hd⟩:=z
      exact ⟨u,r,.inr ⟨n4,c,ec',oc,old _ _ ho,hd⟩⟩
  ·obtain ⟨v,oc,ho,hd⟩:=I2.cell x c (cp.sub x c e)
   exact ⟨v,oc,old _ _ ho,hd⟩
  ·obtain ⟨v,oc,ho,hd⟩:=I2.cell x c (cp.sub x c e)
   rw [j0 (Nat.ne_of_lt (Heap.lt_size ho))]
   exact I2.freeC x c (cp.sub x c e)
  ·have hp':p∈X.pn++pins:=by simpa using hp
   obtain ⟨e1,e2,e3,e4,e5⟩:=I2.pin p hp'
   exact ⟨old _ _ e1,by rw [j0 (Nat.ne_of_lt (Heap.lt_size e1))];exact e2,al8 _ _ e1,stkN _ e3 e4,e5⟩
  ·show (Z9 caps σ).length=Nc.length
   unfold Z9
   rw [List.length_map];exact cp.len
 have stat:∀ {H':Hp},(∀ b∈fp,H' b=none)→∀ b∈fp,ar9 (X.block scope cl H3.objs.size Nc s2 H2 fp pins) [] H' b:=fun hn b hb=>
  ⟨hn b hb,fpC b hb,stkN b (f2 b hb).2.1 (f2 b hb).2.2.1,.inl hb,fun x c h=>(f2 b hb).2.2.2.2.1 x c (cp.sub x c h),fun p hp=>(f2 b hb).2.2.2.2.2 p (by simpa using hp)⟩
 have loop:∀ s5:Shared,s5={ s2 with heap:=h4,toks:=s2.toks+([]:List (Str × Value)).length } →
   codeAny (model X.prog X.w) X.A (.compLoop (.ListComp elt [⟨tg,iter,[],0⟩] scope pos) 0 (.ref it) (.ref s2.heap.objs.size) (compEnvC scope cl H3.objs.size X.env))
    (compPost (model X.prog X.w) X.A X.xe none (EP X pins σ Q) (.ref s2.heap.objs.size) H3.objs.size) s5:=by
  rintro s5 rfl
  refine aC7 (fun n s'=>∃ i σ' H',Inv (X.block scope cl H3.objs.size Nc s2 H2 fp pins) [] σ' H' s'∧tn i s'.heap∧(∀ b∈fp,H' b=none)∧W i n σ' H') ?_ m0 ⟨0,_,_,IB,T.keep _ _ _ st2 fun b hb o e=>old b o e,fun b hb=>by rw [j0 (fpD b hb)];exact (f2 b hb).1,w0⟩
  rintro n s6 ⟨i,σ6,H6,I6,st6,fr6,w6⟩
  rcases turn i n σ6 H6 w6 with ⟨stop,qn⟩ | ⟨go,step⟩
  ·refine thn (T.done (X.block scope cl H3.objs.size Nc s2 H2 fp pins) rfl rfl rfl hc i [] s6 σ6 H6 _ I6 (stat fr6) st6 stop) fun r s7 ⟨hr,I7⟩=>?_
   subst hr
   obtain ⟨m7,hn7,_⟩:=id I7.loc
   exact ⟨m7,hn7,fun h' sb=>⟨.ref s2.heap.objs.size,H6,I2.sameC f2 I7.os I7.bare I7.base I7.hok hCs I7.free sb,rfl,qn⟩⟩
  ·refine thn (T.item (X.block scope cl H3.objs.size Nc s2 H2 fp pins) rfl rfl rfl hc i [] s6 σ6 H6 _ I6 (stat fr6) st6 go) fun r s7 ⟨u,hr,h7⟩=>?_
   subst hr
   refine thn h7 fun _ s8 ⟨x,H8,I8,r8,y8,st8,fr8⟩=>?_
   have I8':=I8.pinned (stat fr8) (T.obj _ _ st8)
   refine thn (hg _ _ _ _ _ _ s8 σ6 H8 x u _ I8' r8 (step x H8 y8)) fun _ s9 ⟨σ9,H9,I9,q9⟩=>?_
   refine thn (he _ _ _ _ _ _ s9 σ9 H9 _ I9 q9) fun u10 s10 ⟨v10,H10,I10,r10,ys,hys,hlen,m',hm',w'⟩=>?_
   refine thn (U0 _ s10 σ9 H10 (.ref s2.heap.objs.size) [v10] (.ref s2.heap.objs.size) [u10] (fun _ H11=>H11=upd H10 s2.heap.objs.size (.lst (ys++[v10]))) I10 rfl (.cons r10 .nil) ⟨_,ys,v10,rfl,rfl,hys,hlen,rfl⟩) fun _ s11 ⟨_,H11,I11,_,hH11⟩=>?_
   subst hH11
   refine ⟨m',hm',i+1,σ9,_,I11.unpinned,T.keep _ _ _ st8 fun b hb o e=>(I11.pin (b,o) (List.mem_append_right _ (List.mem_append_right _ (M7 hb e)))).1,fun b hb=>?_,w'⟩
   obtain ⟨o,e,d⟩:=T.obj _ _ st8 b hb
   exact (I11.pin (b,o) (List.mem_append_right _ (List.mem_append_right _ (M7 hb e)))).2.1
 exact codeAny_compStart_list (loop _ rfl) (T.self _ 0 _ _ _ (T.keep _ _ _ st2 fun b hb o e=>old b o e) (loop _ rfl))
end
open PySem PySem.Spec PyProof.Rows
def aj6 (scope osc:Scope):List (Str × NameKind):=scope.names.map fun (n,k)=>if (k == .free && osc.kind == .function && osc.names.lookup n == some .cell) then (n,.cell) else (n,k)
def bk9 (o:Option NameKind):Bool:=o == some .cell || o == some .free
def bh2 (scope osc:Scope) (N ks Nc:List Str) (caps:List (Option Nat)):Bool:=
 ((aj6 scope osc).all fun y=>!(y.2 == .cell || y.2 == .free) || ks.contains y.1) && (scope.names.all fun y=>y.2 != .cell) && scope.kind == .function &&
 (scope.names.all fun y=>y.2 != .local || scope.names.lookup y.1 == some .local) && caps.length == Nc.length &&
 ((caps.zip Nc).all fun p=>match p.1 with
  | none=>true
  | some j=>N[j]? == some p.2 && bk9 (osc.names.lookup p.2) && bk9 ((aj6 scope osc).lookup p.2))
theorem av3 {α β:Type} [BEq α] [LawfulBEq α]:∀ {l:List (α × β)} {x : α} {v : β},l.lookup x=some v→(x,v)∈l
 | [],_,_,h=>by simp at h
 | (a,b) :: r,x,v,h=>by
  rw [List.lookup_cons] at h
  split at h
  ·rename_i e
   have:=eq_of_beq e
   subst this
   cases h
   exact List.mem_cons_self
  ·exact List.mem_cons_of_mem _ (av3 h)
theorem ah0 {β:Type}:∀ {l:List (Str × β)} {x:Str},x∈l.map (·.1)→∃ c,l.lookup x=some c
 | [],_,h=>by simp at h
 | (a,b) :: r,x,h=>by
  rw [List.lookup_cons]
  by_cases e:x=a
  ·subst e;exact ⟨b,by simp⟩
  ·have:(x == a)=false:=by simpa using e
   rw [this]
   rcases List.mem_cons.mp h with z | z
   ·exact absurd z e
   ·exact ah0 z
theorem aT3 {o:Option NameKind} (h:bk9 o=true):o=some .cell∨o=some .free:=by
 unfold bk9 at h
 simp only [Bool.or_eq_true,beq_iff_eq] at h
 exact h
theorem Z3.of {X:Cx} {scope osc:Scope} {cl:List (Str × Addr)} {N ks Nc:List Str} {caps:List (Option Nat)} (clos:closureFor scope X.env=pure cl) (hN:X.N=N) (hosc:X.env.scope=osc) (hks:cl.map (·.1)=ks)
  (sub:∀ x c,cl.lookup x=some c→X.env.cells.lookup x=some c) (ok:bh2 scope osc N ks Nc caps=true):Z3 X scope cl Nc caps:=by
 unfold bh2 at ok
 simp only [Bool.and_eq_true,List.all_eq_true,beq_iff_eq,Bool.or_eq_true,Bool.not_eq_true',bne_iff_ne,ne_eq] at ok
 obtain ⟨⟨⟨⟨⟨o1,o2⟩,o3⟩,o4⟩,o5⟩,o6⟩:=ok
 have er:(relabel scope X.env).names=aj6 scope osc:=by subst hosc;rfl
 have kof:∀ x,X.env.kindOf x=osc.names.lookup x:=fun x=>by subst hosc;rfl
 refine ⟨clos,sub,fun x h=>?_,fun x hx=>o2 x hx,o3,fun x hx hl=>?_,o5,fun i j x h1 h2=>?_⟩
 ·rw [er] at h
  refine ah0 ?_
  rw [hks]
  have key:∀ k,(aj6 scope osc).lookup x=some k→(k = .cell∨k = .free)→x∈ks:=fun k hk hcf=>by
   rcases o1 (x,k) (av3 hk) with z | z
   ·rcases hcf with rfl | rfl <;> simp at z
   ·simpa using z
  rcases h with h | h
  ·exact key _ h (.inl rfl)
  ·exact key _ h (.inr rfl)
 ·rcases o4 x hx with z | z
  ·exact absurd hl z
  ·exact z
 ·have hm:(some j,x)∈caps.zip Nc:=by
   have:(caps.zip Nc)[i]? = some (some j,x):=by
    rw [List.getElem?_zip_eq_some];exact ⟨h1,h2⟩
   exact List.mem_of_getElem? this
  have z:=o6 _ hm
  simp only [Bool.and_eq_true,beq_iff_eq] at z
  obtain ⟨⟨z1,z2⟩,z3⟩:=z
  have c2:=aT3 z2
  have c3:=aT3 z3
  refine ⟨by rw [hN];exact z1,?_,?_,?_⟩
  ·rw [hosc]
   rcases c2 with c | c
   ·exact .inr (.inl c)
   ·exact .inr (.inr c)
  ·rw [kof]
   rcases c2 with c | c <;> rw [c] <;> decide
  ·rw [er];exact c3
open PySem PySem.Spec PyProof.Rows
section
variable {X:Cx} {pins:List (Addr × Obj)} {σ:St} {H:Hp} {s:Shared}
theorem Inv.turnLaid {h':Heap} {t':Nat} {fp:List Addr} {a:Addr} {o:HO} (I:Inv X pins σ H s) (hf:∀ b∈fp,ar9 X pins H b)
  (k:∀ b u,b ∉ fp→s.heap.get? b=some u→h'.get? b=some u) (hp:s.heap.objs.size≤a) (new:G7 X.prog X.w (upd H a o) h' a o):Inv X pins σ (upd H a o) { s with heap:=h',toks:=t' }:=by
 have hn:H a=none:=I.hok.fresh hp
 have nf:∀ b u,H b=some u→b ∉ fp:=fun b u e z=>by rw [(hf b z).1] at e;cases e
 have ne:∀ b u,s.heap.get? b=some u→b≠a:=fun b u e=>Nat.ne_of_lt (Nat.lt_of_lt_of_le (Heap.lt_size e) hp)
 refine I.step (g':=s.gens) (d':=s.drawn) (ch:=fp) (fun b hb=>?_) (fun b o _ _ hc e _=>k b o hc e) (fun b o _ _ hc e _=>⟨o.slots,k b o hc e⟩) (fun b o _ e n=>by rw [j0 (ne b o e)];exact n)
  (fun b o hc e=>⟨o,k b o hc e⟩) (fun b xs e=>by rw [j0 (g9 e hn)];exact e) (fun b o u e=>by rw [j0 (g9 e hn)];exact e) (fun b ps e=>⟨#[],by rw [j0 (g9 e hn),e];simp⟩) (fun m hm=>?_) (fun b u e=>?_) I.bare
 ·obtain ⟨_,f1,_,f3,f4,f5⟩:=hf b hb
  exact ⟨f3,f1,f4,f5⟩
 ·obtain ⟨o,es,ep,ho,r⟩:=hm
  exact ⟨o,es,ep,k _ o (fun z=>(hf _ z).2.1 rfl) ho,r⟩
 ·by_cases hb:b=a
  ·subst hb;rw [b8] at e;cases e;exact new
  ·rw [j0 hb] at e
   refine (I.hok b u e).stay (fun c v hc q=>k c v ?_ q) (fun c q=>by rw [j0 (g9 q hn)];exact q) fun c xs q=>by rw [j0 (g9 q hn)];exact q
   rcases hc with z | z
   ·rw [z];exact nf b u e
   ·exact nf c _ z
end
def Ite (K:PySem.W.Frag) (a:Addr):It:=
 ⟨fun i H=>∃ xs x,SqL K H a xs∧xs[i]? = some x,fun i H y H'=>∀ xs,SqL K H a xs→∃ x p,xs[i]? = some x∧H p=none∧y = .ref p∧H'=upd H p (.tup [.int i,x]),fun i H=>∃ xs,SqL K H a xs∧xs.length≤i⟩
theorem aV0 {P:Program} {w:World} {K:PySem.W.Frag} {elts:List Expr} {k:Nat} {tpos:Pos} (a e it:Addr) (hei:e≠it) :
  aY7 P w K (.Tuple elts k tpos) (Ite K a) [e,it] e (fun i h=>(∃ old,IsEnum h e it ((i:Nat):Int) old)∧h.IsListIter it a i) where
 mem:=by simp
 obj:=fun i h st b hb=>by
  obtain ⟨⟨old,he⟩,hit⟩:=st
  rcases (by simpa using hb:b=e∨b=it) with z | z
  ·subst z
   exact ⟨_,he,fun v z=>by cases z⟩
  ·subst z
   obtain ⟨o,e,c,d⟩:=hit
   exact ⟨o,e,fun v z=>by rw [d] at z;cases z⟩
 keep:=fun i h h' st k=>⟨let ⟨old,he⟩:=st.1;⟨old,k e (by simp) _ he⟩,st.2.at fun o e=>k it (by simp) o e⟩
 item:=by
  intro X hP hw hK hc i pins s σ H E I hf st hg
  subst hP hw hK
  obtain ⟨xs,x,hq,hx⟩:=hg
  obtain ⟨its,rv,p,hz⟩:=I.list hq
  obtain ⟨u,hu,ru⟩:=rv.get hx
  obtain ⟨⟨old,he⟩,hit⟩:=st
  have helt:e<s.heap.objs.size:=Heap.lt_size he
  have hilt:it<s.heap.objs.size:=by obtain ⟨_,x,_⟩:=id hit;exact Heap.lt_size x
  refine wpAny_pyNext_enum_item he hit p.isList (x:=u) (by simpa using hu) hei fun h' ho hit' hT hsz kk=>?_
  refine ⟨_,rfl,?_⟩
  refine wpAny_letOwnedTupleGo_enum (s:={ s with heap:=h',toks:=s.toks+1 }) ho fun h'' he' sb=>?_
  have hT':h''.get? s.heap.objs.size=some { cls:=.type "tuple",data:=.seq #[.int i s.toks,u] }:=(sb.2 _ (Nat.ne_of_gt helt)).trans hT
  refine ⟨.ref s.heap.objs.size,upd H s.heap.objs.size (.tup [.int i,x]),I.turnLaid (fp:=[e,it]) (t':=s.toks+1) hf (fun b v hb q=>?_) (Nat.le_refl _) ?_,rfl,?_,?_,fun b hb=>?_⟩
  ·have h1:b≠e:=fun z=>hb (by simp [z])
   have h2:b≠it:=fun z=>hb (by simp [z])
   exact (sb.2 b h1).trans (kk b v h1 h2 q)
  ·exact ⟨(show 2≤sizeLine by decide +kernel),[.int i s.toks,u],.cons ⟨_,rfl⟩ (.cons ru .nil),_,hT',rfl,_,rfl⟩
  ·intro ys hy
   rw [I.list_inj hy hq]
   exact ⟨x,_,hx,I.fresh,rfl,rfl⟩
  ·refine ⟨⟨u,by have:=he';simpa using this⟩,hit'.at fun o q=>(sb.2 it hei.symm).trans q⟩
  ·have hlt:b<s.heap.objs.size:=by
    rcases (by simpa using hb:b=e∨b=it) with z | z
    ·rw [z];exact helt
    ·rw [z];exact hilt
   rw [j0 (Nat.ne_of_lt hlt)]
   exact (hf b hb).1
 done:=by
  intro X hP hw hK hc i pins s σ H E I hf st hg
  subst hP hw hK
  obtain ⟨xs,hq,hx⟩:=hg
  obtain ⟨its,rv,p,hz⟩:=I.list hq
  obtain ⟨⟨old,he⟩,hit⟩:=st
  obtain ⟨f0,f1,f2,f3,f4,f5⟩:=hf it (by simp)
  have hl:=rv.length
  exact wpAny_pyNext_enum_end (I.ok.hd hc) he hit p.isList (by simp;omega) fun h' eb=>⟨rfl,I.turned (t':=s.toks) (fun b o hb e=>eb b o hb e) f0 f1 f3 f4 f5⟩
 self:=fun _ _ _ _ _ st h=>by
  obtain ⟨⟨old,he⟩,_⟩:=st
  exact wpAny_pyIter_enum he h
section
variable {X:Cx}
def bf5 (K:PySem.W.Frag) (ta:TA):TI:=fun σ H R=>ta σ H fun vs H1=>∃ a,vs=[.ref a]∧(∃ xs,SqL K H1 a xs)∧R (Ite K a) H1
theorem Z8 {elts:List Expr} {k:Nat} {tpos:Pos} {l:Expr} {ta:TA} {p pos:Pos} (hg:Gl X "enumerate") (hm:X.mg "enumerate" = none) (ha:PA X [l] ta) (hs:starEach [l] X.env=[(false,eval l X.env)]:=by rfl) :
  PI X (.Tuple elts k tpos) (.Call (.Name "enumerate" p) [l] [] pos) (bf5 X.K ta):=by
 intro pins s σ H R I h
 refine Call_ (ae4 I hg hm (u:=.type "enumerate") (by decide +kernel) (PyProof.Rows.callWith_type1 (thn (ha pos pins s σ H _ I h) fun us s1 ⟨vs,H1,I1,r1,q1⟩=>?_) hs rfl))
 obtain ⟨a,e,⟨xs,hq⟩,q⟩:=q1
 subst e
 obtain ⟨u,rfl,rx⟩:=aa5 r1
 cases rx
 obtain ⟨its,rv,p,hz⟩:=I1.list hq
 refine call_enumerate_list p.isList fun h' he hit hsz kk=>?_
 refine wpAny_pyIter_enum he ?_
 have I2:Inv X pins σ H1 { s1 with heap:=h' }:=I1.kept (t':=s1.toks) kk
 refine ⟨s1.heap.objs.size+1,[s1.heap.objs.size+1,s1.heap.objs.size],_,_,H1,rfl,I2,aV0 a _ _ (Nat.succ_ne_self _),⟨⟨_,he⟩,hit⟩,fun b hb=>?_,q⟩
 have hb':s1.heap.objs.size≤b:=by
  rcases (by simpa using hb:b=s1.heap.objs.size+1∨b=s1.heap.objs.size) with z | z
  ·rw [z];exact Nat.le_succ _
  ·rw [z];exact Nat.le_refl _
 obtain ⟨f0,f1,f2,f3,f4,f5⟩:=I1.fpOk (H':=H1) hb' (I1.hok.fresh hb')
 exact ⟨f0,f1,f2,f3,f4,f5⟩
end
def bi4 (wi:TI) (caps:List (Option Nat)) (g:TG) (tt:TT) (te:TE):TE:=fun σ H Q=>wi σ H fun J H1=>∀ D,H1 D=none→∃ W:Nat→Nat→St→Hp→Prop,(∃ m,W 0 m (Z9 caps σ) (upd H1 D (.lst []))) ∧
 ∀ i m σc H2,W i m σc H2→(J.stop i H2∧Q (.ref D) H2) ∨
  (J.go i H2∧∀ x H3,J.yld i H2 x H3→g x σc H3 fun σ4 H4=>tt σ4 H4 fun b H4'=>if b=true then te σ4 H4' fun y H5=>∃ ys,H5 D=some (.lst ys)∧ys.length<sizeLine∧∃ m',m'<m∧W (i+1) m' σ4 (upd H5 D (.lst (ys++[y])))
   else ∃ m',m'<m∧W (i+1) m' σ4 H4')
open PySem PySem.Spec PyProof.Rows
section
variable {X:Cx}
theorem az4 (bs:List Bool):(List.range bs.length).all (fun i=>(bs[i]?).getD true)=bs.all id:=by
 induction bs with
 | nil=>rfl
 | cons b bs ih=>
  rw [List.length_cons,ae7,List.all_cons,←ih]
  rfl
theorem aN2 (hc:X.calm=true):aa1 X (.builtin "all") (fun xs H Q=>∃ (p:Addr) (bs:List Bool),xs=[.ref p]∧SqL X.K H p (bs.map V.bl)∧Q (.bl (bs.all id)) H):=by
 intro pins s σ H xs us Q I r h
 obtain ⟨p,bs,rfl,hq,q⟩:=h
 obtain ⟨u,rfl,rx⟩:=aa5 r
 cases rx
 obtain ⟨its,r',pl,hz⟩:=I.list hq
 have hlen:its.length=bs.length:=by rw [←r'.length,List.length_map]
 have hp:p≠s.heap.objs.size:=by
  obtain ⟨o,ho,_⟩:=pl.isList
  exact Nat.ne_of_lt (Heap.lt_size ho)
 refine call_all_walk (wpAny_pyIter_list pl.isList ?_)
 refine ⟨s.heap.objs.size,_,_,_,_,_,fun i=>(bs[i]?).getD true,rfl,Walks.list (A:=X.A.in1) (I.ok.hd hc) _ p hp its.toArray,⟨⟨_,Heap.get?_push_size _ rfl,rfl,rfl⟩,pl.isList.at fun o e=>Heap.get?_push_of_some _ e⟩,?_,?_⟩
 ·intro i v s' Q' E' hv hQ
  have hv':its[i]? = some v:=by simpa using hv
  have hi:i<bs.length:=by rw [←hlen];exact (List.getElem?_eq_some_iff.mp hv').1
  obtain ⟨u,hu,ru⟩:=r'.get (i:=i) (x:=.bl bs[i]) (by rw [List.getElem?_map,List.getElem?_eq_getElem hi];rfl)
  rw [hv'] at hu
  cases hu
  cases ru
  simp only [List.getElem?_eq_getElem hi] at hQ
  exact wpAny_truthy_bool hQ
 ·intro h' tk kk
  have e:(List.range its.toArray.size).all (fun i=>(bs[i]?).getD true)=bs.all id:=by rw [List.size_toArray,hlen,az4]
  rw [e]
  refine ⟨.bl _,H,I.kept (t':=tk) fun b o e=>kk b o ?_ (Heap.get?_push_of_some _ e),rfl,q⟩
  intro z
  have:b=s.heap.objs.size:=by simpa using z
  exact absurd (Heap.lt_size e) (by rw [this];exact Nat.lt_irrefl _)
def bq5 (K:PySem.W.Frag):R2:=fun x y H Q=>∃ d d',d.isV=false∧IsD K H x d∧IsD K H y d'∧okD d d'=true∧dpD d≤60∧Q (.bl (!eqD d d')) H
theorem aa2 (hu:X.A.units+64<cLine):OpR X (compareOp .NotEq) (bq5 X.K):=by
 intro pins s σ H x y v u Q I rx ry h
 obtain ⟨d,d',nf,h1,h2,ok,dp,q⟩:=h
 have fin:EP X pins σ Q (.bool (!eqD d d')) s:=⟨.bl _,H,I,rfl,q⟩
 cases h1 with
 | v f=>
  cases h2 with
  | v f'=>exact absurd (show true=false from nf) (by decide)
  | tup _ _=>simp [okD] at ok
  | lst _ _=>simp [okD] at ok
 | @tup p xs ds h t=>
  cases h2 with
  | v f'=>simp [okD] at ok
  | @tup p' ys ds' h' t'=>
   cases (show v=Value.ref p from rx)
   cases (show u=Value.ref p' from ry)
   rw [okD] at ok
   rw [dpD] at dp
   rw [eqD] at fin
   obtain ⟨its,r1,i1,_⟩:=I.tuple h
   obtain ⟨its',r2,i2,_⟩:=I.tuple h'
   have q':∀ (j:Nat) (h1:j<its.length) (h2:j<its'.length),SeqAt.EqAt X.A.in1 s its[j] its'[j] (ae5 ds ds' j):=fun j h1 h2=>ac6 (A:=X.A.in1) I t t' ok r1 r2 (by show X.A.units+1+_<_;lia) j h1 h2
   have z:=SeqAt.RcNeAt.tuples (A:=X.A) (items:=its.toArray) (items2:=its'.toArray) (e:=ae5 ds ds') i1 i2 (by omega) (fun j h1 h2=>q' j (by simpa using h1) (by simpa using h2))
   have e1:its.toArray.size=ds.length:=by rw [List.size_toArray,←r1.length,t.length]
   have e2:its'.toArray.size=ds'.length:=by rw [List.size_toArray,←r2.length,t'.length]
   rw [e1,e2,ag2] at z
   exact PySem.EqBoolInt.of_rcne z fin
  | lst _ _=>simp [okD] at ok
 | @lst p xs ds h t=>
  cases h2 with
  | v f'=>simp [okD] at ok
  | tup _ _=>simp [okD] at ok
  | @lst p' ys ds' h' t'=>
   cases (show v=Value.ref p from rx)
   cases (show u=Value.ref p' from ry)
   rw [okD] at ok
   rw [dpD] at dp
   rw [eqD] at fin
   obtain ⟨its,r1,i1,_⟩:=I.list h
   obtain ⟨its',r2,i2,_⟩:=I.list h'
   have q':∀ (j:Nat) (h1:j<its.length) (h2:j<its'.length),SeqAt.EqAt X.A.in1 s its[j] its'[j] (ae5 ds ds' j):=fun j h1 h2=>ac6 (A:=X.A.in1) I t t' ok r1 r2 (by show X.A.units+1+_<_;omega) j h1 h2
   have e1:its.toArray.size=ds.length:=by rw [List.size_toArray,←r1.length,t.length]
   have e2:its'.toArray.size=ds'.length:=by rw [List.size_toArray,←r2.length,t'.length]
   by_cases hl:ds.length=ds'.length
   ·have z:=SeqAt.RcNeAt.lists (A:=X.A) (items:=its.toArray) (items2:=its'.toArray) (e:=ae5 ds ds') i1.isList i2.isList (by rw [e1,e2,hl]) (by lia) (fun j h1 h2=>q' j (by simpa using h1) (by simpa using h2))
    rw [e1,ah1 ds ds' hl] at z
    exact PySem.EqBoolInt.of_rcne z fin
   ·rw [av8 ds ds' hl] at fin
    exact PySem.EqBoolInt.of_rcne (SeqAt.RcNeAt.lists_lengths (A:=X.A) i1.isList i2.isList (by rw [e1,e2];simpa using hl) (by omega)) fin
def au2 (xs:List V) (lo hi st:Option Int):List V:=
 (sliceRange (sliceBounds lo hi st xs.length).1 (sliceBounds lo hi st xs.length).2.1 (sliceBounds lo hi st xs.length).2.2).filterMap (xs[·]?)
theorem o0.picks {xs:List V} {us:List Value} (r:o0 xs us):∀ ks:List Nat,o0 (ks.filterMap (xs[·]?)) (ks.filterMap (us[·]?))
 | []=>.nil
 | k :: ks=>by
  rw [List.filterMap_cons,List.filterMap_cons]
  cases h:xs[k]? with
  | none=>rw [r.none_of h];exact r.picks ks
  | some x=>
   obtain ⟨u,hu,ru⟩:=r.get h
   rw [hu]
   exact .cons ru (r.picks ks)
def bp4 (K:PySem.W.Frag) (te:TE) (tl th tk:TO):TE:=fun σ H Q=>te σ H fun x H1=>tl σ H1 fun l H2=>th σ H2 fun u H3=>tk σ H3 fun k H4=>
 ∃ a xs,x = .ref a∧SqL K H4 a xs∧k≠some 0∧∀ p,H4 p=none→Q (.ref p) (upd H4 p (.lst (au2 xs l u k)))
theorem aB3 {e:Expr} {te:TE} {lo hi:Option Expr} {st:Expr} {tl th tk:TO} {pos p2:Pos} (he:PE X e te) (hl:PO X lo tl) (hu:PO X hi th) (hk:PO X (some st) tk):PE X (.Subscript e (.Slice lo hi (some st) p2) pos) (bp4 X.K te tl th tk):=by
 intro pins s σ H Q I h
 refine Subscript_ (thn (he pins s σ H _ I h) fun v s1 ⟨x,H1,I1,r1,q1⟩=>?_)
 refine wpAny_Slice (thn (hl pins s1 σ H1 _ I1 q1) fun vl s2 ⟨l,H2,I2,pl,q2⟩=>thn (hu pins s2 σ H2 _ I2 q2) fun vu s3 ⟨u,H3,I3,pu,q3⟩=>thn (hk pins s3 σ H3 _ I3 q3) fun vk s4 ⟨k,H4,I4,pk,q4⟩=>?_)
 obtain ⟨a,xs,rfl,hq,h0,q⟩:=q4
 cases r1
 have I5:Inv X pins σ H4 { s4 with heap:=s4.heap.push { cls:=.type "slice",data:=.fields #[vl,vu,vk] } }:=I4.kept (t':=s4.toks) fun b ob q=>Heap.get?_push_of_some _ q
 obtain ⟨its,r,ht,hz⟩:=I5.list hq
 have hlen:=r.length
 show wpAny (model X.prog X.w) X.A (subscriptTail e (.Slice lo hi (some st) p2) (.ref a) (.ref s4.heap.objs.size)) (EP X pins σ Q) X.xe { s4 with heap:=s4.heap.push { cls:=.type "slice",data:=.fields #[vl,vu,vk] } }
 refine tail_any (ops:=[.ref a,.ref s4.heap.objs.size]) (s:={ s4 with heap:=s4.heap.push { cls:=.type "slice",data:=.fields #[vl,vu,vk] } }) (T:="list") ht.isList.typeIs slot_list_getitem.lookup ?_ (by with_unfolding_all rfl)
 refine wpAny_getItem_list_slice ht.isList (Heap.IsSliceOf.new ..) pl pu pk h0 ?_ (by rw [List.size_toArray] <;> omega)
 have ep:(slicePick its.toArray l u k)=((sliceRange (sliceBounds l u k xs.length).1 (sliceBounds l u k xs.length).2.1 (sliceBounds l u k xs.length).2.2).filterMap (its[·]?)).toArray:=by
  unfold slicePick
  rw [List.size_toArray,←hlen]
  simp
 rw [ep]
 have hv:o0 (au2 xs l u k) ((sliceRange (sliceBounds l u k xs.length).1 (sliceBounds l u k xs.length).2.1 (sliceBounds l u k xs.length).2.2).filterMap (its[·]?)):=o0.picks r _
 have hsz:=slicePick_size_le its.toArray l u k
 rw [ep,List.size_toArray,List.size_toArray,←hv.length] at hsz
 refine ⟨.ref _,_,I5.laid (t':=s4.toks) (o:=.lst (au2 xs l u k)) (fun b ob q=>Heap.get?_push_of_some _ q) (Nat.le_refl _) ?_,rfl,q _ (I5.hok.fresh (Nat.le_refl _))⟩
 exact ⟨by lia,_,0,hv,Heap.get?_push_size _ rfl⟩
end
def G8 (D:Addr) (n:Nat) (Pv:Nat→St→Hp→Prop) (i:Nat) (σ4:St) (y:V) (H5:Hp):Prop:=
 ∃ ys,H5 D=some (.lst ys)∧ys.length<sizeLine∧∃ m',m'<n - i∧(m'=n - (i+1)∧i+1≤n∧Pv (i+1) σ4 (upd H5 D (.lst (ys++[y]))))
theorem G8.mk {D:Addr} {n:Nat} {Pv:Nat→St→Hp→Prop} {i:Nat} {σ4:St} {y:V} {H5:Hp} {ys:List V} (hi:i<n) (h:H5 D=some (.lst ys)) (hl:ys.length<sizeLine) (p:Pv (i+1) σ4 (upd H5 D (.lst (ys++[y])))):G8 D n Pv i σ4 y H5:=
 ⟨ys,h,hl,_,by lia,rfl,hi,p⟩
section
variable {K:PySem.W.Frag} {a D:Addr} {xs:List V} {g:TG} {te:TE} {σ0:St} {H0:Hp} {Q:VK}
theorem aX7 (Pv:Nat→St→Hp→Prop) (h0:Pv 0 σ0 H0) (hl:∀ i σ H,i≤xs.length→Pv i σ H→SqL K H a xs)
  (hs:∀ i x σ H,xs[i]? = some x→Pv i σ H→g x σ H fun σ4 H4=>te σ4 H4 fun y H5=>G8 D xs.length Pv i σ4 y H5) (hd:∀ σ H,Pv xs.length σ H→Q (.ref D) H) :
  ∃ W:Nat→Nat→St→Hp→Prop,(∃ m,W 0 m σ0 H0)∧∀ i m σc H2,W i m σc H2→((Itl K a).stop i H2∧Q (.ref D) H2) ∨
   ((Itl K a).go i H2∧∀ x H3,(Itl K a).yld i H2 x H3→g x σc H3 fun σ4 H4=>te σ4 H4 fun y H5=>∃ ys,H5 D=some (.lst ys)∧ys.length<sizeLine∧∃ m',m'<m∧W (i+1) m' σ4 (upd H5 D (.lst (ys++[y])))):=by
 refine ⟨fun i m σ H=>m=xs.length - i∧i≤xs.length∧Pv i σ H,⟨xs.length,by simp,Nat.zero_le _,h0⟩,?_⟩
 rintro i m σ H ⟨rfl,hi,p⟩
 have q:=hl i σ H hi p
 by_cases hlt:i<xs.length
 ·refine .inr ⟨⟨xs,xs[i],q,List.getElem?_eq_getElem hlt⟩,?_⟩
  rintro x H3 ⟨rfl,hx⟩
  exact hs i x σ _ (hx xs q) p
 ·have e:i=xs.length:=by omega
  subst e
  exact .inl ⟨⟨xs,q,Nat.le_refl _⟩,hd σ H p⟩
theorem aR4 {lo:Int} {n:Nat} (Pv:Nat→St→Hp→Prop) (h0:Pv 0 σ0 H0)
  (hs:∀ i σ H,i<n→Pv i σ H→g (.int (lo+i)) σ H fun σ4 H4=>te σ4 H4 fun y H5=>G8 D n Pv i σ4 y H5) (hd:∀ σ H,Pv n σ H→Q (.ref D) H) :
  ∃ W:Nat→Nat→St→Hp→Prop,(∃ m,W 0 m σ0 H0)∧∀ i m σc H2,W i m σc H2→((Itr lo n).stop i H2∧Q (.ref D) H2) ∨
   ((Itr lo n).go i H2∧∀ x H3,(Itr lo n).yld i H2 x H3→g x σc H3 fun σ4 H4=>te σ4 H4 fun y H5=>∃ ys,H5 D=some (.lst ys)∧ys.length<sizeLine∧∃ m',m'<m∧W (i+1) m' σ4 (upd H5 D (.lst (ys++[y])))):=by
 refine ⟨fun i m σ H=>m=n - i∧i≤n∧Pv i σ H,⟨n,by simp,Nat.zero_le _,h0⟩,?_⟩
 rintro i m σ H ⟨rfl,hi,p⟩
 by_cases hlt:i<n
 ·refine .inr ⟨hlt,?_⟩
  rintro x H3 ⟨rfl,rfl⟩
  exact hs i σ _ hlt p
 ·have e:i=n:=by omega
  subst e
  exact .inl ⟨Nat.le_refl _,hd σ H p⟩
end
end L2
namespace R
theorem ac2 {n d:Int} (hd:0<d) (hc:Int.gcd n d=1):(Rat.divInt n d).num=n∧((Rat.divInt n d).den:Int)=d:=by
 obtain ⟨k,rfl⟩:∃ k:Nat,d=k:=⟨d.toNat,by lia⟩
 have hk:k≠0:=by omega
 have hc':n.natAbs.Coprime k:=by
  rw [Int.gcd_eq_natAbs_gcd_natAbs] at hc
  simpa [Nat.Coprime] using hc
 have e:(⟨n,k,hk,hc'⟩:Rat)=Rat.divInt n k:=Rat.mk_eq_divInt
 rw [←e]
 exact ⟨rfl,rfl⟩
theorem N1 {n d t b:Int} (hd:0<d) (hc:Int.gcd n d=1) (hb:b≠0) (h:n * b=t * d):n=(Rat.divInt t b).num∧d=((Rat.divInt t b).den:Int):=by
 have e:Rat.divInt n d=Rat.divInt t b:=(Rat.divInt_eq_divInt_iff (by omega) hb).mpr h
 obtain ⟨h1,h2⟩:=ac2 hd hc
 rw [e] at h1 h2
 exact ⟨h1.symm,h2.symm⟩
theorem j2 {g n:Int} (hg:g≠0):(g * n).fdiv g=n:=by
 rw [Int.mul_comm];exact Int.mul_fdiv_cancel n hg
theorem N0 {t b:Int} (hb:b≠0):0<Int.gcd t b:=Int.gcd_pos_of_ne_zero_right t hb
theorem U5 {t b n d:Int} (hb:b≠0) (h1:t=(Int.gcd t b:Int) * n) (h2:b=(Int.gcd t b:Int) * d):Int.gcd n d=1:=by
 have hg:=N0 (t:=t) hb
 have e:Int.gcd ((Int.gcd t b:Int) * n) ((Int.gcd t b:Int) * d)=Int.gcd t b * Int.gcd n d:=by
  rw [Int.gcd_mul_left];simp
 rw [←h1,←h2] at e
 exact Nat.eq_of_mul_eq_mul_left hg (by rw [←e,Nat.mul_one])
theorem aH0 {t b g:Int} (hb:b≠0) (hg:g=if b<0 then -(Int.gcd t b:Int) else (Int.gcd t b:Int)):t.fdiv g=(Rat.divInt t b).num∧b.fdiv g=((Rat.divInt t b).den:Int):=by
  have hp:(0:Int)<Int.gcd t b:=by have:=N0 (t:=t) hb;omega
  obtain ⟨n,hn⟩:=Int.gcd_dvd_left t b
  obtain ⟨d,hd⟩:=Int.gcd_dvd_right t b
  have hc:=U5 hb hn hd
  by_cases hs:b<0
  · rw [if_pos hs] at hg
    subst hg
    have hg0:(-(Int.gcd t b:Int))≠0:=by omega
    have e1:t = -(Int.gcd t b:Int) * (-n):=by rw [Int.neg_mul_neg];exact hn
    have e2:b = -(Int.gcd t b:Int) * (-d):=by rw [Int.neg_mul_neg];exact hd
    have f1 : t.fdiv (-(Int.gcd t b : Int)) = -n := by conv => lhs; arg 1; rw [e1]
                                                       exact j2 hg0
    have f2 : b.fdiv (-(Int.gcd t b : Int)) = -d := by conv => lhs; arg 1; rw [e2]
                                                       exact j2 hg0
    rw [f1,f2]
    have hd0:0 < -d:=by
      rcases Int.lt_or_le d 0 with z | z
      · lia
      · have:=Int.mul_nonneg (Int.le_of_lt hp) z;lia
    refine N1 hd0 (by rw [Int.gcd_neg,Int.neg_gcd];exact hc) hb ?_
    conv=>lhs;rw [hd]
    conv=>rhs;rw [hn]
    generalize (Int.gcd t b:Int)=g
    grind
  · rw [if_neg hs] at hg
    subst hg
    have hg0:((Int.gcd t b:Int))≠0:=by omega
    have f1 : t.fdiv (Int.gcd t b : Int) = n := by conv => lhs; arg 1; rw [hn]
                                                   exact j2 hg0
    have f2 : b.fdiv (Int.gcd t b : Int) = d := by conv => lhs; arg 1; rw [hd]
                                                   exact j2 hg0
    rw [f1,f2]
    have hd0:0<d:=by
      rcases Int.lt_or_le 0 d with z | z
      · exact z
      · have:=Int.mul_nonneg (Int.le_of_lt hp) (show 0≤-d by lia);rw [Int.mul_neg] at this;lia
    refine N1 hd0 hc hb ?_
    conv=>lhs;rw [hd]
    conv=>rhs;rw [hn]
    generalize (Int.gcd t b:Int)=g
    grind
theorem ap9 {x y:Int} (h:∀ k:Int,k ∣ x→k ∣ y→k ∣ 1):Int.gcd x y=1:=by
 have:=h (Int.gcd x y:Int) (Int.gcd_dvd_left x y) (Int.gcd_dvd_right x y)
 have h2:=Int.natAbs_dvd_natAbs.mpr this
 simpa using h2
theorem aw1 {x y k:Int} (h:Int.gcd x y=1) (h1:k ∣ x) (h2:k ∣ y):k ∣ 1:=by
 have:=Int.dvd_coe_gcd h1 h2
 rw [h] at this
 simpa using this
theorem U6 {k m n:Int} (h1:Int.gcd k m=1) (h2:Int.gcd k n=1):Int.gcd k (m * n)=1:=by
 rw [Int.gcd_eq_natAbs_gcd_natAbs] at *
 rw [Int.natAbs_mul]
 exact Nat.Coprime.mul_right h1 h2
theorem ae6 {k m:Int} (h1:Int.gcd k m=1):Int.gcd m k=1:=by rw [Int.gcd_comm];exact h1
theorem aI4 {k m n:Int} (h1:Int.gcd k m=1) (h:n ∣ m):Int.gcd k n=1:=ap9 fun j a b=>aw1 h1 a (Int.dvd_trans b h)
theorem al4 {k m n:Int} (h1:Int.gcd k m=1) (h:n ∣ k):Int.gcd n m=1:=ap9 fun j a b=>aw1 h1 (Int.dvd_trans a h) b
theorem aZ6 {a b c d g1 g2:Int} (hb:0<b) (hd:0<d) (h1:Int.gcd a b=1) (h2:Int.gcd c d=1) (hg1:g1=(Int.gcd a d:Int)) (hg2:g2=(Int.gcd c b:Int)) :
  0<b.fdiv g2 * d.fdiv g1∧Int.gcd (a.fdiv g1 * c.fdiv g2) (b.fdiv g2 * d.fdiv g1)=1∧(a.fdiv g1 * c.fdiv g2) * (b * d)=(a * c) * (b.fdiv g2 * d.fdiv g1):=by
 have p1:0<g1:=by rw [hg1];have:=N0 (t:=a) (b:=d) (by omega);omega
 have p2:0<g2:=by rw [hg2];have:=N0 (t:=c) (b:=b) (by omega);lia
 obtain ⟨a',ha'⟩:g1 ∣ a:=hg1 ▸ Int.gcd_dvd_left a d
 obtain ⟨d',hd'⟩:g1 ∣ d:=hg1 ▸ Int.gcd_dvd_right a d
 obtain ⟨c',hc'⟩:g2 ∣ c:=hg2 ▸ Int.gcd_dvd_left c b
 obtain ⟨b',hb'⟩:g2 ∣ b:=hg2 ▸ Int.gcd_dvd_right c b
 have c1:Int.gcd a' d'=1:=U5 (t:=a) (b:=d) (by lia) (by rw [←hg1];exact ha') (by rw [←hg1];exact hd')
 have c2:Int.gcd c' b'=1:=U5 (t:=c) (b:=b) (by lia) (by rw [←hg2];exact hc') (by rw [←hg2];exact hb')
 have ea:a.fdiv g1=a':=by rw [ha'];exact j2 (by lia)
 have ed:d.fdiv g1=d':=by rw [hd'];exact j2 (by omega)
 have ec:c.fdiv g2=c':=by rw [hc'];exact j2 (by lia)
 have eb:b.fdiv g2=b':=by rw [hb'];exact j2 (by omega)
 rw [ea,ed,ec,eb]
 have bp:0<b':=by
  rcases Int.lt_or_le 0 b' with z | z
  ·exact z
  ·have:=Int.mul_nonneg (Int.le_of_lt p2) (show 0≤-b' by lia);rw [Int.mul_neg] at this;lia
 have dp:0<d':=by
  rcases Int.lt_or_le 0 d' with z | z
  ·exact z
  ·have:=Int.mul_nonneg (Int.le_of_lt p1) (show 0≤-d' by lia);rw [Int.mul_neg] at this;lia
 have x1:Int.gcd a' b'=1:=aI4 (al4 h1 (ha' ▸ Int.dvd_mul_left _ _)) (hb' ▸ Int.dvd_mul_left _ _)
 have x2:Int.gcd c' d'=1:=aI4 (al4 h2 (hc' ▸ Int.dvd_mul_left _ _)) (hd' ▸ Int.dvd_mul_left _ _)
 refine ⟨Int.mul_pos bp dp,ae6 (U6 (ae6 (U6 x1 c1)) (ae6 (U6 c2 x2))),?_⟩
 rw [ha',hb',hc',hd']
 grind
theorem af6 (q:Rat):Int.gcd q.num q.den=1:=by
 rw [Int.gcd_eq_natAbs_gcd_natAbs]
 simpa using q.reduced
theorem p9 (q:Rat):(0:Int)<q.den:=by have:=q.den_nz;lia
theorem aR7 (p q:Rat):p+q=Rat.divInt (p.num * q.den+q.num * p.den) (p.den * q.den):=by
 have h1:=p9 p
 have h2:=p9 q
 conv=>lhs;rw [←Rat.num_divInt_den p,←Rat.num_divInt_den q]
 exact Rat.divInt_add_divInt _ _ (by omega) (by omega)
theorem Y6 (p q:Rat):p * q=Rat.divInt (p.num * q.num) (p.den * q.den):=by
 conv=>lhs;rw [←Rat.num_divInt_den p,←Rat.num_divInt_den q]
 exact Rat.divInt_mul_divInt _ _
theorem aR2 (p q:Rat):p / q=Rat.divInt (p.num * q.den) (p.den * q.num):=by
 rw [Rat.div_def,Rat.inv_def]
 conv=>lhs;lhs;rw [←Rat.num_divInt_den p]
 exact Rat.divInt_mul_divInt _ _
theorem aM7 (a b:Int):Int.gcd b (a.fmod b)=Int.gcd a b:=by
 have e:=Int.mul_fdiv_add_fmod a b
 rw [Int.gcd_comm a b]
 conv=>rhs;rw [←e]
 rw [show b * a.fdiv b+a.fmod b=a.fmod b+a.fdiv b * b by rw [Int.mul_comm,Int.add_comm]]
 simp
theorem ae1 (a:Int) {b:Int} (hb:b≠0):(a.fmod b).natAbs<b.natAbs:=by
 rcases Int.lt_or_le b 0 with h | h
 ·have e:=Int.neg_fmod_neg a b
  have h1:=Int.fmod_nonneg_of_pos (-a) (show 0 < -b by omega)
  have h2:=Int.fmod_lt_of_pos (-a) (show 0 < -b by omega)
  omega
 ·have h1:=Int.fmod_nonneg_of_pos a (show 0<b by lia)
  have h2:=Int.fmod_lt_of_pos a (show 0<b by lia)
  omega
open PySem L2 PyProof.Rows
section
variable {P:Program} {w:World} {K:PySem.W.Frag} {mg:Str→Option Value} {base:Heap}
theorem U1 {a:Int} {m:Nat} (h:a.natAbs<2 ^ m):Builtin.Int.intBits a≤m:=by
 unfold Builtin.Int.intBits
 split
 ·exact Nat.zero_le _
 ·rename_i hz
  have h0:a.natAbs≠0:=by
   intro z
   have:a=0:=by lia
   simp [this] at hz
  have:=(Nat.log2_lt h0).mpr h
  lia
theorem N6 {a b:Int} {m n:Nat} (ha:a.natAbs<2 ^ m) (hb:b.natAbs<2 ^ n) (h:m+n≤134217728:=by decide):IntMulOk a b:=IntMulOk.of_le (U1 ha) (U1 hb) h
theorem V5 {j:Int} (h0:j≠0) (h:j.natAbs<2 ^ 9000):ax3 i j:=⟨h0,(Nat.log2_lt (by lia)).mpr h⟩
theorem d6 {m n:Nat} (h:m≤n):2 ^ m≤2 ^ n:=Nat.pow_le_pow_right (by decide) h
theorem B6 {a:Nat} {m n:Nat} (h:a<2 ^ m) (hm:m≤n:=by decide):a<2 ^ n:=Nat.lt_of_lt_of_le h (d6 hm)
def t8 (q:Rat):List V:=[.int q.num,.int (q.den:Int)]
structure Bd (q:Rat):Prop where
 n:q.num.natAbs<2 ^ 3000
 d:q.den<2 ^ 3000
def Num (K:PySem.W.Frag) (H:Hp) (v:V) (q:Rat):Prop:=∃ p,v = .ref p∧SqT K H p (t8 q)
def aI8 (H:Hp) (Q:VK) (q:Rat):Prop:=∀ r H',d5 H H'→H' r=some (.tup (t8 q))→Q (.ref r) H'
theorem Num.same {K:PySem.W.Frag} {H H':Hp} {v:V} {q:Rat} (n:Num K H v q) (e:d5 H H'):Num K H' v q:=let ⟨p,h1,h2⟩:=n;⟨p,h1,e.tup h2⟩
theorem y7:(2:Nat)≤sizeLine:=by decide
theorem bb4:(1:Nat)≤sizeLine:=by decide
theorem av7 {a b:Int} {n:Nat} (hb:b≠0) (h:b.natAbs<n):((Int.gcd a b:Nat):Int).natAbs<n:=by
 have h1:Int.gcd a b ∣ b.natAbs:=by
  have:=Int.natAbs_dvd_natAbs.mpr (Int.gcd_dvd_right a b)
  simpa using this
 have h2:=Nat.le_of_dvd (by lia) h1
 simp only [Int.natAbs_natCast]
 lia
theorem aM6 {a b:Int} {n:Nat} (hb:a≠0) (h:a.natAbs<n):((Int.gcd a b:Nat):Int).natAbs<n:=by
 rw [Int.gcd_comm];exact av7 hb h
theorem ac5 {a g:Int} (hg:0<g) (hd:g ∣ a):(a.fdiv g).natAbs≤a.natAbs:=by
 obtain ⟨n,rfl⟩:=hd
 rw [j2 (by omega),Int.natAbs_mul]
 exact Nat.le_mul_of_pos_left _ (by omega)
theorem aa9 {q:Rat}:q.num=0↔q=0:=by
 constructor
 ·intro h;exact Rat.num_eq_zero.mp h
 ·intro h;rw [h];rfl
theorem at0 (q:Rat):atI (t8 q) 0=some (.int q.num):=rfl
theorem at1 (q:Rat):atI (t8 q) 1=some (.int (q.den:Int)):=rfl
theorem bs9 {a b:Int} (h:a.natAbs<2 ^ 64):IntMulOk a b:=IntMulOk.of_left (U1 h)
theorem aM1 {a b:Int} (h:b.natAbs<2 ^ 64):IntMulOk a b:=IntMulOk.of_right (U1 h)
def aA2:Sp:=fun vs H Q _=>∃ t b:Int,vs=[.int t,.int b]∧b≠0∧b.natAbs<2 ^ 6000∧aI8 H Q (Rat.divInt t b)
def v3 (H:Hp) (u:Addr):Prop:=∃ g m p:Int,H u=some (.lst [.int g,.int m,.int p])∧0≤g∧0≤m∧m<2 ^ 40∧0<p∧p<2 ^ 40
def t7 (u:Addr) (H H':Hp):Prop:=∀ b o,H b=some o→b≠u→H' b=some o
theorem d5.x {H H':Hp} (s:d5 H H') (u:Addr):t7 u H H':=fun b o h _=>s b o h
theorem t7.trans {u:Addr} {H H1 H2:Hp} (a:t7 u H H1) (b:t7 u H1 H2):t7 u H H2:=fun c o h n=>b c o (a c o h n) n
theorem t7.upd (u:Addr) (H:Hp) (o:HO):t7 u H (upd H u o):=fun b p h n=>by rw [j0 n];exact h
theorem d5.urn {H H':Hp} {u:Addr} (s:d5 H H') (h:v3 H u):v3 H' u:=let ⟨g,m,p,h1,r⟩:=h;⟨g,m,p,s _ _ h1,r⟩
def bn3 (K:PySem.W.Frag):Sp:=fun vs H Q _=>∃ (a:Addr) (ns:List Int) (k:Int),vs=[.ref a,.int k]∧SqL K H a (ns.map V.int)∧0≤k∧k<64∧∀ r H',d5 H H'→H r=none→v3 H' r→Q (.ref r) H'
def br2:List V:=[.int 1899999979,.int 1899998977,.int 1899997949,.int 1899996929,.int 1899995927,.int 1899994903,.int 1899993877,.int 1899992839]
theorem bc7 {k:Int} (h0:0≤k):∃ p:Int,atI br2 (k.fmod 8)=some (.int p)∧1899992839≤p∧p≤1899999979:=by
 have h1:=Int.fmod_nonneg_of_pos k (show (0:Int)<8 by decide)
 have h2:=Int.fmod_lt_of_pos k (show (0:Int)<8 by decide)
 have h3:k.fmod 8=0∨k.fmod 8=1∨k.fmod 8=2∨k.fmod 8=3∨k.fmod 8=4∨k.fmod 8=5∨k.fmod 8=6∨k.fmod 8=7:=by lia
 rcases h3 with h | h | h | h | h | h | h | h <;> rw [h] <;> exact ⟨_,rfl,by decide,by decide⟩
theorem aY3 {ns:List Int} {k:Int} (h0:0≤k) (h:k<(ns.length:Int)):∃ v:Int,atI (ns.map V.int) k=some (.int v):=by
 have hk:k.toNat<ns.length:=by lia
 have ek:k=((k.toNat:Nat):Int):=by lia
 have q:atI (ns.map V.int) ((k.toNat:Nat):Int)=some (.int ns[k.toNat]):=F7 (by rw [List.getElem?_map,List.getElem?_eq_getElem hk] <;> rfl)
 rw [←ek] at q
 exact ⟨_,q⟩
def O4:Sp:=fun vs H Q _=>∃ (u:Addr) (n:Int),vs=[.ref u,.int n]∧v3 H u∧0<n∧n<2 ^ 40∧∀ r H',0≤r→r<n→t7 u H H'→v3 H' u→Q (.int r) H'
structure Sm (q:Rat):Prop where
 n:q.num.natAbs≤10 ^ 12
 d:q.den≤10 ^ 12
theorem K7 {t b:Int} (hb:b≠0):(Rat.divInt t b).num.natAbs≤t.natAbs∧(Rat.divInt t b).den≤b.natAbs:=by
 have hp:=N0 (t:=t) hb
 obtain ⟨e1,e2⟩:=aH0 (t:=t) (b:=b) (g:=if b<0 then -(Int.gcd t b:Int) else (Int.gcd t b:Int)) hb rfl
 have key:∀ x:Int,(Int.gcd t b:Int) ∣ x→(x.fdiv (if b<0 then -(Int.gcd t b:Int) else (Int.gcd t b:Int))).natAbs≤x.natAbs:=by
  rintro x ⟨n,hn⟩
  split
  ·have:x = -(Int.gcd t b:Int) * (-n):=by rw [Int.neg_mul_neg];exact hn
   rw [this,j2 (by omega),Int.natAbs_mul]
   exact Nat.le_mul_of_pos_left _ (by lia)
  ·rw [hn,j2 (by omega),Int.natAbs_mul]
   exact Nat.le_mul_of_pos_left _ (by lia)
 have k1:=key t (Int.gcd_dvd_left t b)
 have k2:=key b (Int.gcd_dvd_right t b)
 rw [e1] at k1
 rw [e2] at k2
 exact ⟨k1,by lia⟩
theorem bw7 {t b:Int} (hb:b≠0) (h1:t.natAbs≤10 ^ 12) (h2:b.natAbs≤10 ^ 12):Sm (Rat.divInt t b):=by
 obtain ⟨e1,e2⟩:=K7 (t:=t) hb
 exact ⟨by lia,by lia⟩
def aO0:Sp:=fun vs H Q _=>∃ u,vs=[.ref u]∧v3 H u∧∀ r H',r=0∨r=1∨r=2→t7 u H H'→v3 H' u→Q (.int r) H'
theorem X9 {H:Hp} {u l:Addr} (hu:v3 H u) (hl:H l=none):l≠u:=by
 obtain ⟨g,m,p,h,r⟩:=hu
 exact (g9 h hl).symm
theorem af1 {H:Hp} {u l:Addr} {o:HO} (hu:v3 H u) (hl:H l=none):v3 (upd H l o) u:=by
 obtain ⟨g,m,p,h,r⟩:=hu
 exact ⟨g,m,p,by rw [j0 (g9 h hl)];exact h,r⟩
def spNumber:Sp:=fun vs H Q _=>∃ u kd,vs=[.ref u,.int kd]∧v3 H u∧∀ r q H',Sm q→t7 u H H'→v3 H' u→H' r=some (.tup (t8 q))→Q (.ref r) H'
def ai9:Sp:=fun vs H Q _=>∃ i:Int,vs=[.int i]∧Q (.bl true) H
theorem aM4:PySem.W.kitOne K (.type "int") (.type "int")=some true:=by unfold PySem.W.kitOne;rw [if_pos (by decide)]
theorem aH2:PySem.W.kitOne K (.type "int") (.type "bool")=some false:=by kernel_rfl
theorem aM3:PySem.W.kitOne K (.type "tuple") (.type "tuple")=some true:=by unfold PySem.W.kitOne;rw [if_pos (by decide)]
def w9 (q:Rat):D:=.tup [.v (.int q.num),.v (.int (q.den:Int))]
theorem M9 {H:Hp} {a:Addr} {q:Rat} (h:SqT K H a (t8 q)):IsD K H (.ref a) (w9 q):=.tup h (.cons (.v rfl) (.cons (.v rfl) .nil))
theorem aT9 (q:Rat):eqD (w9 q) (w9 q)=true:=by simp [w9,eqD,P8,eqV]
theorem ak6 (p q:Rat):okD (w9 p) (w9 q)=true:=by simp [w9,okD,ad3]
theorem aR1 (q:Rat):dpD (w9 q)≤60:=by simp [w9,dpD,ag3]
def aS5 (K:PySem.W.Frag):Sp:=fun vs H Q _=>∃ x q,vs=[x]∧(∃ p,x = .ref p∧SqT K H p (t8 q))∧(q.den:Int).natAbs<2 ^ 6000∧∀ H',d5 H H'→Q (.bl true) H'
end
open PySem L2 PyProof.Rows
inductive q8 (H:Hp):List V→List Rat→Prop where
 | nil:q8 H [] []
 | cons {p:Addr} {q:Rat} {vs:List V} {qs:List Rat} (h:H p=some (.tup (t8 q))) (t:q8 H vs qs):q8 H (.ref p :: vs) (q :: qs)
def ac8 (H H':Hp):Prop:=∀ b xs,H b=some (.tup xs)→H' b=some (.tup xs)
theorem _root_.L2.d5.tups {H H':Hp} (s:d5 H H'):ac8 H H':=fun b xs h=>s b _ h
theorem t7.tups {u:Addr} {H H':Hp} (s:t7 u H H') (hu:v3 H u):ac8 H H':=fun b xs h=>by
 obtain ⟨g,m,p,e,_⟩:=hu
 exact s b _ h (bo2 h e (by intro z;cases z))
theorem ac8.lst {H:Hp} {a:Addr} {xs:List V} {o:HO} (h:H a=some (.lst xs)):ac8 H (upd H a o):=fun b ys e=>by
 rw [j0 (bo2 e h (by intro z;cases z))];exact e
theorem ac8.new {H:Hp} {a:Addr} {o:HO} (h:H a=none):ac8 H (upd H a o):=(d5.new h o).tups
theorem q8.mono {H H':Hp} (e:ac8 H H'):∀ {vs:List V} {qs:List Rat},q8 H vs qs→q8 H' vs qs
 | _,_,.nil=>.nil
 | _,_,.cons h t=>.cons (e _ _ h) (t.mono e)
theorem q8.length {H:Hp}:∀ {vs:List V} {qs:List Rat},q8 H vs qs→vs.length=qs.length
 | _,_,.nil=>rfl
 | _,_,.cons _ t=>congrArg (· + 1) t.length
theorem q8.take {H:Hp}:∀ {vs:List V} {qs:List Rat} (m:Nat),q8 H vs qs→q8 H (vs.take m) (qs.take m)
 | _,_,0,_=>by simp;exact .nil
 | _,_,_+1,.nil=>.nil
 | _,_,m+1,.cons h t=>.cons h (t.take m)
theorem q8.drop {H:Hp}:∀ {vs:List V} {qs:List Rat} (m:Nat),q8 H vs qs→q8 H (vs.drop m) (qs.drop m)
 | _,_,0,h=>h
 | _,_,_+1,.nil=>.nil
 | _,_,m+1,.cons h t=>t.drop m
theorem q8.append {H:Hp}:∀ {vs ws:List V} {qs rs:List Rat},q8 H vs qs→q8 H ws rs→q8 H (vs++ws) (qs++rs)
 | _,_,_,_,.nil,b=>b
 | _,_,_,_,.cons h t,b=>.cons h (t.append b)
theorem q8.get {H:Hp}:∀ {vs:List V} {qs:List Rat} {i:Nat} {q:Rat},q8 H vs qs→qs[i]? = some q→∃ p,vs[i]? = some (.ref p)∧H p=some (.tup (t8 q))
 | _,_,_,_,.nil,e=>by simp at e
 | _,_,0,_,.cons h t,e=>by
  have:=Option.some.inj e
  subst this
  exact ⟨_,rfl,h⟩
 | _,_,i+1,_,.cons h t,e=>by
  obtain ⟨p,e1,e2⟩:=t.get (i:=i) (by simpa using e)
  exact ⟨p,by simpa using e1,e2⟩
theorem q8.getV {H:Hp}:∀ {vs:List V} {qs:List Rat} {i:Nat} {v:V},q8 H vs qs→vs[i]? = some v→∃ p q,v = .ref p∧qs[i]? = some q∧H p=some (.tup (t8 q))
 | _,_,_,_,.nil,e=>by simp at e
 | _,_,0,_,.cons h t,e=>by
  have:=Option.some.inj e
  subst this
  exact ⟨_,_,rfl,rfl,h⟩
 | _,_,i+1,_,.cons h t,e=>by
  obtain ⟨p,q,e0,e1,e2⟩:=t.getV (i:=i) (by simpa using e)
  exact ⟨p,q,e0,by simpa using e1,e2⟩
theorem q8.isDs {K:PySem.W.Frag} {H:Hp}:∀ {vs:List V} {qs:List Rat},q8 H vs qs→N4 K H vs (qs.map w9)
 | _,_,.nil=>.nil
 | _,_,.cons h t=>.cons (M9 (SqT.of h)) t.isDs
theorem bj1 {p q:Rat} (h1:p.num=q.num) (h2:p.den=q.den):p=q:=by
 cases p;cases q;simp at h1 h2;subst h1 h2;rfl
theorem al1 (p q:Rat):eqD (w9 p) (w9 q)=decide (p=q):=by
 by_cases h:p=q
 ·subst h;rw [aT9];simp
 ·rw [decide_eq_false h]
  simp only [w9,eqD,P8,eqV,Bool.and_true]
  by_cases h1:p.num=q.num
  ·have h2:p.den≠q.den:=fun z=>h (bj1 h1 z)
   have:((p.den:Int) == (q.den:Int))=false:=by
    rw [beq_eq_false_iff_ne];intro z;exact h2 (by lia)
   rw [this,Bool.and_false]
  ·have:(p.num == q.num)=false:=by rw [beq_eq_false_iff_ne];exact h1
   rw [this,Bool.false_and]
theorem aC3:∀ ps qs:List Rat,P8 (ps.map w9) (qs.map w9)=decide (ps=qs)
 | [],[]=>by simp [P8]
 | [],_ :: _=>by simp [P8]
 | _ :: _,[]=>by simp [P8]
 | p :: ps,q :: qs=>by
  rw [List.map_cons,List.map_cons,P8,al1,aC3 ps qs]
  by_cases h1:p=q <;> by_cases h2:ps=qs <;> simp [h1,h2]
theorem aB5:∀ ps qs:List Rat,ad3 (ps.map w9) (qs.map w9)=true
 | [],[]=>by simp [ad3]
 | [],_ :: _=>by simp [ad3]
 | _ :: _,[]=>by simp [ad3]
 | p :: ps,q :: qs=>by rw [List.map_cons,List.map_cons,ad3,ak6,aB5 ps qs];rfl
theorem aC5:∀ qs:List Rat,ag3 (qs.map w9)≤1
 | []=>by simp [ag3]
 | q :: qs=>by
  have h1:dpD (w9 q)≤1:=by simp [w9,dpD,ag3]
  have h2:=aC5 qs
  rw [List.map_cons,ag3]
  lia
def B7 (qs:List Rat):D:=.lst (qs.map w9)
theorem M8 {K:PySem.W.Frag} {H:Hp} {a:Addr} {vs:List V} {qs:List Rat} (h:SqL K H a vs) (n:q8 H vs qs):IsD K H (.ref a) (B7 qs):=.lst h n.isDs
theorem N8 (ps qs:List Rat):eqD (B7 ps) (B7 qs)=decide (ps=qs):=by unfold B7;rw [eqD,aC3]
theorem N5 (ps qs:List Rat):okD (B7 ps) (B7 qs)=true:=by unfold B7;rw [okD,aB5]
theorem U4 (qs:List Rat):dpD (B7 qs)≤2:=by unfold B7;rw [dpD];have:=aC5 qs;lia
structure A7 (qs:List Rat) (m:Nat):Prop where
 le:m≤qs.length
 zero:∀ (i:Nat) (q:Rat),m≤i→qs[i]? = some q→q=0
 last:m≠0→∀ q,qs[m - 1]? = some q→q≠0
theorem A7.uniq {qs:List Rat} {m n:Nat} (a:A7 qs m) (b:A7 qs n):m=n:=by
 have key:∀ {m n:Nat},A7 qs m→A7 qs n→¬ m<n:=by
  intro m n a b h
  have hn:n - 1<qs.length:=by have:=b.le;lia
  exact b.last (by lia) _ (List.getElem?_eq_getElem hn) (a.zero (n - 1) _ (by omega) (List.getElem?_eq_getElem hn))
 have:=key a b
 have:=key b a
 lia
theorem A7.self {qs:List Rat} {m:Nat} (a:A7 qs m):A7 (qs.take m) m:=by
 have hl:(qs.take m).length=m:=by rw [List.length_take];have:=a.le;lia
 refine ⟨by lia,fun i q hi e=>?_,fun h q e=>?_⟩
 ·rw [List.getElem?_eq_none (by lia)] at e;cases e
 ·rw [List.getElem?_take_of_lt (by lia)] at e
  exact a.last h q e
def evs {α:Type}:List α→List α
 | []=>[]
 | [x]=>[x]
 | x :: _ :: r=>x :: evs r
def ods {α:Type} (xs:List α):List α:=evs xs.tail
theorem aw8 (vs:List V) {m:Nat} (h:m≤vs.length):al3 vs none (some (m:Int))=vs.take m:=by
 unfold al3
 have e1:HT.sIx vs.length 0 none=0:=by simp [HT.sIx]
 have e2:HT.sIx vs.length vs.length (some (m:Int))=m:=by
  simp only [HT.sIx]
  split <;> lia
 rw [e1,e2];simp
end R
set_option maxRecDepth 100000
namespace L2
open PySem PySem.Spec PyProof.Rows
def WhN (Pv:St→Hp→Prop) (μ:St→Hp→Nat) (m:Nat):St→Hp→Prop:=fun σ' H'=>∃ m',m'<m∧(m' = μ σ' H'∧Pv σ' H')
theorem WhN.mk {Pv:St→Hp→Prop} {μ:St→Hp→Nat} {m:Nat} {σ':St} {H':Hp} (h:Pv σ' H') (l : μ σ' H'<m):WhN Pv μ m σ' H':=⟨_,l,rfl,h⟩
def WhB (tb:TS) (D:ai6) (Pv:St→Hp→Prop) (μ:St→Hp→Nat) (m:Nat) (σ:St) (H1:Hp):Prop:=
 ∃ N:St→Hp→Prop,(∀ σ' H',N σ' H'→∃ m',m'<m∧(m' = μ σ' H'∧Pv σ' H'))∧tb { D with nx:=N,ct:=N,bk:=D.nx } σ H1
theorem WhB.mk {tb:TS} {D:ai6} {Pv:St→Hp→Prop} {μ:St→Hp→Nat} {m:Nat} {σ:St} {H1:Hp} (h:tb { D with nx:=WhN Pv μ m,ct:=WhN Pv μ m,bk:=D.nx } σ H1):WhB tb D Pv μ m σ H1:=⟨_,fun _ _ n=>n,h⟩
theorem X8 {c:TT} {tb:TS} {D:ai6} {σ:St} {H:Hp} (Pv:St→Hp→Prop) (μ:St→Hp→Nat) (h0:Pv σ H)
  (hs:∀ σ H,Pv σ H→c σ H fun b H1=>if b=true then WhB tb D Pv μ (μ σ H) σ H1 else D.nx σ H1):am0 c tb D σ H:=by
 refine ⟨fun m σ H=>m = μ σ H∧Pv σ H,⟨_,rfl,h0⟩,?_⟩
 rintro m σ H ⟨rfl,p⟩
 exact hs σ H p
theorem d5.over {H H1:Hp} {l:Addr} (s:d5 H H1) (hl:H l=none) (o:HO):d5 H (upd H1 l o):=fun b u h=>by
 rw [j0 (g9 h hl)];exact s b u h
def al9 (J:It) (D:Addr) (σ0:St) (H0:Hp) (g:TG) (te:TE) (Q:VK):Prop:=∃ W:Nat→Nat→St→Hp→Prop,(∃ m,W 0 m σ0 H0) ∧
 ∀ i m σc H2,W i m σc H2→(J.stop i H2∧Q (.ref D) H2) ∨
  (J.go i H2∧∀ x H3,J.yld i H2 x H3→g x σc H3 fun σ4 H4=>te σ4 H4 fun y H5=>∃ ys,H5 D=some (.lst ys)∧ys.length<sizeLine∧∃ m',m'<m∧W (i+1) m' σ4 (upd H5 D (.lst (ys++[y]))))
theorem aJ5 (wi:TI) (caps:List (Option Nat)) (g:TG) (te:TE):ba2 wi caps g te=fun σ H Q=>wi σ H fun J H1=>∀ D,H1 D=none→al9 J D (Z9 caps σ) (upd H1 D (.lst [])) g te Q:=rfl
def bv9 (J:It) (D:Addr) (σ0:St) (H0:Hp) (g:TG) (tt:TT) (te:TE) (Q:VK):Prop:=∃ W:Nat→Nat→St→Hp→Prop,(∃ m,W 0 m σ0 H0) ∧
 ∀ i m σc H2,W i m σc H2→(J.stop i H2∧Q (.ref D) H2) ∨
  (J.go i H2∧∀ x H3,J.yld i H2 x H3→g x σc H3 fun σ4 H4=>tt σ4 H4 fun b H4'=>if b=true then te σ4 H4' fun y H5=>∃ ys,H5 D=some (.lst ys)∧ys.length<sizeLine∧∃ m',m'<m∧W (i+1) m' σ4 (upd H5 D (.lst (ys++[y])))
   else ∃ m',m'<m∧W (i+1) m' σ4 H4')
theorem at2 (wi:TI) (caps:List (Option Nat)) (g:TG) (tt:TT) (te:TE):bi4 wi caps g tt te=fun σ H Q=>wi σ H fun J H1=>∀ D,H1 D=none→bv9 J D (Z9 caps σ) (upd H1 D (.lst [])) g tt te Q:=rfl
section
variable {K:PySem.W.Frag} {a D:Addr} {xs:List V} {g:TG} {te:TE} {σ0:St} {H0:Hp} {Q:VK}
theorem N2 (xs:List V) (Pv:Nat→St→Hp→Prop) (h0:Pv 0 σ0 H0) (hl:∀ i σ H,i≤xs.length→Pv i σ H→SqL K H a xs)
  (hs:∀ i x σ H,xs[i]? = some x→Pv i σ H→g x σ H fun σ4 H4=>te σ4 H4 fun y H5=>G8 D xs.length Pv i σ4 y H5) (hd:∀ σ H,Pv xs.length σ H→Q (.ref D) H):al9 (Itl K a) D σ0 H0 g te Q:=aX7 Pv h0 hl hs hd
theorem bg9 {lo:Int} {n:Nat} (Pv:Nat→St→Hp→Prop) (h0:Pv 0 σ0 H0)
  (hs:∀ i σ H,i<n→Pv i σ H→g (.int (lo+i)) σ H fun σ4 H4=>te σ4 H4 fun y H5=>G8 D n Pv i σ4 y H5) (hd:∀ σ H,Pv n σ H→Q (.ref D) H):al9 (Itr lo n) D σ0 H0 g te Q:=aR4 Pv h0 hs hd
end
theorem D3 {cells:List (Str × Addr)}:∀ (x:Str) (c:Addr),([]:List (Str × Addr)).lookup x=some c→cells.lookup x=some c:=fun x c h=>by cases h
theorem F8 {cells cl:List (Str × Addr)} {k:Str} {a:Addr} (h:cells.lookup k=some a) (r:∀ (x:Str) (c:Addr),cl.lookup x=some c→cells.lookup x=some c):∀ (x:Str) (c:Addr),((k,a) :: cl).lookup x=some c→cells.lookup x=some c:=fun x c e=>by
 rw [List.lookup_cons] at e
 split at e
 ·rename_i q
  have:=eq_of_beq q
  subst this
  cases e
  exact h
 ·exact r x c e
end L2
namespace R
open PySem L2 PyProof.Rows
theorem t7.over {u:Addr} {H H1:Hp} {l:Addr} (s:t7 u H H1) (hl:H l=none) (o:HO):t7 u H (L2.upd H1 l o):=fun b x h n=>by
 rw [j0 (g9 h hl)];exact s b x h n
theorem v3.other {H:Hp} {u l:Addr} {o:HO} (h:v3 H u) (ne:l≠u):v3 (upd H l o) u:=by
 obtain ⟨g,m,p,e,r⟩:=h
 exact ⟨g,m,p,by rw [j0 ne.symm];exact e,r⟩
theorem aM0 {H:Hp} {p l:Addr} {o:HO} (h:upd H p o l=none):H l=none:=by
 by_cases q:l=p
 ·subst q;rw [b8] at h;cases h
 ·rw [j0 q] at h;exact h
theorem bs8 {H:Hp} {p l:Addr} {o:HO} (h:upd H p o l=none):l≠p:=fun q=>by
 subst q;rw [b8] at h;cases h
theorem az0 {K:PySem.W.Frag}:PySem.W.kitOne K (.type "list") (.type "list")=some true:=by unfold PySem.W.kitOne;rw [if_pos (by decide)]
end R
set_option maxRecDepth 100000
namespace L2
open PySem PySem.Spec PyProof.Rows
def Itz (K:PySem.W.Frag) (a b:Addr):It:=
  ⟨fun i H=>∃ xs ys x y,SqL K H a xs∧SqL K H b ys∧xs[i]? = some x∧ys[i]? = some y,
   fun i H v H'=>∀ xs ys,SqL K H a xs→SqL K H b ys→∃ x y p,xs[i]? = some x∧ys[i]? = some y∧H p=none∧v = .ref p∧H'=upd H p (.tup [x,y]),
   fun i H=>∃ xs ys,SqL K H a xs∧SqL K H b ys∧(xs.length≤i∨ys.length≤i)⟩
theorem aZ2 {P:Program} {w:World} {K:PySem.W.Frag} {elts:List Expr} {k:Nat} {tpos:Pos} (a b z TI TO i1 i2:Addr) (D:ZipApart z TI TO i1 i2 a b) :
  aY7 P w K (.Tuple elts k tpos) (Itz K a b) [z,TI,TO,i1,i2] z (fun i h=>IsZip h z TI TO .none∧IsPair h TI (.ref i1) (.ref i2)∧(∃ a b,IsPair h TO a b)∧h.IsListIter i1 a i∧h.IsListIter i2 b i) where
 mem:=by simp
 obj:=fun i h st c hc=>by
  obtain ⟨hz,hTI,⟨p,q,hTO⟩,h1,h2⟩:=st
  rcases (by simpa using hc:c=z∨c=TI∨c=TO∨c=i1∨c=i2) with e | e | e | e | e <;> subst e
  ·exact ⟨_,hz,fun v z=>by cases z⟩
  ·exact ⟨_,hTI,fun v z=>by cases z⟩
  ·exact ⟨_,hTO,fun v z=>by cases z⟩
  ·obtain ⟨o,e,c,d⟩:=h1
   exact ⟨o,e,fun v z=>by rw [d] at z;cases z⟩
  ·obtain ⟨o,e,c,d⟩:=h2
   exact ⟨o,e,fun v z=>by rw [d] at z;cases z⟩
 keep:=fun i h h' st k=>by
  obtain ⟨hz,hTI,⟨p,q,hTO⟩,h1,h2⟩:=st
  exact ⟨k z (by simp) _ hz,k TI (by simp) _ hTI,⟨p,q,k TO (by simp) _ hTO⟩,h1.at fun o e=>k i1 (by simp) o e,h2.at fun o e=>k i2 (by simp) o e⟩
 item:=by
  intro X hP hw hK hc i pins s σ H E I hf st hg
  subst hP hw hK
  obtain ⟨xs,ys,x,y,hq,hq',hx,hy⟩:=hg
  obtain ⟨its,rv,p,hlz⟩:=I.list hq
  obtain ⟨its',rv',p',hlz'⟩:=I.list hq'
  obtain ⟨u,hu,ru⟩:=rv.get hx
  obtain ⟨u',hu',ru'⟩:=rv'.get hy
  obtain ⟨hz,hTI,⟨pa,pb,hTO⟩,h1,h2⟩:=st
  have zlt:z<s.heap.objs.size:=Heap.lt_size hz
  refine wpAny_pyNext_zip_item D hz hTI hTO h1 h2 p.isList p'.isList (x:=u) (y:=u') (by simpa using hu) (by simpa using hu') fun h' a1 a2 a3 a4 a5 a6 kk=>?_
  refine ⟨_,rfl,?_⟩
  refine wpAny_letOwnedTupleGo_zip (s:={ s with heap:=h' }) a1 fun h'' hz'' sb=>?_
  have up:∀ c o,c≠z→h'.get? c=some o→h''.get? c=some o:=fun c o n q=>(sb.2 c n).trans q
  have hT':h''.get? s.heap.objs.size=some { cls:=.type "tuple",data:=.seq #[u,u'] }:=up _ _ (Nat.ne_of_gt zlt) a5
  refine ⟨.ref s.heap.objs.size,upd H s.heap.objs.size (.tup [x,y]),I.turnLaid (fp:=[z,TI,TO,i1,i2]) (t':=s.toks) hf (fun c v hb q=>?_) (Nat.le_refl _) ?_,rfl,?_,?_,fun c hb=>?_⟩
  ·have n1:c≠z:=fun e=>hb (by simp [e])
   have n2:c≠TO:=fun e=>hb (by simp [e])
   have n3:c≠i1:=fun e=>hb (by simp [e])
   have n4:c≠i2:=fun e=>hb (by simp [e])
   exact up c v n1 (kk c v n1 n2 n3 n4 q)
  ·exact ⟨(show 2≤sizeLine by decide +kernel),[u,u'],.cons ru (.cons ru' .nil),_,hT',rfl,_,rfl⟩
  ·intro vs ws hv hw
   rw [I.list_inj hv hq,I.list_inj hw hq']
   exact ⟨x,y,_,hx,hy,I.fresh,rfl,rfl⟩
  ·refine ⟨hz'',up _ _ D.TIz (kk _ _ D.TIz D.TITO D.TIi1 D.TIi2 hTI),⟨u,u',up _ _ D.TOz a2⟩,a3.at fun o q=>up _ o D.i1z q,a4.at fun o q=>up _ o D.i2z q⟩
  ·have hlt:c<s.heap.objs.size:=by
    have l1:i1<s.heap.objs.size:=by obtain ⟨_,e,_⟩:=h1;exact Heap.lt_size e
    have l2:i2<s.heap.objs.size:=by obtain ⟨_,e,_⟩:=h2;exact Heap.lt_size e
    rcases (by simpa using hb:c=z∨c=TI∨c=TO∨c=i1∨c=i2) with e | e | e | e | e <;> rw [e]
    ·exact zlt
    ·exact Heap.lt_size hTI
    ·exact Heap.lt_size hTO
    ·exact l1
    ·exact l2
   rw [j0 (Nat.ne_of_lt hlt)]
   exact (hf c hb).1
 done:=by
  intro X hP hw hK hc i pins s σ H E I hf st hg
  subst hP hw hK
  obtain ⟨xs,ys,hq,hq',hend⟩:=hg
  obtain ⟨its,rv,p,hlz⟩:=I.list hq
  obtain ⟨its',rv',p',hlz'⟩:=I.list hq'
  obtain ⟨hz,hTI,⟨pa,pb,hTO⟩,h1,h2⟩:=st
  have l1:=rv.length
  have l2:=rv'.length
  refine wpAny_pyNext_zip_end (I.ok.hd hc) D hz hTI hTO h1 h2 p.isList p'.isList ?_ fun h' kk=>⟨rfl,?_⟩
  ·rcases hend with e | e
   ·exact .inl (by simp;lia)
   ·exact .inr (by simp;lia)
  ·have nf:∀ b u,H b=some u→b ∉ [z,TI,TO,i1,i2]:=fun b u e q=>by rw [(hf b q).1] at e;cases e
   have k:∀ b u,b ∉ [z,TI,TO,i1,i2]→s.heap.get? b=some u→h'.get? b=some u:=fun c o hb q=>kk c o (fun e=>hb (by simp [e])) (fun e=>hb (by simp [e])) (fun e=>hb (by simp [e])) (fun e=>hb (by simp [e])) q
   refine I.step (t':=s.toks) (g':=s.gens) (d':=s.drawn) (ch:=[z,TI,TO,i1,i2]) (fun b hb=>?_) (fun b o _ _ hc e _=>k b o hc e) (fun b o _ _ hc e _=>⟨o.slots,k b o hc e⟩) (fun b o _ e n=>n)
    (fun b o hc e=>⟨o,k b o hc e⟩) (fun b xs e=>e) (fun b o u e=>e) (fun b ps e=>⟨#[],by rw [e];simp⟩) (fun m hm=>?_) (fun b u e=>?_) I.bare
   ·obtain ⟨_,f1,_,f3,f4,f5⟩:=hf b hb
    exact ⟨f3,f1,f4,f5⟩
   ·obtain ⟨o,es,ep,ho,r⟩:=hm
    exact ⟨o,es,ep,k _ o (fun q=>(hf _ q).2.1 rfl) ho,r⟩
   ·refine (I.hok b u e).stay (fun c v hc q=>k c v ?_ q) (fun c q=>q) fun c xs q=>q
    rcases hc with q | q
    ·rw [q];exact nf b u e
    ·exact nf c _ q
 self:=fun _ _ _ _ _ st h=>wpAny_pyIter_zip st.1 h
section
variable {X:Cx}
def bt9 (K:PySem.W.Frag) (ta:TA):TI:=fun σ H R=>ta σ H fun vs H1=>∃ a b,vs=[.ref a,.ref b]∧(∃ xs,SqL K H1 a xs)∧(∃ ys,SqL K H1 b ys)∧R (Itz K a b) H1
theorem br6 {elts:List Expr} {k:Nat} {tpos:Pos} {l l':Expr} {ta:TA} {p pos:Pos} (hg:Gl X "zip") (hm:X.mg "zip" = none) (ha:PA X [l,l'] ta) (hs:starEach [l,l'] X.env=[(false,eval l X.env),(false,eval l' X.env)]:=by rfl) (hs2:starEach [l'] X.env=[(false,eval l' X.env)]:=by rfl) :
  PI X (.Tuple elts k tpos) (.Call (.Name "zip" p) [l,l'] [] pos) (bt9 X.K ta):=by
 intro pins s σ H R I h
 refine Call_ (ae4 I hg hm (u:=.type "zip") (by decide +kernel) (PyProof.Rows.callWith_type1 (thn (ha pos pins s σ H _ I h) fun us s1 ⟨vs,H1,I1,r1,q1⟩=>?_) (by rw [hs,hs2]) (by rw [hs2];rfl)))
 obtain ⟨a,b,e,⟨xs,hq⟩,⟨ys,hq'⟩,q⟩:=q1
 subst e
 obtain ⟨u,u',rfl,rx,rx'⟩:=o0.two r1
 cases rx
 cases rx'
 obtain ⟨its,rv,p,hz⟩:=I1.list hq
 obtain ⟨its',rv',p',hz'⟩:=I1.list hq'
 have a1:a<s1.heap.objs.size:=by obtain ⟨_,e,_⟩:=p.isList;exact Heap.lt_size e
 have a2:b<s1.heap.objs.size:=by obtain ⟨_,e,_⟩:=p'.isList;exact Heap.lt_size e
 refine call_zip_2 p.isList p'.isList fun h' hz hTI hTO hi1 hi2 hsz kk=>?_
 refine wpAny_pyIter_zip hz ?_
 have I2:Inv X pins σ H1 { s1 with heap:=h' }:=I1.kept (t':=s1.toks) kk
 refine ⟨_,_,_,_,H1,rfl,I2,aZ2 a b _ _ _ _ _ (zipApart_new a1 a2),⟨hz,hTI,⟨_,_,hTO⟩,hi1,hi2⟩,fun c hb=>?_,q⟩
 have hb':s1.heap.objs.size≤c:=by
  rcases (by simpa using hb:c=s1.heap.objs.size+4∨c=s1.heap.objs.size+2∨c=s1.heap.objs.size+3∨c=s1.heap.objs.size∨c=s1.heap.objs.size+1) with e | e | e | e | e <;> rw [e]
  ·exact Nat.le_add_right _ _
  ·exact Nat.le_add_right _ _
  ·exact Nat.le_add_right _ _
  ·exact Nat.le_refl _
  ·exact Nat.le_add_right _ _
 obtain ⟨f0,f1,f2,f3,f4,f5⟩:=I1.fpOk (H':=H1) hb' (I1.hok.fresh hb')
 exact ⟨f0,f1,f2,f3,f4,f5⟩
end
section
variable {prog:Program} {w:World} {A:Around} {E:Value→Shared→Prop} {s:Shared}
theorem bl1 {a b:Int} {t u:Tok} {Q:Value→Shared→Prop} (h:Q (.bool (decide (a > b))) s):wpAny (model prog w) A (richCompare .Gt (.int a t) (.int b u)) Q E s:=
 richCompare_gives (op:=.Gt) (typeIs_int s _ t) (typeIs_int s _ u) F.slot_int_gt F.entry_int_gt (F.args_int_gt_2 _ _) (gives_int_gt _ _ t u) (fun x=>nomatch x) h
theorem al6 {id:String} {b:Builtin} {args:List Value} {kw:List (Str × Value)} {Q:Value→Shared→Prop} (hk:builtinKind id=none) (hp:plainId id=true)
  (hb:entryFor table id=some b) (ha:argsOk id ⟨args,kw⟩)
  (hc:wpAny (model prog w) A.in1 (b ⟨args,kw⟩) (fun fin s'=>match fin with
   | .done f=>(match (Except.ok f:Result) with | .ok (.ret v)=>Q v s' | .ok _=>False | .error e=>E e s')
   | .again c'=>c'.quiet=true∧codeAny (model prog w) A c' (fun r s'=>match r with | .ok (.ret v)=>Q v s' | .ok _=>False | .error e=>E e s') s') E s) :
  wpAny (model prog w) A (call (.builtin id) args kw) Q E s:=by
 refine wpAny_call (codeAny_call_builtin hp hb ?_)
 simp only [checkBuiltinCall,hk]
 cases hsig:Manifest.signature? id with
 | none=>exact wpAny_pure hc
 | some sig=>
  have ha':Bind.checkArgs id sig ⟨args,kw⟩=pure ():=by simpa only [argsOk,hsig] using ha
  simp only [ha']
  exact wpAny_pure hc
variable {R:Result→Shared→Prop} {I:Addr} {fp wr:List Addr} {n:Nat} {P:Nat→Value→Prop} {St:Nat→Heap→Prop}
theorem aW6 (W:Walks prog w A.in1 I fp wr n P St) (hint:∀ i v,P i v→∃ x t,v = .int x t) (S:Addr) (hSf:S ∉ fp) (d:Value) :
  ∀ (k j:Nat) (s:Shared) (x0:Int) (t0:Tok) (c:Nat),n - (j+1)=k→j+1≤n→St (j+1) s.heap →
  s.heap.get? S=some { cls:=.type "list",dict:=none,data:=.seq #[.int x0 t0,.int x0 t0] c,slots:=#[] } →
  (∀ x t h' tk,(∀ b o,b ∉ wr→b≠S→s.heap.get? b=some o→h'.get? b=some o)→R (.ok (.ret (.int x t))) { s with heap:=h',toks:=tk }) →
  codeAny (model prog w) A (.builtin "max.loop" ⟨[.ref I,.none,.ref S],[("default",d)]⟩) R s:=by
 have hSw:S ∉ wr:=fun h=>hSf (W.sub _ h)
 have hname:(toString "max" ++ toString ".loop" : String) = "max.loop":=by decide
 intro k
 induction k with
 | zero=>
  intro j s x0 t0 c hk hj hst hS hR
  have hin:j+1=n:=by lia
  refine codeAny_builtin F.entry_max_loop ?_
  rw [Around.under_plainId F.plain_max_loop _]
  show wpAny _ A.in1 (seqItems? (.ref S) >>= _) _ _ s
  refine wpAny_bind (wpAny_seqItems hS rfl ?_)
  show wpAny _ A.in1 (tryCatch (pyNext (.ref I)) _ >>= _) _ _ s
  refine wpAny_bind (wpAny_tryCatch (W.done s _ _ (hin ▸ hst) fun h' tk hk'=>?_))
  have hS':=hk' S _ hSw hS
  show wpAny _ A.in1 (updateSeq S (fun _=>#[]) >>= _) _ _ _
  refine wpAny_bind ?_
  refine wpAny_updateSeq hS' rfl (wpAny_bind (wpAny_letGo (wpAny_pure ?_)))
  exact hR x0 t0 _ tk fun b o hbw hbS e=>(Heap.get?_update_other _ _ (Ne.symm hbS)).trans (hk' b o hbw e)
 | succ k ih=>
  intro j s x0 t0 c hk hj hst hS hR
  have hlt:j+1<n:=by omega
  refine codeAny_builtin F.entry_max_loop ?_
  rw [Around.under_plainId F.plain_max_loop _]
  show wpAny _ A.in1 (seqItems? (.ref S) >>= _) _ _ s
  refine wpAny_bind (wpAny_seqItems hS rfl ?_)
  show wpAny _ A.in1 (tryCatch (pyNext (.ref I)) _ >>= _) _ _ s
  refine wpAny_bind (wpAny_tryCatch (W.item (j+1) s _ _ hlt hst fun v h' tk hP hst' hk'=>?_))
  obtain ⟨x1,t1,rfl⟩:=hint _ _ hP
  have hS':=hk' S _ hSw hS
  show wpAny _ A.in1 (tryCatch (holding [.int x1 t1,.int x1 t1] (richCompare .Gt (.int x1 t1) (.int x0 t0) >>= _)) _ >>= _) _ _ _
  refine wpAny_bind (wpAny_tryCatch (wpAny_holding (wpAny_bind (bl1 ?_))))
  refine wpAny_bind (wpAny_holding (wpAny_truthy_bool ?_))
  refine wpAny_bind (wpAny_letGo (wpAny_pure ?_))
  cases hb:decide (x1 > x0) with
  | true=>
   simp only [if_true]
   refine wpAny_bind ?_
   refine wpAny_updateSeq hS' rfl (wpAny_bind (wpAny_letGo ?_))
   rw [hname]
   refine wpAny_pure ⟨plainId_quiet F.plain_max_loop _,ih (j+1) _ x1 t1 _ (by omega) hlt (W.frame _ _ _ hst' fun b hbf o e=>?_) (Heap.get?_update_self _ hS' rfl)
    fun x t h'' tk'' hk''=>?_⟩
   ·exact (Heap.get?_update_other _ _ (fun h:S=b=>hSf (by rw [h];exact hbf))).trans e
   ·exact hR x t h'' tk'' fun b o hbw hbS e=>hk'' b o hbw hbS ((Heap.get?_update_other _ _ (Ne.symm hbS)).trans (hk' b o hbw e))
  | false=>
   simp only [Bool.false_eq_true,if_false]
   refine wpAny_bind (wpAny_letGo ?_)
   rw [hname]
   refine wpAny_pure ⟨plainId_quiet F.plain_max_loop _,ih (j+1) _ x0 t0 c (by omega) hlt hst' hS' fun x t h'' tk'' hk''=>?_⟩
   exact hR x t h'' tk'' fun b o hbw hbS e=>hk'' b o hbw hbS (hk' b o hbw e)
theorem aQ1 (W:Walks prog w A.in1 I fp wr n P St) (hint:∀ i v,P i v→∃ x t,v = .int x t) (S:Addr) (hSf:S ∉ fp) {x0:Int} {t0:Tok} {c:Nat} (hst:St 0 s.heap)
  (hS:s.heap.get? S=some { cls:=.type "list",dict:=none,data:=.seq #[] c,slots:=#[] })
  (hR:∀ x t h' tk,(∀ b o,b ∉ wr→b≠S→s.heap.get? b=some o→h'.get? b=some o)→R (.ok (.ret (.int x t))) { s with heap:=h',toks:=tk }) :
  codeAny (model prog w) A (.builtin "max.loop" ⟨[.ref I,.none,.ref S],[("default",.int x0 t0)]⟩) R s:=by
 have hSw:S ∉ wr:=fun h=>hSf (W.sub _ h)
 have hname:(toString "max" ++ toString ".loop" : String) = "max.loop":=by decide
 refine codeAny_builtin F.entry_max_loop ?_
 rw [Around.under_plainId F.plain_max_loop _]
 show wpAny _ A.in1 (seqItems? (.ref S) >>= _) _ _ s
 refine wpAny_bind (wpAny_seqItems hS rfl ?_)
 show wpAny _ A.in1 (tryCatch (pyNext (.ref I)) _ >>= _) _ _ s
 by_cases hn:0<n
 ·refine wpAny_bind (wpAny_tryCatch (W.item 0 s _ _ hn hst fun v h' tk hP hst' hk'=>?_))
  obtain ⟨x1,t1,rfl⟩:=hint _ _ hP
  have hS':=hk' S _ hSw hS
  show wpAny _ A.in1 (updateSeq S (fun _=>#[.int x1 t1,.int x1 t1]) >>= _) _ _ _
  refine wpAny_bind ?_
  refine wpAny_updateSeq hS' rfl ?_
  rw [hname]
  refine wpAny_pure ⟨plainId_quiet F.plain_max_loop _,aW6 W hint S hSf _ _ 0 _ x1 t1 _ rfl hn (W.frame _ _ _ hst' fun b hbf o e=>?_) (Heap.get?_update_self _ hS' rfl) fun x t h'' tk'' hk''=>?_⟩
  ·exact (Heap.get?_update_other _ _ (fun h:S=b=>hSf (by rw [h];exact hbf))).trans e
  ·exact hR x t h'' tk'' fun b o hbw hbS e=>hk'' b o hbw hbS ((Heap.get?_update_other _ _ (Ne.symm hbS)).trans (hk' b o hbw e))
 ·have h0:n=0:=by lia
  refine wpAny_bind (wpAny_tryCatch (W.done s _ _ (by rw [h0];exact hst) fun h' tk hk'=>?_))
  show wpAny _ A.in1 (rule _ >>= _) _ _ _
  refine wpAny_bind (wpAny_rule (wpAny_pure ?_))
  exact hR x0 t0 _ tk fun b o hbw hbS e=>hk' b o hbw e
theorem aY5 (a d:Value):argsOk "max" ⟨[a],[("default",d)]⟩:=by unfold argsOk;kernel_rfl
end
section
variable {X:Cx}
def ba0 (K:PySem.W.Frag) (ta:TA):TE:=fun σ H Q=>ta σ H fun vs H1=>∃ (a:Addr) (ns:List Int),vs=[.ref a]∧SqL K H1 a (ns.map V.int)∧∀ i:Int,Q (.int i) H1
theorem aY1 (hc:X.calm=true) {pins:List (Addr × Obj)} {s:Shared} {σ:St} {H:Hp} {a:Addr} {ns:List Int} {Q:VK} {x0:Int} {t0:Tok} (I:Inv X pins σ H s) (hq:SqL X.K H a (ns.map V.int)) (q:∀ i:Int,Q (.int i) H) :
  wpAny (model X.prog X.w) X.A (call (.builtin "max") [.ref a] [("default",.int x0 t0)]) (EP X pins σ Q) X.xe s:=by
 have hname:(toString "max" ++ toString ".loop" : String) = "max.loop":=by decide
 obtain ⟨its,r',pl,hz⟩:=I.list hq
 have hp:a≠s.heap.objs.size:=by
  obtain ⟨o,ho,_⟩:=pl.isList
  exact Nat.ne_of_lt (Heap.lt_size ho)
 refine al6 F.kind_max F.plain_max F.entry_max (aY5 _ _) ?_
 show wpAny _ X.A.in1 (Builtin.Builtins.bindParams "max" ["key","default"] 0 ⟨[],[("default",.int x0 t0)]⟩ >>= _) _ _ s
 refine wpAny_bind (wpAny_of_eq (show Builtin.Builtins.bindParams "max" ["key","default"] 0 ⟨[],[("default",.int x0 t0)]⟩=pure [none,some (.int x0 t0)] from by with_unfolding_all rfl) ?_)
 refine wpAny_bind (wpAny_pure ?_)
 refine wpAny_bind (wpAny_pyIter_list pl.isList ?_)
 refine wpAny_bind (wpAny_newObj_type ?_)
 have a1:a<s.heap.objs.size:=by obtain ⟨o,ho,_⟩:=pl.isList;exact Heap.lt_size ho
 rw [hname]
 refine wpAny_pure ⟨plainId_quiet F.plain_max_loop _,?_⟩
 refine aQ1 (Walks.list (A:=X.A.in1) (I.ok.hd hc) s.heap.objs.size a hp its.toArray) ?_ _ ?_ ⟨⟨_,Heap.get?_push_of_some _ (Heap.get?_push_size _ rfl),rfl,rfl⟩,pl.isList.at fun o e=>Heap.get?_push_of_some _ (Heap.get?_push_of_some _ e)⟩ (Heap.get?_push_size _ rfl) ?_
 ·intro i v hv
  have hv':its[i]? = some v:=by simpa using hv
  have hi:i<ns.length:=by
   have:=(List.getElem?_eq_some_iff.mp hv').1
   rw [←r'.length,List.length_map] at this;exact this
  obtain ⟨u,hu,ru⟩:=r'.get (i:=i) (x:=.int ns[i]) (by rw [List.getElem?_map,List.getElem?_eq_getElem hi];rfl)
  rw [hv'] at hu
  cases hu
  obtain ⟨t,rfl⟩:=ru
  exact ⟨_,_,rfl⟩
 ·rw [Heap.size_push]
  intro z
  rcases (by simpa using z:s.heap.objs.size+1=s.heap.objs.size∨s.heap.objs.size+1=a) with e | e
  ·exact absurd e (Nat.succ_ne_self _)
  ·exact absurd a1 (by rw [←e];exact Nat.not_lt.mpr (Nat.le_succ _))
 ·intro x t h' tk kk
  refine ⟨.int x,H,I.kept (t':=tk) fun b o e=>kk b o ?_ ?_ (Heap.get?_push_of_some _ (Heap.get?_push_of_some _ e)),⟨t,rfl⟩,q x⟩
  ·intro z
   have:b=s.heap.objs.size:=by simpa using z
   exact absurd (Heap.lt_size e) (by rw [this];exact Nat.lt_irrefl _)
  ·rw [Heap.size_push]
   intro z
   exact absurd (Heap.lt_size e) (by rw [z];exact Nat.not_lt.mpr (Nat.le_succ _))
theorem bj4 {l:Expr} {ta:TA} {p pos p1 p2:Pos} {x0:Int} {j:Nat} (hc:X.calm=true) (hg:Gl X "max") (hm:X.mg "max" = none) (ha:PA X [l] ta) (hs:starEach [l] X.env=[(false,eval l X.env)]:=by rfl) :
  PE X (.Call (.Name "max" p) [l] [⟨some "default",.Constant (.int x0) j p1,p2⟩] pos) (ba0 X.K ta):=by
 intro pins s σ H Q I h
 refine wpAny_Call_Name_kw (ae4 I hg hm (u:=.builtin "max") (by decide +kernel) ?_ (by decide) (by decide))
 refine callWith_kw (thn (ha pos pins s σ H _ I h) fun us s1 ⟨vs,H1,I1,r1,q1⟩=>?_) (by rw [hs];rfl) (by rw [hs];rfl) rfl rfl
 obtain ⟨a,ns,e,hq,q⟩:=q1
 subst e
 obtain ⟨u,rfl,rx⟩:=aa5 r1
 cases rx
 show wpAny _ _ (evalAll [do let v ←eval (.Constant (.int x0) j p1) X.env;standAt pos;pure v]) _ _ _
 unfold evalAll
 refine wpAny_bind (wpAny_bind (wpAny_Constant_int (wpAny_bind (wpAny_standAt (wpAny_pure ?_)))))
 unfold evalAll
 refine wpAny_bind (wpAny_holding (wpAny_pure (wpAny_pure ?_)))
 exact aY1 hc (I1.tok _) hq q
end
end L2
set_option maxRecDepth 100000
namespace R
open PySem L2 PyProof.Rows
structure BdN (k:Nat) (q:Rat):Prop where
 n:q.num.natAbs<2 ^ k
 d:q.den<2 ^ k
theorem BdN.mono {m n:Nat} {q:Rat} (h:BdN m q) (l:m≤n):BdN n q:=⟨Nat.lt_of_lt_of_le h.n (d6 l),Nat.lt_of_lt_of_le h.d (d6 l)⟩
theorem Sm.bdN {q:Rat} (s:Sm q):BdN 40 q:=⟨Nat.lt_of_le_of_lt s.n (by decide),Nat.lt_of_le_of_lt s.d (by decide)⟩
theorem BdN.mul {m n:Nat} {p q:Rat} (a:BdN m p) (b:BdN n q):BdN (m+n) (p * q):=by
 rw [Y6]
 have hb:(p.den:Int) * q.den≠0:=Int.ne_of_gt (Int.mul_pos (p9 p) (p9 q))
 obtain ⟨e1,e2⟩:=K7 (t:=p.num * q.num) hb
 rw [Int.natAbs_mul] at e1 e2
 refine ⟨Nat.lt_of_le_of_lt e1 ?_,Nat.lt_of_le_of_lt e2 ?_⟩
 ·rw [Nat.pow_add];exact Nat.mul_lt_mul'' a.n b.n
 ·rw [Nat.pow_add,Int.natAbs_natCast,Int.natAbs_natCast];exact Nat.mul_lt_mul'' a.d b.d
structure SmW (q:Rat):Prop where
 n:q.num.natAbs<2 ^ 42
 d:q.den<2 ^ 40
def ac7:List Rat→List Rat→List Rat
 | [],q=>q
 | x :: p,[]=>x :: p
 | x :: p,y :: q=>(x+y) :: ac7 p q
theorem ax0:∀ p q:List Rat,(ac7 p q).length=max p.length q.length
 | [],q=>by simp [ac7]
 | x :: p,[]=>by simp [ac7]
 | x :: p,y :: q=>by simp only [ac7,List.length_cons,ax0 p q];simp
theorem ax1:∀ (p q:List Rat) (i:Nat),i<max p.length q.length→(ac7 p q)[i]? = some ((p[i]?).getD 0+(q[i]?).getD 0)
 | [],q,i,h=>by
  have:i<q.length:=by simpa using h
  simp only [ac7,List.getElem?_nil,Option.getD_none,List.getElem?_eq_getElem this,Option.getD_some]
  congr 1;grind
 | x :: p,[],i,h=>by
  have:i<(x :: p).length:=by simpa using h
  simp only [ac7,List.getElem?_nil,Option.getD_none,List.getElem?_eq_getElem this,Option.getD_some]
  congr 1;grind
 | x :: p,y :: q,0,h=>rfl
 | x :: p,y :: q,i+1,h=>by
  simp only [ac7,List.getElem?_cons_succ]
  exact ax1 p q i (by simp only [List.length_cons] at h;lia)
section
variable {α β:Type}
def N9 [Add α]:List α→Nat→α→List α
 | [],_,_=>[]
 | y :: r,0,x=>(y+x) :: r
 | y :: r,k+1,x=>y :: N9 r k x
theorem ap2 [Add α]:∀ (f:List α) (k:Nat) (x : α),(N9 f k x).length=f.length
 | [],_,_=>rfl
 | _ :: _,0,_=>rfl
 | _ :: r,k+1,x=>by simp [N9,ap2 r k x]
theorem ab7 [Add α]:∀ (f:List α) (k:Nat) (x y : α),f[k]? = some y→f.set k (y+x)=N9 f k x
 | [],_,_,_,h=>by simp at h
 | z :: r,0,x,y,h=>by cases h;rfl
 | z :: r,k+1,x,y,h=>by
  rw [List.set_cons_succ,N9,ab7 r k x y (by simpa using h)]
theorem V6 [Add α]:∀ (f:List α) (k i:Nat) (x : α),i≠k→(N9 f k x)[i]? = f[i]?
 | [],_,_,_,_=>rfl
 | _ :: _,0,0,_,h=>absurd rfl h
 | _ :: _,0,i+1,_,_=>rfl
 | _ :: _,k+1,0,_,_=>rfl
 | _ :: r,k+1,i+1,x,h=>by
  simp only [N9,List.getElem?_cons_succ];exact V6 r k i x (by lia)
theorem Z1 [Add α]:∀ (f:List α) (k:Nat) (x y : α),f[k]? = some y→(N9 f k x)[k]? = some (y+x)
 | [],_,_,_,h=>by simp at h
 | z :: r,0,x,y,h=>by cases h;rfl
 | z :: r,k+1,x,y,h=>by simp only [N9,List.getElem?_cons_succ];exact Z1 r k x y (by simpa using h)
theorem aD5 [Add α] [Add β] (φ : α→β) (hφ:∀ a b,φ (a+b) = φ a + φ b):∀ (f:List α) (k:Nat) (x : α),(N9 f k x).map φ=N9 (f.map φ) k (φ x)
 | [],_,_=>rfl
 | y :: r,0,x=>by simp [N9,hφ]
 | y :: r,k+1,x=>by simp [N9,aD5 φ hφ r k x]
def u0 [Add α] [Mul α] (z : α) (f:List α) (i:Nat) (x : α) (q:List α):Nat→List α
 | 0=>f
 | j+1=>N9 (u0 z f i x q j) (i+j) (x * (q[j]?).getD z)
def y9 [Add α] [Mul α] (z : α) (f p q:List α):Nat→List α
 | 0=>f
 | i+1=>u0 z (y9 z f p q i) i ((p[i]?).getD z) q q.length
theorem X6 [Add α] [Mul α] (z : α) (f:List α) (i:Nat) (x : α) (q:List α):∀ j,(u0 z f i x q j).length=f.length
 | 0=>rfl
 | j+1=>by rw [u0,ap2,X6 z f i x q j]
theorem W9 [Add α] [Mul α] (z : α) (f p q:List α):∀ n,(y9 z f p q n).length=f.length
 | 0=>rfl
 | n+1=>by rw [y9,X6,W9 z f p q n]
theorem ai2 [Add α] [Mul α] (z : α) (f:List α) (i:Nat) (x : α) (q:List α) (k:Nat):∀ j,i+j≤k→(u0 z f i x q j)[k]? = f[k]?
 | 0,_=>rfl
 | j+1,h=>by rw [u0,V6 _ _ _ _ (by lia),ai2 z f i x q k j (by exact Nat.le_of_lt ‹_›)]
theorem au4 [Add α] [Mul α] (z : α) (f p q:List α) (k:Nat):∀ n,n+q.length≤k+1→(y9 z f p q n)[k]? = f[k]?
 | 0,_=>rfl
 | n+1,h=>by rw [y9,ai2 _ _ _ _ _ _ _ (by lia),au4 z f p q k n (by lia)]
end
def R9 (p q:List Rat):List Rat:=if p=[]∨q=[] then [] else y9 0 (List.replicate (p.length+q.length - 1) 0) p q p.length
def ab0 (p q:List Int):List Int:=if p=[]∨q=[] then [] else y9 0 (List.replicate (p.length+q.length - 1) 0) p q p.length
def scl (s:Rat) (ws:List Int):List Rat:=ws.map fun w:Int=>s * (w:Rat)
theorem Q3 (s:Rat) (ws:List Int):(scl s ws).length=ws.length:=by simp [scl]
theorem aK5 (s:Rat) (ws:List Int) (i:Nat):((scl s ws)[i]?).getD 0=s * (((ws[i]?).getD 0:Int):Rat):=by
 unfold scl
 rw [List.getElem?_map]
 cases ws[i]? with
 | none=>show (0:Rat)=s * ((0:Int):Rat);rw [Rat.intCast_zero];grind
 | some w=>rfl
theorem aV3 (s:Rat) (f:List Int) (k:Nat) (x:Int):scl s (N9 f k x)=N9 (scl s f) k (s * (x:Rat)):=
 aD5 (fun w:Int=>s * (w:Rat)) (fun a b=>by rw [Rat.intCast_add];grind) f k x
theorem aA6 (s t:Rat) (f:List Int) (i:Nat) (x:Int) (q:List Int):∀ j,scl (s * t) (u0 0 f i x q j)=u0 0 (scl (s * t) f) i (s * (x:Rat)) (scl t q) j
 | 0=>rfl
 | j+1=>by
  rw [u0,u0,aV3,aA6 s t f i x q j,aK5,Rat.intCast_mul]
  congr 1;grind
theorem aA5 (s t:Rat) (f p q:List Int):∀ n,scl (s * t) (y9 0 f p q n)=y9 0 (scl (s * t) f) (scl s p) (scl t q) n
 | 0=>rfl
 | n+1=>by rw [y9,y9,aA6,aA5 s t f p q n,aK5,Q3]
theorem aS7 (s t:Rat) (p q:List Int):scl (s * t) (ab0 p q)=R9 (scl s p) (scl t q):=by
 unfold ab0 R9
 have e1:(scl s p=[]∨scl t q=[])↔(p=[]∨q=[]):=by simp [scl]
 by_cases h:p=[]∨q=[]
 ·rw [if_pos h,if_pos (e1.mpr h)];rfl
 ·rw [if_neg h,if_neg (fun z=>h (e1.mp z)),aA5,Q3,Q3]
  congr 1
  unfold scl
  rw [List.map_replicate]
  congr 1
  rw [Rat.intCast_zero];grind
theorem aW4 {p q:List Rat} (hp:p≠[]) (hq:q≠[]) {x y:Rat} (hx:p[p.length - 1]? = some x) (hy:q[q.length - 1]? = some y):(R9 p q)[(R9 p q).length - 1]? = some (x * y):=by
 have lp:0<p.length:=List.length_pos_iff.mpr hp
 have lq:0<q.length:=List.length_pos_iff.mpr hq
 unfold R9
 rw [if_neg (by simp [hp,hq]),W9,List.length_replicate]
 obtain ⟨n,hn⟩:∃ n,p.length=n+1:=⟨p.length - 1,by lia⟩
 obtain ⟨m,hm⟩:∃ m,q.length=m+1:=⟨q.length - 1,by lia⟩
 have hx':(p[n]?).getD 0=x:=by
  have:p[n]? = some x:=by rw [hn] at hx;simpa using hx
  rw [this];rfl
 have hy':(q[m]?).getD 0=y:=by
  have:q[m]? = some y:=by rw [hm] at hy;simpa using hy
  rw [this];rfl
 have key:∀ F:List Rat,y9 0 F p q (n+1)=N9 (u0 0 (y9 0 F p q n) n x q m) (n+m) (x * y):=fun F=>by
  rw [y9,hm,u0,hx',hy']
 rw [hn,hm,key]
 have e:n+1+(m+1) - 1 - 1=n+m:=by simp
 rw [e]
 have h0:(u0 (0:Rat) (y9 0 (List.replicate (n+1+(m+1) - 1) 0) p q n) n x q m)[n+m]? = some 0:=by
  rw [ai2 _ _ _ _ _ _ _ (by simp),au4 _ _ _ _ _ _ (by rw [hm];lia),List.getElem?_replicate,if_pos (by simp)]
 rw [Z1 _ _ _ _ h0]
 congr 1;grind
theorem aM2 {p q:List Rat} (hp:p≠[]) (hq:q≠[]):(R9 p q).length=p.length+q.length - 1:=by
 unfold R9
 rw [if_neg (by simp [hp,hq]),W9,List.length_replicate]
def m5 (qs:List Rat):Nat:=qs.foldl (fun b q=>Nat.lcm b q.den) 1
theorem aW8 (qs:List Rat) (q:Rat):m5 (qs++[q])=Nat.lcm (m5 qs) q.den:=by simp [m5]
theorem aq4:∀ (qs:List Rat) (b m:Nat),b ∣ m→(∀ q∈qs,q.den ∣ m)→qs.foldl (fun b q=>Nat.lcm b q.den) b ∣ m
 | [],_,_,h,_=>h
 | q :: qs,b,m,h,k=>aq4 qs _ m (Nat.lcm_dvd h (k q List.mem_cons_self)) fun r hr=>k r (List.mem_cons_of_mem _ hr)
theorem av4 {qs:List Rat} {m:Nat} (h:∀ q∈qs,q.den ∣ m):m5 qs ∣ m:=aq4 qs 1 m (Nat.one_dvd _) h
theorem al0:∀ (qs:List Rat) (b:Nat),b ∣ qs.foldl (fun b q=>Nat.lcm b q.den) b
 | [],_=>Nat.dvd_refl _
 | q :: qs,b=>Nat.dvd_trans (Nat.dvd_lcm_left _ _) (al0 qs _)
theorem aq2:∀ (qs:List Rat) (b:Nat) (q:Rat),q∈qs→q.den ∣ qs.foldl (fun b q=>Nat.lcm b q.den) b
 | r :: qs,b,q,h=>by
  rcases List.mem_cons.mp h with e | e
  ·subst e;exact Nat.dvd_trans (Nat.dvd_lcm_right _ _) (al0 qs _)
  ·exact aq2 qs _ q e
theorem O1 {qs:List Rat} {q:Rat} (h:q∈qs):q.den ∣ m5 qs:=aq2 qs 1 q h
def u8 (ws:List Int):Nat:=ws.foldl (fun c w=>Int.gcd w c) 0
theorem aX2 (ws:List Int) (w:Int):u8 (ws++[w])=Int.gcd w (u8 ws):=by simp [u8]
theorem aq6:∀ (ws:List Int) (c:Nat),(ws.foldl (fun c w=>Int.gcd w c) c ∣ c)∧∀ w∈ws,((ws.foldl (fun c w=>Int.gcd w c) c:Nat):Int) ∣ w
 | [],c=>⟨Nat.dvd_refl _,by simp⟩
 | w :: ws,c=>by
  obtain ⟨h1,h2⟩:=aq6 ws (Int.gcd w c)
  have a1:Int.gcd w c ∣ c:=by have:=Int.gcd_dvd_right w (c:Int);exact Int.natCast_dvd_natCast.mp this
  refine ⟨Nat.dvd_trans h1 a1,fun v hv=>?_⟩
  rcases List.mem_cons.mp hv with e | e
  ·subst e
   exact Int.dvd_trans (Int.natCast_dvd_natCast.mpr h1) (Int.gcd_dvd_left v (c:Int))
  ·exact h2 v e
theorem N7 {ws:List Int} {w:Int} (h:w∈ws):((u8 ws:Nat):Int) ∣ w:=(aq6 ws 0).2 w h
theorem aq5:∀ (ws:List Int),ws.foldl (fun c w=>Int.gcd w c) 1=1
 | []=>rfl
 | w :: ws=>by
  rw [List.foldl_cons]
  have:Int.gcd w ((1:Nat):Int)=1:=by simp
  rw [this,aq5 ws]
theorem bg0 {ws:List Int} (i:Nat) (h:u8 (ws.take i)=1):u8 ws=1:=by
 have e:ws=ws.take i++ws.drop i:=(List.take_append_drop i ws).symm
 rw [e]
 unfold u8 at h ⊢
 rw [List.foldl_append,h,aq5]
def j1 (B:Nat) (qs:List Rat):List Int:=qs.map fun q=>q.num * (B:Int).fdiv (q.den:Int)
theorem as5 {B:Nat} {q:Rat} (hB:0<B) (h:q.den ∣ B):q=Rat.divInt (q.num * (B:Int).fdiv (q.den:Int)) B:=by
 obtain ⟨e,he⟩:=h
 have hd:(q.den:Int)≠0:=by have:=q.den_nz;lia
 have e1:(B:Int).fdiv (q.den:Int)=(e:Int):=by
  rw [he,Int.natCast_mul];exact j2 hd
 rw [e1]
 conv=>lhs;rw [←Rat.num_divInt_den q]
 rw [Rat.divInt_eq_divInt_iff hd (by omega),he,Int.natCast_mul]
 grind
end R
namespace L2
open PySem PySem.Spec PyProof.Rows
section
variable {K:PySem.W.Frag} {a b D:Addr} {xs ys:List V} {g:TG} {te:TE} {σ0:St} {H0:Hp} {Q:VK}
theorem bu7 (xs ys:List V) (Pv:Nat→St→Hp→Prop) (h0:Pv 0 σ0 H0) (hl:∀ i σ H,Pv i σ H→SqL K H a xs∧SqL K H b ys)
  (hs:∀ i x y σ H p,xs[i]? = some x→ys[i]? = some y→Pv i σ H→H p=none→g (.ref p) σ (upd H p (.tup [x,y])) fun σ4 H4=>te σ4 H4 fun v H5=>G8 D (min xs.length ys.length) Pv i σ4 v H5)
  (hd:∀ σ H,Pv (min xs.length ys.length) σ H→Q (.ref D) H):al9 (Itz K a b) D σ0 H0 g te Q:=by
 refine ⟨fun i m σ H=>m=min xs.length ys.length - i∧i≤min xs.length ys.length∧Pv i σ H,⟨_,rfl,Nat.zero_le _,h0⟩,?_⟩
 rintro i m σ H ⟨rfl,hi,p⟩
 obtain ⟨q,q'⟩:=hl i σ H p
 by_cases hlt:i<min xs.length ys.length
 ·have h1:i<xs.length:=by lia
  have h2:i<ys.length:=by lia
  refine .inr ⟨⟨xs,ys,xs[i],ys[i],q,q',List.getElem?_eq_getElem h1,List.getElem?_eq_getElem h2⟩,?_⟩
  intro v H3 hy
  obtain ⟨x,y,r,e1,e2,hr,rfl,rfl⟩:=hy xs ys q q'
  exact hs i x y σ _ r e1 e2 p hr
 ·have e:i=min xs.length ys.length:=by lia
  subst e
  exact .inl ⟨⟨xs,ys,q,q',by lia⟩,hd σ H p⟩
theorem bl7 (xs:List V) (Pv:Nat→St→Hp→Prop) (h0:Pv 0 σ0 H0) (hl:∀ i σ H,Pv i σ H→SqL K H a xs)
  (hs:∀ i x σ H p,xs[i]? = some x→Pv i σ H→H p=none→g (.ref p) σ (upd H p (.tup [.int i,x])) fun σ4 H4=>te σ4 H4 fun v H5=>G8 D xs.length Pv i σ4 v H5)
  (hd:∀ σ H,Pv xs.length σ H→Q (.ref D) H):al9 (Ite K a) D σ0 H0 g te Q:=by
 refine ⟨fun i m σ H=>m=xs.length - i∧i≤xs.length∧Pv i σ H,⟨_,rfl,Nat.zero_le _,h0⟩,?_⟩
 rintro i m σ H ⟨rfl,hi,p⟩
 have q:=hl i σ H p
 by_cases hlt:i<xs.length
 ·refine .inr ⟨⟨xs,xs[i],q,List.getElem?_eq_getElem hlt⟩,?_⟩
  intro x H3 hy
  obtain ⟨y,r,hy1,hr,rfl,rfl⟩:=hy xs q
  exact hs i y σ _ r hy1 p hr
 ·have e:i=xs.length:=by omega
  subst e
  exact .inl ⟨⟨xs,q,Nat.le_refl _⟩,hd σ H p⟩
theorem ab5 {tb:TS} {E:ai6} {σ:St} {H:Hp} (xs:List V) (Pv:Nat→St→Hp→Prop) (h0:Pv 0 σ H) (hl:∀ i σ H,Pv i σ H→SqL K H a xs)
  (hs:∀ i x σ H p,xs[i]? = some x→Pv i σ H→H p=none→g (.ref p) σ (upd H p (.tup [.int i,x])) fun σ2 H2=>tb { E with nx:=Pv (i+1),ct:=Pv (i+1),bk:=E.nx } σ2 H2) (hd:∀ σ H,Pv xs.length σ H→E.nx σ H) :
  ∃ W:Nat→Nat→St→Hp→Prop,(∃ m,W 0 m σ H)∧∀ i m σ H,W i m σ H →
   ((Ite K a).stop i H∧E.nx σ H)∨((Ite K a).go i H∧∃ N:St→Hp→Prop,(∀ σ' H',N σ' H'→∃ m',m'<m∧W (i+1) m' σ' H')∧∀ x H',(Ite K a).yld i H x H'→g x σ H' fun σ2 H2=>tb { E with nx:=N,ct:=N,bk:=E.nx } σ2 H2):=by
 refine ⟨fun i m σ H=>m=xs.length - i∧i≤xs.length∧Pv i σ H,⟨_,rfl,Nat.zero_le _,h0⟩,?_⟩
 rintro i m σ H ⟨rfl,hi,p⟩
 have q:=hl i σ H p
 by_cases hlt:i<xs.length
 ·refine .inr ⟨⟨xs,xs[i],q,List.getElem?_eq_getElem hlt⟩,Pv (i+1),fun σ' H' n=>⟨_,by omega,rfl,hlt,n⟩,?_⟩
  intro x H3 hy
  obtain ⟨y,r,hy1,hr,rfl,rfl⟩:=hy xs q
  exact hs i y σ _ r hy1 p hr
 ·have e:i=xs.length:=by omega
  subst e
  exact .inl ⟨⟨xs,q,Nat.le_refl _⟩,hd σ H p⟩
end
section
variable {X:Cx}
theorem av6:bx9 X (aO2 X.K):=by
 intro pins s σ H x y v u Q I rx ry h
 obtain ⟨p,xs,i,z,rfl,rfl,hq,he,q⟩:=h
 cases rx
 obtain ⟨t,rfl⟩:=ry
 obtain ⟨its,r,pl,hz⟩:=I.list hq
 obtain ⟨j,h1,h2,h3,h4,h5⟩:=aI6 he
 obtain ⟨w,ew,rw'⟩:=r.get h2
 have hl:=r.length
 have hn:=ae3
 have fin:EP X pins σ Q w s:=⟨z,H,I,rw',q⟩
 by_cases h0:0≤i
 ·have hj:i.toNat=j:=by
   rw [seqIndex_of h0 h5] at h1
   exact Option.some.inj h1
  exact wpAny_getItem_list pl.isList h0 (by omega) (by rw [hj];simpa using ew) fin
 ·have hj:(i+(its.toArray.size:Int)).toNat=j:=by
   rw [seqIndex_neg (by omega) h4] at h1
   rw [List.size_toArray,←hl]
   exact Option.some.inj h1
  exact wpAny_getItem_list_neg pl.isList (by omega) (by rw [List.size_toArray] <;> omega) (by omega) (by rw [hj];simpa using ew) fin
end
end L2
set_option maxRecDepth 100000
namespace R
open PySem L2 PyProof.Rows
def j7 (f:Nat→Rat):Nat→Rat
 | 0=>0
 | n+1=>j7 f n+f n
theorem ad6 (f:Nat→Rat):∀ n,j7 f (n+1)=f 0+j7 (fun i=>f (i+1)) n
 | 0=>by simp only [j7];grind
 | n+1=>by
  rw [j7,ad6 f n,j7];grind
theorem p7 {f g:Nat→Rat}:∀ {n},(∀ i,i<n→f i=g i)→j7 f n=j7 g n
 | 0,_=>rfl
 | n+1,h=>by rw [j7,j7,p7 fun i hi=>h i (by exact Nat.lt_succ_of_lt ‹_›),h n (by simp)]
theorem ag6:∀ (n:Nat) (f:Nat→Rat),j7 f n=j7 (fun i=>f (n - 1 - i)) n
 | 0,_=>rfl
 | n+1,f=>by
  rw [ad6 (fun i=>f (n+1 - 1 - i)) n,j7,ag6 n f]
  have:j7 (fun i=>f (n - 1 - i)) n=j7 (fun i=>f (n+1 - 1 - (i+1))) n:=p7 fun i hi=>by congr 1;lia
  rw [this]
  show _=f (n+1 - 1 - 0)+_
  rw [show n+1 - 1 - 0=n by simp]
  grind
theorem Y1 {f:Nat→Rat} {m:Nat}:∀ {n},m≤n→(∀ i,m≤i→i<n→f i=0)→j7 f n=j7 f m
 | 0,h,_=>by rw [show m=0 by lia]
 | n+1,h,z=>by
  by_cases e:m=n+1
  ·rw [e]
  ·rw [j7,z n (by lia) (by simp),Y1 (n:=n) (by omega) fun i a b=>z i a (by exact Nat.lt_succ_of_lt ‹_›)]
   grind
theorem aB8 (f:List Rat) (i:Nat) (x:Rat) (q:List Rat) {k:Nat} (y:Rat) (hy:f[k]? = some y):∀ j,(u0 0 f i x q j)[k]? = some (y+if i≤k∧k<i+j then x * (q[k - i]?).getD 0 else 0)
 | 0=>by
  rw [u0,hy,if_neg (by simp)];congr 1;grind
 | j+1=>by
  have ih:=aB8 f i x q y hy j
  rw [u0]
  by_cases e:k=i+j
  ·subst e
   rw [Z1 _ _ _ _ ih,if_neg (by simp),if_pos (by simp),show i+j - i=j by simp]
   congr 1;grind
  ·rw [V6 _ _ _ _ e,ih]
   by_cases h:i≤k∧k<i+j
   ·rw [if_pos h,if_pos (by lia)]
   ·rw [if_neg h,if_neg (by lia)]
def aE0 (p q:List Rat) (k i:Nat):Rat:=if i≤k then (p[i]?).getD 0 * (q[k - i]?).getD 0 else 0
theorem aB4 (f p q:List Rat) {k:Nat} (hy:f[k]? = some 0):∀ n,(y9 0 f p q n)[k]? = some (j7 (aE0 p q k) n)
 | 0=>hy
 | n+1=>by
  rw [y9,aB8 _ _ _ _ _ (aB4 f p q hy n),j7]
  congr 2
  unfold aE0
  by_cases h:n≤k
  ·rw [if_pos h]
   by_cases h2:k<n+q.length
   ·rw [if_pos ⟨h,h2⟩]
   ·rw [if_neg (by lia),List.getElem?_eq_none (l:=q) (by omega)]
    show (0:Rat)=_ * 0
    grind
  ·rw [if_neg h,if_neg (by lia)]
theorem be2 {p q:List Rat} (hp:p≠[]) (hq:q≠[]) {k:Nat} (hk:k<p.length+q.length - 1):(R9 p q)[k]? = some (j7 (fun i=>(p[i]?).getD 0 * (q[k - i]?).getD 0) (k+1)):=by
 unfold R9
 rw [if_neg (by simp [hp,hq]),aB4 _ _ _ (by rw [List.getElem?_replicate,if_pos hk])]
 congr 1
 have h1:j7 (aE0 p q k) (max p.length (k+1))=j7 (aE0 p q k) p.length:=Y1 (by lia) fun i a _=>by
  unfold aE0
  rw [List.getElem?_eq_none a]
  split
  ·show (0:Rat) * _=0;grind
  ·rfl
 have h2:j7 (aE0 p q k) (max p.length (k+1))=j7 (aE0 p q k) (k+1):=Y1 (by lia) fun i a _=>by
  unfold aE0
  rw [if_neg (by lia)]
 rw [←h1,h2]
 exact p7 fun i hi=>by unfold aE0;rw [if_pos (by lia)]
end R
namespace L2
theorem e9 {t R:TS} {D:ai6} {σ:St} {H:Hp} (P:St→Hp→Prop) (first:∀ N:St→Hp→Prop,(∀ σ H,P σ H→N σ H)→t { D with nx:=N } σ H) (ar0:∀ σ H,P σ H→R D σ H):bi0 t R D σ H:=first _ ar0
end L2
set_option maxRecDepth 100000
namespace R
section
variable {α:Type} [Lean.Grind.CommRing α]
def syn (c : α):List α→List α
 | []=>[]
 | a :: p=>match syn c p with
  | []=>[a]
  | h :: t=>(a+c * h) :: h :: t
def pass (c : α) (k:Nat) (l:List α):List α:=l.take k++syn c (l.drop k)
end
open PySem L2 PyProof.Rows
structure Bd6 (q:Rat):Prop where
 n:q.num.natAbs<2 ^ 6000
 d:q.den<2 ^ 6000
theorem BdN.bd6 {n:Nat} {q:Rat} (h:BdN n q) (l:n≤6000):Bd6 q:=⟨Nat.lt_of_lt_of_le h.n (d6 l),Nat.lt_of_lt_of_le h.d (d6 l)⟩
theorem aq1:∀ (qs:List Rat) (b:Nat),0<b→0<qs.foldl (fun b q=>Nat.lcm b q.den) b
 | [],b,h=>h
 | q :: qs,b,h=>aq1 qs _ (Nat.lcm_pos h (by have:=q.den_nz;lia))
theorem C2 (qs:List Rat):0<m5 qs:=aq1 qs 1 (by decide)
theorem aq3 (m:Nat):∀ (qs:List Rat) (b n:Nat),0<b→b<2 ^ n→(∀ q∈qs,q.den<2 ^ m)→qs.foldl (fun b q=>Nat.lcm b q.den) b<2 ^ (n+m * qs.length)
 | [],b,n,h0,h,_=>by simpa using h
 | q :: qs,b,n,h0,h,k=>by
  have hd:0<q.den:=by have:=q.den_nz;lia
  have h1:0<Nat.lcm b q.den:=Nat.lcm_pos h0 hd
  have h2:Nat.lcm b q.den≤b * q.den:=Nat.le_of_dvd (Nat.mul_pos h0 hd) (Nat.lcm_dvd (Nat.dvd_mul_right _ _) (Nat.dvd_mul_left _ _))
  have h3:b * q.den<2 ^ (n+m):=by rw [Nat.pow_add];exact Nat.mul_lt_mul'' h (k q List.mem_cons_self)
  have ih:=aq3 m qs (Nat.lcm b q.den) (n+m) h1 (by lia) fun r hr=>k r (List.mem_cons_of_mem _ hr)
  have e:n+m+m * qs.length=n+m * (q :: qs).length:=by rw [List.length_cons,Nat.mul_succ];lia
  rw [e] at ih
  exact ih
theorem be8 {m:Nat} {qs:List Rat} (h:∀ q∈qs,q.den<2 ^ m):m5 qs<2 ^ (1+m * qs.length):=aq3 m qs 1 1 (by decide) (by decide) h
theorem aI5 (qs:List Rat):Int.gcd (u8 (j1 (m5 qs) qs):Int) (m5 qs:Int)=1:=by
 have hB:=C2 qs
 have key:∀ c:Nat,c ∣ u8 (j1 (m5 qs) qs)→c ∣ m5 qs→c=1:=by
  intro c h1 h2
  have hc:0<c:=Nat.pos_of_dvd_of_pos h2 hB
  have h3:m5 qs ∣ m5 qs / c:=by
   refine av4 fun q hq=>?_
   obtain ⟨e,he⟩:=O1 hq
   have hd:(q.den:Int)≠0:=by have:=q.den_nz;lia
   have e1:(m5 qs:Int).fdiv (q.den:Int)=(e:Int):=by
    rw [he,Int.natCast_mul];exact j2 hd
   have m1:(c:Int) ∣ q.num * (e:Int):=by
    have:=Int.dvd_trans (Int.natCast_dvd_natCast.mpr h1) (N7 (List.mem_map.mpr ⟨q,hq,rfl⟩))
    rw [e1] at this;exact this
   have m2:c ∣ q.num.natAbs * e:=by
    have:=Int.natAbs_dvd_natAbs.mpr m1
    rw [Int.natAbs_mul] at this
    simpa using this
   have m3:c ∣ q.den * e:=by rw [←he];exact h2
   have m4:c ∣ e:=by
    have:=Nat.dvd_gcd m2 m3
    rw [Nat.gcd_mul_right] at this
    have hg:Nat.gcd q.num.natAbs q.den=1:=q.reduced
    rw [hg,Nat.one_mul] at this
    exact this
   obtain ⟨f,hf⟩:=m4
   rw [he,hf]
   refine ⟨f,?_⟩
   rw [show q.den * (c * f)=c * (q.den * f) by grind,Nat.mul_div_cancel_left _ hc]
  have h4:=Nat.le_of_dvd (Nat.div_pos (Nat.le_of_dvd hB h2) hc) h3
  have h5:=Nat.div_mul_cancel h2
  by_cases hc1:c=1
  ·exact hc1
  ·have:m5 qs / c * 2≤m5 qs / c * c:=Nat.mul_le_mul_left _ (by lia)
   lia
 have z:=key (Int.gcd (u8 (j1 (m5 qs) qs):Int) (m5 qs:Int))
 refine z ?_ ?_
 ·exact Int.natCast_dvd_natCast.mp (Int.gcd_dvd_left _ _)
 ·exact Int.natCast_dvd_natCast.mp (Int.gcd_dvd_right _ _)
def ap6 (ws:List Int):Int:=ws.foldl (fun p v=>if v=0 then p else p * v) 1
theorem au0 (ws:List Int) (v:Int):ap6 (ws++[v])=if v=0 then ap6 ws else ap6 ws * v:=by simp [ap6]
theorem ac3:∀ (ws:List Int) (p:Int),p ∣ ws.foldl (fun p v=>if v=0 then p else p * v) p
 | [],p=>Int.dvd_refl _
 | v :: ws,p=>by
  simp only [List.foldl_cons]
  by_cases h:v=0
  ·rw [if_pos h];exact ac3 ws p
  ·rw [if_neg h];exact Int.dvd_trans ⟨v,rfl⟩ (ac3 ws _)
theorem ak9:∀ (ws:List Int) (p v:Int),v∈ws→v≠0→v ∣ ws.foldl (fun p v=>if v=0 then p else p * v) p
 | [],p,v,h,_=>by cases h
 | u :: ws,p,v,h,hv=>by
  simp only [List.foldl_cons]
  rcases List.mem_cons.mp h with e | e
  ·subst e
   rw [if_neg hv]
   exact Int.dvd_trans ⟨p,Int.mul_comm _ _⟩ (ac3 ws _)
  ·exact ak9 ws _ v e hv
theorem aV7 {ws:List Int} {v:Int} (h:v∈ws) (hv:v≠0):v ∣ ap6 ws:=ak9 ws 1 v h hv
theorem bf9 {b p v:Int} (h:v ∣ p):Int.gcd (Int.gcd b p:Nat) v=Int.gcd b v:=by
 refine Nat.dvd_antisymm ?_ ?_
 ·refine Int.dvd_gcd ?_ ?_
  ·exact Int.dvd_trans (Int.gcd_dvd_left _ _) (Int.gcd_dvd_left _ _)
  ·exact Int.gcd_dvd_right _ _
 ·refine Int.dvd_gcd ?_ (Int.gcd_dvd_right _ _)
  exact Int.natCast_dvd_natCast.mpr (Int.dvd_gcd (Int.gcd_dvd_left _ _) (Int.dvd_trans (Int.gcd_dvd_right _ _) h))
end R
set_option maxRecDepth 100000
namespace L2
open PySem PySem.Spec PyProof.Rows
theorem aW2 {h:Heap} {a:Addr} {m:Str→Option Value} {o:Obj} (n:h.Ns a m) (e:h.get? a=some o) (v:Option Value) (z:o.data = .cell v):False:=by
 obtain ⟨o',es,ep,e',r⟩:=n
 rw [e] at e'
 cases e'
 have d:=r.1
 rw [d] at z;cases z
section
variable {X:Cx}
theorem P2 {elt tg iter:Expr} {scope:Scope} {pos spos py:Pos} {y:Str} {i₀:Nat} {cl:List (Str × Addr)} {Nc:List Str} {caps:List (Option Nat)} {wi:TI} {g:TG} {te:TE} (hN:X.N.Nodup) (hi₀:X.N[i₀]? = some y) (hx:Loc X.env.scope y) (hc:X.calm=true) (cp:Z3 X scope cl Nc caps) (hi:PI X tg iter wi)
  (hg:∀ C s₂ H₂ fp pins,PG (X.block scope cl C Nc s₂ H₂ fp pins) tg g) (he:∀ C s₂ H₂ fp pins,PE (X.block scope cl C Nc s₂ H₂ fp pins) elt te) (hs:∀ x,foldedSetIterable iter X.env x=pure x:=by intro _;rfl) (hsw:swapsWith (.ListComp elt [⟨tg,iter,[],0⟩] scope pos) (some (.Name y py)) spos.line X.env=pure true:=by rfl)
  (hf:X.fn y=true∨X.env.scope.names.lookup y=some .local:=by first | exact .inl rfl | exact .inr rfl | assumption) :
  PS X (.Assign [.Name y py] (.ListComp elt [⟨tg,iter,[],0⟩] scope pos) spos) (ba4 (ba2 wi caps g te) (n8 i₀)):=by
 intro pins s σ H DD I h
 rw [exec_Assign_Name_used _ _ _ _ hsw]
 refine wpAny_bind (wpAny_standAt (wpAny_bind ?_))
 show wpAny _ X.A (do let _ ←comprehension (.ListComp elt [⟨tg,iter,[],0⟩] scope pos) scope X.env _ (newList []) false (eval iter X.env) (some (assign (.Name y py) X.env))) _ _ s
 refine wpAny_bind (wpAny_mono (wpAny_comprehension_free (use:=some (assign (.Name y py) X.env)) (Q:=fun _ s'=>SP X pins DD .next s') rfl hs cp.clos cp.kind cp.names ?_) (fun _ s' hq=>wpAny_pure (wpAny_pure hq)) fun _ _ e=>e)
 refine thn (hi pins s σ H _ I h) fun v s1 h1=>thn h1 fun itv s2 h2=>?_
 obtain ⟨it,fp,tn,J,H2,e,I2,T,st2,f2,hW⟩:=h2
 subst e
 refine wpAny_newObj_type ?_ (by show 0≤sizeLine;exact Nat.zero_le _)
 refine wpAny_newFunctionEnv cp.nocell (by intro y hy;simp at hy) (fun h4 hns hsb=>?_) cp.kind
 dsimp only at hns hsb ⊢
 generalize hH3:s2.heap.push { cls:=.type "list",dict:=none,data:=.seq ([]:List Value).toArray }=H3 at hns hsb ⊢
 have hCe:H3.objs.size=s2.heap.objs.size+1:=by rw [←hH3,Heap.size_push]
 have al8:∀ b o,s2.heap.get? b=some o→b≠H3.objs.size:=fun b o e=>by rw [hCe];exact Nat.ne_of_lt (Nat.lt_succ_of_lt (Heap.lt_size e))
 have old:∀ b o,s2.heap.get? b=some o→h4.get? b=some o:=fun b o e=>hsb.extBut b o (al8 b o e) (Heap.get?_push_of_some _ (hH3 ▸ Heap.get?_push_of_some _ e))
 have hD:h4.get? s2.heap.objs.size=some { cls:=.type "list",dict:=none,data:=.seq ([]:List Value).toArray }:=
  hsb.extBut _ _ (by rw [hCe];exact Nat.ne_of_lt (Nat.lt_succ_self _)) (Heap.get?_push_of_some _ (hH3 ▸ Heap.get?_push_size _ rfl))
 have hDn:H2 s2.heap.objs.size=none:=I2.fresh
 have hCn:H2 H3.objs.size=none:=I2.hok.fresh (by rw [hCe];exact Nat.le_succ _)
 have hCs:s2.heap.objs.size≤H3.objs.size:=by rw [hCe];exact Nat.le_succ _
 have hDC:s2.heap.objs.size≠H3.objs.size:=by rw [hCe];exact Nat.ne_of_lt (Nat.lt_succ_self _)
 have fpl:∀ b∈fp,∃ o,s2.heap.get? b=some o:=fun b hb=>let ⟨o,e,_⟩:=T.obj _ _ st2 b hb;⟨o,e⟩
 have fpC:∀ b∈fp,b≠H3.objs.size:=fun b hb=>let ⟨o,e⟩:=fpl b hb;al8 b o e
 have fpD:∀ b∈fp,b≠s2.heap.objs.size:=fun b hb=>let ⟨o,e⟩:=fpl b hb;Nat.ne_of_lt (Heap.lt_size e)
 have stkN:∀ b,b≠X.env.locals→b ∉ X.fs→b ∉ frs X.stack:=fun b h1 h2 z=>(List.mem_cons.mp (I2.stkSub b z)).elim h1 h2
 obtain ⟨W,⟨m0,w0⟩,turn⟩:=hW s2.heap.objs.size hDn
 have okB:(X.block scope cl H3.objs.size Nc s2 H2 fp pins).Ok:=by
  refine ⟨I2.ok.mod,?_,I2.ok.glob,I2.ok.blt,hCs,fun x y c h1 h2=>I2.ok.inj x y c (cp.sub x c h1) (cp.sub y c h2),fun x hx=>cp.has x hx,fun x c h=>(by cases h),I2.ok.hd,I2.ok.frames,.inl rfl,fun b hb=>⟨fpC b hb,fun x c h=>(f2 b hb).2.2.2.2.1 x c (cp.sub x c h)⟩,I2.bs,Nat.le_trans I2.ok.bsz I2.sz,fun b o e hb=>?_,fun b hb=>stkN b (f2 b hb).2.1 (f2 b hb).2.2.1,I2.stack,I2.stkFree⟩
  ·exact cp.kind
  ·rcases (f2 b hb).2.2.2.1 with z | z
   ·exact I2.ok.noex b o e z
   ·exact absurd (Nat.lt_of_lt_of_le (Heap.lt_size e) (Nat.le_trans I2.ok.bsz z)) (Nat.lt_irrefl _)
 have hokB:HOk X.prog X.w (upd H2 s2.heap.objs.size (.lst [])) h4:=I2.hok.laid old (Nat.le_refl _) ⟨Nat.zero_le _,[],_,.nil,hD⟩
 have IB:Inv (X.block scope cl H3.objs.size Nc s2 H2 fp pins) [] (Z9 caps σ) (upd H2 s2.heap.objs.size (.lst [])) { s2 with heap:=h4,toks:=s2.toks+([]:List (Str × Value)).length }:=by
  refine ⟨okB,rfl,I2.bare,Un.laid old (Nat.le_refl _) hDn,⟨_,hns,fun i x v e1 e2 e3=>?_⟩,fun x c e=>?_,(show upd H2 s2.heap.objs.size (.lst []) H3.objs.size=none by rw [j0 (Ne.symm hDC)];exact hCn),fun x c e=>?_,fun p hp=>?_,hokB,?_⟩
  ·unfold Z9 at e2
   rw [List.getElem?_map] at e2
   cases hcap:caps[i]? with
   | none=>rw [hcap] at e2;cases e2
   | some o=>
    rw [hcap] at e2
    cases o with
    | none=>cases e2
    | some j=>
     have hj:σ[j]? = some (some v):=by
      have e2':(σ[j]?).join=some v:=Option.some.inj e2
      cases q:σ[j]? with
      | none=>rw [q] at e2';cases e2'
      | some z=>rw [q] at e2';exact congrArg some e2'
     obtain ⟨n1,n2,n3,n4⟩:=cp.cap i j x hcap e1
     obtain ⟨m,hm,hl⟩:=I2.loc
     obtain ⟨u,r,q⟩:=hl j x v n1 hj n2
     rcases q with ⟨k,_⟩ | ⟨k,c,ec,z⟩
     ·exact absurd k n3
     ·obtain ⟨c',ec'⟩:=cp.has x n4
      have:=cp.sub x c' ec'
      rw [ec] at this;cases this
      obtain ⟨oc,ho,hd⟩:=z
      exact ⟨u,r,.inr ⟨n4,c,ec',oc,old _ _ ho,hd⟩⟩
  ·obtain ⟨v,oc,ho,hd⟩:=I2.cell x c (cp.sub x c e)
   exact ⟨v,oc,old _ _ ho,hd⟩
  ·obtain ⟨v,oc,ho,hd⟩:=I2.cell x c (cp.sub x c e)
   rw [j0 (Nat.ne_of_lt (Heap.lt_size ho))]
   exact I2.freeC x c (cp.sub x c e)
  ·have hp':p∈X.pn++pins:=by simpa using hp
   obtain ⟨e1,e2,e3,e4,e5⟩:=I2.pin p hp'
   exact ⟨old _ _ e1,by rw [j0 (Nat.ne_of_lt (Heap.lt_size e1))];exact e2,al8 _ _ e1,stkN _ e3 e4,e5⟩
  ·show (Z9 caps σ).length=Nc.length
   unfold Z9
   rw [List.length_map];exact cp.len
 have stat:∀ {H':Hp},(∀ b∈fp,H' b=none)→∀ b∈fp,ar9 (X.block scope cl H3.objs.size Nc s2 H2 fp pins) [] H' b:=fun hn b hb=>
  ⟨hn b hb,fpC b hb,stkN b (f2 b hb).2.1 (f2 b hb).2.2.1,.inl hb,fun x c h=>(f2 b hb).2.2.2.2.1 x c (cp.sub x c h),fun p hp=>(f2 b hb).2.2.2.2.2 p (by simpa using hp)⟩
 have loop:∀ s5:Shared,s5={ s2 with heap:=h4,toks:=s2.toks+([]:List (Str × Value)).length } →
   codeAny (model X.prog X.w) X.A (.compLoop (.ListComp elt [⟨tg,iter,[],0⟩] scope pos) 0 (.ref it) (.ref s2.heap.objs.size) (compEnvC scope cl H3.objs.size X.env))
    (compPost (model X.prog X.w) X.A X.xe (some (assign (.Name y py) X.env)) (fun _ s'=>SP X pins DD .next s') (.ref s2.heap.objs.size) H3.objs.size) s5:=by
  rintro s5 rfl
  refine aC7 (fun n s'=>∃ i σ' H',Inv (X.block scope cl H3.objs.size Nc s2 H2 fp pins) [] σ' H' s'∧tn i s'.heap∧(∀ b∈fp,H' b=none)∧W i n σ' H') ?_ m0 ⟨0,_,_,IB,T.keep _ _ _ st2 fun b hb o e=>old b o e,fun b hb=>by rw [j0 (fpD b hb)];exact (f2 b hb).1,w0⟩
  rintro n s6 ⟨i,σ6,H6,I6,st6,fr6,w6⟩
  rcases turn i n σ6 H6 w6 with ⟨stop,qn⟩ | ⟨go,step⟩
  ·refine thn (T.done (X.block scope cl H3.objs.size Nc s2 H2 fp pins) rfl rfl rfl hc i [] s6 σ6 H6 _ I6 (stat fr6) st6 stop) fun r s7 ⟨hr,I7⟩=>?_
   subst hr
   obtain ⟨m7,hn7,_⟩:=id I7.loc
   have Io:Inv X pins σ H6 s7:=I2.sameC (h'':=s7.heap) f2 I7.os I7.bare I7.base I7.hok hCs I7.free ⟨rfl,fun _ _=>rfl⟩
   have fC:ar9 X pins H6 H3.objs.size:=I2.fpOk hCs I7.free
   have fC':∀ b∈[H3.objs.size],ar9 X pins H6 b:=fun b hb=>by rw [List.mem_singleton.mp hb];exact fC
   obtain ⟨oC,esC,epC,hoC,restC⟩:=id hn7
   have obC:∀ b∈[H3.objs.size],∃ o,s7.heap.get? b=some o∧∀ v,o.data≠.cell v:=fun b hb=>by
    rw [List.mem_singleton.mp hb]
    exact ⟨oC,hoC,fun v z=>aW2 hn7 hoC v z⟩
   have Ip:=Io.pinned fC' obC
   show wpAny (model X.prog X.w) X.A (assign (.Name y py) X.env (.ref s2.heap.objs.size)) _ _ s7
   refine thn (e8 (pos:=py) hN hi₀ hx hf _ s7 σ H6 (.ref s2.heap.objs.size) (.ref s2.heap.objs.size) DD.nx Ip rfl qn) fun _ s9 ⟨σ9,H9,I9,q9⟩=>?_
   have keepC:=(I9.pin (H3.objs.size,oC) (List.mem_append_right _ (List.mem_append_right _ (M7 (by simp) hoC)))).1
   have H9C:=(I9.pin (H3.objs.size,oC) (List.mem_append_right _ (List.mem_append_right _ (M7 (by simp) hoC)))).2.1
   refine ⟨m7,hn7.at' fun o e=>by rw [hoC] at e;cases e;exact keepC,fun h' sb=>?_⟩
   obtain ⟨_,g1,g2,g3,g4,g5⟩:=fC
   exact ⟨σ9,H9,I9.unpinned.turned (t':=s9.toks) (fun b o hb e=>(sb.2 b hb).trans e) H9C g1 g3 g4 g5,q9⟩
  ·refine thn (T.item (X.block scope cl H3.objs.size Nc s2 H2 fp pins) rfl rfl rfl hc i [] s6 σ6 H6 _ I6 (stat fr6) st6 go) fun r s7 ⟨u,hr,h7⟩=>?_
   subst hr
   refine thn h7 fun _ s8 ⟨x,H8,I8,r8,y8,st8,fr8⟩=>?_
   have I8':=I8.pinned (stat fr8) (T.obj _ _ st8)
   refine thn (hg _ _ _ _ _ _ s8 σ6 H8 x u _ I8' r8 (step x H8 y8)) fun _ s9 ⟨σ9,H9,I9,q9⟩=>?_
   refine thn (he _ _ _ _ _ _ s9 σ9 H9 _ I9 q9) fun u10 s10 ⟨v10,H10,I10,r10,ys,hys,hlen,m',hm',w'⟩=>?_
   refine thn (U0 _ s10 σ9 H10 (.ref s2.heap.objs.size) [v10] (.ref s2.heap.objs.size) [u10] (fun _ H11=>H11=upd H10 s2.heap.objs.size (.lst (ys++[v10]))) I10 rfl (.cons r10 .nil) ⟨_,ys,v10,rfl,rfl,hys,hlen,rfl⟩) fun _ s11 ⟨_,H11,I11,_,hH11⟩=>?_
   subst hH11
   refine ⟨m',hm',i+1,σ9,_,I11.unpinned,T.keep _ _ _ st8 fun b hb o e=>(I11.pin (b,o) (List.mem_append_right _ (List.mem_append_right _ (M7 hb e)))).1,fun b hb=>?_,w'⟩
   obtain ⟨o,e,d⟩:=T.obj _ _ st8 b hb
   exact (I11.pin (b,o) (List.mem_append_right _ (List.mem_append_right _ (M7 hb e)))).2.1
 exact codeAny_compStart_list (loop _ rfl) (T.self _ 0 _ _ _ (T.keep _ _ _ st2 fun b hb o e=>old b o e) (loop _ rfl))
end
def Itv (K:PySem.W.Frag) (a:Addr) (n:Nat):It:=
 ⟨fun i H=>i<n∧∃ xs x,SqL K H a xs∧xs[n - 1 - i]? = some x,fun i H x H'=>H'=H∧∀ xs,SqL K H a xs→xs[n - 1 - i]? = some x,fun i H=>i=n⟩
theorem aZ3 {P:Program} {w:World} {K:PySem.W.Frag} {tg:Expr} (a it:Addr) (n:Nat):aY7 P w K tg (Itv K a n) [it] it (fun i h=>h.IsRevIter it a ((n:Int) - 1 - (i:Int))) where
 mem:=by simp
 obj:=fun i h st b hb=>by
  have e:b=it:=by simpa using hb
  subst e
  obtain ⟨o,e,c,d⟩:=st
  exact ⟨o,e,fun v z=>by rw [d] at z;cases z⟩
 keep:=fun i h h' st k=>st.at fun o e=>k it (by simp) o e
 item:=by
  intro X hP hw hK hc i pins s σ H E I hf st hg
  subst hP hw hK
  obtain ⟨hi,xs,x,hq,hx⟩:=hg
  obtain ⟨its,rv,p,hz⟩:=I.list hq
  obtain ⟨u,hu,ru⟩:=rv.get hx
  obtain ⟨f0,f1,f2,f3,f4,f5⟩:=hf it (by simp)
  have e:(n:Int) - 1 - (i:Int)=((n - 1 - i:Nat):Int):=by omega
  rw [e] at st
  refine wpAny_pyNext_rev_item st p.isList (x:=u) (by simpa using hu) fun h' st' sb=>?_
  have I1:Inv X pins σ H { s with heap:=h' }:=I.turned (t':=s.toks) (fun b o hb e=>(sb.2 b hb).trans e) f0 f1 f3 f4 f5
  have e2:((n - 1 - i:Nat):Int) - 1=(n:Int) - 1 - ((i+1:Nat):Int):=by lia
  rw [e2] at st'
  obtain ⟨o,e,c,d⟩:=id st'
  exact ⟨u,rfl,bf8 (s:={ s with heap:=h' }) e c d (by decide) ⟨x,H,I1,ru,⟨rfl,fun ys hy=>by rw [I.list_inj hy hq];exact hx⟩,st',fun b hb=>(hf b hb).1⟩⟩
 done:=by
  intro X hP hw hK hc i pins s σ H E I hf st hg
  subst hP hw hK
  have e:i=n:=hg
  subst e
  have e:(i:Int) - 1 - (i:Int) = -1:=by lia
  rw [e] at st
  obtain ⟨f0,f1,f2,f3,f4,f5⟩:=hf it (by simp)
  exact wpAny_pyNext_rev_end (I.ok.hd hc) st fun h' eb=>⟨rfl,I.turned (t':=s.toks) (fun b o hb e=>eb b o hb e) f0 f1 f3 f4 f5⟩
 self:=fun _ _ _ _ _ st h=>wpAny_pyIter_revIter st h
section
variable {X:Cx}
def bu0 (K:PySem.W.Frag) (ta:TA):TI:=fun σ H R=>ta σ H fun vs H1=>∃ a xs,vs=[.ref a]∧SqL K H1 a xs∧R (Itv K a xs.length) H1
theorem bc9 {tg l:Expr} {ta:TA} {p pos:Pos} (hg:Gl X "reversed") (hm:X.mg "reversed" = none) (ha:PA X [l] ta) (hs:starEach [l] X.env=[(false,eval l X.env)]:=by rfl) :
  PI X tg (.Call (.Name "reversed" p) [l] [] pos) (bu0 X.K ta):=by
 intro pins s σ H R I h
 refine Call_ (ae4 I hg hm (u:=.type "reversed") (by decide +kernel) (PyProof.Rows.callWith_type1 (thn (ha pos pins s σ H _ I h) fun us s1 ⟨vs,H1,I1,r1,q1⟩=>?_) hs rfl))
 obtain ⟨a,xs,e,hq,q⟩:=q1
 subst e
 obtain ⟨u,rfl,rx⟩:=aa5 r1
 cases rx
 obtain ⟨its,rv,p,hz⟩:=I1.list hq
 refine call_reversed_list p.isList ?_
 have hl:=rv.length
 have e:((its.toArray.size:Nat):Int) - 1=(xs.length:Int) - 1 - ((0:Nat):Int):=by simp;lia
 rw [e]
 have I2:Inv X pins σ H1 { s1 with heap:=s1.heap.push (revObj a ((xs.length:Int) - 1 - ((0:Nat):Int))) }:=I1.kept (t':=s1.toks) fun b o e=>Heap.get?_push_of_some _ e
 refine wpAny_pyIter_revIter (it:=s1.heap.objs.size) (l:=a) (i:=(xs.length:Int) - 1 - ((0:Nat):Int)) ⟨_,Heap.get?_push_size _ rfl,rfl,rfl⟩ ?_
 refine ⟨s1.heap.objs.size,[s1.heap.objs.size],_,_,H1,rfl,I2,aZ3 a _ xs.length,⟨_,Heap.get?_push_size _ rfl,rfl,rfl⟩,fun b hb=>?_,q⟩
 have e:b=s1.heap.objs.size:=by simpa using hb
 subst e
 exact I1.fpOk (Nat.le_refl _) (I1.hok.fresh (Nat.le_refl _))
end
section
variable {X:Cx}
def ipM (c:Int→Int→Prop) (f:Int→Int→Int):TIp:=fun x y H Q=>∃ i j,x = .int i∧y = .int j∧c i j∧Q (.int (f i j)) H
theorem bt7:PIp X .Mult (ipM IntMulOk fun i j=>i * j):=by
 intro pins s σ H x y v u Q I r1 r2 h
 obtain ⟨i,j,e1,e2,hc,q⟩:=h
 subst e1;subst e2
 obtain ⟨t,rfl⟩:=r1
 obtain ⟨t',rfl⟩:=r2
 exact imul_int ⟨.int _,H,I.tok _,⟨_,rfl⟩,q⟩ hc
end
section
variable {X:Cx}
def as9 (K:PySem.W.Frag) (te:TE):TT:=fun σ H Q=>te σ H fun x H'=>∃ k,aa4 K x H' k∧Q k H'
theorem aB1 {e:Expr} {te:TE} (h:PE X e te) (he:∀ whole,isTrue e X.env whole=(do let v ←whole;standAt e.pos;holding [v] (truthy v))):PT X e (as9 X.K te):=C4 h he
end
theorem aT6 {K:PySem.W.Frag} {a:Addr} {xs:List V} {g:TG} {tb:TS} {D:ai6} {σ:St} {H:Hp} (Pv:Nat→St→Hp→Prop) (h0:Pv 0 σ H) (hl:∀ i σ H,i≤xs.length→Pv i σ H→SqL K H a xs)
  (hs:∀ i x σ H,i<xs.length→xs[xs.length - 1 - i]? = some x→Pv i σ H→g x σ H fun σ2 H2=>tb { D with nx:=Pv (i+1),ct:=Pv (i+1),bk:=D.nx } σ2 H2) (hd:∀ σ H,Pv xs.length σ H→D.nx σ H) :
  ∃ W:Nat→Nat→St→Hp→Prop,(∃ m,W 0 m σ H)∧∀ i m σ H,W i m σ H →
   ((Itv K a xs.length).stop i H∧D.nx σ H)∨((Itv K a xs.length).go i H∧∃ N:St→Hp→Prop,(∀ σ' H',N σ' H'→∃ m',m'<m∧W (i+1) m' σ' H')∧∀ x H',(Itv K a xs.length).yld i H x H'→g x σ H' fun σ2 H2=>tb { D with nx:=N,ct:=N,bk:=D.nx } σ2 H2):=by
 refine ⟨fun i m σ H=>m=xs.length - i∧i≤xs.length∧Pv i σ H,⟨xs.length,by simp,Nat.zero_le _,h0⟩,?_⟩
 rintro i m σ H ⟨rfl,hi,p⟩
 have q:=hl i σ H hi p
 by_cases hlt:i<xs.length
 ·refine .inr ⟨⟨hlt,xs,xs[xs.length - 1 - i],q,List.getElem?_eq_getElem (by omega)⟩,Pv (i+1),fun σ' H' p'=>⟨xs.length - (i+1),by omega,rfl,hlt,p'⟩,fun x H' y=>?_⟩
  obtain ⟨e,y⟩:=y
  subst e
  exact hs i x σ _ hlt (y xs q) p
 ·have e:i=xs.length:=by omega
  subst e
  exact .inl ⟨rfl,hd σ H p⟩
structure OwnCells (h h':Heap) (names:List (Str × NameKind)) (acc cs:List (Str × Addr)):Prop where
 cell:∀ x c,cs.lookup x=some c→∃ v,h'.IsCell c v
 inj:∀ x y c,cs.lookup x=some c→cs.lookup y=some c→x=y
 old:∀ x c,cs.lookup x=some c→acc.lookup x=some c∨h.objs.size≤c
 fresh:∀ x,(x,NameKind.cell)∈names→∀ c,cs.lookup x=some c→h.objs.size≤c
structure CapsC (X:Cx) (scope:Scope) (cl:List (Str × Addr)) (Nc:List Str) (caps:List (Option Nat)):Prop where
 clos:closureFor scope X.env=pure cl
 sub:∀ x c,cl.lookup x=some c→X.env.cells.lookup x=some c
 has:∀ n x,(relabel scope X.env).names.lookup x=some .cell∨(relabel scope X.env).names.lookup x=some .free→∃ c,(cellsFrom n scope.names cl).lookup x=some c
 kind:scope.kind = .function
 names:∀ x∈scope.names,x.2 = .local→scope.names.lookup x.1=some .local
 len:caps.length=Nc.length
 cap:∀ (i j:Nat) (x:Str),caps[i]? = some (some j)→Nc[i]? = some x→X.N[j]? = some x∧Vis X.env.scope x∧X.env.kindOf x≠some .local∧((relabel scope X.env).names.lookup x=some .cell∨(relabel scope X.env).names.lookup x=some .free) ∧
  (∃ c,cl.lookup x=some c)∧∀ n c,cl.lookup x=some c→(cellsFrom n scope.names cl).lookup x=some c
section
variable {X:Cx}
theorem aw9 (n:Nat) (e:Nat→Bool):(List.range (n+1)).any e=(e 0 || (List.range n).any fun j=>e (j+1)):=by
 rw [List.range_succ_eq_map,List.any_cons,List.any_map];rfl
theorem az3 (bs:List Bool):(List.range bs.length).any (fun i=>(bs[i]?).getD true)=bs.any id:=by
 induction bs with
 | nil=>rfl
 | cons b bs ih=>
  rw [List.length_cons,aw9,List.any_cons,←ih]
  rfl
theorem bh3 (hc:X.calm=true):aa1 X (.builtin "any") (fun xs H Q=>∃ (p:Addr) (bs:List Bool),xs=[.ref p]∧SqL X.K H p (bs.map V.bl)∧Q (.bl (bs.any id)) H):=by
 intro pins s σ H xs us Q I r h
 obtain ⟨p,bs,rfl,hq,q⟩:=h
 obtain ⟨u,rfl,rx⟩:=aa5 r
 cases rx
 obtain ⟨its,r',pl,hz⟩:=I.list hq
 have hlen:its.length=bs.length:=by rw [←r'.length,List.length_map]
 have hp:p≠s.heap.objs.size:=by
  obtain ⟨o,ho,_⟩:=pl.isList
  exact Nat.ne_of_lt (Heap.lt_size ho)
 refine call_any_walk (wpAny_pyIter_list pl.isList ?_)
 refine ⟨s.heap.objs.size,_,_,_,_,_,fun i=>(bs[i]?).getD true,rfl,Walks.list (A:=X.A.in1) (I.ok.hd hc) _ p hp its.toArray,⟨⟨_,Heap.get?_push_size _ rfl,rfl,rfl⟩,pl.isList.at fun o e=>Heap.get?_push_of_some _ e⟩,?_,?_⟩
 ·intro i v s' Q' E' hv hQ
  have hv':its[i]? = some v:=by simpa using hv
  have hi:i<bs.length:=by rw [←hlen];exact (List.getElem?_eq_some_iff.mp hv').1
  obtain ⟨u,hu,ru⟩:=r'.get (i:=i) (x:=.bl bs[i]) (by rw [List.getElem?_map,List.getElem?_eq_getElem hi];rfl)
  rw [hv'] at hu
  cases hu
  cases ru
  simp only [List.getElem?_eq_getElem hi] at hQ
  exact wpAny_truthy_bool hQ
 ·intro h' tk kk
  have e:(List.range its.toArray.size).any (fun i=>(bs[i]?).getD true)=bs.any id:=by rw [List.size_toArray,hlen,az3]
  rw [e]
  refine ⟨.bl _,H,I.kept (t':=tk) fun b o e=>kk b o ?_ (Heap.get?_push_of_some _ e),rfl,q⟩
  intro z
  have:b=s.heap.objs.size:=by simpa using z
  exact absurd (Heap.lt_size e) (by rw [this];exact Nat.lt_irrefl _)
end
section
variable {X:Cx}
def bc2:R2:=fun x y H Q=>∃ c d,x = .bl c∧y = .bl d∧Q (.bl (!(c == d))) H
theorem bj7:OpR X (compareOp .IsNot) bc2:=by
 intro pins s σ H x y v u Q I rx ry h
 obtain ⟨c,d,rfl,rfl,q⟩:=h
 cases rx
 cases ry
 exact isnot_bool (z9 I q rfl)
end
structure Stp (prog:Program) (w:World) (it src:Addr) (ar:Array Value) (st:Nat→Heap→Prop):Prop where
 stay:∀ {k:Nat} {h h':Heap},st k h→(∀ o,h.get? it=some o→h'.get? it=some o)→(∀ o,h.get? src=some o→h'.get? src=some o)→st k h'
 item:∀ {A:Around} {E:Value→Shared→Prop} {s:Shared} {k:Nat} {v:Value} {Q:Value→Shared→Prop},st k s.heap→ar[k]? = some v→(∀ h',st (k+1) h'→Heap.SameBut it s.heap h'→Q v { s with heap:=h' })→wpAny (model prog w) A (Builtin.SmallTypes.nextOf (.ref it)) Q E s
 fin:∀ {A:Around} {E:Value→Shared→Prop} {s:Shared} {k:Nat} {Q:Value→Shared→Prop},A.handled=none→st k s.heap→ar[k]? = none→(∀ h' e,Heap.ExtBut it s.heap h'→(∃ o,h'.get? e=some o∧o.cls = .type "StopIteration")→E (.ref e) { s with heap:=h' })→wpAny (model prog w) A (Builtin.SmallTypes.nextOf (.ref it)) Q E s
open PySem PyProof.Rows
section
variable {X:Cx} {pos:Pos}
def bn2 (te:TE) (g g':TG):TS:=fun D σ H=>te σ H fun x H1=>g x σ H1 fun σ2 H2=>g' x σ2 H2 D.nx
theorem bj3 {tg tg' e:Expr} {te:TE} {g g':TG} (he:PE X e te) (hg:PG X tg g) (hg':PG X tg' g') (hs:swapsWithSole [tg,tg'] e pos.line X.env=pure false:=by rfl) (hw:swappedStores [tg,tg'] e X.env=pure none:=by rfl)
  (h1:(assignEach [tg,tg'] X.env).map (·.2)=[assign tg X.env,assign tg' X.env]:=by rfl):PS X (.Assign [tg,tg'] e pos) (bn2 te g g'):=by
 intro pins s σ H D I h
 refine wpAny_Assign_stores (thn (he pins s σ H _ I h) fun v s1 ⟨x,H1,I1,r1,q1⟩=>?_) hs hw
 rw [h1]
 show wpAny (model X.prog X.w) X.A (do holding [v] (assign tg X.env v);assign tg' X.env v) _ _ _
 refine wpAny_bind (wpAny_holding (thn (hg pins s1 σ H1 x v _ I1 r1 q1) fun _ s2 ⟨σ2,H2,I2,q2⟩=>?_))
 exact thn (hg' pins s2 σ2 H2 x v _ I2 r1 q2) fun _ s3 q=>q
end
section
variable {prog:Program} {w:World} {A:Around} {E:Value→Shared→Prop} {s:Shared}
theorem be6 {a b:Int} {t u:Tok} {Q:Value→Shared→Prop} (h:Q (.bool (decide (a<b))) s):wpAny (model prog w) A (richCompare .Lt (.int a t) (.int b u)) Q E s:=
 richCompare_gives (op:=.Lt) (typeIs_int s _ t) (typeIs_int s _ u) F.slot_int_lt F.entry_int_lt (F.args_int_lt_2 _ _) (gives_int_lt _ _ t u) (fun x=>nomatch x) h
theorem aY4 (a:Value):argsOk "min" ⟨[a],[]⟩:=by unfold argsOk;kernel_rfl
variable {R:Result→Shared→Prop} {I:Addr} {fp wr:List Addr} {n:Nat} {P:Nat→Value→Prop} {St:Nat→Heap→Prop}
theorem aW5 (W:Walks prog w A.in1 I fp wr n P St) (Pr:Int→Prop) (hint:∀ i v,P i v→∃ x t,v = .int x t∧Pr x) (S:Addr) (hSf:S ∉ fp) :
  ∀ (k j:Nat) (s:Shared) (x0:Int) (t0:Tok) (c:Nat),Pr x0→n - (j+1)=k→j+1≤n→St (j+1) s.heap →
  s.heap.get? S=some { cls:=.type "list",dict:=none,data:=.seq #[.int x0 t0,.int x0 t0] c,slots:=#[] } →
  (∀ x t h' tk,Pr x→(∀ b o,b ∉ wr→b≠S→s.heap.get? b=some o→h'.get? b=some o)→R (.ok (.ret (.int x t))) { s with heap:=h',toks:=tk }) →
  codeAny (model prog w) A (.builtin "min.loop" ⟨[.ref I,.none,.ref S],[]⟩) R s:=by
 have hSw:S ∉ wr:=fun h=>hSf (W.sub _ h)
 have hname:(toString "min" ++ toString ".loop" : String) = "min.loop":=by decide
 intro k
 induction k with
 | zero=>
  intro j s x0 t0 c px hk hj hst hS hR
  have hin:j+1=n:=by omega
  refine codeAny_builtin F.entry_min_loop ?_
  rw [Around.under_plainId F.plain_min_loop _]
  show wpAny _ A.in1 (seqItems? (.ref S) >>= _) _ _ s
  refine wpAny_bind (wpAny_seqItems hS rfl ?_)
  show wpAny _ A.in1 (tryCatch (pyNext (.ref I)) _ >>= _) _ _ s
  refine wpAny_bind (wpAny_tryCatch (W.done s _ _ (hin ▸ hst) fun h' tk hk'=>?_))
  have hS':=hk' S _ hSw hS
  show wpAny _ A.in1 (updateSeq S (fun _=>#[]) >>= _) _ _ _
  refine wpAny_bind ?_
  refine wpAny_updateSeq hS' rfl (wpAny_bind (wpAny_letGo (wpAny_pure ?_)))
  exact hR x0 t0 _ tk px fun b o hbw hbS e=>(Heap.get?_update_other _ _ (Ne.symm hbS)).trans (hk' b o hbw e)
 | succ k ih=>
  intro j s x0 t0 c px hk hj hst hS hR
  have hlt:j+1<n:=by omega
  refine codeAny_builtin F.entry_min_loop ?_
  rw [Around.under_plainId F.plain_min_loop _]
  show wpAny _ A.in1 (seqItems? (.ref S) >>= _) _ _ s
  refine wpAny_bind (wpAny_seqItems hS rfl ?_)
  show wpAny _ A.in1 (tryCatch (pyNext (.ref I)) _ >>= _) _ _ s
  refine wpAny_bind (wpAny_tryCatch (W.item (j+1) s _ _ hlt hst fun v h' tk hP hst' hk'=>?_))
  obtain ⟨x1,t1,rfl,p1⟩:=hint _ _ hP
  have hS':=hk' S _ hSw hS
  show wpAny _ A.in1 (tryCatch (holding [.int x1 t1,.int x1 t1] (richCompare .Lt (.int x1 t1) (.int x0 t0) >>= _)) _ >>= _) _ _ _
  refine wpAny_bind (wpAny_tryCatch (wpAny_holding (wpAny_bind (be6 ?_))))
  refine wpAny_bind (wpAny_holding (wpAny_truthy_bool ?_))
  refine wpAny_bind (wpAny_letGo (wpAny_pure ?_))
  cases hb:decide (x1<x0) with
  | true=>
   simp only [if_true]
   refine wpAny_bind ?_
   refine wpAny_updateSeq hS' rfl (wpAny_bind (wpAny_letGo ?_))
   rw [hname]
   refine wpAny_pure ⟨plainId_quiet F.plain_min_loop _,ih (j+1) _ x1 t1 _ p1 (by omega) hlt (W.frame _ _ _ hst' fun b hbf o e=>?_) (Heap.get?_update_self _ hS' rfl)
    fun x t h'' tk'' pp hk''=>?_⟩
   ·exact (Heap.get?_update_other _ _ (fun h:S=b=>hSf (by rw [h];exact hbf))).trans e
   ·exact hR x t h'' tk'' pp fun b o hbw hbS e=>hk'' b o hbw hbS ((Heap.get?_update_other _ _ (Ne.symm hbS)).trans (hk' b o hbw e))
  | false=>
   simp only [Bool.false_eq_true,if_false]
   refine wpAny_bind (wpAny_letGo ?_)
   rw [hname]
   refine wpAny_pure ⟨plainId_quiet F.plain_min_loop _,ih (j+1) _ x0 t0 c px (by omega) hlt hst' hS' fun x t h'' tk'' pp hk''=>?_⟩
   exact hR x t h'' tk'' pp fun b o hbw hbS e=>hk'' b o hbw hbS (hk' b o hbw e)
theorem aQ0 (W:Walks prog w A.in1 I fp wr n P St) (Pr:Int→Prop) (hn:0<n) (hint:∀ i v,P i v→∃ x t,v = .int x t∧Pr x) (S:Addr) (hSf:S ∉ fp) {c:Nat} (hst:St 0 s.heap)
  (hS:s.heap.get? S=some { cls:=.type "list",dict:=none,data:=.seq #[] c,slots:=#[] })
  (hR:∀ x t h' tk,Pr x→(∀ b o,b ∉ wr→b≠S→s.heap.get? b=some o→h'.get? b=some o)→R (.ok (.ret (.int x t))) { s with heap:=h',toks:=tk }) :
  codeAny (model prog w) A (.builtin "min.loop" ⟨[.ref I,.none,.ref S],[]⟩) R s:=by
 have hSw:S ∉ wr:=fun h=>hSf (W.sub _ h)
 have hname:(toString "min" ++ toString ".loop" : String) = "min.loop":=by decide
 refine codeAny_builtin F.entry_min_loop ?_
 rw [Around.under_plainId F.plain_min_loop _]
 show wpAny _ A.in1 (seqItems? (.ref S) >>= _) _ _ s
 refine wpAny_bind (wpAny_seqItems hS rfl ?_)
 show wpAny _ A.in1 (tryCatch (pyNext (.ref I)) _ >>= _) _ _ s
 refine wpAny_bind (wpAny_tryCatch (W.item 0 s _ _ hn hst fun v h' tk hP hst' hk'=>?_))
 obtain ⟨x1,t1,rfl,p1⟩:=hint _ _ hP
 have hS':=hk' S _ hSw hS
 show wpAny _ A.in1 (updateSeq S (fun _=>#[.int x1 t1,.int x1 t1]) >>= _) _ _ _
 refine wpAny_bind ?_
 refine wpAny_updateSeq hS' rfl ?_
 rw [hname]
 refine wpAny_pure ⟨plainId_quiet F.plain_min_loop _,aW5 W Pr hint S hSf _ 0 _ x1 t1 _ p1 rfl hn (W.frame _ _ _ hst' fun b hbf o e=>?_) (Heap.get?_update_self _ hS' rfl) fun x t h'' tk'' pp hk''=>?_⟩
 ·exact (Heap.get?_update_other _ _ (fun h:S=b=>hSf (by rw [h];exact hbf))).trans e
 ·exact hR x t h'' tk'' pp fun b o hbw hbS e=>hk'' b o hbw hbS ((Heap.get?_update_other _ _ (Ne.symm hbS)).trans (hk' b o hbw e))
end
section
variable {X:Cx}
def bn8 (K:PySem.W.Frag):List V→Hp→VK→Prop:=fun vs H Q=>∃ (a:Addr) (ns:List Int),vs=[.ref a]∧SqL K H a (ns.map V.int)∧ns≠[]∧∀ i∈ns,Q (.int i) H
theorem aX9 (hc:X.calm=true):aa1 X (.builtin "min") (bn8 X.K):=by
 intro pins s σ H us vs Q I r h
 obtain ⟨a,ns,rfl,hq,hne,q⟩:=h
 obtain ⟨u,rfl,rx⟩:=aa5 r
 cases rx
 have hname:(toString "min" ++ toString ".loop" : String) = "min.loop":=by decide
 obtain ⟨its,r',pl,hz⟩:=I.list hq
 have hp:a≠s.heap.objs.size:=by
  obtain ⟨o,ho,_⟩:=pl.isList
  exact Nat.ne_of_lt (Heap.lt_size ho)
 refine al6 F.kind_min F.plain_min F.entry_min (aY4 _) ?_
 show wpAny _ X.A.in1 (Builtin.Builtins.bindParams "min" ["key","default"] 0 ⟨[],[]⟩ >>= _) _ _ s
 refine wpAny_bind (wpAny_of_eq (show Builtin.Builtins.bindParams "min" ["key","default"] 0 ⟨[],[]⟩=pure [none,none] from by with_unfolding_all rfl) ?_)
 refine wpAny_bind (wpAny_pure ?_)
 refine wpAny_bind (wpAny_pyIter_list pl.isList ?_)
 refine wpAny_bind (wpAny_newObj_type ?_)
 have a1:a<s.heap.objs.size:=by obtain ⟨o,ho,_⟩:=pl.isList;exact Heap.lt_size ho
 rw [hname]
 refine wpAny_pure ⟨plainId_quiet F.plain_min_loop _,?_⟩
 refine aQ0 (Walks.list (A:=X.A.in1) (I.ok.hd hc) s.heap.objs.size a hp its.toArray) (· ∈ ns) ?_ ?_ _ ?_ ⟨⟨_,Heap.get?_push_of_some _ (Heap.get?_push_size _ rfl),rfl,rfl⟩,pl.isList.at fun o e=>Heap.get?_push_of_some _ (Heap.get?_push_of_some _ e)⟩ (Heap.get?_push_size _ rfl) ?_
 ·rw [List.size_toArray,←r'.length,List.length_map];exact List.length_pos_iff.mpr hne
 ·intro i v hv
  have hv':its[i]? = some v:=by simpa using hv
  have hi:i<ns.length:=by
   have:=(List.getElem?_eq_some_iff.mp hv').1
   rw [←r'.length,List.length_map] at this;exact this
  obtain ⟨u,hu,ru⟩:=r'.get (i:=i) (x:=.int ns[i]) (by rw [List.getElem?_map,List.getElem?_eq_getElem hi];rfl)
  rw [hv'] at hu
  cases hu
  obtain ⟨t,rfl⟩:=ru
  exact ⟨_,_,rfl,List.getElem_mem hi⟩
 ·rw [Heap.size_push]
  intro z
  rcases (by simpa using z:s.heap.objs.size+1=s.heap.objs.size∨s.heap.objs.size+1=a) with e | e
  ·exact absurd e (Nat.succ_ne_self _)
  ·exact absurd a1 (by rw [←e];exact Nat.not_lt.mpr (Nat.le_succ _))
 ·intro x t h' tk px kk
  refine ⟨.int x,H,I.kept (t':=tk) fun b o e=>kk b o ?_ ?_ (Heap.get?_push_of_some _ (Heap.get?_push_of_some _ e)),⟨t,rfl⟩,q x px⟩
  ·intro z
   have:b=s.heap.objs.size:=by simpa using z
   exact absurd (Heap.lt_size e) (by rw [this];exact Nat.lt_irrefl _)
  ·rw [Heap.size_push]
   intro z
   exact absurd (Heap.lt_size e) (by rw [z];exact Nat.not_lt.mpr (Nat.le_succ _))
end
theorem ar5 (l:Addr) (items:Array Value) (hfit:(items.size:Int)<2 ^ 63) :
  Meets (Builtin.«bool.__new__» ⟨[.type "bool",.ref l],[]⟩) (fun _ R s=>s.heap.IsList l items∧R (.ok (.ret (.bool (!items.isEmpty)))) { s with toks:=s.toks+1+1 }):=
 Meets.of_wp fun prog w A R s hs=>by
  obtain ⟨hp,g,d,tk,os⟩:=s
  have f1:=F.conv_sub_bool
  repeat (any_goals (first | assumption | (with_reducible refine wpAny_truthy_list hs.1 hfit ?_) | wp_step))
  all_goals first | exact ⟨_,rfl,hs.2⟩ | exact hs.2 | skip
section
variable {X:Cx}
def bc3 (K:PySem.W.Frag):List V→Hp→VK→Prop:=fun xs H Q=>∃ a ys,xs=[.ref a]∧SqL K H a ys∧Q (.bl (!ys.isEmpty)) H
theorem aR5:aa1 X (.type "bool") (bc3 X.K):=by
 intro pins s σ H xs us Q I r h
 obtain ⟨a,ys,rfl,hq,q⟩:=h
 obtain ⟨u,rfl,r1⟩:=aa5 r
 cases r1
 obtain ⟨its,rr,pl,hz⟩:=I.list hq
 have hl:=ae3
 have hlen:=rr.length
 refine call_bool_1 (ar5 a its.toArray (by simp only [List.size_toArray];lia)) ?_
 exact ⟨pl.isList,rfl,.bl (!ys.isEmpty),H,I.tok _,by rw [ai1 rr];rfl,q⟩
end
end L2
set_option maxRecDepth 100000
namespace R
theorem O3 {f:Nat→Rat}:∀ n,(∀ i,i<n→f i=0)→j7 f n=0
 | 0,_=>rfl
 | n+1,h=>by
  rw [j7,O3 n (fun i hi=>h i (by omega)),h n (by omega)]
  grind
open PySem L2 PyProof.Rows
theorem aI9 {qs:List Rat} {B m n:Nat} (hs:∀ q∈qs,BdN m q) (hB:B<2 ^ n) (hd:∀ q∈qs,q.den ∣ B):∀ v∈j1 B qs,Int.natAbs v<2 ^ (m+n):=by
 intro v hv
 obtain ⟨q,hq,rfl⟩:=List.mem_map.mp hv
 obtain ⟨e,he⟩:=hd q hq
 have h0:(q.den:Int)≠0:=by have:=q.den_nz;lia
 have e1:(B:Int).fdiv (q.den:Int)=(e:Int):=by
  rw [he,Int.natCast_mul];exact j2 h0
 have h1:e≤B:=by rw [he];exact Nat.le_mul_of_pos_left _ (by have:=q.den_nz;lia)
 rw [e1,Int.natAbs_mul,Int.natAbs_natCast,Nat.pow_add]
 exact Nat.mul_lt_mul'' (hs q hq).n (by lia)
structure ClN (W:Nat) (qs:List Rat):Prop where
 l:m5 qs<2 ^ W
 w:∀ v∈j1 (m5 qs) qs,Int.natAbs v<2 ^ W
theorem ClN.den {W:Nat} {qs:List Rat} (h:ClN W qs) {q:Rat} (hq:q∈qs):q.den<2 ^ W:=Nat.lt_of_le_of_lt (Nat.le_of_dvd (C2 qs) (O1 hq)) h.l
theorem ClN.num {W:Nat} {qs:List Rat} (h:ClN W qs) {q:Rat} (hq:q∈qs):q.num.natAbs<2 ^ W:=by
 have h1:=h.w _ (List.mem_map.mpr ⟨q,hq,rfl⟩)
 obtain ⟨e,he⟩:=O1 hq
 have hp:=C2 qs
 have h0:(q.den:Int)≠0:=by have:=q.den_nz;lia
 have e1:(m5 qs:Int).fdiv (q.den:Int)=(e:Int):=by
  rw [he,Int.natCast_mul];exact j2 h0
 rw [e1,Int.natAbs_mul,Int.natAbs_natCast] at h1
 refine Nat.lt_of_le_of_lt (Nat.le_mul_of_pos_right _ ?_) h1
 rcases Nat.eq_zero_or_pos e with z | z
 ·rw [z] at he;lia
 ·exact z
theorem ClN.take {W:Nat} {qs:List Rat} (h:ClN W qs) (i:Nat):m5 (qs.take i)<2 ^ W:=
 Nat.lt_of_le_of_lt (Nat.le_of_dvd (C2 qs) (av4 fun q hq=>O1 (List.mem_of_mem_take hq))) h.l
theorem ClN.mono {V W:Nat} {qs:List Rat} (h:ClN V qs) (l:V≤W):ClN W qs:=⟨Nat.lt_of_lt_of_le h.l (d6 l),fun v hv=>Nat.lt_of_lt_of_le (h.w v hv) (d6 l)⟩
theorem al5 {m:Nat} {qs:List Rat} (hs:∀ q∈qs,BdN m q):ClN (1+m * qs.length+m) qs:=by
 have hB1:=be8 (m:=m) fun q hq=>(hs q hq).d
 have wl:=aI9 hs hB1 (fun q hq=>O1 hq)
 rw [show m+(1+m * qs.length)=1+m * qs.length+m by lia] at wl
 exact ⟨Nat.lt_of_lt_of_le hB1 (d6 (by simp)),wl⟩
theorem ak0 (v:Int) (L:Nat):Rat.divInt 1 L * (v:Rat)=Rat.divInt v L:=by
 have h1:=Rat.num_divInt_den (v:Rat)
 rw [Rat.num_intCast,Rat.den_intCast] at h1
 conv=>lhs;rw [←h1]
 rw [Rat.divInt_mul_divInt]
 simp
theorem aw4 (v:Int) {L:Nat} (h:0<L):(Rat.divInt v L).den ∣ L:=by
 have hL:(L:Int)≠0:=by omega
 obtain ⟨_,e2⟩:=aH0 (t:=v) (b:=(L:Int)) (g:=(Int.gcd v L:Int)) hL (by rw [if_neg (by simp)])
 obtain ⟨k,hk⟩:=Int.gcd_dvd_right v (L:Int)
 have hg:=N0 (t:=v) hL
 have e3:(L:Int).fdiv (Int.gcd v L:Int)=k:=by
  conv=>lhs;arg 1;rw [hk]
  exact j2 (by lia)
 rw [e3] at e2
 have:((Rat.divInt v L).den:Int) ∣ (L:Int):=⟨_,by rw [Int.mul_comm,←e2];exact hk⟩
 exact Int.natCast_dvd_natCast.mp this
theorem aI3 (v:Int) {L:Nat} (h:0<L):(Rat.divInt v L).num * L=v * ((Rat.divInt v L).den:Int):=by
 have hL:(L:Int)≠0:=by omega
 have hd:((Rat.divInt v L).den:Int)≠0:=by have:=(Rat.divInt v L).den_nz;lia
 exact (Rat.divInt_eq_divInt_iff hd hL).mp (Rat.num_divInt_den _)
theorem aX8 {L W:Nat} {vs:List Int} (hL0:0<L) (hL:L<2 ^ W) (hv:∀ v∈vs,Int.natAbs v<2 ^ W):ClN W (scl (Rat.divInt 1 L) vs):=by
 have hd:m5 (scl (Rat.divInt 1 L) vs) ∣ L:=av4 fun q hq=>by
  obtain ⟨v,_,rfl⟩:=List.mem_map.mp hq
  rw [ak0]
  exact aw4 v hL0
 have hle:=Nat.le_of_dvd hL0 hd
 refine ⟨Nat.lt_of_le_of_lt hle hL,fun u hu=>?_⟩
 obtain ⟨q,hq,rfl⟩:=List.mem_map.mp hu
 obtain ⟨e,he⟩:=O1 hq
 have h0:(q.den:Int)≠0:=by have:=q.den_nz;lia
 have e1:(m5 (scl (Rat.divInt 1 L) vs):Int).fdiv (q.den:Int)=(e:Int):=by
  rw [he,Int.natCast_mul];exact j2 h0
 obtain ⟨v,hvm,hvq⟩:=List.mem_map.mp hq
 rw [ak0] at hvq
 have hc:=aI3 v hL0
 rw [hvq] at hc
 have hc':q.num.natAbs * L=v.natAbs * q.den:=by
  have:=congrArg Int.natAbs hc
  rwa [Int.natAbs_mul,Int.natAbs_mul,Int.natAbs_natCast,Int.natAbs_natCast] at this
 rw [e1,Int.natAbs_mul,Int.natAbs_natCast]
 refine Nat.lt_of_le_of_lt ?_ (hv v hvm)
 have h2:(q.num.natAbs * e) * L≤v.natAbs * L:=by
  calc (q.num.natAbs * e) * L=(q.num.natAbs * L) * e:=by rw [Nat.mul_right_comm]
   _=v.natAbs * (q.den * e):=by rw [hc',Nat.mul_assoc]
   _≤v.natAbs * L:=Nat.mul_le_mul_left _ (by rw [←he];exact hle)
 exact Nat.le_of_mul_le_mul_right h2 hL0
theorem bi8 (qs:List Rat):scl (Rat.divInt 1 (m5 qs)) (j1 (m5 qs) qs)=qs:=by
 unfold scl j1
 rw [List.map_map]
 conv=>rhs;rw [←List.map_id qs]
 refine List.map_congr_left fun q hq=>?_
 show Rat.divInt 1 (m5 qs) * ((q.num * (m5 qs:Int).fdiv (q.den:Int):Int):Rat)=q
 rw [ak0]
 exact (as5 (C2 qs) (O1 hq)).symm
open PySem L2 PyProof.Rows
structure bv4 (H:Hp) (p:Addr) (qs:List Rat):Prop where
 ex:∃ xs,H p=some (.lst xs)∧q8 H xs qs
 bd:∀ q∈qs,q.den<2 ^ 6000
 len:qs.length<900
 tl:A7 qs qs.length
inductive bh7 (H:Hp):List Addr→List (List Rat)→Prop where
 | nil:bh7 H [] []
 | cons {p:Addr} {ps:List Addr} {L:List Rat} {Ls:List (List Rat)} (h:bv4 H p L) (t:bh7 H ps Ls):bh7 H (p :: ps) (L :: Ls)
theorem aK8 {ts:List Addr} {i:Nat} {x:V} (h:(ts.map V.ref)[i]? = some x):∃ p,ts[i]? = some p∧x = .ref p:=by
 rw [List.getElem?_map] at h
 cases hw:ts[i]? with
 | none=>rw [hw] at h;cases h
 | some v=>rw [hw] at h;cases h;exact ⟨v,rfl,rfl⟩
open PySem L2 PyProof.Rows
theorem aN0 (xs:List V) {n:Nat} (h:n≤xs.length):al3 xs (some (n:Int)) none=xs.drop n:=by
 unfold al3
 have e1:HT.sIx xs.length 0 (some (n:Int))=n:=by
  simp only [HT.sIx]
  rw [if_neg (by omega)];omega
 have e2:HT.sIx xs.length xs.length none=xs.length:=rfl
 rw [e1,e2,List.take_of_length_le (by rw [List.length_drop];simp)]
theorem aU5 (xs:List V):al3 xs (some 1) none=xs.drop 1:=by
 cases xs with
 | nil=>exact List.eq_nil_of_length_eq_zero (by have:=aq7 [] (some 1) none;simpa using this)
 | cons x xs=>exact aN0 (x :: xs) (n:=1) (by simp)
theorem Y0 {qs:List Rat} (h:∀ x,qs[qs.length - 1]? = some x→x≠0):A7 qs qs.length:=
 ⟨Nat.le_refl _,fun i q hi e=>(by rw [List.getElem?_eq_none hi] at e;cases e),fun _ q e=>h q e⟩
theorem t7.seq {K:PySem.W.Frag} {u:Addr} {H H':Hp} {b:Addr} {xs:List V} (s:t7 u H H') (hu:H u=none) (h:SqL K H b xs):SqL K H' b xs:=by
 rcases h with h | h
 ·rcases h with h | ⟨o,h⟩
  ·exact .inl (.inl (s _ _ h (g9 h hu)))
  ·exact .inl (.inr ⟨o,s _ _ h (g9 h hu)⟩)
 ·exact .inr h
theorem as0 {qs:List Rat} {m:Nat} (h:A7 qs m):A7 (qs.take m) (qs.take m).length:=by
 have:=h.self
 rw [List.length_take,Nat.min_eq_left h.le];exact this
def aS3 (K:PySem.W.Frag):Sp:=fun vs H Q _=>∃ (a:Addr) (ns:List Int),vs=[.ref a]∧SqL K H a (ns.map V.int)∧ns.length≤63∧∀ H',Q (.bl true) H'
structure ExT (K:PySem.W.Frag) (mg:Str→Option Value) (x:Str) (C:Addr):Prop where
 m:mg x=some (.ref C)
 ox:bm5 K C [.type "ValueError",.type "Exception",.type "BaseException",.type "object"] "ValueError.__new__"
 ec:F5 K C
structure CAd where
 c_NoFraction:Addr
 c_NoPolynomial:Addr
 c_NoStretch:Addr
 c_NoRow:Addr
 c_NoPair:Addr
 c_NoBack:Addr
 c_NoForm:Addr
 c_NoParts:Addr
 c_NoDegree:Addr
 c_NoSteps:Addr
 c_NoBox:Addr
 c_NoGain:Addr
 c_NoText:Addr
 c_NoLine:Addr
 c_NoName:Addr
 c_NoDeed:Addr
 c_RestError:Addr
structure XTx (K:PySem.W.Frag) (mg:Str→Option Value) (a:CAd):Prop where
 x_NoFraction:ExT K mg "NoFraction" a.c_NoFraction
 x_NoPolynomial:ExT K mg "NoPolynomial" a.c_NoPolynomial
 x_NoStretch:ExT K mg "NoStretch" a.c_NoStretch
 x_NoRow:ExT K mg "NoRow" a.c_NoRow
 x_NoPair:ExT K mg "NoPair" a.c_NoPair
 x_NoBack:ExT K mg "NoBack" a.c_NoBack
 x_NoForm:ExT K mg "NoForm" a.c_NoForm
 x_NoParts:ExT K mg "NoParts" a.c_NoParts
 x_NoDegree:ExT K mg "NoDegree" a.c_NoDegree
 x_NoSteps:ExT K mg "NoSteps" a.c_NoSteps
 x_NoBox:ExT K mg "NoBox" a.c_NoBox
 x_NoGain:ExT K mg "NoGain" a.c_NoGain
 x_NoText:ExT K mg "NoText" a.c_NoText
 x_NoLine:ExT K mg "NoLine" a.c_NoLine
 x_NoName:ExT K mg "NoName" a.c_NoName
 x_NoDeed:ExT K mg "NoDeed" a.c_NoDeed
structure bv8 (K:PySem.W.Frag) (a:CAd) (C:Addr) (j:Nat):Prop where
 k_NoFraction:PySem.W.kitOne K (.ref C) (.ref a.c_NoFraction)=some (decide (j=0))
 k_NoPolynomial:PySem.W.kitOne K (.ref C) (.ref a.c_NoPolynomial)=some (decide (j=1))
 k_NoStretch:PySem.W.kitOne K (.ref C) (.ref a.c_NoStretch)=some (decide (j=2))
 k_NoRow:PySem.W.kitOne K (.ref C) (.ref a.c_NoRow)=some (decide (j=3))
 k_NoPair:PySem.W.kitOne K (.ref C) (.ref a.c_NoPair)=some (decide (j=4))
 k_NoBack:PySem.W.kitOne K (.ref C) (.ref a.c_NoBack)=some (decide (j=5))
 k_NoForm:PySem.W.kitOne K (.ref C) (.ref a.c_NoForm)=some (decide (j=6))
 k_NoParts:PySem.W.kitOne K (.ref C) (.ref a.c_NoParts)=some (decide (j=7))
 k_NoDegree:PySem.W.kitOne K (.ref C) (.ref a.c_NoDegree)=some (decide (j=8))
 k_NoSteps:PySem.W.kitOne K (.ref C) (.ref a.c_NoSteps)=some (decide (j=9))
 k_NoBox:PySem.W.kitOne K (.ref C) (.ref a.c_NoBox)=some (decide (j=10))
 k_NoGain:PySem.W.kitOne K (.ref C) (.ref a.c_NoGain)=some (decide (j=11))
 k_NoText:PySem.W.kitOne K (.ref C) (.ref a.c_NoText)=some (decide (j=12))
 k_NoLine:PySem.W.kitOne K (.ref C) (.ref a.c_NoLine)=some (decide (j=13))
 k_NoName:PySem.W.kitOne K (.ref C) (.ref a.c_NoName)=some (decide (j=14))
 k_NoDeed:PySem.W.kitOne K (.ref C) (.ref a.c_NoDeed)=some (decide (j=15))
 kV:PySem.W.kitOne K (.ref C) (.type "ValueError")=some true
 ec:F5 K C
 ex:PySem.W.exmOne K (.ref C) (.ref a.c_RestError)=some true
def aP9 (j:Nat):Str:=[("fraction" : Str),"polynomial","stretch","row","pair","back","form","parts","degree","steps","box","gain","text","line","name","deed"].getD j ""
def aE4 (K:PySem.W.Frag) (a:CAd):Sp:=fun vs H Q _=>∃ e C j,vs=[.ref e]∧bv8 K a C j∧j<16∧H e=some (Exc (.ref C) e)∧∀ H',d5 H H'→Q (.str (aP9 j)) H'
def aZ5 (j:Nat):List V:=[V.bl (decide (j=0)),V.bl (decide (j=1)),V.bl (decide (j=2)),V.bl (decide (j=3))]++[V.bl (decide (j=4)),V.bl (decide (j=5)),V.bl (decide (j=6)),V.bl (decide (j=7))]++[V.bl (decide (j=8)),V.bl (decide (j=9)),V.bl (decide (j=10)),V.bl (decide (j=11))]++[V.bl (decide (j=12)),V.bl (decide (j=13)),V.bl (decide (j=14)),V.bl (decide (j=15))]
theorem aN6:∀ j,j<16→(aZ5 j).countP (fun z=>eqV z (V.bl true))=1:=by decide
theorem aZ4:∀ j,j<16→(aZ5 j).findIdx? (fun z=>eqV z (V.bl true))=some j:=by decide
theorem az8:∀ j,j<16→(aZ5 j).all Y8=true:=by decide
theorem ap8:af9 "fraction polynomial stretch row pair back form parts degree steps box gain text line name deed" " " = [("fraction" : Str),"polynomial","stretch","row","pair","back","form","parts","degree","steps","box","gain","text","line","name","deed"]:=by decide +kernel
theorem bk3 {j:Nat} (hj:j<16):atI ((af9 "fraction polynomial stretch row pair back form parts degree steps box gain text line name deed" " ").map V.str) (j:Int)=some (.str (aP9 j)):=by
 rw [ap8]
 refine F7 ?_
 have:∀ j,j<16→((["fraction","polynomial","stretch","row","pair","back","form","parts","degree","steps","box","gain","text","line","name","deed"]:List Str).map V.str)[j]? = some (.str (aP9 j)):=by decide
 exact this j hj
theorem G4 {ws:List Int} {i:Nat} {x:V} (h:(ws.map V.int)[i]? = some x):∃ v,ws[i]? = some v∧x = .int v:=by
 rw [List.getElem?_map] at h
 cases hw:ws[i]? with
 | none=>rw [hw] at h;cases h
 | some v=>rw [hw] at h;cases h;exact ⟨v,rfl,rfl⟩
open PySem L2 PyProof.Rows
def top (i:Nat):Stmt:=PySem.Challenge.pw_restward_k27_polynomials_from_parts.main.body.getD i (.Pass ⟨0,0,0,0⟩)
end R
set_option maxRecDepth 100000
local macro_rules | `(tactic| simp! [$ls,*])=>`(tactic| simp only [L2.bu0,L2.ipM,L2.as9,L2.bc2,L2.aJ5,L2.at2,L2.ba0,L2.bt9,L2.bq3,L2.ba3,L2.tSl,L2.bp4,L2.aZ7,L2.aE2,L2.bq2,L2.bq4,L2.aF5,L2.bf5,L2.Z9,List.map_cons,List.map_nil,Option.bind_none,Option.bind_some,Option.join_some,L2.bi0,L2.bp7,L2.bp9,L2.tOr,L2.bp5,L2.aJ3,L2.tB,L2.tOp,L2.tUn,L2.bi5,L2.tBM,L2.aa6,L2.tC,L2.tCB,L2.bi1,L2.ba4,L2.n8,L2.bu3,L2.P3,L2.p5,L2.P4,L2.ag5,L2.aJ4,L2.bi2,L2.bh9,L2.bp6,L2.tIf,L2.ba5,L2.aZ8,L2.bi3,L2.aE3,L2.ba1,L2.aZ9,L2.aN8,L2.aN7,L2.bp8,L2.ipI,L2.rI,L2.rI0,L2.rU,L2.aF4,L2.aO2,L2.bj2,L2.bc1,L2.rEq,L2.rNe,L2.aO4,L2.aO3,L2.aO1,L2.bq6,L2.bq7,L2.bf3,L2.bf4,L2.ao9,L2.cxR,L2.cxX,L2.Cx.nox,L2.Cx.wish,L2.Cx.body,L2.Cx.suite,List.getElem?_cons_zero,List.getElem?_cons_succ,List.set_cons_zero,List.set_cons_succ,Option.some.injEq,L2.V.int.injEq,L2.V.bl.injEq,L2.V.ref.injEq,L2.V.str.injEq,exists_eq_left',exists_eq_left,exists_and_left,true_and,and_true,List.cons.injEq,reduceCtorEq,Bool.false_eq_true,if_false,if_true,exists_const,↓reduceIte,L2.tyV,List.length_cons,List.length_nil,exists_eq,List.append_nil,List.cons_append,List.nil_append,decide_eq_true_eq,not_true_eq_false,not_false_eq_true,Bool.not_eq_true',decide_eq_false_iff_not,Bool.not_true,Bool.not_false,and_assoc,false_and,false_or,or_false,$ls,*])
local macro_rules | `(tactic| subst_eqs)=>`(tactic| simp! [])
local macro_rules | `(tactic| and_intros)=>`(tactic| exact ⟨rfl,rfl,rfl,by decide +kernel,rfl,by decide +kernel,by decide +kernel⟩)
namespace R
open PySem L2 PyProof.Rows
section
variable {P:Program} {w:World} {K:PySem.W.Frag} {mg:Str→Option Value} {base:Heap}
def ah3:Sp:=fun vs H Q _=>∃ a b:Int,vs=[.int a,.int b]∧(a.natAbs<2 ^ 6000∨b.natAbs<2 ^ 6000)∧Q (.int (Int.gcd a b)) H
abbrev A9:Stmt:=top 25
theorem Z6:i8 ["one","other"] ["one","other"] (d3 A9):=by and_intros
theorem ak2 {f:Addr} (d:Df K mg "common_divisor" A9 ["one","other"] f) (c_SHORT:∃ t,mg "SHORT" = some (.int 6000 t)) (n_abs:mg "abs" = none):Def P w K mg base CX0 1 "common_divisor" f ["one","other"] ah3:=by
 obtain ⟨tS,c_SHORT⟩:=c_SHORT
 refine d.ok (N:=["one","other"]) Z6 (fun vs H Q E ⟨a,b,h,_⟩=>by rw [h];rfl) (fun cdv A outer s H vs Q E hr h=>?_)
 obtain ⟨a,b,rfl,hab,q⟩:=h
 refine ⟨_,(b9 (A0 (PW.pt (am7 (j3 aj8 (ao0 PySem.F.plainAttrs_int PySem.F.slot_int_bit_length PySem.F.type_int_bit_length ab2 (pv 1)) (v4 (v:=.int 6000) rfl c_SHORT ⟨_,rfl⟩) (j6 _)) (af7 (j3 aj8 (ao0 PySem.F.plainAttrs_int PySem.F.slot_int_bit_length PySem.F.type_int_bit_length ab2 (pv 0)) (v4 (v:=.int 6000) rfl c_SHORT ⟨_,rfl⟩) (j6 _))))) (d7 aj7) m8)
   (b9 (V1 PassesOwn.never (C4 (pv 1) (fun _=>rfl)) (d7 (V8 (i:=0) (j:=1) rfl Z6.nd rfl rfl (by decide) rfl rfl (b6 (pv 1) (b6 (g6 R8 (pv 0) (pv 1)) b7)) rfl)))
   (d7 (g8 (d8 Z0 rfl n_abs (by decide +kernel) (b6 (pv 0) b7)))))),?_⟩
 rw [show start ["one","other"] [.int a,.int b]=[some (.int a),some (.int b)] from rfl]
 have hno : ¬ ((6000:Int)<Builtin.Int.intBits b∧(6000:Int)<Builtin.Int.intBits a):=by
  rintro ⟨h1,h2⟩
  rcases hab with z | z
  ·have:=U1 z;omega
  ·have:=U1 z;omega
 have main:∀ {D:ai6} ,(∀ x:Int,∀ y:Int,y=0→Int.gcd x y=Int.gcd a b→D.nx [some (.int x),some (.int y)] H)→am0 (fun σ H_1 Q=>aa6 1 σ H_1 fun x H'=>∃ k,aa4 K x H' k∧Q k H')
   (bi2 0 1 (ag5 (aa6 1) (ag5 (tOp (rI (fun x j=>j≠0) fun i j=>V.int (i.fmod j)) (aa6 0) (aa6 1)) aJ4))) D [some (.int a),some (.int b)] H:=by
  intro D hD
  refine aJ0 (fun σ H1=>H1=H∧∃ x y:Int,σ=[some (.int x),some (.int y)]∧Int.gcd x y=Int.gcd a b) (fun σ _=>match σ with | [_,some (.int y)]=>y.natAbs | _=>0) ⟨rfl,a,b,rfl,rfl⟩ ?_ ?_
  ·rintro σ H1 ⟨rfl,x,y,rfl,hg⟩
   simp! [aa4]
   split
   ·rename_i hy
    have hy':y≠0:=by simpa using hy
    exact ⟨hy',by rw [aM7];exact hg,ae1 x hy'⟩
   ·rename_i hy
    have hy':y=0:=by simpa using hy
    exact hD x y hy' hg
  ·intro σ H1 Q Q' hQ h
   obtain ⟨v,e1,k,e2,e3⟩:=h
   exact ⟨v,e1,k,e2,hQ _ _ e3⟩
 have fin:∀ x y:Int,y=0→Int.gcd x y=Int.gcd a b→Q (.int (if x<0 then -x else x)) H:=fun x y hy hg=>by
  subst hy
  have e:(if x<0 then -x else x)=(Int.gcd a b:Int):=by
   rw [←hg,Int.gcd_zero_right]
   split <;> lia
  rw [e];exact q
 have nxt:∀ x y:Int,y=0→Int.gcd x y=Int.gcd a b→(bi1 (tCB (fun xs H Q=>∃ i,xs=[V.int i]∧Q (V.int (if i<0 then -i else i)) H) (ag5 (aa6 0) aJ4)) { nx:=fun x H'=>Q V.non H',rt:=Q }) [some (.int x),some (.int y)] H:=fun x y hy hg=>by
  subst_eqs
  exact fin x y hy hg
 subst_eqs
 split
 ·split
  ·exact hno ⟨‹_›,‹_›⟩
  ·exact main nxt
 ·exact main nxt
def aK3 (K:PySem.W.Frag) (op:Rat→Rat→Rat):Sp:=fun vs H Q _=>∃ (x y:V) (p q:Rat),vs=[x,y]∧Num K H x p∧Num K H y q∧Bd6 p∧Bd6 q∧aI8 H Q (op p q)
abbrev ac0:Stmt:=top 28
theorem U7:i8 ["one","other","first","second","top","one_top","one_bottom","other_top","other_bottom"] ["one","other"] (d3 ac0):=by and_intros
theorem bd9 {f fc:Addr} (d:Df K mg "times" ac0 ["one","other"] f) (G_common_divisor:Def P w K mg base CX0 1 "common_divisor" fc ["one","other"] ah3):Def P w K mg base CX0 2 "times" f ["one","other"] (aK3 K (· * ·)):=by
 refine d.ok (N:=["one","other","first","second","top","one_top","one_bottom","other_top","other_bottom"]) U7 (fun vs H Q E ⟨x,y,p,q,h,_⟩=>by rw [h];rfl) (fun cdv A outer s H vs Q E hr h=>?_)
 obtain ⟨x,y,p,q,rfl,⟨ap,rfl,hp⟩,⟨aq,rfl,hq⟩,bp,bq,k⟩:=h
 refine ⟨_,(b9 (K8 (pv 0) (show PG _ _ (P3 K 2 (p5 (n8 5) (p5 (n8 6) P4))) from by (refine B5 (n:=2) ?_ ?_ ?_ ?_;rfl;(refine g7 ?_ ?_ ?_;(exact (e8 (i:=5) U7.nd rfl (Or.inl rfl)));(refine g7 ?_ ?_ ?_;(exact (e8 (i:=6) U7.nd rfl (Or.inl rfl)));(exact v9);rfl);rfl);rfl;rfl)))
   (b9 (K8 (pv 1) (show PG _ _ (P3 K 2 (p5 (n8 7) (p5 (n8 8) P4))) from by (refine B5 (n:=2) ?_ ?_ ?_ ?_;rfl;(refine g7 ?_ ?_ ?_;(exact (e8 (i:=7) U7.nd rfl (Or.inl rfl)));(refine g7 ?_ ?_ ?_;(exact (e8 (i:=8) U7.nd rfl (Or.inl rfl)));(exact v9);rfl);rfl);rfl;rfl)))
   (b9 (i7 (i:=2) U7.nd rfl (Or.inl rfl) (d9 G_common_divisor hr (b6 (pv 5) (b6 (pv 8) b7)) i5))
   (b9 (i7 (i:=3) U7.nd rfl (Or.inl rfl) (d9 G_common_divisor hr (b6 (pv 7) (b6 (pv 6) b7)) i5))
   (b9 (i7 (i:=4) U7.nd rfl (Or.inl rfl) (g6 w8 (g6 C1 (pv 5) (pv 2)) (g6 C1 (pv 7) (pv 3))))
   (d7 (g8 (j9 (b6 (pv 4) (b6 (g6 w8 (g6 C1 (pv 6) (pv 3)) (g6 C1 (pv 8) (pv 2))) b7)))))))))),?_⟩
 rw [show start ["one","other","first","second","top","one_top","one_bottom","other_top","other_bottom"] [.ref ap,.ref aq]=[some (.ref ap),some (.ref aq),none,none,none,none,none,none,none] from rfl]
 simp! [ah3]
 refine ⟨_,hp,rfl,?_⟩
 simp! [t8,ah3]
 refine ⟨_,hq,rfl,?_⟩
 simp! [t8,ah3]
 have dp:=p9 p
 have dq:=p9 q
 have bdp:((p.den:Int)).natAbs<2 ^ 6000:=by rw [Int.natAbs_natCast];exact bp.d
 have bdq:((q.den:Int)).natAbs<2 ^ 6000:=by rw [Int.natAbs_natCast];exact bq.d
 have p1:=N0 (t:=p.num) (b:=(q.den:Int)) (by omega)
 have p2:=N0 (t:=q.num) (b:=(p.den:Int)) (by omega)
 have l1:((Int.gcd p.num q.den:Nat):Int).natAbs<2 ^ 6000:=av7 (by omega) bdq
 have l2:((Int.gcd q.num p.den:Nat):Int).natAbs<2 ^ 6000:=av7 (by omega) bdp
 have v1:∀ i,ax3 i ((Int.gcd p.num q.den:Nat):Int):=fun i=>V5 (by lia) (B6 l1)
 have v2:∀ i,ax3 i ((Int.gcd q.num p.den:Nat):Int):=fun i=>V5 (by lia) (B6 l2)
 have f1:=ac5 (a:=p.num) (g:=((Int.gcd p.num q.den:Nat):Int)) (by omega) (Int.gcd_dvd_left _ _)
 have f2:=ac5 (a:=q.num) (g:=((Int.gcd q.num p.den:Nat):Int)) (by lia) (Int.gcd_dvd_left _ _)
 have f3:=ac5 (a:=p.den) (g:=((Int.gcd q.num p.den:Nat):Int)) (by omega) (Int.gcd_dvd_right _ _)
 have f4:=ac5 (a:=q.den) (g:=((Int.gcd p.num q.den:Nat):Int)) (by omega) (Int.gcd_dvd_right _ _)
 have R:=aZ6 (a:=p.num) (b:=p.den) (c:=q.num) (d:=q.den) dp dq (af6 p) (af6 q) rfl rfl
 refine ⟨.inr (B6 bdq),.inr (B6 bdp),v1 _,v2 _,N6 (Nat.lt_of_le_of_lt f1 bp.n) (Nat.lt_of_le_of_lt f2 bq.n),v2 _,v1 _,N6 (Nat.lt_of_le_of_lt f3 bdp) (Nat.lt_of_le_of_lt f4 bdq),y7,fun r hr'=>?_⟩
 obtain ⟨e1,e2⟩:=N1 R.1 R.2.1 (show (p.den:Int) * q.den≠0 from Int.ne_of_gt (Int.mul_pos dp dq)) R.2.2
 rw [←Y6] at e1 e2
 exact k r _ (d5.new hr' _) (by rw [b8];unfold t8;rw [e1,e2])
def aN9 (K:PySem.W.Frag):Sp:=fun vs H Q _=>∃ (x y:V) (p q:Rat),vs=[x,y]∧Num K H x p∧Num K H y q∧Bd6 p∧Bd6 q∧q≠0∧aI8 H Q (p / q)
theorem ao7 (q:Rat) (h:q.num≠0):(q⁻¹).num=(if q.num<0 then -(q.den:Int) else q.den)∧((q⁻¹).den:Int)=(if q.num<0 then -q.num else q.num):=by
 have dq:=p9 q
 rw [Rat.inv_def]
 by_cases hs:q.num<0
 ·rw [if_pos hs,if_pos hs]
  have:=N1 (n:=-(q.den:Int)) (d:=-q.num) (t:=(q.den:Int)) (b:=q.num) (by omega) (by rw [Int.gcd_neg,Int.neg_gcd,Int.gcd_comm];exact af6 q) h (by rw [Int.neg_mul,Int.mul_neg])
  exact ⟨this.1.symm,this.2.symm⟩
 ·rw [if_neg hs,if_neg hs]
  have:=N1 (n:=(q.den:Int)) (d:=q.num) (t:=(q.den:Int)) (b:=q.num) (by lia) (by rw [Int.gcd_comm];exact af6 q) h rfl
  exact ⟨this.1.symm,this.2.symm⟩
theorem bf2 {q:Rat} (h:q.num≠0) (b:Bd6 q):Bd6 q⁻¹:=by
 obtain ⟨e1,e2⟩:=ao7 q h
 constructor
 ·rw [e1]
  split
  ·rw [Int.natAbs_neg,Int.natAbs_natCast];exact b.d
  ·rw [Int.natAbs_natCast];exact b.d
 ·have:(q⁻¹).den=q.num.natAbs:=by split at e2 <;> lia
  rw [this];exact b.n
abbrev ah6:Stmt:=top 29
theorem aF0:i8 ["one","other","top","bottom"] ["one","other"] (d3 ah6):=by and_intros
theorem bk0 {f ft:Addr} (d:Df K mg "over" ah6 ["one","other"] f) (G_times:Def P w K mg base CX0 2 "times" ft ["one","other"] (aK3 K (· * ·))):Def P w K mg base CX0 3 "over" f ["one","other"] (aN9 K):=by
 refine d.ok (N:=["one","other","top","bottom"]) aF0 (by rintro vs H Q E ⟨x,y,p,q,h,_⟩;rw [h];rfl) (fun cdv A outer s H vs Q E hr h=>?_)
 obtain ⟨x,y,p,q,rfl,⟨ap,rfl,hp⟩,⟨aq,rfl,hq⟩,bp,bq,hq0,k⟩:=h
 refine ⟨_,(b9 (K8 (pv 1) (show PG _ _ (P3 K 2 (p5 (n8 2) (p5 (n8 3) P4))) from by (refine B5 (n:=2) ?_ ?_ ?_ ?_;rfl;(refine g7 ?_ ?_ ?_;(exact (e8 (i:=2) aF0.nd rfl (Or.inl rfl)));(refine g7 ?_ ?_ ?_;(exact (e8 (i:=3) aF0.nd rfl (Or.inl rfl)));(exact v9);rfl);rfl);rfl;rfl)))
   (b9 (A0 (j3 aj9 (pv 2) d4 (j6 _)) (d7 aj7) m8)
   (b9 (A0 (j3 ad0 (pv 2) d4 (j6 _)) (d7 (g8 (d9 G_times hr (b6 (pv 0) (b6 (j9 (b6 (Y3 O2 (pv 3)) (b6 (Y3 O2 (pv 2)) b7))) b7)) i5))) m8)
   (d7 (g8 (d9 G_times hr (b6 (pv 0) (b6 (j9 (b6 (pv 3) (b6 (pv 2) b7))) b7)) i5)))))),?_⟩
 rw [show start ["one","other","top","bottom"] [.ref ap,.ref aq]=[some (.ref ap),some (.ref aq),none,none] from rfl]
 simp! [aK6]
 refine ⟨_,hq,rfl,?_⟩
 simp! [t8,aK6]
 have h0:q.num≠0:=fun z=>hq0 (aa9.mp z)
 rw [if_neg h0]
 obtain ⟨i1,i2⟩:=ao7 q h0
 rw [Rat.div_def] at k
 by_cases hs:q.num<0
 ·rw [if_pos hs] at i1 i2 ⊢
  refine ⟨y7,fun r hr'=>⟨.ref ap,.ref r,p,q⁻¹,rfl,⟨ap,rfl,(d5.new hr' _).tup hp⟩,⟨r,rfl,SqT.of (by rw [b8];unfold t8;rw [i1,i2])⟩,bp,bf2 h0 bq,fun r2 H2 s2 h2=>?_⟩⟩
  exact k r2 H2 ((d5.new hr' _).trans s2) h2
 ·rw [if_neg hs] at i1 i2 ⊢
  refine ⟨y7,fun r hr'=>⟨.ref ap,.ref r,p,q⁻¹,rfl,⟨ap,rfl,(d5.new hr' _).tup hp⟩,⟨r,rfl,SqT.of (by rw [b8];unfold t8;rw [i1,i2])⟩,bp,bf2 h0 bq,fun r2 H2 s2 h2=>?_⟩⟩
  exact k r2 H2 ((d5.new hr' _).trans s2) h2
end
def tyD:D→Value
 | .v .non=>.type "NoneType"
 | .v (.bl _)=>.type "bool"
 | .v (.int _)=>.type "int"
 | .v (.str _)=>.type "str"
 | .v _=>.type "object"
 | .tup _=>.type "tuple"
 | .lst _=>.type "list"
theorem _root_.L2.IsD.ty {K:PySem.W.Frag} {H:Hp} {v:V} {d:D} (h:IsD K H v d):TyX K H v (tyD d):=by
 cases h with
 | v f=>
  cases v with
  | non=>exact .of .non
  | bl b=>exact .of (.bl b)
  | int i=>exact .of (.int i)
  | str s=>exact .of (.str s)
  | _=>cases f
 | tup h t=>exact .sqt h
 | lst h t=>exact .sql h
def bt5:D→Bool
 | .tup _=>true
 | _=>false
def bt6:D→Bool
 | .lst _=>true
 | _=>false
def aH4:D→Bool
 | .v (.int _)=>true
 | .v (.bl _)=>true
 | _=>false
def bo4:D→Bool
 | .v (.bl _)=>true
 | _=>false
section
variable {K:PySem.W.Frag}
theorem aM5 {H:Hp} {v:V} {d:D} (h:IsD K H v d):PySem.W.kitOne K (tyD d) (.type "tuple")=some (bt5 d):=by
 cases h with
 | v f=>
  cases v with
  | non=>kernel_rfl
  | bl b=>kernel_rfl
  | int i=>kernel_rfl
  | str s=>kernel_rfl
  | _=>cases f
 | tup h t=>kernel_rfl
 | lst h t=>kernel_rfl
theorem aQ4 {H:Hp} {v:V} {d:D} (h:IsD K H v d):PySem.W.kitOne K (tyD d) (.type "list")=some (bt6 d):=by
 cases h with
 | v f=>
  cases v with
  | non=>kernel_rfl
  | bl b=>kernel_rfl
  | int i=>kernel_rfl
  | str s=>kernel_rfl
  | _=>cases f
 | tup h t=>kernel_rfl
 | lst h t=>kernel_rfl
theorem aW9 {H:Hp} {v:V} {d:D} (h:IsD K H v d):PySem.W.kitOne K (tyD d) (.type "int")=some (aH4 d):=by
 cases h with
 | v f=>
  cases v with
  | non=>kernel_rfl
  | bl b=>kernel_rfl
  | int i=>kernel_rfl
  | str s=>kernel_rfl
  | _=>cases f
 | tup h t=>kernel_rfl
 | lst h t=>kernel_rfl
theorem aQ5 {H:Hp} {v:V} {d:D} (h:IsD K H v d):PySem.W.kitOne K (tyD d) (.type "bool")=some (bo4 d):=by
 cases h with
 | v f=>
  cases v with
  | non=>kernel_rfl
  | bl b=>kernel_rfl
  | int i=>kernel_rfl
  | str s=>kernel_rfl
  | _=>cases f
 | tup h t=>kernel_rfl
 | lst h t=>kernel_rfl
end
def as7:D→Bool
 | .v (.int _)=>true
 | _=>false
theorem as6 {d:D} (h:as7 d=true):∃ i,d = .v (.int i):=by
 unfold as7 at h
 split at h
 ·exact ⟨_,rfl⟩
 ·cases h
def T3:D→Bool
 | .tup [.v (.int t),.v (.int b)]=>decide (1≤b) && decide (Int.gcd t b=1)
 | _=>false
theorem aG8 {d:D} (h:T3 d=true):∃ q:Rat,d=w9 q:=by
 unfold T3 at h
 split at h
 ·rename_i t b
  simp only [Bool.and_eq_true,decide_eq_true_eq] at h
  obtain ⟨h1,h2⟩:=ac2 (n:=t) (d:=b) (by omega) h.2
  exact ⟨Rat.divInt t b,by unfold w9;rw [h1,h2]⟩
 ·cases h
theorem aL7 (q:Rat):T3 (w9 q)=true:=by
 have:=p9 q
 have:=af6 q
 simp only [w9,T3,Bool.and_eq_true,decide_eq_true_eq]
 lia
def P7 (d:D):Prop:=∀ t b:Int,d = .tup [.v (.int t),.v (.int b)]→t.natAbs<2 ^ 6000∨b.natAbs<2 ^ 6000
theorem al7 {q:Rat} (h:q.den<2 ^ 6000):P7 (w9 q):=by
 intro t b e
 unfold w9 at e
 injection e with e
 injection e with e1 e2
 injection e2 with e2 _
 injection e2 with e2
 injection e2 with e2
 exact .inr (by rw [←e2,Int.natAbs_natCast];exact h)
end R
namespace L2
open PySem PyProof.Rows
mutual
theorem IsD.same {K:PySem.W.Frag} {H H':Hp} (s:d5 H H'):∀ {v:V} {d:D},IsD K H v d→IsD K H' v d
 | _,_,.v f=>.v f
 | _,_,.tup h t=>.tup (s.tup h) (t.same s)
 | _,_,.lst h t=>.lst (s.seq h) (t.same s)
theorem N4.same {K:PySem.W.Frag} {H H':Hp} (s:d5 H H'):∀ {vs:List V} {ds:List D},N4 K H vs ds→N4 K H' vs ds
 | _,_,.nil=>.nil
 | _,_,.cons h t=>.cons (h.same s) (t.same s)
end
theorem N4.get {K:PySem.W.Frag} {H:Hp}:∀ {vs:List V} {ds:List D} {i:Nat} {v:V},N4 K H vs ds→vs[i]? = some v→∃ d,ds[i]? = some d∧IsD K H v d
 | _,_,_,_,.nil,e=>by simp at e
 | _,_,0,_,.cons h _,e=>by cases e;exact ⟨_,rfl,h⟩
 | _,_,i+1,_,.cons _ t,e=>t.get (i:=i) (by simpa using e)
theorem N4.append {K:PySem.W.Frag} {H:Hp}:∀ {vs ws:List V} {ds es:List D},N4 K H vs ds→N4 K H ws es→N4 K H (vs++ws) (ds++es)
 | _,_,_,_,.nil,h=>h
 | _,_,_,_,.cons h t,k=>.cons h (t.append k)
end L2
set_option maxRecDepth 100000
namespace R
open PySem L2 PyProof.Rows
mutual
def noU:D→Bool
 | .v _=>true
 | .tup ds=>aP8 ds
 | .lst ds=>(ds.length != 3) && aP8 ds
def aP8:List D→Bool
 | []=>true
 | d :: ds=>noU d && aP8 ds
end
theorem t7.sql {K:PySem.W.Frag} {u p:Addr} {H H':Hp} {xs:List V} (s:t7 u H H') (hu:v3 H u) (hl:xs.length≠3) (h:SqL K H p xs):SqL K H' p xs:=by
 obtain ⟨g,m,r,hl',_⟩:=hu
 rcases h with h | h
 ·rcases h with h | ⟨o,h⟩
  ·refine .inl (.inl (s _ _ h fun z=>?_))
   rw [z,hl'] at h
   cases h
   exact hl rfl
  ·refine .inl (.inr ⟨o,s _ _ h fun z=>?_⟩)
   rw [z,hl'] at h
   cases h
 ·exact .inr h
theorem t7.sqt {K:PySem.W.Frag} {u p:Addr} {H H':Hp} {xs:List V} (s:t7 u H H') (hu:v3 H u) (h:SqT K H p xs):SqT K H' p xs:=by
 obtain ⟨g,m,r,hl',_⟩:=hu
 rcases h with h | h
 ·rcases h with h | ⟨o,h⟩
  ·refine .inl (.inl (s _ _ h fun z=>?_))
   rw [z,hl'] at h
   cases h
  ·refine .inl (.inr ⟨o,s _ _ h fun z=>?_⟩)
   rw [z,hl'] at h
   cases h
 ·exact .inr h
mutual
theorem aB6 {K:PySem.W.Frag} {u:Addr} {H H':Hp} (s:t7 u H H') (hu:v3 H u):∀ {v:V} {d:D},noU d=true→IsD K H v d→IsD K H' v d
 | _,_,_,.v f=>.v f
 | _,_,n,.tup h t=>.tup (s.sqt hu h) (Y7 s hu (by simpa only [noU] using n) t)
 | _,_,n,.lst h t=>by
  simp only [noU,Bool.and_eq_true,bne_iff_ne,ne_eq] at n
  exact .lst (s.sql hu (by rw [t.length];exact n.1) h) (Y7 s hu n.2 t)
theorem Y7 {K:PySem.W.Frag} {u:Addr} {H H':Hp} (s:t7 u H H') (hu:v3 H u):∀ {vs:List V} {ds:List D},aP8 ds=true→N4 K H vs ds→N4 K H' vs ds
 | _,_,_,.nil=>.nil
 | _,_,n,.cons h t=>by
  simp only [aP8,Bool.and_eq_true] at n
  exact .cons (aB6 s hu n.1 h) (Y7 s hu n.2 t)
end
end R
set_option maxRecDepth 100000
namespace L2
open PySem PyProof.Rows
end L2
namespace R
open PySem L2 PyProof.Rows
inductive Rws (H:Hp):List Addr→List (List Rat)→Prop where
 | nil:Rws H [] []
 | cons {p:Addr} {xs:List V} {ps:List Addr} {L:List Rat} {Ls:List (List Rat)} (h:H p=some (.lst xs)) (n:q8 H xs L) (t:Rws H ps Ls):Rws H (p :: ps) (L :: Ls)
theorem Rws.length {H:Hp}:∀ {ts:List Addr} {M:List (List Rat)},Rws H ts M→ts.length=M.length
 | _,_,.nil=>rfl
 | _,_,.cons _ _ t=>congrArg (· + 1) t.length
theorem Rws.same {H H':Hp} (s:d5 H H'):∀ {ts:List Addr} {M:List (List Rat)},Rws H ts M→Rws H' ts M
 | _,_,.nil=>.nil
 | _,_,.cons h n t=>.cons (s _ _ h) (n.mono s.tups) (t.same s)
theorem Rws.over {H:Hp} {l:Addr} {xs:List V} {o:HO} (hl:H l=some (.lst xs)):∀ {ts:List Addr} {M:List (List Rat)},l ∉ ts→Rws H ts M→Rws (upd H l o) ts M
 | _,_,_,.nil=>.nil
 | _,_,hn,.cons h n t=>.cons (by rw [j0 (fun z=>hn (by rw [←z];exact List.mem_cons_self))];exact h) (n.mono (ac8.lst hl)) (t.over hl fun z=>hn (List.mem_cons_of_mem _ z))
theorem Rws.append {H:Hp}:∀ {ts us:List Addr} {M N:List (List Rat)},Rws H ts M→Rws H us N→Rws H (ts++us) (M++N)
 | _,_,_,_,.nil,h=>h
 | _,_,_,_,.cons h n t,k=>.cons h n (t.append k)
theorem Rws.get {H:Hp}:∀ {ts:List Addr} {M:List (List Rat)} {i:Nat} {p:Addr},Rws H ts M→ts[i]? = some p→∃ xs L,M[i]? = some L∧H p=some (.lst xs)∧q8 H xs L
 | _,_,_,_,.nil,e=>by simp at e
 | _,_,0,_,.cons h n _,e=>by cases e;exact ⟨_,_,rfl,h,n⟩
 | _,_,i+1,_,.cons _ _ t,e=>t.get (i:=i) (by simpa using e)
def bv2 (H:Hp) (Q:VK) (M:List (List Rat)):Prop:=∀ (r:Addr) (ts:List Addr) (H':Hp),d5 H H'→H r=none→(∀ t∈ts,H t=none∧t≠r)→ts.Nodup→H' r=some (.lst (ts.map V.ref))→Rws H' ts M→Q (.ref r) H'
structure ad1 (H:Hp) (D:Addr) (M:List (List Rat)) (H2:Hp):Prop where
 same:d5 H H2
 at':∃ ts:List Addr,H2 D=some (.lst (ts.map V.ref))∧(∀ t∈ts,H t=none∧t≠D)∧ts.Nodup∧Rws H2 ts M
structure bx8 (H:Hp) (D:Addr) (L:List Rat) (H2:Hp):Prop where
 same:d5 H H2
 at':∃ xs:List V,H2 D=some (.lst xs)∧q8 H2 xs L
theorem ad1.start {H:Hp} {D:Addr} (h:H D=none):ad1 H D [] (upd H D (.lst [])):=⟨d5.new h _,[],b8,by simp,.nil,.nil⟩
theorem ad1.res {H H2:Hp} {D:Addr} {M:List (List Rat)} {Q:VK} (k:bv2 H Q M) (h:H D=none) (t:ad1 H D M H2):Q (.ref D) H2:=
 let ⟨s,ts,e,hn,nd,r⟩:=t;k D ts H2 s h hn nd e r
theorem ad1.add {H H2 H3:Hp} {D D2:Addr} {M:List (List Rat)} {L:List Rat} (t:ad1 H D M H2) (h:H D=none) (h2:H2 D2=none) (r:bx8 H2 D2 L H3) :
  ∃ ys,H3 D=some (.lst ys)∧ys.length=M.length∧ad1 H D (M++[L]) (upd H3 D (.lst (ys++[.ref D2]))):=by
 obtain ⟨s2,ts,e2,hn,nd,n2⟩:=t
 obtain ⟨s,xs,e3,n3⟩:=r
 have eD:=s _ _ e2
 have hD2:D2≠D:=(g9 e2 h2).symm
 have hnt:D2 ∉ ts:=fun z=>by
  obtain ⟨i,hi⟩:=List.mem_iff_getElem?.mp z
  obtain ⟨_,_,_,e,_⟩:=n2.get hi
  rw [h2] at e;cases e
 refine ⟨_,eD,by rw [List.length_map,n2.length],(s2.trans s).over h _,ts++[D2],by rw [b8,List.map_append];rfl,?_,?_,?_⟩
 ·intro t ht
  rcases List.mem_append.mp ht with z | z
  ·exact hn t z
  ·rw [List.mem_singleton.mp z]
   refine ⟨?_,hD2⟩
   cases q:H D2 with
   | none=>rfl
   | some o=>rw [s2 _ _ q] at h2;cases h2
 ·rw [List.nodup_append]
  refine ⟨nd,by simp,fun a ha b hb=>?_⟩
  rw [List.mem_singleton.mp hb]
  rintro rfl
  exact hnt ha
 ·refine ((n2.same s).append (.cons e3 n3 .nil)).over eD fun z=>?_
  rcases List.mem_append.mp z with z | z
  ·exact (hn D z).2 rfl
  ·exact hD2 (List.mem_singleton.mp z).symm
def NmC (K:PySem.W.Frag) (H:Hp) (p:Addr) (q:Rat):Prop:=H p=some (.tup (t8 q))∨∀ H',SqT K H' p (t8 q)
theorem NmC.sqt {K:PySem.W.Frag} {H:Hp} {p:Addr} {q:Rat}:NmC K H p q→SqT K H p (t8 q)
 | .inl h=>SqT.of h
 | .inr h=>h H
theorem NmC.mono {K:PySem.W.Frag} {H H':Hp} {p:Addr} {q:Rat} (e:ac8 H H'):NmC K H p q→NmC K H' p q
 | .inl h=>.inl (e _ _ h)
 | .inr h=>.inr h
inductive B8 (K:PySem.W.Frag) (H:Hp):List V→List Rat→Prop where
 | nil:B8 K H [] []
 | cons {p:Addr} {q:Rat} {vs:List V} {qs:List Rat} (h:NmC K H p q) (t:B8 K H vs qs):B8 K H (.ref p :: vs) (q :: qs)
theorem B8.mono {K:PySem.W.Frag} {H H':Hp} (e:ac8 H H'):∀ {vs:List V} {qs:List Rat},B8 K H vs qs→B8 K H' vs qs
 | _,_,.nil=>.nil
 | _,_,.cons h t=>.cons (h.mono e) (t.mono e)
theorem B8.length {K:PySem.W.Frag} {H:Hp}:∀ {vs:List V} {qs:List Rat},B8 K H vs qs→vs.length=qs.length
 | _,_,.nil=>rfl
 | _,_,.cons _ t=>congrArg (· + 1) t.length
theorem B8.append {K:PySem.W.Frag} {H:Hp}:∀ {vs ws:List V} {qs rs:List Rat},B8 K H vs qs→B8 K H ws rs→B8 K H (vs++ws) (qs++rs)
 | _,_,_,_,.nil,b=>b
 | _,_,_,_,.cons h t,b=>.cons h (t.append b)
theorem B8.getV {K:PySem.W.Frag} {H:Hp}:∀ {vs:List V} {qs:List Rat} {i:Nat} {v:V},B8 K H vs qs→vs[i]? = some v→∃ p q,v = .ref p∧qs[i]? = some q∧NmC K H p q
 | _,_,_,_,.nil,e=>by simp at e
 | _,_,0,_,.cons h t,e=>by cases e;exact ⟨_,_,rfl,rfl,h⟩
 | _,_,i+1,_,.cons _ t,e=>t.getV (i:=i) (by simpa using e)
theorem q8.toC {K:PySem.W.Frag} {H:Hp}:∀ {vs:List V} {qs:List Rat},q8 H vs qs→B8 K H vs qs
 | _,_,.nil=>.nil
 | _,_,.cons h t=>.cons (.inl h) t.toC
inductive ac9 (K:PySem.W.Frag) (H:Hp):List Addr→List (List Rat)→Prop where
 | nil:ac9 K H [] []
 | cons {p:Addr} {xs:List V} {ps:List Addr} {L:List Rat} {Ls:List (List Rat)} (h:H p=some (.lst xs)) (n:B8 K H xs L) (t:ac9 K H ps Ls):ac9 K H (p :: ps) (L :: Ls)
theorem ac9.length {K:PySem.W.Frag} {H:Hp}:∀ {ts:List Addr} {M:List (List Rat)},ac9 K H ts M→ts.length=M.length
 | _,_,.nil=>rfl
 | _,_,.cons _ _ t=>congrArg (· + 1) t.length
theorem ac9.same {K:PySem.W.Frag} {H H':Hp} (s:d5 H H'):∀ {ts:List Addr} {M:List (List Rat)},ac9 K H ts M→ac9 K H' ts M
 | _,_,.nil=>.nil
 | _,_,.cons h n t=>.cons (s _ _ h) (n.mono s.tups) (t.same s)
theorem ac9.over {K:PySem.W.Frag} {H:Hp} {l:Addr} {xs:List V} {o:HO} (hl:H l=some (.lst xs)):∀ {ts:List Addr} {M:List (List Rat)},l ∉ ts→ac9 K H ts M→ac9 K (upd H l o) ts M
 | _,_,_,.nil=>.nil
 | _,_,hn,.cons h n t=>.cons (by rw [j0 (fun z=>hn (by rw [←z];exact List.mem_cons_self))];exact h) (n.mono (ac8.lst hl)) (t.over hl fun z=>hn (List.mem_cons_of_mem _ z))
theorem ac9.append {K:PySem.W.Frag} {H:Hp}:∀ {ts us:List Addr} {M N:List (List Rat)},ac9 K H ts M→ac9 K H us N→ac9 K H (ts++us) (M++N)
 | _,_,_,_,.nil,h=>h
 | _,_,_,_,.cons h n t,k=>.cons h n (t.append k)
theorem ac9.get {K:PySem.W.Frag} {H:Hp}:∀ {ts:List Addr} {M:List (List Rat)} {i:Nat} {p:Addr},ac9 K H ts M→ts[i]? = some p→∃ xs L,M[i]? = some L∧H p=some (.lst xs)∧B8 K H xs L
 | _,_,_,_,.nil,e=>by simp at e
 | _,_,0,_,.cons h n _,e=>by cases e;exact ⟨_,_,rfl,h,n⟩
 | _,_,i+1,_,.cons _ _ t,e=>t.get (i:=i) (by simpa using e)
structure aR9 (K:PySem.W.Frag) (H:Hp) (D:Addr) (M:List (List Rat)) (H2:Hp):Prop where
 same:d5 H H2
 at':∃ ts:List Addr,H2 D=some (.lst (ts.map V.ref))∧(∀ t∈ts,H t=none∧t≠D)∧ts.Nodup∧ac9 K H2 ts M
structure by8 (K:PySem.W.Frag) (H:Hp) (D:Addr) (L:List Rat) (H2:Hp):Prop where
 same:d5 H H2
 at':∃ xs:List V,H2 D=some (.lst xs)∧B8 K H2 xs L
theorem aR9.start {K:PySem.W.Frag} {H:Hp} {D:Addr} (h:H D=none):aR9 K H D [] (upd H D (.lst [])):=⟨d5.new h _,[],b8,by simp,.nil,.nil⟩
theorem aR9.add {K:PySem.W.Frag} {H H2 H3:Hp} {D D2:Addr} {M:List (List Rat)} {L:List Rat} (t:aR9 K H D M H2) (h:H D=none) (h2:H2 D2=none) (r:by8 K H2 D2 L H3) :
  ∃ ys,H3 D=some (.lst ys)∧ys.length=M.length∧aR9 K H D (M++[L]) (upd H3 D (.lst (ys++[.ref D2]))):=by
 obtain ⟨s2,ts,e2,hn,nd,n2⟩:=t
 obtain ⟨s,xs,e3,n3⟩:=r
 have eD:=s _ _ e2
 have hD2:D2≠D:=(g9 e2 h2).symm
 have hnt:D2 ∉ ts:=fun z=>by
  obtain ⟨i,hi⟩:=List.mem_iff_getElem?.mp z
  obtain ⟨_,_,_,e,_⟩:=n2.get hi
  rw [h2] at e;cases e
 refine ⟨_,eD,by rw [List.length_map,n2.length],(s2.trans s).over h _,ts++[D2],by rw [b8,List.map_append];rfl,?_,?_,?_⟩
 ·intro t ht
  rcases List.mem_append.mp ht with z | z
  ·exact hn t z
  ·rw [List.mem_singleton.mp z]
   refine ⟨?_,hD2⟩
   cases q:H D2 with
   | none=>rfl
   | some o=>rw [s2 _ _ q] at h2;cases h2
 ·rw [List.nodup_append]
  refine ⟨nd,by simp,fun a ha b hb=>?_⟩
  rw [List.mem_singleton.mp hb]
  rintro rfl
  exact hnt ha
 ·refine ((n2.same s).append (.cons e3 n3 .nil)).over eD fun z=>?_
  rcases List.mem_append.mp z with z | z
  ·exact (hn D z).2 rfl
  ·exact hD2 (List.mem_singleton.mp z).symm
theorem ad1.to {H H2 H3:Hp} {D:Addr} {M:List (List Rat)} (t:ad1 H D M H2) (s:d5 H2 H3):ad1 H D M H3:=
 let ⟨s2,ts,e,hn,nd,r⟩:=t;⟨s2.trans s,ts,s _ _ e,hn,nd,r.same s⟩
def ClA (D:Addr) (H:Hp) (v:V) (p:List Rat):Prop:=∃ r l,v = .ref r∧H r=some (.tup [.ref l,.int (m5 p)])∧H l=some (.lst ((j1 (m5 p) p).map V.int))∧l≠D
inductive ClL (D:Addr) (H:Hp):List V→List (List Rat)→Prop where
 | nil:ClL D H [] []
 | cons {v:V} {p:List Rat} {vs:List V} {ps:List (List Rat)} (h:ClA D H v p) (t:ClL D H vs ps):ClL D H (v :: vs) (p :: ps)
structure ClR (H:Hp) (D:Addr) (M:List (List Rat)) (H2:Hp):Prop where
 same:d5 H H2
 at':∃ vs:List V,H2 D=some (.lst vs)∧ClL D H2 vs M
instance {K:PySem.W.Frag} {H:Hp} {vs:List V} {qs:List Rat}:Coe (q8 H vs qs) (B8 K H vs qs):=⟨q8.toC⟩
theorem B8.get {K:PySem.W.Frag} {H:Hp}:∀ {vs:List V} {qs:List Rat} {i:Nat} {q:Rat},B8 K H vs qs→qs[i]? = some q→∃ p,vs[i]? = some (.ref p)∧NmC K H p q
 | _,_,_,_,.nil,e=>by simp at e
 | _,_,0,_,.cons h _,e=>by cases e;exact ⟨_,rfl,h⟩
 | _,_,i+1,_,.cons _ t,e=>t.get (i:=i) (by simpa using e)
theorem B8.take {K:PySem.W.Frag} {H:Hp}:∀ {vs:List V} {qs:List Rat} (m:Nat),B8 K H vs qs→B8 K H (vs.take m) (qs.take m)
 | _,_,0,_=>by simp only [List.take_zero];exact .nil
 | _,_,m+1,.nil=>by simp only [List.take_nil];exact .nil
 | _,_,m+1,.cons h t=>by simp only [List.take_succ_cons];exact .cons h (t.take m)
section
variable {P:Program} {w:World} {K:PySem.W.Frag} {mg:Str→Option Value} {base:Heap}
def aa8 (K:PySem.W.Frag):Sp:=fun vs H Q _=>∃ a ws,vs=[.ref a]∧SqL K H a (ws.map V.int)∧(∀ w∈ws,Int.natAbs w<2 ^ 6000)∧Q (.int (u8 ws)) H
abbrev J2:Stmt:=top 34
theorem U3:i8 ["wholes","content","whole"] ["wholes"] (d3 J2):=by and_intros
set_option maxHeartbeats 0 in
theorem ay4 {f fc:Addr} (d:Df K mg "content_of" J2 ["wholes"] f) (G_common_divisor:Def P w K mg base CX0 1 "common_divisor" fc ["one","other"] ah3):Def P w K mg base CX0 2 "content_of" f ["wholes"] (aa8 K):=by
 refine d.ok (N:=["wholes","content","whole"]) U3 (by rintro vs H Q E ⟨a,b,h,_⟩;rw [h];rfl) (fun cdv A outer s H vs Q E hr h=>?_)
 obtain ⟨a,ws,rfl,hS,hb,k⟩:=h
 refine ⟨_,(b9 (i7 (i:=1) U3.nd rfl (Or.inl rfl) d4)
   (b9 (R1 PassesOwn.never rfl (D4 (pv 0)) (e8 (i:=2) U3.nd rfl (Or.inl rfl)) (b9 (i7 (i:=1) U3.nd rfl (Or.inl rfl) (d9 G_common_divisor hr (b6 (pv 2) (b6 (pv 1) b7)) i5))
   (d7 (A0 (j3 aj9 (pv 1) d4 (j6 _)) (d7 (g8 d4)) m8))))
   (d7 (g8 (pv 1))))),?_⟩
 rw [show start ["wholes","content","whole"] [.ref a]=[some (.ref a),none,none] from rfl]
 subst_eqs
 refine ⟨_,rfl,a,rfl,⟨_,hS⟩,ak8 (xs:=ws.map V.int) (fun i σ H1=>H1=H∧∃ o,σ=[some (.ref a),some (.int (u8 (ws.take i):Nat)),o]) ⟨rfl,_,rfl⟩ (fun i σ H1 _ ⟨e,_⟩=>e ▸ hS) ?_ ?_⟩
 ·rintro i x σ H1 hx ⟨rfl,o,rfl⟩
  rw [List.getElem?_map] at hx
  cases hw:ws[i]? with
  | none=>rw [hw] at hx;cases hx
  | some v=>
   rw [hw] at hx
   cases hx
   have hm:=List.mem_of_getElem? hw
   simp! [ah3]
   have es:ws.take (i+1)=ws.take i++[v]:=by rw [List.take_succ,hw];rfl
   have eg:Int.gcd v (u8 (ws.take i):Int)=u8 (ws.take (i+1)):=by rw [es,aX2]
   refine ⟨.inl (Nat.lt_of_lt_of_le (hb v hm) (d6 (by decide))),?_⟩
   rw [eg]
   refine ⟨rfl,t9 (fun h1=>?_) (fun _=>?_)⟩
   ·have:u8 (ws.take (i+1))=1:=by lia
    have e1:=bg0 _ this
    rw [e1] at k
    exact k
   ·exact ⟨rfl,_,rfl⟩
 ·rintro σ H1 ⟨rfl,o,rfl⟩
  rw [List.length_map,List.take_length]
  exact ⟨_,rfl,k⟩
def am5 (K:PySem.W.Frag):Sp:=fun vs H Q _=>∃ a xs qs,vs=[.ref a]∧SqL K H a xs∧B8 K H xs qs∧(∃ W:Nat,ClN W qs∧W≤6000)∧qs.length≤100 ∧
 ∀ r l H',d5 H H'→H l=none→H' r=some (.tup [.ref l,.int (m5 qs)])→H' l=some (.lst ((j1 (m5 qs) qs).map V.int))→Q (.ref r) H'
abbrev P6:Stmt:=top 37
theorem ab9:i8 ["numbers","bottom","number"] ["numbers"] (d3 P6):=by and_intros
set_option maxHeartbeats 0 in
theorem aP5 {f fc:Addr} (d:Df K mg "cleared" P6 ["numbers"] f) (G_common_divisor:Def P w K mg base CX0 1 "common_divisor" fc ["one","other"] ah3):Def P w K mg base CX0 2 "cleared" f ["numbers"] (am5 K):=by
 refine d.ok (N:=["numbers","bottom","number"]) ab9 (by rintro vs H Q E ⟨a,b,c,h,_⟩;rw [h];rfl) (fun cdv A outer s H vs Q E hr h=>?_)
 obtain ⟨a,xs,qs,rfl,hS,hN,⟨W,hs,hm⟩,hl,k⟩:=h
 refine ⟨_,(b9 (i7 (i:=1) ab9.nd rfl (Or.inr rfl) d4)
   (b9 (R1 PassesOwn.never rfl (D4 (pv 0)) (e8 (i:=2) ab9.nd rfl (Or.inl rfl)) (d7 (i7 (i:=1) ab9.nd rfl (Or.inr rfl) (g6 w8 (g6 C1 (pv 1) (d9 G_common_divisor hr (b6 (pv 1) (b6 (j8 p8 (pv 2) d4 (fun _ _=>rfl)) b7)) i5)) (j8 p8 (pv 2) d4 (fun _ _=>rfl))))))
   (d7 (g8 (j9 (b6 (R6 (Nc:=["bottom","top","under"]) (caps:=[some 1,none,none]) rfl (Z3.of (osc:=d3 P6) (N:=["numbers","bottom","number"]) (ks:=["bottom"]) rfl rfl rfl rfl (F8 rfl D3) (by decide +kernel)) (D4 (pv 0)) (fun C s₂ H₂ fp pins=>(show PG _ _ (P3 K 2 (p5 (n8 1) (p5 (n8 2) P4))) from by (refine B5 (n:=2) ?_ ?_ ?_ ?_;rfl;(refine g7 ?_ ?_ ?_;(exact (e8 (i:=1) (show List.Nodup (["bottom","top","under"]:List Str) by decide +kernel) rfl (Or.inl rfl) (Or.inr rfl)));(refine g7 ?_ ?_ ?_;(exact (e8 (i:=2) (show List.Nodup (["bottom","top","under"]:List Str) by decide +kernel) rfl (Or.inl rfl) (Or.inr rfl)));(exact v9);rfl);rfl);rfl;rfl))) (fun C s₂ H₂ fp pins=>(g6 w8 (pv 1) (g6 C1 (pv 0) (pv 2))))) (b6 (pv 1) b7))))))),?_⟩
 rw [show start ["numbers","bottom","number"] [.ref a]=[some (.ref a),none,none] from rfl]
 subst_eqs
 have small:∀ q∈qs,q.den<2 ^ 6000:=fun q hq=>Nat.lt_of_lt_of_le (hs.den hq) (d6 hm)
 have hB:∀ i,0<m5 (qs.take i)∧m5 (qs.take i)<2 ^ 6000:=fun i=>by
  exact ⟨C2 _,Nat.lt_of_lt_of_le (hs.take i) (d6 hm)⟩
 refine ⟨_,rfl,a,rfl,⟨_,hS⟩,ak8 (xs:=xs) (fun i σ H1=>H1=H∧∃ o,σ=[some (.ref a),some (.int (m5 (qs.take i):Nat)),o]) ⟨rfl,_,rfl⟩ (fun i σ H1 _ ⟨e,_⟩=>e ▸ hS) ?_ ?_⟩
 ·rintro i x σ H1 hx ⟨rfl,o,rfl⟩
  obtain ⟨p,q,rfl,hq,hp⟩:=hN.getV hx
  obtain ⟨b1,b2⟩:=hB i
  have hd:=small q (List.mem_of_getElem? hq)
  have hd0:=p9 q
  have es:qs.take (i+1)=qs.take i++[q]:=by rw [List.take_succ,hq];rfl
  have gp:(0:Int)<(Int.gcd (m5 (qs.take i):Int) (q.den:Int):Nat):=by
   have:=N0 (t:=(m5 (qs.take i):Int)) (b:=(q.den:Int)) (by lia);omega
  have el:(m5 (qs.take i):Int).fdiv (Int.gcd (m5 (qs.take i):Int) (q.den:Int):Nat) * (q.den:Int)=(m5 (qs.take (i+1)):Nat):=by
   rw [es,aW8]
   obtain ⟨e,he⟩:=Int.gcd_dvd_left (m5 (qs.take i):Int) (q.den:Int)
   have hg:Int.gcd (m5 (qs.take i):Int) (q.den:Int)=Nat.gcd (m5 (qs.take i)) q.den:=by simp [Int.gcd]
   have h1:(m5 (qs.take i):Int).fdiv (Int.gcd (m5 (qs.take i):Int) (q.den:Int):Nat)=e:=by
    conv=>lhs;arg 1;rw [he]
    exact j2 (by lia)
   rw [h1]
   have h2:Nat.gcd (m5 (qs.take i)) q.den * Nat.lcm (m5 (qs.take i)) q.den=m5 (qs.take i) * q.den:=Nat.gcd_mul_lcm _ _
   have h3:((Nat.gcd (m5 (qs.take i)) q.den:Nat):Int) * (Nat.lcm (m5 (qs.take i)) q.den:Nat)=(m5 (qs.take i):Int) * (q.den:Int):=by
    rw [←Int.natCast_mul,h2,Int.natCast_mul]
   rw [←hg] at h3
   have h4:((Int.gcd (m5 (qs.take i):Int) (q.den:Int):Nat):Int) * (e * q.den)=((Int.gcd (m5 (qs.take i):Int) (q.den:Int):Nat):Int) * (Nat.lcm (m5 (qs.take i)) q.den:Nat):=by
    rw [h3,←Int.mul_assoc,←he]
   exact Int.eq_of_mul_eq_mul_left (by omega) h4
  simp! [ah3]
  have hd9:(q.den:Int).natAbs<2 ^ 6000:=by rw [Int.natAbs_natCast];exact hd
  exact ⟨_,hp.sqt,_,at1 q,_,rfl,.inr (B6 hd9),V5 (by lia) (av7 (by omega) (B6 hd9)),_,hp.sqt,_,at1 q,_,rfl,N6 (m:=6000) (n:=6000) (Nat.lt_of_le_of_lt (ac5 (by omega) (Int.gcd_dvd_left _ _)) (by rw [Int.natAbs_natCast];exact b2)) hd9,el,_,rfl⟩
 ·rintro σ H1 ⟨rfl,o,rfl⟩
  rw [←hN.length] at hl
  have e1:qs.take xs.length=qs:=by rw [hN.length,List.take_length]
  rw [e1]
  simp! [ah3]
  refine ⟨⟨_,hS⟩,fun D hD=>?_⟩
  refine N2 xs (fun i σ H2=>∃ o1 o2,σ=[some (.int (m5 qs)),o1,o2]∧d5 H1 H2∧H2 D=some (.lst ((j1 (m5 qs) (qs.take i)).map V.int))) ⟨_,_,rfl,d5.new hD _,b8⟩ (fun i σ H2 _ ⟨_,_,_,s2,_⟩=>s2.seq hS) ?_ ?_
  ·rintro i x σ H2 hx ⟨o1,o2,rfl,s2,e2⟩
   have hi:=(List.getElem?_eq_some_iff.mp hx).1
   obtain ⟨p,q,rfl,hq,hp⟩:=hN.getV hx
   have hd:=small q (List.mem_of_getElem? hq)
   have hd0:=p9 q
   have hd9:(q.den:Int).natAbs<2 ^ 6000:=by rw [Int.natAbs_natCast];exact hd
   have hn9:=hs.num (List.mem_of_getElem? hq)
   have es:qs.take (i+1)=qs.take i++[q]:=by rw [List.take_succ,hq];rfl
   subst_eqs
   refine ⟨_,s2.tup hp.sqt,rfl,_,_,rfl,_,_,rfl,rfl,?_⟩
   refine ⟨_,rfl,V5 (by lia) (B6 hd9),_,rfl,N6 (m:=6000) (n:=6000) (Nat.lt_of_lt_of_le hn9 (d6 (by omega))) (Nat.lt_of_le_of_lt (ac5 (by omega) (Int.natCast_dvd_natCast.mpr (O1 (List.mem_of_getElem? hq)))) (by rw [Int.natAbs_natCast];have:=(hB qs.length).2;rwa [List.take_length] at this)),?_⟩
   refine G8.mk hi e2 ?_ ⟨_,_,rfl,(s2.trans (d5.refl _)).over hD _,?_⟩
   ·simp only [List.length_map,j1,List.length_take]
    exact Nat.lt_of_le_of_lt (show _≤100 by lia) (by decide)
   ·rw [b8,es]
    simp [j1]
  ·rintro σ H2 ⟨o1,o2,rfl,s2,e2⟩
   rw [e1] at e2
   refine ⟨y7,fun p hp=>k p D _ (s2.trans (d5.new hp _)) hD b8 ?_⟩
   rw [j0 (g9 e2 hp)];exact e2
end
theorem bk6 {qs:List Rat} (hc:u8 (j1 (m5 qs) qs)≠0) :
  let c:Int:=u8 (j1 (m5 qs) qs)
  (Rat.divInt c (m5 qs)).num=c∧((Rat.divInt c (m5 qs)).den:Int)=m5 qs∧qs=scl (Rat.divInt c (m5 qs)) ((j1 (m5 qs) qs).map fun v=>v.fdiv c):=by
 intro c
 have hB:=C2 qs
 obtain ⟨h1,h2⟩:=ac2 (n:=c) (d:=(m5 qs:Int)) (by omega) (aI5 qs)
 refine ⟨h1,h2,?_⟩
 unfold scl j1
 rw [List.map_map,List.map_map]
 conv=>lhs;rw [←List.map_id qs]
 refine List.map_congr_left fun q hq=>?_
 show q=Rat.divInt c (m5 qs) * (((q.num * (m5 qs:Int).fdiv (q.den:Int)).fdiv c:Int):Rat)
 obtain ⟨e,he⟩:=N7 (ws:=j1 (m5 qs) qs) (List.mem_map.mpr ⟨q,hq,rfl⟩)
 have hc':c≠0:=by show ((u8 (j1 (m5 qs) qs):Nat):Int)≠0;lia
 have e1:(q.num * (m5 qs:Int).fdiv (q.den:Int)).fdiv c=e:=by
  conv=>lhs;arg 1;rw [he]
  exact j2 hc'
 rw [e1]
 conv=>lhs;rw [as5 hB (O1 hq)]
 rw [he]
 have e2:(e:Rat)=Rat.divInt e 1:=by
  have:=Rat.num_divInt_den (e:Rat)
  rw [Rat.num_intCast,Rat.den_intCast] at this
  exact this.symm
 rw [e2,Rat.divInt_mul_divInt,Int.mul_one]
theorem aT5 {ws:List Int} {v:Int} (h:v∈ws) (hv:v≠0):u8 ws≠0:=fun z=>by
 obtain ⟨e,he⟩:=N7 h
 rw [z] at he
 simp at he
 exact hv he
theorem ai4 {a g:Int} {n:Nat} (hg:0<g) (hd:g ∣ a) (h:a.natAbs<n):(a.fdiv g).natAbs<n:=Nat.lt_of_le_of_lt (ac5 hg hd) h
section
variable {P:Program} {w:World} {K:PySem.W.Frag} {mg:Str→Option Value} {base:Heap}
theorem aC4 {d:Nat}:∀ (ws:List Int) (c:Nat),d ∣ c→(∀ w∈ws,(d:Int) ∣ w)→d ∣ ws.foldl (fun c w=>Int.gcd w c) c
 | [],c,h,_=>h
 | w :: r,c,h,hw=>aC4 r _ (Int.dvd_gcd (hw w List.mem_cons_self) (Int.natCast_dvd_natCast.mpr h)) fun x hx=>hw x (List.mem_cons_of_mem _ hx)
theorem at9 {q:Rat} (h:0<q.num):0<q:=(Rat.lt_iff 0 q).mpr (by
 show (0:Int) * (q.den:Int)<q.num * ((1:Nat):Int)
 rw [Int.zero_mul];simpa using h)
theorem aB9 {ws:List Int} (hc:u8 ws≠0):u8 (ws.map fun v=>v.fdiv ((u8 ws:Nat):Int))=1:=by
 obtain ⟨g,hg⟩:∃ g,g=u8 ws:=⟨_,rfl⟩
 obtain ⟨e,he⟩:∃ e,e=u8 (ws.map fun v=>v.fdiv ((u8 ws:Nat):Int)):=⟨_,rfl⟩
 have hd:(g * e) ∣ u8 ws:=aC4 ws 0 (Nat.dvd_zero _) fun w hw=>by
  obtain ⟨y,hy⟩:=N7 hw
  have h1:w.fdiv ((u8 ws:Nat):Int)=y:=by
   conv=>lhs;arg 1;rw [hy]
   exact j2 (by lia)
  obtain ⟨z,hz⟩:=N7 (List.mem_map.mpr ⟨w,hw,rfl⟩:w.fdiv ((u8 ws:Nat):Int)∈ws.map fun v=>v.fdiv ((u8 ws:Nat):Int))
  rw [h1,←he] at hz
  exact ⟨z,by rw [hy,←hg,hz,Int.natCast_mul,Int.mul_assoc]⟩
 rw [←hg] at hd
 obtain ⟨z,hz⟩:=hd
 have h2:g * 1=g * (e * z):=by rw [Nat.mul_one,←Nat.mul_assoc];exact hz
 have h3:=Nat.eq_of_mul_eq_mul_left (show 0<g by lia) h2
 rw [←he]
 exact Nat.dvd_one.mp ⟨z,h3⟩
def am3 (K:PySem.W.Frag):Sp:=fun vs H Q _=>∃ a xs qs,vs=[.ref a]∧SqL K H a xs∧B8 K H xs qs∧∃ W:Nat,ClN W qs∧W≤6000∧1≤W∧qs.length≤100∧A7 qs qs.length ∧
 ∀ r rs l s ws H',d5 H H'→H l=none→H' r=some (.tup [.ref rs,.ref l])→SqT K H' rs (t8 s)→H' l=some (.lst (ws.map V.int))→BdN W s→s≠0→(∀ v∈ws,Int.natAbs v<2 ^ W)→ws.length=qs.length→qs=scl s ws→(ws≠[]→u8 ws=1)→Q (.ref r) H'
def am2 (K:PySem.W.Frag):Sp:=fun vs H Q _=>∃ a xs qs,vs=[.ref a]∧SqL K H a xs∧B8 K H xs qs∧∃ W:Nat,ClN W qs∧W≤6000∧1≤W∧qs.length≤100∧A7 qs qs.length ∧
 ∀ r rs l s ws H',d5 H H'→H l=none→H' r=some (.tup [.ref rs,.ref l])→SqT K H' rs (t8 s)→H' l=some (.lst (ws.map V.int))→BdN W s→s≠0→(∀ v∈ws,Int.natAbs v<2 ^ W)→ws.length=qs.length→qs=scl s ws→(ws≠[]→u8 ws=1)→0<s→Q (.ref r) H'
abbrev Q6:Stmt:=top 38
theorem af4:i8 ["p","content","wholes","bottom"] ["p"] (d3 Q6):=by and_intros
set_option maxHeartbeats 0 in
theorem au8 {f fc fk aN:Addr} (d:Df K mg "lifted" Q6 ["p"] f) (G_cleared:Def P w K mg base CX0 2 "cleared" fc ["numbers"] (am5 K)) (G_content_of:Def P w K mg base CX0 2 "content_of" fk ["wholes"] (aa8 K)) (c_ONE:mg "ONE" = some (.ref aN)) (tN:∀ H,SqT K H aN (t8 1)):Def P w K mg base CX0 3 "lifted" f ["p"] (am2 K):=by
 refine d.ok (N:=["p","content","wholes","bottom"]) af4 (by rintro vs H Q E ⟨a,b,c,h,_⟩;rw [h];rfl) (fun cdv A outer s H vs Q E hr h=>?_)
 obtain ⟨a,xs,qs,rfl,hS,hN,m,hs,hm,hm1,hl,ht,k⟩:=h
 refine ⟨_,(b9 (K8 (d9 G_cleared hr (b6 (pv 0) b7) i5) (show PG _ _ (P3 K 2 (p5 (n8 2) (p5 (n8 3) P4))) from by (refine B5 (n:=2) ?_ ?_ ?_ ?_;rfl;(refine g7 ?_ ?_ ?_;(exact (e8 (i:=2) af4.nd rfl (Or.inl rfl)));(refine g7 ?_ ?_ ?_;(exact (e8 (i:=3) af4.nd rfl (Or.inl rfl)));(exact v9);rfl);rfl);rfl;rfl)))
   (b9 (A0 (G0 (C4 (pv 2) (fun _=>rfl))) (d7 (g8 (j9 (b6 (v4 (v:=.ref _) rfl c_ONE rfl) (b6 (t6 b7) b7))))) m8)
   (b9 (i7 (i:=1) af4.nd rfl (Or.inr rfl) (d9 G_content_of hr (b6 (pv 2) b7) i5))
   (d7 (g8 (j9 (b6 (j9 (b6 (pv 1) (b6 (pv 3) b7))) (b6 (R6 (Nc:=["content","whole"]) (caps:=[some 1,none]) rfl (Z3.of (osc:=d3 Q6) (N:=["p","content","wholes","bottom"]) (ks:=["content"]) rfl rfl rfl rfl (F8 rfl D3) (by decide +kernel)) (D4 (pv 2)) (fun C s₂ H₂ fp pins=>(e8 (i:=1) (show List.Nodup (["content","whole"]:List Str) by decide +kernel) rfl (Or.inl rfl) (Or.inr rfl))) (fun C s₂ H₂ fp pins=>(g6 C1 (pv 1) (pv 0)))) b7)))))))),?_⟩
 rw [show start ["p","content","wholes","bottom"] [.ref a]=[some (.ref a),none,none,none] from rfl]
 simp! [aa4]
 refine ⟨a,xs,qs,rfl,hS,hN,⟨m,hs,hm⟩,hl,fun r l H1 s1 hl1 er el=>?_⟩
 have hB:=C2 qs
 have hB1:=hs.l
 have wl:=hs.w
 refine ⟨r,rfl,_,SqT.of er,rfl,_,_,rfl,_,_,rfl,rfl,_,.inl ⟨_,SqL.of el,rfl⟩,t9 (fun h0=>?_) (fun h0=>?_)⟩
 ·have hq:qs=[]:=by
   cases qs with
   | nil=>rfl
   | cons q r=>simp [j1] at h0
  subst hq
  refine ⟨by decide,fun p hp=>⟨y7,fun p1 hp1=>?_⟩⟩
  refine k p1 aN p 1 [] _ (s1.trans ((d5.new hp _).trans (d5.new hp1 _))) (s1.free hp) b8 (tN _) (by rw [j0 (bs8 hp1).symm];exact b8) ⟨Nat.lt_of_lt_of_le (show _<2 ^ 1 by decide) (d6 (by omega)),Nat.lt_of_lt_of_le (show _<2 ^ 1 by decide) (d6 (by omega))⟩ (by decide) (by simp) (by simp) rfl (fun z=>absurd rfl z) (by decide)
 ·have hq:qs≠[]:=fun z=>h0 (by rw [z];rfl)
  have lp:0<qs.length:=List.length_pos_iff.mpr hq
  have hlast:qs.length - 1<qs.length:=by lia
  have hne:qs[qs.length - 1]≠0:=ht.last (by lia) _ (List.getElem?_eq_getElem hlast)
  have hmem:qs[qs.length - 1]∈qs:=List.getElem_mem hlast
  have hc:u8 (j1 (m5 qs) qs)≠0:=by
   refine aT5 (List.mem_map.mpr ⟨_,hmem,rfl⟩) ?_
   obtain ⟨e,he⟩:=O1 hmem
   have h0:(qs[qs.length - 1].den:Int)≠0:=by have:=qs[qs.length - 1].den_nz;lia
   have e1:(m5 qs:Int).fdiv (qs[qs.length - 1].den:Int)=(e:Int):=by
    rw [he,Int.natCast_mul];exact j2 h0
   rw [e1]
   refine Int.mul_ne_zero (fun z=>hne (aa9.mp z)) ?_
   intro z
   have:e=0:=by lia
   rw [this] at he;lia
  obtain ⟨f1,f2,f3⟩:=bk6 hc
  have cpos:(0:Int)<(u8 (j1 (m5 qs) qs):Nat):=by lia
  have cle:u8 (j1 (m5 qs) qs)<2 ^ m:=by
   have hm:qs[qs.length - 1].num * (m5 qs:Int).fdiv (qs[qs.length - 1].den:Int)∈j1 (m5 qs) qs:=List.mem_map.mpr ⟨_,hmem,rfl⟩
   obtain ⟨e,he⟩:=N7 hm
   have w1:=wl _ hm
   rw [he,Int.natAbs_mul,Int.natAbs_natCast] at w1
   have e0:e.natAbs≠0:=fun z=>by
    have hz:e=0:=by lia
    rw [hz,Int.mul_zero] at he
    rcases Int.mul_eq_zero.mp he with q1 | q1
    ·exact hne (aa9.mp q1)
    ·obtain ⟨e',he'⟩:=O1 hmem
     have h0:(qs[qs.length - 1].den:Int)≠0:=by have:=qs[qs.length - 1].den_nz;lia
     have e1:(m5 qs:Int).fdiv (qs[qs.length - 1].den:Int)=(e':Int):=by
      rw [he',Int.natCast_mul];exact j2 h0
     rw [e1] at q1
     have:e'=0:=by lia
     rw [this] at he';lia
   exact Nat.lt_of_le_of_lt (Nat.le_mul_of_pos_right _ (by lia)) w1
  refine ⟨l,_,rfl,SqL.of el,fun v hv=>Nat.lt_of_lt_of_le (wl v hv) (d6 hm),y7,fun p hp=>⟨l,rfl,⟨_,SqL.of (d5.new hp _ _ _ el)⟩,fun D hD=>?_⟩⟩
  have sp:=d5.new hp (.tup [.int (u8 (j1 (m5 qs) qs):Nat),.int (m5 qs)])
  refine N2 ((j1 (m5 qs) qs).map V.int) (fun i σ H2=>∃ o,σ=[some (.int (u8 (j1 (m5 qs) qs):Nat)),o]∧d5 (upd H1 p (.tup [.int (u8 (j1 (m5 qs) qs):Nat),.int (m5 qs)])) H2∧H2 D=some (.lst ((((j1 (m5 qs) qs).take i).map fun v=>v.fdiv (u8 (j1 (m5 qs) qs):Nat)).map V.int)))
   ⟨_,rfl,d5.new hD _,b8⟩ (fun i σ H2 _ ⟨_,_,s2,_⟩=>SqL.of (s2 _ _ (sp _ _ el))) ?_ ?_
  ·rintro i x σ H2 hx ⟨o,rfl,s2,e2⟩
   have hi:=(List.getElem?_eq_some_iff.mp hx).1
   rw [List.getElem?_map] at hx
   cases hw:(j1 (m5 qs) qs)[i]? with
   | none=>rw [hw] at hx;cases hx
   | some v=>
    rw [hw] at hx
    cases hx
    subst_eqs
    refine ⟨V5 (by lia) (by rw [Int.natAbs_natCast];exact B6 cle (by lia)),G8.mk hi e2 ?_ ⟨_,rfl,s2.over hD _,?_⟩⟩
    ·simp only [List.length_map,List.length_take,j1]
     exact Nat.lt_of_le_of_lt (show _≤100 by lia) (by decide)
    ·rw [b8,List.take_succ,hw]
     simp
  ·rintro σ H2 ⟨o,rfl,s2,e2⟩
   rw [List.length_map,List.take_length] at e2
   refine ⟨y7,fun p1 hp1=>?_⟩
   have S:=(s1.trans sp).trans (s2.trans (d5.new hp1 (.tup [.ref p,.ref D])))
   have ep:SqT K (upd H2 p1 (.tup [.ref p,.ref D])) p (t8 (Rat.divInt (u8 (j1 (m5 qs) qs):Nat) (m5 qs))):=by
    refine SqT.of ?_
    rw [j0 (g9 (s2 _ _ b8) hp1),s2 _ _ b8]
    unfold t8
    rw [f1,f2]
   refine k p1 p D _ ((j1 (m5 qs) qs).map fun v=>v.fdiv (u8 (j1 (m5 qs) qs):Nat)) _ S (s1.free (aM0 hD)) b8 ep (by rw [j0 (g9 e2 hp1)];exact e2) ⟨?_,?_⟩ ?_ ?_ ?_ f3 (fun _=>aB9 hc) ?_
   ·rw [f1,Int.natAbs_natCast];exact cle
   ·have:(Rat.divInt (u8 (j1 (m5 qs) qs):Nat) (m5 qs)).den=m5 qs:=by lia
    rw [this];exact hB1
   ·intro z
    rw [z] at f1
    have:(0:Rat).num=0:=rfl
    lia
   ·intro v hv
    obtain ⟨v',hv',rfl⟩:=List.mem_map.mp hv
    exact ai4 cpos (N7 hv') (wl v' hv')
   ·simp only [List.length_map,j1]
   ·exact at9 (by rw [f1];exact cpos)
theorem aP6 {f fc fk aN:Addr} (d:Df K mg "lifted" Q6 ["p"] f) (G_cleared:Def P w K mg base CX0 2 "cleared" fc ["numbers"] (am5 K)) (G_content_of:Def P w K mg base CX0 2 "content_of" fk ["wholes"] (aa8 K)) (c_ONE:mg "ONE" = some (.ref aN)) (tN:∀ H,SqT K H aN (t8 1)):Def P w K mg base CX0 3 "lifted" f ["p"] (am3 K):=
 (au8 d G_cleared G_content_of c_ONE tN).imp (by
  rintro vs H Q E ⟨a,xs,qs,h1,h2,h3,W,h4,h5,h6,h7,h8,k⟩
  exact ⟨a,xs,qs,h1,h2,h3,W,h4,h5,h6,h7,h8,fun r rs l s ws H' a1 a2 a3 a4 a5 a6 a7 a8 a9 b1 b2 _=>k r rs l s ws H' a1 a2 a3 a4 a5 a6 a7 a8 a9 b1 b2⟩)
end
theorem bk5 (s:Rat) {v:Int} (hv:v≠0):v.fdiv (Int.gcd (s.den:Int) v:Nat) * s.num=(s * (v:Rat)).num∧(s.den:Int).fdiv (Int.gcd (s.den:Int) v:Nat)=((s * (v:Rat)).den:Int):=by
 have dp:=p9 s
 have hg:=N0 (t:=(s.den:Int)) hv
 obtain ⟨d',hd⟩:=Int.gcd_dvd_left (s.den:Int) v
 obtain ⟨v',hv'⟩:=Int.gcd_dvd_right (s.den:Int) v
 have hc:Int.gcd d' v'=1:=U5 hv hd hv'
 have e1:v.fdiv (Int.gcd (s.den:Int) v:Nat)=v':=by
  conv=>lhs;arg 1;rw [hv']
  exact j2 (by omega)
 have e2:(s.den:Int).fdiv (Int.gcd (s.den:Int) v:Nat)=d':=by
  conv=>lhs;arg 1;rw [hd]
  exact j2 (by omega)
 rw [e1,e2]
 have ev:s * (v:Rat)=Rat.divInt (s.num * v) s.den:=by
  have h1:=Rat.num_divInt_den (v:Rat)
  rw [Rat.num_intCast,Rat.den_intCast] at h1
  conv=>lhs;rw [←Rat.num_divInt_den s,←h1]
  rw [Rat.divInt_mul_divInt]
  simp
 rw [ev]
 have hd0:0<d':=by
  rcases Int.lt_or_le 0 d' with z | z
  ·exact z
  ·have:=Int.mul_nonneg (show (0:Int)≤(Int.gcd (s.den:Int) v:Nat) by simp) (show 0≤-d' by lia)
   rw [Int.mul_neg] at this;omega
 have c1:Int.gcd d' s.num=1:=by
  have:=aI4 (k:=s.num) (m:=(s.den:Int)) (n:=d') (af6 s) ⟨_,by rw [Int.mul_comm];exact hd⟩
  exact ae6 this
 refine N1 hd0 (ae6 (U6 hc c1)) (by lia) ?_
 generalize (Int.gcd (s.den:Int) v:Int)=g at *
 rw [hd,hv']
 grind
section
variable {P:Program} {w:World} {K:PySem.W.Frag} {mg:Str→Option Value} {base:Heap}
def bo7 (b:Int) (ws:List Int) (d:Int):Prop:=0<d∧d ∣ b∧∀ v∈ws,v≠0→Int.gcd d v=Int.gcd b v
def bn5 (K:PySem.W.Frag):Sp:=fun vs H Q _=>∃ (a:Addr) (ws:List Int) (b:Int),vs=[.ref a,.int b]∧SqL K H a (ws.map V.int)∧ws.length≤100∧0<b∧b.natAbs<2 ^ 6000∧(∀ v∈ws,Int.natAbs v<2 ^ 20000)∧∀ H' d,d5 H H'→bo7 b ws d→Q (.int d) H'
abbrev z8:Stmt:=top 39
theorem C8:i8 ["wholes","bottom","longest","product","whole"] ["wholes","bottom"] (d3 z8):=by and_intros
set_option maxHeartbeats 0 in
theorem ah9 {f fc:Addr} {tL:Tok} (d:Df K mg "divisor_for_all" z8 ["wholes","bottom"] f) (G_common_divisor:Def P w K mg base CX0 1 "common_divisor" fc ["one","other"] ah3) (c_LONG:mg "LONG" = some (.int 1000 tL)) (n_max:mg "max" = none):Def P w K mg base CX0 2 "divisor_for_all" f ["wholes","bottom"] (bn5 K):=by
 refine d.ok (N:=["wholes","bottom","longest","product","whole"]) C8 (by rintro vs H Q E ⟨a,b,c,h,_⟩;rw [h];rfl) (fun cdv A outer s H vs Q E hr h=>?_)
 obtain ⟨a,ws,b,rfl,hS,hl,hb0,hb,hws,k⟩:=h
 refine ⟨_,(b9 (i7 (i:=2) C8.nd rfl (Or.inl rfl) (bj4 rfl rfl n_max (b6 (R6 (Nc:=["whole"]) (caps:=[none]) rfl (Z3.of (osc:=d3 z8) (N:=["wholes","bottom","longest","product","whole"]) (ks:=[]) rfl rfl rfl rfl D3 (by decide +kernel)) (D4 (pv 0)) (fun C s₂ H₂ fp pins=>(e8 (i:=0) (show List.Nodup (["whole"]:List Str) by decide +kernel) rfl (Or.inl rfl) (Or.inr rfl))) (fun C s₂ H₂ fp pins=>(show PE _ _ (bi5 K "int" _ _) from by exact (ao0 PySem.F.plainAttrs_int PySem.F.slot_int_bit_length PySem.F.type_int_bit_length ab2 (pv 0))))) b7)))
   (b9 (A0 (PW.pt (W3 (j3 ad0 (ao0 PySem.F.plainAttrs_int PySem.F.slot_int_bit_length PySem.F.type_int_bit_length ab2 (pv 1)) (v4 (v:=.int 1000) rfl c_LONG ⟨_,rfl⟩) (j6 _)) (V7 (j3 aj8 (ao0 PySem.F.plainAttrs_int PySem.F.slot_int_bit_length PySem.F.type_int_bit_length ab2 (pv 1)) (g6 w8 d4 (pv 2)) (j6 _))))) (d7 (g8 (pv 1))) m8)
   (b9 (i7 (i:=3) C8.nd rfl (Or.inl rfl) d4)
   (b9 (R1 PassesOwn.never rfl (D4 (pv 0)) (e8 (i:=4) C8.nd rfl (Or.inl rfl)) (d7 (A0 (C4 (pv 4) (fun _=>rfl)) (d7 (i7 (i:=3) C8.nd rfl (Or.inl rfl) (g6 R8 (g6 w8 (pv 3) (pv 4)) (pv 1)))) m8)))
   (d7 (g8 (d9 G_common_divisor hr (b6 (pv 1) (b6 (pv 3) b7)) i5))))))),?_⟩
 rw [show start ["wholes","bottom","longest","product","whole"] [.ref a,.int b]=[some (.ref a),some (.int b),none,none,none] from rfl]
 subst_eqs
 have triv:bo7 b ws b:=⟨hb0,Int.dvd_refl _,fun _ _ _=>rfl⟩
 refine ⟨⟨_,hS⟩,fun D hD=>?_⟩
 refine N2 (ws.map V.int) (fun i σ H2=>∃ o,σ=[o]∧d5 H H2∧∃ ns:List Int,ns.length=i∧H2 D=some (.lst (ns.map V.int))) ⟨_,rfl,d5.new hD _,[],rfl,b8⟩ (by rintro i σ H2 _ ⟨_,_,s2,_⟩;exact s2.seq hS) ?_ ?_
 ·rintro i x σ H2 hx ⟨o,rfl,s2,ns,hn,e2⟩
  have hi:=(List.getElem?_eq_some_iff.mp hx).1
  obtain ⟨v,hw,rfl⟩:=G4 hx
  subst_eqs
  refine G8.mk hi e2 ?_ ⟨_,rfl,s2.over hD _,?_⟩
  ·rw [List.length_map] at hi ⊢
   exact Nat.lt_of_lt_of_le (show ns.length<101 by lia) (by decide)
  ·refine ⟨ns++[(Builtin.Int.intBits v:Int)],by simp [hn],?_⟩
   rw [b8,List.map_append];rfl
 ·rintro σ H2 ⟨o,rfl,s2,ns,hn,e2⟩
  refine ⟨D,rfl,ns,SqL.of e2,fun i=>?_⟩
  refine t9 (fun _=>k H2 b s2 triv) (fun _=>?_)
  refine ⟨bs9 (by decide),t9 (fun _=>k H2 b s2 triv) (fun _=>?_)⟩
  refine ⟨_,rfl,a,rfl,⟨_,s2.seq hS⟩,ak8 (xs:=ws.map V.int) (fun i' σ H3=>H3=H2∧∃ p o,σ=[some (.ref a),some (.int b),some (.int i),some (.int p),o]∧p.natAbs<2 ^ 6000∧∃ e,ap6 (ws.take i')=p+b * e) ⟨rfl,1,_,rfl,Nat.lt_of_lt_of_le (show _<2 ^ 1 by decide) (d6 (by decide)),0,by simp [ap6]⟩ (by rintro i' σ H3 _ ⟨rfl,_⟩;exact s2.seq hS) ?_ ?_⟩
  ·rintro i' x σ H3 hx ⟨rfl,p,o,rfl,hp,e,he⟩
   obtain ⟨v,hv,rfl⟩:=G4 hx
   have hvm:=hws v (List.mem_of_getElem? hv)
   have es:ws.take (i'+1)=ws.take i'++[v]:=by rw [List.take_succ,hv];rfl
   simp! [aa4]
   refine t9 (fun h=>?_) (fun h=>?_)
   ·have hv0:v≠0:=by simpa using h
    refine ⟨N6 hp hvm,by omega,?_,(p * v).fdiv b+e * v,?_⟩
    ·have h1:=Int.fmod_nonneg_of_pos (p * v) hb0
     have h2:=Int.fmod_lt_of_pos (p * v) hb0
     lia
    ·rw [es,au0,if_neg hv0,he]
     have:=Int.fmod_add_mul_fdiv (p * v) b
     grind
   ·have hv0:v=0:=by simpa using h
    refine ⟨hp,e,?_⟩
    rw [es,au0,if_pos hv0,he]
  ·rintro σ H3 ⟨rfl,p,o,rfl,hp,e,he⟩
   rw [List.length_map,List.take_length] at he
   simp! [ah3]
   refine ⟨.inl hb,k _ _ s2 ⟨?_,Int.gcd_dvd_left _ _,fun v hv hv0=>?_⟩⟩
   ·have:=N0 (t:=p) (b:=b) (by omega)
    rw [Int.gcd_comm] at this;lia
   ·have e1:Int.gcd b p=Int.gcd b (ap6 ws):=by
     rw [he]
     refine Nat.dvd_antisymm ?_ ?_
     ·exact Int.dvd_gcd (Int.gcd_dvd_left _ _) (Int.dvd_add (Int.gcd_dvd_right _ _) (Int.dvd_trans (Int.gcd_dvd_left _ _) ⟨e,rfl⟩))
     ·refine Int.dvd_gcd (Int.gcd_dvd_left _ _) ?_
      have h1:=Int.gcd_dvd_right b (p+b * e)
      have h2:((Int.gcd b (p+b * e):Nat):Int) ∣ b * e:=Int.dvd_trans (Int.gcd_dvd_left _ _) ⟨e,rfl⟩
      have:=Int.dvd_sub h1 h2
      rwa [Int.add_sub_cancel] at this
    rw [e1]
    exact bf9 (aV7 hv hv0)
def am1 (K:PySem.W.Frag):Sp:=fun vs H Q _=>∃ (x:V) (s:Rat) (a:Addr) (ws:List Int),vs=[x,.ref a]∧Num K H x s∧SqL K H a (ws.map V.int)∧s.den<2 ^ 6000∧s.num.natAbs<2 ^ 6000∧(∀ v∈ws,Int.natAbs v<2 ^ 20000)∧ws.length≤100 ∧
 ∀ r xs H',d5 H H'→H r=none→H' r=some (.lst xs)→q8 H' xs (scl s ws)→Q (.ref r) H'
abbrev T8:Stmt:=top 40
theorem O5:i8 ["scale","wholes","divisor","numbers","whole","top","bottom","shared"] ["scale","wholes"] (d3 T8):=by and_intros
set_option maxHeartbeats 0 in
theorem aP4 {f fd fc:Addr} (d:Df K mg "lowered" T8 ["scale","wholes"] f) (G_divisor_for_all:Def P w K mg base CX0 2 "divisor_for_all" fd ["wholes","bottom"] (bn5 K)) (G_common_divisor:Def P w K mg base CX0 1 "common_divisor" fc ["one","other"] ah3):Def P w K mg base CX0 3 "lowered" f ["scale","wholes"] (am1 K):=by
 refine d.ok (N:=["scale","wholes","divisor","numbers","whole","top","bottom","shared"]) O5 (by rintro vs H Q E ⟨a,b,c,e,h,_⟩;rw [h];rfl) (fun cdv A outer s H vs Q E hr h=>?_)
 obtain ⟨x,sc,a,ws,rfl,⟨px,rfl,hx⟩,hS,hd,hn,hw,hl,k⟩:=h
 refine ⟨_,(b9 (K8 (pv 0) (show PG _ _ (P3 K 2 (p5 (n8 5) (p5 (n8 6) P4))) from by (refine B5 (n:=2) ?_ ?_ ?_ ?_;rfl;(refine g7 ?_ ?_ ?_;(exact (e8 (i:=5) O5.nd rfl (Or.inl rfl)));(refine g7 ?_ ?_ ?_;(exact (e8 (i:=6) O5.nd rfl (Or.inl rfl)));(exact v9);rfl);rfl);rfl;rfl)))
   (b9 (i7 (i:=2) O5.nd rfl (Or.inl rfl) (d9 G_divisor_for_all hr (b6 (pv 1) (b6 (pv 6) b7)) i5))
   (b9 (i7 (i:=3) O5.nd rfl (Or.inl rfl) (t6 b7))
   (b9 (R1 PassesOwn.never rfl (D4 (pv 1)) (e8 (i:=4) O5.nd rfl (Or.inl rfl)) (b9 (i7 (i:=7) O5.nd rfl (Or.inl rfl) (Y4 (C4 (pv 4) (fun _=>rfl)) (d9 G_common_divisor hr (b6 (pv 2) (b6 (pv 4) b7)) i5) (pv 6)))
   (d7 (af8 (ap7 PySem.F.plainAttrs_list PySem.F.slot_list_append PySem.F.type_list_append U0 (pv 3) (b6 (j9 (b6 (g6 w8 (g6 C1 (pv 4) (pv 7)) (pv 5)) (b6 (g6 C1 (pv 6) (pv 7)) b7))) b7))))))
   (d7 (g8 (pv 3))))))),?_⟩
 rw [show start ["scale","wholes","divisor","numbers","whole","top","bottom","shared"] [.ref px,.ref a]=[some (.ref px),some (.ref a),none,none,none,none,none,none] from rfl]
 simp! [aa4]
 refine ⟨_,hx,rfl,_,_,rfl,_,_,rfl,rfl,a,ws,_,rfl,hS,hl,by have:=p9 sc;omega,by rw [Int.natAbs_natCast];exact hd,hw,fun H1 dv s1 ⟨dv0,dv1,dv2⟩=>⟨by decide,fun p hp=>?_⟩⟩
 refine ⟨_,rfl,a,rfl,⟨_,(s1.trans (d5.new hp _)).seq hS⟩,ak8 (xs:=ws.map V.int) (fun i σ H2=>∃ o1 o2,σ=[some (.ref px),some (.ref a),some (.int dv),some (.ref p),o1,some (.int sc.num),some (.int sc.den),o2]∧d5 H1 H2∧∃ xs,H2 p=some (.lst xs)∧q8 H2 xs (scl sc (ws.take i))) ⟨_,_,rfl,d5.new hp _,[],b8,.nil⟩ (fun i σ H2 _ ⟨_,_,_,s2,_⟩=>s2.seq (s1.seq hS)) ?_ ?_⟩
 ·rintro i x σ H2 hx' ⟨o1,o2,rfl,s2,xs,e2,n2⟩
  have hi:=(List.getElem?_eq_some_iff.mp hx').1
  obtain ⟨v,hv,rfl⟩:=G4 hx'
  have dp:=p9 sc
  have es:ws.take (i+1)=ws.take i++[v]:=by rw [List.take_succ,hv];rfl
  have hvb:=hw v (List.mem_of_getElem? hv)
  have hdb:(sc.den:Int).natAbs<2 ^ 6000:=by rw [Int.natAbs_natCast];exact hd
  simp! [aa4,ah3]
  have fin:∀ (A B:Int),A=(sc * (v:Rat)).num→B=((sc * (v:Rat)).den:Int)→∀ p1,H2 p1=none→∃ x,upd H2 p1 (.tup [.int A,.int B]) p=some (.lst x)∧x.length<sizeLine∧d5 H1 (upd (upd H2 p1 (.tup [.int A,.int B])) p (.lst (x++[.ref p1]))) ∧
    ∃ xs,upd (upd H2 p1 (.tup [.int A,.int B])) p (.lst (x++[.ref p1])) p=some (.lst xs)∧q8 (upd (upd H2 p1 (.tup [.int A,.int B])) p (.lst (x++[.ref p1]))) xs (scl sc (ws.take (i+1))):=by
   intro A B hA hB p1 hp1
   have e:=d5.new hp1 (.tup [.int A,.int B]) _ _ e2
   refine ⟨xs,e,?_,(s2.trans (d5.new hp1 _)).over hp _,_,b8,?_⟩
   ·rw [n2.length,Q3,List.length_take]
    exact Nat.lt_of_le_of_lt (show _≤100 by lia) (by decide)
   ·have e3:scl sc (ws.take (i+1))=scl sc (ws.take i)++[sc * (v:Rat)]:=by rw [es];simp [scl]
    rw [e3]
    exact ((n2.mono (ac8.new hp1)).append (.cons (by rw [b8];unfold t8;rw [hA,hB]) .nil)).mono (ac8.lst e)
  refine t9 (fun h=>?_) (fun h=>?_)
  ·have hv0:v≠0:=by simpa using h
   obtain ⟨q1,q2⟩:=bk5 sc hv0
   have gp:=N0 (t:=(sc.den:Int)) hv0
   have gl:=aM6 (b:=v) (show (sc.den:Int)≠0 by lia) hdb
   have hdvb:dv.natAbs<2 ^ 6000:=by
    have:=Int.le_of_dvd (by omega) dv1
    lia
   rw [dv2 v (List.mem_of_getElem? hv) hv0]
   refine ⟨.inl hdvb,.inl ⟨_,SqL.of e2⟩,V5 (by lia) (B6 gl),N6 (ai4 (by lia) (Int.gcd_dvd_right _ _) hvb) hn,V5 (by omega) (B6 gl),y7,fin _ _ q1 q2⟩
  ·have hv0:v=0:=by simpa using h
   subst hv0
   have z1:sc * ((0:Int):Rat)=0:=by rw [Rat.intCast_zero];grind
   refine ⟨.inl ⟨_,SqL.of e2⟩,V5 (by lia) (B6 hdb),N6 (m:=1) (by rw [Int.zero_fdiv];decide) hn,V5 (by omega) (B6 hdb),y7,fin _ _ ?_ ?_⟩
   ·rw [z1,Int.zero_fdiv,Int.zero_mul];rfl
   ·rw [z1,Int.fdiv_self (by omega)];rfl
 ·rintro σ H2 ⟨o1,o2,rfl,s2,xs,e2,n2⟩
  rw [List.length_map,List.take_length] at n2
  exact ⟨_,rfl,k p xs H2 (s1.trans s2) (s1.free hp) e2 n2⟩
end
def bp3:List D→Bool
 | [.v (.int _),.v (.int _),.v (.int _)]=>true
 | _=>false
mutual
def noW:D→Bool
 | .v _=>true
 | .tup ds=>bs6 ds
 | .lst ds=>!bp3 ds && bs6 ds
def bs6:List D→Bool
 | []=>true
 | d :: ds=>noW d && bs6 ds
end
mutual
def smD (m:Nat):D→Prop
 | .v (.int i)=>i.natAbs<2 ^ m
 | .v _=>True
 | .tup ds=>bq0 m ds
 | .lst ds=>bq0 m ds
def bq0 (m:Nat):List D→Prop
 | []=>True
 | d :: ds=>smD m d∧bq0 m ds
end
def al8 (p q:Rat):Bool:=decide (p.num * (q.den:Int)<q.num * (p.den:Int))
structure IsBox (B:List (Rat × Rat)):Prop where
 l2:2≤B.length
 l8:B.length≤8
 le:∀ s∈B,s.1≤s.2
 last:∀ s,B[B.length - 1]? = some s→0<s.1
def zs (t b a:Int):List Int→List Int
 | []=>[b * a]
 | x :: r=>(b * a+t * x) :: zs t b x r
structure MidN (n:Nat) (R:List Rat):Prop where
 ex:∃ (B:Nat) (ws:List Int),0<B∧B<2 ^ (40 * n+1)∧R=scl (Rat.divInt 1 B) ws∧∀ v∈ws,Int.natAbs v<2 ^ (41 * n+1)
 len:R.length=n+1
 last:R[n]? = some 1
inductive bh5 (H:Hp):List V→List (Rat × Rat)→Prop where
 | nil:bh5 H [] []
 | cons {p a b:Addr} {s:Rat × Rat} {vs:List V} {B:List (Rat × Rat)} (h:H p=some (.tup [.ref a,.ref b])) (ha:H a=some (.tup (t8 s.1))) (hb:H b=some (.tup (t8 s.2))) (t:bh5 H vs B):bh5 H (.ref p :: vs) (s :: B)
def Y9 (a b:Str):D:=.tup [.v (.str a),.v (.str b)]
theorem av9 (a b:Str):eqD (Y9 a b) (Y9 a b)=true:=by simp [Y9,eqD,P8,eqV]
theorem av0 (a b c d:Str):okD (Y9 a b) (Y9 c d)=true:=by simp [Y9,okD,ad3]
theorem aI2 (a b:Str):dpD (Y9 a b)≤60:=by simp [Y9,dpD,ag3]
theorem ab4 {K:PySem.W.Frag} {H:Hp} {p:Addr} {a b:Str} (h:SqT K H p [.str a,.str b]):IsD K H (.ref p) (Y9 a b):=.tup h (.cons (.v rfl) (.cons (.v rfl) .nil))
structure TbX (u:Addr) (H:Hp) (a:Addr) (ts:List Addr) (M:List (List Rat)):Prop where
 au:a≠u
 tu:∀ t∈ts,t≠u
 at':H a=some (.lst (ts.map V.ref))
 rws:Rws H ts M
structure LsX (u:Addr) (H:Hp) (a:Addr) (xs:List V) (qs:List Rat):Prop where
 au:a≠u
 at':H a=some (.lst xs)
 nums:q8 H xs qs
theorem LsX.samex {u a:Addr} {H H':Hp} {xs:List V} {qs:List Rat} (t:LsX u H a xs qs) (s:t7 u H H') (hu:v3 H u):LsX u H' a xs qs:=⟨t.au,s _ _ t.at' t.au,t.nums.mono (s.tups hu)⟩
theorem LsX.same {u a:Addr} {H H':Hp} {xs:List V} {qs:List Rat} (t:LsX u H a xs qs) (s:d5 H H'):LsX u H' a xs qs:=⟨t.au,s _ _ t.at',t.nums.mono s.tups⟩
theorem LsX.isD {K:PySem.W.Frag} {u a:Addr} {H:Hp} {xs:List V} {qs:List Rat} (t:LsX u H a xs qs):IsD K H (.ref a) (B7 qs):=M8 (SqL.of t.at') t.nums
def hc (a:Nat→Rat) (i j:Nat):Rat:=if (i+j) % 2=1 then a i * a j else 0
def hf (a:Nat→Rat):Nat→Nat→Rat
 | 0,j=>hc a 0 (j+1)
 | i+1,j=>hc a (i+1) (j+1) - hf a i (j+1)
def pw (x:Rat):Nat→Rat
 | 0=>1
 | i+1=>pw x i * x
theorem af2 (c:Rat) (f:Nat→Rat):∀ n,c * j7 f n=j7 (fun i=>c * f i) n
 | 0=>by simp [j7]
 | n+1=>by rw [j7,j7,←af2 c f n];grind
theorem af3 (f g:Nat→Rat):∀ n,j7 f n+j7 g n=j7 (fun i=>f i+g i) n
 | 0=>by simp [j7];grind
 | n+1=>by rw [j7,j7,j7,←af3 f g n];grind
def hR (a:Nat→Rat) (n i:Nat) (y:Rat):Rat:=j7 (fun j=>hf a i j * pw y j) n
def hC (a:Nat→Rat) (n i:Nat) (y:Rat):Rat:=j7 (fun j=>hc a i j * pw y j) (n+1)
def sg (i:Nat):Rat:=if i % 2=0 then 1 else -1
def OvB (B W:Nat) (q:Rat):Prop:=∃ v:Int,q=Rat.divInt v B∧v.natAbs<2 ^ W
theorem OvB.mono {B V W:Nat} {q:Rat} (h:OvB B V q) (l:V≤W):OvB B W q:=let ⟨v,e,b⟩:=h;⟨v,e,Nat.lt_of_lt_of_le b (d6 l)⟩
theorem OvB.zero (B W:Nat):OvB B W 0:=⟨0,by rw [Rat.zero_divInt],Nat.two_pow_pos _⟩
theorem aP2 {W:Nat} {qs:List Rat} (h:ClN W qs) {q:Rat} (hq:q∈qs):OvB (m5 qs) W q:=
 ⟨_,as5 (C2 qs) (O1 hq),h.w _ (List.mem_map.mpr ⟨q,hq,rfl⟩)⟩
theorem OvB.mul {B C V W:Nat} {p q:Rat} (h:OvB B V p) (k:OvB C W q):OvB (B * C) (V+W) (p * q):=by
 obtain ⟨v,rfl,b⟩:=h
 obtain ⟨u,rfl,c⟩:=k
 refine ⟨v * u,by rw [Rat.divInt_mul_divInt,Int.natCast_mul],?_⟩
 rw [Int.natAbs_mul,Nat.pow_add]
 exact Nat.mul_lt_mul'' b c
theorem OvB.add {B W:Nat} (hB:0<B) {p q:Rat} (h:OvB B W p) (k:OvB B W q):OvB B (W+1) (p+q):=by
 obtain ⟨v,rfl,b⟩:=h
 obtain ⟨u,rfl,c⟩:=k
 refine ⟨v+u,?_,?_⟩
 ·have hz:(B:Int)≠0:=by omega
  rw [Rat.divInt_add_divInt _ _ hz hz]
  refine (Rat.divInt_eq_divInt_iff (Int.mul_ne_zero hz hz) hz).mpr ?_
  grind
 ·have:=Int.natAbs_add_le v u
  rw [Nat.pow_succ];lia
theorem aH1 {α:Type} {xs:List α} {x : α} (h:xs[xs.length - 1]? = some x):atI xs (-1)=some x:=by
 have hp:xs.length - 1<xs.length:=(List.getElem?_eq_some_iff.mp h).1
 have e:ixN xs.length (-1)=some (xs.length - 1):=by
  unfold ixN
  rw [if_neg (by decide)]
  rw [if_pos (by lia)]
  congr 1
  lia
 unfold atI
 rw [e]
 exact h
def aQ (qs:List Rat) (k:Nat):Rat:=(qs[k]?).getD 0
def aZ (ws:List Int) (k:Nat):Int:=(ws[k]?).getD 0
theorem ai5 (s:Rat) (ws:List Int):aQ (scl s ws)=fun k=>s * (aZ ws k:Rat):=by
 funext k
 unfold aQ aZ scl
 rw [List.getElem?_map]
 cases ws[k]? with
 | none=>simp [Rat.intCast_zero]
 | some v=>simp
theorem aa0 {ws:List Int} {W:Nat} (h:∀ v∈ws,Int.natAbs v<2 ^ W):∀ k,(aZ ws k).natAbs<2 ^ W:=fun k=>by
 unfold aZ
 cases q:ws[k]? with
 | none=>exact Nat.two_pow_pos _
 | some v=>exact h v (List.mem_of_getElem? q)
theorem aD4 {α:Type} [Add α]:∀ (f:List α) (k:Nat) (x v : α),v∈N9 f k x→v∈f∨∃ y∈f,v=y+x
 | [],_,_,_,h=>by cases h
 | y :: r,0,x,v,h=>by
  rcases List.mem_cons.mp h with z | z
  ·exact .inr ⟨y,List.mem_cons_self,z⟩
  ·exact .inl (List.mem_cons_of_mem _ z)
 | y :: r,k+1,x,v,h=>by
  rcases List.mem_cons.mp h with z | z
  ·exact .inl (by rw [z];exact List.mem_cons_self)
  ·rcases aD4 r k x v z with w | ⟨u,hu,e⟩
   ·exact .inl (List.mem_cons_of_mem _ w)
   ·exact .inr ⟨u,List.mem_cons_of_mem _ hu,e⟩
theorem aY6 {B W:Nat} (hB:0<B) {f:List Rat} {k:Nat} {x:Rat} (hf:∀ v∈f,OvB B W v) (hx:OvB B W x):∀ v∈N9 f k x,OvB B (W+1) v:=fun v hv=>by
 rcases aD4 f k x v hv with h | ⟨y,hy,rfl⟩
 ·exact (hf v h).mono (by simp)
 ·exact (hf y hy).add hB hx
def cv (f g:Nat→Rat) (k:Nat):Rat:=j7 (fun i=>f i * g (k - i)) (k+1)
theorem bm3 (p q:List Rat) (k:Nat):aQ (ac7 p q) k=aQ p k+aQ q k:=by
 unfold aQ
 by_cases h:k<max p.length q.length
 ·rw [ax1 p q k h];rfl
 ·rw [List.getElem?_eq_none (by rw [ax0];exact Nat.not_lt.mp ‹_›),List.getElem?_eq_none (by lia),List.getElem?_eq_none (by lia)];grind
theorem aU7 (p q:List Rat) (k:Nat):aQ (R9 p q) k=cv (aQ p) (aQ q) k:=by
 by_cases hp:p=[]
 ·subst hp
  have:R9 [] q=[]:=by unfold R9;rw [if_pos (.inl rfl)]
  rw [this]
  symm
  exact O3 _ fun i _=>by show (0:Rat) * _=0;grind
 by_cases hq:q=[]
 ·subst hq
  have:R9 p []=[]:=by unfold R9;rw [if_pos (.inr rfl)]
  rw [this]
  symm
  exact O3 _ fun i _=>by show _ * (0:Rat)=0;grind
 by_cases hk:k<p.length+q.length - 1
 ·have:=be2 hp hq hk
  unfold aQ
  rw [this];rfl
 ·have h1:aQ (R9 p q) k=0:=by
   unfold aQ
   rw [List.getElem?_eq_none (by rw [aM2 hp hq];exact Nat.not_lt.mp ‹_›)];rfl
  rw [h1]
  symm
  refine O3 _ fun i hi=>?_
  by_cases h2:i<p.length
  ·have:aQ q (k - i)=0:=by unfold aQ;rw [List.getElem?_eq_none (by lia)];rfl
   rw [this];grind
  ·have:aQ p i=0:=by unfold aQ;rw [List.getElem?_eq_none (by exact Nat.not_lt.mp ‹_›)];rfl
   rw [this];grind
theorem bm2 {qs:List Rat} {m:Nat} (t:A7 qs m) (k:Nat):aQ (qs.take m) k=aQ qs k:=by
 unfold aQ
 rw [List.getElem?_take]
 split
 ·rfl
 ·cases h:qs[k]? with
  | none=>rfl
  | some v=>rw [t.zero k v (by exact Nat.not_lt.mp ‹_›) h];rfl
theorem bp2 {p q:List Rat} (tp:A7 p p.length) (tq:A7 q q.length) (h:∀ k,aQ p k=aQ q k):p=q:=by
 have key:∀ {p q:List Rat},A7 p p.length→(∀ k,aQ p k=aQ q k)→p.length≤q.length:=fun {p q} tp h=>by
  by_cases z:p.length=0
  ·lia
  ·have hl:p.length - 1<p.length:=by omega
   have:=tp.last z _ (List.getElem?_eq_getElem hl)
   have e:=h (p.length - 1)
   refine Classical.byContradiction fun w=>this ?_
   unfold aQ at e
   rw [List.getElem?_eq_getElem hl,List.getElem?_eq_none (by omega)] at e
   exact e
 have hl:p.length=q.length:=by
  have h1:=key tp h
  have h2:=key tq fun k=>(h k).symm
  lia
 refine List.ext_getElem? fun k=>?_
 by_cases hk:k<p.length
 ·have e:=h k
  unfold aQ at e
  rw [List.getElem?_eq_getElem hk,List.getElem?_eq_getElem (by lia)] at e ⊢
  exact congrArg some e
 ·rw [List.getElem?_eq_none (by exact Nat.not_lt.mp ‹_›),List.getElem?_eq_none (by lia)]
theorem aw7 (f g h:Nat→Rat) (k:Nat):cv (fun i=>f i+g i) h k=cv f h k+cv g h k:=by
 unfold cv
 rw [af3]
 exact p7 fun i _=>by grind
theorem aR3 (c:Rat) (f h:Nat→Rat) (k:Nat):cv (fun i=>c * f i) h k=c * cv f h k:=by
 unfold cv
 rw [af2]
 exact p7 fun i _=>by grind
theorem E1 (g:Nat→Rat) (t:Nat):∀ n,j7 (fun i=>if i=t then g i else 0) n=if t<n then g t else 0
 | 0=>by rw [if_neg (by simp)];rfl
 | n+1=>by
  rw [j7,E1 g t n]
  by_cases h:t<n
  ·rw [if_pos h,if_neg (by lia),if_pos (by exact Nat.lt_succ_of_lt ‹_›)];grind
  ·by_cases h2:n=t
   ·rw [if_neg h,if_pos h2,if_pos (by lia),h2];grind
   ·rw [if_neg h,if_neg h2,if_neg (by lia)];grind
theorem ap0 (d:Rat) (t:Nat) (h:Nat→Rat) (k:Nat):cv (fun i=>if i=t then d else 0) h k=if t≤k then d * h (k - t) else 0:=by
 unfold cv
 have:j7 (fun i=>(if i=t then d else 0) * h (k - i)) (k+1)=j7 (fun i=>if i=t then d * h (k - i) else 0) (k+1):=p7 fun i _=>by split <;> grind
 rw [this,E1]
 by_cases e:t≤k
 ·rw [if_pos (by omega),if_pos e]
 ·rw [if_neg (by lia),if_neg e]
theorem bg7 {O f0 f1 g0 g1:Nat→Rat} {n m:Nat} (hn:O n≠0) (hO:∀ k,n<k→O k=0) (hf:∀ k,n≤k→f1 k=0) (hg:∀ k,n≤k→g1 k=0) (f0m:∀ k,m≤k→f0 k=0) (g0m:∀ k,m≤k→g0 k=0)
  (e:∀ k,cv f0 O k+f1 k=cv g0 O k+g1 k):(∀ k,f0 k=g0 k)∧∀ k,f1 k=g1 k:=by
 have key:∀ j,j≤m→∀ k,m - j≤k→f0 k=g0 k:=by
  intro j
  induction j with
  | zero=>intro _ k hk;rw [f0m k (by omega),g0m k (by omega)]
  | succ j ih=>
   intro hj k hk
   by_cases h1:m - j≤k
   ·exact ih (by exact Nat.le_of_lt ‹_›) k h1
   have ek:=e (k+n)
   rw [hf _ (by simp),hg _ (by omega)] at ek
   have one:∀ f:Nat→Rat,(∀ i,m - j≤i→f i=0)→cv f O (k+n)=f k * O n:=fun f hf0=>by
    unfold cv
    have:j7 (fun i=>f i * O (k+n - i)) (k+n+1)=j7 (fun i=>if i=k then f k * O n else 0) (k+n+1):=p7 fun i _=>by
     by_cases z:i=k
     ·rw [if_pos z,z,Nat.add_sub_cancel_left]
     ·rw [if_neg z]
      by_cases y:i<k
      ·rw [hO _ (by lia)];grind
      ·rw [hf0 i (by lia)];grind
    rw [this,E1,if_pos (by lia)]
   have e2:cv (fun i=>f0 i + -1 * g0 i) O (k+n)=(f0 k + -1 * g0 k) * O n:=one _ fun i hi=>by
    rw [ih (by exact Nat.le_of_lt ‹_›) i hi];grind
   rw [aw7 f0 (fun i=>-1 * g0 i),aR3] at e2
   have e3:(f0 k + -1 * g0 k) * O n=0:=by rw [←e2];grind
   have:f0 k + -1 * g0 k=0:=by
    have:=Rat.mul_inv_cancel _ hn
    generalize (O n)⁻¹=u at this
    generalize O n=y at *
    grind
   grind
 have h0:∀ k,f0 k=g0 k:=fun k=>key m (Nat.le_refl _) k (by simp)
 refine ⟨h0,fun k=>?_⟩
 have:=e k
 rw [show f0=g0 from funext h0] at this
 grind
def zc (ws:List Int) (k:Nat):Rat:=(aZ ws k:Rat)
theorem av5 (f:List Int) (i:Nat) (x:Int) (q:List Int) {k:Nat} (y:Int) (hy:f[k]? = some y):∀ j,(u0 0 f i x q j)[k]? = some (y+if i≤k∧k<i+j then x * (q[k - i]?).getD 0 else 0)
 | 0=>by
  rw [u0,hy,if_neg (by omega)];congr 1;simp
 | j+1=>by
  have ih:=av5 f i x q y hy j
  rw [u0]
  by_cases e:k=i+j
  ·subst e
   rw [Z1 _ _ _ _ ih,if_neg (by omega),if_pos (by omega),show i+j - i=j by omega]
   congr 1;simp
  ·rw [V6 _ _ _ _ e,ih]
   by_cases h:i≤k∧k<i+j
   ·rw [if_pos h,if_pos (by omega)]
   ·rw [if_neg h,if_neg (by omega)]
structure A6 (ws:List Int) (m:Nat):Prop where
 le:m≤ws.length
 zero:∀ i v,m≤i→ws[i]? = some v→v=0
 last:m≠0→∀ v,ws[m - 1]? = some v→v≠0
theorem aI7 {ws:List Int} {m:Nat} (t:A6 ws m) (k:Nat):aZ (ws.take m) k=aZ ws k:=by
 unfold aZ
 rw [List.getElem?_take]
 split
 ·rfl
 ·cases h:ws[k]? with
  | none=>rfl
  | some v=>rw [t.zero k v (by omega) h];rfl
theorem A6.self {ws:List Int} {m:Nat} (t:A6 ws m):A6 (ws.take m) (ws.take m).length:=by
 have hm:(ws.take m).length=m:=by rw [List.length_take];have:=t.le;lia
 refine ⟨Nat.le_refl _,fun i v hi h=>?_,fun hn v h=>?_⟩
 ·rw [List.getElem?_eq_none hi] at h;cases h
 ·rw [hm] at hn h
  rw [List.getElem?_take,if_pos (by lia)] at h
  exact t.last hn v h
def Dv (one other Q R:List Int) (many:Int):Prop:=∀ k,(many:Rat) * zc one k=cv (zc Q) (zc other) k+zc R k
theorem bl4 {one other Q R R':List Int} {many c d:Int} {t:Nat} (h:Dv one other Q R many) (ht:t<Q.length) (hQ:aZ Q t=0) (hR:∀ k,aZ R' k=c * aZ R k - if t≤k then d * aZ other (k - t) else 0) :
  Dv one other ((Q.map (c * ·)).set t d) R' (many * c):=by
 intro k
 have e1:zc ((Q.map (c * ·)).set t d)=fun i=>(c:Rat) * zc Q i+if i=t then (d:Rat) else 0:=by
  funext i
  unfold zc aZ
  rw [List.getElem?_set]
  by_cases z:t=i
  ·subst z
   rw [if_pos rfl,if_pos (by rw [List.length_map];exact ht),if_pos rfl]
   unfold aZ at hQ
   rw [hQ,Rat.intCast_zero]
   simp only [Option.getD_some]
   grind
  ·rw [if_neg z,if_neg (fun w=>z w.symm),List.getElem?_map]
   cases Q[i]? with
   | none=>simp [Rat.intCast_zero];grind
   | some v=>simp [Rat.intCast_mul];grind
 have e2:zc R' k=(c:Rat) * zc R k - if t≤k then (d:Rat) * zc other (k - t) else 0:=by
  unfold zc
  rw [hR k,Rat.intCast_sub,Rat.intCast_mul]
  split
  ·rw [Rat.intCast_mul]
  ·rw [Rat.intCast_zero]
 rw [e1,aw7 (fun i=>(c:Rat) * zc Q i) (fun i=>if i=t then (d:Rat) else 0),aR3,ap0,e2,Rat.intCast_mul]
 have:=h k
 have e3:(many:Rat) * (c:Rat) * zc one k=(c:Rat) * ((many:Rat) * zc one k):=by grind
 rw [e3,this]
 grind
theorem OvB.up {B W:Nat} {q:Rat} (h:OvB B W q) (hB:0<B) {C c:Nat} (hC:0<C) (hc:C<2 ^ c):OvB (B * C) (W+c) q:=by
 obtain ⟨v,rfl,b⟩:=h
 refine ⟨v * C,?_,?_⟩
 ·rw [Int.natCast_mul]
  refine (Rat.divInt_eq_divInt_iff (by omega) (Int.mul_ne_zero (by omega) (by omega))).mpr ?_
  grind
 ·rw [Int.natAbs_mul,Int.natAbs_natCast,Nat.pow_add]
  exact Nat.mul_lt_mul'' b hc
theorem X7 {B W:Nat} (hB:0<B) (hW:B<2 ^ W) {qs:List Rat} (h:∀ x∈qs,OvB B W x):ClN W qs:=by
 have:∃ vs:List Int,qs=scl (Rat.divInt 1 B) vs∧∀ v∈vs,Int.natAbs v<2 ^ W:=by
  induction qs with
  | nil=>exact ⟨[],rfl,by simp⟩
  | cons q qs ih=>
   obtain ⟨vs,e,hv⟩:=ih fun x hx=>h x (List.mem_cons_of_mem _ hx)
   obtain ⟨v,e2,b⟩:=h q List.mem_cons_self
   refine ⟨v :: vs,?_,fun u hu=>?_⟩
   ·rw [e]
    show q :: _=(Rat.divInt 1 B * (v:Rat)) :: _
    rw [ak0,←e2];rfl
   ·rcases List.mem_cons.mp hu with z | z
    ·rw [z];exact b
    ·exact hv u z
 obtain ⟨vs,rfl,hv⟩:=this
 exact aX8 hB hW hv
theorem bp1:A7 ([]:List Rat) 0:=⟨Nat.le_refl _,(fun i q _ e=>by simp at e),fun h=>absurd rfl h⟩
def by0 (u:Addr) (H:Hp) (v:V) (ps qs:List Rat):Prop:=v = .non∨∃ td l1 l2 zs1 zs2 g0 g1,v = .ref td∧td≠u∧H td=some (.tup [.ref l1,.ref l2])∧LsX u H l1 zs1 g0∧LsX u H l2 zs2 g1∧A7 g0 g0.length∧A7 g1 g1.length∧g1.length<qs.length∧∀ k,aQ ps k=cv (aQ qs) (aQ g0) k+aQ g1 k
structure PairOk (u:Addr) (H:Hp) (ap aq:Addr) (due:V) (xs ys:List V) (ps qs:List Rat) (S W1 W2:Nat):Prop where
 lp:LsX u H ap xs ps
 lq:LsX u H aq ys qs
 tp:A7 ps ps.length
 tq:A7 qs qs.length
 q0:qs≠[]
 c1:ClN W1 ps
 c2:ClN W2 qs
 w1:1≤W1
 w2:1≤W2
 w3:W2≤690
 t:W1+S * (W2+1)+W2≤2300
 s:ps.length+1≤qs.length+S
 pl:ps.length≤16
 ql:qs.length≤16
 due:by0 u H due ps qs
theorem aZ0 (ws:List Int):zc ws=aQ (scl 1 ws):=by
 rw [ai5];funext k
 show _=1 * zc ws k
 grind
def dl:Nat→Rat:=fun k=>if k=0 then 1 else 0
theorem aT0 {B W:Nat} (hB:0<B) {f:Nat→Rat} (h:∀ i,OvB B W (f i)):∀ n,OvB B (W+n) (j7 f n)
 | 0=>OvB.zero _ _
 | n+1=>((aT0 hB h n).add hB ((h n).mono (by simp))).mono (by lia)
def cod (b:Nat) (y:Nat→Nat):Nat→Nat
 | 0=>0
 | M+1=>y 0+b * cod b (fun e=>y (e+1)) M
def sZ (f:Nat→Int):Nat→Int
 | 0=>0
 | n+1=>sZ f n+f n
theorem bb8 {f g:Nat→Int}:∀ {n},(∀ i,i<n→f i=g i)→sZ f n=sZ g n
 | 0,_=>rfl
 | n+1,h=>by rw [sZ,sZ,bb8 fun i hi=>h i (by omega),h n (by omega)]
theorem bn7 {f:Nat→Int} {C:Nat}:∀ {n},(∀ i,i<n→(f i).natAbs≤C)→(sZ f n).natAbs≤n * C
 | 0,_=>by simp [sZ]
 | n+1,h=>by
  have ih:=bn7 (n:=n) fun i hi=>h i (by omega)
  have h1:=h n (by simp)
  rw [sZ,Nat.succ_mul]
  omega
theorem al2 (f g:Nat→Rat) (k:Nat):cv f g (k+1)=f 0 * g (k+1)+cv (fun i=>f (i+1)) g k:=by
 unfold cv
 rw [ad6]
 congr 1
 exact p7 fun i _=>by rw [show k+1 - (i+1)=k - i by simp]
theorem ab6 (f g:Nat→Rat) (k:Nat):cv f g k=cv g f k:=by
 unfold cv
 rw [ag6]
 exact p7 fun i hi=>by
  rw [show k+1 - 1 - i=k - i by simp,show k - (k - i)=i by lia];grind
theorem bh1 {f g h l:Nat→Rat} {k:Nat} (a:∀ i,i≤k→f i=g i) (b:∀ i,i≤k→h i=l i):cv f h k=cv g l k:=
 p7 fun i hi=>by rw [a i (by lia),b (k - i) (by simp)]
theorem aw6 (f g:Nat→Rat):cv f g 0=f 0 * g 0:=by
 show (0:Rat)+f 0 * g 0=_
 grind
theorem aM9:∀ (k:Nat) (f g h:Nat→Rat),cv (cv f g) h k=cv f (cv g h) k
 | 0,f,g,h=>by rw [aw6,aw6,aw6,aw6];grind
 | k+1,f,g,h=>by
  rw [al2,al2 f]
  have e1:cv (fun i=>cv f g (i+1)) h k=cv (fun i=>f 0 * g (i+1)+cv (fun i=>f (i+1)) g i) h k:=bh1 (fun i _=>al2 f g i) fun _ _=>rfl
  rw [e1,aw7 (fun i=>f 0 * g (i+1)) (cv (fun i=>f (i+1)) g),aR3 (f 0) (fun i=>g (i+1)),aM9 k,al2 g]
  rw [aw6];grind
def Dg (f:Nat→Rat) (n:Nat):Prop:=∀ k,n≤k→f k=0
theorem Dg.cv {f g:Nat→Rat} {m n:Nat} (hf:Dg f m) (hg:Dg g n):Dg (cv f g) (m+n - 1):=fun k hk=>O3 _ fun i hi=>by
 by_cases h:m≤i
 ·rw [hf i h];grind
 ·rw [hg (k - i) (by lia)];grind
theorem bl6 {f B:Nat→Rat} {nf n N:Nat} (hf:Dg f nf) (hB:Dg B (n+1)) (hn:B n≠0) (h:Dg (cv f B) N):Dg f (N - n):=by
 have key:∀ j,∀ k,nf - j≤k→N - n≤k→f k=0:=by
  intro j
  induction j with
  | zero=>intro k hk _;exact hf k (by omega)
  | succ j ih=>
   intro k hk hN
   by_cases h1:nf - j≤k
   ·exact ih k h1 hN
   have e:=h (k+n) (by omega)
   have one:cv f B (k+n)=f k * B n:=by
    unfold R.cv
    have:j7 (fun i=>f i * B (k+n - i)) (k+n+1)=j7 (fun i=>if i=k then f k * B n else 0) (k+n+1):=p7 fun i _=>by
     by_cases z:i=k
     ·rw [if_pos z,z,Nat.add_sub_cancel_left]
     ·rw [if_neg z]
      by_cases y:i<k
      ·rw [hB _ (by lia)];grind
      ·rw [ih i (by lia) (by lia)];grind
    rw [this,E1,if_pos (by lia)]
   rw [one] at e
   have:=Rat.mul_inv_cancel _ hn
   generalize (B n)⁻¹=u at this
   generalize B n=y at *
   grind
 exact fun k hk=>key nf k (by simp) hk
structure Eu (p q A B:Nat→Rat) (lp lq la lb:Nat):Prop where
 inv:∀ m,m<la→∀ u v,Dg u (lq - m)→Dg v (lp - m)→Dg (fun k=>cv u p k+cv v q k) m →
  ∃ a b,(∀ k,cv u p k+cv v q k=cv a A k+cv b B k)∧Dg a (lb - m)∧Dg b (la - m)∧((∀ k,a k=0)→(∀ k,b k=0)→∀ k,u k=0∧v k=0)
 le:la≤max lp lq
theorem aJ7 (f:Nat→Rat) (n:Nat):∀ m,j7 f (n+m)=j7 f n+j7 (fun i=>f (n+i)) m
 | 0=>by simp only [j7,Nat.add_zero];grind
 | m+1=>by rw [←Nat.add_assoc,j7,aJ7 f n m,j7];grind
theorem aU6 (f:Nat→Int):∀ n,((sZ f n:Int):Rat)=j7 (fun i=>(f i:Rat)) n
 | 0=>by simp [sZ,j7,Rat.intCast_zero]
 | n+1=>by rw [sZ,j7,Rat.intCast_add,aU6 f n]
theorem bl8 {u:Nat→Rat} {n:Nat} (hu:Dg u n) (p:Nat→Rat) (k:Nat):cv u p k=j7 (fun i=>u i * if i≤k then p (k - i) else 0) n:=by
 unfold cv
 rw [←Y1 (f:=fun i=>u i * if i≤k then p (k - i) else 0) (m:=n) (n:=max n (k+1)) (by lia) (fun i hi _=>by rw [hu i hi];grind),
  Y1 (f:=fun i=>u i * if i≤k then p (k - i) else 0) (m:=k+1) (n:=max n (k+1)) (by lia) (fun i hi _=>by rw [if_neg (by lia)];grind)]
 exact p7 fun i hi=>by rw [if_pos (by omega)]
theorem aw2 {d:Nat}:∀ (ws:List Int) (c:Nat),d ∣ c→(∀ w∈ws,(d:Int) ∣ w)→d ∣ ws.foldl (fun c w=>Int.gcd w c) c
 | [],c,h,_=>h
 | w :: r,c,h,hw=>aw2 r _ (Int.dvd_gcd (hw w List.mem_cons_self) (by exact Int.natCast_dvd_natCast.mpr h)) fun x hx=>hw x (List.mem_cons_of_mem _ hx)
def bF (c x:Nat):Nat:=(c+1) * (x * (x+1))
structure SgS (c d0 L K:Nat) (P0 Q0:List Int) (s t:Rat) (A B:List Int):Prop where
 tA:A6 A A.length
 tB:A6 B B.length
 lA:A.length≤L
 lB:B.length<A.length
 gB:B≠[]→u8 B=1
 eu:Eu (zc P0) (zc Q0) (zc A) (zc B) P0.length Q0.length A.length B.length
 s0:s≠0
 t0:t≠0
 wA:∀ k,(aZ A k).natAbs<2 ^ (c * (2 * (L - A.length)+1))
 wB:∀ k,(aZ B k).natAbs<2 ^ (c * (2 * (L - A.length)+1))
 sd:s.den<2 ^ (d0+bF c (L - A.length - 1))
 sn:s.num.natAbs<2 ^ (d0+2 * bF c (L - A.length - 1))
 td:t.den<2 ^ (d0+bF c (L - A.length))
 tn:t.num.natAbs<2 ^ (d0+2 * bF c (L - A.length))
theorem aD8 {B:List Int} (t:A6 B B.length) (h:0<B.length):aZ B (B.length - 1)≠0:=by
 have:=t.last (by omega) _ (List.getElem?_eq_getElem (by omega))
 unfold aZ
 rw [List.getElem?_eq_getElem (by omega)]
 exact this
theorem az5 (B:List Int):Dg (zc B) B.length:=fun k hk=>by
 unfold zc aZ
 rw [List.getElem?_eq_none hk]
 exact Rat.intCast_zero
theorem bm8 {B:List Int} {k:Nat} (h:aZ B k≠0):zc B k≠0:=fun w=>h (Rat.intCast_inj.mp (by unfold zc at w;rw [w,Rat.intCast_zero]))
theorem aV4 {s:Rat} {g many:Int} (hm:many≠0):∃ t:Rat,t=s * (g:Rat) * (many:Rat)⁻¹∧t.num.natAbs≤s.num.natAbs * g.natAbs∧t.den≤s.den * many.natAbs:=by
 refine ⟨Rat.divInt (s.num * g) (s.den * many),?_,?_⟩
 ·have h1:s=(s.num:Rat) * (s.den:Rat)⁻¹:=by
   have:=Rat.num_divInt_den s
   rw [Rat.divInt_eq_div,Rat.div_def] at this
   exact this.symm
  rw [Rat.divInt_eq_div,Rat.div_def,Rat.intCast_mul,Rat.intCast_mul,Rat.inv_mul_rev]
  conv=>rhs;rw [h1]
  have:((s.den:Int):Rat)=(s.den:Rat):=Rat.intCast_natCast _
  rw [this]
  grind
 ·have hb:(s.den:Int) * many≠0:=Int.mul_ne_zero (by have:=s.den_nz;lia) hm
  have:=K7 (t:=s.num * g) hb
  rw [Int.natAbs_mul,Int.natAbs_mul,Int.natAbs_natCast] at this
  exact this
theorem aJ8 {K:PySem.W.Frag} {H:Hp} {D a:Addr} {ys xs:List V} {o:HO} (hD:H D=some (.lst ys)) (h:SqT K H a xs):SqT K (upd H D o) a xs:=by
 rcases h with h | h
 ·rcases h with h | ⟨o',h⟩
  ·have:a≠D:=by rintro rfl;rw [h] at hD;cases hD
   exact .inl (.inl (by rw [j0 this];exact h))
  ·have:a≠D:=by rintro rfl;rw [h] at hD;cases hD
   exact .inl (.inr ⟨o',by rw [j0 this];exact h⟩)
 ·exact .inr h
def FmX (K:PySem.W.Frag) (D:Addr) (H:Hp) (r:Addr) (s:Rat) (ws:List Int):Prop:=∃ rs l,SqT K H r [.ref rs,.ref l]∧SqT K H rs (t8 s)∧H l=some (.lst (ws.map V.int))∧l≠D
theorem FmX.same {K:PySem.W.Frag} {D:Addr} {H H':Hp} {r:Addr} {s:Rat} {ws:List Int} (e:d5 H H'):FmX K D H r s ws→FmX K D H' r s ws
 | ⟨rs,l,h1,h2,h3,h4⟩=>⟨rs,l,e.tup h1,e.tup h2,e _ _ h3,h4⟩
theorem FmX.over {K:PySem.W.Frag} {D:Addr} {H:Hp} {r:Addr} {s:Rat} {ws:List Int} {ys:List V} {o:HO} (hD:H D=some (.lst ys)):FmX K D H r s ws→FmX K D (upd H D o) r s ws
 | ⟨rs,l,h1,h2,h3,h4⟩=>⟨rs,l,aJ8 hD h1,aJ8 hD h2,by rw [j0 h4];exact h3,h4⟩
inductive Fms (K:PySem.W.Frag) (D:Addr) (H:Hp):List V→List (Rat × List Int)→Prop where
 | nil:Fms K D H [] []
 | cons {r:Addr} {s:Rat} {ws:List Int} {xs:List V} {fs:List (Rat × List Int)} (h:FmX K D H r s ws) (t:Fms K D H xs fs):Fms K D H (.ref r :: xs) ((s,ws) :: fs)
theorem Fms.same {K:PySem.W.Frag} {D:Addr} {H H':Hp} (e:d5 H H'):∀ {xs:List V} {fs:List (Rat × List Int)},Fms K D H xs fs→Fms K D H' xs fs
 | _,_,.nil=>.nil
 | _,_,.cons h t=>.cons (h.same e) (t.same e)
theorem Fms.over {K:PySem.W.Frag} {D:Addr} {H:Hp} {ys:List V} {o:HO} (hD:H D=some (.lst ys)):∀ {xs:List V} {fs:List (Rat × List Int)},Fms K D H xs fs→Fms K D (upd H D o) xs fs
 | _,_,.nil=>.nil
 | _,_,.cons h t=>.cons (h.over hD) (t.over hD)
theorem Fms.snoc {K:PySem.W.Frag} {D:Addr} {H:Hp} {r:Addr} {s:Rat} {ws:List Int} (h:FmX K D H r s ws):∀ {xs:List V} {fs:List (Rat × List Int)},Fms K D H xs fs→Fms K D H (xs++[.ref r]) (fs++[(s,ws)])
 | _,_,.nil=>.cons h .nil
 | _,_,.cons h' t=>.cons h' (t.snoc h)
theorem Fms.length {K:PySem.W.Frag} {D:Addr} {H:Hp}:∀ {xs:List V} {fs:List (Rat × List Int)},Fms K D H xs fs→xs.length=fs.length
 | _,_,.nil=>rfl
 | _,_,.cons _ t=>congrArg (· + 1) t.length
theorem Fms.get {K:PySem.W.Frag} {D:Addr} {H:Hp}:∀ {xs:List V} {fs:List (Rat × List Int)} {i:Nat} {x:V},Fms K D H xs fs→xs[i]? = some x→∃ r s ws,x = .ref r∧fs[i]? = some (s,ws)∧FmX K D H r s ws
 | _,_,_,_,.nil,e=>by simp at e
 | _,_,0,_,.cons h _,e=>by cases e;exact ⟨_,_,_,rfl,rfl,h⟩
 | _,_,i+1,_,.cons _ t,e=>t.get (i:=i) (by simpa using e)
theorem bc8 {b:Rat} {ws:List Int} (hg:u8 ws=1) {s:Nat→Int} (h:∀ k,(s k:Rat)=b * zc ws k):∃ g:Int,b=(g:Rat):=by
 have hb2:(b.den:Rat) * b=(b.num:Rat):=by
  have h3:(b.den:Rat)≠0:=fun w=>b.den_nz (Rat.natCast_inj.mp (by rw [w];rfl))
  have h4:b=(b.num:Rat) / (b.den:Rat):=by
   have:=Rat.num_divInt_den b
   rw [Rat.divInt_eq_div] at this
   exact this.symm
  have h5:=Rat.mul_inv_cancel _ h3
  rw [Rat.div_def] at h4
  generalize (b.den:Rat)=y at *
  generalize y⁻¹=z at *
  generalize (b.num:Rat)=n at *
  grind
 have e:∀ k,(b.den:Int) * s k=b.num * aZ ws k:=fun k=>by
  have h1:=h k
  have h3:(((b.den:Int) * s k:Int):Rat)=((b.num * aZ ws k:Int):Rat):=by
   rw [Rat.intCast_mul,Rat.intCast_mul,h1,Rat.intCast_natCast]
   unfold zc
   grind
  exact Rat.intCast_inj.mp h3
 have d1:b.den=1:=by
  have:b.den ∣ u8 ws:=aw2 ws 0 (Nat.dvd_zero _) fun w hw=>by
   obtain ⟨k,hk,ek⟩:=List.getElem_of_mem hw
   have h1:=e k
   have h2:aZ ws k=w:=by unfold aZ;rw [List.getElem?_eq_getElem hk,ek];rfl
   rw [h2] at h1
   have:(b.den:Int) ∣ b.num * w:=⟨s k,by rw [←h1]⟩
   have h3:b.den ∣ b.num.natAbs * w.natAbs:=by
    have:=Int.natAbs_dvd_natAbs.mpr this
    rw [Int.natAbs_natCast,Int.natAbs_mul] at this
    exact this
   exact Int.natAbs_dvd_natAbs.mp (by rw [Int.natAbs_natCast];exact Nat.Coprime.dvd_of_dvd_mul_left (Nat.Coprime.symm b.reduced) h3)
  rw [hg] at this
  exact Nat.dvd_one.mp this
 refine ⟨b.num,?_⟩
 rw [←hb2,d1]
 show b=((1:Nat):Rat) * b
 have:((1:Nat):Rat)=1:=rfl
 rw [this];grind
theorem aR8 {ws:List Int} {X:Nat} (h:∀ k,(aZ ws k).natAbs<X):∀ v∈ws,Int.natAbs v<X:=fun v hv=>by
 obtain ⟨k,hk,ek⟩:=List.getElem_of_mem hv
 have h2:aZ ws k=v:=by unfold aZ;rw [List.getElem?_eq_getElem hk,ek];rfl
 rw [←h2];exact h k
structure Pf where
 f:Nat→Rat
theorem Pf.ext {a b:Pf} (h:∀ k,a.f k=b.f k):a=b:=by
 cases a;cases b;congr 1;exact funext h
def v6 (c:Rat):Pf:=⟨fun k=>if k=0 then c else 0⟩
def aP1 (a b:Pf):Pf:=⟨cv a.f b.f⟩
def bx0 (a:Pf):Nat→Pf
 | 0=>v6 1
 | n+1=>aP1 (bx0 a n) a
theorem aw5 (c:Rat) (h:Nat→Rat) (k:Nat):cv (fun k=>if k=0 then c else 0) h k=c * h k:=by
 rw [ap0,if_pos (by simp),Nat.sub_zero]
theorem au3 (c:Rat) (a:Pf) (k:Nat):(aP1 (v6 c) a).f k=c * a.f k:=aw5 c a.f k
instance instPf:Lean.Grind.CommRing Pf where
 add a b:=⟨fun k=>a.f k+b.f k⟩
 mul:=aP1
 neg a:=⟨fun k=>- a.f k⟩
 sub a b:=⟨fun k=>a.f k - b.f k⟩
 natCast:=⟨fun n=>v6 n⟩
 ofNat n:=⟨v6 n⟩
 intCast:=⟨fun n=>v6 n⟩
 nsmul:=⟨fun n a=>aP1 (v6 n) a⟩
 zsmul:=⟨fun n a=>aP1 (v6 n) a⟩
 npow:=⟨bx0⟩
 add_zero a:=Pf.ext fun k=>by
  show a.f k+(if k=0 then ((0:Nat):Rat) else 0)=a.f k
  have:((0:Nat):Rat)=0:=rfl
  rw [this];split <;> grind
 add_comm a b:=Pf.ext fun k=>by show a.f k+b.f k=b.f k+a.f k;grind
 add_assoc a b c:=Pf.ext fun k=>by show a.f k+b.f k+c.f k=a.f k+(b.f k+c.f k);grind
 mul_assoc a b c:=Pf.ext fun k=>aM9 k a.f b.f c.f
 one_mul a:=Pf.ext fun k=>by
  show cv (fun k=>if k=0 then ((1:Nat):Rat) else 0) a.f k=a.f k
  rw [aw5]
  have:((1:Nat):Rat)=1:=rfl
  rw [this];grind
 right_distrib a b c:=Pf.ext fun k=>aw7 a.f b.f c.f k
 mul_zero a:=Pf.ext fun k=>by
  show cv a.f (fun k=>if k=0 then ((0:Nat):Rat) else 0) k=(if k=0 then ((0:Nat):Rat) else 0)
  rw [ab6,aw5]
  have:((0:Nat):Rat)=0:=rfl
  rw [this];split <;> grind
 mul_comm a b:=Pf.ext fun k=>ab6 a.f b.f k
 mul_one a:=Pf.ext fun k=>by
  show cv a.f (fun k=>if k=0 then ((1:Nat):Rat) else 0) k=a.f k
  rw [ab6,aw5]
  have:((1:Nat):Rat)=1:=rfl
  rw [this];grind
 left_distrib a b c:=Pf.ext fun k=>by
  show cv a.f (fun k=>b.f k+c.f k) k=cv a.f b.f k+cv a.f c.f k
  rw [ab6,aw7,ab6 b.f,ab6 c.f]
 zero_mul a:=Pf.ext fun k=>by
  show cv (fun k=>if k=0 then ((0:Nat):Rat) else 0) a.f k=(if k=0 then ((0:Nat):Rat) else 0)
  rw [aw5]
  have:((0:Nat):Rat)=0:=rfl
  rw [this];split <;> grind
 pow_zero a:=Pf.ext fun k=>by
  show (if k=0 then (1:Rat) else 0)=if k=0 then ((1:Nat):Rat) else 0
  rfl
 pow_succ a n:=rfl
 ofNat_succ n:=Pf.ext fun k=>by
  show (if k=0 then ((n+1:Nat):Rat) else 0)=(if k=0 then (n:Rat) else 0)+(if k=0 then ((1:Nat):Rat) else 0)
  split
  ·rw [Rat.natCast_add]
  ·grind
 neg_add_cancel a:=Pf.ext fun k=>by
  show - a.f k+a.f k=if k=0 then ((0:Nat):Rat) else 0
  have:((0:Nat):Rat)=0:=rfl
  rw [this];split <;> grind
 sub_eq_add_neg a b:=Pf.ext fun k=>by show a.f k - b.f k=a.f k + - b.f k;grind
 neg_zsmul i a:=Pf.ext fun k=>by
  show (aP1 (v6 ((-i:Int):Rat)) a).f k = - (aP1 (v6 (i:Rat)) a).f k
  rw [au3,au3,Rat.intCast_neg];grind
 intCast_neg i:=Pf.ext fun k=>by
  show (if k=0 then ((-i:Int):Rat) else 0) = - (if k=0 then (i:Rat) else 0)
  split
  ·rw [Rat.intCast_neg]
  ·grind
theorem V9 (a b:Pf) (k:Nat):(a+b).f k=a.f k+b.f k:=rfl
theorem br7 (a b:Pf) (k:Nat):(a - b).f k=a.f k - b.f k:=rfl
theorem aO8 (a b:Pf) (k:Nat):(a * b).f k=cv a.f b.f k:=rfl
theorem ax9 (c:Rat) (a:Pf) (k:Nat):(v6 c * a).f k=c * a.f k:=au3 c a k
theorem ao1 (c d:Rat):v6 (c * d)=v6 c * v6 d:=Pf.ext fun k=>by
 rw [ax9]
 show (if k=0 then c * d else 0)=c * (if k=0 then d else 0)
 split <;> grind
def zp (ws:List Int):Pf:=⟨zc ws⟩
theorem aD6:zp []=0:=Pf.ext fun k=>by
 show zc [] k=(if k=0 then ((0:Nat):Rat) else 0)
 cases k with
 | zero=>rfl
 | succ k=>rfl
theorem W5 (k:Nat):(0:Pf).f k=0:=by
 show (if k=0 then ((0:Nat):Rat) else 0)=0
 have:((0:Nat):Rat)=0:=rfl
 rw [this];split <;> rfl
structure Ev (p q A B fa ha fb hb:Pf) (lp lq la lb:Nat):Prop where
 inv:∀ m,m<la→∀ u v:Pf,Dg u.f (lq - m)→Dg v.f (lp - m)→Dg (u * p+v * q).f m →
  ∃ a b:Pf,u=a * fa+b * fb∧v=a * ha+b * hb∧Dg a.f (lb - m)∧Dg b.f (la - m)
 idA:A=fa * p+ha * q
 idB:B=fb * p+hb * q
 cr:∃ δ:Rat,δ≠0∧v6 δ * p=hb * A - ha * B∧v6 δ * q=fa * B - fb * A
 le:la≤max lp lq
theorem bt8 {g:Int} (g0:(g:Rat)≠0) {x y:Int} (h:(y:Rat)=(g:Rat) * (x:Rat)):x.natAbs≤y.natAbs:=by
 have e:y=g * x:=Rat.intCast_inj.mp (by rw [h,Rat.intCast_mul])
 have:g≠0:=fun z=>g0 (by rw [z];rfl)
 rw [e,Int.natAbs_mul]
 exact Nat.le_mul_of_pos_left _ (by lia)
theorem bh0 {f g:Nat→Rat} {a b:Nat} (hf:Dg f (a+1)) (hg:Dg g (b+1)):cv f g (a+b)=f a * g b:=by
 unfold cv
 have:j7 (fun i=>f i * g (a+b - i)) (a+b+1)=j7 (fun i=>if i=a then f a * g b else 0) (a+b+1):=p7 fun i _=>by
  by_cases z:i=a
  ·rw [if_pos z,z,Nat.add_sub_cancel_left]
  ·rw [if_neg z]
   by_cases y:i<a
   ·rw [hg _ (by lia)];grind
   ·rw [hf i (by lia)];grind
 rw [this,E1,if_pos (by lia)]
def ExZ (one other:List Int):Prop:=∃ (V:Nat→Int) (n:Nat),(∀ k,n≤k→V k=0)∧∀ k,zc one k=cv (fun i=>(V i:Rat)) (zc other) k
theorem be7 {one other Qz Rz:List Int} {n t:Nat} (hx:ExZ one other) (dv:Dv one other Qz Rz 1) (ho:other.length=n+1) (h0:aZ other n≠0) (hr:Rz.length=n+1+t):aZ other n ∣ aZ Rz (t+n):=by
 obtain ⟨V,nv,hV,e⟩:=hx
 obtain ⟨D,hD⟩:∃ D:Pf,D=⟨fun i=>(V i:Rat)⟩ - zp Qz:=⟨_,rfl⟩
 have eD:D * zp other=zp Rz:=by
  have e1:zp one=⟨fun i=>(V i:Rat)⟩ * zp other:=Pf.ext e
  have e2:zp one=zp Qz * zp other+zp Rz:=Pf.ext fun k=>by
   have:=dv k
   rw [show ((1:Int):Rat)=1 from rfl] at this
   show zc one k=cv (zc Qz) (zc other) k+zc Rz k
   rw [←this];grind
  rw [hD]
  generalize (⟨fun i=>(V i:Rat)⟩:Pf)=x at *
  grind
 have dD:Dg D.f (max nv Qz.length):=fun k hk=>by
  rw [hD,br7]
  show (V k:Rat) - zc Qz k=0
  rw [hV k (by lia),az5 Qz k (by lia),Rat.intCast_zero];grind
 have oD:Dg (zc other) (n+1):=by rw [←ho];exact az5 other
 have back:Dg D.f (t+1):=by
  have:=bl6 (f:=D.f) (B:=zc other) (N:=n+1+t) dD oD (bm8 h0) (fun k hk=>by
   have:(D * zp other).f k=(zp Rz).f k:=by rw [eD]
   rw [show cv D.f (zc other) k=(D * zp other).f k from rfl,this]
   exact az5 Rz k (by lia))
  rwa [show n+1+t - n=t+1 by lia] at this
 have top:=bh0 back oD
 have h1:zc Rz (t+n)=D.f t * zc other n:=by
  rw [←top,show cv D.f (zc other) (t+n)=(D * zp other).f (t+n) from rfl,eD];rfl
 refine ⟨V t - aZ Qz t,Rat.intCast_inj.mp ?_⟩
 have h2:D.f t=(V t:Rat) - zc Qz t:=by rw [hD];rfl
 rw [h2] at h1
 unfold zc at h1
 rw [h1,Rat.intCast_mul,Rat.intCast_sub];grind
section
variable {P:Program} {w:World} {K:PySem.W.Frag} {mg:Str→Option Value} {base:Heap}
def aj0 (K:PySem.W.Frag):Sp:=fun vs H Q _=>∃ (a:Addr) (ws:List Int),vs=[.ref a]∧SqL K H a (ws.map V.int)∧ws.length≤100∧∀ m r,A6 ws m→H r=none→Q (.ref r) (upd H r (.lst ((ws.take m).map V.int)))
abbrev T7:Stmt:=top 35
theorem ah4:i8 ["wholes","many"] ["wholes"] (d3 T7):=by and_intros
set_option maxHeartbeats 0 in
theorem aP3 {f:Addr} (d:Df K mg "trimmed" T7 ["wholes"] f) (n_len:mg "len" = none):Def P w K mg base CX0 1 "trimmed" f ["wholes"] (aj0 K):=by
 refine d.ok (N:=["wholes","many"]) ah4 (by rintro vs H Q E ⟨_,_,h,_⟩;rw [h];rfl) (fun cdv A outer s H vs Q E hr h=>?_)
 obtain ⟨a,ws,rfl,hS,hl,k⟩:=h
 refine ⟨_,(b9 (i7 (i:=1) ah4.nd rfl (Or.inl rfl) (d8 i3 rfl n_len (by decide +kernel) (b6 (pv 0) b7)))
   (b9 (V1 PassesOwn.never (PW.pt (am7 (C4 (pv 1) (fun _=>rfl)) (af7 (j3 aj9 (j8 u7 (pv 0) (g6 N3 (pv 1) d4) (fun _ _=>rfl)) d4 (j6 _))))) (d7 (aO7 (i:=1) ah4.nd rfl (Or.inl rfl) d4 aQ7)))
   (d7 (g8 (V2 Z4 (pv 0) R4 (R3 (pv 1))))))),?_⟩
 rw [show start ["wholes","many"] [.ref a]=[some (.ref a),none] from rfl]
 refine e9 (fun σ H1=>σ=[some (.ref a),some (.int ws.length)]∧H=H1) (fun N hN=>?_) ?_
 ·subst_eqs
  refine ⟨_,.inl hS,hN _ _ ⟨?_,rfl⟩⟩
  rw [List.length_map]
 rintro σ H1 ⟨rfl,rfl⟩
 refine e9 (fun σ H1=>∃ m:Nat,σ=[some (.ref a),some (.int m)]∧H=H1∧A6 ws m) (fun N hN=>?_) ?_
 ·refine X8 (fun σ H1=>H=H1∧∃ m:Nat,σ=[some (.ref a),some (.int m)]∧m≤ws.length∧∀ i v,m≤i→ws[i]? = some v→v=0) (fun σ _=>match σ with | [_,some (.int y)]=>y.toNat | _=>0) ⟨rfl,ws.length,rfl,Nat.le_refl _,fun i v hi h=>by rw [List.getElem?_eq_none hi] at h;cases h⟩ ?_
  rintro σ H1 ⟨rfl,m,rfl,hm,hz⟩
  simp! [aa4]
  refine t9 (fun h0=>?_) (fun h0=>?_)
  ·have h0':m≠0:=fun z=>by subst z;simp at h0
   have hlt:m - 1<ws.length:=by omega
   have hg:ws[m - 1]? = some ws[m - 1]:=List.getElem?_eq_getElem hlt
   have ei:((m:Int) - 1)=((m - 1:Nat):Int):=by omega
   rw [ei]
   refine ⟨_,hS,.int ws[m - 1],F7 (by rw [List.getElem?_map,hg];rfl),rfl,t9 (fun hn=>?_) (fun hn=>?_)⟩
   ·have hn':ws[m - 1]=0:=by simpa using hn
    refine WhB.mk ?_
    subst_eqs
    refine WhN.mk ⟨rfl,m - 1,by rw [ei],by exact Nat.le_of_lt ‹_›,fun i v hi e=>?_⟩ ?_
    ·by_cases hi':i=m - 1
     ·subst hi'
      rw [hg] at e
      cases e
      exact hn'
     ·exact hz i v (by lia) e
    ·show ((m:Int) - 1).toNat<(m:Int).toNat
     lia
   ·refine hN _ _ ⟨m,rfl,rfl,hm,hz,fun _ v e=>?_⟩
    rw [hg] at e
    cases e
    intro z
    exact hn (by rw [z])
  ·have h0':m=0:=by
    by_cases z:m=0
    ·exact z
    ·exact absurd (by simp [z]) h0
   exact hN _ _ ⟨m,rfl,rfl,hm,hz,fun h=>absurd h0' h⟩
 rintro σ H1 ⟨m,rfl,rfl,t⟩
 subst_eqs
 refine ⟨_,hS,fun p hp=>?_⟩
 rw [aw8 _ (by rw [List.length_map];exact t.le),←List.map_take]
 exact k m p t hp
theorem aH3 {n k:Nat} (h:k<n):ixN n (k:Int)=some k:=by
 unfold ixN
 rw [if_pos (by simp),if_pos (by omega)]
 simp
theorem bi7:(3:Nat)≤sizeLine:=by decide
structure WDD (H:Hp) (one other:List Int) (n W1 W2 kst:Nat) (lq lr:Addr) (many:Int) (Qz Rz:List Int) (H3:Hp):Prop where
 same:d5 H H3
 fq:H lq=none
 fr:H lr=none
 nqr:lq≠lr
 eq:H3 lq=some (.lst (Qz.map V.int))
 er:H3 lr=some (.lst (Rz.map V.int))
 m1:1≤many
 mb:many.natAbs<2 ^ (kst * W2+1)
 qb:∀ v∈Qz,Int.natAbs v<2 ^ (W1+kst * (W2+1))
 rb:∀ v∈Rz,Int.natAbs v<2 ^ (W1+kst * (W2+1))
 kl:kst+Rz.length≤one.length
 ks:kst=0∨kst+n≤one.length
 k0:kst=0→Rz.length=one.length
 rt:A6 Rz Rz.length
 ql:Qz.length=one.length - n
 qz:∀ i,i+n<Rz.length→aZ Qz i=0
 qlast:kst≠0→∀ v,Qz[Qz.length - 1]? = some v→v≠0
 dv:Dv one other Qz Rz many
 ex:ExZ one other→many=1
theorem bb6 {K:PySem.W.Frag} {l D:Addr} {ws:List Int} {f:Int} {H1:Hp} {Q:VK} {m m2:Nat} (e:H1 l=some (.lst (ws.map V.int))) (hD:H1 D=none) (hl:ws.length≤100) (hf:f.natAbs<2 ^ m2) (hw:∀ v∈ws,Int.natAbs v<2 ^ m) (hm:m+m2≤20000)
  (k:∀ H2,d5 H1 H2→H2 D=some (.lst ((ws.map (f * ·)).map V.int))→Q (.ref D) H2):al9 (Itl K l) D [some (.int f),none] (upd H1 D (.lst [])) (n8 1) (tOp (rI IntMulOk fun i j=>V.int (i * j)) (aa6 0) (aa6 1)) Q:=by
 refine N2 (ws.map V.int) (fun i σ H3=>∃ o,σ=[some (.int f),o]∧d5 H1 H3∧H3 D=some (.lst (((ws.take i).map (f * ·)).map V.int))) ⟨_,rfl,d5.new hD _,b8⟩ (fun i σ H3 _ ⟨_,_,s3,_⟩=>SqL.of (s3 _ _ e)) ?_ ?_
 ·rintro i y σ H3 hy ⟨o,rfl,s3,e3⟩
  have hi:=(List.getElem?_eq_some_iff.mp hy).1
  obtain ⟨v,hv,rfl⟩:=G4 hy
  subst_eqs
  refine ⟨N6 hf (hw v (List.mem_of_getElem? hv)) (by lia),G8.mk hi e3 ?_ ⟨_,rfl,s3.over hD _,?_⟩⟩
  ·simp only [List.length_map,List.length_take]
   exact Nat.lt_of_le_of_lt (show _≤100 by lia) (by decide)
  ·rw [b8,List.take_succ,hv]
   simp
 ·rintro σ H3 ⟨o,rfl,s3,e3⟩
  rw [List.length_map,List.take_length] at e3
  exact k H3 s3 e3
def V3 (k:Nat) (σ:L2.St) (H:Hp):Nat:=match σ[k]? with
 | some (some (.ref r))=>(match H r with
  | some (.lst xs)=>xs.length
  | _=>0)
 | _=>0
theorem ab3 {k:Nat} {σ:L2.St} {H:Hp} {r:Addr} {xs:List V} (h:σ[k]? = some (some (.ref r))) (e:H r=some (.lst xs)):V3 k σ H=xs.length:=by
 unfold V3;rw [h];simp only [e]
def bw6 (K:PySem.W.Frag):Sp:=fun vs H Q _=>∃ (a b:Addr) (one other:List Int) (n S W1 W2:Nat),vs=[.ref a,.ref b]∧SqL K H a (one.map V.int)∧SqL K H b (other.map V.int)∧one.length≤30∧other.length=n+1∧n≤30∧aZ other n≠0∧A6 one one.length∧one.length≤n+S∧(∀ v∈one,Int.natAbs v<2 ^ W1)∧(∀ v∈other,Int.natAbs v<2 ^ W2)∧W1+S * (W2+1)≤5000∧W2≤5000 ∧
 ∀ r lq lr many Qz Rz H',d5 H H'→H lq=none→H lr=none→lq≠lr→H' r=some (.tup [.int many,.ref lq,.ref lr])→H' lq=some (.lst (Qz.map V.int))→H' lr=some (.lst (Rz.map V.int))→1≤many→many.natAbs<2 ^ (S * W2+1)→(∀ v∈Qz,Int.natAbs v<2 ^ (W1+S * (W2+1)))→(∀ v∈Rz,Int.natAbs v<2 ^ (W1+S * (W2+1)))→Rz.length≤n→A6 Rz Rz.length→Qz.length=one.length - n→A6 Qz Qz.length→Dv one other Qz Rz many→Q (.ref r) H'
def bw5 (K:PySem.W.Frag):Sp:=fun vs H Q _=>∃ (a b:Addr) (one other:List Int) (n S W1 W2:Nat),vs=[.ref a,.ref b]∧SqL K H a (one.map V.int)∧SqL K H b (other.map V.int)∧one.length≤30∧other.length=n+1∧n≤30∧aZ other n≠0∧A6 one one.length∧one.length≤n+S∧(∀ v∈one,Int.natAbs v<2 ^ W1)∧(∀ v∈other,Int.natAbs v<2 ^ W2)∧W1+S * (W2+1)≤5000∧W2≤5000 ∧
 ∀ r lq lr many Qz Rz H',d5 H H'→H lq=none→H lr=none→lq≠lr→H' r=some (.tup [.int many,.ref lq,.ref lr])→H' lq=some (.lst (Qz.map V.int))→H' lr=some (.lst (Rz.map V.int))→1≤many→many.natAbs<2 ^ (S * W2+1)→(∀ v∈Qz,Int.natAbs v<2 ^ (W1+S * (W2+1)))→(∀ v∈Rz,Int.natAbs v<2 ^ (W1+S * (W2+1)))→Rz.length≤n→A6 Rz Rz.length→Qz.length=one.length - n→A6 Qz Qz.length→Dv one other Qz Rz many→(ExZ one other→many=1)→Q (.ref r) H'
abbrev v7:Stmt:=top 47
theorem j4:i8 ["one","other","lead","many","quotient","rest","part","place","factor","further","whole"] ["one","other"] (d3 v7):=by and_intros
set_option maxHeartbeats 0 in
theorem ak5 {f f1:Addr} (d:Df K mg "whole_divided" v7 ["one","other"] f) (G_trimmed:Def P w K mg base CX0 1 "trimmed" f1 ["wholes"] (aj0 K)) (n_len:mg "len" = none) (n_max:mg "max" = none) (n_list:mg "list" = none) (n_abs:mg "abs" = none) (n_enumerate:mg "enumerate" = none):Def P w K mg base CX0 2 "whole_divided" f ["one","other"] (bw5 K):=by
  refine d.ok (N:=["one","other","lead","many","quotient","rest","part","place","factor","further","whole"]) j4 (by rintro vs H Q E ⟨_,_,_,_,_,_,_,_,h,_⟩;rw [h];rfl) (fun cdv A outer s H vs Q E hr h=>?_)
  obtain ⟨a,b,one,other,n,S,W1,W2,rfl,hS,hS',hl1,hl2,hn,h0,ht1,hS1,hw1,hw2,hT,hT2,k⟩:=h
  refine ⟨_,(b9 (i7 (i:=2) j4.nd rfl (Or.inl rfl) (j8 u7 (pv 1) (Y3 O2 d4) (fun _ _=>rfl)))
      (b9 (i7 (i:=3) j4.nd rfl (Or.inl rfl) d4)
      (b9 (i7 (i:=4) j4.nd rfl (Or.inl rfl) (g6 au5 (t6 (b6 d4 b7)) (d8 (ap1 rfl) rfl n_max (by decide +kernel) (b6 d4 (b6 (g6 L7 (g6 N3 (d8 i3 rfl n_len (by decide +kernel) (b6 (pv 0) b7)) (d8 i3 rfl n_len (by decide +kernel) (b6 (pv 1) b7))) d4) b7)))))
      (b9 (i7 (i:=5) j4.nd rfl (Or.inl rfl) (G3 E8 rfl n_list (by decide +kernel) (b6 (pv 0) b7)))
      (b9 (V1 PassesOwn.never (j3 bo0 (d8 i3 rfl n_len (by decide +kernel) (b6 (pv 5) b7)) (d8 i3 rfl n_len (by decide +kernel) (b6 (pv 1) b7)) (j6 _)) (b9 (i7 (i:=6) j4.nd rfl (Or.inl rfl) (j8 u7 (pv 5) (Y3 O2 d4) (fun _ _=>rfl)))
      (b9 (i7 (i:=7) j4.nd rfl (Or.inl rfl) (g6 N3 (d8 i3 rfl n_len (by decide +kernel) (b6 (pv 5) b7)) (d8 i3 rfl n_len (by decide +kernel) (b6 (pv 1) b7))))
      (b9 (A0 (j3 aj9 (g6 R8 (pv 6) (pv 2)) d4 (j6 _)) (d7 (i7 (i:=6) j4.nd rfl (Or.inl rfl) (g6 C1 (pv 6) (pv 2)))) (b9 (i7 (i:=8) j4.nd rfl (Or.inr rfl) (d8 Z0 rfl n_abs (by decide +kernel) (b6 (pv 2) b7)))
      (b9 (i7 (i:=6) j4.nd rfl (Or.inl rfl) (Y4 (j3 aj8 (pv 2) d4 (j6 _)) (pv 6) (Y3 O2 (pv 6))))
      (b9 (aO7 (i:=3) j4.nd rfl (Or.inl rfl) (pv 8) bt7)
      (b9 (P2 (i₀:=4) j4.nd rfl (Or.inl rfl) (Nc:=["factor","whole"]) (caps:=[some 8,none]) rfl (Z3.of (osc:=d3 v7) (N:=["one","other","lead","many","quotient","rest","part","place","factor","further","whole"]) (ks:=["factor"]) rfl rfl rfl rfl (F8 rfl D3) (by decide +kernel)) (D4 (pv 4)) (fun C s₂ H₂ fp pins=>(e8 (i:=1) (show List.Nodup (["factor","whole"]:List Str) by decide +kernel) rfl (Or.inl rfl) (Or.inr rfl))) (fun C s₂ H₂ fp pins=>(g6 w8 (pv 0) (pv 1))))
      (d7 (P2 (i₀:=5) j4.nd rfl (Or.inl rfl) (Nc:=["factor","whole"]) (caps:=[some 8,none]) rfl (Z3.of (osc:=d3 v7) (N:=["one","other","lead","many","quotient","rest","part","place","factor","further","whole"]) (ks:=["factor"]) rfl rfl rfl rfl (F8 rfl D3) (by decide +kernel)) (D4 (pv 5)) (fun C s₂ H₂ fp pins=>(e8 (i:=1) (show List.Nodup (["factor","whole"]:List Str) by decide +kernel) rfl (Or.inl rfl) (Or.inr rfl))) (fun C s₂ H₂ fp pins=>(g6 w8 (pv 0) (pv 1))))))))))
      (b9 (K8 (pv 6) (aF8 (pv 4) (pv 7) Y2))
      (b9 (R1 PassesOwn.never rfl (Z8 rfl n_enumerate (b6 (pv 1) b7)) (show PG _ _ (P3 K 2 (p5 (n8 9) (p5 (n8 10) P4))) from by (refine B5 (n:=2) ?_ ?_ ?_ ?_;rfl;(refine g7 ?_ ?_ ?_;(exact (e8 (i:=9) j4.nd rfl (Or.inl rfl)));(refine g7 ?_ ?_ ?_;(exact (e8 (i:=10) j4.nd rfl (Or.inl rfl)));(exact v9);rfl);rfl);rfl;rfl)) (d7 (aF6 (pv 5) (g6 L7 (pv 7) (pv 9)) av6 (g6 w8 (pv 6) (pv 10)) aQ7 Y2)))
      (d7 (i7 (i:=5) j4.nd rfl (Or.inl rfl) (d9 G_trimmed hr (b6 (pv 5) b7) i5)))))))))
      (d7 (g8 (j9 (b6 (pv 3) (b6 (pv 4) (b6 (pv 5) b7))))))))))),?_⟩
  rw [show start ["one","other","lead","many","quotient","rest","part","place","factor","further","whole"] [.ref a,.ref b]=[some (.ref a),some (.ref b),none,none,none,none,none,none,none,none,none] from rfl]
  obtain ⟨lead,hlead⟩:∃ z,z=aZ other n:=⟨_,rfl⟩
  have hg:other[n]? = some lead:=by rw [hlead];unfold aZ;rw [List.getElem?_eq_getElem (by lia)];rfl
  have l0:lead≠0:=by rw [hlead];exact h0
  have lb:lead.natAbs<2 ^ W2:=hw2 _ (List.mem_of_getElem? hg)
  refine e9 (fun σ H1=>σ=[some (.ref a),some (.ref b),some (.int lead),none,none,none,none,none,none,none,none]∧H=H1) (fun N hN=>?_) ?_
  · subst_eqs
    refine ⟨_,hS',_,aH1 (x:=.int lead) (by rw [List.length_map,hl2,List.getElem?_map,Nat.add_sub_cancel,hg];rfl),hN _ _ ⟨rfl,rfl⟩⟩
  rintro σ H1 ⟨rfl,rfl⟩
  refine e9 (fun σ H1=>σ=[some (.ref a),some (.ref b),some (.int lead),some (.int 1),none,none,none,none,none,none,none]∧H=H1) (fun N hN=>?_) ?_
  · subst_eqs
    exact hN _ _ ⟨rfl,rfl⟩
  rintro σ H1 ⟨rfl,rfl⟩
  refine e9 (fun σ H1=>∃ lq,σ=[some (.ref a),some (.ref b),some (.int lead),some (.int 1),some (.ref lq),none,none,none,none,none,none]∧d5 H H1∧H lq=none∧H1 lq=some (.lst ((List.replicate (one.length - n) (0:Int)).map V.int))) (fun N hN=>?_) ?_
  · subst_eqs
    refine ⟨by decide,fun p hp=>?_⟩
    have Sp:=d5.new hp (.lst [.int 0])
    have ez:(if (((one.map V.int).length:Nat):Int) - (((other.map V.int).length:Nat):Int)+1 > 0 then (((one.map V.int).length:Nat):Int) - (((other.map V.int).length:Nat):Int)+1 else 0)=((one.length - n:Nat):Int):=by
      rw [List.length_map,List.length_map,hl2]
      split <;> lia
    refine ⟨_,.inl (Sp.seq hS),_,.inl (Sp.seq hS'),_,b8,?_⟩
    rw [ez]
    refine ⟨by simp,by lia,?_,fun p1 hp1=>hN _ _ ⟨p1,rfl,Sp.trans (d5.new hp1 _),Sp.free hp1,?_⟩⟩
    · have:(([V.int 0]:List V).length * ((one.length - n:Nat):Int).toNat)≤100:=by simp;lia
      exact Nat.le_trans this (by decide)
    · rw [b8,Int.toNat_natCast,List.flatten_replicate_singleton,List.map_replicate]
  rintro σ H1 ⟨lq,rfl,s1,fq,eq⟩
  refine e9 (fun σ H2=>∃ lr,σ=[some (.ref a),some (.ref b),some (.int lead),some (.int 1),some (.ref lq),some (.ref lr),none,none,none,none,none]∧d5 H1 H2∧H1 lr=none∧H2 lr=some (.lst (one.map V.int))) (fun N hN=>?_) ?_
  · subst_eqs
    refine ⟨_,.inl (s1.seq hS),fun l hl=>hN _ _ ⟨l,rfl,d5.new hl _,hl,b8⟩⟩
  rintro σ H2 ⟨lr,rfl,s2,fr,er⟩
  refine e9 (fun σ H3=>∃ lq lr many Qz Rz o6 o7 o8 o9 o10,σ=[some (.ref a),some (.ref b),some (.int lead),some (.int many),some (.ref lq),some (.ref lr),o6,o7,o8,o9,o10]∧d5 H H3∧H lq=none∧H lr=none∧lq≠lr∧H3 lq=some (.lst (Qz.map V.int))∧H3 lr=some (.lst (Rz.map V.int))∧1≤many∧many.natAbs<2 ^ (S * W2+1)∧(∀ v∈Qz,Int.natAbs v<2 ^ (W1+S * (W2+1)))∧(∀ v∈Rz,Int.natAbs v<2 ^ (W1+S * (W2+1)))∧Rz.length≤n∧A6 Rz Rz.length∧Qz.length=one.length - n∧A6 Qz Qz.length∧Dv one other Qz Rz many∧(ExZ one other→many=1)) (fun N hN=>?_) ?_
  · have w2p:1≤W2:=by
      rcases Nat.eq_zero_or_pos W2 with z | z
      · rw [z] at lb;lia
      · exact z
    refine X8 (fun σ H3=>∃ kst lq lr many Qz Rz o6 o7 o8 o9 o10,σ=[some (.ref a),some (.ref b),some (.int lead),some (.int many),some (.ref lq),some (.ref lr),o6,o7,o8,o9,o10]∧WDD H one other n W1 W2 kst lq lr many Qz Rz H3) (V3 5) ⟨0,lq,lr,1,_,one,_,_,_,_,_,rfl,⟨s1.trans s2,fq,s1.free fr,g9 eq fr,s2 _ _ eq,er,by decide,by simp,fun v hv=>?_,fun v hv=>?_,by simp,.inl rfl,fun _=>rfl,ht1,by rw [List.length_replicate],fun i _=>?_,fun z=>absurd rfl z,fun k=>?_,fun _=>rfl⟩⟩ ?_
    · rw [(List.mem_replicate.mp hv).2];exact Nat.two_pow_pos _
    · have:=hw1 v hv
      simpa using this
    · unfold aZ
      rw [List.getElem?_replicate]
      split <;> rfl
    · have:cv (zc (List.replicate (one.length - n) (0:Int))) (zc other) k=0:=O3 _ fun i _=>by
        have:zc (List.replicate (one.length - n) (0:Int)) i=0:=by
          unfold zc aZ
          rw [List.getElem?_replicate]
          split <;> rfl
        rw [this];grind
      rw [this]
      show (1:Rat) * _=_
      grind
    clear eq er fq fr s1 s2 lq lr
    rintro σ H3 ⟨kst,lq,lr,many,Qz,Rz,o6,o7,o8,o9,o10,rfl,D⟩
    have hSb:=D.same.seq hS'
    simp only [aJ3,tOp,tCB,ag5,aJ4,aa6,rI0]
    refine ⟨_,rfl,lr,_,rfl,.inl (SqL.of D.er),_,rfl,b,_,rfl,.inl hSb,_,_,rfl,rfl,_,rfl,?_⟩
    rw [List.length_map,List.length_map,hl2]
    refine t9 (fun hge=>WhB.mk ?_) (fun hlt=>?_)
    · have hge':n+1≤Rz.length:=by
        have:((n+1:Nat):Int)≤(Rz.length:Int):=by simpa using hge
        lia
      obtain ⟨t,ht⟩:∃ t,Rz.length=n+1+t:=⟨Rz.length - (n+1),by lia⟩
      have htq:t<Qz.length:=by rw [D.ql];have:=D.kl;lia
      obtain ⟨y,hy⟩:∃ y,Rz[Rz.length - 1]? = some y:=⟨_,List.getElem?_eq_getElem (by lia)⟩
      have y0:y≠0:=D.rt.last (by lia) y hy
      have yb:=D.rb y (List.mem_of_getElem? hy)
      refine e9 (fun σ H4=>σ=[some (.ref a),some (.ref b),some (.int lead),some (.int many),some (.ref lq),some (.ref lr),some (.int y),o7,o8,o9,o10]∧H3=H4) (fun N hN=>?_) ?_
      · subst_eqs
        exact ⟨_,SqL.of D.er,_,aH1 (x:=.int y) (by rw [List.length_map,List.getElem?_map,hy];rfl),hN _ _ ⟨rfl,rfl⟩⟩
      rintro σ H4 ⟨rfl,rfl⟩
      refine e9 (fun σ H4=>σ=[some (.ref a),some (.ref b),some (.int lead),some (.int many),some (.ref lq),some (.ref lr),some (.int y),some (.int (t:Int)),o8,o9,o10]∧H3=H4) (fun N hN=>?_) ?_
      · subst_eqs
        refine ⟨_,.inl (SqL.of D.er),_,.inl hSb,hN _ _ ⟨?_,rfl⟩⟩
        rw [List.length_map,List.length_map,hl2,ht,show (((n+1+t:Nat):Int) - ((n+1:Nat):Int))=(t:Int) by lia]
      rintro σ H4 ⟨rfl,rfl⟩
      refine e9 (fun σ H4=>∃ lq1 lr1 c d o8,σ=[some (.ref a),some (.ref b),some (.int lead),some (.int (many * c)),some (.ref lq1),some (.ref lr1),some (.int d),some (.int (t:Int)),o8,o9,o10]∧d5 H3 H4∧H lq1=none∧H lr1=none∧lq1≠lr1∧H4 lq1=some (.lst ((Qz.map (c * ·)).map V.int))∧H4 lr1=some (.lst ((Rz.map (c * ·)).map V.int))∧c * y=d * lead∧1≤c∧c.natAbs<2 ^ W2∧d.natAbs≤y.natAbs∧d≠0∧(lead ∣ y→c=1)) (fun N hN=>?_) ?_
      · subst_eqs
        have hks:kst≤S:=by rcases D.ks with z | z <;> lia
        have hkm:=Nat.mul_le_mul_right (W2+1) hks
        have hkm2:kst * W2≤kst * (W2+1):=Nat.mul_le_mul_left _ (by simp)
        have one2:(1:Nat)<2 ^ W2:=Nat.lt_of_lt_of_le (show 1<2 ^ 1 by decide) (d6 w2p)
        refine ⟨l0,rfl,t9 (fun hd=>?_) (fun hd=>?_)⟩
        · refine ⟨V5 l0 (B6 lb (by lia)),hN _ _ ⟨lq,lr,1,y.fdiv lead,o8,by rw [Int.mul_one],d5.refl _,D.fq,D.fr,D.nqr,?_,?_,?_,by decide,one2,?_,?_,fun _=>rfl⟩⟩
          · have : Qz.map ((1 : Int) * ·) = Qz := by conv => rhs; rw [← List.map_id Qz]
                                                     exact List.map_congr_left fun v _ => Int.one_mul v
            rw [this];exact D.eq
          · have : Rz.map ((1 : Int) * ·) = Rz := by conv => rhs; rw [← List.map_id Rz]
                                                     exact List.map_congr_left fun v _ => Int.one_mul v
            rw [this];exact D.er
          · have:=Int.fmod_add_mul_fdiv y lead
            rw [hd] at this
            rw [Int.one_mul,Int.mul_comm];omega
          · have:=Int.fmod_add_mul_fdiv y lead
            rw [hd,Int.zero_add] at this
            conv=>rhs;rw [←this]
            rw [Int.natAbs_mul]
            exact Nat.le_mul_of_pos_left _ (by lia)
          · intro z
            have:=Int.fmod_add_mul_fdiv y lead
            rw [hd,z] at this
            simp at this
            exact y0 this.symm
        · have hnd : ¬ lead ∣ y:=fun z=>hd (by simpa using Int.fmod_eq_zero_of_dvd z)
          have fin:∀ d:Int,(if lead<0 then -lead else lead) * y=d * lead→d.natAbs=y.natAbs→IntMulOk many (if lead<0 then -lead else lead)∧(∃ xs,SqL K H3 lq xs)∧∀ (D:Addr),H3 D=none→al9 (Itl K lq) D [some (V.int (if lead<0 then -lead else lead)),none] (upd H3 D (HO.lst [])) (n8 1) (tOp (rI IntMulOk fun i j=>V.int (i * j)) (aa6 0) (aa6 1)) fun x H1=>(∃ xs,SqL K H1 lr xs)∧∀ (D:Addr),H1 D=none→al9 (Itl K lr) D [some (V.int (if lead<0 then -lead else lead)),none] (upd H1 D (HO.lst [])) (n8 1) (tOp (rI IntMulOk fun i j=>V.int (i * j)) (aa6 0) (aa6 1)) fun x_1 H1=>N [some (V.ref a),some (V.ref b),some (V.int lead),some (V.int (many * if lead<0 then -lead else lead)),some x,some x_1,some (V.int d),some (V.int ↑t),some (V.int (if lead<0 then -lead else lead)),o9,o10] H1:=fun d hd1 hd2=>by
            have ab:((if lead<0 then -lead else lead):Int).natAbs=lead.natAbs:=by split <;> simp
            have ab1:(1:Int)≤(if lead<0 then -lead else lead):=by split <;> lia
            generalize (if lead<0 then -lead else lead)=c at ab ab1 hd1 ⊢
            have cb:c.natAbs<2 ^ W2:=by lia
            have hml:=D.kl
            refine ⟨N6 D.mb cb (by lia),⟨_,SqL.of D.eq⟩,fun D1 hD1=>bb6 D.eq hD1 (by rw [D.ql];lia) cb D.qb (by lia) fun H4 s4 e4=>?_⟩
            refine ⟨⟨_,SqL.of (s4 _ _ D.er)⟩,fun D2 hD2=>bb6 (s4 _ _ D.er) hD2 (by lia) cb D.rb (by omega) fun H5 s5 e5=>?_⟩
            exact hN _ _ ⟨D1,D2,c,d,_,rfl,s4.trans s5,D.same.free hD1,D.same.free (s4.free hD2),g9 e4 hD2,s5 _ _ e4,e5,hd1,ab1,cb,by lia,fun z=>y0 (by lia),fun z=>absurd z hnd⟩
          refine t9 (fun hp=>fin y ?_ rfl) (fun hp=>fin (-y) ?_ (by simp))
          · rw [if_neg (by lia)];exact Int.mul_comm _ _
          · rw [if_pos (by lia),Int.neg_mul,Int.neg_mul,Int.mul_comm]
      rintro σ H4 ⟨lq1,lr1,c,d,o8,rfl,s4,fq1,fr1,nqr1,eq1,er1,hcd,c1,cb,db,d0,cl1⟩
      refine e9 (fun σ H5=>σ=[some (.ref a),some (.ref b),some (.int lead),some (.int (many * c)),some (.ref lq1),some (.ref lr1),some (.int d),some (.int (t:Int)),o8,o9,o10]∧d5 H H5∧H5 lq1=some (.lst (((Qz.map (c * ·)).set t d).map V.int))∧H5 lr1=some (.lst ((Rz.map (c * ·)).map V.int))) (fun N hN=>?_) ?_
      · subst_eqs
        refine ⟨_,eq1,t,aH3 (by rw [List.length_map,List.length_map];exact htq),hN _ _ ⟨rfl,(D.same.trans s4).over fq1 _,?_,?_⟩⟩
        · rw [b8,List.map_set]
        · rw [j0 nqr1.symm];exact er1
      rintro σ H5 ⟨rfl,s5,eq5,er5⟩
      refine e9 (fun σ H6=>∃ o9 o10,σ=[some (.ref a),some (.ref b),some (.int lead),some (.int (many * c)),some (.ref lq1),some (.ref lr1),some (.int d),some (.int (t:Int)),o8,o9,o10]∧d5 H H6∧H6 lq1=some (.lst (((Qz.map (c * ·)).set t d).map V.int))∧H6 lr1=some (.lst ((u0 0 (Rz.map (c * ·)) t (-d) other other.length).map V.int))) (fun N hN=>?_) ?_
      · refine ⟨_,rfl,b,rfl,⟨_,s5.seq hS'⟩,ab5 (other.map V.int) (fun j σ H6=>∃ o9 o10,σ=[some (.ref a),some (.ref b),some (.int lead),some (.int (many * c)),some (.ref lq1),some (.ref lr1),some (.int d),some (.int (t:Int)),o8,o9,o10]∧d5 H H6∧H6 lq1=some (.lst (((Qz.map (c * ·)).set t d).map V.int))∧H6 lr1=some (.lst ((u0 0 (Rz.map (c * ·)) t (-d) other j).map V.int))) ⟨_,_,rfl,s5,eq5,er5⟩ (by rintro j σ H6 ⟨_,_,_,s6,_⟩;exact s6.seq hS') ?_ (by rintro σ H6 ⟨o9,o10,rfl,s6,eq6,er6⟩;rw [List.length_map] at er6;exact hN _ _ ⟨o9,o10,rfl,s6,eq6,er6⟩)⟩
        rintro j x σ H6 p hx ⟨o9,o10,rfl,s6,eq6,er6⟩ hp
        obtain ⟨v,hv,rfl⟩:=G4 hx
        have hj:=(List.getElem?_eq_some_iff.mp hv).1
        have Sp:=d5.new hp (.tup [.int j,.int v])
        have er7:=Sp _ _ er6
        have il:(u0 0 (Rz.map (c * ·)) t (-d) other j).length=Rz.length:=by rw [X6,List.length_map]
        have hk:t+j<(u0 0 (Rz.map (c * ·)) t (-d) other j).length:=by lia
        have hgk:=List.getElem?_eq_getElem hk
        generalize hz:(u0 0 (Rz.map (c * ·)) t (-d) other j)[t+j]=z at hgk
        have ej:(t:Int)+(j:Int)=((t+j:Nat):Int):=by simp
        have dbw:d.natAbs<2 ^ (W1+kst * (W2+1)):=by lia
        have hks:kst≤S:=by rcases D.ks with z | z <;> lia
        have hkm:=Nat.mul_le_mul_right (W2+1) hks
        subst_eqs
        refine ⟨_,SqT.of b8,rfl,_,_,rfl,_,_,rfl,rfl,_,rfl,_,SqL.of er7,.int z,by rw [ej];exact F7 (by rw [List.getElem?_map,hgk];rfl),v,rfl,N6 dbw (hw2 v (List.mem_of_getElem? hv)) (by lia),z,rfl,_,er7,t+j,by rw [ej];exact aH3 (by rw [List.length_map];exact hk),(s6.trans Sp).over fr1 _,?_,?_⟩
        · rw [j0 nqr1];exact Sp _ _ eq6
        · rw [b8,u0,hv,Option.getD_some,←ab7 _ _ _ _ hgk,List.map_set,Int.neg_mul]
          rfl
      rintro σ H6 ⟨o9,o10,rfl,s6,eq6,er6⟩
      subst_eqs
      obtain ⟨R2,hR2⟩:∃ R2,R2=u0 0 (Rz.map (c * ·)) t (-d) other other.length:=⟨_,rfl⟩
      rw [←hR2] at er6
      have l2:R2.length=Rz.length:=by rw [hR2,X6,List.length_map]
      have hRk:∀ k,aZ R2 k=c * aZ Rz k - if t≤k then d * aZ other (k - t) else 0:=fun k=>by
        by_cases hk:k<Rz.length
        · have hy1:(Rz.map (c * ·))[k]? = some (c * aZ Rz k):=by
            rw [List.getElem?_map];unfold aZ
            rw [List.getElem?_eq_getElem hk];rfl
          have:=av5 (Rz.map (c * ·)) t (-d) other _ hy1 other.length
          rw [←hR2] at this
          conv=>lhs;unfold aZ
          rw [this,Option.getD_some]
          by_cases h1:t≤k
          · rw [if_pos ⟨h1,by lia⟩,if_pos h1,Int.neg_mul];rfl
          · rw [if_neg (fun z=>h1 z.1),if_neg h1];simp
        · have e1:aZ R2 k=0:=by unfold aZ;rw [List.getElem?_eq_none (by lia)];rfl
          have e2:aZ Rz k=0:=by unfold aZ;rw [List.getElem?_eq_none (by exact Nat.not_lt.mp ‹_›)];rfl
          have e3:aZ other (k - t)=0:=by unfold aZ;rw [List.getElem?_eq_none (by lia)];rfl
          rw [e1,e2,e3];simp
      have last0:aZ R2 (Rz.length - 1)=0:=by
        rw [hRk,if_pos (by lia),show Rz.length - 1 - t=n by lia,←hlead]
        have:aZ Rz (Rz.length - 1)=y:=by unfold aZ;rw [hy];rfl
        rw [this,hcd];simp
      have hkl:=D.kl
      refine ⟨lr1,R2,rfl,SqL.of er6,by lia,fun m r tm hr'=>?_⟩
      have hmlt:m<Rz.length:=by
        rcases Nat.lt_or_ge m Rz.length with z | z
        · exact z
        · have hm:=tm.le
          have hm':m=Rz.length:=by lia
          have hg2:R2[m - 1]? = some R2[m - 1]:=List.getElem?_eq_getElem (by omega)
          refine absurd ?_ (tm.last (by lia) _ hg2)
          unfold aZ at last0
          rw [←hm',hg2] at last0
          exact last0
      have bits:∀ v∈R2,Int.natAbs v<2 ^ (W1+(kst+1) * (W2+1)):=fun v hv=>by
        obtain ⟨k,hk⟩:=List.mem_iff_getElem?.mp hv
        have ev:v=aZ R2 k:=by unfold aZ;rw [hk];rfl
        rw [ev,hRk]
        have b1:(c * aZ Rz k).natAbs<2 ^ (W1+kst * (W2+1)+W2):=by
          rw [Int.natAbs_mul,Nat.mul_comm,Nat.pow_add]
          exact Nat.mul_lt_mul'' (aa0 D.rb k) cb
        have b2:(if t≤k then d * aZ other (k - t) else 0).natAbs<2 ^ (W1+kst * (W2+1)+W2):=by
          split
          · rw [Int.natAbs_mul,Nat.pow_add]
            exact Nat.mul_lt_mul'' (by lia) (aa0 hw2 _)
          · exact Nat.two_pow_pos _
        have e:W1+(kst+1) * (W2+1)=W1+kst * (W2+1)+W2+1:=by rw [Nat.succ_mul];lia
        rw [e,Nat.pow_succ]
        lia
      have Sr:=d5.new hr' (.lst ((R2.take m).map V.int))
      have tml:(R2.take m).length=m:=by rw [List.length_take];have:=tm.le;lia
      have bq:∀ v∈(Qz.map (c * ·)).set t d,Int.natAbs v<2 ^ (W1+(kst+1) * (W2+1)):=fun v hv=>by
        have e:W1+(kst+1) * (W2+1)=W1+kst * (W2+1)+(W2+1):=by rw [Nat.succ_mul];lia
        rcases List.mem_or_eq_of_mem_set hv with h | h
        · obtain ⟨u,hu,rfl⟩:=List.mem_map.mp h
          rw [Int.natAbs_mul,Nat.mul_comm,e,Nat.pow_add]
          exact Nat.mul_lt_mul'' (D.qb u hu) (B6 cb (by simp))
        · rw [h]
          exact Nat.lt_of_le_of_lt db (B6 yb (by lia))
      refine WhN.mk ⟨kst+1,lq1,r,many * c,_,R2.take m,_,_,_,_,_,rfl,⟨s6.trans Sr,fq1,s6.free hr',g9 eq6 hr',Sr _ _ eq6,b8,?_,?_,bq,fun v hv=>bits v (List.mem_of_mem_take hv),by lia,.inr (by lia),fun z=>absurd z (by simp),tm.self,by rw [List.length_set,List.length_map];exact D.ql,fun i hi=>?_,fun _ v hv=>?_,?_,fun hx=>?_⟩⟩ ?_
      · exact Int.le_trans (show (1:Int)≤1 * 1 by decide) (Int.mul_le_mul D.m1 c1 (by decide) (by have:=D.m1;lia))
      · rw [Int.natAbs_mul,show (kst+1) * W2+1=(kst * W2+1)+W2 by rw [Nat.succ_mul];lia,Nat.pow_add]
        exact Nat.mul_lt_mul'' D.mb cb
      · rw [tml] at hi
        unfold aZ
        rw [List.getElem?_set,if_neg (by lia),List.getElem?_map]
        have:=D.qz i (by lia)
        unfold aZ at this
        cases g:Qz[i]? with
        | none=>rfl
        | some u=>
          rw [g] at this
          simp only [Option.getD_some] at this
          simp [this]
      · rw [List.length_set,List.length_map,List.getElem?_set] at hv
        by_cases z:t=Qz.length - 1
        · rw [if_pos z,if_pos (by rw [List.length_map];omega)] at hv
          cases hv;exact d0
        · rw [if_neg z,List.getElem?_map] at hv
          have hk0:kst≠0:=fun w=>by
            have:=D.k0 w
            have:=D.ql
            lia
          cases g:Qz[Qz.length - 1]? with
          | none=>rw [g] at hv;cases hv
          | some u=>
            rw [g] at hv
            cases hv
            exact Int.mul_ne_zero (by lia) (D.qlast hk0 u g)
      · refine bl4 D.dv htq (D.qz t (by lia)) fun k=>?_
        rw [aI7 tm];exact hRk k
      · have mm:=D.ex hx
        have dv1:=D.dv
        rw [mm] at dv1
        have ey:y=aZ Rz (t+n):=by
          unfold aZ
          rw [show t+n=Rz.length - 1 by lia,hy];rfl
        have cc:=cl1 (by rw [hlead,ey];exact be7 hx dv1 hl2 h0 ht)
        rw [mm,cc];rfl
      · rw [ab3 (r:=r) rfl b8,ab3 (r:=lr) rfl D.er,List.length_map,List.length_map,tml]
        exact hmlt
    · have hlt':Rz.length≤n:=by
        have : ¬ ((n+1:Nat):Int)≤(Rz.length:Int):=by simpa using hlt
        lia
      have hkS:kst≤S:=by rcases D.ks with z | z <;> lia
      refine hN _ _ ⟨lq,lr,many,Qz,Rz,o6,o7,o8,o9,o10,rfl,D.same,D.fq,D.fr,D.nqr,D.eq,D.er,D.m1,Nat.lt_of_lt_of_le D.mb (d6 (by have:=Nat.mul_le_mul_right W2 hkS;lia)),fun v hv=>Nat.lt_of_lt_of_le (D.qb v hv) (d6 (by have:=Nat.mul_le_mul_right (W2+1) hkS;lia)),fun v hv=>Nat.lt_of_lt_of_le (D.rb v hv) (d6 (by have:=Nat.mul_le_mul_right (W2+1) hkS;omega)),hlt',D.rt,D.ql,?_,D.dv,D.ex⟩
      refine ⟨Nat.le_refl _,(fun i v hi h=>by rw [List.getElem?_eq_none hi] at h;cases h),fun hq v hv=>?_⟩
      by_cases z:kst=0
      · have:=D.k0 z
        rw [D.ql] at hq;lia
      · exact D.qlast z v hv
  rintro σ H3 ⟨lq,lr,many,Qz,Rz,o6,o7,o8,o9,o10,rfl,s3,fq,fr,nqr,eq,er,m1,mb,qb,rb,rl,rt,ql,qt,dv,ex⟩
  subst_eqs
  refine ⟨bi7,fun p hp=>?_⟩
  have Sp:=d5.new hp (.tup [.int many,.ref lq,.ref lr])
  exact k p lq lr many Qz Rz _ (s3.trans Sp) fq fr nqr b8 (Sp _ _ eq) (Sp _ _ er) m1 mb qb rb rl rt ql qt dv ex
theorem ao2 {f f1:Addr} (d:Df K mg "whole_divided" v7 ["one","other"] f) (G_trimmed:Def P w K mg base CX0 1 "trimmed" f1 ["wholes"] (aj0 K)) (n_len:mg "len" = none) (n_max:mg "max" = none) (n_list:mg "list" = none) (n_abs:mg "abs" = none) (n_enumerate:mg "enumerate" = none):Def P w K mg base CX0 2 "whole_divided" f ["one","other"] (bw6 K):=
 (ak5 d G_trimmed n_len n_max n_list n_abs n_enumerate).imp (by
  rintro vs H Q E ⟨a,b,one,other,n,S,W1,W2,h1,h2,h3,h4,h5,h6,h7,h8,h9,h10,h11,h12,h13,k⟩
  exact ⟨a,b,one,other,n,S,W1,W2,h1,h2,h3,h4,h5,h6,h7,h8,h9,h10,h11,h12,h13,fun r lq lr many Qz Rz H' x1 x2 x3 x4 x5 x6 x7 x8 x9 x10 x11 x12 x13 x14 x15 x16 _=>k r lq lr many Qz Rz H' x1 x2 x3 x4 x5 x6 x7 x8 x9 x10 x11 x12 x13 x14 x15 x16⟩)
end
theorem bo5 {q:Rat} {n:Nat} (h:q≠0) (b:BdN n q):BdN n q⁻¹:=by
 obtain ⟨e1,e2⟩:=ao7 q (fun z=>h (aa9.mp z))
 constructor
 ·rw [e1]
  split
  ·rw [Int.natAbs_neg,Int.natAbs_natCast];exact b.d
  ·rw [Int.natAbs_natCast];exact b.d
 ·have:(q⁻¹).den=q.num.natAbs:=by split at e2 <;> omega
  rw [this];exact b.n
theorem aQ8 {v:Int} {n:Nat} (h:v.natAbs<2 ^ n) (hn:1≤n):BdN n ((v:Int):Rat):=⟨by rw [Rat.num_intCast];exact h,by rw [Rat.den_intCast];exact Nat.lt_of_lt_of_le (show 1<2 ^ 1 by decide) (d6 hn)⟩
theorem bd8 {n:Nat} (hn:1≤n):BdN n (1:Rat):=⟨Nat.lt_of_lt_of_le (show 1<2 ^ 1 by decide) (d6 hn),Nat.lt_of_lt_of_le (show 1<2 ^ 1 by decide) (d6 hn)⟩
theorem bw2 {ws:List Int} (t:A6 ws ws.length) (h:ws≠[]):∃ v∈ws,v≠0:=by
 have hp:0<ws.length:=List.length_pos_iff.mpr h
 have hg:=List.getElem?_eq_getElem (l:=ws) (show ws.length - 1<ws.length by omega)
 exact ⟨_,List.mem_of_getElem? hg,t.last (by omega) _ hg⟩
section
variable {P:Program} {w:World} {K:PySem.W.Frag} {mg:Str→Option Value} {base:Heap}
def aA4 (K:PySem.W.Frag):Sp:=fun vs H Q _=>∃ (x:V) (s:Rat) (a:Addr) (ws:List Int) (W b:Nat),vs=[x,.ref a]∧Num K H x s∧BdN b s∧s≠0∧SqL K H a (ws.map V.int)∧(∀ v∈ws,Int.natAbs v<2 ^ W)∧1≤W∧b+W≤5999∧ws.length≤100∧A6 ws ws.length ∧
 ∀ r rs l s' ws' H',d5 H H'→H l=none→H' r=some (.tup [.ref rs,.ref l])→SqT K H' rs (t8 s')→H' l=some (.lst (ws'.map V.int))→BdN (b+W+1) s'→s'≠0→(∀ v∈ws',Int.natAbs v<2 ^ W)→ws'.length=ws.length→scl s' ws'=scl s ws→(ws'≠[]→u8 ws'=1)→Q (.ref r) H'
def aA3 (K:PySem.W.Frag):Sp:=fun vs H Q _=>∃ (x:V) (s:Rat) (a:Addr) (ws:List Int) (W b:Nat),vs=[x,.ref a]∧Num K H x s∧BdN b s∧s≠0∧SqL K H a (ws.map V.int)∧(∀ v∈ws,Int.natAbs v<2 ^ W)∧1≤W∧b+W≤5999∧ws.length≤100∧A6 ws ws.length ∧
 ∀ r rs l s' ws' H',d5 H H'→H l=none→H' r=some (.tup [.ref rs,.ref l])→SqT K H' rs (t8 s')→H' l=some (.lst (ws'.map V.int))→BdN (b+W+1) s'→s'≠0→(∀ v∈ws',Int.natAbs v<2 ^ W)→ws'.length=ws.length→scl s' ws'=scl s ws→(ws'≠[]→u8 ws'=1)→(0<s→0<s')→Q (.ref r) H'
abbrev Q7:Stmt:=top 50
theorem aA7:i8 ["scale","wholes","content"] ["scale","wholes"] (d3 Q7):=by and_intros
set_option maxHeartbeats 0 in
theorem au9 {f f1 f2:Addr} (d:Df K mg "formed" Q7 ["scale","wholes"] f) (G_content_of:Def P w K mg base CX0 2 "content_of" f1 ["wholes"] (aa8 K)) (G_times:Def P w K mg base CX0 2 "times" f2 ["one","other"] (aK3 K (· * ·))) {aN:Addr} (c_ONE:mg "ONE" = some (.ref aN)) (tN:∀ H,SqT K H aN (t8 1)):Def P w K mg base CX0 3 "formed" f ["scale","wholes"] (aA3 K):=by
 refine d.ok (N:=["scale","wholes","content"]) aA7 (by rintro vs H Q E ⟨_,_,_,_,_,_,h,_⟩;rw [h];rfl) (fun cdv A outer s H vs Q E hr h=>?_)
 obtain ⟨x,sc,a,ws,W,b,rfl,hx,bs,s0,hS,hW,hW1,hbW,hl,ht,k⟩:=h
 refine ⟨_,(b9 (A0 (G0 (C4 (pv 1) (fun _=>rfl))) (d7 (g8 (j9 (b6 (v4 (v:=.ref _) rfl c_ONE rfl) (b6 (t6 b7) b7))))) m8)
   (b9 (i7 (i:=2) aA7.nd rfl (Or.inr rfl) (d9 G_content_of hr (b6 (pv 1) b7) i5))
   (d7 (g8 (j9 (b6 (d9 G_times hr (b6 (pv 0) (b6 (j9 (b6 (pv 2) (b6 d4 b7))) b7)) i5) (b6 (R6 (Nc:=["content","whole"]) (caps:=[some 2,none]) rfl (Z3.of (osc:=d3 Q7) (N:=["scale","wholes","content"]) (ks:=["content"]) rfl rfl rfl rfl (F8 rfl D3) (by decide +kernel)) (D4 (pv 1)) (fun C s₂ H₂ fp pins=>(e8 (i:=1) (show List.Nodup (["content","whole"]:List Str) by decide +kernel) rfl (Or.inl rfl) (Or.inr rfl))) (fun C s₂ H₂ fp pins=>(g6 C1 (pv 1) (pv 0)))) b7))))))),?_⟩
 rw [show start ["scale","wholes","content"] [x,.ref a]=[some (x),some (.ref a),none] from rfl]
 simp! [aa4]
 refine ⟨_,.inl ⟨_,hS,rfl⟩,t9 (fun h0=>?_) (fun h0=>?_)⟩
 ·have hw0:ws=[]:=by
   cases ws with
   | nil=>rfl
   | cons a l=>simp at h0
  subst hw0
  refine ⟨by decide,fun p hp=>⟨y7,fun p1 hp1=>?_⟩⟩
  have S1:=d5.new hp (.lst [])
  have S2:=d5.new hp1 (.tup [.ref aN,.ref p])
  exact k p1 aN p 1 [] _ (S1.trans S2) hp b8 (tN _) (S2 _ _ b8) (bd8 (by simp)) (by decide) (by simp) rfl rfl (fun z=>absurd rfl z) (fun _=>by decide)
 have hne':ws≠[]:=fun z=>h0 (by rw [z];rfl)
 obtain ⟨v0,hv0,hne⟩:=bw2 ht hne'
 have hc:u8 ws≠0:=aT5 hv0 hne
 have cpos:(0:Int)<(u8 ws:Nat):=by lia
 have cle:u8 ws<2 ^ W:=by
  obtain ⟨e,he⟩:=N7 hv0
  have w1:=hW _ hv0
  rw [he,Int.natAbs_mul,Int.natAbs_natCast] at w1
  have e0:e.natAbs≠0:=fun z=>hne (by rw [he,show e=0 by lia,Int.mul_zero])
  exact Nat.lt_of_le_of_lt (Nat.le_mul_of_pos_right _ (by lia)) w1
 have bc:BdN (W+1) (((u8 ws:Nat):Int):Rat):=aQ8 (by rw [Int.natAbs_natCast];exact B6 cle (by simp)) (by exact Nat.lt_succ_of_lt ‹_›)
 refine ⟨a,ws,rfl,hS,fun v hv=>B6 (hW v hv) (by lia),y7,fun p hp=>?_⟩
 have S1:=d5.new hp (.tup [.int (u8 ws:Nat),.int 1])
 have e1:(upd H p (.tup [.int (u8 ws:Nat),.int 1])) p=some (.tup (t8 (((u8 ws:Nat):Int):Rat))):=by
  rw [b8];unfold t8;rw [Rat.num_intCast,Rat.den_intCast];rfl
 refine ⟨_,_,_,_,rfl,hx.same S1,⟨p,rfl,SqT.of e1⟩,bs.bd6 (by lia),bc.bd6 (by lia),fun rs H2 s2 e2=>?_⟩
 have S2:=S1.trans s2
 refine ⟨⟨_,S2.seq hS⟩,fun D hD=>?_⟩
 refine N2 (ws.map V.int) (fun i σ H3=>∃ o,σ=[some (.int (u8 ws:Nat)),o]∧d5 H2 H3∧H3 D=some (.lst (((ws.take i).map fun v=>v.fdiv (u8 ws:Nat)).map V.int))) ⟨_,rfl,d5.new hD _,b8⟩ (fun i σ H3 _ ⟨_,_,s3,_⟩=>(S2.trans s3).seq hS) ?_ ?_
 ·rintro i y σ H3 hy ⟨o,rfl,s3,e3⟩
  have hi:=(List.getElem?_eq_some_iff.mp hy).1
  obtain ⟨v,hv,rfl⟩:=G4 hy
  subst_eqs
  refine ⟨V5 (by lia) (by rw [Int.natAbs_natCast];exact B6 cle (by lia)),G8.mk hi e3 ?_ ⟨_,rfl,s3.over hD _,?_⟩⟩
  ·simp only [List.length_map,List.length_take]
   exact Nat.lt_of_le_of_lt (show _≤100 by lia) (by decide)
  ·rw [b8,List.take_succ,hv]
   simp
 ·rintro σ H3 ⟨o,rfl,s3,e3⟩
  rw [List.length_map,List.take_length] at e3
  refine ⟨y7,fun r hr'=>?_⟩
  have S4:=d5.new hr' (.tup [.ref rs,.ref D])
  refine k r rs D (sc * (((u8 ws:Nat):Int):Rat)) (ws.map fun v=>v.fdiv (u8 ws:Nat)) _ (S2.trans (s3.trans S4)) (S2.free hD) b8 (SqT.of (S4 _ _ (s3 _ _ e2))) (S4 _ _ e3) ((bs.mul bc).mono (by lia)) ?_ ?_ (by simp) ?_ (fun _=>aB9 hc) (fun hs=>Rat.mul_pos hs (Rat.intCast_pos.mpr cpos))
  ·intro z
   have hz:(((u8 ws:Nat):Int):Rat)≠0:=fun w=>hc (by
    have:=congrArg Rat.num w
    rw [Rat.num_intCast] at this
    have h00:(0:Rat).num=0:=rfl
    lia)
   have:=Rat.mul_inv_cancel _ hz
   generalize (((u8 ws:Nat):Int):Rat)⁻¹=u at this
   generalize (((u8 ws:Nat):Int):Rat)=y at *
   exact s0 (by grind)
  ·intro v hv
   obtain ⟨v',hv',rfl⟩:=List.mem_map.mp hv
   exact ai4 cpos (N7 hv') (hW v' hv')
  ·unfold scl
   rw [List.map_map]
   refine List.map_congr_left fun v hv=>?_
   obtain ⟨e,he⟩:=N7 hv
   have e1:v.fdiv ((u8 ws:Nat):Int)=e:=by
    conv=>lhs;arg 1;rw [he]
    exact j2 (by lia)
   show sc * (((u8 ws:Nat):Int):Rat) * ((v.fdiv ((u8 ws:Nat):Int):Int):Rat)=sc * (v:Rat)
   rw [e1]
   conv=>rhs;rw [he]
   rw [Rat.intCast_mul,Rat.mul_assoc]
theorem aP7 {f f1 f2:Addr} (d:Df K mg "formed" Q7 ["scale","wholes"] f) (G_content_of:Def P w K mg base CX0 2 "content_of" f1 ["wholes"] (aa8 K)) (G_times:Def P w K mg base CX0 2 "times" f2 ["one","other"] (aK3 K (· * ·))) {aN:Addr} (c_ONE:mg "ONE" = some (.ref aN)) (tN:∀ H,SqT K H aN (t8 1)):Def P w K mg base CX0 3 "formed" f ["scale","wholes"] (aA4 K):=
 (au9 d G_content_of G_times c_ONE tN).imp (by
  rintro vs H Q E ⟨x,s,a,ws,W,b,h1,h2,h3,h4,h5,h6,h7,h8,h9,h10,k⟩
  exact ⟨x,s,a,ws,W,b,h1,h2,h3,h4,h5,h6,h7,h8,h9,h10,fun r rs l s' ws' H' a1 a2 a3 a4 a5 a6 a7 a8 a9 b1 b2 _=>k r rs l s' ws' H' a1 a2 a3 a4 a5 a6 a7 a8 a9 b1 b2⟩)
def bm6 (K:PySem.W.Frag) (H:Hp) (r:Addr) (s:Rat) (ws:List Int):Prop:=∃ rs l,SqT K H r [.ref rs,.ref l]∧SqT K H rs (t8 s)∧SqL K H l (ws.map V.int)
abbrev D0:Stmt:=top 53
theorem K4:i8 ["one","other","scale","many","quotient","rest"] ["one","other"] (d3 D0):=by and_intros
end
section
variable {P:Program} {w:World} {K:PySem.W.Frag} {mg:Str→Option Value} {base:Heap}
def bw4 (K:PySem.W.Frag):Sp:=fun vs H Q _=>∃ (a b:Addr) (ps qs:List Int) (W1 W2:Nat),vs=[.ref a,.ref b]∧SqL K H a (ps.map V.int)∧SqL K H b (qs.map V.int)∧ps.length≤20∧qs.length≤20∧(∀ v∈ps,Int.natAbs v<2 ^ W1)∧(∀ v∈qs,Int.natAbs v<2 ^ W2)∧W1+W2≤20000 ∧
 ∀ r H',d5 H H'→H r=none→H' r=some (.lst ((ab0 ps qs).map V.int))→Q (.ref r) H'
abbrev E9:Stmt:=top 44
theorem F9:i8 ["one","other","product","place","whole","further","factor"] ["one","other"] (d3 E9):=by and_intros
set_option maxHeartbeats 0 in
theorem au6 {f:Addr} (d:Df K mg "whole_times" E9 ["one","other"] f) (n_len:mg "len" = none) (n_enumerate:mg "enumerate" = none):Def P w K mg base CX0 1 "whole_times" f ["one","other"] (bw4 K):=by
 refine d.ok (N:=["one","other","product","place","whole","further","factor"]) F9 (fun vs H Q E ⟨a,b,c,e,_,_,h,_⟩=>by rw [h];rfl) (fun cdv A outer s H vs Q E hr h=>?_)
 obtain ⟨a,b,ps,qs,W1,W2,rfl,hS,hS',hl,hl',hp,hq,hW,k⟩:=h
 refine ⟨_,(b9 (A0 (PW.pt (W3 (G0 (C4 (pv 0) (fun _=>rfl))) (V7 (G0 (C4 (pv 1) (fun _=>rfl)))))) (d7 (g8 (t6 b7))) m8)
   (b9 (i7 (i:=2) F9.nd rfl (Or.inl rfl) (g6 au5 (t6 (b6 d4 b7)) (g6 N3 (g6 L7 (d8 i3 rfl n_len (by decide +kernel) (b6 (pv 0) b7)) (d8 i3 rfl n_len (by decide +kernel) (b6 (pv 1) b7))) d4)))
   (b9 (R1 PassesOwn.never rfl (Z8 rfl n_enumerate (b6 (pv 0) b7)) (show PG _ _ (P3 K 2 (p5 (n8 3) (p5 (n8 4) P4))) from by (refine B5 (n:=2) ?_ ?_ ?_ ?_;rfl;(refine g7 ?_ ?_ ?_;(exact (e8 (i:=3) F9.nd rfl (Or.inl rfl)));(refine g7 ?_ ?_ ?_;(exact (e8 (i:=4) F9.nd rfl (Or.inl rfl)));(exact v9);rfl);rfl);rfl;rfl)) (d7 (R1 PassesOwn.never rfl (Z8 rfl n_enumerate (b6 (pv 1) b7)) (show PG _ _ (P3 K 2 (p5 (n8 5) (p5 (n8 6) P4))) from by (refine B5 (n:=2) ?_ ?_ ?_ ?_;rfl;(refine g7 ?_ ?_ ?_;(exact (e8 (i:=5) F9.nd rfl (Or.inl rfl)));(refine g7 ?_ ?_ ?_;(exact (e8 (i:=6) F9.nd rfl (Or.inl rfl)));(exact v9);rfl);rfl);rfl;rfl)) (d7 (aF6 (pv 2) (g6 L7 (pv 3) (pv 5)) av6 (g6 w8 (pv 4) (pv 6)) bf1 Y2)))))
   (d7 (g8 (pv 2)))))),?_⟩
 rw [show start ["one","other","product","place","whole","further","factor"] [.ref a,.ref b]=[some (.ref a),some (.ref b),none,none,none,none,none] from rfl]
 simp! [aa4]
 refine ⟨_,.inl ⟨_,hS,rfl⟩,t9 (fun h0=>⟨by decide,fun p hp=>k p _ (d5.new hp _) hp ?_⟩) (fun h0=>?_)⟩
 ·have:ps=[]:=by cases ps <;> simp_all
  rw [b8,this];simp [ab0]
 refine ⟨_,.inl ⟨_,hS',rfl⟩,t9 (fun h1=>⟨by decide,fun p hp=>k p _ (d5.new hp _) hp ?_⟩) (fun h1=>?_)⟩
 ·have:qs=[]:=by cases qs <;> simp_all
  rw [b8,this];simp [ab0]
 have np:ps≠[]:=fun z=>h0 (by rw [z];rfl)
 have nq:qs≠[]:=fun z=>h1 (by rw [z];rfl)
 refine ⟨bb4,fun p hp0=>⟨_,.inl ((d5.new hp0 _).seq hS),_,.inl ((d5.new hp0 _).seq hS'),_,b8,?_,?_,?_,fun p1 hp1=>?_⟩⟩
 ·simp only [List.length_map];lia
 ·simp only [List.length_map];lia
 ·simp only [List.length_map,List.length_cons,List.length_nil]
  exact Nat.le_trans (show _≤40 by lia) (by decide)
 have hz:(List.replicate (((ps.map V.int).length:Int)+((qs.map V.int).length:Int) - 1).toNat [V.int 0]).flatten=(List.replicate (ps.length+qs.length - 1) (0:Int)).map V.int:=by
  have e:(((ps.map V.int).length:Int)+((qs.map V.int).length:Int) - 1).toNat=ps.length+qs.length - 1:=by simp only [List.length_map];lia
  rw [e,List.map_replicate,List.flatten_replicate_singleton]
 rw [hz]
 have hp1':H p1=none:=aM0 hp1
 have S0:d5 H (upd (upd H p (.lst [.int 0])) p1 (.lst ((List.replicate (ps.length+qs.length - 1) (0:Int)).map V.int))):=(d5.new hp0 _).trans (d5.new hp1 _)
 refine ⟨_,rfl,a,rfl,⟨_,S0.seq hS⟩,ab5 (ps.map V.int) (fun i σ H2=>∃ o3 o4 o5 o6,σ=[some (.ref a),some (.ref b),some (.ref p1),o3,o4,o5,o6]∧d5 H H2∧H2 p1=some (.lst ((y9 0 (List.replicate (ps.length+qs.length - 1) (0:Int)) ps qs i).map V.int)))
  ⟨_,_,_,_,rfl,S0,b8⟩ (fun i σ H2 ⟨_,_,_,_,_,s2,_⟩=>s2.seq hS) ?_ ?_⟩
 ·rintro i x σ H2 r hx ⟨o3,o4,o5,o6,rfl,s2,e2⟩ hr
  obtain ⟨v,hv,rfl⟩:=G4 hx
  have hi:=(List.getElem?_eq_some_iff.mp hv).1
  have S3:=s2.trans (d5.new hr (.tup [.int i,.int v]))
  have e3:=d5.new hr (.tup [.int i,.int v]) _ _ e2
  refine ⟨_,_,rfl,SqT.of b8,rfl,_,_,rfl,_,_,rfl,rfl,?_⟩
  refine ⟨_,rfl,b,rfl,⟨_,S3.seq hS'⟩,ab5 (qs.map V.int) (fun j σ H4=>∃ o5 o6,σ=[some (.ref a),some (.ref b),some (.ref p1),some (.int i),some (.int v),o5,o6]∧d5 H H4∧H4 p1=some (.lst ((u0 0 (y9 0 (List.replicate (ps.length+qs.length - 1) (0:Int)) ps qs i) i v qs j).map V.int)))
   ⟨_,_,rfl,S3,e3⟩ (fun i σ H2 ⟨_,_,_,s2,_⟩=>s2.seq hS') ?_ ?_⟩
  ·rintro j y σ H4 t hy ⟨o5,o6,rfl,s4,e4⟩ ht
   obtain ⟨u,hu,rfl⟩:=G4 hy
   have hj:=(List.getElem?_eq_some_iff.mp hu).1
   have e5:=d5.new ht (.tup [.int j,.int u]) _ _ e4
   subst_eqs
   have hF:i+j<(u0 0 (y9 0 (List.replicate (ps.length+qs.length - 1) (0:Int)) ps qs i) i v qs j).length:=by
    rw [X6,W9,List.length_replicate];lia
   have ec:(i:Int)+(j:Int)=((i+j:Nat):Int):=by simp
   have eg:=List.getElem?_eq_getElem hF
   refine ⟨_,SqT.of b8,rfl,_,_,rfl,_,_,rfl,rfl,_,rfl,_,SqL.of e5,_,(by rw [ec];exact F7 (by rw [List.getElem?_map,eg];rfl)),_,rfl,N6 (hp v (List.mem_of_getElem? hv)) (hq u (List.mem_of_getElem? hu)) (by lia),_,rfl,_,e5,i+j,?_,(s4.trans (d5.new ht _)).over hp1' _,?_⟩
   ·rw [ec,List.length_map]
    unfold ixN
    rw [if_pos (by lia),if_pos (by lia)]
    rfl
   ·rw [b8,←List.map_set,ab7 _ _ _ _ eg,u0,hu]
    rfl
  ·rintro σ H4 ⟨o5,o6,rfl,s4,e4⟩
   refine ⟨_,_,_,_,rfl,s4,?_⟩
   rw [List.length_map] at e4
   rw [e4,y9,hv]
   rfl
 ·rintro σ H2 ⟨o3,o4,o5,o6,rfl,s2,e2⟩
  refine ⟨_,rfl,k p1 H2 s2 hp1' ?_⟩
  rw [List.length_map] at e2
  rw [e2,ab0,if_neg (by simp [np,nq])]
end
section
variable {P:Program} {w:World} {K:PySem.W.Frag} {mg:Str→Option Value} {base:Heap}
def az9 (K:PySem.W.Frag):Sp:=fun vs H Q _=>∃ (c:Int) (a:Addr) (ws:List Int) (m m2:Nat),vs=[.int c,.ref a]∧SqL K H a (ws.map V.int)∧ws.length≤40∧c.natAbs<2 ^ m2∧(∀ v∈ws,Int.natAbs v<2 ^ m)∧m+m2≤20000 ∧
 ∀ r zs H',d5 H H'→H r=none→H' r=some (.lst (zs.map V.int))→A6 zs zs.length→zs.length≤ws.length→(∀ k,aZ zs k=c * aZ ws k)→Q (.ref r) H'
abbrev B9:Stmt:=top 42
theorem aq8:i8 ["factor","wholes"] ["factor","wholes"] (d3 B9):=by and_intros
set_option maxHeartbeats 0 in
theorem ar1 {f f1:Addr} (d:Df K mg "whole_scaled" B9 ["factor","wholes"] f) (G_trimmed:Def P w K mg base CX0 1 "trimmed" f1 ["wholes"] (aj0 K)):Def P w K mg base CX0 2 "whole_scaled" f ["factor","wholes"] (az9 K):=by
 refine d.ok (N:=["factor","wholes"]) aq8 (by rintro vs H Q E ⟨_,_,_,_,_,h,_⟩;rw [h];rfl) (fun cdv A outer s H vs Q E hr h=>?_)
 obtain ⟨c,a,ws,m,m2,rfl,hS,hl,hc,hw,hm,k⟩:=h
 refine ⟨_,(d7 (g8 (d9 G_trimmed hr (b6 (R6 (Nc:=["factor","whole"]) (caps:=[some 0,none]) rfl (Z3.of (osc:=d3 B9) (N:=["factor","wholes"]) (ks:=["factor"]) rfl rfl rfl rfl (F8 rfl D3) (by decide +kernel)) (D4 (pv 1)) (fun C s₂ H₂ fp pins=>(e8 (i:=1) (show List.Nodup (["factor","whole"]:List Str) by decide +kernel) rfl (Or.inl rfl) (Or.inr rfl))) (fun C s₂ H₂ fp pins=>(g6 w8 (pv 0) (pv 1)))) b7) i5))),?_⟩
 rw [show start ["factor","wholes"] [.int c,.ref a]=[some (.int c),some (.ref a)] from rfl]
 subst_eqs
 refine ⟨⟨_,hS⟩,fun D hD=>?_⟩
 refine N2 (ws.map V.int) (fun i σ H3=>∃ o,σ=[some (.int c),o]∧d5 H H3∧H3 D=some (.lst (((ws.take i).map (c * ·)).map V.int))) ⟨_,rfl,d5.new hD _,b8⟩ (fun i σ H3 _ ⟨_,_,s3,_⟩=>s3.seq hS) ?_ ?_
 ·rintro i y σ H3 hy ⟨o,rfl,s3,e3⟩
  have hi:=(List.getElem?_eq_some_iff.mp hy).1
  obtain ⟨v,hv,rfl⟩:=G4 hy
  subst_eqs
  refine ⟨N6 hc (hw v (List.mem_of_getElem? hv)) (by lia),G8.mk hi e3 ?_ ⟨_,rfl,s3.over hD _,?_⟩⟩
  ·simp only [List.length_map,List.length_take]
   exact Nat.lt_of_le_of_lt (show _≤100 by lia) (by decide)
  ·rw [b8,List.take_succ,hv]
   simp
 ·rintro σ H3 ⟨o,rfl,s3,e3⟩
  rw [List.length_map,List.take_length] at e3
  refine ⟨D,ws.map (c * ·),rfl,SqL.of e3,by rw [List.length_map];lia,fun n r tn hr'=>?_⟩
  refine k r ((ws.map (c * ·)).take n) _ (s3.trans (d5.new hr' _)) (s3.free hr') b8 tn.self (by rw [List.length_take,List.length_map];lia) fun k=>?_
  rw [aI7 tn]
  unfold aZ
  rw [List.getElem?_map]
  cases ws[k]? with
  | none=>simp
  | some v=>simp
def ba6 (K:PySem.W.Frag):Sp:=fun vs H Q _=>∃ (a b:Addr) (ps qs:List Int),vs=[.ref a,.ref b]∧SqL K H a (ps.map V.int)∧SqL K H b (qs.map V.int)∧ps.length≤40∧qs.length≤40 ∧
 ∀ r zs H',d5 H H'→H r=none→H' r=some (.lst (zs.map V.int))→A6 zs zs.length→zs.length≤max ps.length qs.length→(∀ k,aZ zs k=aZ ps k+aZ qs k)→Q (.ref r) H'
def ar8 (f:List Int) (q:List Int):Nat→List Int
 | 0=>f
 | j+1=>N9 (ar8 f q j) j (aZ q j)
theorem ae8 (f q:List Int):∀ j,(ar8 f q j).length=f.length
 | 0=>rfl
 | j+1=>by rw [ar8,ap2,ae8 f q j]
theorem aN3 (f q:List Int) {k:Nat} (y:Int) (hy:f[k]? = some y):∀ j,(ar8 f q j)[k]? = some (y+if k<j then aZ q k else 0)
 | 0=>by rw [ar8,hy,if_neg (by omega)];congr 1;omega
 | j+1=>by
  have ih:=aN3 f q y hy j
  rw [ar8]
  by_cases e:k=j
  ·subst e
   rw [Z1 _ _ _ _ ih,if_neg (by simp),if_pos (by omega)]
   congr 1;simp
  ·rw [V6 _ _ _ _ e,ih]
   by_cases h:k<j
   ·rw [if_pos h,if_pos (by omega)]
   ·rw [if_neg h,if_neg (by lia)]
theorem bm1 {f q:List Int} (h:q.length≤f.length) (k:Nat):aZ (ar8 f q q.length) k=aZ f k+aZ q k:=by
 by_cases hk:k<f.length
 ·have hg:=List.getElem?_eq_getElem hk
  have:=aN3 f q _ hg q.length
  unfold aZ
  rw [this,hg]
  simp only [Option.getD_some]
  by_cases h2:k<q.length
  ·rw [if_pos h2];rfl
  ·rw [if_neg h2,List.getElem?_eq_none (by exact Nat.not_lt.mp ‹_›)];rfl
 ·unfold aZ
  rw [List.getElem?_eq_none (by rw [ae8];exact Nat.not_lt.mp ‹_›),List.getElem?_eq_none (by omega),List.getElem?_eq_none (by lia)];rfl
abbrev M0:Stmt:=top 41
theorem Q4:i8 ["one","other","total","place","whole"] ["one","other"] (d3 M0):=by and_intros
set_option maxHeartbeats 0 in
theorem aG0 {f f1:Addr} (d:Df K mg "whole_sum" M0 ["one","other"] f) (G_trimmed:Def P w K mg base CX0 1 "trimmed" f1 ["wholes"] (aj0 K)) (n_len:mg "len" = none) (n_list:mg "list" = none) (n_enumerate:mg "enumerate" = none):Def P w K mg base CX0 2 "whole_sum" f ["one","other"] (ba6 K):=by
 refine d.ok (N:=["one","other","total","place","whole"]) Q4 (by rintro vs H Q E ⟨_,_,_,_,h,_⟩;rw [h];rfl) (fun cdv A outer s H vs Q E hr h=>?_)
 obtain ⟨a0,b0,ps0,qs0,rfl,hS0,hS0',hl0,hl0',k0⟩:=h
 refine ⟨_,(b9 (A0 (j3 ad0 (d8 i3 rfl n_len (by decide +kernel) (b6 (pv 0) b7)) (d8 i3 rfl n_len (by decide +kernel) (b6 (pv 1) b7)) (j6 _)) (d7 (V8 (i:=0) (j:=1) rfl Q4.nd rfl rfl (by decide) rfl rfl (b6 (pv 1) (b6 (pv 0) b7)) rfl)) m8)
   (b9 (i7 (i:=2) Q4.nd rfl (Or.inl rfl) (G3 E8 rfl n_list (by decide +kernel) (b6 (pv 0) b7)))
   (b9 (R1 PassesOwn.never rfl (Z8 rfl n_enumerate (b6 (pv 1) b7)) (show PG _ _ (P3 K 2 (p5 (n8 3) (p5 (n8 4) P4))) from by (refine B5 (n:=2) ?_ ?_ ?_ ?_;rfl;(refine g7 ?_ ?_ ?_;(exact (e8 (i:=3) Q4.nd rfl (Or.inl rfl)));(refine g7 ?_ ?_ ?_;(exact (e8 (i:=4) Q4.nd rfl (Or.inl rfl)));(exact v9);rfl);rfl);rfl;rfl)) (d7 (aF6 (pv 2) (pv 3) av6 (pv 4) bf1 Y2)))
   (d7 (g8 (d9 G_trimmed hr (b6 (pv 2) b7) i5)))))),?_⟩
 rw [show start ["one","other","total","place","whole"] [.ref a0,.ref b0]=[some (.ref a0),some (.ref b0),none,none,none] from rfl]
 refine e9 (fun σ H1=>∃ a b ps qs,σ=[some (.ref a),some (.ref b),none,none,none]∧H=H1∧SqL K H a (ps.map V.int)∧SqL K H b (qs.map V.int)∧ps.length≤40∧qs.length≤ps.length∧ps.length≤max ps0.length qs0.length∧(∀ k,aZ ps k+aZ qs k=aZ ps0 k+aZ qs0 k)) (fun N hN=>?_) ?_
 ·subst_eqs
  refine ⟨_,.inl hS0,_,.inl hS0',t9 (fun h=>?_) (fun h=>?_)⟩
  ·rw [List.length_map,List.length_map] at h
   exact hN _ _ ⟨b0,a0,qs0,ps0,rfl,rfl,hS0',hS0,hl0',by omega,by lia,fun k=>Int.add_comm _ _⟩
  ·rw [List.length_map,List.length_map] at h
   exact hN _ _ ⟨a0,b0,ps0,qs0,rfl,rfl,hS0,hS0',hl0,by omega,by lia,fun k=>rfl⟩
 rintro σ H1 ⟨a,b,ps,qs,rfl,rfl,hS,hS',hl,hle,hmx,hsum⟩
 refine e9 (fun σ H1=>∃ l,σ=[some (.ref a),some (.ref b),some (.ref l),none,none]∧d5 H H1∧H l=none∧H1 l=some (.lst (ps.map V.int))) (fun N hN=>?_) ?_
 ·subst_eqs
  exact ⟨_,.inl hS,fun l hl=>hN _ _ ⟨l,rfl,d5.new hl _,hl,b8⟩⟩
 rintro σ H1 ⟨l,rfl,s1,fl,el⟩
 refine e9 (fun σ H2=>∃ o3 o4,σ=[some (.ref a),some (.ref b),some (.ref l),o3,o4]∧d5 H H2∧H2 l=some (.lst ((ar8 ps qs qs.length).map V.int))) (fun N hN=>?_) ?_
 ·refine ⟨_,rfl,b,rfl,⟨_,s1.seq hS'⟩,ab5 (qs.map V.int) (fun j σ H2=>∃ o3 o4,σ=[some (.ref a),some (.ref b),some (.ref l),o3,o4]∧d5 H H2∧H2 l=some (.lst ((ar8 ps qs j).map V.int))) ⟨_,_,rfl,s1,el⟩ (by rintro j σ H2 ⟨_,_,_,s2,_⟩;exact s2.seq hS') ?_ (by rintro σ H2 ⟨o3,o4,rfl,s2,e2⟩;rw [List.length_map] at e2;exact hN _ _ ⟨o3,o4,rfl,s2,e2⟩)⟩
  rintro j x σ H2 p hx ⟨o3,o4,rfl,s2,e2⟩ hp
  obtain ⟨v,hv,rfl⟩:=G4 hx
  have hj:=(List.getElem?_eq_some_iff.mp hv).1
  have Sp:=d5.new hp (.tup [.int j,.int v])
  have e3:=Sp _ _ e2
  have hk:j<(ar8 ps qs j).length:=by rw [ae8];exact Nat.lt_of_lt_of_le ‹_› ‹_›
  have hg:=List.getElem?_eq_getElem hk
  generalize (ar8 ps qs j)[j]=z at hg
  subst_eqs
  refine ⟨_,SqT.of b8,rfl,_,_,rfl,_,_,rfl,rfl,_,_,rfl,SqL.of e3,.int z,F7 (by rw [List.getElem?_map,hg];rfl),z,rfl,v,rfl,_,_,rfl,e3,j,aH3 (by rw [List.length_map];exact hk),(s2.trans Sp).over fl _,?_⟩
  have hv':aZ qs j=v:=by unfold aZ;rw [hv];rfl
  rw [b8,ar8,hv',←ab7 _ _ _ _ hg,List.map_set]
 rintro σ H2 ⟨o3,o4,rfl,s2,e2⟩
 subst_eqs
 refine ⟨l,_,rfl,SqL.of e2,by rw [ae8];lia,fun m r tm hr'=>?_⟩
 refine k0 r _ _ (s2.trans (d5.new hr' _)) (s2.free hr') b8 tm.self (by rw [List.length_take,ae8];lia) fun k=>?_
 rw [aI7 tm,bm1 hle,hsum]
end
theorem aY9 (a b:List Int):zp (ab0 a b)=zp a * zp b:=Pf.ext fun k=>by
 show zc (ab0 a b) k=cv (zc a) (zc b) k
 rw [aZ0 (ab0 a b),aZ0 a,aZ0 b,←aU7,←aS7]
 have:(1:Rat) * 1=1:=by decide +kernel
 rw [this]
theorem aS8 {f:Nat→Int} {n C:Nat} (h:∀ i,n≤i→f i=0) (hc:∀ i,(f i).natAbs≤C):∀ m,(sZ f m).natAbs≤n * C
 | 0=>by simp [sZ]
 | m+1=>by
  by_cases z:m+1≤n
  ·exact Nat.le_trans (bn7 (n:=m+1) fun i _=>hc i) (Nat.mul_le_mul_right _ z)
  ·rw [sZ,h m (by exact Nat.not_lt.mp ‹_›),Int.add_zero]
   exact aS8 h hc m
theorem bl9 (f g:Nat→Int) (k:Nat):cv (fun i=>(f i:Rat)) (fun i=>(g i:Rat)) k=((sZ (fun i=>f i * g (k - i)) (k+1):Int):Rat):=by
 unfold cv
 rw [aU6]
 exact p7 fun i _=>by rw [Rat.intCast_mul]
theorem bu8 {f g:Nat→Int} {n a b:Nat} (hn:n≤32) (hf:∀ i,n≤i→f i=0) (ha:∀ i,(f i).natAbs<2 ^ a) (hb:∀ i,(g i).natAbs<2 ^ b) (k m:Nat):(sZ (fun i=>f i * g (k - i)) m).natAbs<2 ^ (a+b+5):=by
 have h1:=aS8 (f:=fun i=>f i * g (k - i)) (n:=n) (C:=2 ^ a * 2 ^ b - 1) (fun i hi=>by
  show f i * g (k - i)=0
  rw [hf i hi,Int.zero_mul]) (fun i=>by
   show (f i * g (k - i)).natAbs≤_
   rw [Int.natAbs_mul]
   have:=Nat.mul_lt_mul'' (ha i) (hb (k - i))
   omega) m
 have p:0<2 ^ a * 2 ^ b:=Nat.mul_pos (Nat.two_pow_pos _) (Nat.two_pow_pos _)
 have h2:n * (2 ^ a * 2 ^ b - 1)≤32 * (2 ^ a * 2 ^ b - 1):=Nat.mul_le_mul_right _ hn
 rw [Nat.pow_add,Nat.pow_add]
 have e:(2:Nat) ^ 5=32:=by decide
 rw [e]
 lia
theorem bk4 {p q:List Int} {a b:Nat} (hl:p.length≤32) (hp:∀ k,(aZ p k).natAbs<2 ^ a) (hq:∀ k,(aZ q k).natAbs<2 ^ b) (k:Nat):(aZ (ab0 p q) k).natAbs<2 ^ (a+b+5):=by
 have h:aZ (ab0 p q) k=sZ (fun i=>aZ p i * aZ q (k - i)) (k+1):=Rat.intCast_inj.mp (by
  rw [←bl9]
  exact congrArg (fun z=>Pf.f z k) (aY9 p q))
 rw [h]
 exact bu8 hl (fun i hi=>by unfold aZ;rw [List.getElem?_eq_none hi];rfl) hp hq k _
theorem aW3 {p q:List Int}:(ab0 p q).length≤p.length+q.length:=by
 unfold ab0
 split
 ·simp
 ·rw [W9,List.length_replicate];simp
def fz (v:Nat→Int):Pf:=⟨fun k=>(v k:Rat)⟩
theorem ag0 {z:Int} (h:z≠0):(z:Rat)≠0:=fun w=>h (Rat.intCast_inj.mp (by rw [w,Rat.intCast_zero]))
def wL (c L la:Nat):Nat:=c * (2 * (L+1 - la))
structure LC (P0 Q0:List Int) (K c L:Nat):Prop where
 tP:A6 P0 P0.length
 tQ:A6 Q0 Q0.length
 lp:P0.length≤L
 lq:Q0.length≤L
 kP:∀ k,(aZ P0 k).natAbs≤K
 kQ:∀ k,(aZ Q0 k).natAbs≤K
 k1:1≤K
 l1:1≤L
 hc:4 * L * K≤2 ^ c
structure LS (P0 Q0:List Int) (c L w:Nat) (A Fa B Fb:List Int) (ha hb:Pf):Prop where
 ev:Ev (zp P0) (zp Q0) (zp A) (zp B) (zp Fa) ha (zp Fb) hb P0.length Q0.length A.length B.length
 tA:A6 A A.length
 tB:A6 B B.length
 lA:A.length≤L
 lB:B.length≤L
 st:(A=P0∧B=Q0∧Fa=[1]∧Fb=[]∧ha=0∧hb=1∧w=c)∨(B.length<A.length∧A.length≤Q0.length∧w=wL c L A.length)
 bA:∀ k,(aZ A k).natAbs<2 ^ w
 bFa:∀ k,(aZ Fa k).natAbs<2 ^ w
 bB:B≠[]→∀ k,(aZ B k).natAbs<2 ^ w
 bFb:B≠[]→∀ k,(aZ Fb k).natAbs<2 ^ w
 hA:∀ k (z:Int),ha.f k=(z:Rat)→z.natAbs<2 ^ w
 hB:B≠[]→∀ k (z:Int),hb.f k=(z:Rat)→z.natAbs<2 ^ w
 dA:∃ n,Dg ha.f n
 dB:∃ n,Dg hb.f n
 lFa:Fa.length≤max 1 (Q0.length+1 - A.length)
 lFb:Fb.length≤Q0.length+1 - A.length
 tFa:A6 Fa Fa.length
 tFb:A6 Fb Fb.length
theorem bo9:A6 [] ([]:List Int).length:=⟨Nat.le_refl _,(fun i v hi e=>by cases e),fun h=>absurd rfl h⟩
structure LRes (P0 Q0 A F:List Int) (w L c:Nat):Prop where
 tA:A6 A A.length
 nA:A≠[]
 lA:A.length≤L
 lF:F.length≤L
 lF2:F.length≤max 1 (Q0.length+1 - A.length)
 tF:A6 F F.length
 bA:∀ k,(aZ A k).natAbs<2 ^ w
 bF:∀ k,(aZ F k).natAbs<2 ^ w
 bA2:∀ k,(aZ A k).natAbs<2 ^ wL c L A.length
 idA:∃ h:Pf,(∃ n,Dg h.f n)∧zp A=zp F * zp P0+h * zp Q0∧∀ k (z:Int),h.f k=(z:Rat)→z.natAbs<2 ^ w
 p1:∃ (κ:Rat) (v:Nat→Int),(∃ n,∀ k,n≤k→v k=0)∧zp P0=v6 κ * (fz v * zp A)∧(∀ k,(v k).natAbs<2 ^ wL c L A.length)∧κ.num.natAbs<2 ^ c∧κ.den<2 ^ (wL c L A.length+wL c L A.length)
 q1:∃ (κ:Rat) (v:Nat→Int),(∃ n,∀ k,n≤k→v k=0)∧zp Q0=v6 κ * (fz v * zp A)∧(∀ k,(v k).natAbs<2 ^ wL c L A.length)∧κ.num.natAbs<2 ^ c∧κ.den<2 ^ (wL c L A.length+wL c L A.length)
 q0:Q0=[]→A=P0∧F=[1]
theorem aB2 {qs:List Rat} {s:Rat} {ws:List Int} {W:Nat} (e:qs=scl s ws) (hg:u8 ws=1) (s0:s≠0) (c:ClN W qs):BdN W s∧∀ v∈ws,Int.natAbs v<2 ^ W:=by
 obtain ⟨D,hD⟩:∃ D,D=m5 qs:=⟨_,rfl⟩
 have Dp:0<D:=by rw [hD];exact C2 qs
 have DR:((D:Int):Rat)≠0:=ag0 (by lia)
 have eZ:∀ k,((aZ (j1 D qs) k:Int):Rat)=(((D:Int):Rat) * s) * zc ws k:=fun k=>by
  have h1:=bi8 qs
  rw [←hD] at h1
  have h2:=congrArg (fun l=>aQ l k) (h1.trans e)
  have h3:aQ (scl (Rat.divInt 1 D) (j1 D qs)) k=aQ (scl s ws) k:=h2
  rw [ai5,ai5] at h3
  have h4:Rat.divInt 1 (D:Int) * ((D:Int):Rat)=1:=by
   rw [Rat.divInt_eq_div,Rat.div_def,show ((1:Int):Rat)=1 from rfl]
   have:=Rat.mul_inv_cancel _ DR
   generalize ((D:Int):Rat)⁻¹=y at *
   grind
  have h5:Rat.divInt 1 (D:Int) * (aZ (j1 D qs) k:Rat)=s * (aZ ws k:Rat):=h3
  unfold zc
  generalize Rat.divInt 1 (D:Int)=y at *
  generalize ((D:Int):Rat)=d at *
  grind
 obtain ⟨g,hgz⟩:=bc8 hg eZ
 have gR:(g:Rat)≠0:=fun z=>by
  rw [←hgz] at z
  rcases Rat.mul_eq_zero.mp z with z | z
  ·exact DR z
  ·exact s0 z
 have bw:∀ k,(aZ (j1 D qs) k).natAbs<2 ^ W:=aa0 (by rw [hD];exact c.w)
 have small:∀ k,(aZ ws k).natAbs≤(aZ (j1 D qs) k).natAbs:=fun k=>bt8 gR (by rw [eZ k,hgz];rfl)
 refine ⟨?_,aR8 fun k=>Nat.lt_of_le_of_lt (small k) (bw k)⟩
 have es:s=Rat.divInt g D:=by
  rw [Rat.divInt_eq_div,Rat.div_def,←hgz]
  have:=Rat.mul_inv_cancel _ DR
  generalize ((D:Int):Rat)⁻¹=y at *
  generalize ((D:Int):Rat)=d at *
  grind
 have le:=K7 (t:=g) (b:=(D:Int)) (by omega)
 rw [←es,Int.natAbs_natCast] at le
 refine ⟨Nat.lt_of_le_of_lt le.1 ?_,Nat.lt_of_le_of_lt le.2 (by rw [hD];exact c.l)⟩
 obtain ⟨k,hk⟩:∃ k,aZ ws k≠0:=by
  refine Classical.byContradiction fun z=>?_
  have all:∀ v∈ws,v=0:=fun v hv=>by
   obtain ⟨k,hk,ek⟩:=List.getElem_of_mem hv
   refine Classical.byContradiction fun h=>z ⟨k,?_⟩
   unfold aZ;rw [List.getElem?_eq_getElem hk,ek];exact h
  have:0 ∣ u8 ws:=aw2 _ 0 (Nat.dvd_zero _) fun v hv=>by rw [all v hv];exact Int.dvd_zero _
  rw [hg] at this
  exact absurd (Nat.eq_zero_of_zero_dvd this) (by decide)
 have e2:aZ (j1 D qs) k=g * aZ ws k:=Rat.intCast_inj.mp (by rw [eZ k,hgz,Rat.intCast_mul];rfl)
 have:=bw k
 rw [e2,Int.natAbs_mul] at this
 exact Nat.lt_of_le_of_lt (Nat.le_mul_of_pos_right _ (by lia)) this
def OvP (B W:Nat) (p:Pf):Prop:=∀ k,OvB B W (p.f k)
theorem OvP.mono {B V W:Nat} {p:Pf} (h:OvP B V p) (l:V≤W):OvP B W p:=fun k=>(h k).mono l
theorem OvP.mul {B C V W n:Nat} (hB:0<B) (hC:0<C) {p q:Pf} (hp:OvP B V p) (hq:OvP C W q) (dp:Dg p.f n):OvP (B * C) (V+W+n) (p * q):=fun k=>by
 have e:(p * q).f k=j7 (fun i=>p.f i * if i≤k then q.f (k - i) else 0) n:=bl8 dp q.f k
 rw [e]
 refine aT0 (Nat.mul_pos hB hC) (fun i=>?_) n
 split
 ·exact (hp i).mul (hq _)
 ·have:p.f i * 0=0:=by grind
  rw [this];exact OvB.zero _ _
theorem OvP.add {B W:Nat} (hB:0<B) {p q:Pf} (hp:OvP B W p) (hq:OvP B W q):OvP B (W+1) (p+q):=fun k=>(hp k).add hB (hq k)
theorem OvP.up {B W:Nat} {p:Pf} (h:OvP B W p) (hB:0<B) {C c:Nat} (hC:0<C) (hc:C<2 ^ c):OvP (B * C) (W+c) p:=fun k=>(h k).up hB hC hc
def qp (l:List Rat):Pf:=⟨aQ l⟩
theorem T9 (s:Rat) (ws:List Int):qp (scl s ws)=v6 s * zp ws:=Pf.ext fun k=>by
 rw [ax9]
 show aQ (scl s ws) k=s * zc ws k
 rw [ai5];rfl
theorem bq9 (p q:List Rat):qp (R9 p q)=qp p * qp q:=Pf.ext fun k=>aU7 p q k
theorem bc5 (p q:List Rat):qp (ac7 p q)=qp p+qp q:=Pf.ext fun k=>bm3 p q k
theorem aB0 (l:List Rat):Dg (qp l).f l.length:=fun k hk=>by
 show aQ l k=0
 unfold aQ;rw [List.getElem?_eq_none hk];rfl
theorem bq8:qp []=0:=Pf.ext fun k=>by rw [W5];rfl
theorem bc4 {B W:Nat} {l:List Rat} (h:∀ x∈l,OvB B W x):OvP B W (qp l):=fun k=>by
 show OvB B W (aQ l k)
 unfold aQ
 cases hk:l[k]? with
 | none=>exact OvB.zero _ _
 | some x=>exact h x (List.mem_of_getElem? hk)
theorem Y5 {B W:Nat} {l:List Rat} (h:OvP B W (qp l)):∀ x∈l,OvB B W x:=fun x hx=>by
 obtain ⟨k,hk,e⟩:=List.getElem_of_mem hx
 have:=h k
 have e2:(qp l).f k=x:=by
  show aQ l k=x
  unfold aQ;rw [List.getElem?_eq_getElem hk,e];rfl
 rw [e2] at this;exact this
def fld (M:List (List Rat)) (last:List Rat):Nat→Pf × Pf
 | 0=>(qp last,0)
 | n+1=>(qp ((M[M.length - 1 - n]?).getD []) * (fld M last n).1+(fld M last n).2,(fld M last n).1)
def Fm (K:PySem.W.Frag) (H:Hp) (v:V) (s:Rat) (ws:List Int):Prop:=∃ r rs l,v = .ref r∧SqT K H r [.ref rs,.ref l]∧SqT K H rs (t8 s)∧SqL K H l (ws.map V.int)
theorem Fm.same {K:PySem.W.Frag} {H H':Hp} {v:V} {s:Rat} {ws:List Int} (e:d5 H H'):Fm K H v s ws→Fm K H' v s ws
 | ⟨r,rs,l,h0,h1,h2,h3⟩=>⟨r,rs,l,h0,e.tup h1,e.tup h2,e.seq h3⟩
section
variable {P:Program} {w:World} {K:PySem.W.Frag} {mg:Str→Option Value} {base:Heap}
def aK2 (K:PySem.W.Frag):Sp:=fun vs H Q _=>∃ (x y:V) (s t:Rat) (ps qs:List Int) (W:Nat),vs=[x,y]∧Fm K H x s ps∧Fm K H y t qs∧BdN W s∧BdN W t∧(∀ v∈ps,Int.natAbs v<2 ^ W)∧(∀ v∈qs,Int.natAbs v<2 ^ W)∧W≤2000∧ps.length≤20∧qs.length≤20 ∧
 ∀ r H',d5 H H'→Fm K H' (.ref r) (s * t) (ab0 ps qs)→Q (.ref r) H'
abbrev J1:Stmt:=top 52
theorem ax6:i8 ["one","other"] ["one","other"] (d3 J1):=by and_intros
set_option maxHeartbeats 0 in
theorem ay3 {f ft fw:Addr} (d:Df K mg "form_times" J1 ["one","other"] f) (G_times:Def P w K mg base CX0 2 "times" ft ["one","other"] (aK3 K (· * ·))) (G_whole_times:Def P w K mg base CX0 1 "whole_times" fw ["one","other"] (bw4 K)):Def P w K mg base CX0 3 "form_times" f ["one","other"] (aK2 K):=by
 refine d.ok (N:=["one","other"]) ax6 (by rintro vs H Q E ⟨_,_,_,_,_,_,_,h,_⟩;rw [h];rfl) (fun cdv A outer s H vs Q E hr h=>?_)
 obtain ⟨x,y,s',t',ps,qs,W,rfl,⟨r1,a1,l1,rfl,hr1,ha1,hl1⟩,⟨r2,a2,l2,rfl,hr2,ha2,hl2⟩,bs,bt,b1,b2,hW,n1,n2,k⟩:=h
 refine ⟨_,(d7 (g8 (j9 (b6 (d9 G_times hr (b6 (j8 p8 (pv 0) d4 (fun _ _=>rfl)) (b6 (j8 p8 (pv 1) d4 (fun _ _=>rfl)) b7)) i5) (b6 (d9 G_whole_times hr (b6 (j8 p8 (pv 0) d4 (fun _ _=>rfl)) (b6 (j8 p8 (pv 1) d4 (fun _ _=>rfl)) b7)) i5) b7))))),?_⟩
 rw [show start ["one","other"] [.ref r1,.ref r2]=[some (.ref r1),some (.ref r2)] from rfl]
 subst_eqs
 refine ⟨_,hr1,_,rfl,_,hr2,_,rfl,_,_,s',t',rfl,⟨_,rfl,ha1⟩,⟨_,rfl,ha2⟩,bs.bd6 (by lia),bt.bd6 (by omega),fun rs H1 sm1 e1=>?_⟩
 refine ⟨_,sm1.tup hr1,_,rfl,_,sm1.tup hr2,_,rfl,l1,l2,ps,qs,W,W,rfl,sm1.seq hl1,sm1.seq hl2,n1,n2,b1,b2,by lia,fun l H2 sm2 hl e2=>⟨y7,fun r hr'=>?_⟩⟩
 have T:=d5.new hr' (.tup [.ref rs,.ref l])
 exact k r _ (sm1.trans (sm2.trans T)) ⟨r,rs,l,rfl,SqT.of b8,SqT.of (T _ _ (sm2 _ _ e1)),SqL.of (T _ _ e2)⟩
def bb1 (K:PySem.W.Frag):Sp:=fun vs H Q _=>∃ (x y:V) (s t:Rat) (ps qs:List Int) (W:Nat),vs=[x,y]∧Fm K H x s ps∧Fm K H y t qs∧BdN W s∧BdN W t∧s≠0∧t≠0∧(∀ v∈ps,Int.natAbs v<2 ^ W)∧(∀ v∈qs,Int.natAbs v<2 ^ W)∧1≤W∧W≤900∧ps.length≤40∧qs.length≤40∧A6 ps ps.length∧A6 qs qs.length ∧
 ∀ v s' ws' H',d5 H H'→Fm K H' v s' ws'→s'≠0→A6 ws' ws'.length→v6 s' * zp ws'=v6 s * zp ps+v6 t * zp qs→((s'=s∧ws'=ps)∨(s'=t∧ws'=qs)∨((ws'≠[]→u8 ws'=1)∧BdN (10 * W) s'))→Q v H'
abbrev O7:Stmt:=top 51
theorem Z5:i8 ["one","other","wholes","top","bottom"] ["one","other"] (d3 O7):=by and_intros
set_option maxHeartbeats 0 in
theorem aL2 {f f1 f2 f3 f4:Addr} (d:Df K mg "form_sum" O7 ["one","other"] f) (G_over:Def P w K mg base CX0 3 "over" f1 ["one","other"] (aN9 K)) (G_whole_sum:Def P w K mg base CX0 2 "whole_sum" f2 ["one","other"] (ba6 K)) (G_whole_scaled:Def P w K mg base CX0 2 "whole_scaled" f3 ["factor","wholes"] (az9 K)) (GD_formed:Def P w K mg base CX0 3 "formed" f4 ["scale","wholes"] (aA4 K)):Def P w K mg base CX0 4 "form_sum" f ["one","other"] (bb1 K):=by
 have G_formed:=GD_formed
 refine d.ok (N:=["one","other","wholes","top","bottom"]) Z5 (by rintro vs H Q E ⟨_,_,_,_,_,_,_,h,_⟩;rw [h];rfl) (fun cdv A outer s H vs Q E hr h=>?_)
 obtain ⟨x,y,s',t',ps,qs,W,rfl,F1,F2,bs,bt,s0,t0,b1,b2,hW1,hW,n1,n2,tp,tq,k⟩:=h
 obtain ⟨r1,a1,l1,rfl,hr1,ha1,hl1⟩:=F1
 obtain ⟨r2,a2,l2,rfl,hr2,ha2,hl2⟩:=F2
 refine ⟨_,(b9 (A0 (PW.pt (W3 (G0 (C4 (j8 p8 (pv 0) d4 (fun _ _=>rfl)) (fun _=>rfl))) (V7 (G0 (C4 (j8 p8 (pv 1) d4 (fun _ _=>rfl)) (fun _=>rfl)))))) (d7 (g8 (Y4 (C4 (j8 p8 (pv 0) d4 (fun _ _=>rfl)) (fun _=>rfl)) (pv 0) (pv 1)))) m8)
   (b9 (K8 (d9 G_over hr (b6 (j8 p8 (pv 1) d4 (fun _ _=>rfl)) (b6 (j8 p8 (pv 0) d4 (fun _ _=>rfl)) b7)) i5) (show PG _ _ (P3 K 2 (p5 (n8 3) (p5 (n8 4) P4))) from by (refine B5 (n:=2) ?_ ?_ ?_ ?_;rfl;(refine g7 ?_ ?_ ?_;(exact (e8 (i:=3) Z5.nd rfl (Or.inl rfl)));(refine g7 ?_ ?_ ?_;(exact (e8 (i:=4) Z5.nd rfl (Or.inl rfl)));(exact v9);rfl);rfl);rfl;rfl)))
   (b9 (i7 (i:=2) Z5.nd rfl (Or.inl rfl) (d9 G_whole_sum hr (b6 (d9 G_whole_scaled hr (b6 (pv 4) (b6 (j8 p8 (pv 0) d4 (fun _ _=>rfl)) b7)) i5) (b6 (d9 G_whole_scaled hr (b6 (pv 3) (b6 (j8 p8 (pv 1) d4 (fun _ _=>rfl)) b7)) i5) b7)) i5))
   (d7 (g8 (d9 G_formed hr (b6 (d9 G_over hr (b6 (j8 p8 (pv 0) d4 (fun _ _=>rfl)) (b6 (j9 (b6 (pv 4) (b6 d4 b7))) b7)) i5) (b6 (pv 2) b7)) i5)))))),?_⟩
 rw [show start ["one","other","wholes","top","bottom"] [.ref r1,.ref r2]=[some (.ref r1),some (.ref r2),none,none,none] from rfl]
 refine e9 (fun σ H1=>σ=[some (.ref r1),some (.ref r2),none,none,none]∧H=H1∧ps≠[]∧qs≠[]) (fun N hN=>?_) ?_
 ·subst_eqs
  have tr1:∀ {ws:List Int} {l:Addr},SqL K H l (ws.map V.int)→aa4 K (.ref l) H (!(ws.map V.int).isEmpty):=fun {ws l} h=>.inl ⟨_,h,rfl⟩
  have one:∀ {ws:List Int},(!(ws.map V.int).isEmpty)=false→ws=[]:=fun {ws} h=>by cases ws <;> simp_all
  have two:∀ {ws:List Int},(!(ws.map V.int).isEmpty)=true→ws≠[]:=fun {ws} h z=>by rw [z] at h;simp at h
  refine ⟨_,hr1,_,rfl,_,tr1 hl1,t9 (fun h1=>?_) (fun h1=>?_)⟩
  ·have pz:=one h1
   refine ⟨_,hr1,_,rfl,_,tr1 hl1,t9 (fun h2=>absurd pz (two h2)) (fun _=>?_)⟩
   refine k _ t' qs H (d5.refl _) ⟨r2,a2,l2,rfl,hr2,ha2,hl2⟩ t0 tq ?_ (.inr (.inl ⟨rfl,rfl⟩))
   rw [pz,aD6];grind
  ·have pn:ps≠[]:=two (by simpa using h1)
   refine ⟨_,hr2,_,rfl,_,tr1 hl2,t9 (fun h2=>?_) (fun h2=>hN _ _ ⟨rfl,rfl,pn,two (by simpa using h2)⟩)⟩
   have qz:=one h2
   refine ⟨_,hr1,_,rfl,_,tr1 hl1,t9 (fun _=>?_) (fun h3=>absurd (one (by simpa using h3)) pn)⟩
   refine k _ s' ps H (d5.refl _) ⟨r1,a1,l1,rfl,hr1,ha1,hl1⟩ s0 tp ?_ (.inl ⟨rfl,rfl⟩)
   rw [qz,aD6];grind
 rintro σ H1 ⟨rfl,rfl,pn,qn⟩
 obtain ⟨ρ,hρ⟩:∃ ρ,ρ=t' / s':=⟨_,rfl⟩
 have bρ:BdN (W+W) ρ:=by
  have hb:(t'.den:Int) * s'.num≠0:=Int.mul_ne_zero (by have:=t'.den_nz;lia) (fun z=>s0 (aa9.mp z))
  have le:=K7 (t:=t'.num * s'.den) hb
  rw [←aR2,←hρ,Int.natAbs_mul,Int.natAbs_mul,Int.natAbs_natCast,Int.natAbs_natCast] at le
  exact ⟨Nat.lt_of_le_of_lt le.1 (by rw [Nat.pow_add];exact Nat.mul_lt_mul'' bt.n bs.d),Nat.lt_of_le_of_lt le.2 (by rw [Nat.pow_add];exact Nat.mul_lt_mul'' bt.d bs.n)⟩
 have ρd:(ρ.den:Int).natAbs<2 ^ (W+W):=by rw [Int.natAbs_natCast];exact bρ.d
 have dz:(ρ.den:Int)≠0:=by have:=ρ.den_nz;lia
 have dR:((ρ.den:Int):Rat)≠0:=ag0 dz
 have eρ : ρ * ((ρ.den:Int):Rat)=(ρ.num:Rat):=by
  have h4:=Rat.num_divInt_den ρ
  rw [Rat.divInt_eq_div,Rat.div_def] at h4
  have:=Rat.mul_inv_cancel _ dR
  conv=>lhs;lhs;rw [←h4]
  generalize ((ρ.den:Int):Rat)⁻¹=y at *
  generalize ((ρ.den:Int):Rat)=d at *
  grind
 refine e9 (fun σ H2=>σ=[some (.ref r1),some (.ref r2),none,some (.int ρ.num),some (.int (ρ.den:Int))]∧d5 H H2) (fun N hN=>?_) ?_
 ·subst_eqs
  refine ⟨_,hr2,_,rfl,_,hr1,_,rfl,_,_,t',s',rfl,⟨_,rfl,ha2⟩,⟨_,rfl,ha1⟩,bt.bd6 (by lia),bs.bd6 (by omega),s0,?_⟩
  intro rr H2 s2 e2
  rw [←hρ] at e2
  exact ⟨rr,rfl,_,SqT.of e2,rfl,_,_,rfl,_,_,rfl,rfl,hN _ _ ⟨rfl,s2⟩⟩
 rintro σ H2 ⟨rfl,s2⟩
 refine e9 (fun σ H3=>∃ (lw:Addr) (Z:List Int),σ=[some (.ref r1),some (.ref r2),some (.ref lw),some (.int ρ.num),some (.int (ρ.den:Int))]∧d5 H H3∧H3 lw=some (.lst (Z.map V.int))∧A6 Z Z.length∧Z.length≤40∧(∀ k,aZ Z k=(ρ.den:Int) * aZ ps k + ρ.num * aZ qs k)) (fun N hN=>?_) ?_
 ·subst_eqs
  refine ⟨_,s2.tup hr1,_,rfl,(ρ.den:Int),l1,ps,W,W+W,rfl,s2.seq hl1,n1,ρd,b1,by lia,fun x1 z1 H3 s3 f3 e3 t3 l3 h3=>?_⟩
  have S3:=s2.trans s3
  refine ⟨_,S3.tup hr2,_,rfl,ρ.num,l2,qs,W,W+W,rfl,S3.seq hl2,n2,bρ.n,b2,by lia,fun x2 z2 H4 s4 f4 e4 t4 l4 h4=>?_⟩
  refine ⟨x1,x2,z1,z2,rfl,SqL.of (s4 _ _ e3),SqL.of e4,by lia,by lia,fun x3 z3 H5 s5 f5 e5 t5 l5 h5=>?_⟩
  exact hN _ _ ⟨x3,z3,rfl,S3.trans (s4.trans s5),e5,t5,by lia,fun k=>by rw [h5,h3,h4]⟩
 rintro σ H3 ⟨lw,Z,rfl,s3,ew,tZ,lZ,hZ⟩
 have bZ:∀ v∈Z,Int.natAbs v<2 ^ (W+W+W+1):=aR8 fun k=>by
  rw [hZ]
  have x1:((ρ.den:Int) * aZ ps k).natAbs<2 ^ (W+W+W):=by rw [Int.natAbs_mul,Nat.pow_add 2 (W+W)];exact Nat.mul_lt_mul'' ρd (aa0 b1 k)
  have x2:(ρ.num * aZ qs k).natAbs<2 ^ (W+W+W):=by rw [Int.natAbs_mul,Nat.pow_add 2 (W+W)];exact Nat.mul_lt_mul'' bρ.n (aa0 b2 k)
  rw [Nat.pow_succ]
  omega
 subst_eqs
 refine ⟨_,s3.tup hr1,_,rfl,y7,fun p hp=>?_⟩
 have T:=d5.new hp (.tup [.int (ρ.den:Int),.int 1])
 have ep:(upd H3 p (.tup [.int (ρ.den:Int),.int 1])) p=some (.tup (t8 (((ρ.den:Int)):Rat))):=by
  rw [b8];unfold t8;rw [Rat.num_intCast,Rat.den_intCast];rfl
 have bd:BdN (W+W) (((ρ.den:Int)):Rat):=aQ8 ρd (by lia)
 refine ⟨_,_,s',(((ρ.den:Int)):Rat),rfl,⟨_,rfl,(s3.trans T).tup ha1⟩,⟨p,rfl,SqT.of ep⟩,bs.bd6 (by lia),bd.bd6 (by lia),dR,?_⟩
 intro rv H4 s4 e4
 have sn0:s' / (((ρ.den:Int)):Rat)≠0:=fun z=>by
  rw [Rat.div_def] at z
  have:=Rat.mul_inv_cancel _ dR
  generalize (((ρ.den:Int)):Rat)⁻¹=y at *
  exact s0 (by grind)
 have bv:BdN (W+(W+W)) (s' / (((ρ.den:Int)):Rat)):=by
  rw [Rat.div_def]
  have hi:=bo5 dR bd
  have hb:(s'.den:Int) * ((((ρ.den:Int)):Rat)⁻¹).den≠0:=Int.mul_ne_zero (by have:=s'.den_nz;lia) (by have:=((((ρ.den:Int)):Rat)⁻¹).den_nz;lia)
  rw [Y6]
  have le:=K7 (t:=s'.num * ((((ρ.den:Int)):Rat)⁻¹).num) hb
  rw [Int.natAbs_mul,Int.natAbs_mul,Int.natAbs_natCast,Int.natAbs_natCast] at le
  exact ⟨Nat.lt_of_le_of_lt le.1 (by rw [Nat.pow_add];exact Nat.mul_lt_mul'' bs.n hi.n),Nat.lt_of_le_of_lt le.2 (by rw [Nat.pow_add];exact Nat.mul_lt_mul'' bs.d hi.d)⟩
 refine ⟨_,_,lw,Z,W+W+W+1,W+(W+W),rfl,⟨rv,rfl,SqT.of e4⟩,bv,sn0,SqL.of ((T.trans s4) _ _ ew),bZ,by simp,by lia,by lia,tZ,fun r rs l s2' ws' H5 s5 fl er ers el bs5 s50 wb5 wl5 e5 g5=>?_⟩
 have tz5:A6 ws' ws'.length:=by
  refine ⟨Nat.le_refl _,(fun i v hi h=>by rw [List.getElem?_eq_none hi] at h;cases h),fun hn v h z=>?_⟩
  have zl:=aD8 tZ (by lia)
  have h6:=congrArg (fun l=>aQ l (Z.length - 1)) e5
  have h7:aQ (scl s2' ws') (Z.length - 1)=aQ (scl (s' / (((ρ.den:Int)):Rat)) Z) (Z.length - 1):=h6
  rw [ai5,ai5] at h7
  have h8:aZ ws' (Z.length - 1)=v:=by unfold aZ;rw [←wl5,h];rfl
  have h9:s2' * (aZ ws' (Z.length - 1):Rat)=s' / (((ρ.den:Int)):Rat) * (aZ Z (Z.length - 1):Rat):=h7
  rw [h8,z,Rat.intCast_zero] at h9
  have h10:s' / (((ρ.den:Int)):Rat) * (aZ Z (Z.length - 1):Rat)=0:=by rw [←h9];grind
  rcases Rat.mul_eq_zero.mp h10 with y | y
  ·exact sn0 y
  ·exact ag0 zl y
 refine k _ s2' ws' H5 (s3.trans (T.trans (s4.trans s5))) ⟨r,rs,l,rfl,SqT.of er,ers,SqL.of el⟩ s50 tz5 ?_ (.inr (.inr ⟨g5,bs5.mono (by lia)⟩))
 rw [←T9,e5,T9]
 have eZ:zp Z=v6 ((ρ.den:Int):Rat) * zp ps+v6 (ρ.num:Rat) * zp qs:=Pf.ext fun k=>by
  rw [V9,ax9,ax9]
  show zc Z k=_ * zc ps k+_ * zc qs k
  unfold zc
  rw [hZ,Rat.intCast_add,Rat.intCast_mul,Rat.intCast_mul]
 have c1:v6 (s' / (((ρ.den:Int)):Rat)) * v6 (((ρ.den:Int)):Rat)=v6 s':=by
  rw [←ao1,Rat.div_def]
  have:=Rat.mul_inv_cancel _ dR
  congr 1
  generalize (((ρ.den:Int)):Rat)⁻¹=y at *
  grind
 have c2:v6 (s' / (((ρ.den:Int)):Rat)) * v6 (ρ.num:Rat)=v6 t':=by
  rw [←eρ,ao1]
  have:v6 ρ * v6 s'=v6 t':=by
   rw [←ao1,hρ,Rat.div_def]
   have:=Rat.mul_inv_cancel _ s0
   congr 1
   generalize s'⁻¹=y at *
   grind
  rw [←this,←c1];grind
 rw [eZ]
 generalize v6 (s' / (((ρ.den:Int)):Rat))=y0 at *
 generalize v6 (((ρ.den:Int)):Rat)=y1 at *
 generalize v6 (ρ.num:Rat)=y2 at *
 generalize v6 s'=y3 at *
 generalize v6 t'=y4 at *
 grind
end
mutual
inductive HD (H:Hp):V→D→Prop where
 | v {x:V} (f:Y8 x=true):HD H x (.v x)
 | tup {p:Addr} {xs:List V} {ds:List D} (h:H p=some (.tup xs)) (t:HDs H xs ds):HD H (.ref p) (.tup ds)
 | lst {p:Addr} {xs:List V} {ds:List D} (h:H p=some (.lst xs)) (t:HDs H xs ds):HD H (.ref p) (.lst ds)
inductive HDs (H:Hp):List V→List D→Prop where
 | nil:HDs H [] []
 | cons {x:V} {xs:List V} {d:D} {ds:List D} (h:HD H x d) (t:HDs H xs ds):HDs H (x :: xs) (d :: ds)
end
def evZ (qs:List Rat):Bool:=(evs qs).all fun q=>decide (q=0)
def odZ (qs:List Rat):Bool:=(ods qs).all fun q=>decide (q=0)
theorem aH8 {α:Type}:∀ (xs:List α) (k:Nat),(evs xs)[k]? = xs[2 * k]?
 | [],k=>by simp [evs]
 | [x],0=>rfl
 | [x],k+1=>by
  show ([x]:List α)[k+1]? = [x][2 * (k+1)]?
  rw [List.getElem?_eq_none (by simp),List.getElem?_eq_none (by simp;lia)]
 | x :: y :: r,0=>rfl
 | x :: y :: r,k+1=>by
  show (x :: evs r)[k+1]? = _
  rw [List.getElem?_cons_succ,aH8 r k,show 2 * (k+1)=2 * k+1+1 by lia,List.getElem?_cons_succ,List.getElem?_cons_succ]
def cOk (c T:Nat):Prop:=(c=10∧T≤14)∨(c=40∧T≤5)
def Ub (c D:Nat):Nat:=1+2 * c+(3 * c+4) * D
theorem bw1 {c T D:Nat} (h:cOk c T) (l:D≤T):Ub c D≤701:=by
 unfold Ub
 rcases h with ⟨rfl,h⟩ | ⟨rfl,h⟩ <;> lia
theorem ad4 (c D:Nat):1≤Ub c D:=by unfold Ub;lia
theorem bo8 {c T D d:Nat} (h:cOk c T) (l:D+d≤T):Ub c (D+d)+(d+1) * (Ub c D+1)+Ub c D≤2900:=by
 unfold Ub
 rcases h with ⟨rfl,h⟩ | ⟨rfl,h⟩
 ·have hd:d≤14:=by lia
  have h2:d=0∨d=1∨d=2∨d=3∨d=4∨d=5∨d=6∨d=7∨d=8∨d=9∨d=10∨d=11∨d=12∨d=13∨d=14:=by lia
  rcases h2 with rfl | rfl | rfl | rfl | rfl | rfl | rfl | rfl | rfl | rfl | rfl | rfl | rfl | rfl | rfl <;> lia
 ·have h2:d=0∨d=1∨d=2∨d=3∨d=4∨d=5:=by lia
  rcases h2 with rfl | rfl | rfl | rfl | rfl | rfl <;> lia
theorem aD7 {c D d:Nat} (hd:1≤d):Ub c D+(1+c * (d+1)+c)+(d+1)+1≤Ub c (D+d):=by
 unfold Ub
 have e1:(3 * c+4) * (D+d)=(3 * c+4) * D+(3 * c+4) * d:=Nat.mul_add _ _ _
 have e2:(3 * c+4) * d=3 * (c * d)+4 * d:=by rw [Nat.add_mul,Nat.mul_assoc]
 have e3:c * (d+1)=c * d+c:=Nat.mul_succ _ _
 have e4:c≤c * d:=Nat.le_mul_of_pos_right _ hd
 lia
structure O0 (c:Nat) (M:List (List Rat)) (last:List Rat):Prop where
 m:∀ L∈M,A7 L L.length∧2≤L.length∧evZ L=true∧∀ x∈L,BdN c x
 t:A7 last last.length
 n:last≠[]
 p:evZ last=true∨odZ last=true
 o:∀ x∈last,BdN c x
 z:cOk c (last.length - 1+(M.map fun L=>L.length - 1).sum)
theorem O0.s {c:Nat} {M:List (List Rat)} {last:List Rat} (R:O0 c M last):last.length+(M.map fun L=>L.length - 1).sum≤15:=by
 have:=List.length_pos_iff.mpr R.n
 rcases R.z with ⟨_,h⟩ | ⟨_,h⟩ <;> lia
theorem O0.c1 {c:Nat} {M:List (List Rat)} {last:List Rat} (R:O0 c M last):10≤c∧c≤40:=by
 rcases R.z with ⟨h,_⟩ | ⟨h,_⟩ <;> lia
def ar7 (M:List (List Rat)):Nat→Nat
 | 0=>0
 | n+1=>ar7 M n+(((M[M.length - 1 - n]?).getD []).length - 1)
theorem aJ6 (M:List (List Rat)):∀ n,n≤M.length→ar7 M n=((M.drop (M.length - n)).map fun L=>L.length - 1).sum
 | 0,_=>by rw [Nat.sub_zero,List.drop_length];rfl
 | n+1,h=>by
  rw [ar7,aJ6 M n (by exact Nat.le_of_lt ‹_›)]
  have e:M.drop (M.length - (n+1))=(M[M.length - 1 - n]'(by omega)) :: M.drop (M.length - n):=by
   rw [show M.length - (n+1)=M.length - 1 - n by lia,List.drop_eq_getElem_cons (by omega),show M.length - 1 - n+1=M.length - n by lia]
  rw [e,List.map_cons,List.sum_cons,List.getElem?_eq_getElem (by omega),Option.getD_some]
  lia
theorem aI1 {M:List (List Rat)} {n:Nat} (h:n≤M.length):ar7 M n≤(M.map fun L=>L.length - 1).sum:=by
 have h2:=aJ6 M n h
 have h3:((M.drop (M.length - n)).map fun L=>L.length - 1).sum≤(M.map fun L=>L.length - 1).sum:=by
  conv=>rhs;rw [←List.take_append_drop (M.length - n) M]
  rw [List.map_append,List.sum_append]
  simp
 lia
theorem O0.sum {c:Nat} {M:List (List Rat)} {last:List Rat} (R:O0 c M last) {n:Nat} (h:n≤M.length):last.length+ar7 M n≤15:=by
 have:=R.s
 have:=aI1 h
 lia
def dn (M:List (List Rat)) (last:List Rat) (n:Nat):Nat:=last.length - 1+ar7 M n
theorem O0.ub {c:Nat} {M:List (List Rat)} {last:List Rat} (R:O0 c M last) {n:Nat} (h:n≤M.length):Ub c (dn M last n)≤701:=bw1 R.z (by
 have:=aI1 h
 unfold dn
 lia)
theorem O0.len {c:Nat} {M:List (List Rat)} {last:List Rat} (R:O0 c M last):M.length≤14:=by
 have key:∀ (N:List (List Rat)),(∀ L∈N,2≤L.length)→N.length≤(N.map fun L=>L.length - 1).sum:=by
  intro N
  induction N with
  | nil=>intro _;simp
  | cons L N ih=>
   intro h
   have h1:=h L List.mem_cons_self
   have h2:=ih fun L hL=>h L (List.mem_cons_of_mem _ hL)
   rw [List.map_cons,List.sum_cons,List.length_cons]
   lia
 have h1:=key M fun L hL=>(R.m L hL).2.1
 have h2:=R.s
 have h3:=List.length_pos_iff.mpr R.n
 lia
theorem O0.at {c:Nat} {M:List (List Rat)} {last:List Rat} (R:O0 c M last) {n:Nat} (h:n<M.length):∃ L,M[M.length - 1 - n]? = some L∧L∈M∧dn M last (n+1)=dn M last n+(L.length - 1)∧(fld M last (n+1)).1=qp L * (fld M last n).1+(fld M last n).2∧(fld M last (n+1)).2=(fld M last n).1:=by
 have hg:M[M.length - 1 - n]? = some (M[M.length - 1 - n]'(by omega)):=List.getElem?_eq_getElem (by omega)
 refine ⟨_,hg,List.mem_of_getElem? hg,?_,?_,rfl⟩
 ·unfold dn
  rw [ar7,hg,Option.getD_some]
  lia
 ·show qp ((M[M.length - 1 - n]?).getD []) * (fld M last n).1+(fld M last n).2=_
  rw [hg];rfl
theorem O0.l15 {c:Nat} {M:List (List Rat)} {last:List Rat} (R:O0 c M last) {L:List Rat} (h:L∈M):L.length≤15:=by
 have key:∀ (N:List (List Rat)),L∈N→L.length - 1≤(N.map fun L=>L.length - 1).sum:=by
  intro N
  induction N with
  | nil=>intro h;cases h
  | cons L' N ih=>
   intro h
   rw [List.map_cons,List.sum_cons]
   rcases List.mem_cons.mp h with z | z
   ·rw [z];simp
   ·have:=ih z;lia
 have:=key M h
 have:=R.s
 have:=List.length_pos_iff.mpr R.n
 lia
theorem ag1 {c:Nat} {M:List (List Rat)} {last:List Rat} (R:O0 c M last):∀ n,n≤M.length→∃ B,0<B∧B<2 ^ Ub c (dn M last n)∧OvP B (Ub c (dn M last n)) (fld M last n).1∧OvP B (Ub c (dn M last n)) (fld M last n).2
 | 0,_=>by
  have cl:=al5 R.o
  have hp:=List.length_pos_iff.mpr R.n
  have le:1+c * last.length+c≤Ub c (dn M last 0):=by
   unfold Ub dn
   rw [ar7]
   obtain ⟨e,he⟩:∃ e,last.length=e+1:=⟨last.length - 1,by lia⟩
   rw [he,Nat.mul_succ,Nat.add_sub_cancel,Nat.add_zero,Nat.add_mul,Nat.mul_assoc,Nat.add_zero]
   lia
  have cl:=cl.mono le
  exact ⟨m5 last,C2 _,cl.l,bc4 fun x hx=>aP2 cl hx,fun k=>by rw [show (fld M last 0).2=0 from rfl,W5];exact OvB.zero _ _⟩
 | n+1,h=>by
  obtain ⟨B,B0,hB,h1,h2⟩:=ag1 R n (by omega)
  obtain ⟨L,hg,hL,hd,e1,e2⟩:=R.at (n:=n) (by lia)
  obtain ⟨tL,l2,_,bL⟩:=R.m L hL
  have cl:=al5 bL
  obtain ⟨d,hd'⟩:∃ d,L.length=d+1:=⟨L.length - 1,by lia⟩
  rw [hd'] at cl hd l2
  rw [Nat.add_sub_cancel] at hd
  have st:=aD7 (c:=c) (D:=dn M last n) (d:=d) (by lia)
  rw [←hd] at st
  generalize 1+c * (d+1)+c=v at *
  have m1:OvP (m5 L * B) (v+Ub c (dn M last n)+(d+1)) (qp L * (fld M last n).1):=OvP.mul (C2 _) B0 (bc4 fun x hx=>aP2 cl hx) h1 (by rw [←hd'];exact aB0 L)
  have m2:OvP (B * m5 L) (Ub c (dn M last n)+v) (fld M last n).2:=h2.up B0 (C2 _) cl.l
  have u1:OvP (B * m5 L) (Ub c (dn M last n)+v) (fld M last n).1:=h1.up B0 (C2 _) cl.l
  rw [Nat.mul_comm] at m1
  have Bp:0<B * m5 L:=Nat.mul_pos B0 (C2 _)
  refine ⟨B * m5 L,Bp,?_,?_,?_⟩
  ·have:B * m5 L<2 ^ (Ub c (dn M last n)) * 2 ^ v:=Nat.mul_lt_mul'' hB cl.l
   rw [←Nat.pow_add] at this
   exact Nat.lt_of_lt_of_le this (d6 (by lia))
  ·rw [e1]
   exact (OvP.add Bp (m1.mono (show _≤Ub c (dn M last n)+v+(d+1) by lia)) (m2.mono (by simp))).mono (by omega)
  ·rw [e2]
   exact u1.mono (by omega)
theorem ac4 {c:Nat} {M:List (List Rat)} {last:List Rat} (R:O0 c M last):∀ n,n≤M.length→Dg (fld M last n).1.f (dn M last n+1)∧Dg (fld M last n).2.f (dn M last n)
 | 0,_=>by
  have hp:=List.length_pos_iff.mpr R.n
  refine ⟨?_,fun k _=>by rw [show (fld M last 0).2=0 from rfl];exact W5 k⟩
  have e:dn M last 0+1=last.length:=by unfold dn;rw [ar7];lia
  rw [e];exact aB0 last
 | n+1,h=>by
  obtain ⟨h1,h2⟩:=ac4 R n (by omega)
  obtain ⟨L,hg,hL,hd,e1,e2⟩:=R.at (n:=n) (by omega)
  obtain ⟨tL,l2,_,bL⟩:=R.m L hL
  rw [e1,e2,hd]
  refine ⟨fun k hk=>?_,fun k hk=>h1 k (by lia)⟩
  rw [V9,h2 k (by lia)]
  have:(qp L * (fld M last n).1).f k=0:=Dg.cv (aB0 L) h1 k (by lia)
  rw [this];grind
theorem aS9 {L:List Rat} (t:A7 L L.length) (h:1≤L.length):(qp L).f (L.length - 1)≠0:=by
 have hq:=List.getElem?_eq_getElem (l:=L) (show L.length - 1<L.length by omega)
 have:=t.last (by omega) _ hq
 show aQ L (L.length - 1)≠0
 unfold aQ
 rw [hq];exact this
theorem K5 {c:Nat} {M:List (List Rat)} {last:List Rat} (R:O0 c M last):∀ n,n≤M.length→(fld M last n).1.f (dn M last n)≠0
 | 0,_=>by
  have hp:=List.length_pos_iff.mpr R.n
  have e:dn M last 0=last.length - 1:=by unfold dn;rw [ar7];simp
  rw [e]
  exact aS9 R.t (by lia)
 | n+1,h=>by
  have h1:=K5 R n (by omega)
  obtain ⟨d1,d2⟩:=ac4 R n (by omega)
  obtain ⟨L,hg,hL,hd,e1,e2⟩:=R.at (n:=n) (by omega)
  obtain ⟨tL,l2,_,bL⟩:=R.m L hL
  have lL:=aS9 tL (by exact Nat.le_of_lt ‹_›)
  rw [e1,hd,V9,d2 _ (by simp)]
  have top:=bh0 (f:=(qp L).f) (g:=(fld M last n).1.f) (a:=L.length - 1) (b:=dn M last n) (by rw [Nat.sub_add_cancel (by omega)];exact aB0 L) d1
  rw [Nat.add_comm (dn M last n)]
  have e:(qp L * (fld M last n).1).f (L.length - 1+dn M last n)=(qp L).f (L.length - 1) * (fld M last n).1.f (dn M last n):=top
  rw [e]
  intro z
  have z':(qp L).f (L.length - 1) * (fld M last n).1.f (dn M last n)=0:=by rw [←z];grind
  rcases Rat.mul_eq_zero.mp z' with y | y
  ·exact lL y
  ·exact h1 y
def Par (b:Nat) (p:Pf):Prop:=∀ k,k % 2≠b % 2→p.f k=0
theorem Par.add {b:Nat} {p q:Pf} (hp:Par b p) (hq:Par b q):Par b (p+q):=fun k hk=>by rw [V9,hp k hk,hq k hk];grind
theorem Par.mul {a b:Nat} {p q:Pf} (hp:Par a p) (hq:Par b q):Par (a+b) (p * q):=fun k hk=>by
 show cv p.f q.f k=0
 refine O3 _ fun i hi=>?_
 by_cases z:i % 2=a % 2
 ·rw [hq (k - i) (by lia)];grind
 ·rw [hp i z];grind
theorem Par.cong {a b:Nat} {p:Pf} (h:Par a p) (e:a % 2=b % 2):Par b p:=fun k hk=>h k (by lia)
theorem bd3 (b:Nat):Par b 0:=fun k _=>W5 k
theorem be0 {α:Type} (xs:List α) (k:Nat):(ods xs)[k]? = xs[2 * k+1]?:=by
 unfold ods
 rw [aH8,List.getElem?_tail]
theorem bd4 {L:List Rat} (h:evZ L=true):Par 1 (qp L):=fun k hk=>by
 show aQ L k=0
 unfold aQ
 cases e:L[k]? with
 | none=>rfl
 | some q=>
  have:q∈evs L:=List.mem_iff_getElem?.mpr ⟨k / 2,by rw [aH8,show 2 * (k / 2)=k by lia];exact e⟩
  exact of_decide_eq_true (List.all_eq_true.mp h q this)
theorem br9 {L:List Rat} (h:odZ L=true):Par 0 (qp L):=fun k hk=>by
 show aQ L k=0
 unfold aQ
 cases e:L[k]? with
 | none=>rfl
 | some q=>
  have:q∈ods L:=List.mem_iff_getElem?.mpr ⟨k / 2,by rw [be0,show 2 * (k / 2)+1=k by lia];exact e⟩
  exact of_decide_eq_true (List.all_eq_true.mp h q this)
theorem aT7 {c:Nat} {M:List (List Rat)} {last:List Rat} (R:O0 c M last) {b:Nat} (hb:Par b (qp last)):∀ n,n≤M.length→Par (b+n) (fld M last n).1∧Par (b+n+1) (fld M last n).2
 | 0,_=>⟨hb,bd3 _⟩
 | n+1,h=>by
  obtain ⟨h1,h2⟩:=aT7 R hb n (by omega)
  obtain ⟨L,hg,hL,hd,e1,e2⟩:=R.at (n:=n) (by omega)
  rw [e1,e2]
  exact ⟨(((bd4 (R.m L hL).2.2.1).mul h1).cong (by lia)).add (h2.cong (by lia)),h1.cong (by lia)⟩
theorem aC2 {c:Nat} {M:List (List Rat)} {last:List Rat} (R:O0 c M last) {n:Nat} (h:n≤M.length):Par (dn M last n) (fld M last n).1∧Par (dn M last n+1) (fld M last n).2:=by
 obtain ⟨b,hb⟩:∃ b,Par b (qp last):=by
  rcases R.p with z | z
  ·exact ⟨1,bd4 z⟩
  ·exact ⟨0,br9 z⟩
 obtain ⟨h1,h2⟩:=aT7 R hb n h
 have h3:=K5 R n h
 have h4:dn M last n % 2=(b+n) % 2:=Classical.byContradiction fun z=>h3 (h1 _ z)
 exact ⟨h1.cong h4.symm,h2.cong (by lia)⟩
theorem tzB {s:Rat} (hs:s≠0) {qs:List Rat} {ws:List Int} (e:qs=scl s ws) (t:A7 qs qs.length):A6 ws ws.length:=by
 refine ⟨Nat.le_refl _,(fun i v hi h=>by rw [List.getElem?_eq_none hi] at h;cases h),fun hn v h z=>?_⟩
 subst e
 rw [Q3] at t
 refine t.last hn _ (show (scl s ws)[ws.length - 1]? = some (s * (v:Rat)) by unfold scl;rw [List.getElem?_map,h];rfl) ?_
 rw [z,Rat.intCast_zero];grind
theorem tlB {s:Rat} (hs:s≠0) {ws:List Int} (t:A6 ws ws.length):A7 (scl s ws) (scl s ws).length:=Y0 fun x hx=>by
 rw [Q3] at hx
 unfold scl at hx
 rw [List.getElem?_map] at hx
 cases g:ws[ws.length - 1]? with
 | none=>rw [g] at hx;cases hx
 | some v=>
  rw [g] at hx
  cases hx
  have hp:=(List.getElem?_eq_some_iff.mp g).1
  have hv:=t.last (by lia) v g
  exact fun z=>by
   rcases Rat.mul_eq_zero.mp z with z | z
   ·exact hs z
   ·exact ag0 hv z
theorem as4 {s:Rat} {ws:List Int} {p:Pf} {k:Nat} (e:v6 s * zp ws=p) (h:p.f k≠0):ws≠[]:=fun z=>h (by
 rw [←e,z,aD6,ax9,W5];grind)
theorem ap4 {s:Rat} {ws:List Int} {p:Pf} {n:Nat} (hs:s≠0) (t:A6 ws ws.length) (e:v6 s * zp ws=p) (d:Dg p.f n):ws.length≤n:=by
 rcases Nat.lt_or_ge n ws.length with z | z
 ·have h1:=aD8 t (by lia)
  have h2:=d (ws.length - 1) (by omega)
  rw [←e,ax9] at h2
  rcases Rat.mul_eq_zero.mp h2 with y | y
  ·exact absurd y hs
  ·exact absurd y (bm8 h1)
 ·exact z
structure FS (K:PySem.W.Frag) (H:Hp) (v:V) (p:Pf) (b:Nat) (s:Rat) (ws:List Int):Prop where
 fm:Fm K H v s ws
 s0:s≠0
 tz:A6 ws ws.length
 e:v6 s * zp ws=p
 bs:BdN b s
 bw:∀ v∈ws,Int.natAbs v<2 ^ b
theorem FS.of {K:PySem.W.Frag} {H:Hp} {v:V} {p:Pf} {b B W:Nat} {s:Rat} {ws:List Int} (fm:Fm K H v s ws) (s0:s≠0) (tz:A6 ws ws.length) (e:v6 s * zp ws=p) (B0:0<B) (hB:B<2 ^ W) (hp:OvP B W p) (hb:W≤b) (g:ws≠[]→u8 ws=1) (z:ws≠[]):FS K H v p b s ws:=by
  have c:ClN W (scl s ws):=X7 B0 hB (Y5 (by rw [T9,e];exact hp))
  obtain ⟨x1,x2⟩:=aB2 rfl (g z) s0 c
  exact ⟨fm,s0,tz,e,x1.mono hb,fun v hv=>Nat.lt_of_lt_of_le (x2 v hv) (d6 hb)⟩
section
variable {P:Program} {w:World} {K:PySem.W.Frag} {mg:Str→Option Value} {base:Heap}
def bn4 (K:PySem.W.Frag):Sp:=fun vs H Q _=>∃ (a b:Addr) (ts:List Addr) (xs:List V) (c:Nat) (M:List (List Rat)) (last:List Rat),vs=[.ref a,.ref b]∧SqL K H a (ts.map V.ref)∧ac9 K H ts M∧SqL K H b xs∧B8 K H xs last∧O0 c M last ∧
 ∀ r zs ps H',d5 H H'→H r=none→H' r=some (.lst zs)→q8 H' zs ps→A7 ps ps.length→qp ps=(fld M last M.length).1+(fld M last M.length).2→Q (.ref r) H'
abbrev C9:Stmt:=top 60
theorem D6:i8 ["quotients","last","quotient","one","other","scale","wholes"] ["quotients","last"] (d3 C9):=by and_intros
set_option maxHeartbeats 0 in
theorem ar2 {f f1 f2 f3 f4 aN:Addr} (d:Df K mg "put_together" C9 ["quotients","last"] f) (GD_lifted:Def P w K mg base CX0 3 "lifted" f1 ["p"] (am3 K)) (G_form_sum:Def P w K mg base CX0 4 "form_sum" f2 ["one","other"] (bb1 K)) (G_form_times:Def P w K mg base CX0 3 "form_times" f3 ["one","other"] (aK2 K)) (G_lowered:Def P w K mg base CX0 3 "lowered" f4 ["scale","wholes"] (am1 K)) (c_ONE:mg "ONE" = some (.ref aN)) (tN:∀ H,SqT K H aN (t8 1)) (n_reversed:mg "reversed" = none):Def P w K mg base CX0 5 "put_together" f ["quotients","last"] (bn4 K):=by
 have G_lifted:=GD_lifted
 refine d.ok (N:=["quotients","last","quotient","one","other","scale","wholes"]) D6 (by rintro vs H Q E ⟨_,_,_,_,_,_,_,h,_⟩;rw [h];rfl) (fun cdv A outer s H vs Q E hr h=>?_)
 obtain ⟨a,b,ts,xs,c,M,last,rfl,hS,hR,hSb,hNb,R,k⟩:=h
 refine ⟨_,(b9 (V8 (i:=3) (j:=4) rfl D6.nd rfl rfl (by decide) rfl rfl (b6 (d9 G_lifted hr (b6 (pv 1) b7) i5) (b6 (j9 (b6 (v4 (v:=.ref _) rfl c_ONE rfl) (b6 (t6 b7) b7))) b7)) rfl)
   (b9 (R1 PassesOwn.never rfl (bc9 rfl n_reversed (b6 (pv 0) b7)) (e8 (i:=2) D6.nd rfl (Or.inl rfl)) (d7 (V8 (i:=3) (j:=4) rfl D6.nd rfl rfl (by decide) rfl rfl (b6 (d9 G_form_sum hr (b6 (d9 G_form_times hr (b6 (d9 G_lifted hr (b6 (pv 2) b7) i5) (b6 (pv 3) b7)) i5) (b6 (pv 4) b7)) i5) (b6 (pv 3) b7)) rfl)))
   (b9 (K8 (d9 G_form_sum hr (b6 (pv 3) (b6 (pv 4) b7)) i5) (show PG _ _ (P3 K 2 (p5 (n8 5) (p5 (n8 6) P4))) from by (refine B5 (n:=2) ?_ ?_ ?_ ?_;rfl;(refine g7 ?_ ?_ ?_;(exact (e8 (i:=5) D6.nd rfl (Or.inl rfl)));(refine g7 ?_ ?_ ?_;(exact (e8 (i:=6) D6.nd rfl (Or.inl rfl)));(exact v9);rfl);rfl);rfl;rfl)))
   (d7 (g8 (d9 G_lowered hr (b6 (pv 5) (b6 (pv 6) b7)) i5)))))),?_⟩
 rw [show start ["quotients","last","quotient","one","other","scale","wholes"] [.ref a,.ref b]=[some (.ref a),some (.ref b),none,none,none,none,none] from rfl]
 have ll:last.length≤15:=by have:=R.s;lia
 have lM:=R.len
 have lts:=hR.length
 have ov:=ag1 R
 obtain ⟨c10,c40⟩:=R.c1
 have ub0:=R.ub (n:=0) (Nat.zero_le _)
 refine e9 (fun σ H1=>∃ v1 v2 s1 s2 w1 w2,σ=[some (.ref a),some (.ref b),none,some v1,some v2,none,none]∧d5 H H1∧FS K H1 v1 (fld M last 0).1 (Ub c (dn M last 0)+5 * 0) s1 w1∧FS K H1 v2 (fld M last 0).2 (Ub c (dn M last 0)+5 * 0) s2 w2) (fun N hN=>?_) ?_
 ·subst_eqs
  have cl:ClN (Ub c (dn M last 0)+5 * 0) last:=by
   obtain ⟨B,B0,hB,h1,_⟩:=ov 0 (Nat.zero_le _)
   exact X7 B0 hB (Y5 h1)
  refine ⟨b,xs,last,rfl,hSb,hNb,_,cl,by lia,ad4 _ _,by lia,R.t,fun r rs l s' ws H1 s1 fl er ers el bs s0 wb wl e g=>⟨by decide,fun p1 hp1=>⟨y7,fun p2 hp2=>?_⟩⟩⟩
  have T1:=d5.new hp1 (.lst [])
  have T2:=d5.new hp2 (.tup [.ref aN,.ref p1])
  have T:=T1.trans T2
  refine hN _ _ ⟨_,_,s',1,ws,[],rfl,s1.trans T,⟨⟨r,rs,l,rfl,SqT.of (T _ _ er),T.tup ers,SqL.of (T _ _ el)⟩,s0,tzB s0 e R.t,?_,bs,wb⟩,⟨⟨p2,aN,p1,rfl,SqT.of b8,tN _,SqL.of (T2 _ _ b8)⟩,by decide,bo9,?_,bd8 (ad4 _ _),by simp⟩⟩
  ·show v6 s' * zp ws=qp last
   rw [e,T9]
  ·show v6 1 * zp []=0
   rw [aD6];grind
 rintro σ H1 ⟨v1,v2,s1,s2,w1,w2,rfl,S1,F1,F2⟩
 refine e9 (fun σ H2=>∃ o2 v1 v2 s1 s2 w1 w2,σ=[some (.ref a),some (.ref b),o2,some v1,some v2,none,none]∧d5 H H2∧FS K H2 v1 (fld M last M.length).1 (Ub c (dn M last M.length)+5 * M.length) s1 w1∧FS K H2 v2 (fld M last M.length).2 (Ub c (dn M last M.length)+5 * M.length) s2 w2) (fun N hN=>?_) ?_
 ·refine ⟨_,rfl,a,_,rfl,S1.seq hS,aT6 (xs:=ts.map V.ref) (fun i σ H2=>∃ o2 v1 v2 s1 s2 w1 w2,σ=[some (.ref a),some (.ref b),o2,some v1,some v2,none,none]∧d5 H H2∧FS K H2 v1 (fld M last i).1 (Ub c (dn M last i)+5 * i) s1 w1∧FS K H2 v2 (fld M last i).2 (Ub c (dn M last i)+5 * i) s2 w2) ⟨_,v1,v2,s1,s2,w1,w2,rfl,S1,F1,F2⟩ (by rintro i σ H2 _ ⟨_,_,_,_,_,_,_,_,s2',_⟩;exact s2'.seq hS) ?_ (by rintro σ H2 ⟨o2,v1,v2,s1,s2,w1,w2,rfl,s2',G1,G2⟩;rw [List.length_map,lts] at G1 G2;exact hN _ _ ⟨_,v1,v2,s1,s2,w1,w2,rfl,s2',G1,G2⟩)⟩
  rintro i x σ H2 hi hx ⟨o2,v1,v2,s1,s2,w1,w2,rfl,s2',G1,G2⟩
  rw [List.length_map] at hi hx
  have him:i<M.length:=by lia
  obtain ⟨L,hg,hLM,hdn,ei,_⟩:=R.at him
  obtain ⟨pL,hpL,rfl⟩:=aK8 hx
  obtain ⟨ys,L',hL',eL,nL⟩:=hR.get hpL
  rw [show ts.length - 1 - i=M.length - 1 - i by lia,hg] at hL'
  cases hL'
  obtain ⟨tL,l2,_,oL⟩:=R.m L hLM
  have l15:=R.l15 hLM
  have cl:=al5 oL
  have st:=aD7 (c:=c) (D:=dn M last i) (d:=L.length - 1) (by lia)
  rw [←hdn,Nat.sub_add_cancel (by exact Nat.le_of_lt ‹_›)] at st
  have v1:1≤1+c * L.length+c:=by lia
  generalize 1+c * L.length+c=vb at cl st v1
  obtain ⟨bb,hbb⟩:∃ bb,bb=Ub c (dn M last i)+5 * i:=⟨_,rfl⟩
  rw [←hbb] at G1 G2
  have ubi:=R.ub (n:=i+1) (by lia)
  have sm:=R.sum (n:=i) (by exact Nat.le_of_lt ‹_›)
  have edn:dn M last i+1≤15:=by
   have:=List.length_pos_iff.mpr R.n
   unfold dn;lia
  obtain ⟨dg1,dg2⟩:=ac4 R i (by omega)
  have lw1:=ap4 G1.s0 G1.tz G1.e dg1
  have lw2:=ap4 G2.s0 G2.tz G2.e dg2
  have lead1:=K5 R (i+1) (by lia)
  subst_eqs
  refine ⟨pL,ys,L,rfl,SqL.of (s2' _ _ eL),nL.mono s2'.tups,vb,cl,by lia,v1,by lia,tL,fun r rs l sq wq H3 s3 fl er ers el bsq sq0 wbq wlq eq gq=>?_⟩
  have tq:=tzB sq0 eq tL
  refine ⟨_,_,sq,s1,wq,w1,bb+vb,rfl,⟨r,rs,l,rfl,SqT.of er,ers,SqL.of el⟩,G1.fm.same s3,bsq.mono (by simp),G1.bs.mono (by simp),fun v hv=>Nat.lt_of_lt_of_le (wbq v hv) (d6 (by omega)),fun v hv=>Nat.lt_of_lt_of_le (G1.bw v hv) (d6 (by omega)),by lia,by lia,by lia,fun rp H4 s4 fp=>?_⟩
  have bprod:BdN (bb+vb) (sq * s1):=by
   rw [Y6]
   have hb:(sq.den:Int) * s1.den≠0:=Int.mul_ne_zero (by have:=sq.den_nz;lia) (by have:=s1.den_nz;lia)
   have le:=K7 (t:=sq.num * s1.num) hb
   rw [Int.natAbs_mul,Int.natAbs_mul,Int.natAbs_natCast,Int.natAbs_natCast] at le
   exact ⟨Nat.lt_of_le_of_lt le.1 (by rw [Nat.add_comm,Nat.pow_add];exact Nat.mul_lt_mul'' bsq.n G1.bs.n),Nat.lt_of_le_of_lt le.2 (by rw [Nat.add_comm,Nat.pow_add];exact Nat.mul_lt_mul'' bsq.d G1.bs.d)⟩
  have bmul:∀ v∈ab0 wq w1,Int.natAbs v<2 ^ (bb+vb+5):=aR8 fun k=>Nat.lt_of_lt_of_le (bk4 (a:=vb) (b:=bb) (by lia) (aa0 wbq) (aa0 G1.bw) k) (d6 (by lia))
  have sp0:sq * s1≠0:=fun z=>by
   rcases Rat.mul_eq_zero.mp z with y | y
   ·exact sq0 y
   ·exact G1.s0 y
  have w1n:w1≠[]:=as4 G1.e (K5 R i (by exact Nat.le_of_lt ‹_›))
  have wqn:wq≠[]:=fun z=>by rw [z] at wlq;simp at wlq;lia
  have tprod:A6 (ab0 wq w1) (ab0 wq w1).length:=by
   have h1:scl (sq * s1) (ab0 wq w1)=R9 (scl sq wq) (scl s1 w1):=aS7 sq s1 wq w1
   have q1:scl sq wq≠[]:=fun z=>wqn (by have:=congrArg List.length z;rw [Q3] at this;exact List.length_eq_zero_iff.mp this)
   have q2:scl s1 w1≠[]:=fun z=>w1n (by have:=congrArg List.length z;rw [Q3] at this;exact List.length_eq_zero_iff.mp this)
   have t1:=tlB sq0 tq
   have t2:=tlB G1.s0 G1.tz
   have p1:=List.length_pos_iff.mpr q1
   have p2:=List.length_pos_iff.mpr q2
   have g1:=List.getElem?_eq_getElem (l:=scl sq wq) (show (scl sq wq).length - 1<(scl sq wq).length by lia)
   have g2:=List.getElem?_eq_getElem (l:=scl s1 w1) (show (scl s1 w1).length - 1<(scl s1 w1).length by lia)
   have lastm:=aW4 q1 q2 g1 g2
   refine tzB sp0 rfl ?_
   rw [h1]
   exact Y0 fun x hx=>by
    rw [lastm] at hx
    cases hx
    intro z
    rcases Rat.mul_eq_zero.mp z with y | y
    ·exact t1.last (by lia) _ g1 y
    ·exact t2.last (by lia) _ g2 y
  have lprod:(ab0 wq w1).length≤40:=by have:=aW3 (p:=wq) (q:=w1);lia
  refine ⟨_,_,sq * s1,s2,ab0 wq w1,w2,bb+vb+5,rfl,fp,G2.fm.same (s3.trans s4),bprod.mono (by simp),G2.bs.mono (by lia),sp0,G2.s0,fun v hv=>Nat.lt_of_lt_of_le (bmul v hv) (d6 (by simp)),fun v hv=>Nat.lt_of_lt_of_le (G2.bw v hv) (d6 (by omega)),by simp,by lia,lprod,by lia,tprod,G2.tz,fun v s' ws' H5 s5 fm5 s50 tz5 e5 alt=>?_⟩
  have ev:v6 s' * zp ws'=(fld M last (i+1)).1:=by
   rw [e5,ei,←G1.e,←G2.e,eq,T9,aY9,ao1];grind
  have ss:=s3.trans (s4.trans s5)
  refine ⟨s2'.trans ss,s',s1,ws',?_,w1,⟨G1.fm.same ss,G1.s0,G1.tz,G1.e,G1.bs.mono (by lia),fun v hv=>Nat.lt_of_lt_of_le (G1.bw v hv) (d6 (by omega))⟩⟩
  rcases alt with ⟨a1,a2⟩ | ⟨a1,a2⟩ | ⟨g5,_⟩
  ·exact ⟨fm5,s50,tz5,ev,by rw [a1];exact bprod.mono (by lia),by rw [a2];exact fun v hv=>Nat.lt_of_lt_of_le (bmul v hv) (d6 (by lia))⟩
  ·exact ⟨fm5,s50,tz5,ev,by rw [a1];exact G2.bs.mono (by omega),by rw [a2];exact fun v hv=>Nat.lt_of_lt_of_le (G2.bw v hv) (d6 (by omega))⟩
  ·obtain ⟨B,B0,hB,ov1,_⟩:=ov (i+1) (by lia)
   exact FS.of fm5 s50 tz5 ev B0 hB ov1 (by simp) g5 (as4 ev lead1)
 rintro σ H2 ⟨o2,v1,v2,s1,s2,w1,w2,rfl,S2,G1,G2⟩
 subst_eqs
 have sm:=R.sum (n:=M.length) (Nat.le_refl _)
 obtain ⟨dg1,dg2⟩:=ac4 R M.length (Nat.le_refl _)
 have lw1:=ap4 G1.s0 G1.tz G1.e dg1
 have lw2:=ap4 G2.s0 G2.tz G2.e dg2
 have lead1:=K5 R M.length (Nat.le_refl _)
 have edn:dn M last M.length+1≤15:=by
  have:=List.length_pos_iff.mpr R.n
  unfold dn;lia
 have ubm:=R.ub (n:=M.length) (Nat.le_refl _)
 have upm:=ad4 c (dn M last M.length)
 refine ⟨_,_,s1,s2,w1,w2,Ub c (dn M last M.length)+5 * M.length,rfl,G1.fm,G2.fm,G1.bs,G2.bs,G1.s0,G2.s0,G1.bw,G2.bw,by lia,by lia,by lia,by lia,G1.tz,G2.tz,fun v s' ws' H3 s3 fm3 s30 tz3 e3 alt=>?_⟩
 have ev:v6 s' * zp ws'=(fld M last M.length).1+(fld M last M.length).2:=by rw [e3,G1.e,G2.e]
 have F3:FS K H3 v ((fld M last M.length).1+(fld M last M.length).2) 1000 s' ws':=by
  rcases alt with ⟨a1,a2⟩ | ⟨a1,a2⟩ | ⟨g3,_⟩
  ·exact ⟨fm3,s30,tz3,ev,by rw [a1];exact G1.bs.mono (by lia),by rw [a2];exact fun v hv=>Nat.lt_of_lt_of_le (G1.bw v hv) (d6 (by omega))⟩
  ·exact ⟨fm3,s30,tz3,ev,by rw [a1];exact G2.bs.mono (by omega),by rw [a2];exact fun v hv=>Nat.lt_of_lt_of_le (G2.bw v hv) (d6 (by omega))⟩
  ·obtain ⟨B,B0,hB,ov1,ov2⟩:=ov M.length (Nat.le_refl _)
   refine FS.of fm3 s30 tz3 ev B0 (Nat.lt_of_lt_of_le hB (d6 (Nat.le_succ _))) (OvP.add B0 ov1 ov2) (by lia) g3 (as4 (k:=dn M last M.length) ev ?_)
   rw [V9,dg2 _ (Nat.le_refl _)]
   intro z
   exact lead1 (by rw [←z];grind)
 obtain ⟨r,rs,l,rfl,hr',hrs,hl⟩:=F3.fm
 have lw3:=ap4 F3.s0 F3.tz F3.e (n:=15) fun k hk=>by rw [V9,dg1 k (by exact Nat.lt_of_lt_of_le ‹_› ‹_›),dg2 k (by lia)];grind
 refine ⟨r,rfl,_,hr',rfl,_,_,rfl,_,_,rfl,rfl,?_⟩
 refine ⟨_,s',l,ws',rfl,⟨rs,rfl,hrs⟩,hl,Nat.lt_of_lt_of_le F3.bs.d (d6 (by decide)),Nat.lt_of_lt_of_le F3.bs.n (d6 (by decide)),fun v hv=>Nat.lt_of_lt_of_le (F3.bw v hv) (d6 (by decide)),by lia,fun r4 zs H4 s4 f4 e4 n4=>?_⟩
 exact k r4 zs _ H4 (S2.trans (s3.trans s4)) ((S2.trans s3).free f4) e4 n4 (tlB F3.s0 F3.tz) (by rw [T9,F3.e])
end
def pt (b:Nat) (p:Pf):Pf:=⟨fun k=>if k % 2=b % 2 then p.f k else 0⟩
def Un:List (List Rat)→Pf × Pf→Pf × Pf
 | [],x=>x
 | L :: Ls,x=>(qp L * (Un Ls x).1+(Un Ls x).2,(Un Ls x).1)
def run:Nat→Nat→Nat→Nat→Nat→Nat→Nat→Nat→Nat→Bool
 | 0,_,_,_,_,_,_,_,_=>false
 | f+1,a,b,wa,wb,na,da,nb,db=>
  decide (na≤2900∧da≤2900∧wa≤2000∧na+wa≤3900) &&
  (decide (b=0) || (decide (nb≤2900∧db≤2900∧wb≤2000∧nb+wb≤3900∧wa+(a - b+1) * (wb+1)≤2500∧da+((a - b+1) * wb+1)+nb+db≤3000∧na+db≤3900∧na+db+(wa+(a - b+1) * (wb+1))≤4000∧na+(wa+(a - b+1) * (wb+1))≤2900∧da+((a - b+1) * wb+1)≤2900) &&
   (List.range b).all fun c=>decide (0<c∧(a+c) % 2=1) || run f b c wb (if c≤2 then 1 else wa+(a - b+1) * (wb+1)) nb db (na+(wa+(a - b+1) * (wb+1))) (da+((a - b+1) * wb+1))))
def HBd (P:Program) (w:World) (K:PySem.W.Frag) (mg:Str→Option Value) (base:Heap) (k:Nat) (x:Str) (st:Stmt) (f:Addr) (N:List Str) (sp:Sp):Prop:=∀ (cdv:Value) (A:Around) (outer:List Env) (s:Shared) (H:Hp) (vs:List V) (Q:VK) (E:XK),Z2 k (A.deeper (envOfC x (d3 st) s.heap.objs.size f cdv))→sp vs H Q E→∃ t,PSs (ao9 CX0 P w K mg base N x (d3 st) f cdv A outer s H E).nox (i6 st) t∧t { nx:=fun _ H'=>Q .non H',rt:=Q } (start N vs) H
theorem aV6 {s t:Rat} {many:Int} {m na da nb db:Nat} (hm:1≤many) (mb:many.natAbs<2 ^ m) (t0:t≠0) (sn:s.num.natAbs<2 ^ na) (sd:s.den<2 ^ da) (tn:t.num.natAbs<2 ^ nb) (td:t.den<2 ^ db):(s / (many:Rat) / t).num.natAbs<2 ^ (na+db)∧(s / (many:Rat) / t).den<2 ^ (da+m+nb):=by
 have mi:(many:Int)≠0:=by omega
 have tn0:t.num≠0:=fun w=>t0 (Rat.num_eq_zero.mp w)
 obtain ⟨q,hq,qn,qd⟩:=aV4 (s:=s) (g:=(t.den:Int)) (many:=many * t.num) (Int.mul_ne_zero mi tn0)
 have e:s / (many:Rat) / t=q:=by
  rw [hq,Rat.div_def,Rat.div_def,Rat.intCast_mul,Rat.inv_mul_rev]
  have h4:t⁻¹=((t.den:Int):Rat) * (t.num:Rat)⁻¹:=by
   have h5:t=(t.num:Rat) * (t.den:Rat)⁻¹:=by
    have:=Rat.num_divInt_den t
    rw [Rat.divInt_eq_div,Rat.div_def] at this
    exact this.symm
   conv=>lhs;rw [h5]
   rw [Rat.inv_mul_rev,Rat.inv_inv,Rat.intCast_natCast]
  rw [h4];grind
 rw [e]
 rw [Int.natAbs_natCast] at qn
 rw [Int.natAbs_mul] at qd
 refine ⟨Nat.lt_of_le_of_lt qn ?_,Nat.lt_of_le_of_lt qd ?_⟩
 ·have:=Nat.mul_lt_mul'' sn td
  rw [←Nat.pow_add] at this
  exact this
 ·have h1:=Nat.mul_lt_mul'' mb tn
  rw [←Nat.pow_add] at h1
  have h2:=Nat.mul_lt_mul'' sd h1
  rw [←Nat.pow_add,←Nat.add_assoc] at h2
  exact h2
structure EB (f wa wb na da nb db al:Nat) (s t:Rat) (A B:List Int):Prop where
 ok:run f A.length B.length wa wb na da nb db=true
 wA:∀ v∈A,Int.natAbs v<2 ^ wa
 wB:∀ v∈B,Int.natAbs v<2 ^ wb
 sn:s.num.natAbs<2 ^ na
 sd:s.den<2 ^ da
 tn:B≠[]→t.num.natAbs<2 ^ nb
 td:B≠[]→t.den<2 ^ db
 w1:1≤wa∧1≤wb
 gB:B≠[]→u8 B=1
 tA:A6 A A.length
 tB:A6 B B.length
 lB:B.length<A.length
 s0:s≠0
 t0:t≠0
 pA:Par al (zp A)
 pB:Par (al+1) (zp B)
structure Told (M:List (List Rat)) (last:List Rat):Prop where
 m:∀ L∈M,A7 L L.length∧2≤L.length∧evZ L=true∧L.length≤15
 t:A7 last last.length
 n:last≠[]
 p:evZ last=true∨odZ last=true
 ll:last.length≤15
 lM:M.length≤14
 top:∃ B,0<B∧B<2 ^ 3000∧OvP B 4000 (fld M last M.length).1∧Dg (fld M last M.length).1.f 15
 b:∀ n,n<M.length→∃ L B1 B2,M[M.length - 1 - n]? = some L∧0<B1∧0<B2∧B1 * B2<2 ^ 3000∧(∀ x∈L,OvB B1 4000 x)∧OvP B2 4000 (fld M last n).1∧Dg (fld M last n).1.f 15
section
variable {P:Program} {w:World} {K:PySem.W.Frag} {mg:Str→Option Value} {base:Heap}
def aS6 (K:PySem.W.Frag):Sp:=fun vs H Q _=>∃ (a b:Addr) (s1 s2:Rat) (one other:List Int) (n S W1 W2 b1 b2:Nat),vs=[.ref a,.ref b]∧bm6 K H a s1 one∧bm6 K H b s2 other∧one.length≤30∧other.length=n+1∧n≤30∧aZ other n≠0∧A6 one one.length∧one.length≤n+S∧(∀ v∈one,Int.natAbs v<2 ^ W1)∧(∀ v∈other,Int.natAbs v<2 ^ W2)∧1≤W1∧W1+S * (W2+1)≤2900∧W2≤2900∧b1+(S * W2+1)≤2990∧b2≤2900∧BdN b1 s1∧s1≠0∧BdN b2 s2∧s2≠0 ∧
 ∀ r t1 t2 r1 r2 lq lr s4 many Qz R0 Rz H',d5 H H'→H lq=none→H lr=none→H' r=some (.tup [.ref t1,.ref t2])→H' t1=some (.tup [.ref r1,.ref lq])→H' t2=some (.tup [.ref r2,.ref lr])→SqT K H' r1 (t8 (s1 / ((many:Int):Rat) / s2))→SqT K H' r2 (t8 s4)→H' lq=some (.lst (Qz.map V.int))→H' lr=some (.lst (Rz.map V.int)) →
  1≤many→many.natAbs<2 ^ (S * W2+1)→(∀ v∈R0,Int.natAbs v<2 ^ (W1+S * (W2+1)))→s1 / ((many:Int):Rat) / s2≠0→s4≠0→(∀ v∈Qz,Int.natAbs v<2 ^ (W1+S * (W2+1)))→Rz.length≤n→A6 Rz Rz.length→A6 Qz Qz.length→Qz.length=one.length - n→(Rz≠[]→u8 Rz=1)→scl s4 Rz=scl (s1 / ((many:Int):Rat)) R0→(∀ v∈Rz,Int.natAbs v<2 ^ (W1+S * (W2+1)))→v6 s1 * zp one=v6 (s1 / ((many:Int):Rat) / s2) * zp Qz * (v6 s2 * zp other)+v6 s4 * zp Rz→(0<s1→0<s2→0<s1 / ((many:Int):Rat) / s2∧0<s4)→Q (.ref r) H'
set_option maxHeartbeats 0 in
theorem ao3 {f f1 f2 f3:Addr} (d:Df K mg "form_divided" D0 ["one","other"] f) (G_whole_divided:Def P w K mg base CX0 2 "whole_divided" f1 ["one","other"] (bw6 K)) (G_over:Def P w K mg base CX0 3 "over" f2 ["one","other"] (aN9 K)) (GP_formed:Def P w K mg base CX0 3 "formed" f3 ["scale","wholes"] (aA3 K)):Def P w K mg base CX0 4 "form_divided" f ["one","other"] (aS6 K):=by
 have G_formed:=GP_formed
 refine d.ok (N:=["one","other","scale","many","quotient","rest"]) K4 (by rintro vs H Q E ⟨_,_,_,_,_,_,_,_,_,_,_,_,h,_⟩;rw [h];rfl) (fun cdv A outer s H vs Q E hr h=>?_)
 obtain ⟨a,b,s1,s2,one,other,n,S,W1,W2,b1,b2,rfl,⟨ra,la,ta,tsa,tla⟩,⟨ab,lb,tb,tsb,tlb⟩,hl1,hl2,hn,h0,ht1,hS1,hw1,hw2,w11,hT,hT2,hT3,hT4,bs1,s10,bs2,s20,k⟩:=h
 refine ⟨_,(b9 (K8 (d9 G_whole_divided hr (b6 (j8 p8 (pv 0) d4 (fun _ _=>rfl)) (b6 (j8 p8 (pv 1) d4 (fun _ _=>rfl)) b7)) i5) (show PG _ _ (P3 K 3 (p5 (n8 3) (p5 (n8 4) (p5 (n8 5) P4)))) from by (refine B5 (n:=3) ?_ ?_ ?_ ?_;rfl;(refine g7 ?_ ?_ ?_;(exact (e8 (i:=3) K4.nd rfl (Or.inl rfl)));(refine g7 ?_ ?_ ?_;(exact (e8 (i:=4) K4.nd rfl (Or.inl rfl)));(refine g7 ?_ ?_ ?_;(exact (e8 (i:=5) K4.nd rfl (Or.inl rfl)));(exact v9);rfl);rfl);rfl);rfl;rfl)))
   (b9 (i7 (i:=2) K4.nd rfl (Or.inl rfl) (d9 G_over hr (b6 (j8 p8 (pv 0) d4 (fun _ _=>rfl)) (b6 (j9 (b6 (pv 3) (b6 d4 b7))) b7)) i5))
   (d7 (g8 (j9 (b6 (j9 (b6 (d9 G_over hr (b6 (pv 2) (b6 (j8 p8 (pv 1) d4 (fun _ _=>rfl)) b7)) i5) (b6 (pv 4) b7))) (b6 (d9 G_formed hr (b6 (pv 2) (b6 (pv 5) b7)) i5) b7))))))),?_⟩
 rw [show start ["one","other","scale","many","quotient","rest"] [.ref a,.ref b]=[some (.ref a),some (.ref b),none,none,none,none] from rfl]
 have hSW:S * (W2+1)=S * W2+S:=by rw [Nat.mul_succ]
 subst_eqs
 refine ⟨_,ta,_,rfl,_,tb,_,rfl,la,lb,one,other,n,S,W1,W2,rfl,tla,tlb,hl1,hl2,hn,h0,ht1,hS1,hw1,hw2,by omega,by lia,fun r lq lr many Qz Rz H1 s1' fq fr nqr er eq elr m1 mb qb rb rl rt ql qt dv=>?_⟩
 refine ⟨r,rfl,_,SqT.of er,rfl,_,_,rfl,_,_,rfl,_,_,rfl,rfl,?_⟩
 have mq:(many:Rat)≠0:=fun z=>by
  have:=congrArg Rat.num z
  rw [Rat.num_intCast] at this
  have h00:(0:Rat).num=0:=rfl
  lia
 have bm:BdN (S * W2+1) ((many:Int):Rat):=aQ8 mb (by simp)
 refine ⟨_,s1'.tup ta,_,rfl,y7,fun p hp=>?_⟩
 have S1:=d5.new hp (.tup [.int many,.int 1])
 have ep:(upd H1 p (.tup [.int many,.int 1])) p=some (.tup (t8 ((many:Int):Rat))):=by
  rw [b8];unfold t8;rw [Rat.num_intCast,Rat.den_intCast];rfl
 refine ⟨.ref ra,.ref p,s1,_,rfl,⟨ra,rfl,(s1'.trans S1).tup tsa⟩,⟨p,rfl,SqT.of ep⟩,bs1.bd6 (by lia),bm.bd6 (by lia),mq,fun p2 H2 s2' e2=>?_⟩
 have T2:=(s1'.trans S1).trans s2'
 have b3:BdN (b1+(S * W2+1)) (s1 / ((many:Int):Rat)):=by
  rw [Rat.div_def]
  exact (bs1.mul (bo5 mq bm)).mono (by simp)
 have z3:s1 / ((many:Int):Rat)≠0:=fun z=>by
  rw [Rat.div_def] at z
  have:=Rat.mul_inv_cancel _ mq
  generalize ((many:Int):Rat)⁻¹=u at *
  generalize ((many:Int):Rat)=y at *
  exact s10 (by grind)
 refine ⟨_,T2.tup tb,_,rfl,.ref p2,.ref ab,_,s2,rfl,⟨p2,rfl,SqT.of e2⟩,⟨ab,rfl,T2.tup tsb⟩,b3.bd6 (by lia),bs2.bd6 (by lia),s20,fun p3 H3 s3' e3=>⟨y7,fun p4 hp4=>?_⟩⟩
 have S4:=d5.new hp4 (.tup [.ref p3,.ref lq])
 have T4:=(S1.trans s2').trans (s3'.trans S4)
 refine ⟨.ref p2,_,lr,Rz,W1+S * (W2+1),b1+(S * W2+1),rfl,⟨p2,rfl,SqT.of (S4 _ _ (s3' _ _ e2))⟩,b3,z3,SqL.of (T4 _ _ elr),rb,by lia,by lia,by lia,rt,fun r5 rs5 l5 s5 ws5 H5 s5' f5 e5 es5 el5 b5 z5 wb5 wl5 eq5 g5 pp5=>⟨y7,fun p6 hp6=>?_⟩⟩
 have S6:=d5.new hp6 (.tup [.ref p4,.ref r5])
 have T6:=s5'.trans S6
 have z30:s1 / ((many:Int):Rat) / s2≠0:=fun z=>by
  rw [Rat.div_def _ s2] at z
  rcases Rat.mul_eq_zero.mp z with y | y
  ·exact z3 y
  ·have:=Rat.mul_inv_cancel _ s20
   rw [y] at this
   have e0:s2 * 0=0:=by grind
   rw [e0] at this
   exact absurd this (by decide)
 have tz5:A6 ws5 ws5.length:=tzB z5 rfl (by rw [eq5];exact tlB z3 rt)
 have idt:v6 ((many:Int):Rat) * zp one=zp Qz * zp other+zp Rz:=Pf.ext fun k=>by
  rw [ax9,V9,aO8]
  exact dv k
 have c1:v6 (s1 / ((many:Int):Rat)) * v6 ((many:Int):Rat)=v6 s1:=by
  rw [←ao1,Rat.div_def]
  have:=Rat.mul_inv_cancel _ mq
  congr 1
  generalize ((many:Int):Rat)⁻¹=y at *
  generalize ((many:Int):Rat)=m at *
  grind
 have c2:v6 (s1 / ((many:Int):Rat) / s2) * v6 s2=v6 (s1 / ((many:Int):Rat)):=by
  rw [←ao1,Rat.div_def _ s2]
  have:=Rat.mul_inv_cancel _ s20
  congr 1
  generalize s2⁻¹=y at *
  generalize s1 / ((many:Int):Rat)=m at *
  grind
 have c3:v6 s5 * zp ws5=v6 (s1 / ((many:Int):Rat)) * zp Rz:=by rw [←T9,eq5,T9]
 have mpos:0<((many:Int):Rat):=Rat.intCast_pos.mpr (by lia)
 have dpos:∀ {x y:Rat},0<x→0<y→0<x / y:=fun {x y} hx hy=>by rw [Rat.div_def];exact Rat.mul_pos hx (Rat.inv_pos.mpr hy)
 refine k p6 p4 r5 p3 rs5 lq l5 s5 many Qz Rz ws5 _ (s1'.trans (T4.trans T6)) fq ((s1'.trans T4).free f5) b8 (T6 _ _ b8) (S6 _ _ e5) (SqT.of (T6 _ _ (S4 _ _ e3))) (S6.tup es5) (T6 _ _ (T4 _ _ eq)) (S6 _ _ el5) m1 mb rb z30 z5 qb (by lia) tz5 qt ql g5 eq5 wb5 ?_ (fun h1 h2=>⟨?_,pp5 ?_⟩)
 ·rw [c3,←c1]
  generalize v6 (s1 / ((many:Int):Rat) / s2)=A at *
  generalize v6 (s1 / ((many:Int):Rat))=B at *
  generalize v6 ((many:Int):Rat)=C at *
  grind
 ·exact dpos (dpos h1 mpos) h2
 ·exact dpos h1 mpos
end
section
variable {P:Program} {w:World} {K:PySem.W.Frag} {mg:Str→Option Value} {base:Heap}
def ba9 (K:PySem.W.Frag):Sp:=fun vs H Q _=>∃ a xs qs,vs=[.ref a]∧SqL K H a xs∧B8 K H xs qs∧∀ m r,A7 qs m→H r=none→Q (.ref r) (upd H r (.lst (xs.take m)))
abbrev ah5:Stmt:=top 55
theorem aE9:i8 ["numbers","many"] ["numbers"] (d3 ah5):=by and_intros
set_option maxHeartbeats 0 in
theorem bj9 {f aN:Addr} (d:Df K mg "poly" ah5 ["numbers"] f) (c_NOUGHT:mg "NOUGHT" = some (.ref aN)) (tN:∀ H,SqT K H aN (t8 0)) (n_len:mg "len" = none):Def P w K mg base CX0 1 "poly" f ["numbers"] (ba9 K):=by
 refine d.ok (N:=["numbers","many"]) aE9 (fun vs H Q E ⟨a,xs,qs,h,_⟩=>by rw [h];rfl) (fun cdv A outer s H vs Q E hr h=>?_)
 obtain ⟨a,xs,qs,rfl,hS,hN,k⟩:=h
 have hu:=hr.units
 refine ⟨_,(b9 (i7 (i:=1) aE9.nd rfl (Or.inl rfl) (d8 i3 rfl n_len (by decide +kernel) (b6 (pv 0) b7)))
   (b9 (V1 PassesOwn.never (PW.pt (am7 (C4 (pv 1) (fun _=>rfl)) (af7 (j3 (ae0 hu) (j8 u7 (pv 0) (g6 N3 (pv 1) d4) (fun _ _=>rfl)) (v4 (v:=.ref _) rfl c_NOUGHT rfl) (j6 _))))) (d7 (aO7 (i:=1) aE9.nd rfl (Or.inl rfl) d4 aQ7)))
   (d7 (g8 (V2 Z4 (pv 0) R4 (R3 (pv 1))))))),?_⟩
 rw [show start ["numbers","many"] [.ref a]=[some (.ref a),none] from rfl]
 subst_eqs
 refine ⟨_,.inl hS,?_⟩
 refine X8 (fun σ H1=>H1=H∧∃ m:Nat,σ=[some (.ref a),some (.int m)]∧m≤qs.length∧(∀ (i:Nat) (q:Rat),m≤i→qs[i]? = some q→q=0)) (fun σ H1=>match σ with | [_,some (.int y)]=>y.toNat | _=>0)
  ⟨rfl,qs.length,by rw [hN.length],Nat.le_refl _,fun i q hi e=>by rw [List.getElem?_eq_none hi] at e;cases e⟩ ?_
 rintro σ H1 ⟨rfl,m,rfl,hm,hz⟩
 simp! [aa4]
 have fin:(m≠0→∀ q,qs[m - 1]? = some q→q≠0)→∀ p,H1 p=none→Q (.ref p) (upd H1 p (.lst (al3 xs none (some (m:Int))))):=fun hl p hp=>by
  rw [aw8 xs (by rw [hN.length];exact hm)]
  exact k m p ⟨hm,hz,hl⟩ hp
 refine t9 (fun h0=>?_) (fun h0=>?_)
 ·have h0':m≠0:=fun z=>by subst z;simp at h0
  have hlt:m - 1<qs.length:=by lia
  obtain ⟨pv,hv,hpv⟩:=hN.get (List.getElem?_eq_getElem hlt)
  have ei:((m:Int) - 1)=((m - 1:Nat):Int):=by lia
  rw [ei]
  refine ⟨_,hS,_,F7 hv,?_⟩
  refine ⟨w9 qs[m - 1],w9 0,rfl,M9 hpv.sqt,M9 (tN _),ak6 _ _,aR1 _,?_⟩
  rw [al1]
  refine ⟨_,rfl,t9 (fun hn=>?_) (fun hn=>?_)⟩
  ·have hn':qs[m - 1]=0:=by simpa using hn
   refine WhB.mk ?_
   subst_eqs
   refine WhN.mk ⟨rfl,m - 1,by rw [ei],by exact Nat.le_of_lt ‹_›,fun i q hi e=>?_⟩ ?_
   ·by_cases hi':i=m - 1
    ·subst hi'
     rw [List.getElem?_eq_getElem hlt] at e
     cases e
     exact hn'
    ·exact hz i q (by lia) e
   ·show ((m:Int) - 1).toNat<(m:Int).toNat
    lia
  ·refine ⟨_,hS,fin fun _ q e=>?_⟩
   rw [List.getElem?_eq_getElem hlt] at e
   cases e
   intro z
   exact hn (by simp [z])
 ·have h0':m=0:=by
   by_cases z:m=0
   ·exact z
   ·exact absurd (by simp [z]) h0
  exact ⟨_,hS,fin fun h=>absurd h0' h⟩
end
section
variable {P:Program} {w:World} {K:PySem.W.Frag} {mg:Str→Option Value} {base:Heap}
def F6 (b:Nat) (ps:List Rat):List Rat:=ps.mapIdx fun j q=>if (ps.length - 1+j) % 2=b then q else 0
theorem as8 (b:Nat) (ps:List Rat) (i:Nat):(F6 b ps)[i]? = (ps[i]?).map fun q=>if (ps.length - 1+i) % 2=b then q else 0:=by
 unfold F6
 rw [List.getElem?_mapIdx]
theorem ai7 (b:Nat) (ps:List Rat):(F6 b ps).length=ps.length:=by unfold F6;rw [List.length_mapIdx]
theorem bn0 {a D aO:Addr} {xs:List V} {ps:List Rat} {H1:Hp} {Q:VK} {b:Nat} {te:TE} (hS:SqL K H1 a xs) (hN:q8 H1 xs ps) (hD:H1 D=none) (hl:ps.length≤30) (tO:∀ H,SqT K H aO (t8 0))
  (hte:∀ (j:Nat) (p:Addr) (H2:Hp) (Q2:VK),j<ps.length→((ps.length - 1+j) % 2=b→Q2 (.ref p) H2)→((ps.length - 1+j) % 2≠b→Q2 (.ref aO) H2)→te [some (.int ((xs.length:Int) - 1)),some (.int j),some (.ref p)] H2 Q2)
  (k:∀ ys H2,d5 H1 H2→H2 D=some (.lst ys)→B8 K H2 ys (F6 b ps)→Q (.ref D) H2):al9 (Ite K a) D [some (V.int ((xs.length:Int) - 1)),none,none] (upd H1 D (.lst [])) (P3 K 2 (p5 (n8 1) (p5 (n8 2) P4))) te Q:=by
 have lx:=hN.length
 refine bl7 xs (fun i σ H2=>∃ o1 o2,σ=[some (.int ((xs.length:Int) - 1)),o1,o2]∧d5 H1 H2∧∃ ys,H2 D=some (.lst ys)∧B8 K H2 ys ((F6 b ps).take i)) ⟨_,_,rfl,d5.new hD _,[],b8,.nil⟩ (by rintro i σ H2 ⟨_,_,_,s2,_⟩;exact s2.seq hS) ?_ ?_
 ·rintro i x σ H2 p1 hx ⟨o1,o2,rfl,s2,ys,e2,n2⟩ hp1
  obtain ⟨p,q,rfl,hq,hpn⟩:=hN.getV hx
  have hi:=(List.getElem?_eq_some_iff.mp hx).1
  have s3:=d5.new hp1 (.tup [.int i,.ref p])
  have hm:=as8 b ps i
  rw [hq] at hm
  subst_eqs
  refine ⟨_,SqT.of b8,rfl,_,_,rfl,_,_,rfl,rfl,?_⟩
  have fin:∀ (p2:Addr) q2,(F6 b ps)[i]? = some q2→NmC K (upd H2 p1 (.tup [.int i,.ref p])) p2 q2→G8 D xs.length (fun i σ H2=>∃ o1 o2,σ=[some (.int ((xs.length:Int) - 1)),o1,o2]∧d5 H1 H2∧∃ ys,H2 D=some (.lst ys)∧B8 K H2 ys ((F6 b ps).take i)) i [some (.int ((xs.length:Int) - 1)),some (.int i),some (.ref p)] (.ref p2) (upd H2 p1 (.tup [.int i,.ref p])):=by
   intro p2 q2 hq2 e6
   have eD:=s3 _ _ e2
   refine G8.mk hi eD ?_ ⟨_,_,rfl,(s2.trans s3).over hD _,_,b8,?_⟩
   ·rw [n2.length,List.length_take]
    exact Nat.lt_of_le_of_lt (show _≤100 by lia) (by decide)
   ·rw [List.take_succ,hq2]
    exact ((n2.mono s3.tups).append (.cons e6 .nil)).mono (ac8.lst eD)
  refine hte i p _ _ (by lia) (fun h=>fin p q ?_ (.inl (s3 _ _ (s2 _ _ hpn)))) (fun h=>fin aO 0 ?_ (.inr tO))
  ·rw [hm];show some (if _ then q else 0)=_;rw [if_pos h]
  ·rw [hm];show some (if _ then q else 0)=_;rw [if_neg h]
 ·rintro σ H2 ⟨o1,o2,rfl,s2,ys,e2,n2⟩
  rw [lx,←ai7 b ps,List.take_length] at n2
  exact k ys H2 s2 e2 n2
def aE5 (K:PySem.W.Frag):Sp:=fun vs H Q _=>∃ (a:Addr) (xs:List V) (ps:List Rat),vs=[.ref a]∧SqL K H a xs∧q8 H xs ps∧ps.length≤30 ∧
 ∀ r l1 l2 y1 y2 m H',d5 H H'→H l1=none→H' r=some (.tup [.ref l1,.ref l2])→H' l1=some (.lst y1)→H' l2=some (.lst y2)→B8 K H' y1 (F6 0 ps)→B8 K H' y2 ((F6 1 ps).take m)→A7 (F6 1 ps) m→Q (.ref r) H'
abbrev J3:Stmt:=top 58
theorem Z7:i8 ["p","lead","first","second"] ["p"] (d3 J3):=by and_intros
set_option maxHeartbeats 0 in
theorem aL3 {f f1 aO:Addr} (d:Df K mg "by_turns" J3 ["p"] f) (G_poly:Def P w K mg base CX0 1 "poly" f1 ["numbers"] (ba9 K)) (c_NOUGHT:mg "NOUGHT" = some (.ref aO)) (tO:∀ H,SqT K H aO (t8 0)) (n_len:mg "len" = none) (n_enumerate:mg "enumerate" = none):Def P w K mg base CX0 2 "by_turns" f ["p"] (aE5 K):=by
 refine d.ok (N:=["p","lead","first","second"]) Z7 (by rintro vs H Q E ⟨_,_,_,h,_⟩;rw [h];rfl) (fun cdv A outer s H vs Q E hr h=>?_)
 obtain ⟨a,xs,ps,rfl,hS,hN,hl,k⟩:=h
 have hu:=hr.units
 refine ⟨_,(b9 (i7 (i:=1) Z7.nd rfl (Or.inr rfl) (g6 N3 (d8 i3 rfl n_len (by decide +kernel) (b6 (pv 0) b7)) d4))
   (b9 (P2 (i₀:=2) Z7.nd rfl (Or.inl rfl) (Nc:=["lead","place","number"]) (caps:=[some 1,none,none]) rfl (Z3.of (osc:=d3 J3) (N:=["p","lead","first","second"]) (ks:=["lead"]) rfl rfl rfl rfl (F8 rfl D3) (by decide +kernel)) (Z8 rfl n_enumerate (b6 (pv 0) b7)) (fun C s₂ H₂ fp pins=>(show PG _ _ (P3 K 2 (p5 (n8 1) (p5 (n8 2) P4))) from by (refine B5 (n:=2) ?_ ?_ ?_ ?_;rfl;(refine g7 ?_ ?_ ?_;(exact (e8 (i:=1) (show List.Nodup (["lead","place","number"]:List Str) by decide +kernel) rfl (Or.inl rfl) (Or.inr rfl)));(refine g7 ?_ ?_ ?_;(exact (e8 (i:=2) (show List.Nodup (["lead","place","number"]:List Str) by decide +kernel) rfl (Or.inl rfl) (Or.inr rfl)));(exact v9);rfl);rfl);rfl;rfl))) (fun C s₂ H₂ fp pins=>(Y4 (show PT _ _ (as9 K _) from by exact (aB1 (g6 bd7 (g6 N3 (pv 0) (pv 1)) d4) (fun _=>rfl))) (v4 (v:=.ref _) rfl c_NOUGHT rfl) (pv 2))))
   (b9 (P2 (i₀:=3) Z7.nd rfl (Or.inl rfl) (Nc:=["lead","place","number"]) (caps:=[some 1,none,none]) rfl (Z3.of (osc:=d3 J3) (N:=["p","lead","first","second"]) (ks:=["lead"]) rfl rfl rfl rfl (F8 rfl D3) (by decide +kernel)) (Z8 rfl n_enumerate (b6 (pv 0) b7)) (fun C s₂ H₂ fp pins=>(show PG _ _ (P3 K 2 (p5 (n8 1) (p5 (n8 2) P4))) from by (refine B5 (n:=2) ?_ ?_ ?_ ?_;rfl;(refine g7 ?_ ?_ ?_;(exact (e8 (i:=1) (show List.Nodup (["lead","place","number"]:List Str) by decide +kernel) rfl (Or.inl rfl) (Or.inr rfl)));(refine g7 ?_ ?_ ?_;(exact (e8 (i:=2) (show List.Nodup (["lead","place","number"]:List Str) by decide +kernel) rfl (Or.inl rfl) (Or.inr rfl)));(exact v9);rfl);rfl);rfl;rfl))) (fun C s₂ H₂ fp pins=>(Y4 (show PT _ _ (as9 K _) from by exact (aB1 (g6 bd7 (g6 N3 (pv 0) (pv 1)) d4) (fun _=>rfl))) (pv 2) (v4 (v:=.ref _) rfl c_NOUGHT rfl))))
   (d7 (g8 (j9 (b6 (pv 2) (b6 (d9 G_poly hr (b6 (pv 3) b7) i5) b7)))))))),?_⟩
 rw [show start ["p","lead","first","second"] [.ref a]=[some (.ref a),none,none,none] from rfl]
 subst_eqs
 have lx:=hN.length
 have par:∀ j:Nat,j<ps.length→(((xs.length:Int) - 1 - (j:Int)) % 2 != 0)=decide ((ps.length - 1+j) % 2=1):=fun j hj=>by
  rw [lx]
  by_cases z:(ps.length - 1+j) % 2=1
  ·rw [decide_eq_true z]
   have:((ps.length:Int) - 1 - (j:Int)) % 2≠0:=by lia
   simpa using this
  ·rw [decide_eq_false z]
   have:((ps.length:Int) - 1 - (j:Int)) % 2=0:=by lia
   rw [this];rfl
 refine ⟨xs,.inl hS,⟨_,hS⟩,fun D hD=>bn0 (b:=0) (aO:=aO) hS hN hD hl tO (fun j p H2 Q2 hj h0 h1=>?_) fun y1 H1 s1 e1 n1=>?_⟩
 ·simp! [aa4]
  rw [bitAnd_m1,par j hj]
  refine t9 (fun z=>h1 ?_) (fun z=>h0 ?_)
  ·have:=of_decide_eq_true z
   lia
  ·have : ¬ (ps.length - 1+j) % 2=1:=fun y=>z (decide_eq_true y)
   lia
 refine ⟨⟨_,s1.seq hS⟩,fun D2 hD2=>bn0 (b:=1) (aO:=aO) (s1.seq hS) (hN.mono s1.tups) hD2 hl tO (fun j p H2 Q2 hj h0 h1=>?_) fun y2 H2 s2 e2 n2=>?_⟩
 ·simp! [aa4]
  rw [bitAnd_m1,par j hj]
  refine t9 (fun z=>h0 (of_decide_eq_true z)) (fun z=>h1 fun y=>z (decide_eq_true y))
 refine ⟨D2,y2,F6 1 ps,rfl,SqL.of e2,n2,fun m r tm hr'=>⟨y7,fun p hp=>?_⟩⟩
 have X1:=d5.new hr' (.lst (y2.take m))
 have X2:=d5.new hp (.tup [.ref D,.ref r])
 have X:=X1.trans X2
 exact k p D r y1 (y2.take m) m _ (s1.trans (s2.trans X)) hD b8 (X _ _ (s2 _ _ e1)) (X2 _ _ b8) (n1.mono (s2.trans X).tups) ((n2.take m).mono X.tups) tm
end
section
variable {P:Program} {w:World} {K:PySem.W.Frag} {mg:Str→Option Value} {base:Heap}
abbrev O9:Stmt:=top 85
theorem U9:i8 ["_law_top","_law_bottom","_law_one","_law_other_here"] ["_law_top","_law_bottom"] (d3 O9):=by and_intros
theorem aL5 {f:Addr} (d:Df K mg "_law_low" O9 ["_law_top","_law_bottom"] f) (n_abs:mg "abs" = none):Def P w K mg base CX0 1 "_law_low" f ["_law_top","_law_bottom"] aA2:=by
 refine d.ok (N:=["_law_top","_law_bottom","_law_one","_law_other_here"]) U9 (fun vs H Q E ⟨a,b,h,_⟩=>by rw [h];rfl) (fun cdv A outer s H vs Q E hr h=>?_)
 obtain ⟨t,b,rfl,hb0,hb,k⟩:=h
 refine ⟨_,(b9 (i7 (i:=2) U9.nd rfl (Or.inl rfl) (d8 Z0 rfl n_abs (by decide +kernel) (b6 (pv 0) b7)))
   (b9 (i7 (i:=3) U9.nd rfl (Or.inl rfl) (d8 Z0 rfl n_abs (by decide +kernel) (b6 (pv 1) b7)))
   (b9 (V1 PassesOwn.never (j3 aj8 (pv 3) d4 (j6 _)) (d7 (V8 (i:=2) (j:=3) rfl U9.nd rfl rfl (by decide) rfl rfl (b6 (pv 3) (b6 (g6 R8 (pv 2) (pv 3)) b7)) rfl)))
   (b9 (A0 (j3 ad0 (pv 1) d4 (j6 _)) (d7 (i7 (i:=2) U9.nd rfl (Or.inl rfl) (g6 N3 d4 (pv 2)))) m8)
   (d7 (g8 (j9 (b6 (g6 C1 (pv 0) (pv 2)) (b6 (g6 C1 (pv 1) (pv 2)) b7))))))))),?_⟩
 rw [show start ["_law_top","_law_bottom","_law_one","_law_other_here"] [.int t,.int b]=[some (.int t),some (.int b),none,none] from rfl]
 subst_eqs
 refine aJ0 (fun σ H1=>H1=H∧∃ x y:Int,σ=[some (.int t),some (.int b),some (.int x),some (.int y)]∧0≤x∧0≤y∧Int.gcd x y=Int.gcd t b) (fun σ _=>match σ with | [_,_,_,some (.int y)]=>y.natAbs | _=>0)
  ⟨rfl,_,_,rfl,by split <;> lia,by split <;> lia,?_⟩ ?_ ?_
 ·have e1:(if t<0 then -t else t)=(t.natAbs:Int):=by split <;> lia
  have e2:(if b<0 then -b else b)=(b.natAbs:Int):=by split <;> lia
  rw [e1,e2,Int.gcd_eq_natAbs_gcd_natAbs,Int.gcd_eq_natAbs_gcd_natAbs];simp
 ·rintro σ H1 ⟨rfl,x,y,rfl,hx,hy,hg⟩
  subst_eqs
  split
  ·rename_i hy0
   exact ⟨by omega,hy,Int.fmod_nonneg_of_pos x hy0,by rw [aM7];exact hg,ae1 x (by omega)⟩
  ·rename_i hy0
   have hy':y=0:=by lia
   subst hy'
   have ex:x=(Int.gcd t b:Int):=by
    rw [Int.gcd_zero_right] at hg
    lia
   have gp:=N0 (t:=t) hb0
   have gl:=av7 (a:=t) hb0 hb
   by_cases hs:b<0
   ·rw [if_pos hs]
    obtain ⟨e1,e2⟩:=aH0 (t:=t) (g:=0 - x) hb0 (by rw [if_pos hs,ex];simp)
    have dv:∀ i,ax3 i (0 - x):=fun i=>V5 (by lia) (by rw [show 0 - x = -x by simp,Int.natAbs_neg,ex];exact B6 gl)
    refine ⟨dv _,dv _,y7,fun r hr'=>?_⟩
    exact k r _ (d5.new hr' _) (by rw [b8];unfold t8;rw [e1,e2])
   ·rw [if_neg hs]
    obtain ⟨e1,e2⟩:=aH0 (t:=t) (g:=x) hb0 (by rw [if_neg hs,ex])
    have dv:∀ i,ax3 i x:=fun i=>V5 (by lia) (by rw [ex];exact B6 gl)
    refine ⟨dv _,dv _,y7,fun r hr'=>?_⟩
    exact k r _ (d5.new hr' _) (by rw [b8];unfold t8;rw [e1,e2])
 ·intro σ H1 Q1 Q2 hQ h
  simp only [bu0,ipM,as9,bc2,aJ5,at2,ba0,bt9,bq3,ba3,tSl,bp4,aZ7,aE2,bq2,bq4,aF5,bf5,Z9,List.map_cons,List.map_nil,Option.bind_none,Option.bind_some,Option.join_some,bi0,bp7,bp9,tOr,bp5,aJ3,tB,tOp,tUn,bi5,tBM,aa6,tC,tCB,bi1,ba4,n8,bu3,P3,p5,P4,ag5,aJ4,bi2,bh9,bp6,tIf,ba5,aZ8,bi3,aE3,ba1,aZ9,aN8,aN7,bp8,ipI,rI,rI0,rU,aF4,aO2,bj2,bc1,rEq,rNe,aO4,aO3,aO1,bq6,bq7,bf3,bf4,ao9,cxR,cxX,Cx.nox,Cx.wish,Cx.body,Cx.suite,List.getElem?_cons_zero,List.getElem?_cons_succ,List.set_cons_zero,List.set_cons_succ,Option.some.injEq,V.int.injEq,V.bl.injEq,V.ref.injEq,V.str.injEq,exists_eq_left',exists_eq_left,exists_and_left,true_and,and_true,List.cons.injEq,reduceCtorEq,Bool.false_eq_true,if_false,if_true,exists_const,↓reduceIte,tyV,List.length_cons,List.length_nil,exists_eq,List.append_nil,List.cons_append,List.nil_append,decide_eq_true_eq,not_true_eq_false,not_false_eq_true,Bool.not_eq_true',decide_eq_false_iff_not,Bool.not_true,Bool.not_false,and_assoc,false_and,false_or,or_false] at h ⊢
  obtain ⟨v,e1,i,e2,e3⟩:=h
  exact ⟨v,e1,i,e2,hQ _ _ e3⟩
abbrev O8:Stmt:=top 83
theorem P5:i8 ["_law_script","_law_at","_law_cell","_law_prime","_law_great"] ["_law_script","_law_at"] (d3 O8):=by and_intros
set_option maxHeartbeats 0 in
theorem aL4 {f:Addr} (d:Df K mg "_law_urn" O8 ["_law_script","_law_at"] f) (n_len:mg "len" = none) (n_abs:mg "abs" = none):Def P w K mg base CX0 1 "_law_urn" f ["_law_script","_law_at"] (bn3 K):=by
 refine d.ok (N:=["_law_script","_law_at","_law_cell","_law_prime","_law_great"]) P5 (fun vs H Q E ⟨x,y,p,h,_⟩=>by rw [h];rfl) (fun cdv A outer s H vs Q E hr h=>?_)
 obtain ⟨a,ns,i,rfl,hS,h0,h64,k⟩:=h
 refine ⟨_,(b9 (i7 (i:=2) P5.nd rfl (Or.inl rfl) d4)
   (b9 (A0 (j3 ad0 (pv 1) (d8 i3 rfl n_len (by decide +kernel) (b6 (pv 0) b7)) (j6 _)) (d7 (i7 (i:=2) P5.nd rfl (Or.inl rfl) (j8 u7 (pv 0) (pv 1) (fun _ _=>rfl)))) m8)
   (b9 (i7 (i:=3) P5.nd rfl (Or.inl rfl) (j8 p8 (j9 (b6 d4 (b6 d4 (b6 d4 (b6 d4 (b6 d4 (b6 d4 (b6 d4 (b6 d4 b7))))))))) (g6 R8 (pv 1) d4) (fun _ _=>rfl)))
   (b9 (i7 (i:=4) P5.nd rfl (Or.inl rfl) d4)
   (b9 (A0 (j3 bo0 (d8 Z0 rfl n_abs (by decide +kernel) (b6 (pv 2) b7)) (g6 ad9 d4 d4) (j6 _)) (d7 (i7 (i:=4) P5.nd rfl (Or.inl rfl) (d8 Z0 rfl n_abs (by decide +kernel) (b6 (pv 2) b7)))) m8)
   (d7 (g8 (t6 (b6 (pv 4) (b6 (g6 R8 (g6 ad9 (g6 L7 (g6 L7 (g6 R8 (pv 2) (pv 3)) (g6 w8 d4 (pv 1))) d4) d4) (pv 3)) (b6 (pv 3) b7))))))))))),?_⟩
 rw [show start ["_law_script","_law_at","_law_cell","_law_prime","_law_great"] [.ref a,.int i]=[some (.ref a),some (.int i),none,none,none] from rfl]
 refine e9 (fun σ H1=>H1=H∧σ=[some (.ref a),some (.int i),some (.int 0),none,none]) (fun N hN=>?_) ?_
 ·subst_eqs
  exact hN _ _ ⟨rfl,rfl⟩
 rintro σ H1 ⟨rfl,rfl⟩
 refine e9 (fun σ H2=>H2=H1∧∃ c:Int,σ=[some (.ref a),some (.int i),some (.int c),none,none]) (fun N hN=>?_) ?_
 ·subst_eqs
  refine ⟨_,.inl hS,t9 (fun hl=>?_) (fun _=>hN _ _ ⟨rfl,_,rfl⟩)⟩
  obtain ⟨c,hc⟩:=aY3 (ns:=ns) h0 (by simpa using hl)
  exact ⟨_,hS,_,hc,hN _ _ ⟨rfl,c,rfl⟩⟩
 rintro σ H2 ⟨rfl,c,rfl⟩
 obtain ⟨pr,hpr,p1,p2⟩:=bc7 h0
 refine e9 (fun σ H3=>d5 H2 H3∧σ=[some (.ref a),some (.int i),some (.int c),some (.int pr),none]) (fun N hN=>?_) ?_
 ·subst_eqs
  exact ⟨by decide,fun p hp=>⟨by decide,_,SqT.of b8,_,hpr,hN _ _ ⟨d5.new hp _,rfl⟩⟩⟩
 rintro σ H3 ⟨s1,rfl⟩
 refine e9 (fun σ H4=>H4=H3∧σ=[some (.ref a),some (.int i),some (.int c),some (.int pr),some (.int 0)]) (fun N hN=>?_) ?_
 ·subst_eqs
  exact hN _ _ ⟨rfl,rfl⟩
 rintro σ H4 ⟨rfl,rfl⟩
 refine e9 (fun σ H5=>H5=H4∧∃ g:Int,0≤g∧σ=[some (.ref a),some (.int i),some (.int c),some (.int pr),some (.int g)]) (fun N hN=>?_) ?_
 ·subst_eqs
  exact ⟨⟨by decide,by decide,by decide⟩,t9 (fun _=>hN _ _ ⟨rfl,_,by split <;> omega,rfl⟩) (fun _=>hN _ _ ⟨rfl,_,Int.le_refl _,rfl⟩)⟩
 rintro σ H5 ⟨rfl,g,hg,rfl⟩
 subst_eqs
 have m0:=Int.fmod_nonneg_of_pos c (show 0<pr by lia)
 have m1:=Int.fmod_lt_of_pos c (show 0<pr by lia)
 refine ⟨by lia,bs9 (by decide),⟨by decide,by decide,by omega⟩,by omega,by decide,fun r hr'=>?_⟩
 refine k r _ (s1.trans (d5.new hr' _)) (s1.free hr') ⟨g,_,pr,b8,hg,Int.fmod_nonneg_of_pos _ (by omega),?_,by omega,by omega⟩
 have:=Int.fmod_lt_of_pos ((c.fmod pr+65537 * i+101) ^ (3:Int).toNat) (show 0<pr by omega)
 omega
abbrev M6:Stmt:=top 84
theorem aj5:i8 ["_law_urn_here","_law_many","_law_drawn"] ["_law_urn_here","_law_many"] (d3 M6):=by and_intros
set_option maxHeartbeats 0 in
theorem aG7 {f:Addr} (d:Df K mg "_law_draw" M6 ["_law_urn_here","_law_many"] f):Def P w K mg base CX0 1 "_law_draw" f ["_law_urn_here","_law_many"] O4:=by
 refine d.ok (N:=["_law_urn_here","_law_many","_law_drawn"]) aj5 (fun vs H Q E ⟨x,y,h,_⟩=>by rw [h];rfl) (fun cdv A outer s H vs Q E hr h=>?_)
 obtain ⟨u,n,rfl,⟨g,m,p,hu,g0,m0,m1,p0,p1⟩,n0,n1,k⟩:=h
 refine ⟨_,(b9 (A0 (j3 aj8 (j8 u7 (pv 0) d4 (fun _ _=>rfl)) d4 (j6 _)) (b9 (i7 (i:=2) aj5.nd rfl (Or.inl rfl) (g6 R8 (j8 u7 (pv 0) d4 (fun _ _=>rfl)) (pv 1)))
   (b9 (K8 (g6 C1 (j8 u7 (pv 0) d4 (fun _ _=>rfl)) (pv 1)) (aF8 (pv 0) d4 Y2))
   (d7 (g8 (pv 2))))) m8)
   (b9 (K8 (g6 R8 (g6 L7 (g6 w8 (j8 u7 (pv 0) d4 (fun _ _=>rfl)) d4) d4) (j8 u7 (pv 0) d4 (fun _ _=>rfl))) (aF8 (pv 0) d4 Y2))
   (d7 (g8 (g6 R8 (g6 C1 (g6 R8 (g6 ad9 (g6 C1 (j8 u7 (pv 0) d4 (fun _ _=>rfl)) d4) d4) d4) d4) (pv 1)))))),?_⟩
 rw [show start ["_law_urn_here","_law_many","_law_drawn"] [.ref u,.int n]=[some (.ref u),some (.int n),none] from rfl]
 have L1:SqL K H u [.int g,.int m,.int p]:=SqL.of hu
 have x0:∀ g m p:Int,atI [V.int g,.int m,.int p] 0=some (.int g):=fun _ _ _=>rfl
 have x1:∀ g m p:Int,atI [V.int g,.int m,.int p] 1=some (.int m):=fun _ _ _=>rfl
 have x2:∀ g m p:Int,atI [V.int g,.int m,.int p] 2=some (.int p):=fun _ _ _=>rfl
 subst_eqs
 have dn:∀ i,ax3 i n:=fun i=>V5 (by lia) (Nat.lt_of_lt_of_le (show n.natAbs<2 ^ 40 by omega) (d6 (by decide)))
 refine ⟨_,L1,_,x0 g m p,_,rfl,t9 (fun hg=>?_) (fun hg=>?_)⟩
 ·refine ⟨_,L1,_,x0 g m p,_,rfl,by omega,_,L1,_,x0 g m p,_,rfl,dn _,_,hu,0,rfl,?_⟩
  exact k _ _ (Int.fmod_nonneg_of_pos _ n0) (Int.fmod_lt_of_pos _ n0) (t7.upd _ _ _) ⟨g.fdiv n,m,p,b8,Int.fdiv_nonneg g0 (by lia),m0,m1,p0,p1⟩
 ·have q0:=Int.fmod_nonneg_of_pos (m * 60013+12289) p0
  have q1:=Int.fmod_lt_of_pos (m * 60013+12289) p0
  have z:SqL K (upd H u (.lst [.int g,.int ((m * 60013+12289).fmod p),.int p])) u [.int g,.int ((m * 60013+12289).fmod p),.int p]:=SqL.of b8
  have d16:0≤((m * 60013+12289).fmod p).fdiv 16∧((m * 60013+12289).fmod p).fdiv 16<2 ^ 40:=by
   rw [Int.fdiv_eq_ediv_of_nonneg _ (by decide)]
   omega
  refine ⟨_,L1,_,x1 g m p,_,rfl,aM1 (by decide),_,L1,_,x2 g m p,_,rfl,by lia,_,hu,1,rfl,_,z,_,x1 _ _ _,_,rfl,V5 (by decide) (Nat.lt_of_lt_of_le (show (16:Int).natAbs<2 ^ 40 by decide) (d6 (by decide))),⟨by decide,by decide,by omega⟩,by decide,V5 (by decide) (Nat.lt_of_lt_of_le (show (8:Int).natAbs<2 ^ 40 by decide) (d6 (by decide))),by omega,?_⟩
  exact k _ _ (Int.fmod_nonneg_of_pos _ n0) (Int.fmod_lt_of_pos _ n0) (t7.upd _ _ _) ⟨g,_,p,b8,g0,q0,by omega,p0,p1⟩
abbrev M5:Stmt:=top 88
theorem aF3:i8 ["_law_urn_here"] ["_law_urn_here"] (d3 M5):=by and_intros
set_option maxHeartbeats 0 in
theorem aG6 {f fd:Addr} (d:Df K mg "_law_kind" M5 ["_law_urn_here"] f) (G__law_draw:Def P w K mg base CX0 1 "_law_draw" fd ["_law_urn_here","_law_many"] O4):Def P w K mg base CX0 2 "_law_kind" f ["_law_urn_here"] aO0:=by
 refine d.ok (N:=["_law_urn_here"]) aF3 (fun vs H Q E ⟨u,h,_⟩=>by rw [h];rfl) (fun cdv A outer s H vs Q E hr h=>?_)
 obtain ⟨u,rfl,hu,k⟩:=h
 refine ⟨_,(d7 (g8 (j8 u7 (t6 (b6 d4 (b6 d4 (b6 d4 (b6 d4 (b6 d4 (b6 d4 (b6 d4 (b6 d4 b7))))))))) (d9 G__law_draw hr (b6 (pv 0) (b6 d4 b7)) i5) (fun _ _=>rfl)))),?_⟩
 rw [show start ["_law_urn_here"] [.ref u]=[some (.ref u)] from rfl]
 simp! [O4]
 refine ⟨by decide,fun l hl=>⟨af1 hu hl,by decide,by decide,fun r H' r0 r1 sx hu'=>?_⟩⟩
 have e:=sx l _ b8 (X9 hu hl)
 have sx':t7 u H H':=t7.trans (d5.x (d5.new hl _) u) sx
 have h3:r=0∨r=1∨r=2∨r=3∨r=4∨r=5∨r=6∨r=7:=by lia
 rcases h3 with h | h | h | h | h | h | h | h <;> subst h <;> exact ⟨_,SqL.of e,_,rfl,k _ H' (by decide) sx' hu'⟩
abbrev F0:Stmt:=top 89
theorem ad7:i8 ["_law_urn_here","_law_kind_here","_law_top"] ["_law_urn_here","_law_kind_here"] (d3 F0):=by and_intros
abbrev J4:Stmt:=top 95
theorem ax7:i8 ["_law_thing"] ["_law_thing"] (d3 J4):=by and_intros
theorem ay5 {f:Addr} (d:Df K mg "_law_whole" J4 ["_law_thing"] f) (n_isinstance:mg "isinstance" = none) (n_int:mg "int" = none) (n_bool:mg "bool" = none):Def P w K mg base CX0 1 "_law_whole" f ["_law_thing"] ai9:=by
 refine d.ok (N:=["_law_thing"]) ax7 (fun vs H Q E ⟨u,h,_⟩=>by rw [h];rfl) (fun cdv A outer s H vs Q E hr h=>?_)
 obtain ⟨i,rfl,k⟩:=h
 refine ⟨_,(d7 (g8 (ah8 (d8 j5 rfl n_isinstance (by decide +kernel) (b6 (pv 0) (b6 (W7 (v:=.ty "int") rfl n_int (by decide +kernel) rfl) b7))) (am9 (bd0 (d8 j5 rfl n_isinstance (by decide +kernel) (b6 (pv 0) (b6 (W7 (v:=.ty "bool") rfl n_bool (by decide +kernel) rfl) b7)))))))),?_⟩
 rw [show start ["_law_thing"] [.int i]=[some (.int i)] from rfl]
 subst_eqs
 exact ⟨trivial,_,.of (.int i),_,aM4,by5 ⟨trivial,_,.of (.int i),_,aH2,k⟩⟩
abbrev B4:Stmt:=top 96
theorem aj4:i8 ["_law_thing"] ["_law_thing"] (d3 B4):=by and_intros
set_option maxHeartbeats 0 in
theorem ak4 {f fw fl:Addr} (d:Df K mg "_law_is_number" B4 ["_law_thing"] f) (G__law_whole:Def P w K mg base CX0 1 "_law_whole" fw ["_law_thing"] ai9) (G__law_low:Def P w K mg base CX0 1 "_law_low" fl ["_law_top","_law_bottom"] aA2) (n_isinstance:mg "isinstance" = none) (n_tuple:mg "tuple" = none) (n_len:mg "len" = none) :
  Def P w K mg base CX0 2 "_law_is_number" f ["_law_thing"] (aS5 K):=by
 refine d.ok (N:=["_law_thing"]) aj4 (fun vs H Q E ⟨u,q,h,_⟩=>by rw [h];rfl) (fun cdv A outer s H vs Q E hr h=>?_)
 obtain ⟨x,q,rfl,⟨ap,rfl,hS⟩,hd,k⟩:=h
 have hu:=hr.units
 refine ⟨_,(b9 (A0 (PW.pt (W3 (G0 (Q9 (d8 j5 rfl n_isinstance (by decide +kernel) (b6 (pv 0) (b6 (W7 (v:=.ty "tuple") rfl n_tuple (by decide +kernel) rfl) b7))))) (W3 (j3 bd5 (d8 i3 rfl n_len (by decide +kernel) (b6 (pv 0) b7)) d4 (j6 _)) (W3 (G0 (Q9 (d9 G__law_whole hr (b6 (j8 p8 (pv 0) d4 (fun _ _=>rfl)) b7) i5))) (V7 (G0 (Q9 (d9 G__law_whole hr (b6 (j8 p8 (pv 0) d4 (fun _ _=>rfl)) b7) i5)))))))) (d7 (g8 G6)) m8)
   (d7 (g8 (ah8 (W6 aj8 (j8 p8 (pv 0) d4 (fun _ _=>rfl)) d4 (j6 _)) (am9 (W6 (ae0 hu) (d9 G__law_low hr (b6 (j8 p8 (pv 0) d4 (fun _ _=>rfl)) (b6 (j8 p8 (pv 0) d4 (fun _ _=>rfl)) b7)) i5) (pv 0) (j6 _))))))),?_⟩
 rw [show start ["_law_thing"] [.ref ap]=[some (.ref ap)] from rfl]
 have dq:=p9 q
 simp! [ai9,aK6]
 refine ⟨trivial,_,.sqt hS,_,aM3,?_⟩
 simp! [ai9,aK6]
 refine ⟨_,.inr hS,?_⟩
 simp! [ai9,aK6,t8]
 refine t9 (fun hh=>absurd rfl hh) (fun _=>?_)
 refine ⟨_,hS,_,at0 q,_,rfl,_,hS,_,at1 q,_,rfl,_,hS,_,at1 q,_,rfl,?_⟩
 rw [if_pos dq]
 refine ⟨_,hS,_,at0 q,_,hS,_,at1 q,_,_,rfl,by omega,hd,fun r H' sm hr'=>?_⟩
 rw [Rat.num_divInt_den] at hr'
 refine ⟨w9 q,w9 q,rfl,M9 (SqT.of hr'),M9 (sm.tup hS),ak6 q q,aR1 q,?_⟩
 rw [aT9];exact k H' sm
end
section
variable {P:Program} {w:World} {K:PySem.W.Frag} {mg:Str→Option Value} {base:Heap}
def spOther:Sp:=fun vs H Q _=>∃ u kd,vs=[.ref u,.int kd]∧v3 H u∧∀ r q H',Sm q→q≠0→t7 u H H'→v3 H' u→H' r=some (.tup (t8 q))→Q (.ref r) H'
abbrev K2:Stmt:=top 90
theorem ag7:i8 ["_law_urn_here","_law_kind_here","_law_found"] ["_law_urn_here","_law_kind_here"] (d3 K2):=by and_intros
def aE6 (K:PySem.W.Frag):Sp:=fun vs H Q _=>∃ a xs qs,vs=[.ref a]∧SqL K H a xs∧q8 H xs qs∧∀ m r H',A7 qs m→d5 H H'→H r=none→H' r=some (.lst (xs.take m))→Q (.ref r) H'
abbrev M2:Stmt:=top 92
theorem aj2:i8 ["_law_numbers","_law_found"] ["_law_numbers"] (d3 M2):=by and_intros
theorem bk8 {α:Type} {xs:List α} {x : α} (h:xs[xs.length - 1]? = some x):atI xs (-1)=some x:=by
 have hp:xs.length - 1<xs.length:=(List.getElem?_eq_some_iff.mp h).1
 have e:ixN xs.length (-1)=some (xs.length - 1):=by
  unfold ixN
  rw [if_neg (by decide)]
  rw [if_pos (by omega)]
  congr 1
  omega
 unfold atI
 rw [e]
 exact h
set_option maxHeartbeats 0 in
theorem aG3 {f:Addr} (d:Df K mg "_law_trim" M2 ["_law_numbers"] f) (n_list:mg "list" = none):Def P w K mg base CX0 1 "_law_trim" f ["_law_numbers"] (aE6 K):=by
 refine d.ok (N:=["_law_numbers","_law_found"]) aj2 (fun vs H Q E ⟨a,xs,qs,h,_⟩=>by rw [h];rfl) (fun cdv A outer s H vs Q E hr h=>?_)
 obtain ⟨a,xs,qs,rfl,hS,hN,k⟩:=h
 have hu:=hr.units
 refine ⟨_,(b9 (i7 (i:=1) aj2.nd rfl (Or.inl rfl) (G3 E8 rfl n_list (by decide +kernel) (b6 (pv 0) b7)))
   (b9 (V1 PassesOwn.never (PW.pt (am7 (j3 (aa2 hu) (pv 1) (t6 b7) (j6 _)) (af7 (j3 aj9 (j8 p8 (j8 u7 (pv 1) (Y3 O2 d4) (fun _ _=>rfl)) d4 (fun _ _=>rfl)) d4 (j6 _))))) (d7 (af8 (ao0 PySem.F.plainAttrs_list PySem.F.slot_list_pop PySem.F.type_list_pop bt0 (pv 1)))))
   (d7 (g8 (pv 1))))),?_⟩
 rw [show start ["_law_numbers","_law_found"] [.ref a]=[some (.ref a),none] from rfl]
 subst_eqs
 refine ⟨_,.inl hS,fun l hl=>?_⟩
 refine X8 (fun σ H1=>σ=[some (.ref a),some (.ref l)]∧∃ m,m≤qs.length∧(∀ (i:Nat) (q:Rat),m≤i→qs[i]? = some q→q=0)∧d5 H H1∧H1 l=some (.lst (xs.take m))) (fun σ H1=>match H1 l with | some (.lst ys)=>ys.length | _=>0)
  ⟨rfl,qs.length,Nat.le_refl _,fun i q hi e=>?_,d5.new hl _,?_⟩ ?_
 ·rw [List.getElem?_eq_none hi] at e;cases e
 ·rw [b8,←hN.length,List.take_length]
 ·rintro σ H1 ⟨rfl,m,hm,hz,sm,e1⟩
  have hml:(xs.take m).length=m:=by rw [List.length_take,hN.length];lia
  subst_eqs
  refine ⟨by decide,fun p hp=>?_⟩
  have n1:q8 H1 (xs.take m) (qs.take m):=(hN.mono sm.tups).take m
  have pl:p≠l:=(g9 e1 hp).symm
  have e2:upd H1 p (.lst []) l=some (.lst (xs.take m)):=by rw [j0 pl.symm];exact e1
  have n2:q8 (upd H1 p (.lst [])) (xs.take m) (qs.take m):=n1.mono (ac8.new hp)
  refine ⟨B7 (qs.take m),B7 [],rfl,M8 (SqL.of e2) n2,M8 (SqL.of b8) .nil,N5 _ _,Nat.le_trans (U4 _) (by decide),?_⟩
  rw [N8]
  by_cases h0:m=0
  ·subst h0
   simp only [List.take_zero,decide_true,Bool.not_true,Bool.false_eq_true,if_false]
   refine ⟨false,rfl,t9 (fun h=>absurd h (by decide)) fun _=>k 0 l _ ⟨Nat.zero_le _,hz,fun h=>absurd rfl h⟩ (sm.trans (d5.new hp _)) hl ?_⟩
   rw [e2]
  ·have hlt:m - 1<qs.length:=by lia
   have hne:qs.take m≠[]:=fun z=>by
    have:=congrArg List.length z
    rw [List.length_take,List.length_nil] at this
    lia
   simp only [hne,decide_false,Bool.not_false]
   obtain ⟨pv,hv,hpv⟩:=n2.get (i:=m - 1) (q:=qs[m - 1]) (by rw [List.getElem?_take_of_lt (by lia)];exact List.getElem?_eq_getElem hlt)
   refine ⟨true,rfl,t9 (fun _=>?_) (fun h=>absurd rfl h)⟩
   refine ⟨_,SqL.of e2,_,bk8 (by rw [hml];exact hv),_,rfl,_,SqT.of hpv,_,at0 _,rfl,?_⟩
   refine t9 (fun hn=>?_) (fun hn=>?_)
   ·have hn':qs[m - 1].num=0:=V.int.inj hn
    refine WhB.mk ?_
    subst_eqs
    refine ⟨.inl ⟨_,SqL.of e2⟩,_,e2,_,by rw [hml];exact hv,WhN.mk ⟨rfl,m - 1,by exact Nat.le_of_lt ‹_›,fun i q hi e=>?_,(sm.trans (d5.new hp _)).over hl _,?_⟩ ?_⟩
    ·by_cases hi':i=m - 1
     ·subst hi'
      rw [List.getElem?_eq_getElem hlt] at e
      cases e
      exact aa9.mp hn'
     ·exact hz i q (by lia) e
    ·rw [b8,List.dropLast_eq_take,hml,List.take_take,Nat.min_eq_left (by simp)]
    ·rw [b8]
     simp only [e1,List.length_dropLast]
     lia
   ·have hn':qs[m - 1]≠0:=fun z=>hn (by rw [z];rfl)
    exact k m l _ ⟨hm,hz,fun _ q e=>by rw [List.getElem?_eq_getElem hlt] at e;cases e;exact hn'⟩ (sm.trans (d5.new hp _)) hl e2
end
section
variable {P:Program} {w:World} {K:PySem.W.Frag} {mg:Str→Option Value} {base:Heap}
def aJ9 (K:PySem.W.Frag):Sp:=fun vs H Q _=>∃ a xs qs,vs=[.ref a]∧H a=some (.lst xs)∧q8 H xs qs∧(∀ p∈qs,p.den<2 ^ 6000)∧xs.length<1000∧A7 qs qs.length∧∀ H',d5 H H'→Q (.bl true) H'
abbrev C0:Stmt:=top 97
theorem aq9:i8 ["_law_thing"] ["_law_thing"] (d3 C0):=by and_intros
set_option maxHeartbeats 0 in
theorem ar3 {f fd fn:Addr} (d:Df K mg "_law_is_poly" C0 ["_law_thing"] f) (G__law_is_number:Def P w K mg base CX0 2 "_law_is_number" fd ["_law_thing"] (aS5 K)) (G__law_trim:Def P w K mg base CX0 1 "_law_trim" fn ["_law_numbers"] (aE6 K))
  (n_isinstance:mg "isinstance" = none) (n_list:mg "list" = none) (n_all:mg "all" = none):Def P w K mg base CX0 3 "_law_is_poly" f ["_law_thing"] (aJ9 K):=by
 refine d.ok (N:=["_law_thing"]) aq9 (fun vs H Q E ⟨u,kd,mo,h,_⟩=>by rw [h];rfl) (fun cdv A outer s H vs Q E hr h=>?_)
 obtain ⟨a,xs,qs,rfl,ha,hN,hs,hl,ht,k⟩:=h
 have hu:=hr.units
 refine ⟨_,(d7 (g8 (ah8 (d8 j5 rfl n_isinstance (by decide +kernel) (b6 (pv 0) (b6 (W7 (v:=.ty "list") rfl n_list (by decide +kernel) rfl) b7))) (ah8 (d8 (aN2 rfl) rfl n_all (by decide +kernel) (b6 (R6 (Nc:=["_law_one"]) (caps:=[none]) rfl (Z3.of (osc:=d3 C0) (N:=["_law_thing"]) (ks:=[]) rfl rfl rfl rfl D3 (by decide +kernel)) (D4 (pv 0)) (fun C s₂ H₂ fp pins=>(e8 (i:=0) (show List.Nodup (["_law_one"]:List Str) by decide +kernel) rfl (Or.inl rfl) (Or.inr rfl))) (fun C s₂ H₂ fp pins=>(d9 G__law_is_number hr (b6 (pv 0) b7) i5))) b7)) (am9 (W6 (ae0 hu) (d9 G__law_trim hr (b6 (pv 0) b7) i5) (pv 0) (j6 _))))))),?_⟩
 rw [show start ["_law_thing"] [.ref a]=[some (.ref a)] from rfl]
 subst_eqs
 refine ⟨trivial,_,.of (.lst ha),_,az0,t9 (fun _=>?_) (fun h=>absurd rfl h)⟩
 refine ⟨⟨_,SqL.of ha⟩,fun D hD=>?_⟩
 have hDa:a≠D:=g9 ha hD
 refine N2 xs (fun i σ H2=>∃ o,σ=[o]∧d5 H H2∧H2 D=some (.lst ((List.replicate i true).map V.bl))) ⟨_,rfl,d5.new hD _,b8⟩ (fun i σ H2 _ ⟨o,_,s2,_⟩=>SqL.of (s2 _ _ ha)) ?_ ?_
 ·rintro i x σ H2 hx ⟨o,rfl,s2,e2⟩
  have hi:i<xs.length:=(List.getElem?_eq_some_iff.mp hx).1
  obtain ⟨p,q,rfl,hq,hp⟩:=hN.getV hx
  subst_eqs
  have sq:=hs q (List.mem_of_getElem? hq)
  refine ⟨_,q,rfl,⟨p,rfl,SqT.of (s2 _ _ hp)⟩,?_,fun H3 s3=>?_⟩
  ·rw [Int.natAbs_natCast]
   exact sq
  ·refine G8.mk hi (s3 _ _ e2) (by simp;exact Nat.lt_of_lt_of_le (show i<1000 by lia) (by decide)) ⟨_,rfl,(s2.trans s3).over hD _,?_⟩
   rw [b8,List.replicate_succ',List.map_append]
   rfl
 ·rintro σ H2 ⟨o,rfl,s2,e2⟩
  subst_eqs
  refine ⟨_,SqL.of e2,t9 (fun _=>?_) (fun h=>absurd (by simp) h)⟩
  have n2:=hN.mono s2.tups
  refine ⟨a,xs,qs,rfl,SqL.of (s2 _ _ ha),n2,fun m r H3 tl s3 hr' e3=>?_⟩
  have em:=tl.uniq ht
  subst em
  have et:xs.take qs.length=xs:=by rw [←hN.length,List.take_length]
  rw [et] at e3
  refine ⟨B7 qs,B7 qs,rfl,M8 (SqL.of e3) (n2.mono s3.tups),M8 (SqL.of (s3 _ _ (s2 _ _ ha))) (n2.mono s3.tups),N5 _ _,Nat.le_trans (U4 _) (by decide),?_⟩
  rw [N8]
  simp only [decide_true]
  exact k H3 (s2.trans s3)
end
structure BtN (k:Nat) (q:Rat):Prop where
 n:q.num.natAbs<2 ^ 20000
 d:q.den<2 ^ k
theorem BtN.d' {n:Nat} {q:Rat} (b:BtN n q):(q.den:Int).natAbs<2 ^ n:=by rw [Int.natAbs_natCast];exact b.d
theorem BtN.zero {n:Nat} (h:1≤n):BtN n 0:=⟨Nat.two_pow_pos _,Nat.lt_of_lt_of_le (show 1<2 ^ 1 by decide) (d6 h)⟩
theorem q8.set {H:Hp}:∀ {vs:List V} {qs:List Rat} (k:Nat) {p:Addr} {q:Rat},q8 H vs qs→H p=some (.tup (t8 q))→q8 H (vs.set k (.ref p)) (qs.set k q)
 | _,_,_,_,_,.nil,_=>.nil
 | _,_,0,_,_,.cons _ t,h=>.cons h t
 | _,_,k+1,_,_,.cons h' t,h=>.cons h' (t.set k h)
theorem q8.rep {H:Hp} {p:Addr} {q:Rat} (h:H p=some (.tup (t8 q))):∀ n,q8 H (List.replicate n (.ref p)) (List.replicate n q)
 | 0=>.nil
 | n+1=>.cons h (q8.rep h n)
section
variable {P:Program} {w:World} {K:PySem.W.Frag} {mg:Str→Option Value} {base:Heap}
def at5 (K:PySem.W.Frag) (op:Rat→Rat→Rat):Sp:=fun vs H Q _=>∃ (x y:V) (p q:Rat) (m n:Nat),vs=[x,y]∧Num K H x p∧Num K H y q∧BtN m p∧BtN n q∧m+n≤6000∧aI8 H Q (op p q)
theorem bx3 {p q:Rat} {m n:Nat} (bp:BtN m p) (bq:BtN n q) (h:m+n≤6000):((p.den:Int) * q.den).natAbs<2 ^ 6000:=by
 rw [Int.natAbs_mul]
 have:=Nat.mul_lt_mul'' bp.d' bq.d'
 rw [←Nat.pow_add] at this
 exact Nat.lt_of_lt_of_le this (d6 h)
theorem aU1 (p q:Rat):(p.den:Int) * q.den≠0:=Int.ne_of_gt (Int.mul_pos (p9 p) (p9 q))
abbrev M4:Stmt:=top 86
theorem aF2:i8 ["_law_one","_law_other_here"] ["_law_one","_law_other_here"] (d3 M4):=by and_intros
theorem aG5 {f fl:Addr} (d:Df K mg "_law_plus" M4 ["_law_one","_law_other_here"] f) (G__law_low:Def P w K mg base CX0 1 "_law_low" fl ["_law_top","_law_bottom"] aA2):Def P w K mg base CX0 2 "_law_plus" f ["_law_one","_law_other_here"] (at5 K (· + ·)):=by
 refine d.ok (N:=["_law_one","_law_other_here"]) aF2 (by rintro vs H Q E ⟨x,y,p,q,m,n,h,_⟩;rw [h];rfl) (fun cdv A outer s H vs Q E hr h=>?_)
 obtain ⟨x,y,p,q,m,n,rfl,⟨ap,rfl,hp⟩,⟨aq,rfl,hq⟩,bp,bq,hmn,k⟩:=h
 refine ⟨_,(d7 (g8 (d9 G__law_low hr (b6 (g6 L7 (g6 w8 (j8 p8 (pv 0) d4 (fun _ _=>rfl)) (j8 p8 (pv 1) d4 (fun _ _=>rfl))) (g6 w8 (j8 p8 (pv 1) d4 (fun _ _=>rfl)) (j8 p8 (pv 0) d4 (fun _ _=>rfl)))) (b6 (g6 w8 (j8 p8 (pv 0) d4 (fun _ _=>rfl)) (j8 p8 (pv 1) d4 (fun _ _=>rfl))) b7)) i5))),?_⟩
 rw [show start ["_law_one","_law_other_here"] [.ref ap,.ref aq]=[some (.ref ap),some (.ref aq)] from rfl]
 subst_eqs
 refine ⟨_,hp,_,at0 p,_,hq,_,at1 q,_,rfl,_,rfl,N6 bp.n bq.d' (by lia),_,hq,_,at0 q,_,hp,_,at1 p,_,rfl,_,rfl,N6 bq.n bp.d' (by lia),_,hp,_,at1 p,_,hq,_,at1 q,_,rfl,_,rfl,N6 bp.d' bq.d' (by lia),?_⟩
 refine ⟨_,_,rfl,aU1 p q,bx3 bp bq hmn,?_⟩
 rw [←aR7]
 exact k
abbrev K1:Stmt:=top 87
theorem ax8:i8 ["_law_one","_law_other_here"] ["_law_one","_law_other_here"] (d3 K1):=by and_intros
theorem ay7 {f fl:Addr} (d:Df K mg "_law_times" K1 ["_law_one","_law_other_here"] f) (G__law_low:Def P w K mg base CX0 1 "_law_low" fl ["_law_top","_law_bottom"] aA2):Def P w K mg base CX0 2 "_law_times" f ["_law_one","_law_other_here"] (at5 K (· * ·)):=by
 refine d.ok (N:=["_law_one","_law_other_here"]) ax8 (by rintro vs H Q E ⟨x,y,p,q,m,n,h,_⟩;rw [h];rfl) (fun cdv A outer s H vs Q E hr h=>?_)
 obtain ⟨x,y,p,q,m,n,rfl,⟨ap,rfl,hp⟩,⟨aq,rfl,hq⟩,bp,bq,hmn,k⟩:=h
 refine ⟨_,(d7 (g8 (d9 G__law_low hr (b6 (g6 w8 (j8 p8 (pv 0) d4 (fun _ _=>rfl)) (j8 p8 (pv 1) d4 (fun _ _=>rfl))) (b6 (g6 w8 (j8 p8 (pv 0) d4 (fun _ _=>rfl)) (j8 p8 (pv 1) d4 (fun _ _=>rfl))) b7)) i5))),?_⟩
 rw [show start ["_law_one","_law_other_here"] [.ref ap,.ref aq]=[some (.ref ap),some (.ref aq)] from rfl]
 subst_eqs
 refine ⟨_,hp,_,at0 p,_,hq,_,at0 q,_,rfl,_,rfl,N6 bp.n bq.n (by omega),_,hp,_,at1 p,_,hq,_,at1 q,_,rfl,_,rfl,N6 bp.d' bq.d' (by omega),?_⟩
 refine ⟨_,_,rfl,aU1 p q,bx3 bp bq hmn,?_⟩
 rw [←Y6]
 exact k
def bb0 (K:PySem.W.Frag):Sp:=fun vs H Q _=>∃ (a b:Addr) (xs ys:List V) (ps qs:List Rat),vs=[.ref a,.ref b]∧SqL K H a xs∧SqL K H b ys∧q8 H xs ps∧q8 H ys qs∧(∃ m1 m2:Nat,(∀ q∈ps,BtN m1 q)∧(∀ q∈qs,BtN m2 q)∧m1+m2≤6000∧1≤m1∧1≤m2)∧ps.length≤100∧qs.length≤100 ∧
 ∀ m r zs H',A7 (ac7 ps qs) m→d5 H H'→H r=none→H' r=some (.lst zs)→q8 H' zs ((ac7 ps qs).take m)→Q (.ref r) H'
abbrev B3:Stmt:=top 93
theorem E3:i8 ["_law_p","_law_q","_law_found","_law_i","_law_one","_law_other_here"] ["_law_p","_law_q"] (d3 B3):=by and_intros
set_option maxHeartbeats 0 in
theorem ak3 {f fp ft:Addr} (d:Df K mg "_law_poly_plus" B3 ["_law_p","_law_q"] f) (G__law_plus:Def P w K mg base CX0 2 "_law_plus" fp ["_law_one","_law_other_here"] (at5 K (· + ·))) (G__law_trim:Def P w K mg base CX0 1 "_law_trim" ft ["_law_numbers"] (aE6 K)) (n_range:mg "range" = none) (n_max:mg "max" = none) (n_len:mg "len" = none):Def P w K mg base CX0 3 "_law_poly_plus" f ["_law_p","_law_q"] (bb0 K):=by
 refine d.ok (N:=["_law_p","_law_q","_law_found","_law_i","_law_one","_law_other_here"]) E3 (by rintro vs H Q E ⟨_,_,_,_,_,_,h,_⟩;rw [h];rfl) (fun cdv A outer s H vs Q E hr h=>?_)
 obtain ⟨a,b,xs,ys,ps,qs,rfl,hS,hS',hN,hN',⟨m1,m2,hs,hs',hm,hm1,hm2⟩,hl,hl',k⟩:=h
 refine ⟨_,(b9 (i7 (i:=2) E3.nd rfl (Or.inl rfl) (t6 b7))
   (b9 (R1 PassesOwn.never rfl (am8 rfl n_range (b6 (d8 (ap1 rfl) rfl n_max (by decide +kernel) (b6 (d8 i3 rfl n_len (by decide +kernel) (b6 (pv 0) b7)) (b6 (d8 i3 rfl n_len (by decide +kernel) (b6 (pv 1) b7)) b7))) b7)) (e8 (i:=3) E3.nd rfl (Or.inl rfl)) (b9 (i7 (i:=4) E3.nd rfl (Or.inl rfl) (Y4 (j3 ad0 (pv 3) (d8 i3 rfl n_len (by decide +kernel) (b6 (pv 0) b7)) (j6 _)) (j8 u7 (pv 0) (pv 3) (fun _ _=>rfl)) (j9 (b6 d4 (b6 d4 b7)))))
   (b9 (i7 (i:=5) E3.nd rfl (Or.inl rfl) (Y4 (j3 ad0 (pv 3) (d8 i3 rfl n_len (by decide +kernel) (b6 (pv 1) b7)) (j6 _)) (j8 u7 (pv 1) (pv 3) (fun _ _=>rfl)) (j9 (b6 d4 (b6 d4 b7)))))
   (d7 (af8 (ap7 PySem.F.plainAttrs_list PySem.F.slot_list_append PySem.F.type_list_append U0 (pv 2) (b6 (d9 G__law_plus hr (b6 (pv 4) (b6 (pv 5) b7)) i5) b7)))))))
   (d7 (g8 (d9 G__law_trim hr (b6 (pv 2) b7) i5))))),?_⟩
 rw [show start ["_law_p","_law_q","_law_found","_law_i","_law_one","_law_other_here"] [.ref a,.ref b]=[some (.ref a),some (.ref b),none,none,none,none] from rfl]
 subst_eqs
 refine ⟨by decide,fun p hp=>?_⟩
 have lx:=hN.length
 have ly:=hN'.length
 have S0:=d5.new hp (.lst [])
 have pick:∀ (i:Nat) (k:Nat) (c:Addr) (us:List V) (rs:List Rat) (σ:L2.St) (H3:Hp) (R:VK),σ[k]? = some (some (.ref c))→σ[3]? = some (some (.int (0+(i:Int))))→SqL K H3 c us→q8 H3 us rs→(∀ v H4,d5 H3 H4→Num K H4 v ((rs[i]?).getD 0)→R v H4) →
   tIf (aJ3 (tOp (rI0 fun i j=>V.bl (decide (i<j))) (aa6 3) (tCB (fun xs H Q=>∃ p,xs=[V.ref p]∧∃ x,(SqL K H p x∨SqT K H p x)∧Q (V.int x.length) H) (ag5 (aa6 k) aJ4)))) (tOp (aO2 K) (aa6 k) (aa6 3)) (bh9 (ag5 (tC (V.int 0)) (ag5 (tC (V.int 1)) aJ4))) σ H3 R:=by
  intro i k c us rs σ H3 R h1 h2 hc hn hR
  simp! [h1,h2]
  refine ⟨us,.inl hc,t9 (fun h=>?_) (fun h=>?_)⟩
  ·have hi:i<us.length:=by lia
   have hir:i<rs.length:=by rw [←hn.length];exact hi
   obtain ⟨pv,hv,hpv⟩:=hn.get (List.getElem?_eq_getElem hir)
   have e0:(0:Int)+(i:Int)=((i:Nat):Int):=by simp
   refine ⟨_,hc,_,(by rw [e0];exact F7 hv),hR _ _ (d5.refl _) ⟨pv,rfl,?_⟩⟩
   rw [List.getElem?_eq_getElem hir]
   exact SqT.of hpv
  ·have hi:rs.length≤i:=by rw [←hn.length];lia
   refine ⟨y7,fun t ht=>hR _ _ (d5.new ht _) ⟨t,rfl,?_⟩⟩
   rw [List.getElem?_eq_none hi]
   exact SqT.of b8
 refine ⟨_,rfl,a,rfl,xs,.inl (S0.seq hS),_,rfl,b,rfl,ys,.inl (S0.seq hS'),_,_,rfl,_,rfl,?_,?_,aC0 (fun i σ H2=>∃ o1 o2 o3,σ=[some (.ref a),some (.ref b),some (.ref p),o1,o2,o3]∧d5 H H2∧∃ zs,H2 p=some (.lst zs)∧q8 H2 zs ((ac7 ps qs).take i)) ⟨_,_,_,rfl,S0,[],b8,.nil⟩ ?_ ?_⟩
 ·split <;> simp
 ·split <;> lia
 ·rintro i σ H2 hi ⟨o1,o2,o3,rfl,s2,zs,e2,n2⟩
  have hi':i<max ps.length qs.length:=by
   revert hi
   split <;> lia
  refine pick i 0 a xs ps _ _ _ rfl rfl (s2.seq hS) (hN.mono s2.tups) fun v H3 s3 nv=>?_
  refine pick i 1 b ys qs _ _ _ rfl rfl ((s2.trans s3).seq hS') (hN'.mono (s2.trans s3).tups) fun u H4 s4 nu=>?_
  have bq:∀ (rs:List Rat) (m:Nat),1≤m→(∀ q∈rs,BtN m q)→BtN m ((rs[i]?).getD 0):=fun rs m hm h=>by
   cases e:rs[i]? with
   | none=>exact BtN.zero hm
   | some q=>exact h q (List.mem_of_getElem? e)
  have S4:=s2.trans (s3.trans s4)
  subst_eqs
  refine ⟨.inl ⟨_,SqL.of (s4 _ _ (s3 _ _ e2))⟩,v,u,_,_,m1,m2,rfl,nv.same s4,nu,bq ps m1 hm1 hs,bq qs m2 hm2 hs',hm,fun r H5 s5 e5=>?_⟩
  have e6:=s5 _ _ (s4 _ _ (s3 _ _ e2))
  refine ⟨_,e6,?_,?_⟩
  ·rw [n2.length,List.length_take]
   exact Nat.lt_of_le_of_lt (show _≤100 by lia) (by decide)
  ·refine ⟨(S4.trans s5).over hp _,_,b8,?_⟩
   rw [show (ac7 ps qs).take (i+1)=(ac7 ps qs).take i++[(ps[i]?).getD 0+(qs[i]?).getD 0] by rw [List.take_succ,ax1 ps qs i hi'];rfl]
   exact (((n2.mono (s3.trans s4).tups).mono s5.tups).append (.cons e5 .nil)).mono (ac8.lst e6)
 ·rintro σ H2 ⟨o1,o2,o3,rfl,s2,zs,e2,n2⟩
  have e7:(ac7 ps qs).take (if (ys.length:Int) > (xs.length:Int) then (ys.length:Int) else xs.length).toNat=ac7 ps qs:=by
   rw [List.take_of_length_le]
   rw [ax0]
   split <;> lia
  have n2':q8 H2 zs (ac7 ps qs):=by rw [←e7];exact n2
  refine ⟨_,rfl,p,zs,_,rfl,SqL.of e2,n2',fun m r H3 tl s3 hr' e3=>?_⟩
  exact k m r _ _ tl (s2.trans s3) (s2.free hr') e3 ((n2'.take m).mono s3.tups)
end
theorem OvB.bt {B W e:Nat} {q:Rat} (h:OvB B W q) (hB:0<B) (hBe:B<2 ^ e) (hW:W≤20000):BtN e q:=by
 obtain ⟨v,rfl,b⟩:=h
 have:=K7 (t:=v) (b:=(B:Int)) (by omega)
 rw [Int.natAbs_natCast] at this
 exact ⟨Nat.lt_of_le_of_lt this.1 (Nat.lt_of_lt_of_le b (d6 hW)),Nat.lt_of_le_of_lt this.2 hBe⟩
section
variable {P:Program} {w:World} {K:PySem.W.Frag} {mg:Str→Option Value} {base:Heap}
def aS4 (K:PySem.W.Frag):Sp:=fun vs H Q _=>∃ (a b:Addr) (xs ys:List V) (ps qs:List Rat) (B C V' W e:Nat),vs=[.ref a,.ref b]∧SqL K H a xs∧SqL K H b ys∧q8 H xs ps∧q8 H ys qs∧(∀ q∈ps,OvB B V' q)∧(∀ q∈qs,OvB C W q)∧0<B∧0<C∧B * C<2 ^ e∧1≤e∧2 * e≤6000∧V'+W≤19000∧ps.length≤20∧qs.length≤20 ∧
 ∀ m r zs H',A7 (R9 ps qs) m→(∀ q∈R9 ps qs,OvB (B * C) (V'+W+400) q)→d5 H H'→H r=none→H' r=some (.lst zs)→q8 H' zs ((R9 ps qs).take m)→Q (.ref r) H'
abbrev A3:Stmt:=top 94
theorem A8:i8 ["_law_p","_law_q","_law_found","_law_i","_law_one","_law_j","_law_other_here"] ["_law_p","_law_q"] (d3 A3):=by and_intros
set_option maxHeartbeats 0 in
theorem ai0 {f fp f1 f2:Addr} (d:Df K mg "_law_poly_times" A3 ["_law_p","_law_q"] f) (G__law_plus:Def P w K mg base CX0 2 "_law_plus" fp ["_law_one","_law_other_here"] (at5 K (· + ·))) (G__law_times:Def P w K mg base CX0 2 "_law_times" f1 ["_law_one","_law_other_here"] (at5 K (· * ·))) (G__law_trim:Def P w K mg base CX0 1 "_law_trim" f2 ["_law_numbers"] (aE6 K)) (n_len:mg "len" = none) (n_enumerate:mg "enumerate" = none):Def P w K mg base CX0 3 "_law_poly_times" f ["_law_p","_law_q"] (aS4 K):=by
 refine d.ok (N:=["_law_p","_law_q","_law_found","_law_i","_law_one","_law_j","_law_other_here"]) A8 (by rintro vs H Q E ⟨_,_,_,_,_,_,_,_,_,_,_,h,_⟩;rw [h];rfl) (fun cdv A outer s H vs Q E hr h=>?_)
 obtain ⟨a,b,xs,ys,ps,qs,B,C,V',W,e,rfl,hS,hS',hN,hN',hs,hs',hB,hC,hBC,he1,he,hVW,hl,hl',k⟩:=h
 have hBCp:=Nat.mul_pos hB hC
 have hBe:B<2 ^ e:=Nat.lt_of_le_of_lt (Nat.le_mul_of_pos_right _ hC) hBC
 have hCe:C<2 ^ e:=Nat.lt_of_le_of_lt (Nat.le_mul_of_pos_left _ hB) hBC
 have hu:=hr.units
 refine ⟨_,(b9 (A0 (PW.pt (W3 (j3 (ae0 hu) (pv 0) (t6 b7) (j6 _)) (V7 (j3 (ae0 hu) (pv 1) (t6 b7) (j6 _))))) (d7 (g8 (t6 b7))) m8)
   (b9 (i7 (i:=2) A8.nd rfl (Or.inl rfl) (g6 au5 (t6 (b6 (j9 (b6 d4 (b6 d4 b7))) b7)) (g6 N3 (g6 L7 (d8 i3 rfl n_len (by decide +kernel) (b6 (pv 0) b7)) (d8 i3 rfl n_len (by decide +kernel) (b6 (pv 1) b7))) d4)))
   (b9 (R1 PassesOwn.never rfl (Z8 rfl n_enumerate (b6 (pv 0) b7)) (show PG _ _ (P3 K 2 (p5 (n8 3) (p5 (n8 4) P4))) from by (refine B5 (n:=2) ?_ ?_ ?_ ?_;rfl;(refine g7 ?_ ?_ ?_;(exact (e8 (i:=3) A8.nd rfl (Or.inl rfl)));(refine g7 ?_ ?_ ?_;(exact (e8 (i:=4) A8.nd rfl (Or.inl rfl)));(exact v9);rfl);rfl);rfl;rfl)) (d7 (R1 PassesOwn.never rfl (Z8 rfl n_enumerate (b6 (pv 1) b7)) (show PG _ _ (P3 K 2 (p5 (n8 5) (p5 (n8 6) P4))) from by (refine B5 (n:=2) ?_ ?_ ?_ ?_;rfl;(refine g7 ?_ ?_ ?_;(exact (e8 (i:=5) A8.nd rfl (Or.inl rfl)));(refine g7 ?_ ?_ ?_;(exact (e8 (i:=6) A8.nd rfl (Or.inl rfl)));(exact v9);rfl);rfl);rfl;rfl)) (d7 (K8 (d9 G__law_plus hr (b6 (j8 u7 (pv 2) (g6 L7 (pv 3) (pv 5)) (fun _ _=>rfl)) (b6 (d9 G__law_times hr (b6 (pv 4) (b6 (pv 6) b7)) i5) b7)) i5) (aF8 (pv 2) (g6 L7 (pv 3) (pv 5)) Y2))))))
   (d7 (g8 (d9 G__law_trim hr (b6 (pv 2) b7) i5)))))),?_⟩
 rw [show start ["_law_p","_law_q","_law_found","_law_i","_law_one","_law_j","_law_other_here"] [.ref a,.ref b]=[some (.ref a),some (.ref b),none,none,none,none,none] from rfl]
 subst_eqs
 have tl0:A7 ([]:List Rat) 0:=⟨Nat.le_refl _,fun i q _ e=>by simp at e,fun h=>absurd rfl h⟩
 refine ⟨by decide,fun p hp=>?_⟩
 have S1:=d5.new hp (.lst [])
 refine ⟨B7 ps,B7 [],rfl,M8 (S1.seq hS) (hN.mono S1.tups),M8 (SqL.of b8) .nil,N5 _ _,Nat.le_trans (U4 _) (by decide),?_⟩
 rw [N8]
 refine ⟨_,rfl,t9 (fun h=>⟨by decide,fun r hr'=>?_⟩) (fun h=>?_)⟩
 ·have e:R9 ps qs=[]:=by rw [R9,if_pos (.inl (by simpa using h))]
  rw [e] at k
  exact k 0 r [] _ tl0 (by simp) (S1.trans (d5.new hr' _)) (S1.free hr') b8 .nil
 have np:ps≠[]:=fun z=>h (by simp [z])
 refine ⟨by decide,fun p2 hp2=>?_⟩
 have S2:=S1.trans (d5.new hp2 (.lst []))
 refine ⟨B7 qs,B7 [],rfl,M8 (S2.seq hS') (hN'.mono S2.tups),M8 (SqL.of b8) .nil,N5 _ _,Nat.le_trans (U4 _) (by decide),?_⟩
 rw [N8]
 refine ⟨_,rfl,t9 (fun h=>⟨by decide,fun r hr'=>?_⟩) (fun h=>?_)⟩
 ·have e:R9 ps qs=[]:=by rw [R9,if_pos (.inr (by simpa using h))]
  rw [e] at k
  exact k 0 r [] _ tl0 (by simp) (S2.trans (d5.new hr' _)) (S2.free hr') b8 .nil
 have nq:qs≠[]:=fun z=>h (by simp [z])
 have lx:=hN.length
 have ly:=hN'.length
 have lp:0<ps.length:=List.length_pos_iff.mpr np
 have lq:0<qs.length:=List.length_pos_iff.mpr nq
 refine ⟨y7,fun p3 hp3=>⟨bb4,fun p4 hp4=>?_⟩⟩
 have S3:=S2.trans (d5.new hp3 (.tup [.int 0,.int 1]))
 have S4:=S3.trans (d5.new hp4 (.lst [.ref p3]))
 refine ⟨_,.inl (S4.seq hS),_,.inl (S4.seq hS'),_,b8,by lia,by lia,?_,fun l hl0=>?_⟩
 ·simp only [List.length_cons,List.length_nil]
  exact Nat.le_trans (show _≤40 by lia) (by decide)
 have hz:(List.replicate ((xs.length:Int)+(ys.length:Int) - 1).toNat [V.ref p3]).flatten=List.replicate (ps.length+qs.length - 1) (V.ref p3):=by
  have e:((xs.length:Int)+(ys.length:Int) - 1).toNat=ps.length+qs.length - 1:=by lia
  rw [e,List.flatten_replicate_singleton]
 rw [hz]
 have S5:=S4.trans (d5.new hl0 (.lst (List.replicate (ps.length+qs.length - 1) (.ref p3))))
 have hlH:H l=none:=S4.free hl0
 have ez:(upd (upd (upd (upd (upd H p (.lst [])) p2 (.lst [])) p3 (.tup [.int 0,.int 1])) p4 (.lst [.ref p3])) l (.lst (List.replicate (ps.length+qs.length - 1) (.ref p3)))) p3=some (.tup (t8 0)):=d5.new hl0 _ _ _ (d5.new hp4 _ _ _ b8)
 refine ⟨_,rfl,a,rfl,⟨_,S5.seq hS⟩,ab5 xs (fun i σ H2=>∃ o3 o4 o5 o6,σ=[some (.ref a),some (.ref b),some (.ref l),o3,o4,o5,o6]∧d5 H H2∧∃ zs,H2 l=some (.lst zs)∧q8 H2 zs (y9 0 (List.replicate (ps.length+qs.length - 1) (0:Rat)) ps qs i)∧∀ v∈y9 0 (List.replicate (ps.length+qs.length - 1) (0:Rat)) ps qs i,OvB (B * C) (V'+W+i * qs.length) v)
  ⟨_,_,_,_,rfl,S5,_,b8,q8.rep ez _,fun v hv=>by rw [(List.mem_replicate.mp hv).2];exact OvB.zero _ _⟩ (fun i σ H2 ⟨_,_,_,_,_,s2,_⟩=>s2.seq hS) ?_ ?_⟩
 ·rintro i x σ H2 r hx ⟨o3,o4,o5,o6,rfl,s2,zs,e2,n2,b2⟩ hr'
  obtain ⟨px,q,rfl,hq,hpx⟩:=hN.getV hx
  have hi:=(List.getElem?_eq_some_iff.mp hq).1
  have sr:=d5.new hr' (.tup [.int i,.ref px])
  refine ⟨_,_,rfl,SqT.of b8,rfl,_,_,rfl,_,_,rfl,rfl,?_⟩
  refine ⟨_,rfl,b,rfl,⟨_,(s2.trans sr).seq hS'⟩,ab5 ys (fun j σ H4=>∃ o5 o6,σ=[some (.ref a),some (.ref b),some (.ref l),some (.int i),some (.ref px),o5,o6]∧d5 H H4∧∃ zs,H4 l=some (.lst zs)∧q8 H4 zs (u0 0 (y9 0 (List.replicate (ps.length+qs.length - 1) (0:Rat)) ps qs i) i q qs j)∧∀ v∈u0 0 (y9 0 (List.replicate (ps.length+qs.length - 1) (0:Rat)) ps qs i) i q qs j,OvB (B * C) (V'+W+(i * qs.length+j)) v)
   ⟨_,_,rfl,s2.trans sr,_,sr _ _ e2,n2.mono sr.tups,b2⟩ (fun i σ H2 ⟨_,_,_,s2,_⟩=>s2.seq hS') ?_ ?_⟩
  ·rintro j y σ H4 t hy ⟨o5,o6,rfl,s4,zs4,e4,n4,b4⟩ ht
   obtain ⟨py,q',rfl,hq',hpy⟩:=hN'.getV hy
   have hj:=(List.getElem?_eq_some_iff.mp hq').1
   have st:=d5.new ht (.tup [.int j,.ref py])
   have e5:=st _ _ e4
   have hF:i+j<(u0 0 (y9 0 (List.replicate (ps.length+qs.length - 1) (0:Rat)) ps qs i) i q qs j).length:=by
    rw [X6,W9,List.length_replicate];lia
   have eg:=List.getElem?_eq_getElem hF
   obtain ⟨pv,hv,hpv⟩:=(n4.mono st.tups).get eg
   have ec:(i:Int)+(j:Int)=((i+j:Nat):Int):=by simp
   have hc:i * qs.length+j<400:=by
    have h1:i * qs.length≤19 * qs.length:=Nat.mul_le_mul_right _ (by lia)
    lia
   subst_eqs
   have o1:=hs q (List.mem_of_getElem? hq)
   have o2:=hs' q' (List.mem_of_getElem? hq')
   have sq:=o1.bt hB hBe (by lia)
   have sq':=o2.bt hC hCe (by lia)
   refine ⟨_,SqT.of b8,rfl,_,_,rfl,_,_,rfl,rfl,_,rfl,_,SqL.of e5,_,(by rw [ec];exact F7 hv),?_⟩
   refine ⟨_,_,q,q',e,e,rfl,⟨px,rfl,SqT.of (st _ _ (s4 _ _ hpx))⟩,⟨py,rfl,SqT.of (st _ _ (s4 _ _ hpy))⟩,sq,sq',by lia,fun r1 H5 s5 er1=>?_⟩
   have bold:=b4 _ (List.getElem_mem hF)
   refine ⟨_,_,_,_,e,e,rfl,⟨pv,rfl,SqT.of (s5 _ _ hpv)⟩,⟨r1,rfl,SqT.of er1⟩,bold.bt hBCp hBC (by lia),(o1.mul o2).bt hBCp hBC (by lia),by omega,fun r2 H6 s6 er2=>?_⟩
   have e6:=s6 _ _ (s5 _ _ e5)
   have lz:zs4.length=(u0 0 (y9 0 (List.replicate (ps.length+qs.length - 1) (0:Rat)) ps qs i) i q qs j).length:=n4.length
   have n6:q8 H6 zs4 (u0 0 (y9 0 (List.replicate (ps.length+qs.length - 1) (0:Rat)) ps qs i) i q qs j):=((n4.mono st.tups).mono s5.tups).mono s6.tups
   have estep:u0 0 (y9 0 (List.replicate (ps.length+qs.length - 1) (0:Rat)) ps qs i) i q qs (j+1)=N9 (u0 0 (y9 0 (List.replicate (ps.length+qs.length - 1) (0:Rat)) ps qs i) i q qs j) (i+j) (q * q'):=by
    rw [u0,hq'];rfl
   refine ⟨_,rfl,_,e6,i+j,?_,(s4.trans (st.trans (s5.trans s6))).over hlH _,_,b8,?_,?_⟩
   ·rw [ec]
    unfold ixN
    rw [if_pos (by lia),if_pos (by rw [lz];lia)]
    rfl
   ·rw [estep,←ab7 _ _ _ _ eg]
    exact (n6.set (i+j) er2).mono (ac8.lst e6)
   ·rw [estep]
    intro v hv'
    exact (aY6 hBCp b4 ((o1.mul o2).mono (by simp)) v hv').mono (by lia)
  ·rintro σ H4 ⟨o5,o6,rfl,s4,zs4,e4,n4,b4⟩
   refine ⟨_,_,_,_,rfl,s4,zs4,e4,?_,?_⟩
   ·rw [ly] at n4
    rw [y9,hq];exact n4
   ·rw [ly] at b4
    rw [y9,hq]
    intro v hv
    refine (b4 v hv).mono ?_
    have e:(i+1) * qs.length=i * qs.length+qs.length:=by grind
    lia
 ·rintro σ H2 ⟨o3,o4,o5,o6,rfl,s2,zs,e2,n2,b2⟩
  rw [lx] at n2 b2
  have em:R9 ps qs=y9 0 (List.replicate (ps.length+qs.length - 1) 0) ps qs ps.length:=by rw [R9,if_neg (by simp [np,nq])]
  rw [←em] at n2 b2
  refine ⟨_,rfl,l,zs,_,rfl,SqL.of e2,n2,fun m r H3 tl s3 hr' e3=>?_⟩
  refine k m r _ _ tl (fun v hv=>(b2 v hv).mono ?_) (s2.trans s3) (s2.free hr') e3 ((n2.take m).mono s3.tups)
  have:ps.length * qs.length≤20 * 20:=Nat.mul_le_mul hl hl'
  lia
end
theorem as3 {l:List Rat} {m:Nat} (t:A7 l m):qp (l.take m)=qp l:=Pf.ext fun k=>bm2 t k
theorem aO6 {a b:List Rat} (ta:A7 a a.length) (tb:A7 b b.length) (h:qp a=qp b):a=b:=bp2 ta tb fun k=>congrArg (fun z=>Pf.f z k) h
theorem aJ1 {l:List Rat} {p:Pf} {n:Nat} (t:A7 l l.length) (e:qp l=p) (d:Dg p.f n):l.length≤n:=by
 rcases Nat.lt_or_ge n l.length with z | z
 ·have hg:=List.getElem?_eq_getElem (l:=l) (show l.length - 1<l.length by omega)
  have h1:=t.last (by lia) _ hg
  have h2:=d (l.length - 1) (by omega)
  rw [←e] at h2
  have h3:aQ l (l.length - 1)=0:=h2
  unfold aQ at h3
  rw [hg] at h3
  exact absurd h3 h1
 ·exact z
section
variable {P:Program} {w:World} {K:PySem.W.Frag} {mg:Str→Option Value} {base:Heap}
def aK1 (K:PySem.W.Frag):Sp:=fun vs H Q _=>∃ (a b:Addr) (ts:List Addr) (xs:List V) (c:Nat) (M:List (List Rat)) (last:List Rat),vs=[.ref a,.ref b]∧SqL K H a (ts.map V.ref)∧Rws H ts M∧SqL K H b xs∧q8 H xs last∧O0 c M last ∧
 ∀ r zs ps H',d5 H H'→H r=none→H' r=some (.lst zs)→q8 H' zs ps→A7 ps ps.length→qp ps=(fld M last M.length).1+(fld M last M.length).2→Q (.ref r) H'
abbrev F4:Stmt:=top 99
theorem Q5:i8 ["_law_quotients","_law_last","_law_one","_law_first","_law_second"] ["_law_quotients","_law_last"] (d3 F4):=by and_intros
set_option maxHeartbeats 0 in
theorem au7 {f f1 f2:Addr} (d:Df K mg "_law_folded" F4 ["_law_quotients","_law_last"] f) (G__law_poly_plus:Def P w K mg base CX0 3 "_law_poly_plus" f1 ["_law_p","_law_q"] (bb0 K)) (G__law_poly_times:Def P w K mg base CX0 3 "_law_poly_times" f2 ["_law_p","_law_q"] (aS4 K)) (n_reversed:mg "reversed" = none):Def P w K mg base CX0 4 "_law_folded" f ["_law_quotients","_law_last"] (aK1 K):=by
 refine d.ok (N:=["_law_quotients","_law_last","_law_one","_law_first","_law_second"]) Q5 (by rintro vs H Q E ⟨_,_,_,_,_,_,_,h,_⟩;rw [h];rfl) (fun cdv A outer s H vs Q E hr h=>?_)
 obtain ⟨a,b,ts,xs,c,M,last,rfl,hS,hR,hSb,hNb,R,k⟩:=h
 refine ⟨_,(b9 (V8 (i:=3) (j:=4) rfl Q5.nd rfl rfl (by decide) rfl rfl (b6 (pv 1) (b6 (t6 b7) b7)) rfl)
   (b9 (R1 PassesOwn.never rfl (bc9 rfl n_reversed (b6 (pv 0) b7)) (e8 (i:=2) Q5.nd rfl (Or.inl rfl)) (d7 (V8 (i:=3) (j:=4) rfl Q5.nd rfl rfl (by decide) rfl rfl (b6 (d9 G__law_poly_plus hr (b6 (d9 G__law_poly_times hr (b6 (pv 2) (b6 (pv 3) b7)) i5) (b6 (pv 4) b7)) i5) (b6 (pv 3) b7)) rfl)))
   (d7 (g8 (d9 G__law_poly_plus hr (b6 (pv 3) (b6 (pv 4) b7)) i5))))),?_⟩
 rw [show start ["_law_quotients","_law_last","_law_one","_law_first","_law_second"] [.ref a,.ref b]=[some (.ref a),some (.ref b),none,none,none] from rfl]
 have ll:last.length≤15:=by have:=R.s;omega
 have lM:=R.len
 have lts:=hR.length
 have ov:=ag1 R
 obtain ⟨c10,c40⟩:=R.c1
 refine e9 (fun σ H1=>∃ l,σ=[some (.ref a),some (.ref b),none,some (.ref b),some (.ref l)]∧d5 H H1∧H1 l=some (.lst [])) (fun N hN=>?_) ?_
 ·subst_eqs
  exact ⟨by decide,fun p hp=>hN _ _ ⟨p,rfl,d5.new hp _,b8⟩⟩
 rintro σ H1 ⟨l0,rfl,S1,e0⟩
 obtain ⟨I,hI⟩:∃ I:Nat→L2.St→Hp→Prop,∀ i σ H2,I i σ H2↔∃ o2 p1 p2 z1 z2 F1 F2,σ=[some (.ref a),some (.ref b),o2,some (.ref p1),some (.ref p2)]∧d5 H H2∧SqL K H2 p1 z1∧SqL K H2 p2 z2∧q8 H2 z1 F1∧q8 H2 z2 F2∧A7 F1 F1.length∧A7 F2 F2.length∧qp F1=(fld M last i).1∧qp F2=(fld M last i).2:=⟨_,fun _ _ _=>Iff.rfl⟩
 refine e9 (I M.length) (fun N hN=>?_) ?_
 ·refine ⟨_,rfl,a,_,rfl,S1.seq hS,aT6 (xs:=ts.map V.ref) I ((hI _ _ _).mpr ⟨_,b,l0,xs,[],last,[],rfl,S1,S1.seq hSb,SqL.of e0,hNb.mono S1.tups,.nil,R.t,bp1,rfl,bq8⟩) (by rintro i σ H2 _ h2;obtain ⟨_,_,_,_,_,_,_,_,s2,_⟩:=(hI _ _ _).mp h2;exact s2.seq hS) ?_ (by rintro σ H2 h2;rw [List.length_map,lts] at h2;exact hN _ _ h2)⟩
  rintro i x σ H2 hi hx h2
  obtain ⟨o2,p1,p2,z1,z2,F1,F2,rfl,s2,q1,q2,n1,n2,t1,t2,e1,e2⟩:=(hI _ _ _).mp h2
  rw [List.length_map] at hi hx
  have him:i<M.length:=by omega
  obtain ⟨L,hg,hLM,hdn,ei,_⟩:=R.at him
  obtain ⟨pL,hpL,rfl⟩:=aK8 hx
  obtain ⟨ys,L',hL',eL,nL⟩:=hR.get hpL
  rw [show ts.length - 1 - i=M.length - 1 - i by omega,hg] at hL'
  cases hL'
  obtain ⟨tL,l2,_,oL⟩:=R.m L hLM
  have l15:=R.l15 hLM
  have cl:=al5 oL
  have st:=aD7 (c:=c) (D:=dn M last i) (d:=L.length - 1) (by omega)
  rw [←hdn,Nat.sub_add_cancel (by omega)] at st
  generalize 1+c * L.length+c=vb at cl st
  have ubi:=R.ub (n:=i+1) (by lia)
  have sm:=R.sum (n:=i) (by exact Nat.le_of_lt ‹_›)
  have edn:dn M last i+1≤15:=by
   have:=List.length_pos_iff.mpr R.n
   unfold dn;lia
  obtain ⟨dg1,dg2⟩:=ac4 R i (by omega)
  have lF1:=aJ1 t1 e1 dg1
  have lF2:=aJ1 t2 e2 dg2
  obtain ⟨B,B0,hB,ov1,ov2⟩:=ov i (by exact Nat.le_of_lt ‹_›)
  have up:=ad4 c (dn M last i)
  generalize Ub c (dn M last i)=ub at *
  have o1:∀ x∈F1,OvB B ub x:=Y5 (by rw [e1];exact ov1)
  have o2':∀ x∈F2,OvB B ub x:=Y5 (by rw [e2];exact ov2)
  have BC:m5 L * B<2 ^ 710:=by
   have h1:m5 L * B<2 ^ vb * 2 ^ ub:=Nat.mul_lt_mul'' cl.l hB
   rw [←Nat.pow_add] at h1
   exact Nat.lt_of_lt_of_le h1 (d6 (by lia))
  subst_eqs
  refine ⟨pL,p1,ys,z1,L,F1,m5 L,B,vb,ub,710,rfl,SqL.of (s2 _ _ eL),q1,nL.mono s2.tups,n1,(fun x hx=>aP2 cl hx),o1,C2 _,B0,BC,by decide,by decide,by lia,by lia,by lia,fun m r3 z3 H3 tm3 ob3 s3 f3 e3 n3=>?_⟩
  have lm:(R9 L F1).length≤40:=by
   by_cases zz:F1=[]
   ·subst zz
    have:R9 L []=[]:=by unfold R9;rw [if_pos (.inr rfl)]
    rw [this];simp
   ·have:=aM2 (p:=L) (q:=F1) (fun z=>by rw [z] at l2;simp at l2) zz
    lia
  refine ⟨r3,p2,z3,z2,_,F2,rfl,SqL.of e3,s3.seq q2,n3,n2.mono s3.tups,⟨710,710,fun q hq=>(ob3 q (List.mem_of_mem_take hq)).bt (Nat.mul_pos (C2 _) B0) BC (by lia),fun q hq=>(o2' q hq).bt B0 (Nat.lt_of_lt_of_le hB (d6 (by lia))) (by lia),by decide,by decide,by decide⟩,by rw [List.length_take];lia,by lia,fun m4 r4 z4 H4 tm4 s4 f4 e4 n4=>?_⟩
  refine (hI _ _ _).mpr ⟨_,r4,p1,z4,z1,_,F1,rfl,s2.trans (s3.trans s4),SqL.of e4,(s3.trans s4).seq q1,n4,n1.mono (s3.trans s4).tups,as0 tm4,t1,?_,e1⟩
  rw [as3 tm4,bc5,as3 tm3,bq9,e1,e2,ei]
 rintro σ H2 h2
 obtain ⟨o2,p1,p2,z1,z2,F1,F2,rfl,s2,q1,q2,n1,n2,t1,t2,e1,e2⟩:=(hI _ _ _).mp h2
 have sm:=R.sum (n:=M.length) (Nat.le_refl _)
 obtain ⟨dg1,dg2⟩:=ac4 R M.length (Nat.le_refl _)
 have lF1:=aJ1 t1 e1 dg1
 have lF2:=aJ1 t2 e2 dg2
 have edn:dn M last M.length+1≤15:=by
  have:=List.length_pos_iff.mpr R.n
  unfold dn;lia
 have ubm:=R.ub (n:=M.length) (Nat.le_refl _)
 obtain ⟨B,B0,hB,ov1,ov2⟩:=ov M.length (Nat.le_refl _)
 have o1:∀ x∈F1,OvB B (Ub c (dn M last M.length)) x:=Y5 (by rw [e1];exact ov1)
 have o2':∀ x∈F2,OvB B (Ub c (dn M last M.length)) x:=Y5 (by rw [e2];exact ov2)
 subst_eqs
 refine ⟨p1,p2,z1,z2,F1,F2,rfl,q1,q2,n1,n2,⟨710,710,fun q hq=>(o1 q hq).bt B0 (Nat.lt_of_lt_of_le hB (d6 (by lia))) (by lia),fun q hq=>(o2' q hq).bt B0 (Nat.lt_of_lt_of_le hB (d6 (by omega))) (by omega),by decide,by decide,by decide⟩,by lia,by lia,fun m4 r4 z4 H4 tm4 s4 f4 e4 n4=>?_⟩
 exact k r4 z4 _ H4 (s2.trans s4) (s2.free f4) e4 n4 (as0 tm4) (by rw [as3 tm4,bc5,e1,e2])
end
theorem bh8 {ps:List Rat} {p q:Pf} {d:Nat} (l:ps.length=d+1) (e:qp ps=p+q) (hp:Par d p) (hq:Par (d+1) q):qp (F6 0 ps)=p∧qp (F6 1 ps)=q:=by
 have h:∀ k,aQ ps k=p.f k+q.f k:=fun k=>by
  have:=congrArg (fun z=>Pf.f z k) e
  exact this
 have t:∀ b k,aQ (F6 b ps) k=if (d+k) % 2=b then aQ ps k else 0:=fun b k=>by
  unfold aQ
  rw [as8,l,Nat.add_sub_cancel]
  cases g:ps[k]? with
  | none=>simp
  | some v=>simp
 refine ⟨Pf.ext fun k=>?_,Pf.ext fun k=>?_⟩
 ·show aQ (F6 0 ps) k=p.f k
  rw [t,h]
  split
  ·rw [hq k (by omega)];grind
  ·rw [hp k (by lia)]
 ·show aQ (F6 1 ps) k=q.f k
  rw [t,h]
  split
  ·rw [hp k (by omega)];grind
  ·rw [hq k (by lia)]
theorem aS1 {ps:List Rat} (h:A7 ps ps.length):A7 (F6 0 ps) (F6 0 ps).length:=Y0 fun x hx=>by
 rw [ai7,as8] at hx
 cases g:ps[ps.length - 1]? with
 | none=>rw [g] at hx;cases hx
 | some v=>
  rw [g] at hx
  have hl:=(List.getElem?_eq_some_iff.mp g).1
  have hv:=h.last (by lia) v g
  rw [Option.map_some,if_pos (by lia)] at hx
  cases hx
  exact hv
theorem V4 {c:Nat} {M:List (List Rat)} {last ps:List Rat} (R:O0 c M last) (t:A7 ps ps.length) (e:qp ps=(fld M last M.length).1+(fld M last M.length).2):ps.length=dn M last M.length+1:=by
 obtain ⟨d1,d2⟩:=ac4 R M.length (Nat.le_refl _)
 have le:=aJ1 t e (n:=dn M last M.length+1) fun k hk=>by rw [V9,d1 k hk,d2 k (by exact Nat.le_of_lt ‹_›)];grind
 rcases Nat.lt_or_ge ps.length (dn M last M.length+1) with z | z
 ·exfalso
  have h:=congrArg (fun z=>Pf.f z (dn M last M.length)) e
  have h1:aQ ps (dn M last M.length)=(fld M last M.length).1.f (dn M last M.length)+(fld M last M.length).2.f (dn M last M.length):=h
  rw [d2 _ (Nat.le_refl _)] at h1
  have h2:aQ ps (dn M last M.length)=0:=by unfold aQ;rw [List.getElem?_eq_none (by lia)];rfl
  rw [h2] at h1
  exact K5 R M.length (Nat.le_refl _) (by grind)
 ·lia
structure FX (K:PySem.W.Frag) (D:Addr) (H:Hp) (r:Addr) (p:Pf) (b:Nat) (s:Rat) (ws:List Int):Prop where
 fm:FmX K D H r s ws
 s0:s≠0
 tz:A6 ws ws.length
 e:v6 s * zp ws=p
 bs:BdN b s
 bw:∀ v∈ws,Int.natAbs v<2 ^ b
theorem aH7 {s:Rat} {ws:List Int} {p:Pf} {B W:Nat} (s0:s≠0) (e:v6 s * zp ws=p) (B0:0<B) (hB:B<2 ^ W) (hp:OvP B W p) (g:u8 ws=1):BdN W s∧∀ v∈ws,Int.natAbs v<2 ^ W:=
 aB2 rfl g s0 (X7 B0 hB (Y5 (by rw [T9,e];exact hp)))
theorem bl3 {c:Nat} {M:List (List Rat)} {last:List Rat} (R:O0 c M last) {j:Nat} (hj:j<M.length) {q r:Pf} {m:Nat} (e:(fld M last (j+1)).1=q * (fld M last j).1+r) (hr:Dg r.f (dn M last j)) (hq:Dg q.f m):∃ L,M[M.length - 1 - j]? = some L∧L∈M∧q=qp L∧r=(fld M last j).2:=by
 obtain ⟨L,hg,hL,hd,e1,e2⟩:=R.at hj
 obtain ⟨d1,d2⟩:=ac4 R j (by exact Nat.le_of_lt ‹_›)
 have key:=bg7 (O:=(fld M last j).1.f) (f0:=q.f) (g0:=(qp L).f) (f1:=r.f) (g1:=(fld M last j).2.f) (n:=dn M last j) (m:=max m L.length) (K5 R j (by omega)) (fun k hk=>d1 k (by lia)) hr d2 (fun k hk=>hq k (by lia)) (fun k hk=>aB0 L k (by lia)) fun k=>by
  have h1:=congrArg (fun z=>Pf.f z k) e
  have h2:=congrArg (fun z=>Pf.f z k) e1
  simp only [V9,aO8] at h1 h2
  rw [←h1,←h2]
 exact ⟨L,hg,hL,Pf.ext key.1,Pf.ext key.2⟩
structure DRow (K:PySem.W.Frag) (c:Nat) (M:List (List Rat)) (last:List Rat) (H:Hp) (D:Addr) (i:Nat) (r1 r2:Addr) (vs:List V) (fs:List (Rat × List Int)) (H2:Hp):Prop where
 le:i≤M.length
 same:d5 H H2
 eD:H2 D=some (.lst vs)
 fm:Fms K D H2 vs fs
 eM:fs.map (fun f=>scl f.1 f.2)=M.take (M.length - i)
 one:∃ s A,FX K D H2 r1 (fld M last i).1 (Ub c (dn M last i)) s A
 other:∃ t B,FmX K D H2 r2 t B∧((i=0∧B=[])∨∃ j,i=j+1∧FX K D H2 r2 (fld M last j).1 (Ub c (dn M last j)) t B)
 small:∀ f∈fs,f.1.den<2 ^ 6000∧f.1.num.natAbs<2 ^ 6000∧(∀ v∈f.2,Int.natAbs v<2 ^ 20000)∧f.2.length≤100
theorem bg1 {c:Nat} {M:List (List Rat)} {last:List Rat} (R:O0 c M last) {i:Nat} (hi:i≤M.length) {s:Rat} {ws:List Int} (s0:s≠0) (t:A6 ws ws.length) (e:v6 s * zp ws=(fld M last i).1):ws.length=dn M last i+1:=by
 have h1:=ap4 s0 t e (ac4 R i hi).1
 have h2:=K5 R i hi
 rcases Nat.lt_or_ge (dn M last i) ws.length with z | z
 ·lia
 ·exfalso
  refine h2 ?_
  rw [←e,ax9,show (zp ws).f (dn M last i)=zc ws (dn M last i) from rfl,az5 ws _ z];grind
section
variable {P:Program} {w:World} {K:PySem.W.Frag} {mg:Str→Option Value} {base:Heap}
abbrev v8:Stmt:=top 59
theorem z7:i8 ["p","quotients","first","second","one","other","quotient","rest"] ["p"] (d3 v8):=by and_intros
end
def sgd (i:Nat):Rat:=if i % 2=0 then 1 else -1
theorem bb5 (i:Nat):sgd (i+1) = - sgd i:=by
 unfold sgd
 rcases Nat.mod_two_eq_zero_or_one i with h | h
 ·rw [if_pos h,if_neg (by omega)]
 ·rw [if_pos (show (i+1) % 2=0 by lia),if_neg (show ¬ i % 2=0 by lia)];grind
abbrev Mt:=Nat→Nat→Rat
def mn (M:Mt) (i:Nat):Mt:=fun r c=>M (if r<i then r else r+1) (c+1)
def dt:Nat→Mt→Rat
 | 0,_=>1
 | n+1,M=>j7 (fun i=>sgd i * M i 0 * dt n (mn M i)) (n+1)
theorem T0 (n:Nat) (M:Mt):dt (n+1) M=j7 (fun i=>sgd i * M i 0 * dt n (mn M i)) (n+1):=rfl
theorem aM8:∀ {n:Nat} {M N:Mt},(∀ r,r<n→∀ c,c<n→M r c=N r c)→dt n M=dt n N
 | 0,_,_,_=>rfl
 | n+1,M,N,h=>by
  rw [T0,T0]
  refine p7 fun i hi=>?_
  rw [h i hi 0 (by simp),aM8 (n:=n) (M:=mn M i) (N:=mn N i) fun r hr c hc=>h _ (by split <;> lia) _ (by lia)]
def C3 (M:Mt) (r:Nat) (v:Nat→Rat):Mt:=fun i c=>if i=r then v c else M i c
theorem am6 (M:Mt) (r:Nat):C3 M r (M r)=M:=by
 funext i c
 unfold C3
 split
 ·rename_i h;rw [h]
 ·rfl
theorem ae2 (M:Mt) (r:Nat) (v:Nat→Rat):mn (C3 M r v) r=mn M r:=by
 funext i c
 unfold mn C3
 rw [if_neg (by split <;> lia)]
theorem ao4 (M:Mt) {r i:Nat} (v:Nat→Rat) (h:r<i):mn (C3 M r v) i=C3 (mn M i) r (fun c=>v (c+1)):=by
 funext a c
 unfold mn C3
 by_cases z:a=r
 ·rw [if_pos z,if_pos (by rw [z,if_pos h])]
 ·rw [if_neg z,if_neg (by split <;> lia)]
theorem ao5 (M:Mt) {r i:Nat} (v:Nat→Rat) (h:i<r):mn (C3 M r v) i=C3 (mn M i) (r - 1) (fun c=>v (c+1)):=by
 funext a c
 unfold mn C3
 by_cases z:a=r - 1
 ·rw [if_pos z,if_pos (by rw [z,if_neg (by omega)];lia)]
 ·rw [if_neg z,if_neg (by split <;> lia)]
theorem aH9:∀ {n:Nat} (M:Mt) {r:Nat} (a b:Rat) (v w:Nat→Rat),r<n→dt n (C3 M r fun c=>a * v c+b * w c)=a * dt n (C3 M r v)+b * dt n (C3 M r w)
 | 0,_,_,_,_,_,_,h=>by omega
 | n+1,M,r,a,b,v,w,h=>by
  rw [T0,T0,T0,af2,af2,af3]
  refine p7 fun i hi=>?_
  rcases Nat.lt_trichotomy r i with z | z | z
  ·rw [ao4 M _ z,ao4 M _ z,ao4 M _ z,aH9 (mn M i) a b _ _ (by lia)]
   have:∀ u:Nat→Rat,C3 M r u i 0=M i 0:=fun u=>if_neg (by lia)
   rw [this,this,this];grind
  ·subst z
   rw [ae2,ae2,ae2]
   have:∀ u:Nat→Rat,C3 M r u r 0=u 0:=fun u=>if_pos rfl
   rw [this,this,this];grind
  ·rw [ao5 M _ z,ao5 M _ z,ao5 M _ z,aH9 (mn M i) a b _ _ (by lia)]
   have:∀ u:Nat→Rat,C3 M r u i 0=M i 0:=fun u=>if_neg (by lia)
   rw [this,this,this];grind
theorem bi6 {f:Nat→Rat} {n r:Nat} (hr:r+1<n) (h:∀ i,i<n→i≠r→i≠r+1→f i=0):j7 f n=f r+f (r+1):=by
 have:j7 f n=j7 (fun i=>(if i=r then f r else 0)+(if i=r+1 then f (r+1) else 0)) n:=p7 fun i hi=>by
  by_cases z:i=r
  ·rw [if_pos z,if_neg (by lia),z];grind
  ·by_cases y:i=r+1
   ·rw [if_neg z,if_pos y,y];grind
   ·rw [if_neg z,if_neg y,h i hi z y];grind
 rw [this,←af3,E1 (fun _=>f r),E1 (fun _=>f (r+1)),if_pos (by exact Nat.le_of_lt ‹_›),if_pos hr]
theorem aI0:∀ {n:Nat} {M:Mt} {r:Nat},r+1<n→(∀ c,M r c=M (r+1) c)→dt n M=0
 | 0,_,_,h,_=>by lia
 | n+1,M,r,h,e=>by
  rw [T0]
  rw [bi6 h fun i hi h1 h2=>?_]
  ·have:mn M r=mn M (r+1):=by
    funext a c
    unfold mn
    by_cases z:a=r
    ·rw [if_neg (by lia),if_pos (by lia),z,e]
    ·by_cases y:a<r
     ·rw [if_pos y,if_pos (by omega)]
     ·rw [if_neg y,if_neg (by lia)]
   rw [this,bb5,e 0];grind
  ·have:dt n (mn M i)=0:=by
    by_cases z:i<r
    ·refine aI0 (r:=r - 1) (by lia) fun c=>?_
     unfold mn
     rw [if_neg (by omega),if_neg (by lia),show r - 1+1=r by lia];exact e _
    ·refine aI0 (r:=r) (by lia) fun c=>?_
     unfold mn
     rw [if_pos (by lia),if_pos (by lia)];exact e _
   rw [this];grind
def swR (M:Mt) (r s:Nat):Mt:=fun i c=>M (if i=r then s else if i=s then r else i) c
theorem set_comm (M:Mt) {r s:Nat} (h:r≠s) (v w:Nat→Rat):C3 (C3 M r v) s w=C3 (C3 M s w) r v:=by
 funext i c
 unfold C3
 by_cases z:i=s
 ·rw [if_pos z,if_neg (by lia),if_pos z]
 ·rw [if_neg z]
  by_cases y:i=r
  ·rw [if_pos y,if_pos y]
  ·rw [if_neg y,if_neg y,if_neg z]
theorem bg6 {n:Nat} (M:Mt) {r:Nat} (v w:Nat→Rat) (h:r<n):dt n (C3 M r fun c=>v c+w c)=dt n (C3 M r v)+dt n (C3 M r w):=by
 have:=aH9 M 1 1 v w h
 rw [show (fun c=>v c+w c)=fun c=>1 * v c+1 * w c by funext c;grind,this];grind
theorem bl5 {n:Nat} {M:Mt} {r:Nat} (h:r+1<n):dt n (swR M r (r+1)) = - dt n M:=by
 have e0:∀ v:Nat→Rat,dt n (C3 (C3 M r v) (r+1) v)=0:=fun v=>aI0 h fun c=>by
  unfold C3
  rw [if_neg (by simp),if_pos rfl,if_pos rfl]
 have e1:=e0 fun c=>M r c+M (r+1) c
 have x1:∀ w:Nat→Rat,dt n (C3 (C3 M r fun c=>M r c+M (r+1) c) (r+1) w)=dt n (C3 (C3 M (r+1) w) r (M r))+dt n (C3 (C3 M (r+1) w) r (M (r+1))):=fun w=>by
  rw [set_comm _ (by omega),bg6 _ _ _ (by omega)]
 rw [bg6 _ _ _ h,x1,x1] at e1
 rw [show C3 (C3 M (r+1) (M r)) r (M r)=C3 (C3 M r (M r)) (r+1) (M r) from set_comm _ (by simp) _ _,e0] at e1
 rw [show C3 (C3 M (r+1) (M (r+1))) r (M (r+1))=C3 (C3 M r (M (r+1))) (r+1) (M (r+1)) from set_comm _ (by omega) _ _,e0] at e1
 have s1:C3 (C3 M (r+1) (M (r+1))) r (M r)=M:=by rw [am6,am6]
 have s2:C3 (C3 M (r+1) (M r)) r (M (r+1))=swR M r (r+1):=by
  funext i c
  unfold C3 swR
  by_cases z:i=r
  ·rw [if_pos z,if_pos z]
  ·rw [if_neg z,if_neg z]
   by_cases y:i=r+1
   ·rw [if_pos y,if_pos y]
   ·rw [if_neg y,if_neg y]
 rw [s1,s2] at e1
 grind
theorem aw3 {n:Nat}:∀ (d:Nat) {M:Mt} {r:Nat},r+d+1<n→(∀ c,M r c=M (r+d+1) c)→dt n M=0
 | 0,_,_,h,e=>aI0 h e
 | d+1,M,r,h,e=>by
  have h1:=bl5 (M:=M) (r:=r+d+1) (n:=n) (by omega)
  have h2:dt n (swR M (r+d+1) (r+d+1+1))=0:=aw3 d (r:=r) (by exact Nat.le_of_lt ‹_›) fun c=>by
   unfold swR
   rw [if_neg (by lia),if_neg (by lia),if_pos rfl];exact e c
  rw [h2] at h1
  grind
theorem aX6 {n:Nat} {M:Mt} {r s:Nat} (hr:r<n) (hs:s<n) (hn:r≠s) (e:∀ c,M r c=M s c):dt n M=0:=by
 rcases Nat.lt_or_ge r s with z | z
 ·exact aw3 (s - r - 1) (r:=r) (by omega) fun c=>by rw [show r+(s - r - 1)+1=s by omega];exact e c
 ·exact aw3 (r - s - 1) (r:=s) (by omega) fun c=>by rw [show s+(r - s - 1)+1=r by lia];exact (e c).symm
theorem bu6 {n:Nat} {M:Mt} {r s:Nat} (a b:Rat) (hr:r<n) (hs:s<n) (hn:r≠s):dt n (C3 M r fun c=>a * M r c+b * M s c)=a * dt n M:=by
 rw [aH9 M a b (M r) (M s) hr,am6,aX6 (M:=C3 M r (M s)) hr hs hn fun c=>by
  unfold C3
  rw [if_pos rfl,if_neg (by exact Ne.symm ‹_›)]]
 grind
theorem bg5 {n:Nat} {M:Mt} (h:∀ i,0<i→i<n+1→M i 0=0):dt (n+1) M=M 0 0 * dt n (mn M 0):=by
 rw [T0]
 have:j7 (fun i=>sgd i * M i 0 * dt n (mn M i)) (n+1)=j7 (fun i=>if i=0 then M 0 0 * dt n (mn M 0) else 0) (n+1):=p7 fun i hi=>by
  by_cases z:i=0
  ·rw [if_pos z,z]
   show sgd 0 * _ * _=_
   unfold sgd
   rw [if_pos (by decide)];grind
  ·rw [if_neg z,h i (by lia) hi];grind
 rw [this,E1 (fun _=>M 0 0 * dt n (mn M 0)),if_pos (by simp)]
def hz (A B:Nat→Rat):Mt:=fun i c=>if c<i / 2 then 0 else if i % 2=0 then B (c - i / 2) else A (c - i / 2)
def W8 (k j c:Nat):Nat:=if c+1=k then c+j else c
def tau (A B:Nat→Rat) (k j:Nat):Rat:=if k=0 then A j else dt k fun i c=>hz A B i (W8 k j c)
def A5 (A B:Nat→Rat):Nat→Rat:=fun j=>B 0 * A (j+1) - A 0 * B (j+1)
theorem ad5 (A B:Nat→Rat) (j:Nat):tau A B 0 j=A j:=if_pos rfl
theorem P9 (A B:Nat→Rat) (j:Nat):tau A B 1 j=B j:=by
 unfold tau
 rw [if_neg (by decide),T0]
 show (0:Rat)+sgd 0 * hz A B 0 (W8 1 j 0) * 1=_
 have h1:sgd 0=1:=if_pos (by decide)
 have h2:W8 1 j 0=j:=by unfold W8;rw [if_pos rfl];simp
 have h3:hz A B 0 j=B j:=by unfold hz;rw [if_neg (by simp),if_pos (by decide)];rfl
 rw [h1,h2,h3];grind
def hm (A B:Nat→Rat) (m:Nat):Mt:=fun i c=>if i % 2=1∧i<m then B 0 * hz A B i c - A 0 * hz A B (i - 1) c else hz A B i c
theorem aH5 (A B:Nat→Rat) {k:Nat} (f:Nat→Nat):∀ m,m≤k→dt k (fun i c=>hm A B m i (f c))=B 0 ^ (m / 2) * dt k (fun i c=>hz A B i (f c))
 | 0,_=>by
  have:(fun i c=>hm A B 0 i (f c))=fun i c=>hz A B i (f c):=by
   funext i c
   unfold hm
   rw [if_neg (fun h=>absurd h.2 (Nat.not_lt_zero _))]
  rw [this,show 0 / 2=0 from rfl,Rat.pow_zero];grind
 | m+1,h=>by
  have ih:=aH5 A B (k:=k) f m (by exact Nat.le_of_lt ‹_›)
  by_cases z:m % 2=1
  ·have e:(fun i c=>hm A B (m+1) i (f c))=C3 (fun i c=>hm A B m i (f c)) m fun c=>B 0 * (fun i c=>hm A B m i (f c)) m c+(- A 0) * (fun i c=>hm A B m i (f c)) (m - 1) c:=by
    funext i c
    unfold C3
    by_cases y:i=m
    ·rw [if_pos y,y]
     show hm A B (m+1) m (f c)=B 0 * hm A B m m (f c) + - A 0 * hm A B m (m - 1) (f c)
     unfold hm
     rw [if_pos ⟨z,by simp⟩,if_neg (by simp),if_neg (by omega)];grind
    ·rw [if_neg y]
     show hm A B (m+1) i (f c)=hm A B m i (f c)
     unfold hm
     by_cases x:i % 2=1∧i<m
     ·rw [if_pos x,if_pos ⟨x.1,by lia⟩]
     ·rw [if_neg x,if_neg (by lia)]
   rw [e,bu6 _ _ (by lia) (by omega) (by omega),ih,show (m+1) / 2=m / 2+1 by lia,Rat.pow_succ];grind
  ·have e:(fun i c=>hm A B (m+1) i (f c))=fun i c=>hm A B m i (f c):=by
    funext i c
    unfold hm
    by_cases x:i % 2=1∧i<m
    ·rw [if_pos x,if_pos ⟨x.1,by omega⟩]
    ·rw [if_neg x,if_neg (by lia)]
   rw [e,ih,show (m+1) / 2=m / 2 by lia]
theorem ai8 (A B:Nat→Rat) (k j:Nat) (hk:1≤k):B 0 ^ ((k+1) / 2) * tau A B (k+1) j=B 0 * tau B (A5 A B) k j:=by
 have h1:=aH5 A B (k:=k+1) (W8 (k+1) j) (k+1) (Nat.le_refl _)
 unfold tau
 rw [if_neg (by simp),if_neg (by omega),←h1]
 have c0:W8 (k+1) j 0=0:=by unfold W8;rw [if_neg (by lia)]
 rw [bg5 fun i h0 hi=>?_]
 ·congr 1
  ·show hm A B (k+1) 0 (W8 (k+1) j 0)=B 0
   rw [c0]
   unfold hm hz
   rw [if_neg (by simp),if_neg (by omega),if_pos (by decide)]
  ·refine aM8 fun i hi c hc=>?_
   show hm A B (k+1) (if i<0 then i else i+1) (W8 (k+1) j (c+1))=hz B (A5 A B) i (W8 k j c)
   rw [if_neg (by simp)]
   have cc:W8 (k+1) j (c+1)=W8 k j c+1:=by
    unfold W8
    by_cases z:c+1=k
    ·rw [if_pos z,if_pos (by lia)];lia
    ·rw [if_neg z,if_neg (by lia)]
   rw [cc]
   generalize W8 k j c=d
   unfold hm hz A5
   rcases Nat.mod_two_eq_zero_or_one i with z | z
   ·rw [if_pos ⟨by lia,by lia⟩,show i+1 - 1=i from rfl]
    rw [show (i+1) / 2=i / 2 by lia,if_neg (show ¬ (i+1) % 2=0 by lia),if_pos z,if_pos z]
    by_cases y:d+1<i / 2
    ·rw [if_pos y,if_pos y,if_pos (by exact Nat.le_of_lt ‹_›)];grind
    ·rw [if_neg y,if_neg y]
     by_cases x:d<i / 2
     ·rw [if_pos x,show d+1 - i / 2=0 by lia];grind
     ·rw [if_neg x,show d+1 - i / 2=d - i / 2+1 by lia]
   ·rw [if_neg (by omega),if_pos (show (i+1) % 2=0 by lia),if_neg (show ¬ i % 2=0 by lia),show (i+1) / 2=i / 2+1 by lia]
    by_cases y:d<i / 2
    ·rw [if_pos (by lia),if_pos y]
    ·rw [if_neg (by lia),if_neg y,show d+1 - (i / 2+1)=d - i / 2 by simp]
 ·show hm A B (k+1) i (W8 (k+1) j 0)=0
  rw [c0]
  unfold hm hz
  rcases Nat.mod_two_eq_zero_or_one i with z | z
  ·rw [if_neg (by lia),if_pos (by lia)]
  ·rw [if_pos ⟨z,hi⟩]
   by_cases y:i=1
   ·subst y
    show B 0 * (if 0<1 / 2 then 0 else if 1 % 2=0 then B (0 - 1 / 2) else A (0 - 1 / 2)) - A 0 * (if 0<0 / 2 then 0 else if 0 % 2=0 then B (0 - 0 / 2) else A (0 - 0 / 2))=0
    rw [if_neg (by decide),if_neg (by decide),if_neg (by decide),if_pos (by decide)];grind
   ·rw [if_pos (by lia),if_pos (by lia)];grind
theorem as2 {b:Rat} (h:b≠0):∀ n:Nat,b ^ n≠0
 | 0=>by rw [Rat.pow_zero];decide
 | n+1=>by
  rw [Rat.pow_succ]
  intro z
  rcases Rat.mul_eq_zero.mp z with y | y
  ·exact as2 h n y
  ·exact h y
theorem af5 {b x y:Rat} (h:b≠0) (e:b * x=b * y):x=y:=by
 have:=Rat.mul_inv_cancel _ h
 generalize b⁻¹=u at this
 grind
theorem at7 (b:Rat) (m:Nat):∀ n:Nat,b ^ (m+n)=b ^ m * b ^ n
 | 0=>by rw [Nat.add_zero,Rat.pow_zero];grind
 | n+1=>by rw [←Nat.add_assoc,Rat.pow_succ,at7 b m n,Rat.pow_succ];grind
theorem ah2 (A B:Nat→Rat) (h:B 0≠0) (k j:Nat) (hk:1≤k):tau B (A5 A B) k j=B 0 ^ ((k+1) / 2 - 1) * tau A B (k+1) j:=by
 refine af5 h ?_
 rw [←ai8 A B k j hk]
 obtain ⟨e,he⟩:∃ e,(k+1) / 2=e+1:=⟨(k+1) / 2 - 1,by lia⟩
 rw [he,Rat.pow_succ,Nat.add_sub_cancel];grind
def dlt (A B:Nat→Rat) (k:Nat):Rat:=if k≤2 then 1 else tau A B (k - 2) 0
theorem aE1:∀ (k:Nat) (A B:Nat→Rat),1≤k→(∀ i,1≤i→i<k→tau A B i 0≠0)→(k=1→B 0≠0)→∀ j,tau A B (k+1) j * dlt A B k=tau A B k 0 * tau A B (k - 1) (j+1) - tau A B (k - 1) 0 * tau A B k (j+1)
 | 0,_,_,h,_,_,_=>by omega
 | 1,A,B,_,_,hb,j=>by
  have h1:=ai8 A B 1 j (by decide)
  rw [P9] at h1
  have:=af5 (hb rfl) (x:=tau A B 2 j) (y:=A5 A B j) (by rw [←h1];show _=B 0 ^ (1) * _;rw [Rat.pow_succ,Rat.pow_zero];grind)
  unfold dlt
  rw [if_pos (by decide),show 1+1=2 from rfl,this,show 1 - 1=0 from rfl,P9,ad5,ad5,P9]
  unfold A5
  grind
 | k+2,A,B,_,hn,_,j=>by
  have b0:B 0≠0:=by
   have:=hn 1 (by decide) (by simp)
   rwa [P9] at this
  have s0:∀ i,tau B (A5 A B) 0 i=tau A B 1 i:=fun i=>by rw [ad5,P9]
  cases k with
  | zero=>
   have h2:=ai8 A B 2 j (by decide)
   have e2:∀ i,tau A B 2 i=A5 A B i:=fun i=>by
    have h1:=ai8 A B 1 i (by decide)
    rw [P9] at h1
    exact af5 b0 (x:=tau A B 2 i) (y:=A5 A B i) (by rw [←h1];show _=B 0 ^ (1) * _;rw [Rat.pow_succ,Rat.pow_zero];grind)
   have e3:tau A B 3 j=tau B (A5 A B) 2 j:=af5 b0 (by rw [←h2];show _=B 0 ^ (1) * _;rw [Rat.pow_succ,Rat.pow_zero];grind)
   have hm1:=aH5 B (A5 A B) (k:=2) (W8 2 j) 2 (Nat.le_refl _)
   have e4:tau B (A5 A B) 2 j=A5 A B 0 * B (j+1) - B 0 * A5 A B (j+1):=by
    unfold tau
    rw [if_neg (by decide),T0]
    show (0:Rat)+sgd 0 * hz B (A5 A B) 0 0 * dt 1 (mn (fun i c=>hz B (A5 A B) i (W8 2 j c)) 0)+sgd 1 * hz B (A5 A B) 1 0 * dt 1 (mn (fun i c=>hz B (A5 A B) i (W8 2 j c)) 1)=_
    have d1:∀ M:Mt,dt 1 M=M 0 0:=fun M=>by
     rw [T0]
     show (0:Rat)+sgd 0 * M 0 0 * 1=_
     rw [show sgd 0=1 from if_pos (by decide)];grind
    rw [d1,d1]
    show (0:Rat)+sgd 0 * hz B (A5 A B) 0 0 * hz B (A5 A B) 1 (W8 2 j 1)+sgd 1 * hz B (A5 A B) 1 0 * hz B (A5 A B) 0 (W8 2 j 1)=_
    have h2:W8 2 j 1=j+1:=by unfold W8;rw [if_pos rfl];lia
    rw [h2,show sgd 0=1 from if_pos (by decide),show sgd 1 = -1 from if_neg (by decide)]
    have a1:∀ d,hz B (A5 A B) 0 d=A5 A B d:=fun d=>by unfold hz;rw [if_neg (by simp),if_pos (by decide)];rfl
    have a2:∀ d,hz B (A5 A B) 1 d=B d:=fun d=>by unfold hz;rw [if_neg (by simp),if_neg (by decide)];rfl
    rw [a1,a1,a2,a2];grind
   unfold dlt
   rw [if_pos (by decide)]
   show tau A B 3 j * 1=tau A B 2 0 * tau A B 1 (j+1) - tau A B 1 0 * tau A B 2 (j+1)
   rw [e3,e4,e2,e2,P9,P9];grind
  | succ k=>
   have ih:=aE1 (k+2) B (A5 A B) (by simp) (fun i h1 h2=>by
    rw [ah2 A B b0 i 0 h1]
    intro z
    rcases Rat.mul_eq_zero.mp z with y | y
    ·exact as2 b0 _ y
    ·exact hn (i+1) (by exact Nat.lt_succ_of_lt ‹_›) (by lia) y) (fun h=>by lia) j
   rw [ah2 A B b0 (k+2+1) j (by omega),ah2 A B b0 (k+2) 0 (by omega),ah2 A B b0 (k+2) (j+1) (by omega),show k+2 - 1=k+1 from rfl,ah2 A B b0 (k+1) 0 (by simp),ah2 A B b0 (k+1) (j+1) (by omega)] at ih
   have ed:dlt A B (k+1+2)=tau A B (k+1) 0:=by unfold dlt;rw [if_neg (by simp)];rfl
   rw [ed,show k+1+2 - 1=k+2 from rfl]
   cases k with
   | zero=>
    have e1:dlt B (A5 A B) (0+2)=1:=if_pos (by decide)
    rw [e1] at ih
    have p1:(B 0) ^ ((0+2+1+1) / 2 - 1)=B 0:=by
     show B 0 ^ (0+1)=B 0
     rw [Rat.pow_succ,Rat.pow_zero];grind
    have p2:(B 0) ^ ((0+2+1) / 2 - 1)=1:=Rat.pow_zero _
    have p3:(B 0) ^ ((0+1+1) / 2 - 1)=1:=Rat.pow_zero _
    rw [p1,p2] at ih
    show tau A B 4 j * tau A B 1 0=tau A B 3 0 * tau A B 2 (j+1) - tau A B 2 0 * tau A B 3 (j+1)
    have ih':B 0 * tau A B 4 j * 1=1 * tau A B 3 0 * (1 * tau A B 2 (j+1)) - 1 * tau A B 2 0 * (1 * tau A B 3 (j+1)):=ih
    rw [P9];grind
   | succ k=>
    have e1:dlt B (A5 A B) (k+1+2)=B 0 ^ ((k+1+1) / 2 - 1) * tau A B (k+1+1) 0:=by
     unfold dlt
     rw [if_neg (by omega),show k+1+2 - 2=k+1 from rfl,ah2 A B b0 (k+1) 0 (by omega)]
    rw [e1] at ih
    have pe:B 0 ^ ((k+1+2+1+1) / 2 - 1) * B 0 ^ ((k+1+1) / 2 - 1)=B 0 ^ ((k+1+2+1) / 2 - 1) * B 0 ^ ((k+1+1+1) / 2 - 1):=by
     rw [←at7,←at7]
     congr 1
     lia
    have n2:=as2 b0 ((k+1+2+1) / 2 - 1)
    have n3:=as2 b0 ((k+1+1+1) / 2 - 1)
    refine af5 n2 (af5 n3 ?_)
    show _ * (_ * (tau A B (k+1+2+1+1) j * tau A B (k+1+1) 0))=_ * (_ * (tau A B (k+1+2+1) 0 * tau A B (k+1+1+1) (j+1) - tau A B (k+1+1+1) 0 * tau A B (k+1+2+1) (j+1)))
    generalize B 0 ^ ((k+1+2+1+1) / 2 - 1)=q1 at *
    generalize B 0 ^ ((k+1+1) / 2 - 1)=q2 at *
    generalize B 0 ^ ((k+1+2+1) / 2 - 1)=q3 at *
    generalize B 0 ^ ((k+1+1+1) / 2 - 1)=q4 at *
    grind
structure Pos (n:Nat) (g:Nat→Nat→Rat):Prop where
 p:∀ i,i≤n→0<g i 0
 s:∀ i,1≤i→i<n→∀ j,g i 0 * g (i - 1) j=g i 0 * g (i+1) (j+1) - g (i+1) 0 * g i (j+1)
 l:1≤n→∀ j,g 0 0 * g 1 (j+1) - g 1 0 * g 0 (j+1)=0
 z:∀ i j,i≤n→i<2 * j→g i j=0
theorem ac1 {x:Rat} (h:0<x):x≠0:=fun z=>by rw [z] at h;exact absurd h (by decide)
theorem Q8 {x y:Rat} (h:0<x) (k:0<y):0<x * y:=Rat.mul_pos h k
theorem bb9 {x:Rat} (h:0<x):0<x⁻¹:=Rat.inv_pos.mpr h
theorem as1 {n:Nat} {g:Nat→Nat→Rat} (P:Pos n g) (hn:1≤n):∀ k,k≤n→(∃ c,0<c∧∀ j,tau (g n) (g (n - 1)) k j=c * g (n - k) j)∧(k+1≤n→∃ c,0<c∧∀ j,tau (g n) (g (n - 1)) (k+1) j=c * g (n - (k+1)) j)
 | 0,_=>⟨⟨1,by decide,fun j=>by rw [ad5,Nat.sub_zero];grind⟩,fun _=>⟨1,by decide,fun j=>by rw [P9];grind⟩⟩
 | k+1,hk=>by
  have ih:∀ i,i≤k→∃ c,0<c∧∀ j,tau (g n) (g (n - 1)) i j=c * g (n - i) j:=fun i hi=>(as1 P hn i (by lia)).1
  obtain ⟨c1,h1,e1⟩:=(as1 P hn k (by omega)).2 hk
  obtain ⟨c0,h0,e0⟩:=ih k (by simp)
  refine ⟨⟨c1,h1,e1⟩,fun hk2=>?_⟩
  have lead:∀ i,1≤i→i<k+1→tau (g n) (g (n - 1)) i 0≠0:=fun i _ hi=>by
   obtain ⟨c,hc,e⟩:=ih i (by lia)
   rw [e]
   exact ac1 (Q8 hc (P.p _ (by simp)))
  have rc:=aE1 (k+1) (g n) (g (n - 1)) (by simp) lead (fun _=>ac1 (P.p _ (by simp)))
  obtain ⟨dl,hd,ed⟩:∃ dl,0<dl∧dlt (g n) (g (n - 1)) (k+1)=dl:=by
   unfold dlt
   by_cases z:k+1≤2
   ·exact ⟨1,by decide,by rw [if_pos z]⟩
   ·obtain ⟨c,hc,e⟩:=ih (k+1 - 2) (by simp)
    exact ⟨c * g (n - (k+1 - 2)) 0,Q8 hc (P.p _ (by simp)),by rw [if_neg z,e]⟩
  refine ⟨c1 * c0 * g (n - (k+1)) 0 * dl⁻¹,Q8 (Q8 (Q8 h1 h0) (P.p _ (by simp))) (bb9 hd),fun j=>?_⟩
  have r:=rc j
  rw [ed,show k+1 - 1=k from rfl,e1,e1,e0,e0] at r
  have s:=P.s (n - (k+1)) (by omega) (by omega) j
  rw [show n - (k+1)+1=n - k by lia,show n - (k+1) - 1=n - (k+1+1) by lia] at s
  have dn:=Rat.mul_inv_cancel _ (ac1 hd)
  generalize tau (g n) (g (n - 1)) (k+1+1) j=t at *
  generalize dl⁻¹=u at *
  generalize g (n - (k+1)) 0=x at *
  generalize g (n - (k+1+1)) j=y at *
  generalize g (n - (k+1)) (j+1)=z at *
  generalize g (n - k) (j+1)=v at *
  generalize g (n - k) 0=w at *
  grind
theorem aU0 {W:Nat}:∀ {n:Nat} {M:Mt},n≤16→(∀ r c,∃ z:Int,M r c=(z:Rat)∧z.natAbs<2 ^ W)→∃ z:Int,dt n M=(z:Rat)∧z.natAbs≤2 ^ ((W+4) * n)
 | 0,_,_,_=>⟨1,rfl,by simp⟩
 | n+1,M,hn,h=>by
  have key:∀ m,m≤n+1→∃ z:Int,j7 (fun i=>sgd i * M i 0 * dt n (mn M i)) m=(z:Rat)∧z.natAbs≤m * (2 ^ W * 2 ^ ((W+4) * n)):=by
   intro m
   induction m with
   | zero=>intro _;exact ⟨0,rfl,by simp⟩
   | succ m ih=>
    intro hm
    obtain ⟨z,e,b⟩:=ih (by exact Nat.le_of_lt ‹_›)
    obtain ⟨x,ex,bx⟩:=h m 0
    obtain ⟨y,ey,by'⟩:=aU0 (n:=n) (M:=mn M m) (by exact Nat.le_of_lt ‹_›) fun r c=>h _ _
    obtain ⟨s,es,bs⟩:∃ s:Int,sgd m=(s:Rat)∧s.natAbs=1:=by
     unfold sgd
     split
     ·exact ⟨1,rfl,rfl⟩
     ·exact ⟨-1,by rw [Rat.intCast_neg];rfl,rfl⟩
    refine ⟨z+s * x * y,?_,?_⟩
    ·rw [j7,e,ex,ey,es,Rat.intCast_add,Rat.intCast_mul,Rat.intCast_mul]
    ·have h1:(s * x * y).natAbs≤2 ^ W * 2 ^ ((W+4) * n):=by
      rw [Int.natAbs_mul,Int.natAbs_mul,bs,Nat.one_mul]
      exact Nat.mul_le_mul (Nat.le_of_lt bx) by'
     have h2:=Int.natAbs_add_le z (s * x * y)
     rw [Nat.succ_mul];lia
  obtain ⟨z,e,b⟩:=key (n+1) (Nat.le_refl _)
  refine ⟨z,by rw [T0];exact e,Nat.le_trans b ?_⟩
  have:(n+1) * (2 ^ W * 2 ^ ((W+4) * n))≤2 ^ 4 * (2 ^ W * 2 ^ ((W+4) * n)):=Nat.mul_le_mul_right _ (by omega)
  refine Nat.le_trans this ?_
  rw [←Nat.pow_add,←Nat.pow_add]
  exact Nat.pow_le_pow_right (by decide) (by rw [Nat.mul_succ];lia)
theorem aJ2 {W m:Nat} {A B:Nat→Rat} (hA:∀ j,∃ z:Int,A j=(z:Rat)∧z.natAbs<2 ^ W) (hB:∀ j,∃ z:Int,B j=(z:Rat)∧z.natAbs<2 ^ W) {k:Nat} (hk:k≤m) (m1:1≤m) (hm:m≤16) (j:Nat):∃ z:Int,tau A B k j=(z:Rat)∧z.natAbs≤2 ^ ((W+4) * m):=by
 unfold tau
 split
 ·obtain ⟨z,e,b⟩:=hA j
  exact ⟨z,e,Nat.le_trans (Nat.le_of_lt b) (Nat.pow_le_pow_right (by decide) (Nat.le_trans (show W≤(W+4) * 1 by simp) (Nat.mul_le_mul_left _ m1)))⟩
 ·obtain ⟨z,e,b⟩:=aU0 (W:=W) (n:=k) (M:=fun i c=>hz A B i (W8 k j c)) (by lia) fun r c=>by
   show ∃ z:Int,hz A B r (W8 k j c)=_∧_
   unfold hz
   split
   ·exact ⟨0,rfl,Nat.two_pow_pos _⟩
   ·split
    ·exact hB _
    ·exact hA _
  exact ⟨z,e,Nat.le_trans b (Nat.pow_le_pow_right (by decide) (Nat.mul_le_mul_left _ hk))⟩
section
variable {P:Program} {w:World} {K:PySem.W.Frag} {mg:Str→Option Value} {base:Heap}
def aK4 (K:PySem.W.Frag):Sp:=fun vs H Q _=>∃ (a b:Addr) (R F:List Int) (dv:Int) (W:Nat),vs=[.ref a,.ref b,.int dv]∧SqL K H a (R.map V.int)∧SqL K H b (F.map V.int)∧F≠[]∧F.length≤R.length∧R.length≤20∧dv≠0∧dv.natAbs<2 ^ W∧(∀ v∈R,Int.natAbs v<2 ^ W)∧(∀ v∈F,Int.natAbs v<2 ^ W)∧W≤8900 ∧
 ∀ r T H',d5 H H'→H r=none→H' r=some (.lst (T.map V.int))→T.length=R.length - 1→(∀ j,j<T.length→aZ T j=(aZ F 0 * aZ R (j+1) - aZ R 0 * aZ F (j+1)).fdiv dv)→Q (.ref r) H'
abbrev E5:Stmt:=top 75
theorem U2:i8 ["row","further","divisor","beside","lead","own"] ["row","further","divisor"] (d3 E5):=by and_intros
set_option maxHeartbeats 0 in
theorem ay1 {f:Addr} (d:Df K mg "row_behind" E5 ["row","further","divisor"] f) (n_len:mg "len" = none) (n_zip:mg "zip" = none):Def P w K mg base CX0 1 "row_behind" f ["row","further","divisor"] (aK4 K):=by
 refine d.ok (N:=["row","further","divisor","beside","lead","own"]) U2 (by rintro vs H Q E ⟨_,_,_,_,_,_,h,_⟩;rw [h];rfl) (fun cdv A outer s H vs Q E hr h=>?_)
 obtain ⟨a,b,R,F,dv,W,rfl,hR,hF,fn,lF,l20,d0,db,wR,wF,hW,k⟩:=h
 refine ⟨_,(b9 (K8 (j9 (b6 (j8 u7 (pv 1) d4 (fun _ _=>rfl)) (b6 (j8 u7 (pv 0) d4 (fun _ _=>rfl)) b7))) (show PG _ _ (P3 K 2 (p5 (n8 4) (p5 (n8 5) P4))) from by (refine B5 (n:=2) ?_ ?_ ?_ ?_;rfl;(refine g7 ?_ ?_ ?_;(exact (e8 (i:=4) U2.nd rfl (Or.inr rfl)));(refine g7 ?_ ?_ ?_;(exact (e8 (i:=5) U2.nd rfl (Or.inr rfl)));(exact v9);rfl);rfl);rfl;rfl)))
   (b9 (i7 (i:=3) U2.nd rfl (Or.inl rfl) (g6 aa3 (V2 Z4 (pv 1) (R3 d4) R4) (g6 au5 (t6 (b6 d4 b7)) (g6 N3 (d8 i3 rfl n_len (by decide +kernel) (b6 (pv 0) b7)) (d8 i3 rfl n_len (by decide +kernel) (b6 (pv 1) b7))))))
   (d7 (g8 (R6 (Nc:=["own","lead","divisor","whole","other"]) (caps:=[some 5,some 4,some 2,none,none]) rfl (Z3.of (osc:=d3 E5) (N:=["row","further","divisor","beside","lead","own"]) (ks:=["own","lead","divisor"]) rfl rfl rfl rfl (F8 rfl (F8 rfl (F8 rfl D3))) (by decide +kernel)) (br6 rfl n_zip (b6 (V2 Z4 (pv 0) (R3 d4) R4) (b6 (pv 3) b7))) (fun C s₂ H₂ fp pins=>(show PG _ _ (P3 K 2 (p5 (n8 3) (p5 (n8 4) P4))) from by (refine B5 (n:=2) ?_ ?_ ?_ ?_;rfl;(refine g7 ?_ ?_ ?_;(exact (e8 (i:=3) (show List.Nodup (["own","lead","divisor","whole","other"]:List Str) by decide +kernel) rfl (Or.inl rfl) (Or.inr rfl)));(refine g7 ?_ ?_ ?_;(exact (e8 (i:=4) (show List.Nodup (["own","lead","divisor","whole","other"]:List Str) by decide +kernel) rfl (Or.inl rfl) (Or.inr rfl)));(exact v9);rfl);rfl);rfl;rfl))) (fun C s₂ H₂ fp pins=>(g6 C1 (g6 N3 (g6 w8 (pv 1) (pv 3)) (g6 w8 (pv 0) (pv 4))) (pv 2)))))))),?_⟩
 rw [show start ["row","further","divisor","beside","lead","own"] [.ref a,.ref b,.int dv]=[some (.ref a),some (.ref b),some (.int dv),none,none,none] from rfl]
 have fp:=List.length_pos_iff.mpr fn
 have hf0:(F.map V.int)[0]? = some (.int (aZ F 0)):=by
  rw [List.getElem?_map,List.getElem?_eq_getElem (by omega)]
  unfold aZ
  rw [List.getElem?_eq_getElem (by omega)];rfl
 have hr0:(R.map V.int)[0]? = some (.int (aZ R 0)):=by
  rw [List.getElem?_map,List.getElem?_eq_getElem (by exact Nat.lt_of_lt_of_le ‹_› ‹_›)]
  unfold aZ
  rw [List.getElem?_eq_getElem (by omega)];rfl
 refine e9 (fun σ H1=>σ=[some (.ref a),some (.ref b),some (.int dv),none,some (.int (aZ F 0)),some (.int (aZ R 0))]∧d5 H H1) (fun N hN=>?_) ?_
 ·subst_eqs
  refine ⟨_,hF,_,F7 (j:=0) hf0,_,hR,_,F7 (j:=0) hr0,y7,fun p hp=>?_⟩
  exact ⟨_,SqT.of b8,rfl,_,_,rfl,_,_,rfl,rfl,hN _ _ ⟨rfl,d5.new hp _⟩⟩
 rintro σ H1 ⟨rfl,S1⟩
 refine e9 (fun σ H2=>∃ be,σ=[some (.ref a),some (.ref b),some (.int dv),some (.ref be),some (.int (aZ F 0)),some (.int (aZ R 0))]∧d5 H1 H2∧H2 be=some (.lst ((F.drop 1++List.replicate (R.length - F.length) 0).map V.int))) (fun N hN=>?_) ?_
 ·subst_eqs
  simp only [aU5]
  have lx:(((R.map V.int).length:Int) - ((F.map V.int).length:Int)).toNat=R.length - F.length:=by rw [List.length_map,List.length_map];simp
  refine ⟨_,S1.seq hF,fun p hp=>⟨by decide,fun p1 hp1=>?_⟩⟩
  have X1:=d5.new hp (.lst ((F.map V.int).drop 1))
  have X2:=d5.new hp1 (.lst [.int 0])
  have X:=X1.trans X2
  refine ⟨_,.inl ((S1.trans X).seq hR),_,.inl ((S1.trans X).seq hF),_,b8,by rw [List.length_map,List.length_map];lia,by rw [List.length_map,List.length_map];lia,?_,fun p2 hp2=>?_⟩
  ·rw [lx]
   exact Nat.le_trans (show _≤100 by simp;lia) (by decide)
  rw [lx,List.flatten_replicate_singleton]
  have X3:=d5.new hp2 (.lst (List.replicate (R.length - F.length) (V.int 0)))
  refine ⟨_,X3 _ _ (X2 _ _ b8),_,b8,?_,fun p3 hp3=>?_⟩
  ·rw [List.length_drop,List.length_map,List.length_replicate]
   exact Nat.le_trans (show _≤100 by omega) (by decide)
  have X4:=d5.new hp3 (.lst ((F.map V.int).drop 1++List.replicate (R.length - F.length) (V.int 0)))
  exact hN _ _ ⟨p3,rfl,X.trans (X3.trans X4),by rw [b8,List.map_append,List.map_drop,List.map_replicate]⟩
 rintro σ H2 ⟨be,rfl,S2,ebe⟩
 subst_eqs
 simp only [aU5]
 obtain ⟨bs,hbs⟩:∃ bs,bs=F.drop 1++List.replicate (R.length - F.length) 0:=⟨_,rfl⟩
 have lbs:bs.length=R.length - 1:=by rw [hbs,List.length_append,List.length_drop,List.length_replicate];lia
 have bsg:∀ j v,bs[j]? = some v→v=aZ F (j+1):=fun j v h=>by
  rw [hbs] at h
  unfold aZ
  rcases Nat.lt_or_ge j (F.drop 1).length with z | z
  ·rw [List.getElem?_append_left z,List.getElem?_drop,Nat.add_comm] at h
   rw [h];rfl
  ·rw [List.getElem?_append_right z] at h
   have h0:=(List.mem_replicate.mp (List.mem_of_getElem? h)).2
   rw [List.length_drop] at z
   rw [List.getElem?_eq_none (by lia),h0];rfl
 rw [←hbs] at ebe
 obtain ⟨tf,htf⟩:∃ tf:Nat→Int,∀ j,tf j=(aZ F 0 * aZ R (j+1) - aZ R 0 * aZ F (j+1)).fdiv dv:=⟨_,fun _=>rfl⟩
 have S12:=S1.trans S2
 refine ⟨_,S12.seq hR,fun p hp=>?_⟩
 have X:=d5.new hp (.lst ((R.map V.int).drop 1))
 have ep:(upd H2 p (.lst ((R.map V.int).drop 1))) p=some (.lst ((R.drop 1).map V.int)):=by rw [b8,List.map_drop]
 have eb2:=X _ _ ebe
 refine ⟨⟨_,SqL.of ep⟩,⟨_,SqL.of eb2⟩,fun D hD=>?_⟩
 generalize upd H2 p (.lst ((R.map V.int).drop 1))=H3 at *
 have lr1:((R.drop 1).map V.int).length=R.length - 1:=by rw [List.length_map,List.length_drop]
 have lb1:(bs.map V.int).length=R.length - 1:=by rw [List.length_map,lbs]
 have mb:min ((R.drop 1).map V.int).length (bs.map V.int).length=R.length - 1:=by rw [lr1,lb1,Nat.min_self]
 refine bu7 ((R.drop 1).map V.int) (bs.map V.int) (fun i σ H4=>∃ o1 o2,σ=[some (V.int (aZ R 0)),some (V.int (aZ F 0)),some (V.int dv),o1,o2]∧d5 H3 H4∧H4 D=some (.lst (((List.range i).map tf).map V.int))) ⟨_,_,rfl,d5.new hD _,b8⟩ (by rintro i σ H4 ⟨_,_,_,s4,_⟩;exact ⟨SqL.of (s4 _ _ ep),SqL.of (s4 _ _ eb2)⟩) ?_ ?_
 ·rintro i x y σ H4 q hx hy ⟨o1,o2,rfl,s4,e4⟩ hq
  have hi:=(List.getElem?_eq_some_iff.mp hy).1
  obtain ⟨x',hx',rfl⟩:=G4 hx
  obtain ⟨y',hy',rfl⟩:=G4 hy
  have ex:x'=aZ R (i+1):=by
   rw [List.getElem?_drop,Nat.add_comm] at hx'
   unfold aZ;rw [hx'];rfl
  have ey:=bsg i y' hy'
  subst ex ey
  have T:=d5.new hq (.tup [.int (aZ R (i+1)),.int (aZ F (i+1))])
  have eT:=T _ _ e4
  subst_eqs
  refine ⟨_,SqT.of b8,rfl,_,_,rfl,_,_,rfl,rfl,?_⟩
  refine ⟨_,rfl,N6 (aa0 wF 0) (aa0 wR _) (by lia),_,rfl,N6 (aa0 wR 0) (aa0 wF _) (by omega),V5 d0 (B6 db (by lia)),?_⟩
  rw [mb]
  rw [lb1] at hi
  refine G8.mk hi eT ?_ ⟨_,_,rfl,(s4.trans T).over hD _,?_⟩
  ·rw [List.length_map,List.length_map,List.length_range]
   exact Nat.lt_of_lt_of_le (show i<100 by lia) (by decide)
  ·rw [b8,List.range_succ,List.map_append,List.map_append,←htf];rfl
 ·rintro σ H4 ⟨o1,o2,rfl,s4,e4⟩
  rw [mb] at e4
  refine k D ((List.range (R.length - 1)).map tf) H4 ?_ ?_ e4 (by rw [List.length_map,List.length_range]) fun j hj=>?_
  ·exact (S12.trans X).trans s4
  ·exact (S12.trans X).free hD
  ·rw [List.length_map,List.length_range] at hj
   rw [←htf]
   unfold aZ
   rw [List.getElem?_map,List.getElem?_range hj];rfl
end
theorem br5:∀ m,m≤15→sliceRange (sliceBounds none none (some (-2)) m).1 (sliceBounds none none (some (-2)) m).2.1 (sliceBounds none none (some (-2)) m).2.2=(List.range ((m+1) / 2)).map fun j=>m - 1 - 2 * j:=by decide +kernel
theorem br4:∀ m,m≤15→sliceRange (sliceBounds (some (-2)) none (some (-2)) m).1 (sliceBounds (some (-2)) none (some (-2)) m).2.1 (sliceBounds (some (-2)) none (some (-2)) m).2.2=(List.range (m / 2)).map fun j=>m - 2 - 2 * j:=by decide +kernel
def W4 (ws:List Int) (s k:Nat):List Int:=(List.range k).map fun j=>aZ ws (s - 2 * j)
theorem au1 {ws:List Int} {s:Nat}:∀ k,(∀ j,j<k→s - 2 * j<ws.length)→((List.range k).map fun j=>s - 2 * j).filterMap ((ws.map V.int)[·]?)=(W4 ws s k).map V.int
 | 0,_=>rfl
 | k+1,h=>by
  unfold W4
  rw [List.range_succ,List.map_append,List.filterMap_append,au1 k fun j hj=>h j (by omega),List.map_append,List.map_append]
  congr 1
  have hk:=h k (by omega)
  have:(ws.map V.int)[s - 2 * k]? = some (V.int (aZ ws (s - 2 * k))):=by
   rw [List.getElem?_map,List.getElem?_eq_getElem hk]
   unfold aZ
   rw [List.getElem?_eq_getElem hk];rfl
  show [s - 2 * k].filterMap _=_
  rw [List.filterMap_cons,this];rfl
theorem bw9 {ws:List Int} (h:ws.length≤15):au2 (ws.map V.int) none none (some (-2))=(W4 ws (ws.length - 1) ((ws.length+1) / 2)).map V.int:=by
 unfold au2
 rw [List.length_map,br5 _ h]
 exact au1 _ fun j hj=>by omega
theorem bw8 {ws:List Int} (h:ws.length≤15):au2 (ws.map V.int) (some (-2)) none (some (-2))=(W4 ws (ws.length - 2) (ws.length / 2)).map V.int:=by
 unfold au2
 rw [List.length_map,br4 _ h]
 exact au1 _ fun j hj=>by omega
theorem aD2 (ws:List Int) (s k:Nat):(W4 ws s k).length=k:=by unfold W4;rw [List.length_map,List.length_range]
theorem aD3 (ws:List Int) (s k j:Nat):aZ (W4 ws s k) j=if j<k then aZ ws (s - 2 * j) else 0:=by
 unfold W4
 by_cases h:j<k
 ·rw [if_pos h]
  show (((List.range k).map _)[j]?).getD 0=_
  rw [List.getElem?_map,List.getElem?_range h];rfl
 ·rw [if_neg h]
  show (((List.range k).map _)[j]?).getD 0=_
  rw [List.getElem?_eq_none (by rw [List.length_map,List.length_range];omega)];rfl
structure WD (n:Nat) (g:Nat→Nat→Rat) (ws:List Int) (e:Int) (W:Nat):Prop where
 len:ws.length=n+1
 n14:n≤14
 e1:e=1∨e = -1
 pos:∀ v∈ws,0<e * v
 ps:Pos n g
 a0:∀ j,2 * j≤n→g n j=((e * aZ ws (n - 2 * j):Int):Rat)
 a1:1≤n→∀ j,2 * j≤n - 1→g (n - 1) j=((e * aZ ws (n - 1 - 2 * j):Int):Rat)
 w:∀ v∈ws,Int.natAbs v<2 ^ W
 b:(W+4) * (n+1)≤8800
theorem WD.flip {n:Nat} {g:Nat→Nat→Rat} {ws:List Int} {W:Nat} (h:WD n g ws (-1) W):WD n g (ws.map fun v=>-v) 1 W:=by
 have az:∀ k,aZ (ws.map fun v=>-v) k = - aZ ws k:=fun k=>by
  unfold aZ
  rw [List.getElem?_map]
  cases ws[k]? <;> rfl
 refine ⟨by rw [List.length_map];exact h.len,h.n14,.inl rfl,fun v hv=>?_,h.ps,fun j hj=>?_,fun h1 j hj=>?_,fun v hv=>?_,h.b⟩
 ·obtain ⟨w,hw,rfl⟩:=List.mem_map.mp hv
  have:=h.pos w hw
  omega
 ·rw [h.a0 j hj,az];congr 1;simp
 ·rw [h.a1 h1 j hj,az];congr 1;simp
 ·obtain ⟨w,hw,rfl⟩:=List.mem_map.mp hv
  rw [Int.natAbs_neg];exact h.w w hw
def Lk (n k:Nat):Nat:=if k≤n then (n - k) / 2+1 else 0
structure Tr (n:Nat) (g:Nat→Nat→Rat) (W k:Nat) (T:List Int):Prop where
 l:T.length=Lk n k
 e:∀ j,((aZ T j:Int):Rat)=tau (g n) (g (n - 1)) k j
 b:∀ v∈T,Int.natAbs v<2 ^ ((W+4) * (n+1)+1)
section
variable {n:Nat} {g:Nat→Nat→Rat} {ws:List Int} {W:Nat}
theorem WD.ints (h:WD n g ws 1 W) (hn:1≤n):(∀ j,∃ z:Int,g n j=(z:Rat)∧z.natAbs<2 ^ W)∧∀ j,∃ z:Int,g (n - 1) j=(z:Rat)∧z.natAbs<2 ^ W:=by
 refine ⟨fun j=>?_,fun j=>?_⟩
 ·rcases Nat.lt_or_ge n (2 * j) with z | z
  ·exact ⟨0,by rw [h.ps.z n j (Nat.le_refl _) z];rfl,Nat.two_pow_pos _⟩
  ·exact ⟨aZ ws (n - 2 * j),by rw [h.a0 j z];congr 1;simp,aa0 h.w _⟩
 ·rcases Nat.lt_or_ge (n - 1) (2 * j) with z | z
  ·exact ⟨0,by rw [h.ps.z (n - 1) j (by omega) z];rfl,Nat.two_pow_pos _⟩
  ·exact ⟨aZ ws (n - 1 - 2 * j),by rw [h.a1 hn j z];congr 1;simp,aa0 h.w _⟩
theorem aD9 (h:WD n g ws 1 W) (hn:1≤n) {k:Nat} (hk:k≤n+1) {T:List Int} (e:∀ j,((aZ T j:Int):Rat)=tau (g n) (g (n - 1)) k j):∀ v∈T,Int.natAbs v<2 ^ ((W+4) * (n+1)+1):=by
 obtain ⟨i1,i2⟩:=h.ints hn
 have n14:=h.n14
 have key:∀ j,(aZ T j).natAbs<2 ^ ((W+4) * (n+1)+1):=fun j=>by
  obtain ⟨z,ez,bz⟩:=aJ2 (m:=n+1) i1 i2 hk (by exact Nat.lt_succ_of_lt ‹_›) (by lia) j
  have:aZ T j=z:=Rat.intCast_inj.mp (by rw [e j,ez])
  rw [this]
  refine Nat.lt_of_le_of_lt bz ?_
  rw [Nat.pow_succ]
  have:=Nat.two_pow_pos ((W+4) * (n+1))
  lia
 intro v hv
 obtain ⟨k,hk,ek⟩:=List.getElem_of_mem hv
 have h2:aZ T k=v:=by unfold aZ;rw [List.getElem?_eq_getElem hk,ek];rfl
 rw [←h2];exact key k
theorem WD.start (h:WD n g ws 1 W) (hn:1≤n):Tr n g W 0 (W4 ws (ws.length - 1) ((ws.length+1) / 2))∧Tr n g W 1 (W4 ws (ws.length - 2) (ws.length / 2)):=by
 have hl:=h.len
 have e0:∀ j,((aZ (W4 ws (ws.length - 1) ((ws.length+1) / 2)) j:Int):Rat)=tau (g n) (g (n - 1)) 0 j:=fun j=>by
  rw [ad5,aD3]
  split
  ·rw [h.a0 j (by lia),hl,Nat.add_sub_cancel];congr 1;simp
  ·rw [h.ps.z n j (Nat.le_refl _) (by lia)];rfl
 have e1:∀ j,((aZ (W4 ws (ws.length - 2) (ws.length / 2)) j:Int):Rat)=tau (g n) (g (n - 1)) 1 j:=fun j=>by
  rw [P9,aD3]
  split
  ·rw [h.a1 hn j (by lia),hl,show n+1 - 2=n - 1 by simp];congr 1;simp
  ·rw [h.ps.z (n - 1) j (by simp) (by lia)];rfl
 refine ⟨⟨?_,e0,aD9 h hn (by simp) e0⟩,⟨?_,e1,aD9 h hn (by exact Nat.lt_succ_of_lt ‹_›) e1⟩⟩
 ·rw [aD2];unfold Lk;rw [if_pos (by exact Nat.le_of_lt ‹_›)];lia
 ·rw [aD2];unfold Lk;rw [if_pos (by omega)];lia
theorem WD.lead (h:WD n g ws 1 W) (hn:1≤n) {k:Nat} (k1:1≤k) (kn:k≤n) {F:List Int} {dv:Int} (tF:Tr n g W k F) (ed:((dv:Int):Rat)=dlt (g n) (g (n - 1)) k):dv≠0∧0<aZ F 0:=by
 have P:=h.ps
 have tp:=fun i (hi:i≤n)=>(as1 P hn i hi).1
 have lead:∀ i,i≤n→0<tau (g n) (g (n - 1)) i 0:=fun i hi=>by
  obtain ⟨c,hc,e⟩:=tp i hi
  rw [e];exact Q8 hc (P.p _ (by simp))
 have dn:dlt (g n) (g (n - 1)) k≠0:=by
  unfold dlt
  split
  ·decide
  ·exact ac1 (lead _ (by omega))
 refine ⟨fun z=>dn (by rw [←ed,z];rfl),?_⟩
 have:=lead k kn
 rw [←tF.e 0] at this
 exact Rat.intCast_pos.mp this
theorem WD.next (h:WD n g ws 1 W) (hn:1≤n) {k:Nat} (k1:1≤k) (kn:k≤n) {R F T:List Int} {dv:Int} (tR:Tr n g W (k - 1) R) (tF:Tr n g W k F) (ed:((dv:Int):Rat)=dlt (g n) (g (n - 1)) k) (lT:T.length=R.length - 1) (eT:∀ j,j<T.length→aZ T j=(aZ F 0 * aZ R (j+1) - aZ R 0 * aZ F (j+1)).fdiv dv):Tr n g W (k+1) T:=by
 obtain ⟨d0,l0⟩:=h.lead hn k1 kn tF ed
 have P:=h.ps
 have tp:=fun i (hi:i≤n)=>(as1 P hn i hi).1
 have lead:∀ i,i≤n→0<tau (g n) (g (n - 1)) i 0:=fun i hi=>by
  obtain ⟨c,hc,e⟩:=tp i hi
  rw [e];exact Q8 hc (P.p _ (by simp))
 have rc:=aE1 k (g n) (g (n - 1)) k1 (fun i _ hi=>ac1 (lead i (by lia))) (fun _=>ac1 (P.p _ (by simp)))
 obtain ⟨i1,i2⟩:=h.ints hn
 have n14:=h.n14
 have lR:=tR.l
 have lL:T.length=Lk n (k+1):=by
  rw [lT,lR]
  unfold Lk
  rw [if_pos (by lia)]
  split <;> lia
 have e:∀ j,((aZ T j:Int):Rat)=tau (g n) (g (n - 1)) (k+1) j:=fun j=>by
  obtain ⟨z,ez,_⟩:=aJ2 (m:=n+1) i1 i2 (k:=k+1) (by lia) (by exact Nat.lt_succ_of_lt ‹_›) (by lia) j
  have r:=rc j
  rw [ez,←ed,←tF.e,←tF.e,←tR.e,←tR.e] at r
  have ri:z * dv=aZ F 0 * aZ R (j+1) - aZ R 0 * aZ F (j+1):=Rat.intCast_inj.mp (by
   rw [Rat.intCast_mul,Rat.intCast_sub,Rat.intCast_mul,Rat.intCast_mul];exact r)
  rcases Nat.lt_or_ge j T.length with y | y
  ·rw [ez,eT j y,←ri]
   congr 1
   rw [Int.mul_comm];exact j2 d0
  ·have t0:aZ T j=0:=by unfold aZ;rw [List.getElem?_eq_none y];rfl
   rw [t0,ez]
   congr 1
   have f1:aZ R (j+1)=0:=by unfold aZ;rw [List.getElem?_eq_none (by lia)];rfl
   have lF:=tF.l
   have f2:aZ F (j+1)=0:=by
    unfold aZ
    rw [List.getElem?_eq_none];rfl
    rw [lF]
    unfold Lk at lR ⊢
    rw [if_pos (by lia)] at lR ⊢
    lia
   rw [f1,f2,Int.mul_zero,Int.mul_zero,Int.sub_zero] at ri
   rcases Int.mul_eq_zero.mp ri with x | x
   ·exact x.symm
   ·exact absurd x d0
 exact ⟨lL,e,aD9 h hn (by omega) e⟩
end
section
variable {P:Program} {w:World} {K:PySem.W.Frag} {mg:Str→Option Value} {base:Heap}
def ba7 (K:PySem.W.Frag):Sp:=fun vs H Q _=>∃ (a:Addr) (ws:List Int) (n:Nat) (g:Nat→Nat→Rat) (e:Int) (W:Nat),vs=[.ref a]∧SqL K H a (ws.map V.int)∧WD n g ws e W∧∀ H',d5 H H'→Q (.bl true) H'
abbrev E4:Stmt:=top 76
theorem C6:i8 ["wholes","divisor","ahead","row","further","lead"] ["wholes"] (d3 E4):=by and_intros
set_option maxHeartbeats 0 in
theorem ay0 {f f1:Addr} (d:Df K mg "whole_dies" E4 ["wholes"] f) (G_row_behind:Def P w K mg base CX0 1 "row_behind" f1 ["row","further","divisor"] (aK4 K)) (n_min:mg "min" = none):Def P w K mg base CX0 2 "whole_dies" f ["wholes"] (ba7 K):=by
 refine d.ok (N:=["wholes","divisor","ahead","row","further","lead"]) C6 (by rintro vs H Q E ⟨_,_,_,_,_,_,h,_⟩;rw [h];rfl) (fun cdv A outer s H vs Q E hr h=>?_)
 obtain ⟨a,ws,n,g,e,W,rfl,hS,D,k⟩:=h
 refine ⟨_,(b9 (A0 (j3 ad0 (j8 u7 (pv 0) (Y3 O2 d4) (fun _ _=>rfl)) d4 (j6 _)) (d7 (P2 (i₀:=0) C6.nd rfl (Or.inl rfl) (Nc:=["whole"]) (caps:=[none]) rfl (Z3.of (osc:=d3 E4) (N:=["wholes","divisor","ahead","row","further","lead"]) (ks:=[]) rfl rfl rfl rfl D3 (by decide +kernel)) (D4 (pv 0)) (fun C s₂ H₂ fp pins=>(e8 (i:=0) (show List.Nodup (["whole"]:List Str) by decide +kernel) rfl (Or.inl rfl) (Or.inr rfl))) (fun C s₂ H₂ fp pins=>(Y3 O2 (pv 0))))) m8)
   (b9 (A0 (j3 bn9 (d8 (aX9 rfl) rfl n_min (by decide +kernel) (b6 (pv 0) b7)) d4 (j6 _)) (d7 (g8 G6)) m8)
   (b9 (V8 (i:=3) (j:=4) rfl C6.nd rfl rfl (by decide) rfl rfl (b6 (aB3 (pv 0) R4 R4 (R3 (Y3 O2 d4))) (b6 (aB3 (pv 0) (R3 (Y3 O2 d4)) R4 (R3 (Y3 O2 d4))) b7)) rfl)
   (b9 (bj3 d4 (e8 (i:=1) C6.nd rfl (Or.inl rfl)) (e8 (i:=2) C6.nd rfl (Or.inl rfl)))
   (b9 (V1 PassesOwn.never (C4 (pv 4) (fun _=>rfl)) (b9 (i7 (i:=5) C6.nd rfl (Or.inl rfl) (j8 u7 (pv 4) d4 (fun _ _=>rfl)))
   (b9 (A0 (j3 bn9 (pv 5) d4 (j6 _)) (d7 (g8 G6)) m8)
   (b9 (V8 (i:=3) (j:=4) rfl C6.nd rfl rfl (by decide) rfl rfl (b6 (pv 4) (b6 (d9 G_row_behind hr (b6 (pv 3) (b6 (pv 4) (b6 (pv 1) b7))) i5) b7)) rfl)
   (d7 (V8 (i:=1) (j:=2) rfl C6.nd rfl rfl (by decide) rfl rfl (b6 (pv 2) (b6 (pv 5) b7)) rfl))))))
   (d7 (g8 G6))))))),?_⟩
 rw [show start ["wholes","divisor","ahead","row","further","lead"] [.ref a]=[some (.ref a),none,none,none,none,none] from rfl]
 have hl:=D.len
 have n14:=D.n14
 refine e9 (fun σ H1=>∃ a ws,σ=[some (.ref a),none,none,none,none,none]∧d5 H H1∧SqL K H1 a (ws.map V.int)∧WD n g ws 1 W) (fun N hN=>?_) ?_
 ·subst_eqs
  have lastv:(ws.map V.int)[(ws.map V.int).length - 1]? = some (.int (aZ ws n)):=by
   rw [List.length_map,hl,Nat.add_sub_cancel,List.getElem?_map,List.getElem?_eq_getElem (by omega)]
   unfold aZ
   rw [List.getElem?_eq_getElem (by omega)];rfl
  have lm:aZ ws n∈ws:=by
   unfold aZ
   rw [List.getElem?_eq_getElem (by omega)]
   exact List.getElem_mem _
  have lp:=D.pos _ lm
  refine ⟨_,hS,_,aH1 lastv,_,rfl,t9 (fun hneg=>?_) (fun hpos=>?_)⟩
  ·have en:e = -1:=by
    rcases D.e1 with z | z
    ·rw [z] at lp;lia
    ·exact z
   subst en
   refine ⟨⟨_,hS⟩,fun D1 hD1=>?_⟩
   refine N2 (ws.map V.int) (fun j σ H3=>∃ o,σ=[o]∧d5 H H3∧H3 D1=some (.lst (((ws.take j).map fun v=>-v).map V.int))) ⟨_,rfl,d5.new hD1 _,b8⟩ (by rintro j σ H3 _ ⟨_,_,s3,_⟩;exact s3.seq hS) ?_ ?_
   ·rintro j x σ H3 hx ⟨o,rfl,s3,e3⟩
    have hj:=(List.getElem?_eq_some_iff.mp hx).1
    obtain ⟨v,hv,rfl⟩:=G4 hx
    subst_eqs
    refine G8.mk hj e3 ?_ ⟨_,rfl,s3.over hD1 _,?_⟩
    ·rw [List.length_map,List.length_map,List.length_take]
     rw [List.length_map] at hj
     exact Nat.lt_of_le_of_lt (show _≤100 by lia) (by decide)
    ·rw [b8,List.take_succ,hv,List.map_append,List.map_append];rfl
   ·rintro σ H3 ⟨o,rfl,s3,e3⟩
    rw [List.length_map,List.take_length] at e3
    exact hN _ _ ⟨D1,_,rfl,s3,SqL.of e3,D.flip⟩
  ·have en:e=1:=by
    rcases D.e1 with z | z
    ·exact z
    ·rw [z] at lp;omega
   subst en
   exact hN _ _ ⟨a,ws,rfl,d5.refl _,hS,D⟩
 rintro σ H1 ⟨a,ws,rfl,S1,hS,D⟩
 have hl:=D.len
 refine e9 (fun σ H2=>σ=[some (.ref a),none,none,none,none,none]∧H2=H1) (fun N hN=>?_) ?_
 ·simp! [bn8]
  refine ⟨ws,hS,fun z=>by rw [z] at hl;simp at hl,fun i hi=>t9 (fun h0=>?_) (fun _=>hN _ _ ⟨rfl,rfl⟩)⟩
  have:=D.pos i hi
  lia
 rintro σ H2 ⟨rfl,rfl⟩
 refine e9 (fun σ H3=>∃ r f,σ=[some (.ref a),none,none,some (.ref r),some (.ref f),none]∧d5 H2 H3∧H3 r=some (.lst ((W4 ws (ws.length - 1) ((ws.length+1) / 2)).map V.int))∧H3 f=some (.lst ((W4 ws (ws.length - 2) (ws.length / 2)).map V.int))) (fun N hN=>?_) ?_
 ·subst_eqs
  refine ⟨_,hS,by decide,fun p hp=>?_⟩
  rw [bw9 (by lia)]
  have X1:=d5.new hp (.lst ((W4 ws (ws.length - 1) ((ws.length+1) / 2)).map V.int))
  refine ⟨_,X1.seq hS,by decide,fun p1 hp1=>?_⟩
  rw [bw8 (by omega)]
  have X2:=d5.new hp1 (.lst ((W4 ws (ws.length - 2) (ws.length / 2)).map V.int))
  exact hN _ _ ⟨p,p1,rfl,X1.trans X2,X2 _ _ b8,b8⟩
 rintro σ H3 ⟨r,f,rfl,S3,er,ef⟩
 refine e9 (fun σ H4=>σ=[some (.ref a),some (.int 1),some (.int 1),some (.ref r),some (.ref f),none]∧H4=H3) (fun N hN=>?_) ?_
 ·simp! [bn2]
  exact hN _ _ ⟨rfl,rfl⟩
 rintro σ H4 ⟨rfl,rfl⟩
 have S14:=S1.trans S3
 refine e9 (fun σ H5=>d5 H H5) (fun N hN=>?_) ?_
 ·show am0 _ _ _ _ _
  rcases Nat.eq_zero_or_pos n with n0 | n1
  ·have e0:ws.length / 2=0:=by lia
   rw [e0] at ef
   refine X8 (fun σ H5=>σ=[some (.ref a),some (.int 1),some (.int 1),some (.ref r),some (.ref f),none]∧H5=H4) (fun _ _=>0) ⟨rfl,rfl⟩ ?_
   rintro σ H5 ⟨rfl,rfl⟩
   simp! [aa4]
   exact ⟨_,.inl ⟨_,SqL.of ef,rfl⟩,t9 (fun h=>by cases h) (fun _=>hN _ _ S14)⟩
  obtain ⟨t0,t1⟩:=D.start n1
  refine X8 (fun σ H5=>∃ k r f R F dv ah o,σ=[some (.ref a),some (.int dv),some (.int ah),some (.ref r),some (.ref f),o]∧d5 H H5∧H5 r=some (.lst (R.map V.int))∧H5 f=some (.lst (F.map V.int))∧1≤k∧k≤n+1∧Tr n g W (k - 1) R∧Tr n g W k F∧(((dv:Int):Rat)=dlt (g n) (g (n - 1)) k∧dv.natAbs<2 ^ ((W+4) * (n+1)+1))∧((ah:Int):Rat)=(if k=1 then 1 else tau (g n) (g (n - 1)) (k - 1) 0)∧ah.natAbs<2 ^ ((W+4) * (n+1)+1)) (fun σ H5=>V3 3 σ H5+V3 4 σ H5) ⟨1,r,f,_,_,1,1,none,rfl,S14,er,ef,Nat.le_refl _,by exact Nat.lt_succ_of_lt ‹_›,t0,t1,⟨by unfold dlt;rw [if_pos (by decide)];rfl,?_⟩,by rw [if_pos rfl];rfl,?_⟩ ?_
  ·exact Nat.lt_of_lt_of_le (show 1<2 ^ 1 by decide) (d6 (by simp))
  ·exact Nat.lt_of_lt_of_le (show 1<2 ^ 1 by decide) (d6 (by omega))
  rintro σ H5 ⟨k',r,f,R,F,dv,ah,o,rfl,S5,er,ef,k1,kn,tR,tF,⟨ed,bd⟩,ea,ba⟩
  simp! [aa4]
  refine ⟨_,.inl ⟨_,SqL.of ef,rfl⟩,t9 (fun hF=>WhB.mk ?_) (fun _=>hN _ _ S5)⟩
  have Fn:F≠[]:=fun z=>by rw [z] at hF;simp at hF
  have Fp:=List.length_pos_iff.mpr Fn
  have lF:=tF.l
  have lR:=tR.l
  have kn':k'≤n:=by
   rcases Nat.lt_or_ge n k' with z | z
   ·rw [lF] at Fp
    unfold Lk at Fp
    rw [if_neg (by lia)] at Fp
    omega
   ·exact z
  have hf0:(F.map V.int)[0]? = some (.int (aZ F 0)):=by
   rw [List.getElem?_map,List.getElem?_eq_getElem Fp]
   unfold aZ
   rw [List.getElem?_eq_getElem Fp];rfl
  obtain ⟨d0,l0⟩:=D.lead n1 k1 kn' tF ed
  subst_eqs
  refine ⟨_,SqL.of ef,_,F7 (j:=0) hf0,_,rfl,t9 (fun h=>by lia) (fun _=>?_)⟩
  have lFR:F.length≤R.length:=by
   rw [lF,lR]
   unfold Lk
   rw [if_pos kn',if_pos (by lia)];lia
  have lR20:R.length≤20:=by
   rw [lR]
   unfold Lk
   split <;> lia
  have hb:=D.b
  refine ⟨r,f,R,F,dv,_,rfl,SqL.of er,SqL.of ef,Fn,lFR,lR20,d0,bd,tR.b,tF.b,by lia,fun r' T H6 S6 fr er' lT eT=>?_⟩
  have tT:=D.next n1 k1 kn' tR tF ed lT eT
  have e3:V3 3 [some (V.ref a),some (V.int ah),some (V.int (aZ F 0)),some (V.ref f),some (V.ref r'),some (V.int (aZ F 0))] H6=F.length:=by
   rw [ab3 (k:=3) rfl (S6 _ _ ef),List.length_map]
  have e4:V3 4 [some (V.ref a),some (V.int ah),some (V.int (aZ F 0)),some (V.ref f),some (V.ref r'),some (V.int (aZ F 0))] H6=T.length:=by
   rw [ab3 (k:=4) rfl er',List.length_map]
  have e5:V3 3 [some (V.ref a),some (V.int dv),some (V.int ah),some (V.ref r),some (V.ref f),o] H5=R.length:=by
   rw [ab3 (k:=3) rfl er,List.length_map]
  have e6:V3 4 [some (V.ref a),some (V.int dv),some (V.int ah),some (V.ref r),some (V.ref f),o] H5=F.length:=by
   rw [ab3 (k:=4) rfl ef,List.length_map]
  refine WhN.mk ⟨k'+1,f,r',F,T,ah,aZ F 0,_,rfl,S5.trans S6,S6 _ _ ef,er',by exact Nat.lt_succ_of_lt ‹_›,by lia,by rw [Nat.add_sub_cancel];exact tF,tT,?_,ba,?_,aa0 tF.b 0⟩ ?_
  ·rw [ea]
   unfold dlt
   rcases Nat.lt_or_ge k' 2 with z | z
   ·rw [if_pos (by lia),if_pos (by lia)]
   ·rw [if_neg (by lia),if_neg (by lia),show k'+1 - 2=k' - 1 by simp]
  ·rw [if_neg (by lia),Nat.add_sub_cancel];exact tF.e 0
  ·show V3 3 _ _+V3 4 _ _<V3 3 _ _+V3 4 _ _
   rw [e3,e4,e5,e6]
   lia
 rintro σ H5 S5
 subst_eqs
 exact k _ S5
end
structure Prt (M:List (List Rat)) (last:List Rat) (l:Rat):Prop where
 m:∀ L∈M,∃ a:Rat,0<a∧L=[0,a]
 e:last=[l]
 n:l≠0
theorem aO5 (a:Rat) (p:Pf) (k:Nat):(qp [0,a] * p).f k=if 1≤k then a * p.f (k - 1) else 0:=by
 rw [aO8]
 have:(qp [0,a]).f=fun i=>if i=1 then a else 0:=by
  funext i
  show (([0,a]:List Rat)[i]?).getD 0=_
  match i with
  | 0=>rfl
  | 1=>rfl
  | i+2=>rw [if_neg (by omega),List.getElem?_eq_none (by simp)];rfl
 rw [this,ap0]
def gP (M:List (List Rat)) (last:List Rat) (rh:Rat) (i j:Nat):Rat:=if 2 * j≤i then rh * (fld M last i).1.f (i - 2 * j) else 0
section
variable {M:List (List Rat)} {last:List Rat} {l rh:Rat}
theorem bl2 (P:Prt M last l) (j:Nat):gP M last rh 0 j=if j=0 then rh * l else 0:=by
 unfold gP
 by_cases h:j=0
 ·subst h
  rw [if_pos (by omega),if_pos rfl]
  show rh * (qp last).f 0=_
  rw [P.e];rfl
 ·rw [if_neg (by lia),if_neg h]
theorem aT4 (P:Prt M last l) {i:Nat} (h:i<M.length):∃ a:Rat,0<a∧gP M last rh (i+1) 0=a * gP M last rh i 0∧∀ j,gP M last rh (i+1) (j+1)=a * gP M last rh i (j+1)+(if i=0 then 0 else gP M last rh (i - 1) j):=by
 have hg:M[M.length - 1 - i]? = some (M[M.length - 1 - i]'(by omega)):=List.getElem?_eq_getElem (by omega)
 obtain ⟨a,ha,eL⟩:=P.m _ (List.mem_of_getElem? hg)
 have e1:(fld M last (i+1)).1=qp [0,a] * (fld M last i).1+(fld M last i).2:=by
  show qp ((M[M.length - 1 - i]?).getD []) * (fld M last i).1+(fld M last i).2=_
  rw [hg,Option.getD_some,eL]
 have e2:∀ k,(fld M last i).2.f k=if i=0 then 0 else (fld M last (i - 1)).1.f k:=fun k=>by
  cases i with
  | zero=>rw [if_pos rfl];exact W5 k
  | succ i=>rw [if_neg (by simp)];rfl
 refine ⟨a,ha,?_,fun j=>?_⟩
 ·unfold gP
  rw [if_pos (by simp),if_pos (by simp),e1,V9,aO5,if_pos (by simp),e2]
  have:(if i=0 then (0:Rat) else (fld M last (i - 1)).1.f (i+1 - 2 * 0))=0:=by
   split
   ·rfl
   ·have key:∀ k,k<M.length+1→Dg (fld M last k).1.f (k+1)∧Dg (fld M last k).2.f k:=by
     intro k
     induction k with
     | zero=>
      intro _
      refine ⟨fun q hq=>?_,fun q _=>W5 q⟩
      show (qp last).f q=0
      rw [P.e]
      exact aB0 [l] q (by simpa using hq)
     | succ k ih=>
      intro hk
      obtain ⟨d1,d2⟩:=ih (by exact Nat.le_of_lt ‹_›)
      obtain ⟨b,_,eb⟩:=P.m _ (List.getElem_mem (l:=M) (n:=M.length - 1 - k) (by omega))
      have e3:(fld M last (k+1)).1=qp [0,b] * (fld M last k).1+(fld M last k).2:=by
       show qp ((M[M.length - 1 - k]?).getD []) * (fld M last k).1+(fld M last k).2=_
       rw [List.getElem?_eq_getElem (by omega),Option.getD_some,eb]
      refine ⟨fun q hq=>?_,fun q hq=>d1 q (by omega)⟩
      rw [e3,V9,aO5,d2 q (by lia)]
      split
      ·rw [d1 (q - 1) (by lia)];grind
      ·grind
    exact (key (i - 1) (by lia)).1 _ (by simp)
  rw [this,show i+1 - 2 * 0 - 1=i - 2 * 0 by simp];grind
 ·unfold gP
  by_cases h2:2 * (j+1)≤i+1
  ·rw [if_pos h2,e1,V9,aO5,e2]
   by_cases i0:i=0
   ·omega
   ·rw [if_neg i0,if_neg i0,if_pos (show 2 * j≤i - 1 by lia),show i+1 - 2 * (j+1)=i - 1 - 2 * j by lia]
    by_cases h3:2 * (j+1)≤i
    ·rw [if_pos h3,if_pos (by omega),show i - 1 - 2 * j - 1=i - 2 * (j+1) by lia];grind
    ·rw [if_neg h3,if_neg (by omega)];grind
  ·rw [if_neg h2,if_neg (by lia)]
   split
   ·grind
   ·rw [if_neg (by lia)];grind
theorem bf7 (P:Prt M last l) (h0:0<rh * l):∀ i,i≤M.length→∀ j,2 * j≤i→0<gP M last rh i j:=by
 intro i
 induction i using Nat.strongRecOn with
 | _ i ih=>
  intro hi j hj
  cases i with
  | zero=>
   have:j=0:=by lia
   rw [bl2 P,if_pos this];exact h0
  | succ i=>
   obtain ⟨a,ha,e0,e1⟩:=aT4 (rh:=rh) P (i:=i) (by omega)
   cases j with
   | zero=>rw [e0];exact Q8 ha (ih i (by simp) (by omega) 0 (by omega))
   | succ j=>
    rw [e1]
    have i0:i≠0:=by omega
    rw [if_neg i0]
    have p2:=ih (i - 1) (by lia) (by lia) j (by omega)
    by_cases h3:2 * (j+1)≤i
    ·have p1:=Q8 ha (ih i (by simp) (by exact Nat.le_of_lt ‹_›) (j+1) h3)
     grind
    ·have:gP M last rh i (j+1)=0:=by unfold gP;rw [if_neg h3]
     rw [this]
     have e:a * 0+gP M last rh (i - 1) j=gP M last rh (i - 1) j:=by grind
     rw [e];exact p2
theorem bu2 (P:Prt M last l) (h0:0<rh * l):Pos M.length (gP M last rh):=by
 refine ⟨fun i hi=>bf7 P h0 i hi 0 (by omega),fun i h1 hi j=>?_,fun hn j=>?_,fun i j _ hj=>?_⟩
 ·obtain ⟨a,_,e0,e1⟩:=aT4 (rh:=rh) P (i:=i) hi
  rw [e0,e1,if_neg (by omega)];grind
 ·have z1:gP M last rh 1 (j+1)=0:=by unfold gP;rw [if_neg (by lia)]
  have z0:gP M last rh 0 (j+1)=0:=by unfold gP;rw [if_neg (by simp)]
  rw [z1,z0];grind
 ·unfold gP;rw [if_neg (by lia)]
end
theorem ad8 {M:List (List Rat)} {last:List Rat} {l:Rat} (P:Prt M last l):∀ n,n≤M.length→dn M last n=n
 | 0,_=>by unfold dn;rw [ar7,P.e];rfl
 | n+1,h=>by
  have ih:=ad8 P n (by omega)
  obtain ⟨b,_,eb⟩:=P.m _ (List.getElem_mem (l:=M) (n:=M.length - 1 - n) (by omega))
  unfold dn at ih ⊢
  rw [ar7,List.getElem?_eq_getElem (by lia),Option.getD_some,eb]
  show _+(_+(2 - 1))=_
  lia
theorem br1 {c W:Nat} {M:List (List Rat)} {last ps:List Rat} {l s:Rat} {ws:List Int} (R:O0 c M last) (P:Prt M last l) (tp:A7 ps ps.length) (ep:qp ps=(fld M last M.length).1+(fld M last M.length).2) (es:ps=scl s ws) (s0:s≠0) (bw:∀ v∈ws,Int.natAbs v<2 ^ W) (hb:(W+4) * (M.length+1)≤8800):∃ g e,WD M.length g ws e W:=by
 have lp:=V4 R tp ep
 rw [ad8 P _ (Nat.le_refl _)] at lp
 have lw:ws.length=M.length+1:=by rw [es,Q3] at lp;exact lp
 obtain ⟨par1,par2⟩:=aC2 R (Nat.le_refl M.length)
 rw [ad8 P _ (Nat.le_refl _)] at par1 par2
 have lM:=R.len
 have si:=Rat.mul_inv_cancel _ s0
 have val:∀ k,s * zc ws k=(fld M last M.length).1.f k+(fld M last M.length).2.f k:=fun k=>by
  have h1:=congrArg (fun z=>Pf.f z k) ep
  have h2:aQ ps k=(fld M last M.length).1.f k+(fld M last M.length).2.f k:=h1
  rw [←h2,es]
  exact (congrFun (ai5 s ws) k).symm
 have two:1≤M.length→(fld M last M.length).2=(fld M last (M.length - 1)).1:=fun h=>by
  obtain ⟨m,hm⟩:∃ m,M.length=m+1:=⟨M.length - 1,by lia⟩
  rw [hm];rfl
 -- the sign
 have sgn:∀ e:Int,(e=1∨e = -1)→0<(e:Rat) * s⁻¹ * l→∃ g e,WD M.length g ws e W:=fun e he h0=>by
  have gp:=bu2 (rh:=(e:Rat) * s⁻¹) P h0
  have gpp:=bf7 (rh:=(e:Rat) * s⁻¹) P h0
  have a0:∀ j,2 * j≤M.length→gP M last ((e:Rat) * s⁻¹) M.length j=((e * aZ ws (M.length - 2 * j):Int):Rat):=fun j hj=>by
   have v:=val (M.length - 2 * j)
   rw [par2 (M.length - 2 * j) (by omega)] at v
   unfold gP
   rw [if_pos hj,Rat.intCast_mul]
   show _=(e:Rat) * zc ws (M.length - 2 * j)
   generalize (fld M last M.length).1.f (M.length - 2 * j)=x at *
   generalize zc ws (M.length - 2 * j)=y at *
   generalize s⁻¹=u at *
   grind
  have a1:1≤M.length→∀ j,2 * j≤M.length - 1→gP M last ((e:Rat) * s⁻¹) (M.length - 1) j=((e * aZ ws (M.length - 1 - 2 * j):Int):Rat):=fun h1 j hj=>by
   have v:=val (M.length - 1 - 2 * j)
   rw [par1 (M.length - 1 - 2 * j) (by lia),two h1] at v
   unfold gP
   rw [if_pos hj,Rat.intCast_mul]
   show _=(e:Rat) * zc ws (M.length - 1 - 2 * j)
   generalize (fld M last (M.length - 1)).1.f (M.length - 1 - 2 * j)=x at *
   generalize zc ws (M.length - 1 - 2 * j)=y at *
   generalize s⁻¹=u at *
   grind
  refine ⟨_,e,lw,lM,he,fun v hv=>?_,gp,a0,a1,bw,hb⟩
  obtain ⟨k,hk,ek⟩:=List.getElem_of_mem hv
  have h2:aZ ws k=v:=by unfold aZ;rw [List.getElem?_eq_getElem hk,ek];rfl
  rw [←h2]
  refine Rat.intCast_pos.mp ?_
  by_cases z:(M.length - k) % 2=0
  ·have:=gpp M.length (Nat.le_refl _) ((M.length - k) / 2) (by lia)
   rw [a0 _ (by omega),show M.length - 2 * ((M.length - k) / 2)=k by lia] at this
   exact this
  ·have:=gpp (M.length - 1) (by simp) ((M.length - 1 - k) / 2) (by omega)
   rw [a1 (by lia) _ (by omega),show M.length - 1 - 2 * ((M.length - 1 - k) / 2)=k by lia] at this
   exact this
 have sn:s⁻¹ * l≠0:=fun z=>by
  rcases Rat.mul_eq_zero.mp z with y | y
  ·rw [y] at si
   have e0:s * 0=0:=by grind
   rw [e0] at si
   exact absurd si (by decide)
  ·exact P.n y
 by_cases z:0<s⁻¹ * l
 ·refine sgn 1 (.inl rfl) ?_
  have:((1:Int):Rat) * s⁻¹ * l=s⁻¹ * l:=by
   rw [show ((1:Int):Rat)=1 from rfl];grind
  rw [this];exact z
 ·refine sgn (-1) (.inr rfl) ?_
  have:((-1:Int):Rat) * s⁻¹ * l = -(s⁻¹ * l):=by
   rw [Rat.intCast_neg,show ((1:Int):Rat)=1 from rfl];grind
  rw [this]
  generalize s⁻¹ * l=x at *
  grind
section
variable {P:Program} {w:World} {K:PySem.W.Frag} {mg:Str→Option Value} {base:Heap}
def bb3 (K:PySem.W.Frag):Sp:=fun vs H Q _=>∃ (a:Addr) (xs:List V) (ps:List Rat) (c:Nat) (M:List (List Rat)) (last:List Rat) (l:Rat),vs=[.ref a]∧SqL K H a xs∧q8 H xs ps∧O0 c M last∧Prt M last l∧(Ub c M.length+1+4) * (M.length+1)≤8800∧A7 ps ps.length∧qp ps=(fld M last M.length).1+(fld M last M.length).2∧∀ H',d5 H H'→Q (.bl true) H'
abbrev ah7:Stmt:=top 77
theorem bi9:i8 ["p"] ["p"] (d3 ah7):=by and_intros
set_option maxHeartbeats 0 in
theorem bk1 {f f1 f2:Addr} (d:Df K mg "dies" ah7 ["p"] f) (GD_lifted:Def P w K mg base CX0 3 "lifted" f1 ["p"] (am3 K)) (G_whole_dies:Def P w K mg base CX0 2 "whole_dies" f2 ["wholes"] (ba7 K)) (n_bool:mg "bool" = none):Def P w K mg base CX0 4 "dies" f ["p"] (bb3 K):=by
 have G_lifted:=GD_lifted
 refine d.ok (N:=["p"]) bi9 (by rintro vs H Q E ⟨_,_,_,_,_,_,_,h,_⟩;rw [h];rfl) (fun cdv A outer s H vs Q E hr h=>?_)
 obtain ⟨a,xs,ps,c,M,last,l,rfl,hS,hN,R,Pr,hb,tp,ep,k⟩:=h
 refine ⟨_,(d7 (g8 (ah8 (G3 aR5 rfl n_bool (by decide +kernel) (b6 (pv 0) b7)) (am9 (d9 G_whole_dies hr (b6 (j8 p8 (d9 G_lifted hr (b6 (pv 0) b7) i5) d4 (fun _ _=>rfl)) b7) i5))))),?_⟩
 rw [show start ["p"] [.ref a]=[some (.ref a)] from rfl]
 simp! [aa4,bc3]
 have lp:=V4 R tp ep
 rw [ad8 Pr _ (Nat.le_refl _)] at lp
 have lx:=hN.length
 have lM:=R.len
 have ub:=R.ub (n:=M.length) (Nat.le_refl _)
 rw [ad8 Pr _ (Nat.le_refl _)] at ub
 obtain ⟨B,B0,hB,o1,o2⟩:=ag1 R M.length (Nat.le_refl _)
 rw [ad8 Pr _ (Nat.le_refl _)] at hB o1 o2
 have cl:ClN (Ub c M.length+1) ps:=X7 B0 (Nat.lt_of_lt_of_le hB (d6 (Nat.le_succ _))) (Y5 (by rw [ep];exact OvP.add B0 o1 o2))
 refine ⟨xs,hS,t9 (fun _=>?_) (fun h0=>?_)⟩
 ·refine ⟨a,xs,ps,rfl,hS,hN,_,cl,by lia,by simp,by lia,tp,fun r rs l' s' ws H1 S1 fl er ers el bs s0 wb wl e g=>?_⟩
  obtain ⟨g',e',D⟩:=br1 R Pr tp ep e s0 wb hb
  exact ⟨r,rfl,_,SqT.of er,_,rfl,l',ws,_,g',e',_,rfl,SqL.of el,D,fun H2 S2=>k _ (S1.trans S2)⟩
 ·cases xs with
  | nil=>simp at lx;lia
  | cons=>simp at h0
end
section
variable {P:Program} {w:World} {K:PySem.W.Frag} {mg:Str→Option Value} {base:Heap}
def at3 (K:PySem.W.Frag):Sp:=fun vs H Q _=>∃ v d,vs=[v]∧IsD K H v d∧Q (.bl (as7 d)) H
abbrev O6:Stmt:=top 26
theorem aK7:i8 ["thing"] ["thing"] (d3 O6):=by and_intros
theorem aL1 {f:Addr} (d:Df K mg "is_whole" O6 ["thing"] f) (n_isinstance:mg "isinstance" = none) (n_int:mg "int" = none) (n_bool:mg "bool" = none):Def P w K mg base CX0 1 "is_whole" f ["thing"] (at3 K):=by
 refine d.ok (N:=["thing"]) aK7 (by rintro vs H Q E ⟨a,b,h,_⟩;rw [h];rfl) (fun cdv A outer s H vs Q E hr h=>?_)
 obtain ⟨v,dd,rfl,hd,k⟩:=h
 refine ⟨_,(d7 (g8 (ah8 (d8 j5 rfl n_isinstance (by decide +kernel) (b6 (pv 0) (b6 (W7 (v:=.ty "int") rfl n_int (by decide +kernel) rfl) b7))) (am9 (bd0 (d8 j5 rfl n_isinstance (by decide +kernel) (b6 (pv 0) (b6 (W7 (v:=.ty "bool") rfl n_bool (by decide +kernel) rfl) b7)))))))),?_⟩
 rw [show start ["thing"] [v]=[some (v)] from rfl]
 subst_eqs
 refine ⟨trivial,_,hd.ty,_,aW9 hd,t9 (fun h=>⟨trivial,_,hd.ty,_,aQ5 hd,?_⟩) (fun h=>?_)⟩
 ·have e:(!bo4 dd)=as7 dd:=by
   cases dd with
   | v x=>cases x <;> first | rfl | (exact absurd h (by simp [aH4]))
   | tup l=>exact absurd h (by simp [aH4])
   | lst l=>exact absurd h (by simp [aH4])
  rw [e];exact k
 ·have e:as7 dd=false:=by
   cases dd with
   | v x=>cases x <;> first | rfl | (exact absurd rfl h)
   | tup l=>rfl
   | lst l=>rfl
  rw [e] at k;exact k
def aK0 (K:PySem.W.Frag):Sp:=fun vs H Q _=>∃ v d,vs=[v]∧IsD K H v d∧P7 d∧Q (.bl (T3 d)) H
abbrev M1:Stmt:=top 27
theorem ab8:i8 ["thing","top","bottom"] ["thing"] (d3 M1):=by and_intros
theorem aG1 {f f1 f2:Addr} (d:Df K mg "is_number" M1 ["thing"] f) (G_is_whole:Def P w K mg base CX0 1 "is_whole" f1 ["thing"] (at3 K)) (G_common_divisor:Def P w K mg base CX0 1 "common_divisor" f2 ["one","other"] ah3) (n_isinstance:mg "isinstance" = none) (n_tuple:mg "tuple" = none) (n_len:mg "len" = none):Def P w K mg base CX0 2 "is_number" f ["thing"] (aK0 K):=by
 refine d.ok (N:=["thing","top","bottom"]) ab8 (by rintro vs H Q E ⟨a,b,h,_⟩;rw [h];rfl) (fun cdv A outer s H vs Q E hr h=>?_)
 obtain ⟨v,dd,rfl,hd,hb,k⟩:=h
 refine ⟨_,(b9 (A0 (PW.pt (W3 (G0 (Q9 (d8 j5 rfl n_isinstance (by decide +kernel) (b6 (pv 0) (b6 (W7 (v:=.ty "tuple") rfl n_tuple (by decide +kernel) rfl) b7))))) (V7 (j3 bd5 (d8 i3 rfl n_len (by decide +kernel) (b6 (pv 0) b7)) d4 (j6 _))))) (d7 (g8 G6)) m8)
   (b9 (K8 (pv 0) (show PG _ _ (P3 K 2 (p5 (n8 1) (p5 (n8 2) P4))) from by (refine B5 (n:=2) ?_ ?_ ?_ ?_;rfl;(refine g7 ?_ ?_ ?_;(exact (e8 (i:=1) ab8.nd rfl (Or.inl rfl)));(refine g7 ?_ ?_ ?_;(exact (e8 (i:=2) ab8.nd rfl (Or.inl rfl)));(exact v9);rfl);rfl);rfl;rfl)))
   (b9 (A0 (PW.pt (W3 (G0 (Q9 (d9 G_is_whole hr (b6 (pv 1) b7) i5))) (W3 (G0 (Q9 (d9 G_is_whole hr (b6 (pv 2) b7) i5))) (V7 (j3 ad0 (pv 2) d4 (j6 _)))))) (d7 (g8 G6)) m8)
   (d7 (g8 (W6 aj9 (d9 G_common_divisor hr (b6 (pv 1) (b6 (pv 2) b7)) i5) d4 (j6 _))))))),?_⟩
 rw [show start ["thing","top","bottom"] [v]=[some (v),none,none] from rfl]
 simp! [at3]
 have no:T3 dd=false→Q (.bl false) H:=fun e=>by rw [e] at k;exact k
 refine ⟨trivial,_,hd.ty,_,aM5 hd,t9 (fun h=>no ?_) (fun h=>?_)⟩
 ·cases dd with
  | v x=>rfl
  | tup l=>cases h
  | lst l=>rfl
 cases hd with
 | v f=>exact absurd rfl h
 | lst hS ht=>exact absurd rfl h
 | @tup p xs ds hS ht=>
  have hl:=ht.length
  refine ⟨p,rfl,xs,.inr hS,rfl,t9 (fun h2=>no ?_) (fun h2=>?_)⟩
  ·unfold T3
   split
   ·rename_i e
    injection e with e
    rw [e] at hl
    exact absurd (by rw [hl];rfl) h2
   ·rfl
  have h2':xs.length=2:=by
   have:(xs.length:Int)=2:=Classical.byContradiction fun z=>h2 z
   lia
  cases ht with
  | nil=>simp at h2'
  | @cons x xs d1 ds h1 ht=>
   cases ht with
   | nil=>simp at h2'
   | @cons y ys d2 ds h3 ht=>
    cases ht with
    | cons _ _=>simp at h2'
    | nil=>
     refine ⟨p,rfl,_,hS,rfl,_,_,rfl,_,_,rfl,rfl,d1,h1,t9 (fun hw=>no ?_) (fun hw=>⟨d2,h3,t9 (fun hw2=>no ?_) (fun hw2=>?_)⟩)⟩
     ·unfold T3
      split
      ·rename_i e;injection e with e;injection e with e1 _;rw [e1] at hw;cases hw
      ·rfl
     ·unfold T3
      split
      ·rename_i e;injection e with e;injection e with _ e2;injection e2 with e2 _;rw [e2] at hw2;cases hw2
      ·rfl
     obtain ⟨t,rfl⟩:=as6 (by simpa using hw)
     obtain ⟨b,rfl⟩:=as6 (by simpa using hw2)
     cases h1
     cases h3
     refine ⟨b,rfl,t9 (fun hb1=>no ?_) (fun hb1=>?_)⟩
     ·simp only [T3]
      rw [decide_eq_false (by lia)];rfl
     ·refine ⟨t,b,rfl,hb t b rfl,rfl,?_⟩
      have e:T3 (.tup [.v (.int t),.v (.int b)])=decide (V.int ((Int.gcd t b:Nat):Int)=V.int 1):=by
       simp only [T3]
       rw [decide_eq_true (show 1≤b by lia),Bool.true_and,decide_eq_decide]
       constructor
       ·intro z;rw [z];rfl
       ·intro z;injection z with z;lia
      rw [e] at k
      exact k
end
section
variable {P:Program} {w:World} {K:PySem.W.Frag} {mg:Str→Option Value} {base:Heap}
def ag4 (j i:Nat):List V:=[V.bl (decide (j=i)),V.bl (decide (j=i+1)),V.bl (decide (j=i+2)),V.bl (decide (j=i+3))]
abbrev K0:Stmt:=top 98
theorem K6:i8 ["_law_e","_law_told","_law_names"] ["_law_e"] (d3 K0):=by and_intros
set_option maxHeartbeats 0 in
theorem ay6 {a:CAd} {f:Addr} (d:Df K mg "_law_which" K0 ["_law_e"] f) (X:XTx K mg a) (n_isinstance:mg "isinstance" = none) (n_ValueError:mg "ValueError" = none):bm7 P w K mg base 1 "_law_which" f ["_law_e"] (aE4 K a):=by
 obtain ⟨x_NoFraction,x_NoPolynomial,x_NoStretch,x_NoRow,x_NoPair,x_NoBack,x_NoForm,x_NoParts,x_NoDegree,x_NoSteps,x_NoBox,x_NoGain,x_NoText,x_NoLine,x_NoName,x_NoDeed⟩:=X
 refine d.okX (N:=["_law_e","_law_told","_law_names"]) K6 (fun vs H Q E ⟨u,q,j,h,_⟩=>by rw [h];rfl) (fun cdv A outer s H vs Q E hr h=>?_)
 obtain ⟨e,C,j,rfl,kt,hj,he,k⟩:=h
 refine ⟨_,(b9 (i7 (i:=1) K6.nd rfl (Or.inl rfl) (t6 (b6 (d8 j5 rfl n_isinstance (by decide +kernel) (b6 (pv 0) (b6 (v4 (v:=.ref _) rfl x_NoFraction.m rfl) b7))) (b6 (d8 j5 rfl n_isinstance (by decide +kernel) (b6 (pv 0) (b6 (v4 (v:=.ref _) rfl x_NoPolynomial.m rfl) b7))) (b6 (d8 j5 rfl n_isinstance (by decide +kernel) (b6 (pv 0) (b6 (v4 (v:=.ref _) rfl x_NoStretch.m rfl) b7))) (b6 (d8 j5 rfl n_isinstance (by decide +kernel) (b6 (pv 0) (b6 (v4 (v:=.ref _) rfl x_NoRow.m rfl) b7))) b7))))))
   (b9 (i7 (i:=1) K6.nd rfl (Or.inl rfl) (g6 aa3 (pv 1) (t6 (b6 (d8 j5 rfl n_isinstance (by decide +kernel) (b6 (pv 0) (b6 (v4 (v:=.ref _) rfl x_NoPair.m rfl) b7))) (b6 (d8 j5 rfl n_isinstance (by decide +kernel) (b6 (pv 0) (b6 (v4 (v:=.ref _) rfl x_NoBack.m rfl) b7))) (b6 (d8 j5 rfl n_isinstance (by decide +kernel) (b6 (pv 0) (b6 (v4 (v:=.ref _) rfl x_NoForm.m rfl) b7))) (b6 (d8 j5 rfl n_isinstance (by decide +kernel) (b6 (pv 0) (b6 (v4 (v:=.ref _) rfl x_NoParts.m rfl) b7))) b7)))))))
   (b9 (i7 (i:=1) K6.nd rfl (Or.inl rfl) (g6 aa3 (pv 1) (t6 (b6 (d8 j5 rfl n_isinstance (by decide +kernel) (b6 (pv 0) (b6 (v4 (v:=.ref _) rfl x_NoDegree.m rfl) b7))) (b6 (d8 j5 rfl n_isinstance (by decide +kernel) (b6 (pv 0) (b6 (v4 (v:=.ref _) rfl x_NoSteps.m rfl) b7))) (b6 (d8 j5 rfl n_isinstance (by decide +kernel) (b6 (pv 0) (b6 (v4 (v:=.ref _) rfl x_NoBox.m rfl) b7))) (b6 (d8 j5 rfl n_isinstance (by decide +kernel) (b6 (pv 0) (b6 (v4 (v:=.ref _) rfl x_NoGain.m rfl) b7))) b7)))))))
   (b9 (i7 (i:=1) K6.nd rfl (Or.inl rfl) (g6 aa3 (pv 1) (t6 (b6 (d8 j5 rfl n_isinstance (by decide +kernel) (b6 (pv 0) (b6 (v4 (v:=.ref _) rfl x_NoText.m rfl) b7))) (b6 (d8 j5 rfl n_isinstance (by decide +kernel) (b6 (pv 0) (b6 (v4 (v:=.ref _) rfl x_NoLine.m rfl) b7))) (b6 (d8 j5 rfl n_isinstance (by decide +kernel) (b6 (pv 0) (b6 (v4 (v:=.ref _) rfl x_NoName.m rfl) b7))) (b6 (d8 j5 rfl n_isinstance (by decide +kernel) (b6 (pv 0) (b6 (v4 (v:=.ref _) rfl x_NoDeed.m rfl) b7))) b7)))))))
   (b9 (i7 (i:=2) K6.nd rfl (Or.inl rfl) W0)
   (b9 (A0 (PW.pt (W3 (j3 bd5 (ap7 PySem.F.plainAttrs_list PySem.F.slot_list_count PySem.F.type_list_count be5 (pv 1) (b6 G6 b7)) d4 (j6 _)) (V7 (G0 (Q9 (d8 j5 rfl n_isinstance (by decide +kernel) (b6 (pv 0) (b6 (W7 (v:=.ty "ValueError") rfl n_ValueError (by decide +kernel) rfl) b7)))))))) (d7 (g8 W0)) m8)
   (d7 (g8 (j8 u7 (ap7 PySem.F.plainAttrs_str PySem.F.slot_str_split PySem.F.type_str_split be3 (pv 2) (b6 W0 b7)) (ap7 PySem.F.plainAttrs_list PySem.F.slot_list_index PySem.F.type_list_index be4 (pv 1) (b6 G6 b7)) (fun _ _=>rfl)))))))))),?_⟩
 rw [show start ["_law_e","_law_told","_law_names"] [.ref e]=[some (.ref e),none,none] from rfl]
 have ty:∀ {H':Hp},d5 H H'→TyX K H' (.ref e) (.ref C):=fun sm=>.exc (sm _ _ he) kt.ec
 refine e9 (fun σ H1=>∃ l,σ=[some (.ref e),some (.ref l),none]∧d5 H H1∧H1 l=some (.lst (ag4 j 0))) (fun N hN=>?_) ?_
 ·subst_eqs
  exact ⟨trivial,_,ty (d5.refl _),_,kt.k_NoFraction,trivial,_,ty (d5.refl _),_,kt.k_NoPolynomial,trivial,_,ty (d5.refl _),_,kt.k_NoStretch,trivial,_,ty (d5.refl _),_,kt.k_NoRow,by decide,fun l h=>hN _ _ ⟨l,rfl,d5.new h _,b8⟩⟩
 rintro σ H1 ⟨l1,rfl,sA1,eA1⟩
 refine e9 (fun σ H2=>∃ l,σ=[some (.ref e),some (.ref l),none]∧d5 H H2∧H2 l=some (.lst (ag4 j 0++ag4 j 4))) (fun N hN=>?_) ?_
 ·subst_eqs
  exact ⟨trivial,_,ty sA1,_,kt.k_NoPair,trivial,_,ty sA1,_,kt.k_NoBack,trivial,_,ty sA1,_,kt.k_NoForm,trivial,_,ty sA1,_,kt.k_NoParts,by decide,fun p hp=>⟨_,(j0 (g9 eA1 hp)).trans eA1,_,b8,(show (8:Nat)≤sizeLine from by decide),fun l h=>hN _ _ ⟨l,rfl,(sA1.trans (d5.new hp _)).trans (d5.new h _),b8⟩⟩⟩
 rintro σ H2 ⟨l2,rfl,sA2,eA2⟩
 refine e9 (fun σ H2=>∃ l,σ=[some (.ref e),some (.ref l),none]∧d5 H H2∧H2 l=some (.lst (ag4 j 0++ag4 j 4++ag4 j 8))) (fun N hN=>?_) ?_
 ·subst_eqs
  exact ⟨trivial,_,ty sA2,_,kt.k_NoDegree,trivial,_,ty sA2,_,kt.k_NoSteps,trivial,_,ty sA2,_,kt.k_NoBox,trivial,_,ty sA2,_,kt.k_NoGain,by decide,fun p hp=>⟨_,(j0 (g9 eA2 hp)).trans eA2,_,b8,(show (12:Nat)≤sizeLine from by decide),fun l h=>hN _ _ ⟨l,rfl,(sA2.trans (d5.new hp _)).trans (d5.new h _),b8⟩⟩⟩
 rintro σ H3 ⟨l3,rfl,sA3,eA3⟩
 refine e9 (fun σ H2=>∃ l,σ=[some (.ref e),some (.ref l),none]∧d5 H H2∧H2 l=some (.lst (ag4 j 0++ag4 j 4++ag4 j 8++ag4 j 12))) (fun N hN=>?_) ?_
 ·subst_eqs
  exact ⟨trivial,_,ty sA3,_,kt.k_NoText,trivial,_,ty sA3,_,kt.k_NoLine,trivial,_,ty sA3,_,kt.k_NoName,trivial,_,ty sA3,_,kt.k_NoDeed,by decide,fun p hp=>⟨_,(j0 (g9 eA3 hp)).trans eA3,_,b8,(show (16:Nat)≤sizeLine from by decide),fun l h=>hN _ _ ⟨l,rfl,(sA3.trans (d5.new hp _)).trans (d5.new h _),b8⟩⟩⟩
 rintro σ H4 ⟨l4,rfl,sA4,eA4⟩
 have eT:H4 l4=some (.lst (aZ5 j)):=eA4
 clear eA4
 subst_eqs
 refine ⟨.inl ⟨_,SqL.of eT⟩,_,eT,rfl,az8 j hj,rfl,?_⟩
 rw [aN6 j hj]
 refine t9 (fun hh=>absurd rfl hh) (fun _=>?_)
 refine ⟨trivial,_,ty sA4,_,kt.kV,?_⟩
 refine t9 (fun hh=>absurd hh (by decide)) (fun _=>?_)
 refine ⟨by decide +kernel,by decide +kernel,by decide +kernel,by decide +kernel,by rw [ap8];decide,fun l hl=>?_⟩
 have eT':(upd H4 l (.lst ((af9 "fraction polynomial stretch row pair back form parts degree steps box gain text line name deed" " ").map V.str))) l4=some (.lst (aZ5 j)):=(j0 (g9 eT hl)).trans eT
 refine ⟨.inl ⟨_,SqL.of eT'⟩,_,eT',rfl,az8 j hj,_,aZ4 j hj,_,SqL.of b8,_,bk3 hj,?_⟩
 exact k _ (sA4.trans (d5.new hl _))
end
def R7:D→Bool
 | .tup [.v (.int t),.v (.int b)]=>T3 (.tup [.v (.int t),.v (.int b)]) && decide (0<t)
 | _=>false
theorem aW0 {d:D} (h:R7 d=true):T3 d=true:=by
 unfold R7 at h
 split at h
 ·exact (Bool.and_eq_true _ _ ▸ h).1
 ·cases h
theorem aK9 {q:Rat}:R7 (w9 q)=decide (0<q.num):=by
 have h:T3 (w9 q)=true:=aL7 q
 show (T3 (w9 q) && decide (0<q.num))=_
 rw [h];rfl
def K9 (dn dl:D):Bool:=match dn with
 | .lst ds=>decide (ds.length≤14) && (T3 dl && !eqD dl (w9 0)) && ds.all R7
 | _=>false
section
variable {P:Program} {w:World} {K:PySem.W.Frag} {mg:Str→Option Value} {base:Heap}
def at6 (K:PySem.W.Frag):Sp:=fun vs H Q _=>∃ v l dn dl,vs=[v,l]∧IsD K H v dn∧IsD K H l dl∧P7 dl∧(∀ ds,dn = .lst ds→ds.length≤200∧∀ d∈ds,P7 d)∧∀ H',d5 H H'→Q (.bl (K9 dn dl)) H'
abbrev G5:Stmt:=top 80
theorem aF1:i8 ["parts","last"] ["parts","last"] (d3 G5):=by and_intros
set_option maxHeartbeats 0 in
theorem aG2 {f f1 aN:Addr} {tH:Tok} (d:Df K mg "are_parts" G5 ["parts","last"] f) (G_is_number:Def P w K mg base CX0 2 "is_number" f1 ["thing"] (aK0 K)) (c_HIGHEST:mg "HIGHEST" = some (.int 14 tH)) (c_NOUGHT:mg "NOUGHT" = some (.ref aN)) (tN:∀ H,SqT K H aN (t8 0)) (n_isinstance:mg "isinstance" = none) (n_list:mg "list" = none) (n_len:mg "len" = none) (n_all:mg "all" = none):Def P w K mg base CX0 3 "are_parts" f ["parts","last"] (at6 K):=by
 refine d.ok (N:=["parts","last"]) aF1 (by rintro vs H Q E ⟨_,_,_,_,h,_⟩;rw [h];rfl) (fun cdv A outer s H vs Q E hr h=>?_)
 obtain ⟨v,l,dn,dl,rfl,hn,hl,bl,bn,k⟩:=h
 have hu:=hr.units
 refine ⟨_,(b9 (A0 (PW.pt (W3 (G0 (Q9 (d8 j5 rfl n_isinstance (by decide +kernel) (b6 (pv 0) (b6 (W7 (v:=.ty "list") rfl n_list (by decide +kernel) rfl) b7))))) (V7 (j3 aj8 (d8 i3 rfl n_len (by decide +kernel) (b6 (pv 0) b7)) (v4 (v:=.int 14) rfl c_HIGHEST ⟨_,rfl⟩) (j6 _))))) (d7 (g8 G6)) m8)
   (b9 (A0 (PW.pt (W3 (G0 (Q9 (d9 G_is_number hr (b6 (pv 1) b7) i5))) (V7 (j3 (ae0 hu) (pv 1) (v4 (v:=.ref _) rfl c_NOUGHT rfl) (j6 _))))) (d7 (g8 G6)) m8)
   (d7 (g8 (d8 (aN2 rfl) rfl n_all (by decide +kernel) (b6 (R6 (Nc:=["part"]) (caps:=[none]) rfl (Z3.of (osc:=d3 G5) (N:=["parts","last"]) (ks:=[]) rfl rfl rfl rfl D3 (by decide +kernel)) (D4 (pv 0)) (fun C s₂ H₂ fp pins=>(e8 (i:=0) (show List.Nodup (["part"]:List Str) by decide +kernel) rfl (Or.inl rfl) (Or.inr rfl))) (fun C s₂ H₂ fp pins=>(ah8 (d9 G_is_number hr (b6 (pv 0) b7) i5) (am9 (W6 aj8 (j8 (by exact p8:IxR _ (bj2 K)) (pv 0) d4 (fun _ _=>rfl)) d4 (j6 _)))))) b7)))))),?_⟩
 rw [show start ["parts","last"] [v,l]=[some (v),some (l)] from rfl]
 subst_eqs
 have no:K9 dn dl=false→∀ H',d5 H H'→Q (.bl false) H':=fun e H' s'=>by
  have:=k H' s'
  rwa [e] at this
 refine ⟨trivial,_,hn.ty,_,aQ4 hn,t9 (fun h=>no ?_ H (d5.refl _)) (fun h=>?_)⟩
 ·cases dn with
  | v x=>rfl
  | tup l=>rfl
  | lst l=>cases h
 cases hn with
 | v f=>exact absurd rfl h
 | tup hS ht=>exact absurd rfl h
 | @lst p xs ds hS ht=>
  have hlen:=ht.length
  refine ⟨p,rfl,xs,.inl hS,t9 (fun h14=>no ?_ H (d5.refl _)) (fun h14=>?_)⟩
  ·simp only [K9]
   rw [decide_eq_false (by lia)];rfl
  have h14':ds.length≤14:=by lia
  refine ⟨l,dl,rfl,hl,bl,T3 dl,rfl,t9 (fun h0=>no ?_ H (d5.refl _)) (fun h0=>?_)⟩
  ·simp only [K9]
   rw [h0];simp
  have h1:T3 dl=true:=by simpa using h0
  obtain ⟨c,rfl⟩:=aG8 h1
  refine ⟨w9 c,w9 0,rfl,hl,M9 (tN _),ak6 _ _,aR1 _,_,rfl,t9 (fun h2=>no ?_ H (d5.refl _)) (fun h2=>?_)⟩
  ·simp only [K9]
   rw [h2];simp
  have h2':eqD (w9 c) (w9 0)=false:=by simpa using h2
  have ek:K9 (.lst ds) (w9 c)=ds.all R7:=by
   simp only [K9]
   rw [decide_eq_true h14',h1,h2'];simp
  rw [ek] at k
  refine ⟨p,rfl,⟨_,hS⟩,fun D hD=>?_⟩
  refine N2 xs (fun i σ H2=>∃ o,σ=[o]∧d5 H H2∧H2 D=some (.lst (((ds.take i).map R7).map V.bl))) ⟨_,rfl,d5.new hD _,b8⟩ (fun i σ H2 _ ⟨_,_,s2,_⟩=>s2.seq hS) ?_ ?_
  ·rintro i x σ H2 hx ⟨o,rfl,s2,e2⟩
   have hi:=(List.getElem?_eq_some_iff.mp hx).1
   obtain ⟨dx,hdx,ix⟩:=ht.get hx
   have ix2:=ix.same s2
   have fin:∀ b,b=R7 dx→G8 D xs.length (fun i σ H2=>∃ o,σ=[o]∧d5 H H2∧H2 D=some (.lst (((ds.take i).map R7).map V.bl))) i [some x] (.bl b) H2:=fun b hb=>by
    refine G8.mk hi e2 ?_ ⟨_,rfl,s2.over hD _,?_⟩
    ·simp only [List.length_map,List.length_take]
     exact Nat.lt_of_le_of_lt (show _≤14 by lia) (by decide)
    ·rw [b8,List.take_succ,hdx,hb]
     simp
   subst_eqs
   refine ⟨x,dx,rfl,ix2,(bn ds rfl).2 dx (List.mem_of_getElem? hdx),T3 dx,rfl,t9 (fun hnd=>?_) (fun hnd=>?_)⟩
   ·obtain ⟨q,rfl⟩:=aG8 hnd
    cases ix2 with
    | @tup px vs es hSx htx=>
     have evs:vs=t8 q:=by
      cases htx with
      | cons a1 t1=>
       cases t1 with
       | cons a2 t2=>
        cases t2
        cases a1
        cases a2
        rfl
     rw [evs] at hSx
     refine ⟨px,rfl,_,hSx,_,at0 q,_,rfl,fin _ ?_⟩
     rw [aK9]
   ·refine fin _ ?_
    cases e:R7 dx with
    | false=>rfl
    | true=>exact absurd (aW0 e) hnd
  ·rintro σ H2 ⟨o,rfl,s2,e2⟩
   rw [hlen,List.take_length] at e2
   refine ⟨D,rfl,_,SqL.of e2,?_⟩
   have:=k H2 s2
   rwa [show ((ds.map R7).all id)=ds.all R7 by rw [List.all_map];rfl]
def pR (ks:List Rat):List (List Rat):=ks.map fun q=>[0,q]
def ap5 (K:PySem.W.Frag) (C:Addr):Sp:=fun vs H Q E=>∃ v l dn dl,vs=[v,l]∧IsD K H v dn∧IsD K H l dl∧P7 dl∧(∀ ds,dn = .lst ds→ds.length≤200∧∀ d∈ds,P7 d)∧(K9 dn dl=false→∀ H',d5 H H'→E (.ref C) none H') ∧
 (K9 dn dl=true→∃ (a al:Addr) (xs:List V) (ks:List Rat) (c0:Rat) (cc:Nat),v = .ref a∧l = .ref al∧SqL K H a xs∧q8 H xs ks∧H al=some (.tup (t8 c0))∧O0 cc (pR ks) [c0] ∧
  ∀ r zs ps H',d5 H H'→H r=none→H' r=some (.lst zs)→q8 H' zs ps→A7 ps ps.length→qp ps=(fld (pR ks) [c0] (pR ks).length).1+(fld (pR ks) [c0] (pR ks).length).2→Q (.ref r) H')
abbrev E6:Stmt:=top 81
theorem ax5:i8 ["parts","last"] ["parts","last"] (d3 E6):=by and_intros
set_option maxHeartbeats 0 in
theorem ay2 {f f1 f2 aN C:Addr} (d:Df K mg "from_parts" E6 ["parts","last"] f) (G_are_parts:Def P w K mg base CX0 3 "are_parts" f1 ["parts","last"] (at6 K)) (G_put_together:Def P w K mg base CX0 5 "put_together" f2 ["quotients","last"] (bn4 K)) (c_NOUGHT:mg "NOUGHT" = some (.ref aN)) (tN:∀ H,SqT K H aN (t8 0)) (x_NoParts:ExT K mg "NoParts" C):Def P w K mg base (CXR P w) 6 "from_parts" f ["parts","last"] (ap5 K C):=by
 refine d.okR (N:=["parts","last"]) ax5 (by rintro vs H Q E ⟨_,_,_,_,h,_⟩;rw [h];rfl) (fun cdv A outer s H vs Q E hr h=>?_)
 obtain ⟨v,l,dn,dl,rfl,iv,il,bl,bn,k0,k1⟩:=h
 have hu:=hr.units
 refine ⟨_,(b9 (A0 (G0 (Q9 (d9 G_are_parts hr (b6 (pv 0) (b6 (pv 1) b7)) i5))) (d7 (bc6 x_NoParts.ox PySem.F.excBase_ValueError rfl rfl x_NoParts.m aV5 (b6 W0 b7))) m8)
   (d7 (g8 (d9 G_put_together hr (b6 (R6 (Nc:=["part"]) (caps:=[none]) rfl (Z3.of (osc:=d3 E6) (N:=["parts","last"]) (ks:=[]) rfl rfl rfl rfl D3 (by decide +kernel)) (D4 (pv 0)) (fun C s₂ H₂ fp pins=>(e8 (i:=0) (show List.Nodup (["part"]:List Str) by decide +kernel) rfl (Or.inl rfl) (Or.inr rfl))) (fun C s₂ H₂ fp pins=>(t6 (b6 (v4 (v:=.ref _) rfl c_NOUGHT rfl) (b6 (pv 0) b7))))) (b6 (t6 (b6 (pv 1) b7)) b7)) i5)))),?_⟩
 rw [show start ["parts","last"] [v,l]=[some (v),some (l)] from rfl]
 subst_eqs
 refine ⟨v,l,dn,dl,rfl,iv,il,bl,bn,fun H1 S1=>⟨_,rfl,t9 (fun h0=>⟨by decide,k0 h0 H1 S1⟩) (fun h1=>?_)⟩⟩
 obtain ⟨a,al,xs,ks,c0,cc,rfl,rfl,hS,hN,hal,R,k⟩:=k1 (by simpa using h1)
 have lx:=hN.length
 have lM:=R.len
 have lp:(pR ks).length=ks.length:=List.length_map ..
 refine ⟨a,rfl,⟨_,S1.seq hS⟩,fun D hD=>?_⟩
 refine N2 xs (fun i σ H2=>∃ o,σ=[o]∧aR9 K H1 D ((pR ks).take i) H2) ⟨_,rfl,aR9.start hD⟩ (fun i σ H2 _ ⟨_,_,T⟩=>T.same.seq (S1.seq hS)) ?_ ?_
 ·rintro i x σ H2 hx ⟨o,rfl,T⟩
  have hi:=(List.getElem?_eq_some_iff.mp hx).1
  obtain ⟨px,q,rfl,hq,epx⟩:=hN.getV hx
  subst_eqs
  refine ⟨by decide,fun p hp=>?_⟩
  have X:=d5.new hp (.lst [.ref aN,.ref px])
  obtain ⟨ys,ey,ly,T'⟩:=T.add hD hp (L:=[0,q]) (H3:=upd H2 p (.lst [.ref aN,.ref px])) ⟨X,_,b8,.cons (.inr tN) (.cons (.inl (X _ _ (T.same _ _ (S1 _ _ epx)))) .nil)⟩
  refine G8.mk hi ey ?_ ⟨_,rfl,?_⟩
  ·rw [ly,List.length_take]
   exact Nat.lt_of_le_of_lt (show _≤100 by omega) (by decide)
  ·have e:(pR ks)[i]? = some [0,q]:=by unfold pR;rw [List.getElem?_map,hq];rfl
   rw [List.take_succ,e]
   exact T'
 ·rintro σ H2 ⟨o,rfl,T⟩
  rw [lx,←lp,List.take_length] at T
  obtain ⟨S2,ts,e2,hn,nd,R2⟩:=T
  refine ⟨by decide,fun p hp=>?_⟩
  have X:=d5.new hp (.lst [.ref al])
  refine ⟨D,p,ts,_,cc,pR ks,[c0],rfl,SqL.of (X _ _ e2),R2.same X,SqL.of b8,.cons (.inl (X _ _ (S2 _ _ (S1 _ _ hal)))) .nil,R,fun r zs ps H3 S3 fr er nr tp ep=>?_⟩
  exact k r zs ps H3 (S1.trans (S2.trans (X.trans S3))) ((S1.trans (S2.trans X)).free fr) er nr tp ep
end
structure FXq (K:PySem.W.Frag) (D:Addr) (H:Hp) (r:Addr) (p:Pf) (b:Nat) (s:Rat) (ws:List Int):Prop where
 fm:FmX K D H r s ws
 s0:s≠0
 tz:A6 ws ws.length
 e:v6 s * zp ws=p
 bs:BdN b s
 bw:∀ v∈ws,Int.natAbs v<2 ^ b
 sp:0<s
theorem FXq.same {K:PySem.W.Frag} {D:Addr} {H H':Hp} {r:Addr} {p:Pf} {b:Nat} {s:Rat} {ws:List Int} (S:d5 H H') (h:FXq K D H r p b s ws):FXq K D H' r p b s ws:=⟨h.fm.same S,h.s0,h.tz,h.e,h.bs,h.bw,h.sp⟩
theorem FXq.over {K:PySem.W.Frag} {D:Addr} {H:Hp} {r:Addr} {p:Pf} {b:Nat} {s:Rat} {ws:List Int} {ys:List V} {o:HO} (hD:H D=some (.lst ys)) (h:FXq K D H r p b s ws):FXq K D (upd H D o) r p b s ws:=⟨h.fm.over hD,h.s0,h.tz,h.e,h.bs,h.bw,h.sp⟩
structure aN4 (K:PySem.W.Frag) (c:Nat) (M:List (List Rat)) (last:List Rat) (H:Hp) (D:Addr) (i:Nat) (r1 r2:Addr) (vs:List V) (fs:List (Rat × List Int)) (H2:Hp):Prop where
 le:i≤M.length
 same:d5 H H2
 eD:H2 D=some (.lst vs)
 fm:Fms K D H2 vs fs
 eM:fs.map (fun f=>scl f.1 f.2)=M.take (M.length - i)
 one:∃ s A,FXq K D H2 r1 (fld M last i).1 (Ub c (dn M last i)) s A
 other:∃ t B,FmX K D H2 r2 t B∧((i=0∧B=[])∨∃ j,i=j+1∧FXq K D H2 r2 (fld M last j).1 (Ub c (dn M last j)) t B)
 small:∀ f∈fs,f.1.den<2 ^ 6000∧f.1.num.natAbs<2 ^ 6000∧(∀ v∈f.2,Int.natAbs v<2 ^ 20000)∧f.2.length≤100∧0<f.1
theorem aN4.to {K:PySem.W.Frag} {c:Nat} {M:List (List Rat)} {last:List Rat} {H H2 H3:Hp} {D:Addr} {i:Nat} {r1 r2:Addr} {vs:List V} {fs:List (Rat × List Int)} (R:aN4 K c M last H D i r1 r2 vs fs H2) (S:d5 H2 H3):aN4 K c M last H D i r1 r2 vs fs H3:=by
 obtain ⟨s,A,X⟩:=R.one
 obtain ⟨t,B,F,alt⟩:=R.other
 refine ⟨R.le,R.same.trans S,S _ _ R.eD,R.fm.same S,R.eM,⟨s,A,X.same S⟩,⟨t,B,F.same S,?_⟩,R.small⟩
 rcases alt with h | ⟨j,e,Y⟩
 ·exact .inl h
 ·exact .inr ⟨j,e,Y.same S⟩
section
variable {P:Program} {w:World} {K:PySem.W.Frag} {mg:Str→Option Value} {base:Heap}
def bb2 (K:PySem.W.Frag):Sp:=fun vs H Q _=>∃ (a b:Addr) (s1 s2:Rat) (one other:List Int) (n S W1 W2:Nat),vs=[.ref a,.ref b]∧bm6 K H a s1 one∧bm6 K H b s2 other∧one.length≤30∧other.length=n+1∧n≤30∧aZ other n≠0∧A6 one one.length∧one.length≤n+S∧(∀ v∈one,Int.natAbs v<2 ^ W1)∧(∀ v∈other,Int.natAbs v<2 ^ W2)∧1≤W1∧1≤W2∧W1+S * (W2+1)+W2≤2900∧BdN W1 s1∧s1≠0∧BdN W2 s2∧s2≠0 ∧
 ∀ r t1 t2 r1 r2 lq lr s3 s4 Qz Rz H',d5 H H'→H lq=none→H lr=none→H' r=some (.tup [.ref t1,.ref t2])→H' t1=some (.tup [.ref r1,.ref lq])→H' t2=some (.tup [.ref r2,.ref lr])→SqT K H' r1 (t8 s3)→SqT K H' r2 (t8 s4)→H' lq=some (.lst (Qz.map V.int))→H' lr=some (.lst (Rz.map V.int)) →
  s3≠0→s4≠0→BdN 2901 s3→(∀ v∈Qz,Int.natAbs v<2 ^ 2900)→Rz.length≤n→A6 Rz Rz.length→A6 Qz Qz.length→Qz.length≤one.length→(Rz≠[]→u8 Rz=1)→v6 s1 * zp one=v6 s3 * zp Qz * (v6 s2 * zp other)+v6 s4 * zp Rz→(0<s1→0<s2→0<s3∧0<s4)→Q (.ref r) H'
theorem bg2 {vs:List V} {H:Hp} {Q:VK} {E:XK} (h:bb2 K vs H Q E):aS6 K vs H Q E:=by
 obtain ⟨a,b,s1,s2,one,other,n,S,W1,W2,rfl,h1,h2,h3,h4,h5,h6,h7,h8,h9,h10,h11,h12,h13,h14,h15,h16,h17,k⟩:=h
 have hSW:S * (W2+1)=S * W2+S:=by rw [Nat.mul_succ]
 refine ⟨a,b,s1,s2,one,other,n,S,W1,W2,W1,W2,rfl,h1,h2,h3,h4,h5,h6,h7,h8,h9,h10,h11,by omega,by lia,by lia,by omega,h14,h15,h16,h17,fun r t1 t2 r1 r2 lq lr s4 many Qz R0 Rz H' S' fq fr er et1 et2 es1 es2 eq elr m1 mb rb s30 s40 qb rl rt qt ql g e4 _ id pp=>?_⟩
 have q3:=aV6 (s:=s1) (t:=s2) m1 mb h17 h14.n h14.d h16.n h16.d
 exact k r t1 t2 r1 r2 lq lr _ s4 Qz Rz H' S' fq fr er et1 et2 es1 es2 eq elr s30 s40 ⟨Nat.lt_of_lt_of_le q3.1 (d6 (by lia)),Nat.lt_of_lt_of_le q3.2 (d6 (by lia))⟩ (fun v hv=>Nat.lt_of_lt_of_le (qb v hv) (d6 (by lia))) rl rt qt (by lia) g id pp
def am4 (K:PySem.W.Frag):Sp:=fun vs H Q _=>∃ (a:Addr) (xs:List V) (ps:List Rat) (c:Nat) (M:List (List Rat)) (last:List Rat),vs=[.ref a]∧SqL K H a xs∧q8 H xs ps∧O0 c M last∧A7 ps ps.length∧qp ps=(fld M last M.length).1+(fld M last M.length).2 ∧
 ∀ r r1 r2 D vs fs H',H' r=some (.tup [.ref D,.ref r1])→H D=none→aN4 K c M last H D 0 r1 r2 vs fs H'→Q (.ref r) H'
set_option maxHeartbeats 0 in
theorem ai3 {f f1 f2 f3:Addr} (d:Df K mg "division_forms" v8 ["p"] f) (G_by_turns:Def P w K mg base CX0 2 "by_turns" f1 ["p"] (aE5 K)) (GP_lifted:Def P w K mg base CX0 3 "lifted" f2 ["p"] (am2 K)) (GP_form_divided:Def P w K mg base CX0 4 "form_divided" f3 ["one","other"] (aS6 K)):HBd P w K mg base 4 "division_forms" v8 f ["p","quotients","first","second","one","other","quotient","rest"] (am4 K):=by
 have G_lifted:=GP_lifted
 have G_form_divided:=GP_form_divided.imp (sp':=bb2 K) (fun _ _ _ _ h=>bg2 h)
 intro cdv A' outer s' H vs Q E hr h
 obtain ⟨a,xs,ps,c,M,last,rfl,hS,hN,R,tp,ep,k⟩:=h
 refine ⟨_,(b9 (K8 (d9 G_by_turns hr (b6 (pv 0) b7) i5) (show PG _ _ (P3 K 2 (p5 (n8 2) (p5 (n8 3) P4))) from by (refine B5 (n:=2) ?_ ?_ ?_ ?_;rfl;(refine g7 ?_ ?_ ?_;(exact (e8 (i:=2) z7.nd rfl (Or.inl rfl)));(refine g7 ?_ ?_ ?_;(exact (e8 (i:=3) z7.nd rfl (Or.inl rfl)));(exact v9);rfl);rfl);rfl;rfl)))
   (b9 (V8 (i:=4) (j:=5) rfl z7.nd rfl rfl (by decide) rfl rfl (b6 (d9 G_lifted hr (b6 (pv 2) b7) i5) (b6 (d9 G_lifted hr (b6 (pv 3) b7) i5) b7)) rfl)
   (b9 (i7 (i:=1) z7.nd rfl (Or.inl rfl) (t6 b7))
   (b9 (V1 PassesOwn.never (C4 (j8 p8 (pv 5) d4 (fun _ _=>rfl)) (fun _=>rfl)) (b9 (K8 (d9 G_form_divided hr (b6 (pv 4) (b6 (pv 5) b7)) i5) (show PG _ _ (P3 K 2 (p5 (n8 6) (p5 (n8 7) P4))) from by (refine B5 (n:=2) ?_ ?_ ?_ ?_;rfl;(refine g7 ?_ ?_ ?_;(exact (e8 (i:=6) z7.nd rfl (Or.inl rfl)));(refine g7 ?_ ?_ ?_;(exact (e8 (i:=7) z7.nd rfl (Or.inl rfl)));(exact v9);rfl);rfl);rfl;rfl)))
   (b9 (af8 (ap7 PySem.F.plainAttrs_list PySem.F.slot_list_append PySem.F.type_list_append U0 (pv 1) (b6 (pv 6) b7)))
   (d7 (V8 (i:=4) (j:=5) rfl z7.nd rfl rfl (by decide) rfl rfl (b6 (pv 5) (b6 (pv 7) b7)) rfl)))))
   (d7 (g8 (j9 (b6 (pv 1) (b6 (pv 4) b7))))))))),?_⟩
 rw [show start ["p","quotients","first","second","one","other","quotient","rest"] [.ref a]=[some (.ref a),none,none,none,none,none,none,none] from rfl]
 have lps:=V4 R tp ep
 have ov:=ag1 R
 obtain ⟨c10,c40⟩:=R.c1
 have sm:=R.sum (n:=M.length) (Nat.le_refl _)
 have lpos:=List.length_pos_iff.mpr R.n
 have edn:dn M last M.length+1≤15:=by unfold dn;lia
 have ubn:=R.ub (n:=M.length) (Nat.le_refl _)
 obtain ⟨par1,par2⟩:=aC2 R (Nat.le_refl M.length)
 obtain ⟨tq0,tq1⟩:=bh8 lps ep par1 par2
 refine e9 (fun σ H1=>∃ l1 l2 y1 y2 m,σ=[some (.ref a),none,some (.ref l1),some (.ref l2),none,none,none,none]∧d5 H H1∧H1 l1=some (.lst y1)∧H1 l2=some (.lst y2)∧B8 K H1 y1 (F6 0 ps)∧B8 K H1 y2 ((F6 1 ps).take m)∧A7 (F6 1 ps) m) (fun N hN2=>?_) ?_
 ·subst_eqs
  refine ⟨a,xs,ps,rfl,hS,hN,by lia,fun r l1 l2 y1 y2 m H1 S1 f1 er e1 e2 n1 n2 tm=>?_⟩
  exact ⟨r,rfl,_,SqT.of er,rfl,_,_,rfl,_,_,rfl,rfl,hN2 _ _ ⟨l1,l2,y1,y2,m,rfl,S1,e1,e2,n1,n2,tm⟩⟩
 rintro σ H1 ⟨l1,l2,y1,y2,m,rfl,S1,e1,e2,n1,n2,tm⟩
 have lq2:((F6 1 ps).take m).length≤15:=by
  rw [List.length_take,ai7];lia
 have q2:qp ((F6 1 ps).take m)=(fld M last M.length).2:=by rw [as3 tm,tq1]
 obtain ⟨I,hI⟩:∃ I:Nat→Addr→Addr→Addr→L2.St→Hp→Prop,∀ i D r1 r2 σ H2,I i D r1 r2 σ H2↔∃ o2 o3 o6 o7 vs fs,σ=[some (.ref a),some (.ref D),o2,o3,some (.ref r1),some (.ref r2),o6,o7]∧aN4 K c M last H D i r1 r2 vs fs H2:=⟨_,fun _ _ _ _ _ _=>Iff.rfl⟩
 refine e9 (fun σ H2=>∃ r1 r2 rs1 rs2 la lb s A t B,σ=[some (.ref a),none,some (.ref l1),some (.ref l2),some (.ref r1),some (.ref r2),none,none]∧d5 H H2∧H2 la=some (.lst (A.map V.int))∧H2 lb=some (.lst (B.map V.int))∧SqT K H2 r1 [.ref rs1,.ref la]∧SqT K H2 rs1 (t8 s)∧SqT K H2 r2 [.ref rs2,.ref lb]∧SqT K H2 rs2 (t8 t)∧s≠0∧t≠0∧scl s A=F6 0 ps∧scl t B=(F6 1 ps).take m∧(A≠[]→u8 A=1)∧(B≠[]→u8 B=1)∧0<s∧0<t) (fun N hN2=>?_) ?_
 ·subst_eqs
  obtain ⟨B,B0,hB,o1,o2⟩:=ov M.length (Nat.le_refl _)
  have cl1:ClN (Ub c (dn M last M.length)) (F6 0 ps):=X7 B0 hB (Y5 (by rw [tq0];exact o1))
  have cl2:ClN (Ub c (dn M last M.length)) ((F6 1 ps).take m):=X7 B0 hB (Y5 (by rw [q2];exact o2))
  refine ⟨l1,y1,_,rfl,SqL.of e1,n1,_,cl1,by lia,ad4 _ _,by rw [ai7];lia,aS1 tp,fun r1 rs1 la s A H2 S2 f2 er1 ers1 ela bs1 s0 wb1 wl1 eA gA pA0=>?_⟩
  refine ⟨l2,y2,_,rfl,SqL.of (S2 _ _ e2),n2.mono S2.tups,_,cl2,by lia,ad4 _ _,by lia,as0 tm,fun r2 rs2 lb t B H3 S3 f3 er2 ers2 elb bs2 t0 wb2 wl2 eB gB pB0=>?_⟩
  exact hN2 _ _ ⟨r1,r2,rs1,rs2,la,lb,s,A,t,B,rfl,S1.trans (S2.trans S3),S3 _ _ ela,elb,SqT.of (S3 _ _ er1),S3.tup ers1,SqT.of er2,ers2,s0,t0,eA.symm,eB.symm,gA,gB,pA0,pB0⟩
 rintro σ H2 ⟨r1,r2,rs1,rs2,la,lb,s,A,t,B,rfl,S2,ela,elb,er1,ers1,er2,ers2,s0,t0,eA,eB,gA,gB,pA0,pB0⟩
 refine e9 (fun σ H3=>∃ D,H D=none∧I M.length D r1 r2 σ H3) (fun N hN2=>?_) ?_
 ·subst_eqs
  refine ⟨by decide,fun D hD=>hN2 _ _ ⟨D,S2.free hD,(hI _ _ _ _ _ _).mpr ⟨_,_,_,_,[],[],rfl,?_⟩⟩⟩
  have SD:=d5.new hD (.lst [])
  have nla:la≠D:=g9 ela hD
  have nlb:lb≠D:=g9 elb hD
  obtain ⟨B',B0,hB,o1,o2⟩:=ov M.length (Nat.le_refl _)
  have pA:v6 s * zp A=(fld M last M.length).1:=by rw [←T9,eA,tq0]
  have pB:v6 t * zp B=(fld M last M.length).2:=by rw [←T9,eB,q2]
  have An:A≠[]:=as4 pA (K5 R M.length (Nat.le_refl _))
  obtain ⟨bA1,bA2⟩:=aH7 s0 pA B0 hB o1 (gA An)
  have tzA:A6 A A.length:=tzB s0 eA.symm (aS1 tp)
  have tzB':A6 B B.length:=tzB t0 eB.symm (as0 tm)
  have fB:FmX K D (upd H2 D (.lst [])) r2 t B:=⟨rs2,lb,SD.tup er2,SD.tup ers2,SD _ _ elb,nlb⟩
  refine ⟨Nat.le_refl _,S2.trans SD,b8,.nil,by rw [Nat.sub_self];rfl,⟨s,A,⟨rs1,la,SD.tup er1,SD.tup ers1,SD _ _ ela,nla⟩,s0,tzA,pA,bA1,bA2,pA0⟩,⟨t,B,fB,?_⟩,by simp⟩
  rcases Nat.eq_zero_or_pos M.length with z | z
  ·refine .inl ⟨z,?_⟩
   rw [z] at pB
   have:=ap4 t0 tzB' pB (n:=0) fun k _=>by rw [show (fld M last 0).2=0 from rfl];exact W5 k
   exact List.length_eq_zero_iff.mp (by lia)
  ·obtain ⟨j,hj⟩:∃ j,M.length=j+1:=⟨M.length - 1,by lia⟩
   have e2':(fld M last M.length).2=(fld M last j).1:=by
    rw [hj];rfl
   rw [e2'] at pB
   obtain ⟨B',B0,hB,o1,o2⟩:=ov j (by lia)
   have Bn:B≠[]:=as4 pB (K5 R j (by lia))
   obtain ⟨bB1,bB2⟩:=aH7 t0 pB B0 hB o1 (gB Bn)
   exact .inr ⟨j,hj,fB,t0,tzB',pB,bB1,bB2,pB0⟩
 rintro σ H3 ⟨D,fD,h3⟩
 refine e9 (fun σ H4=>∃ r1 r2,I 0 D r1 r2 σ H4) (fun N hN2=>?_) ?_
 ·show am0 _ _ _ _ _
  refine X8 (fun σ H4=>∃ i r1 r2,I i D r1 r2 σ H4) (fun σ H4=>100 - V3 1 σ H4) ⟨_,_,_,h3⟩ ?_
  rintro σ H4 ⟨i,r1,r2,h4⟩
  obtain ⟨o2,o3,o6,o7,vs,fs,rfl,Rw⟩:=(hI _ _ _ _ _ _).mp h4
  obtain ⟨s1,A1,X1⟩:=Rw.one
  obtain ⟨t,B,fB,alt⟩:=Rw.other
  obtain ⟨rs2,lb,er2,ers2,elb,lbD⟩:=fB
  simp! [aa4]
  refine ⟨_,er2,_,rfl,_,.inl ⟨_,SqL.of elb,rfl⟩,t9 (fun hB=>WhB.mk ?_) (fun hB=>?_)⟩
  ·have hB':B≠[]:=fun z=>by rw [z] at hB;simp at hB
   rcases alt with ⟨_,z⟩ | ⟨j,rfl,X2⟩
   ·exact absurd z hB'
   subst_eqs
   have hj:j<M.length:=by have:=Rw.le;lia
   obtain ⟨L,hg,hL,hd,ei,_⟩:=R.at hj
   obtain ⟨tL,l2',_,_⟩:=R.m L hL
   have lA:=bg1 R (by lia) X1.s0 X1.tz X1.e
   have lB:=bg1 R (by exact Nat.le_of_lt ‹_›) X2.s0 X2.tz X2.e
   have sm':=R.sum (n:=j+1) (by lia)
   have edn':dn M last (j+1)+1≤15:=by unfold dn;lia
   have dle:=aI1 (M:=M) (n:=j+1) (by omega)
   have ud:=bo8 (D:=dn M last j) (d:=L.length - 1) R.z (by rw [←hd];unfold dn;lia)
   rw [←hd,Nat.sub_add_cancel (by exact Nat.le_of_lt ‹_›)] at ud
   have edn2:dn M last j≤dn M last (j+1):=by lia
   obtain ⟨ra,la',era,ersa,ela',laD⟩:=X1.fm
   refine ⟨r1,r2,s1,t,A1,B,dn M last j,L.length,_,_,rfl,⟨ra,la',era,ersa,SqL.of ela'⟩,⟨rs2,lb,er2,ers2,SqL.of elb⟩,by lia,lB,by lia,?_,X1.tz,by lia,X1.bw,X2.bw,ad4 _ _,ad4 _ _,ud,X1.bs,X1.s0,X2.bs,X2.s0,fun r t1 t2 r1' r2' lq lr s3 s4 Qz Rz H5 S5 fq fr er et1 et2 es1 es2 eq elr s30 s40 b3 qb rl rt qt ql g id pp=>?_⟩
   ·have:=aD8 X2.tz (by lia)
    rw [lB,Nat.add_sub_cancel] at this
    exact this
   rw [X1.e,X2.e] at id
   obtain ⟨L',hg',hL',q1,q2'⟩:=bl3 R hj (m:=Qz.length) id (fun k hk=>by rw [ax9,show (zp Rz).f k=zc Rz k from rfl,az5 Rz k (by lia)];grind) (fun k hk=>by rw [ax9,show (zp Qz).f k=zc Qz k from rfl,az5 Qz k hk];grind)
   rw [hg] at hg'
   cases hg'
   have eL:scl s3 Qz=L:=aO6 (tlB s30 qt) tL (by rw [T9,q1])
   have eD5:=S5 _ _ Rw.eD
   have lM:=R.len
   have lvs:vs.length=M.length - (j+1):=by
    have h1:=congrArg List.length Rw.eM
    rw [List.length_map,List.length_take] at h1
    rw [Rw.fm.length,h1];simp
   refine ⟨r,rfl,_,SqT.of er,rfl,_,_,rfl,_,_,rfl,rfl,.inl ⟨_,SqL.of eD5⟩,vs,eD5,Nat.lt_of_le_of_lt (show _≤100 by lia) (by decide),?_⟩
   show WhN _ _ _ _ _
   refine ⟨_,?_,rfl,j,r2,t2,(hI _ _ _ _ _ _).mpr ⟨_,_,_,_,vs++[.ref t1],fs++[(s3,Qz)],rfl,?_⟩⟩
   ·show 100 - V3 1 _ _<100 - V3 1 _ _
    unfold V3
    simp only [List.getElem?_cons_succ,List.getElem?_cons_zero]
    rw [b8,Rw.eD]
    simp only [List.length_append,List.length_cons,List.length_nil]
    lia
   have lqD:lq≠D:=fun z=>by rw [z,Rw.eD] at fq;cases fq
   have lrD:lr≠D:=fun z=>by rw [z,Rw.eD] at fr;cases fr
   have fR:FmX K D (upd H5 D (.lst (vs++[.ref t1]))) t2 s4 Rz:=FmX.over eD5 ⟨r2',lr,SqT.of et2,es2,elr,lrD⟩
   refine ⟨by exact Nat.le_of_lt ‹_›,(Rw.same.trans S5).over fD _,b8,((Rw.fm.same S5).snoc ⟨r1',lq,SqT.of et1,es1,eq,lqD⟩).over eD5,?_,⟨t,B,(X2.same S5).over eD5⟩,⟨s4,Rz,fR,?_⟩,fun f hf=>?_⟩
   ·rw [List.map_append,Rw.eM,show M.length - j=M.length - (j+1)+1 by lia,List.take_succ,show M.length - (j+1)=M.length - 1 - j by lia,hg]
    simp [eL]
   ·rcases Nat.eq_zero_or_pos j with z | z
    ·refine .inl ⟨z,?_⟩
     rw [z] at q2'
     have:=ap4 s40 rt q2' (n:=0) fun k _=>by rw [show (fld M last 0).2=0 from rfl];exact W5 k
     exact List.length_eq_zero_iff.mp (by lia)
    ·obtain ⟨j',hj'⟩:∃ j',j=j'+1:=⟨j - 1,by lia⟩
     have e2':(fld M last j).2=(fld M last j').1:=by rw [hj'];rfl
     rw [e2'] at q2'
     obtain ⟨B',B0,hB,o1,o2⟩:=ov j' (by lia)
     have Rn:Rz≠[]:=as4 q2' (K5 R j' (by lia))
     obtain ⟨bB1,bB2⟩:=aH7 s40 q2' B0 hB o1 (g Rn)
     exact .inr ⟨j',hj',fR,s40,rt,q2',bB1,bB2,(pp X1.sp X2.sp).2⟩
   ·rcases List.mem_append.mp hf with h | h
    ·exact Rw.small f h
    ·rw [List.mem_singleton.mp h]
     exact ⟨Nat.lt_of_lt_of_le b3.d (d6 (by simp)),Nat.lt_of_lt_of_le b3.n (d6 (by omega)),fun v hv=>Nat.lt_of_lt_of_le (qb v hv) (d6 (by simp)),by show Qz.length≤100;lia,(pp X1.sp X2.sp).1⟩
  ·have hB0:B=[]:=by
    cases B with
    | nil=>rfl
    | cons=>simp at hB
   rcases alt with ⟨rfl,z⟩ | ⟨j,rfl,X2⟩
   ·exact hN2 _ _ ⟨_,_,h4⟩
   ·exact absurd hB0 (as4 X2.e (K5 R j (by have:=Rw.le;exact Nat.le_of_lt ‹_›)))
 rintro σ H4 ⟨r1,r2,h4⟩
 obtain ⟨o2,o3,o6,o7,vs,fs,rfl,Rw⟩:=(hI _ _ _ _ _ _).mp h4
 subst_eqs
 refine ⟨y7,fun p hp=>?_⟩
 exact k p r1 r2 D vs fs _ b8 fD (Rw.to (d5.new hp _))
theorem ak1 {f f1 f2 f3:Addr} (d:Df K mg "division_forms" v8 ["p"] f) (G_by_turns:Def P w K mg base CX0 2 "by_turns" f1 ["p"] (aE5 K)) (GP_lifted:Def P w K mg base CX0 3 "lifted" f2 ["p"] (am2 K)) (GP_form_divided:Def P w K mg base CX0 4 "form_divided" f3 ["one","other"] (aS6 K)):Def P w K mg base CX0 5 "division_forms" f ["p"] (am4 K):=
 d.ok (N:=["p","quotients","first","second","one","other","quotient","rest"]) z7 (by rintro vs H Q E ⟨_,_,_,_,_,_,h,_⟩;rw [h];rfl) (ai3 d G_by_turns GP_lifted GP_form_divided)
def aA0 (K:PySem.W.Frag):Sp:=fun vs H Q _=>∃ (a:Addr) (xs:List V) (ps:List Rat) (cc:Nat) (ks:List Rat) (c0:Rat),vs=[.ref a]∧SqL K H a xs∧q8 H xs ps∧O0 cc (pR ks) [c0]∧(∀ q∈ks,0<q)∧A7 ps ps.length∧qp ps=(fld (pR ks) [c0] (pR ks).length).1+(fld (pR ks) [c0] (pR ks).length).2 ∧
 ∀ r pa pl ys H',d5 H H'→H' r=some (.tup [.str "parts",.ref pa,.ref pl])→H' pa=some (.lst ys)→q8 H' ys ks→H' pl=some (.tup (t8 c0))→Q (.ref r) H'
abbrev G9:Stmt:=top 79
theorem U8:i8 ["p","parts","quotients","last_scale","last"] ["p"] (d3 G9):=by and_intros
set_option maxHeartbeats 0 in
theorem aL0 {f f1 f2:Addr} (d:Df K mg "parts_of" G9 ["p"] f) (G_division_forms:Def P w K mg base CX0 5 "division_forms" f1 ["p"] (am4 K)) (G_lowered:Def P w K mg base CX0 3 "lowered" f2 ["scale","wholes"] (am1 K)) (n_len:mg "len" = none) (n_any:mg "any" = none):Def P w K mg base CX0 6 "parts_of" f ["p"] (aA0 K):=by
 refine d.ok (N:=["p","parts","quotients","last_scale","last"]) U8 (by rintro vs H Q E ⟨_,_,_,_,_,_,h,_⟩;rw [h];rfl) (fun cdv A outer s H vs Q E hr h=>?_)
 obtain ⟨a,xs,ps,c,ks,c0,rfl,hS,hN,R,kp,tp,ep,k⟩:=h
 have hu:=hr.units
 refine ⟨_,(b9 (A0 (G0 (C4 (pv 0) (fun _=>rfl))) (d7 aj7) m8)
   (b9 (K8 (d9 G_division_forms hr (b6 (pv 0) b7) i5) (show PG _ _ (P3 K 2 (p5 (n8 2) (p5 (P3 K 2 (p5 (n8 3) (p5 (n8 4) P4))) P4))) from by (refine B5 (n:=2) ?_ ?_ ?_ ?_;rfl;(refine g7 ?_ ?_ ?_;(exact (e8 (i:=2) U8.nd rfl (Or.inl rfl)));(refine g7 ?_ ?_ ?_;(refine B5 (n:=2) ?_ ?_ ?_ ?_;rfl;(refine g7 ?_ ?_ ?_;(exact (e8 (i:=3) U8.nd rfl (Or.inl rfl)));(refine g7 ?_ ?_ ?_;(exact (e8 (i:=4) U8.nd rfl (Or.inl rfl)));(exact v9);rfl);rfl);rfl;rfl);(exact v9);rfl);rfl);rfl;rfl)))
   (b9 (A0 (PW.pt (W3 (j3 ad0 (d8 i3 rfl n_len (by decide +kernel) (b6 (pv 2) b7)) (g6 N3 (d8 i3 rfl n_len (by decide +kernel) (b6 (pv 0) b7)) d4) (j6 _)) (V7 (Q9 (d8 (bh3 rfl) rfl n_any (by decide +kernel) (b6 (R6 (Nc:=["scale","wholes"]) (caps:=[none,none]) rfl (Z3.of (osc:=d3 G9) (N:=["p","parts","quotients","last_scale","last"]) (ks:=[]) rfl rfl rfl rfl D3 (by decide +kernel)) (D4 (pv 2)) (fun C s₂ H₂ fp pins=>(show PG _ _ (P3 K 2 (p5 (n8 0) (p5 (n8 1) P4))) from by (refine B5 (n:=2) ?_ ?_ ?_ ?_;rfl;(refine g7 ?_ ?_ ?_;(exact (e8 (i:=0) (show List.Nodup (["scale","wholes"]:List Str) by decide +kernel) rfl (Or.inl rfl) (Or.inr rfl)));(refine g7 ?_ ?_ ?_;(exact (e8 (i:=1) (show List.Nodup (["scale","wholes"]:List Str) by decide +kernel) rfl (Or.inl rfl) (Or.inr rfl)));(exact v9);rfl);rfl);rfl;rfl))) (fun C s₂ H₂ fp pins=>(W6 ad0 (j8 (by exact u7:IxR _ (aO2 K)) (pv 1) (Y3 O2 d4) (fun _ _=>rfl)) d4 (j6 _)))) b7)))))) (d7 aj7) m8)
   (b9 (P2 (i₀:=1) U8.nd rfl (Or.inl rfl) (Nc:=["scale","wholes"]) (caps:=[none,none]) rfl (Z3.of (osc:=d3 G9) (N:=["p","parts","quotients","last_scale","last"]) (ks:=[]) rfl rfl rfl rfl D3 (by decide +kernel)) (D4 (pv 2)) (fun C s₂ H₂ fp pins=>(show PG _ _ (P3 K 2 (p5 (n8 0) (p5 (n8 1) P4))) from by (refine B5 (n:=2) ?_ ?_ ?_ ?_;rfl;(refine g7 ?_ ?_ ?_;(exact (e8 (i:=0) (show List.Nodup (["scale","wholes"]:List Str) by decide +kernel) rfl (Or.inl rfl) (Or.inr rfl)));(refine g7 ?_ ?_ ?_;(exact (e8 (i:=1) (show List.Nodup (["scale","wholes"]:List Str) by decide +kernel) rfl (Or.inl rfl) (Or.inr rfl)));(exact v9);rfl);rfl);rfl;rfl))) (fun C s₂ H₂ fp pins=>(j8 (by exact u7:IxR _ (aO2 K)) (d9 G_lowered hr (b6 (pv 0) (b6 (pv 1) b7)) i5) d4 (fun _ _=>rfl))))
   (d7 (g8 (j9 (b6 W0 (b6 (pv 1) (b6 (j8 u7 (d9 G_lowered hr (b6 (pv 3) (b6 (pv 4) b7)) i5) d4 (fun _ _=>rfl)) b7)))))))))),?_⟩
 rw [show start ["p","parts","quotients","last_scale","last"] [.ref a]=[some (.ref a),none,none,none,none] from rfl]
 have lps:=V4 R tp ep
 have lx:=hN.length
 have lM:=R.len
 have lpk:(pR ks).length=ks.length:=List.length_map ..
 have Pr:Prt (pR ks) [c0] c0:=⟨fun L hL=>by
  obtain ⟨q,hq,rfl⟩:=List.mem_map.mp hL
  exact ⟨q,kp q hq,rfl⟩,rfl,fun z=>by
  have:=R.t.last (by simp) c0 rfl
  exact this z⟩
 rw [ad8 Pr _ (Nat.le_refl _),lpk] at lps
 refine e9 (fun σ H1=>σ=[some (.ref a),none,none,none,none]∧H1=H) (fun N hN2=>?_) ?_
 ·simp! [aa4]
  refine ⟨_,.inl ⟨_,hS,rfl⟩,t9 (fun h0=>?_) (fun h0=>hN2 _ _ ⟨rfl,rfl⟩)⟩
  cases xs with
  | nil=>simp at lx;lia
  | cons=>simp at h0
 rintro σ H1 ⟨rfl,rfl⟩
 refine e9 (fun σ H2=>∃ D ra la s1 A1 vs fs,σ=[some (.ref a),none,some (.ref D),some (.ref ra),some (.ref la)]∧d5 H1 H2∧H2 D=some (.lst vs)∧Fms K D H2 vs fs∧fs.map (fun f=>scl f.1 f.2)=pR ks∧(∀ f∈fs,f.1.den<2 ^ 6000∧f.1.num.natAbs<2 ^ 6000∧(∀ v∈f.2,Int.natAbs v<2 ^ 20000)∧f.2.length≤100∧0<f.1)∧SqT K H2 ra (t8 s1)∧H2 la=some (.lst (A1.map V.int))∧scl s1 A1=[c0]∧BdN 701 s1∧(∀ v∈A1,Int.natAbs v<2 ^ 701)) (fun N hN2=>?_) ?_
 ·subst_eqs
  refine ⟨a,xs,ps,c,pR ks,[c0],rfl,hS,hN,R,tp,ep,fun r r1 r2 D vs fs H2 er fD Rw=>?_⟩
  obtain ⟨s1,A1,X1⟩:=Rw.one
  obtain ⟨ra,la',era,ersa,ela',laD⟩:=X1.fm
  have eM:=Rw.eM
  rw [Nat.sub_zero,List.take_length] at eM
  have ub0:=R.ub (n:=0) (by simp)
  have eL:scl s1 A1=[c0]:=aO6 (tlB X1.s0 X1.tz) R.t (by rw [T9,X1.e];rfl)
  exact ⟨r,rfl,_,SqT.of er,rfl,_,_,rfl,_,_,rfl,r1,rfl,_,era,rfl,_,_,rfl,_,_,rfl,rfl,rfl,hN2 _ _ ⟨D,ra,la',s1,A1,vs,fs,rfl,Rw.same,Rw.eD,Rw.fm,eM,Rw.small,ersa,ela',eL,X1.bs.mono ub0,fun v hv=>Nat.lt_of_lt_of_le (X1.bw v hv) (d6 ub0)⟩⟩
 rintro σ H2 ⟨D,ra,la,s1,A1,vs,fs,rfl,S2,eD,fm,eM,small,era,ela,eL,b1,bA⟩
 have lfs:fs.length=ks.length:=by
  have:=congrArg List.length eM
  rw [List.length_map,lpk] at this;exact this
 have lvs:=fm.length
 have neg:∀ {i:Nat} {f:Rat × List Int},fs[i]? = some f→∃ w0 w1 q,f.2=[w0,w1]∧ks[i]? = some q∧scl f.1 f.2=[0,q]∧0<w1:=fun {i f} hf=>by
  have h1:(fs.map (fun f=>scl f.1 f.2))[i]? = some (scl f.1 f.2):=by rw [List.getElem?_map,hf];rfl
  rw [eM] at h1
  unfold pR at h1
  rw [List.getElem?_map] at h1
  cases hq:ks[i]? with
  | none=>rw [hq] at h1;cases h1
  | some q=>
   rw [hq,Option.map_some] at h1
   injection h1 with h1
   have l2:f.2.length=2:=by
    have:=congrArg List.length h1
    rw [Q3] at this;exact this.symm
   obtain ⟨w0,w1,e2⟩:∃ w0 w1,f.2=[w0,w1]:=by
    match h:f.2,l2 with
    | [w0,w1],_=>exact ⟨w0,w1,rfl⟩
   refine ⟨w0,w1,q,e2,rfl,h1.symm,?_⟩
   rw [e2] at h1
   have h3:q=f.1 * (w1:Rat):=by
    have:=congrArg (fun l=>l[1]?) h1
    exact Option.some.inj this
   have qp:=kp q (List.mem_of_getElem? hq)
   have fp:=(small f (List.mem_of_getElem? hf)).2.2.2.2
   have w1p:0<(w1:Rat):=by
    rcases Classical.em (0<(w1:Rat)) with z | z
    ·exact z
    ·exfalso
     have:(w1:Rat)≤0:=by grind
     have h4:f.1 * (w1:Rat)≤f.1 * 0:=Rat.mul_le_mul_of_nonneg_left this (by grind)
     rw [←h3] at h4
     have e0:f.1 * 0=0:=by grind
     rw [e0] at h4
     grind
   exact Rat.intCast_pos.mp w1p
 refine e9 (fun σ H3=>σ=[some (.ref a),none,some (.ref D),some (.ref ra),some (.ref la)]∧d5 H2 H3) (fun N hN2=>?_) ?_
 ·subst_eqs
  refine ⟨_,.inl (SqL.of eD),_,.inl (S2.seq hS),t9 (fun h=>by lia) (fun _=>?_)⟩
  refine ⟨⟨_,SqL.of eD⟩,fun D2 hD2=>?_⟩
  refine N2 vs (fun i σ H5=>∃ o1 o2,σ=[o1,o2]∧d5 H2 H5∧H5 D2=some (.lst ((List.replicate i false).map V.bl))) ⟨_,_,rfl,d5.new hD2 _,b8⟩ (by rintro i σ H5 _ ⟨_,_,_,s5,_⟩;exact SqL.of (s5 _ _ eD)) ?_ ?_
  ·rintro i y σ H5 hy ⟨o1,o2,rfl,s5,e5⟩
   have hi:=(List.getElem?_eq_some_iff.mp hy).1
   obtain ⟨rA,s',A',rfl,hf,rsA,lA,eA,esA,elA,lAD⟩:=fm.get hy
   obtain ⟨w0,w1,q,e2,hq,esc,wp⟩:=neg hf
   have e2':A'=[w0,w1]:=e2
   subst e2'
   subst_eqs
   refine ⟨_,s5.tup eA,rfl,_,_,rfl,_,_,rfl,rfl,lA,rfl,_,SqL.of (s5 _ _ elA),_,aH1 (x:=.int w1) rfl,_,rfl,G8.mk hi e5 ?_ ⟨_,_,rfl,s5.over hD2 _,?_⟩⟩
   ·rw [List.length_map,List.length_replicate]
    exact Nat.lt_of_lt_of_le (show i<100 by lia) (by decide)
   ·rw [b8,List.replicate_succ',List.map_append,decide_eq_false (by lia)];rfl
  ·rintro σ H5 ⟨o1,o2,rfl,s5,e5⟩
   refine ⟨D2,rfl,_,SqL.of e5,t9 (fun h=>?_) (fun _=>hN2 _ _ ⟨rfl,s5⟩)⟩
   rw [List.any_replicate] at h
   simp at h
 rintro σ H3 ⟨rfl,S3⟩
 refine e9 (fun σ H4=>∃ pa ys,σ=[some (.ref a),some (.ref pa),some (.ref D),some (.ref ra),some (.ref la)]∧d5 H3 H4∧H4 pa=some (.lst ys)∧q8 H4 ys ks) (fun N hN2=>?_) ?_
 ·subst_eqs
  have eD3:=S3 _ _ eD
  refine ⟨⟨_,SqL.of eD3⟩,fun D2 hD2=>?_⟩
  refine N2 vs (fun i σ H5=>∃ o1 o2,σ=[o1,o2]∧d5 H3 H5∧∃ ys,H5 D2=some (.lst ys)∧q8 H5 ys (ks.take i)) ⟨_,_,rfl,d5.new hD2 _,[],b8,.nil⟩ (by rintro i σ H5 _ ⟨_,_,_,s5,_⟩;exact SqL.of (s5 _ _ eD3)) ?_ ?_
  ·rintro i y σ H5 hy ⟨o1,o2,rfl,s5,ys,e5,n5⟩
   have hi:=(List.getElem?_eq_some_iff.mp hy).1
   obtain ⟨rA,s',A',rfl,hf,rsA,lA,eA,esA,elA,lAD⟩:=fm.get hy
   obtain ⟨m1,m2,m3,m4,_⟩:=small _ (List.mem_of_getElem? hf)
   obtain ⟨w0,w1,q,e2,hq,esc,wp⟩:=neg hf
   have ss:=S3.trans s5
   subst_eqs
   refine ⟨_,ss.tup eA,rfl,_,_,rfl,_,_,rfl,rfl,.ref rsA,s',lA,A',rfl,⟨rsA,rfl,ss.tup esA⟩,SqL.of (ss _ _ elA),m1,m2,m3,m4,fun r' us H6 S6 f6 e6 n6=>?_⟩
   have n6':q8 H6 us [0,q]:=by rw [←esc];exact n6
   obtain ⟨p1,hp1,ep1⟩:=n6'.get (i:=1) rfl
   have e6D:=S6 _ _ e5
   refine ⟨r',rfl,_,SqL.of e6,.ref p1,F7 (j:=1) hp1,G8.mk hi e6D ?_ ⟨_,_,rfl,(s5.trans S6).over hD2 _,_,b8,?_⟩⟩
   ·rw [n5.length,List.length_take]
    exact Nat.lt_of_le_of_lt (show _≤100 by lia) (by decide)
   ·rw [List.take_succ,hq]
    exact ((n5.mono S6.tups).append (.cons ep1 .nil)).mono (ac8.lst e6D)
  ·rintro σ H5 ⟨o1,o2,rfl,s5,ys,e5,n5⟩
   rw [lvs,lfs,List.take_length] at n5
   exact hN2 _ _ ⟨D2,ys,rfl,s5,e5,n5⟩
 rintro σ H4 ⟨pa,ys,rfl,S4,epa,nys⟩
 subst_eqs
 have ss:=S3.trans S4
 refine ⟨.ref ra,s1,la,A1,rfl,⟨ra,rfl,ss.tup era⟩,SqL.of (ss _ _ ela),B6 b1.d,B6 b1.n,fun v hv=>B6 (bA v hv),?_,fun r6 us H6 S6 f6 e6 n6=>?_⟩
 ·have:=congrArg List.length eL
  rw [Q3] at this
  rw [this];show 1≤100;decide
 rw [eL] at n6
 obtain ⟨p0,hp0,ep0⟩:=n6.get (i:=0) rfl
 refine ⟨r6,rfl,_,SqL.of e6,.ref p0,F7 (j:=0) hp0,by decide,fun p hp=>?_⟩
 have X:=d5.new hp (.tup [.str "parts",.ref pa,.ref p0])
 exact k p pa p0 ys _ (S2.trans (ss.trans (S6.trans X))) b8 (X _ _ (S6 _ _ epa)) (nys.mono (S6.trans X).tups) (X _ _ ep0)
end
def NK (kd:Int) (q:Rat):Prop:=if kd=2 then BdN 40 q else if kd=0 then OvB 60 10 q else OvB 1 4 q
theorem bx1 {t d:Int} (h1:1≤d) (h6:d≤6) (h:t.natAbs≤9):OvB 60 10 (Rat.divInt t d):=by
 have h0:d=1∨d=2∨d=3∨d=4∨d=5∨d=6:=by lia
 rcases h0 with rfl | rfl | rfl | rfl | rfl | rfl
 ·exact ⟨t * 60,(Rat.divInt_eq_divInt_iff (by decide) (by decide)).mpr (by simp),by omega⟩
 ·exact ⟨t * 30,(Rat.divInt_eq_divInt_iff (by decide) (by decide)).mpr (by lia),by omega⟩
 ·exact ⟨t * 20,(Rat.divInt_eq_divInt_iff (by decide) (by decide)).mpr (by lia),by omega⟩
 ·exact ⟨t * 15,(Rat.divInt_eq_divInt_iff (by decide) (by decide)).mpr (by lia),by omega⟩
 ·exact ⟨t * 12,(Rat.divInt_eq_divInt_iff (by decide) (by decide)).mpr (by lia),by omega⟩
 ·exact ⟨t * 10,(Rat.divInt_eq_divInt_iff (by decide) (by decide)).mpr (by lia),by omega⟩
theorem ov1 {t:Int} (h:t.natAbs≤9):OvB 1 4 (Rat.divInt t 1):=⟨t,rfl,by omega⟩
theorem NK.ovb0 {q:Rat} (h:NK 0 q):OvB 60 10 q:=by unfold NK at h;rw [if_neg (by decide),if_pos rfl] at h;exact h
theorem NK.ovb1 {q:Rat} (h:NK 1 q):OvB 1 4 q:=by unfold NK at h;rw [if_neg (by decide),if_neg (by decide)] at h;exact h
theorem NK.bd2 {q:Rat} (h:NK 2 q):BdN 40 q:=by unfold NK at h;rw [if_pos rfl] at h;exact h
theorem bx7 {t b:Int} (hb:b≠0) (h1:t.natAbs≤9) (h2:b.natAbs≤7):BdN 4 (Rat.divInt t b):=by
 have:=K7 (t:=t) hb
 exact ⟨Nat.lt_of_le_of_lt this.1 (by omega),Nat.lt_of_le_of_lt this.2 (by omega)⟩
section
variable {P:Program} {w:World} {K:PySem.W.Frag} {mg:Str→Option Value} {base:Heap}
def aA1:Sp:=fun vs H Q _=>∃ u kd,vs=[.ref u,.int kd]∧v3 H u∧∀ r q H',NK kd q→t7 u H H'→v3 H' u→H' r=some (.tup (t8 q))→Q (.ref r) H'
set_option maxHeartbeats 0 in
theorem ar4 {f fd fl:Addr} (d:Df K mg "_law_number" F0 ["_law_urn_here","_law_kind_here"] f) (G__law_draw:Def P w K mg base CX0 1 "_law_draw" fd ["_law_urn_here","_law_many"] O4) (G__law_low:Def P w K mg base CX0 1 "_law_low" fl ["_law_top","_law_bottom"] aA2) (n_int:mg "int" = none):Def P w K mg base CX0 2 "_law_number" f ["_law_urn_here","_law_kind_here"] aA1:=by
 refine d.ok (N:=["_law_urn_here","_law_kind_here","_law_top"]) ad7 (fun vs H Q E ⟨u,kd,h,_⟩=>by rw [h];rfl) (fun cdv A outer s H vs Q E hr h=>?_)
 obtain ⟨u,kd,rfl,hu,k⟩:=h
 refine ⟨_,(b9 (A0 (j3 aj9 (pv 1) d4 (j6 _)) (b9 (i7 (i:=2) ad7.nd rfl (Or.inl rfl) (g6 L7 (g6 w8 (d9 G__law_draw hr (b6 (pv 0) (b6 (g6 ad9 d4 d4) b7)) i5) (g6 ad9 d4 d4)) (d9 G__law_draw hr (b6 (pv 0) (b6 (g6 ad9 d4 d4) b7)) i5)))
   (d7 (g8 (d9 G__law_low hr (b6 (g6 w8 (pv 2) (j8 u7 (t6 (b6 d4 (b6 (Y3 O2 d4) b7))) (d9 G__law_draw hr (b6 (pv 0) (b6 d4 b7)) i5) (fun _ _=>rfl))) (b6 (g6 L7 d4 (g6 w8 (d9 G__law_draw hr (b6 (pv 0) (b6 (g6 ad9 d4 d4) b7)) i5) (g6 ad9 d4 d4))) b7)) i5)))) m8)
   (d7 (g8 (d9 G__law_low hr (b6 (g6 N3 (d9 G__law_draw hr (b6 (pv 0) (b6 d4 b7)) i5) d4) (b6 (g6 L7 d4 (g6 w8 (d9 G__law_draw hr (b6 (pv 0) (b6 d4 b7)) i5) (G3 aY2 rfl n_int (by decide +kernel) (b6 (W6 aj9 (pv 1) d4 (j6 _)) b7)))) b7)) i5)))),?_⟩
 rw [show start ["_law_urn_here","_law_kind_here","_law_top"] [.ref u,.int kd]=[some (.ref u),some (.int kd),none] from rfl]
 have e10:(10:Int) ^ Int.toNat 6=1000000:=by decide
 simp! [O4,aK6]
 refine t9 (fun hk2=>?_) (fun hk2=>?_)
 ·refine ⟨⟨by decide,by decide,by decide⟩,hu,by decide,by decide,fun r2 H2 a2 b2 s2 u2=>?_⟩
  refine ⟨⟨by decide,by decide,by decide⟩,aM1 (by decide),⟨by decide,by decide,by decide⟩,u2,by decide,by decide,fun r3 H3 a3 b3 s3 u3=>?_⟩
  refine ⟨by decide,fun l hl=>⟨af1 u3 hl,by decide,by decide,fun r4 H4 a4 b4 s4 u4=>?_⟩⟩
  have e:=s4 l _ b8 (X9 u3 hl)
  have b2':r2<1000000:=b2
  have b3':r3<1000000:=b3
  have sx:t7 u H H4:=s2.trans (s3.trans (t7.trans (d5.x (d5.new hl _) u) s4))
  have fin:∀ sg:Int,sg=1∨sg = -1→(bw0 10 6∧v3 H4 u∧0<(10:Int) ^ Int.toNat 6∧(10:Int) ^ Int.toNat 6<2 ^ 40∧∀ (r:Int) (H':Hp),0≤r→r<10 ^ Int.toNat 6→t7 u H4 H'→v3 H' u →
    bw0 10 6∧IntMulOk r (10 ^ Int.toNat 6)∧aA2 [V.int ((r2 * 10 ^ Int.toNat 6+r3) * sg),V.int (1+r * 10 ^ Int.toNat 6)] H' Q E0):=by
   intro sg hsg
   refine ⟨⟨by decide,by decide,by decide⟩,u4,by decide,by decide,fun r5 H5 a5 b5 s5 u5=>⟨⟨by decide,by decide,by decide⟩,aM1 (by decide),?_⟩⟩
   rw [e10] at b5 ⊢
   refine ⟨_,_,rfl,by lia,Nat.lt_of_lt_of_le (show (1+r5 * 1000000).natAbs<2 ^ 64 by lia) (d6 (by decide)),fun r H' sm hr'=>?_⟩
   refine k r _ H' (by unfold NK;rw [if_pos hk2];refine (bw7 (by omega) ?_ (by lia)).bdN;rcases hsg with h | h <;> subst h <;> lia) (sx.trans (s5.trans (d5.x sm u))) (d5.urn sm u5) hr'
  have h3:r4=0∨r4=1:=by lia
  rcases h3 with h | h <;> subst h
  ·exact ⟨_,SqL.of e,_,rfl,_,rfl,aM1 (by decide),fin 1 (.inl rfl)⟩
  ·exact ⟨_,SqL.of e,_,rfl,_,rfl,aM1 (by decide),fin (-1) (.inr rfl)⟩
 ·refine ⟨hu,by decide,by decide,fun r2 H2 a2 b2 s2 u2=>⟨u2,by decide,by decide,fun r3 H3 a3 b3 s3 u3=>⟨bs9 (by lia),?_⟩⟩⟩
  have hz:∃ z:Int,z=r3 * (if kd=0 then 1 else 0)∧0≤z∧z≤5∧(kd≠0→z=0):=by
   refine ⟨_,rfl,?_,?_,?_⟩
   ·split <;> lia
   ·split <;> lia
   ·intro h;rw [if_neg h,Int.mul_zero]
  obtain ⟨z,ez,z0,z6,zk⟩:=hz
  rw [←ez]
  refine ⟨_,_,rfl,by lia,Nat.lt_of_lt_of_le (show (1+z).natAbs<2 ^ 64 by omega) (d6 (by decide)),fun r H' sm hr'=>?_⟩
  exact k r _ H' (by
   unfold NK
   rw [if_neg hk2]
   by_cases h0:kd=0
   ·rw [if_pos h0];exact bx1 (by lia) (by lia) (by lia)
   ·rw [if_neg h0,zk h0];exact ov1 (by omega)) (s2.trans (s3.trans (d5.x sm u))) (d5.urn sm u3) hr'
def at4:Sp:=fun vs H Q _=>∃ u kd,vs=[.ref u,.int kd]∧v3 H u∧∀ r q H',NK kd q→q≠0→t7 u H H'→v3 H' u→H' r=some (.tup (t8 q))→Q (.ref r) H'
set_option maxHeartbeats 0 in
theorem av1 {f fd fl:Addr} (d:Df K mg "_law_other" K2 ["_law_urn_here","_law_kind_here"] f) (G__law_draw:Def P w K mg base CX0 1 "_law_draw" fd ["_law_urn_here","_law_many"] O4) (GD__law_number:Def P w K mg base CX0 2 "_law_number" fl ["_law_urn_here","_law_kind_here"] aA1):Def P w K mg base CX0 3 "_law_other" f ["_law_urn_here","_law_kind_here"] at4:=by
 refine d.ok (N:=["_law_urn_here","_law_kind_here","_law_found"]) ag7 (fun vs H Q E ⟨u,kd,h,_⟩=>by rw [h];rfl) (fun cdv A outer s H vs Q E hr h=>?_)
 obtain ⟨u,kd,rfl,hu,k⟩:=h
 have G__law_number:=GD__law_number
 refine ⟨_,(b9 (i7 (i:=2) ag7.nd rfl (Or.inl rfl) (d9 G__law_number hr (b6 (pv 0) (b6 (pv 1) b7)) i5))
   (b9 (A0 (j3 aj9 (j8 p8 (pv 2) d4 (fun _ _=>rfl)) d4 (j6 _)) (d7 (g8 (j9 (b6 (g6 L7 d4 (d9 G__law_draw hr (b6 (pv 0) (b6 d4 b7)) i5)) (b6 d4 b7))))) m8)
   (d7 (g8 (pv 2))))),?_⟩
 rw [show start ["_law_urn_here","_law_kind_here","_law_found"] [.ref u,.int kd]=[some (.ref u),some (.int kd),none] from rfl]
 simp! [O4]
 refine ⟨u,kd,rfl,hu,fun r q H1 sm s1 u1 e1=>?_⟩
 refine ⟨r,rfl,_,SqT.of e1,_,at0 q,rfl,t9 (fun _=>?_) (fun hn=>?_)⟩
 ·refine ⟨u1,by decide,by decide,fun r2 H2 a2 b2 s2 u2=>⟨y7,fun l hl=>?_⟩⟩
  have hd:=ac2 (n:=1+r2) (d:=1) (by decide) (by simp)
  refine k l (Rat.divInt (1+r2) 1) _ (by
   unfold NK
   split
   ·exact (bx7 (by decide) (by lia) (by decide)).mono (by decide)
   ·split
    ·exact bx1 (by decide) (by decide) (by omega)
    ·exact ov1 (by lia)) ?_ (s1.trans (s2.trans (d5.x (d5.new hl _) u))) (af1 u2 hl) ?_
  ·intro z
   rw [z] at hd
   have:(0:Rat).num=0:=rfl
   omega
  ·rw [b8]
   unfold t8
   rw [hd.1,hd.2]
 ·refine k r q H1 sm (fun z=>hn ?_) s1 u1 e1
  rw [z];rfl
end
end R
set_option maxRecDepth 100000
local macro_rules | `(tactic| simp_wf)=>`(tactic| first | rfl | decide | exact .inl rfl | (intro _;rfl))
namespace R
open PySem L2 PyProof.Rows
theorem aT1 {B W:Nat} {q:Rat} (h:OvB B W q):OvB B W (-q):=by
 obtain ⟨v,rfl,b⟩:=h
 exact ⟨-v,by rw [Rat.neg_divInt],by rw [Int.natAbs_neg];exact b⟩
theorem NK.neg {kd:Int} {q:Rat} (h:NK kd q):NK kd (-q):=by
 unfold NK at h ⊢
 split at h
 ·rename_i z
  rw [if_pos z]
  exact ⟨by show (-q.num).natAbs<_;rw [Int.natAbs_neg];exact h.n,h.d⟩
 ·rename_i z
  rw [if_neg z]
  split at h
  ·rename_i y;rw [if_pos y];exact aT1 h
  ·rename_i y;rw [if_neg y];exact aT1 h
theorem bs7 {kd:Int} {q:Rat} (h:NK kd q) (q0:q≠0):∃ q',[V.int (if q.num<0 then -q.num else q.num),V.int q.den]=t8 q'∧NK kd q'∧0<q':=by
 have n0:q.num≠0:=fun z=>q0 (Rat.num_eq_zero.mp z)
 by_cases z:q.num<0
 ·refine ⟨-q,?_,h.neg,at9 (by show 0 < -q.num;omega)⟩
  show _=[V.int (-q.num),V.int q.den]
  rw [if_pos z]
 ·refine ⟨q,?_,h,at9 (by omega)⟩
  show _=[V.int q.num,V.int q.den]
  rw [if_neg z]
def dI (t b:Int):D:=.tup [.v (.int t),.v (.int b)]
def aR6 (t b:Int):List D:=[dI 0 1,dI (0 - t) b,dI (2 * t) (2 * b),.tup [.v (.bl true),.v (.int 1)],dI 1 0,.v .non,.v (.int 1),.v (.str "1"),.lst [.v (.int 1),.v (.int 1)],dI 1 (-2),.tup [.v (.int 1)],.tup [],.tup [.v (.int 1),.v (.bl true)],.tup [.v (.int t),.v (.int b),.v (.int 1)]]
theorem bv0 {q:Rat} (hq:0<q.num) (hb:q.num.natAbs<2 ^ 5000) (hd:q.den<2 ^ 5000) {d:D} (h:d∈aR6 q.num q.den):R7 d=false∧P7 d:=by
 have dp:=p9 q
 have bt:∀ (t b:Int),t.natAbs<2 ^ 6000→P7 (dI t b):=fun t b hh t' b' e=>by
  unfold dI at e
  injection e with e
  injection e with e1 e2
  injection e1 with e1
  injection e1 with e1
  rw [←e1];exact .inl hh
 have two:∀ {x:Nat},x<2 ^ 5000→2 * x<2 ^ 6000:=fun {x} hx=>by
  have:2 * x<2 ^ 1 * 2 ^ 5000:=by rw [Nat.pow_one];lia
  rw [←Nat.pow_add] at this
  exact Nat.lt_of_lt_of_le this (d6 (by decide))
 unfold aR6 at h
 simp only [List.mem_cons,List.not_mem_nil,or_false] at h
 have triv:∀ {ds:List D},ds.length≠2→P7 (.tup ds):=fun {ds} hh t' b' e=>by
  injection e with e
  rw [e] at hh
  exact absurd rfl hh
 rcases h with h | h | h | h | h | h | h | h | h | h | h | h | h | h <;> subst h
 ·exact ⟨by decide,bt _ _ (Nat.two_pow_pos _)⟩
 ·refine ⟨?_,bt _ _ (by rw [show (0 - q.num).natAbs=q.num.natAbs by simp];exact B6 hb)⟩
  show (T3 _ && decide (0<0 - q.num))=false
  rw [decide_eq_false (by omega),Bool.and_false]
 ·refine ⟨?_,bt _ _ (by rw [Int.natAbs_mul];exact two hb)⟩
  show (T3 _ && _)=false
  have:T3 (dI (2 * q.num) (2 * q.den))=false:=by
   cases e:T3 (dI (2 * q.num) (2 * q.den)) with
   | false=>rfl
   | true=>
    exfalso
    obtain ⟨p,hp⟩:=aG8 e
    unfold dI w9 at hp
    injection hp with hp
    injection hp with h1 h2
    injection h2 with h2 _
    injection h1 with h1
    injection h2 with h2
    injection h1 with h1
    injection h2 with h2
    have red:=p.reduced
    have:2 ∣ Nat.gcd p.num.natAbs p.den:=Nat.dvd_gcd ⟨q.num.natAbs,by rw [←h1,Int.natAbs_mul];rfl⟩ ⟨q.den,by lia⟩
    rw [red] at this
    lia
  show (T3 (dI (2 * q.num) (2 * q.den)) && _)=false
  rw [this];rfl
 ·exact ⟨rfl,fun t' b' e=>by injection e with e;injection e with e1 e2;cases e1⟩
 ·exact ⟨by decide,bt _ _ (B6 (show (1:Int).natAbs<2 ^ 1 by decide))⟩
 ·exact ⟨rfl,fun t' b' e=>by cases e⟩
 ·exact ⟨rfl,fun t' b' e=>by cases e⟩
 ·exact ⟨rfl,fun t' b' e=>by cases e⟩
 ·exact ⟨rfl,fun t' b' e=>by cases e⟩
 ·exact ⟨by decide,bt _ _ (B6 (show (1:Int).natAbs<2 ^ 1 by decide))⟩
 ·exact ⟨rfl,triv (by decide)⟩
 ·exact ⟨rfl,triv (by decide)⟩
 ·exact ⟨rfl,fun t' b' e=>by injection e with e;injection e with e1 e2;injection e2 with e2 _;cases e2⟩
 ·exact ⟨rfl,triv (show 3≠2 by decide)⟩
section
variable {P:Program} {w:World} {K:PySem.W.Frag} {mg:Str→Option Value} {base:Heap}
def aE7:Sp:=fun vs H Q _=>∃ u kd,vs=[.ref u,.int kd]∧v3 H u∧∀ r q H',NK kd q→0<q→t7 u H H'→v3 H' u→H' r=some (.tup (t8 q))→Q (.ref r) H'
abbrev K3:Stmt:=top 91
theorem ag8:i8 ["_law_urn_here","_law_kind_here","_law_found"] ["_law_urn_here","_law_kind_here"] (d3 K3):=by and_intros
set_option maxHeartbeats 0 in
theorem ay9 {f f1:Addr} (d:Df K mg "_law_above" K3 ["_law_urn_here","_law_kind_here"] f) (GD__law_other:Def P w K mg base CX0 3 "_law_other" f1 ["_law_urn_here","_law_kind_here"] at4) (n_abs:mg "abs" = none):Def P w K mg base CX0 4 "_law_above" f ["_law_urn_here","_law_kind_here"] aE7:=by
 refine d.ok (N:=["_law_urn_here","_law_kind_here","_law_found"]) ag8 (by rintro vs H Q E ⟨_,_,h,_⟩;rw [h];rfl) (fun cdv A outer s H vs Q E hr h=>?_)
 obtain ⟨u,kd,rfl,hu,k⟩:=h
 have G__law_other:=GD__law_other
 refine ⟨_,(b9 (i7 (i:=2) ag8.nd rfl (Or.inl rfl) (d9 G__law_other hr (b6 (pv 0) (b6 (pv 1) b7)) i5))
   (d7 (g8 (j9 (b6 (d8 Z0 rfl n_abs (by decide +kernel) (b6 (j8 p8 (pv 2) d4 (fun _ _=>rfl)) b7)) (b6 (j8 p8 (pv 2) d4 (fun _ _=>rfl)) b7)))))),?_⟩
 rw [show start ["_law_urn_here","_law_kind_here","_law_found"] [.ref u,.int kd]=[some (.ref u),some (.int kd),none] from rfl]
 subst_eqs
 refine ⟨u,kd,rfl,hu,fun r q H1 nk q0 s1 u1 e1=>?_⟩
 obtain ⟨q',e',n',p'⟩:=bs7 nk q0
 refine ⟨r,rfl,_,SqT.of e1,_,at0 q,_,rfl,r,rfl,_,SqT.of e1,_,at1 q,y7,fun p hp=>?_⟩
 refine k p q' _ n' p' (s1.trans (d5.x (d5.new hp _) u)) (af1 u1 hp) ?_
 rw [b8,e']
def aj1 (K:PySem.W.Frag):Sp:=fun vs H Q _=>∃ v l dn dl,vs=[v,l]∧IsD K H v dn∧IsD K H l dl∧P7 dl∧(∀ ds,dn = .lst ds→ds.length≤200∧∀ d∈ds,P7 d)∧(K9 dn dl=false→∀ t H',d5 H H'→H' t=some (.tup [.str "refused",.str "parts"])→Q (.ref t) H') ∧
 (K9 dn dl=true→∃ (a al:Addr) (xs:List V) (ks:List Rat) (c0:Rat) (cc:Nat),v = .ref a∧l = .ref al∧SqL K H a xs∧q8 H xs ks∧H al=some (.tup (t8 c0))∧O0 cc (pR ks) [c0] ∧
  ∀ r zs ps H',d5 H H'→H r=none→H' r=some (.lst zs)→q8 H' zs ps→A7 ps ps.length→qp ps=(fld (pR ks) [c0] (pR ks).length).1+(fld (pR ks) [c0] (pR ks).length).2→Q (.ref r) H')
abbrev M3:Stmt:=top 100
theorem aj3:i8 ["_law_numbers","_law_last","_law_e"] ["_law_numbers","_law_last"] (d3 M3):=by and_intros
set_option maxHeartbeats 0 in
theorem aG4 {a:CAd} {f fw fg:Addr} (d:Df K mg "_law_said" M3 ["_law_numbers","_law_last"] f) (G_from_parts:Def P w K mg base (CXR P w) 6 "from_parts" fg ["parts","last"] (ap5 K a.c_NoParts)) (G__law_which:bm7 P w K mg base 1 "_law_which" fw ["_law_e"] (aE4 K a)) (x_RestError:ExT K mg "RestError" a.c_RestError) (kt:bv8 K a a.c_NoParts 7) :
  Def P w K mg base CX0 7 "_law_said" f ["_law_numbers","_law_last"] (aj1 K):=by
 refine d.ok (N:=["_law_numbers","_law_last","_law_e"]) aj3 (by rintro vs H Q E ⟨_,_,_,_,h,_⟩;rw [h];rfl) (fun cdv A outer s H vs Q E hr h=>?_)
 obtain ⟨v,l,dn,dl,rfl,hn,hl,bl,bn,k0,k1⟩:=h
 refine ⟨_,(d7 (br0 (i:=2) (C:=a.c_RestError) rfl rfl rfl aj3.nd rfl rfl rfl x_RestError.m (fun E xe pn hx=>(d7 (g8 (d9 G_from_parts hr (b6 (pv 0) (b6 (pv 1) b7)) hx)))) (fun b=>(d7 (g8 (j9 (b6 W0 (b6 (bj5 G__law_which (hr.toX.mark _) (b6 (pv 2) b7)) b7)))))))),?_⟩
 rw [show start ["_law_numbers","_law_last","_law_e"] [v,l]=[some (v),some (l),none] from rfl]
 simp! [bw3,aE4]
 exact ⟨v,l,dn,dl,rfl,hn,hl,bl,bn,fun h0 H1 s1=>⟨kt.ex,fun e he=>⟨_,rfl,e,rfl,_,7,kt,by decide,b8,fun H2 s2=>⟨y7,fun p hp=>k0 h0 p _ (s1.trans (((d5.new he _).trans s2).trans (d5.new hp _))) b8⟩⟩⟩,k1⟩
def bn6 (K:PySem.W.Frag):Sp:=fun vs H Q _=>∃ (u al:Addr) (q:Rat),vs=[.ref u,.ref al]∧v3 H u∧H al=some (.tup (t8 q))∧0<q.num∧q.num.natAbs<2 ^ 5000∧q.den<2 ^ 5000 ∧
 ∀ x dx H',t7 u H H'→v3 H' u→IsD K H' x dx→dx∈aR6 q.num q.den→Q x H'
abbrev P1:Stmt:=top 101
theorem V0:i8 ["_law_urn_here","_law_number_here","_law_odd","_law_top","_law_bottom"] ["_law_urn_here","_law_number_here"] (d3 P1):=by and_intros
set_option maxHeartbeats 0 in
theorem aL6 {f f1:Addr} (d:Df K mg "_law_bad" P1 ["_law_urn_here","_law_number_here"] f) (G__law_draw:Def P w K mg base CX0 1 "_law_draw" f1 ["_law_urn_here","_law_many"] O4):Def P w K mg base CX0 2 "_law_bad" f ["_law_urn_here","_law_number_here"] (bn6 K):=by
 refine d.ok (N:=["_law_urn_here","_law_number_here","_law_odd","_law_top","_law_bottom"]) V0 (by rintro vs H Q E ⟨_,_,_,h,_⟩;rw [h];rfl) (fun cdv A outer s H vs Q E hr h=>?_)
 obtain ⟨u,al,q,rfl,hu,hal,q0,qn,qd,k⟩:=h
 refine ⟨_,(@b9 _ _ _ _ _ (@K8 _ _ _ _ _ _ (pv 1) (show PG _ _ (P3 K 2 (p5 (n8 3) (p5 (n8 4) P4))) from by (refine B5 (n:=2) ?_ ?_ ?_ ?_;rfl;(refine g7 ?_ ?_ ?_;(exact (e8 (i:=3) V0.nd rfl (Or.inl rfl))) ;(refine g7 ?_ ?_ ?_;(exact (e8 (i:=4) V0.nd rfl (Or.inl rfl))) ;(exact v9) ;rfl) ;rfl) ;rfl;rfl)) (by simp_wf) (by simp_wf) (by simp_wf)) (@b9 _ _ _ _ _ (@i7 _ _ 2 _ _ _ _ V0.nd rfl (Or.inl rfl) (@t6 _ _ _ _ (@b6 _ _ _ _ _ (@j9 _ _ _ _ _ (@b6 _ _ _ _ _ d4 (@b6 _ _ _ _ _ d4 b7 (by simp_wf)) (by simp_wf))) (@b6 _ _ _ _ _ (@j9 _ _ _ _ _ (@b6 _ _ _ _ _ (@g6 _ _ _ _ _ _ _ _ N3 d4 (pv 3)) (@b6 _ _ _ _ _ (pv 4) b7 (by simp_wf)) (by simp_wf))) (@b6 _ _ _ _ _ (@j9 _ _ _ _ _ (@b6 _ _ _ _ _ (@g6 _ _ _ _ _ _ _ _ w8 d4 (pv 3)) (@b6 _ _ _ _ _ (@g6 _ _ _ _ _ _ _ _ w8 d4 (pv 4)) b7 (by simp_wf)) (by simp_wf))) (@b6 _ _ _ _ _ (@j9 _ _ _ _ _ (@b6 _ _ _ _ _ G6 (@b6 _ _ _ _ _ d4 b7 (by simp_wf)) (by simp_wf))) (@b6 _ _ _ _ _ (@j9 _ _ _ _ _ (@b6 _ _ _ _ _ d4 (@b6 _ _ _ _ _ d4 b7 (by simp_wf)) (by simp_wf))) (@b6 _ _ _ _ _ aO9 (@b6 _ _ _ _ _ d4 (@b6 _ _ _ _ _ W0 (@b6 _ _ _ _ _ (@t6 _ _ _ _ (@b6 _ _ _ _ _ d4 (@b6 _ _ _ _ _ d4 b7 (by simp_wf)) (by simp_wf))) b7 (by simp_wf)) (by simp_wf)) (by simp_wf)) (by simp_wf)) (by simp_wf)) (by simp_wf)) (by simp_wf)) (by simp_wf)) (by simp_wf))) (by simp_wf) (by simp_wf)) (@b9 _ _ _ _ _ (@i7 _ _ 2 _ _ _ _ V0.nd rfl (Or.inl rfl) (@g6 _ _ _ _ _ _ _ _ aa3 (pv 2) (@t6 _ _ _ _ (@b6 _ _ _ _ _ (@j9 _ _ _ _ _ (@b6 _ _ _ _ _ d4 (@b6 _ _ _ _ _ (@Y3 _ _ _ _ _ _ O2 d4) b7 (by simp_wf)) (by simp_wf))) (@b6 _ _ _ _ _ (@j9 _ _ _ _ _ (@b6 _ _ _ _ _ d4 b7 (by simp_wf))) (@b6 _ _ _ _ _ (@j9 _ _ _ _ _ b7) (@b6 _ _ _ _ _ (@j9 _ _ _ _ _ (@b6 _ _ _ _ _ d4 (@b6 _ _ _ _ _ G6 b7 (by simp_wf)) (by simp_wf))) (@b6 _ _ _ _ _ (@j9 _ _ _ _ _ (@b6 _ _ _ _ _ (pv 3) (@b6 _ _ _ _ _ (pv 4) (@b6 _ _ _ _ _ d4 b7 (by simp_wf)) (by simp_wf)) (by simp_wf))) b7 (by simp_wf)) (by simp_wf)) (by simp_wf)) (by simp_wf)) (by simp_wf)))) (by simp_wf) (by simp_wf)) (@d7 _ _ _ (@g8 _ _ _ _ (@j8 _ _ _ _ _ _ _ u7 (pv 2) (@d9 _ _ _ _ _ _ _ _ _ _ _ _ _ _ G__law_draw hr (@b6 _ _ _ _ _ (pv 0) (@b6 _ _ _ _ _ d4 b7 (by simp_wf)) (by simp_wf)) i5 (by simp_wf) (by simp_wf) (by simp_wf) (by simp_wf) (by simp_wf)) (fun _ _=>rfl))))))),?_⟩
 rw [show start ["_law_urn_here","_law_number_here","_law_odd","_law_top","_law_bottom"] [.ref u,.ref al]=[some (.ref u),some (.ref al),none,none,none] from rfl]
 have hqn:q.num.natAbs<2 ^ 6000:=B6 qn
 have hqd:(q.den:Int).natAbs<2 ^ 6000:=by rw [Int.natAbs_natCast];exact B6 qd
 refine e9 (fun σ H1=>σ=[some (.ref u),some (.ref al),none,some (.int q.num),some (.int q.den)]∧H1=H) (fun N hN=>?_) ?_
 ·subst_eqs
  exact ⟨_,SqT.of hal,rfl,_,_,rfl,_,_,rfl,rfl,hN _ _ ⟨rfl,rfl⟩⟩
 rintro σ H1 ⟨rfl,rfl⟩
 refine e9 (fun σ H2=>∃ aw vs,σ=[some (.ref u),some (.ref al),some (.ref aw),some (.int q.num),some (.int q.den)]∧d5 H1 H2∧H2 aw=some (.lst vs)∧N4 K H2 vs ((aR6 q.num q.den).take 9)) (fun N hN=>?_) ?_
 ·subst_eqs
  refine ⟨(by decide),fun z0 hz0=>?_⟩
  have sz0:=d5.new hz0 (.tup [.int 0,.int 1])
  have ez0:(upd H1 z0 (.tup [.int 0,.int 1])) z0=some (.tup [.int 0,.int 1]):=b8
  have fz0:=hz0
  generalize upd H1 z0 (.tup [.int 0,.int 1])=Gz0 at sz0 ez0 ⊢
  refine ⟨(by decide),fun z1 hz1=>?_⟩
  have sz1:=d5.new hz1 (.tup [.int (0 - q.num),.int q.den])
  have ez1:(upd Gz0 z1 (.tup [.int (0 - q.num),.int q.den])) z1=some (.tup [.int (0 - q.num),.int q.den]):=b8
  have fz1:=hz1
  generalize upd Gz0 z1 (.tup [.int (0 - q.num),.int q.den])=Gz1 at sz1 ez1 ⊢
  refine ⟨N6 (m:=3) (n:=6000) (by decide) hqn,N6 (m:=3) (n:=6000) (by decide) hqd,(by decide),fun z2 hz2=>?_⟩
  have sz2:=d5.new hz2 (.tup [.int (2 * q.num),.int (2 * q.den)])
  have ez2:(upd Gz1 z2 (.tup [.int (2 * q.num),.int (2 * q.den)])) z2=some (.tup [.int (2 * q.num),.int (2 * q.den)]):=b8
  have fz2:=hz2
  generalize upd Gz1 z2 (.tup [.int (2 * q.num),.int (2 * q.den)])=Gz2 at sz2 ez2 ⊢
  refine ⟨(by decide),fun z3 hz3=>?_⟩
  have sz3:=d5.new hz3 (.tup [.bl true,.int 1])
  have ez3:(upd Gz2 z3 (.tup [.bl true,.int 1])) z3=some (.tup [.bl true,.int 1]):=b8
  have fz3:=hz3
  generalize upd Gz2 z3 (.tup [.bl true,.int 1])=Gz3 at sz3 ez3 ⊢
  refine ⟨(by decide),fun z4 hz4=>?_⟩
  have sz4:=d5.new hz4 (.tup [.int 1,.int 0])
  have ez4:(upd Gz3 z4 (.tup [.int 1,.int 0])) z4=some (.tup [.int 1,.int 0]):=b8
  have fz4:=hz4
  generalize upd Gz3 z4 (.tup [.int 1,.int 0])=Gz4 at sz4 ez4 ⊢
  refine ⟨(by decide),fun z5 hz5=>?_⟩
  have sz5:=d5.new hz5 (.lst [.int 1,.int 1])
  have ez5:(upd Gz4 z5 (.lst [.int 1,.int 1])) z5=some (.lst [.int 1,.int 1]):=b8
  have fz5:=hz5
  generalize upd Gz4 z5 (.lst [.int 1,.int 1])=Gz5 at sz5 ez5 ⊢
  refine ⟨(by decide),fun z6 hz6=>?_⟩
  have sz6:=d5.new hz6 (.lst [.ref z0,.ref z1,.ref z2,.ref z3,.ref z4,.non,.int 1,.str "1",.ref z5])
  have ez6:(upd Gz5 z6 (.lst [.ref z0,.ref z1,.ref z2,.ref z3,.ref z4,.non,.int 1,.str "1",.ref z5])) z6=some (.lst [.ref z0,.ref z1,.ref z2,.ref z3,.ref z4,.non,.int 1,.str "1",.ref z5]):=b8
  have fz6:=hz6
  generalize upd Gz5 z6 (.lst [.ref z0,.ref z1,.ref z2,.ref z3,.ref z4,.non,.int 1,.str "1",.ref z5])=Gz6 at sz6 ez6 ⊢
  have tz5:=sz6
  have tz4:=sz5.trans tz5
  have tz3:=sz4.trans tz4
  have tz2:=sz3.trans tz3
  have tz1:=sz2.trans tz2
  have tz0:=sz1.trans tz1
  have tzA:=sz0.trans tz0
  exact hN _ _ ⟨z6,_,rfl,tzA,ez6,(.cons (show IsD K _ (.ref z0) (dI 0 1) from .tup (SqT.of (tz0 _ _ ez0)) (.cons (.v rfl) (.cons (.v rfl) .nil))) (.cons (show IsD K _ (.ref z1) (dI (0 - q.num) q.den) from .tup (SqT.of (tz1 _ _ ez1)) (.cons (.v rfl) (.cons (.v rfl) .nil))) (.cons (show IsD K _ (.ref z2) (dI (2 * q.num) (2 * q.den)) from .tup (SqT.of (tz2 _ _ ez2)) (.cons (.v rfl) (.cons (.v rfl) .nil))) (.cons (.tup (SqT.of (tz3 _ _ ez3)) (.cons (.v rfl) (.cons (.v rfl) .nil))) (.cons (show IsD K _ (.ref z4) (dI 1 0) from .tup (SqT.of (tz4 _ _ ez4)) (.cons (.v rfl) (.cons (.v rfl) .nil))) (.cons (.v rfl) (.cons (.v rfl) (.cons (.v rfl) (.cons (.lst (SqL.of (tz5 _ _ ez5)) (.cons (.v rfl) (.cons (.v rfl) .nil))) .nil)))))))))⟩
 rintro σ H2 ⟨aw,vs,rfl,S2,eaw,iaw⟩
 refine e9 (fun σ H3=>∃ aw vs,σ=[some (.ref u),some (.ref al),some (.ref aw),some (.int q.num),some (.int q.den)]∧d5 H1 H3∧aw≠u∧H3 aw=some (.lst vs)∧N4 K H3 vs (aR6 q.num q.den)) (fun N hN=>?_) ?_
 ·subst_eqs
  refine ⟨(by decide),fun y0 hy0=>?_⟩
  have sy0:=d5.new hy0 (.tup [.int 1,.int (-2)])
  have ey0:(upd H2 y0 (.tup [.int 1,.int (-2)])) y0=some (.tup [.int 1,.int (-2)]):=b8
  have fy0:=hy0
  generalize upd H2 y0 (.tup [.int 1,.int (-2)])=Gy0 at sy0 ey0 ⊢
  refine ⟨(by decide),fun y1 hy1=>?_⟩
  have sy1:=d5.new hy1 (.tup [.int 1])
  have ey1:(upd Gy0 y1 (.tup [.int 1])) y1=some (.tup [.int 1]):=b8
  have fy1:=hy1
  generalize upd Gy0 y1 (.tup [.int 1])=Gy1 at sy1 ey1 ⊢
  refine ⟨(by decide),fun y2 hy2=>?_⟩
  have sy2:=d5.new hy2 (.tup [])
  have ey2:(upd Gy1 y2 (.tup [])) y2=some (.tup []):=b8
  have fy2:=hy2
  generalize upd Gy1 y2 (.tup [])=Gy2 at sy2 ey2 ⊢
  refine ⟨(by decide),fun y3 hy3=>?_⟩
  have sy3:=d5.new hy3 (.tup [.int 1,.bl true])
  have ey3:(upd Gy2 y3 (.tup [.int 1,.bl true])) y3=some (.tup [.int 1,.bl true]):=b8
  have fy3:=hy3
  generalize upd Gy2 y3 (.tup [.int 1,.bl true])=Gy3 at sy3 ey3 ⊢
  refine ⟨(by decide),fun y4 hy4=>?_⟩
  have sy4:=d5.new hy4 (.tup [.int q.num,.int q.den,.int 1])
  have ey4:(upd Gy3 y4 (.tup [.int q.num,.int q.den,.int 1])) y4=some (.tup [.int q.num,.int q.den,.int 1]):=b8
  have fy4:=hy4
  generalize upd Gy3 y4 (.tup [.int q.num,.int q.den,.int 1])=Gy4 at sy4 ey4 ⊢
  refine ⟨(by decide),fun y5 hy5=>?_⟩
  have sy5:=d5.new hy5 (.lst [.ref y0,.ref y1,.ref y2,.ref y3,.ref y4])
  have ey5:(upd Gy4 y5 (.lst [.ref y0,.ref y1,.ref y2,.ref y3,.ref y4])) y5=some (.lst [.ref y0,.ref y1,.ref y2,.ref y3,.ref y4]):=b8
  have fy5:=hy5
  generalize upd Gy4 y5 (.lst [.ref y0,.ref y1,.ref y2,.ref y3,.ref y4])=Gy5 at sy5 ey5 ⊢
  have ty4:=sy5
  have ty3:=sy4.trans ty4
  have ty2:=sy3.trans ty3
  have ty1:=sy2.trans ty2
  have ty0:=sy1.trans ty1
  have tyA:=sy0.trans ty0
  have l9:=iaw.length
  refine ⟨vs,tyA _ _ eaw,_,ey5,?_,fun y6 hy6=>?_⟩
  ·rw [l9];show 9+5≤sizeLine;decide
  have s6:=d5.new hy6 (.lst (vs++[.ref y0,.ref y1,.ref y2,.ref y3,.ref y4]))
  have tA:=tyA.trans s6
  refine hN _ _ ⟨y6,_,rfl,S2.trans tA,X9 (d5.urn (S2.trans tyA) hu) hy6,b8,?_⟩
  have:=(iaw.same tA).append (K:=K) (.cons (show IsD K _ (.ref y0) (dI 1 (-2)) from .tup (SqT.of (s6 _ _ (ty0 _ _ ey0))) (.cons (.v rfl) (.cons (.v rfl) .nil))) (.cons (.tup (SqT.of (s6 _ _ (ty1 _ _ ey1))) (.cons (.v rfl) .nil)) (.cons (.tup (SqT.of (s6 _ _ (ty2 _ _ ey2))) .nil) (.cons (.tup (SqT.of (s6 _ _ (ty3 _ _ ey3))) (.cons (.v rfl) (.cons (.v rfl) .nil))) (.cons (.tup (SqT.of (s6 _ _ (ty4 _ _ ey4))) (.cons (.v rfl) (.cons (.v rfl) (.cons (.v rfl) .nil)))) .nil)))):N4 K _ [.ref y0,.ref y1,.ref y2,.ref y3,.ref y4] [dI 1 (-2),.tup [.v (.int 1)],.tup [],.tup [.v (.int 1),.v (.bl true)],.tup [.v (.int q.num),.v (.int q.den),.v (.int 1)]])
  exact this
 rintro σ H3 ⟨aw,vs,rfl,S3,awu,eaw,iaw⟩
 have u3:=d5.urn S3 hu
 simp! [O4]
 refine ⟨u3,by decide,by decide,fun r H4 r0 r14 s4 u4=>?_⟩
 obtain ⟨j,rfl⟩:∃ j:Nat,r=(j:Int):=⟨r.toNat,by lia⟩
 have i4:N4 K H4 vs (aR6 q.num q.den):=Y7 s4 u3 rfl iaw
 have l3:=i4.length
 have hj:j<vs.length:=by rw [l3];show j<14;lia
 have hv:=List.getElem?_eq_getElem hj
 obtain ⟨dv,hdv,iv⟩:=i4.get hv
 exact ⟨vs,SqL.of (s4 _ _ eaw awu),_,F7 hv,k _ dv H4 ((d5.x S3 u).trans s4) u4 iv (List.mem_of_getElem? hdv)⟩
end
structure SX (X:List Addr) (H H':Hp):Prop where
 s:∀ b o,H b=some o→b ∉ X→H' b=some o
 l:∀ x∈X,∃ ys,H' x=some (.lst ys)
 l0:∀ x∈X,∃ ys,H x=some (.lst ys)
theorem aF9 {B W:Nat} {q:Rat} (B0:0<B) (hB:B<2 ^ W) (h:OvB B W q):BdN W q:=by
 obtain ⟨t,rfl,ht⟩:=h
 have le:=K7 (t:=t) (b:=(B:Int)) (by omega)
 exact ⟨Nat.lt_of_le_of_lt le.1 ht,Nat.lt_of_le_of_lt le.2 (by rw [Int.natAbs_natCast];exact hB)⟩
theorem at8 {q:Rat} (h:0<q):0<q.num:=by
 have:=(Rat.lt_iff 0 q).mp h
 have e:(0:Int) * (q.den:Int)<q.num * ((1:Nat):Int):=this
 rw [Int.zero_mul] at e;simpa using e
theorem aL9:∀ {ds:List D} {d:D},aP8 ds=true→d∈ds→noU d=true
 | [],_,_,h=>by cases h
 | e :: ds,d,n,h=>by
  simp only [aP8,Bool.and_eq_true] at n
  rcases List.mem_cons.mp h with z | z
  ·rw [z];exact n.1
  ·exact aL9 n.2 z
theorem bx4 (vs:List V) (m:Nat):al3 vs none (some (m:Int))=vs.take m:=by
 by_cases h:m≤vs.length
 ·exact aw8 vs h
 ·unfold al3
  have e1:HT.sIx vs.length 0 none=0:=by simp [HT.sIx]
  have e2:HT.sIx vs.length vs.length (some (m:Int))=vs.length:=by
   simp only [HT.sIx]
   split <;> lia
  rw [e1,e2,List.drop_zero,Nat.sub_zero,List.take_length,List.take_of_length_le (by lia)]
theorem bx5 (xs:List V) (n:Nat):al3 xs (some (n:Int)) none=xs.drop n:=by
 by_cases h:n≤xs.length
 ·exact aN0 xs h
 ·unfold al3
  have e1:HT.sIx xs.length 0 (some (n:Int))=xs.length:=by
   simp only [HT.sIx]
   split <;> omega
  have e2:HT.sIx xs.length xs.length none=xs.length:=rfl
  rw [e1,e2,List.drop_eq_nil_of_le (Nat.le_refl _),List.drop_eq_nil_of_le (by lia),List.take_nil]
theorem aV9 {ds:List D} {d dl:D} (h:d∈ds) (p:R7 d=false):K9 (.lst ds) dl=false:=by
 show (_ && ds.all R7)=false
 have:ds.all R7=false:=by
  cases e:ds.all R7 with
  | false=>rfl
  | true=>have:=List.all_eq_true.mp e d h;rw [p] at this;cases this
 rw [this,Bool.and_false]
theorem aP0 {ds:List D} {dl:D} (h:14<ds.length):K9 (.lst ds) dl=false:=by
 show (decide (ds.length≤14) && _ && _)=false
 rw [decide_eq_false (by omega)];rfl
def ao6:List D:=[dI 0 1,.v .non,.v (.int 0),dI 2 2,dI 1 0,.lst [.v (.int 1),.v (.int 1)],.tup [.v (.bl false),.v (.int 1)],dI 1 (-1)]
theorem aQ3 {dl:D} (h:dl∈ao6) (dn:D):K9 dn dl=false∧P7 dl:=by
 have key:ao6.all (fun d=>(!T3 d || eqD d (w9 0)))=true:=by decide
 have h1:=List.all_eq_true.mp key dl h
 refine ⟨?_,?_⟩
 ·cases dn with
  | v x=>rfl
  | tup l=>rfl
  | lst l=>
   show (_ && (T3 dl && !eqD dl (w9 0)) && _)=false
   simp only [Bool.or_eq_true,Bool.not_eq_true'] at h1
   rcases h1 with z | z
   ·rw [z];simp
   ·rw [z];simp
 ·intro t b e
  unfold ao6 dI at h
  simp only [List.mem_cons,List.not_mem_nil,or_false] at h
  refine .inl (Nat.lt_of_lt_of_le (show t.natAbs<2 ^ 10 from ?_) (d6 (by decide)))
  subst e
  rcases h with h | h | h | h | h | h | h | h
  all_goals first | (injection h with h;injection h with h1 h2;injection h1 with h1;injection h1 with h1;rw [h1];decide) | cases h
section
variable {P:Program} {w:World} {K:PySem.W.Frag} {mg:Str→Option Value} {base:Heap}
def ba8 (K:PySem.W.Frag):Sp:=fun vs H Q _=>∃ (u na al:Addr) (xs:List V) (ks:List Rat) (c0:Rat),vs=[.ref u,.ref na,.ref al]∧v3 H u∧LsX u H na xs ks∧H al=some (.tup (t8 c0))∧ks.length≤14∧(∀ q∈ks,BdN 40 q)∧BdN 40 c0∧∀ H',t7 u H H'→v3 H' u→Q (.bl true) H'
abbrev v5:Stmt:=top 102
theorem n9:i8 ["_law_urn_here","_law_numbers","_law_last","_law_bad_here","_law_at","_law_due","_law_more","_law_many","_law_odd"] ["_law_urn_here","_law_numbers","_law_last"] (d3 v5):=by and_intros
set_option maxHeartbeats 0 in
theorem ad2 {f f1 f2 f3 f4:Addr} (d:Df K mg "_law_refused_right" v5 ["_law_urn_here","_law_numbers","_law_last"] f) (G__law_draw:Def P w K mg base CX0 1 "_law_draw" f1 ["_law_urn_here","_law_many"] O4) (G__law_above:Def P w K mg base CX0 4 "_law_above" f2 ["_law_urn_here","_law_kind_here"] aE7) (G__law_bad:Def P w K mg base CX0 2 "_law_bad" f3 ["_law_urn_here","_law_number_here"] (bn6 K)) (G__law_said:Def P w K mg base CX0 7 "_law_said" f4 ["_law_numbers","_law_last"] (aj1 K)) (n_len:mg "len" = none) (n_tuple:mg "tuple" = none):Def P w K mg base CX0 8 "_law_refused_right" f ["_law_urn_here","_law_numbers","_law_last"] (ba8 K):=by
 refine d.ok (N:=["_law_urn_here","_law_numbers","_law_last","_law_bad_here","_law_at","_law_due","_law_more","_law_many","_law_odd"]) n9 (by rintro vs H Q E ⟨_,_,_,_,_,_,h,_⟩;rw [h];rfl) (fun cdv A outer s H vs Q E hr h=>?_)
 obtain ⟨u,na,al,xs,ks,c0,rfl,hu0,Ln,eal,l14,bks,bc,k⟩:=h
 have hu:=hr.units
 refine ⟨_,(@b9 _ _ _ _ _ (@i7 _ _ 3 _ _ _ _ n9.nd rfl (Or.inl rfl) (@d9 _ _ _ _ _ _ _ _ _ _ _ _ _ _ G__law_bad hr (@b6 _ _ _ _ _ (pv 0) (@b6 _ _ _ _ _ (@d9 _ _ _ _ _ _ _ _ _ _ _ _ _ _ G__law_above hr (@b6 _ _ _ _ _ (pv 0) (@b6 _ _ _ _ _ d4 b7 (by simp_wf)) (by simp_wf)) i5 (by simp_wf) (by simp_wf) (by simp_wf) (by simp_wf) (by simp_wf)) b7 (by simp_wf)) (by simp_wf)) i5 (by simp_wf) (by simp_wf) (by simp_wf) (by simp_wf) (by simp_wf)) (by simp_wf) (by simp_wf)) (@b9 _ _ _ _ _ (@i7 _ _ 4 _ _ _ _ n9.nd rfl (Or.inl rfl) (@d9 _ _ _ _ _ _ _ _ _ _ _ _ _ _ G__law_draw hr (@b6 _ _ _ _ _ (pv 0) (@b6 _ _ _ _ _ (@g6 _ _ _ _ _ _ _ _ L7 (@d8 _ _ _ _ _ _ _ _ _ i3 rfl n_len (by decide +kernel) (@b6 _ _ _ _ _ (pv 1) b7 (by simp_wf)) (by simp_wf) (by simp_wf) (by simp_wf) (by simp_wf)) d4) b7 (by simp_wf)) (by simp_wf)) i5 (by simp_wf) (by simp_wf) (by simp_wf) (by simp_wf) (by simp_wf)) (by simp_wf) (by simp_wf)) (@b9 _ _ _ _ _ (@i7 _ _ 5 _ _ _ _ n9.nd rfl (Or.inl rfl) (@j9 _ _ _ _ _ (@b6 _ _ _ _ _ W0 (@b6 _ _ _ _ _ W0 b7 (by simp_wf)) (by simp_wf))) (by simp_wf) (by simp_wf)) (@b9 _ _ _ _ _ (@i7 _ _ 6 _ _ _ _ n9.nd rfl (Or.inl rfl) (@g6 _ _ _ _ _ _ _ _ aa3 (@g6 _ _ _ _ _ _ _ _ aa3 (@V2 _ _ _ _ _ _ _ _ _ _ Z4 (pv 1) R4 (R3 (pv 4))) (@t6 _ _ _ _ (@b6 _ _ _ _ _ (pv 3) b7 (by simp_wf)))) (@V2 _ _ _ _ _ _ _ _ _ _ Z4 (pv 1) (R3 (pv 4)) R4)) (by simp_wf) (by simp_wf)) (@b9 _ _ _ _ _ (@A0 _ _ _ _ _ _ _ _ (@PW.pt _ _ _ (@am7 _ _ _ _ _ _ _ (@j3 _ _ _ _ _ _ _ _ ad0 (@d8 _ _ _ _ _ _ _ _ _ i3 rfl n_len (by decide +kernel) (@b6 _ _ _ _ _ (pv 1) b7 (by simp_wf)) (by simp_wf) (by simp_wf) (by simp_wf) (by simp_wf)) d4 (j6 _)) (@af7 _ _ _ _ (@j3 _ _ _ _ _ _ _ _ (aa2 hu) (@d9 _ _ _ _ _ _ _ _ _ _ _ _ _ _ G__law_said hr (@b6 _ _ _ _ _ (pv 6) (@b6 _ _ _ _ _ (pv 2) b7 (by simp_wf)) (by simp_wf)) i5 (by simp_wf) (by simp_wf) (by simp_wf) (by simp_wf) (by simp_wf)) (pv 5) (j6 _))))) (@d7 _ _ _ (@g8 _ _ _ _ G6)) m8) (@b9 _ _ _ _ _ (@i7 _ _ 7 _ _ _ _ n9.nd rfl (Or.inl rfl) (@g6 _ _ _ _ _ _ _ _ aa3 (pv 1) (@g6 _ _ _ _ _ _ _ _ au5 (@t6 _ _ _ _ (@b6 _ _ _ _ _ (@j9 _ _ _ _ _ (@b6 _ _ _ _ _ d4 (@b6 _ _ _ _ _ (@g6 _ _ _ _ _ _ _ _ L7 d4 (pv 4)) b7 (by simp_wf)) (by simp_wf))) b7 (by simp_wf))) (@g6 _ _ _ _ _ _ _ _ N3 d4 (@d8 _ _ _ _ _ _ _ _ _ i3 rfl n_len (by decide +kernel) (@b6 _ _ _ _ _ (pv 1) b7 (by simp_wf)) (by simp_wf) (by simp_wf) (by simp_wf) (by simp_wf))))) (by simp_wf) (by simp_wf)) (@b9 _ _ _ _ _ (@A0 _ _ _ _ _ _ _ _ (@j3 _ _ _ _ _ _ _ _ (aa2 hu) (@d9 _ _ _ _ _ _ _ _ _ _ _ _ _ _ G__law_said hr (@b6 _ _ _ _ _ (pv 7) (@b6 _ _ _ _ _ (pv 2) b7 (by simp_wf)) (by simp_wf)) i5 (by simp_wf) (by simp_wf) (by simp_wf) (by simp_wf) (by simp_wf)) (pv 5) (j6 _)) (@d7 _ _ _ (@g8 _ _ _ _ G6)) m8) (@b9 _ _ _ _ _ (@i7 _ _ 6 _ _ _ _ n9.nd rfl (Or.inl rfl) (@g6 _ _ _ _ _ _ _ _ aa3 (@g6 _ _ _ _ _ _ _ _ aa3 (@V2 _ _ _ _ _ _ _ _ _ _ Z4 (pv 1) R4 (R3 (pv 4))) (@t6 _ _ _ _ (@b6 _ _ _ _ _ (pv 3) b7 (by simp_wf)))) (@V2 _ _ _ _ _ _ _ _ _ _ Z4 (pv 1) (R3 (@g6 _ _ _ _ _ _ _ _ L7 (pv 4) d4)) R4)) (by simp_wf) (by simp_wf)) (@b9 _ _ _ _ _ (@A0 _ _ _ _ _ _ _ _ (@PW.pt _ _ _ (@am7 _ _ _ _ _ _ _ (@j3 _ _ _ _ _ _ _ _ (aa2 hu) (pv 1) (@t6 _ _ _ _ b7) (j6 _)) (@af7 _ _ _ _ (@j3 _ _ _ _ _ _ _ _ (aa2 hu) (@d9 _ _ _ _ _ _ _ _ _ _ _ _ _ _ G__law_said hr (@b6 _ _ _ _ _ (pv 6) (@b6 _ _ _ _ _ (pv 2) b7 (by simp_wf)) (by simp_wf)) i5 (by simp_wf) (by simp_wf) (by simp_wf) (by simp_wf) (by simp_wf)) (pv 5) (j6 _))))) (@d7 _ _ _ (@g8 _ _ _ _ G6)) m8) (@b9 _ _ _ _ _ (@i7 _ _ 8 _ _ _ _ n9.nd rfl (Or.inl rfl) (@j8 _ _ _ _ _ _ _ u7 (@t6 _ _ _ _ (@b6 _ _ _ _ _ (@G3 _ _ _ _ _ _ _ _ _ az2 rfl n_tuple (by decide +kernel) (@b6 _ _ _ _ _ (pv 1) b7 (by simp_wf)) (by simp_wf) (by simp_wf) (by simp_wf) (by simp_wf)) (@b6 _ _ _ _ _ aO9 (@b6 _ _ _ _ _ d4 (@b6 _ _ _ _ _ W0 (@b6 _ _ _ _ _ G6 (@b6 _ _ _ _ _ (@j9 _ _ _ _ _ (@b6 _ _ _ _ _ (pv 1) b7 (by simp_wf))) (@b6 _ _ _ _ _ d4 (@b6 _ _ _ _ _ W0 b7 (by simp_wf)) (by simp_wf)) (by simp_wf)) (by simp_wf)) (by simp_wf)) (by simp_wf)) (by simp_wf)) (by simp_wf))) (@d9 _ _ _ _ _ _ _ _ _ _ _ _ _ _ G__law_draw hr (@b6 _ _ _ _ _ (pv 0) (@b6 _ _ _ _ _ d4 b7 (by simp_wf)) (by simp_wf)) i5 (by simp_wf) (by simp_wf) (by simp_wf) (by simp_wf) (by simp_wf)) (fun _ _=>rfl)) (by simp_wf) (by simp_wf)) (@b9 _ _ _ _ _ (@A0 _ _ _ _ _ _ _ _ (@j3 _ _ _ _ _ _ _ _ (aa2 hu) (@d9 _ _ _ _ _ _ _ _ _ _ _ _ _ _ G__law_said hr (@b6 _ _ _ _ _ (pv 8) (@b6 _ _ _ _ _ (pv 2) b7 (by simp_wf)) (by simp_wf)) i5 (by simp_wf) (by simp_wf) (by simp_wf) (by simp_wf) (by simp_wf)) (pv 5) (j6 _)) (@d7 _ _ _ (@g8 _ _ _ _ G6)) m8) (@b9 _ _ _ _ _ (@i7 _ _ 8 _ _ _ _ n9.nd rfl (Or.inl rfl) (@j8 _ _ _ _ _ _ _ u7 (@t6 _ _ _ _ (@b6 _ _ _ _ _ (@j9 _ _ _ _ _ (@b6 _ _ _ _ _ d4 (@b6 _ _ _ _ _ d4 b7 (by simp_wf)) (by simp_wf))) (@b6 _ _ _ _ _ aO9 (@b6 _ _ _ _ _ d4 (@b6 _ _ _ _ _ (@j9 _ _ _ _ _ (@b6 _ _ _ _ _ d4 (@b6 _ _ _ _ _ d4 b7 (by simp_wf)) (by simp_wf))) (@b6 _ _ _ _ _ (@j9 _ _ _ _ _ (@b6 _ _ _ _ _ d4 (@b6 _ _ _ _ _ d4 b7 (by simp_wf)) (by simp_wf))) (@b6 _ _ _ _ _ (@t6 _ _ _ _ (@b6 _ _ _ _ _ d4 (@b6 _ _ _ _ _ d4 b7 (by simp_wf)) (by simp_wf))) (@b6 _ _ _ _ _ (@j9 _ _ _ _ _ (@b6 _ _ _ _ _ G6 (@b6 _ _ _ _ _ d4 b7 (by simp_wf)) (by simp_wf))) (@b6 _ _ _ _ _ (@j9 _ _ _ _ _ (@b6 _ _ _ _ _ d4 (@b6 _ _ _ _ _ (@Y3 _ _ _ _ _ _ O2 d4) b7 (by simp_wf)) (by simp_wf))) b7 (by simp_wf)) (by simp_wf)) (by simp_wf)) (by simp_wf)) (by simp_wf)) (by simp_wf)) (by simp_wf)) (by simp_wf))) (@d9 _ _ _ _ _ _ _ _ _ _ _ _ _ _ G__law_draw hr (@b6 _ _ _ _ _ (pv 0) (@b6 _ _ _ _ _ d4 b7 (by simp_wf)) (by simp_wf)) i5 (by simp_wf) (by simp_wf) (by simp_wf) (by simp_wf) (by simp_wf)) (fun _ _=>rfl)) (by simp_wf) (by simp_wf)) (@d7 _ _ _ (@g8 _ _ _ _ (@W6 _ _ _ _ _ _ _ _ (ae0 hu) (@d9 _ _ _ _ _ _ _ _ _ _ _ _ _ _ G__law_said hr (@b6 _ _ _ _ _ (pv 1) (@b6 _ _ _ _ _ (pv 8) b7 (by simp_wf)) (by simp_wf)) i5 (by simp_wf) (by simp_wf) (by simp_wf) (by simp_wf) (by simp_wf)) (pv 5) (j6 _)))))))))))))))),?_⟩
 rw [show start ["_law_urn_here","_law_numbers","_law_last","_law_bad_here","_law_at","_law_due","_law_more","_law_many","_law_odd"] [.ref u,.ref na,.ref al]=[some (.ref u),some (.ref na),some (.ref al),none,none,none,none,none,none] from rfl]
 have lx:=Ln.nums.length
 have bcD:P7 (w9 c0):=al7 (B6 bc.d)
 have bkD:∀ d∈ks.map w9,P7 d:=fun d hd=>by
  obtain ⟨q,hq,rfl⟩:=List.mem_map.mp hd
  exact al7 (B6 (bks q hq).d)
 have ask:∀ {Hx:Hp} {v l:V} {dn dl:D} {Q':VK},IsD K Hx v dn→IsD K Hx l dl→P7 dl→(∀ ds,dn = .lst ds→ds.length≤200∧∀ d∈ds,P7 d)→K9 dn dl=false→(∀ t H',d5 Hx H'→H' t=some (.tup [.str "refused",.str "parts"])→Q' (.ref t) H')→aj1 K [v,l] Hx Q' E0:=
  fun iv il bl bn pf kk=>⟨_,_,_,_,rfl,iv,il,bl,bn,fun _=>kk,fun z=>absurd z (by rw [pf];decide)⟩
 refine e9 (fun σ H1=>∃ x dx,σ=[some (.ref u),some (.ref na),some (.ref al),some x,none,none,none,none,none]∧t7 u H H1∧v3 H1 u∧IsD K H1 x dx∧R7 dx=false∧P7 dx∧noU dx=true) (fun N hN=>?_) ?_
 ·subst_eqs
  refine ⟨u,0,rfl,hu0,fun r q H1 nk qp s1 u1 e1=>?_⟩
  have bq:BdN 10 q:=aF9 (by decide) (by decide) nk.ovb0
  refine ⟨u,r,q,rfl,u1,e1,at8 qp,B6 bq.n,B6 bq.d,fun x dx H2 s2 u2 ix mx=>?_⟩
  obtain ⟨b1,b2⟩:=bv0 (at8 qp) (B6 bq.n) (B6 bq.d) mx
  exact hN _ _ ⟨x,dx,rfl,s1.trans s2,u2,ix,b1,b2,aL9 (ds:=aR6 q.num q.den) rfl mx⟩
 rintro σ H1 ⟨x,dx,rfl,s1,u1,ix,px,bx,nx⟩
 refine e9 (fun σ H2=>∃ n:Nat,σ=[some (.ref u),some (.ref na),some (.ref al),some x,some (.int (n:Int)),none,none,none,none]∧t7 u H H2∧v3 H2 u∧IsD K H2 x dx∧n≤ks.length) (fun N hN=>?_) ?_
 ·simp! [O4]
  have L1:=Ln.samex s1 hu0
  refine ⟨_,.inl (SqL.of L1.at'),u1,by simp,by lia,fun r H2 a0 a1 s2 u2=>?_⟩
  obtain ⟨n,rfl⟩:∃ n:Nat,r=(n:Int):=⟨r.toNat,by lia⟩
  exact hN _ _ ⟨n,rfl,s1.trans s2,u2,aB6 s2 u1 nx ix,by lia⟩
 rintro σ H2 ⟨n,rfl,s2,u2,ix2,hn⟩
 refine e9 (fun σ H3=>∃ du,σ=[some (.ref u),some (.ref na),some (.ref al),some x,some (.int (n:Int)),some (.ref du),none,none,none]∧d5 H2 H3∧H3 du=some (.tup [.str "refused",.str "parts"])) (fun N hN=>?_) ?_
 ·subst_eqs
  exact ⟨y7,fun p hp=>hN _ _ ⟨p,rfl,d5.new hp _,b8⟩⟩
 rintro σ H3 ⟨du,rfl,S3,edu⟩
 have L3:=(Ln.samex s2 hu0).same S3
 have eal3:H3 al=some (.tup (t8 c0)):=S3 _ _ (s2.tups hu0 _ _ eal)
 have ix3:=ix2.same S3
 have same:∀ {Hx:Hp} {t:Addr} {Q':VK},d5 H3 Hx→Hx t=some (.tup [.str "refused",.str "parts"])→(∀ H',d5 Hx H'→Q' (.bl false) H')→bq5 K (.ref t) (.ref du) Hx Q':=fun {Hx t Q'} Sx et kk=>by
  refine ⟨Y9 "refused" "parts",Y9 "refused" "parts",rfl,ab4 (SqT.of et),ab4 (SqT.of (Sx _ _ edu)),av0 _ _ _ _,aI2 _ _,?_⟩
  rw [av9]
  exact kk _ (d5.refl _)
 have u3:=d5.urn S3 u2
 have sameX:∀ {Hx:Hp} {t:Addr} {Q':VK},t7 u H3 Hx→Hx t=some (.tup [.str "refused",.str "parts"])→(∀ H',d5 Hx H'→Q' (.bl false) H')→bq5 K (.ref t) (.ref du) Hx Q':=fun {Hx t Q'} Sx et kk=>by
  refine ⟨Y9 "refused" "parts",Y9 "refused" "parts",rfl,ab4 (SqT.of et),ab4 (SqT.of (Sx.tups u3 _ _ edu)),av0 _ _ _ _,aI2 _ _,?_⟩
  rw [av9]
  exact kk _ (d5.refl _)
 have mix:∀ {Hx:Hp} {p:Addr} (m:Nat),d5 H3 Hx→Hx p=some (.lst (xs.take n++[x]++xs.drop m))→IsD K Hx (.ref p) (.lst ((ks.map w9).take n++[dx]++(ks.map w9).drop m))∧K9 (.lst ((ks.map w9).take n++[dx]++(ks.map w9).drop m)) (w9 c0)=false∧∀ ds,D.lst ((ks.map w9).take n++[dx]++(ks.map w9).drop m) = .lst ds→ds.length≤200∧∀ d∈ds,P7 d:=fun {Hx p} m Sx ep=>by
  have nk:=L3.nums.mono Sx.tups
  refine ⟨.lst (SqL.of ep) ?_,aV9 (d:=dx) (by simp) px,fun ds e=>?_⟩
  ·have h1:=(nk.take n).isDs (K:=K)
   have h2:=(nk.drop m).isDs (K:=K)
   rw [List.map_take] at h1
   rw [List.map_drop] at h2
   exact (h1.append (.cons (ix3.same Sx) .nil)).append h2
  ·injection e with e
   subst e
   refine ⟨?_,fun d hd=>?_⟩
   ·simp only [List.length_append,List.length_take,List.length_drop,List.length_map,List.length_cons,List.length_nil]
    lia
   ·rcases List.mem_append.mp hd with z | z
    ·rcases List.mem_append.mp z with y | y
     ·exact bkD d (List.mem_of_mem_take y)
     ·rw [List.mem_singleton.mp y];exact bx
    ·exact bkD d (List.mem_of_mem_drop z)
 refine e9 (fun σ H4=>∃ mo,σ=[some (.ref u),some (.ref na),some (.ref al),some x,some (.int (n:Int)),some (.ref du),some (.ref mo),none,none]∧d5 H3 H4∧H4 mo=some (.lst (xs.take n++[x]++xs.drop n))) (fun N hN=>?_) ?_
 ·subst_eqs
  simp only [bx4,bx5]
  have Lh:=L3.same (d5.refl H3)
  refine ⟨_,SqL.of Lh.at',fun p hp=>⟨by decide,fun p1 hp1=>?_⟩⟩
  have X1:=d5.new hp (.lst (xs.take n))
  have X2:=d5.new hp1 (.lst [x])
  refine ⟨_,X2 _ _ b8,_,b8,Nat.le_trans (show _≤100 by rw [List.length_take,List.length_singleton];lia) (by decide),fun p2 hp2=>?_⟩
  have X3:=d5.new hp2 (.lst (xs.take n++[x]))
  have X13:=X1.trans (X2.trans X3)
  refine ⟨_,SqL.of (X13 _ _ Lh.at'),fun p3 hp3=>?_⟩
  have X4:=d5.new hp3 (.lst (xs.drop n))
  refine ⟨_,X4 _ _ b8,_,b8,Nat.le_trans (show _≤100 by rw [List.length_append,List.length_take,List.length_singleton,List.length_drop];lia) (by decide),fun p4 hp4=>?_⟩
  have X5:=d5.new hp4 (.lst (xs.take n++[x]++xs.drop n))
  exact hN _ _ ⟨p4,rfl,(d5.refl H3).trans (X13.trans (X4.trans X5)),b8⟩
 rintro σ H4 ⟨mo,rfl,S4,emo⟩
 refine e9 (fun σ H5=>σ=[some (.ref u),some (.ref na),some (.ref al),some x,some (.int (n:Int)),some (.ref du),some (.ref mo),none,none]∧d5 H3 H5) (fun N hN=>?_) ?_
 ·subst_eqs
  have L4:=L3.same S4
  obtain ⟨im,pm,bm⟩:=mix n S4 emo
  refine ⟨_,.inl (SqL.of L4.at'),t9 (fun _=>?_) (fun _=>hN _ _ ⟨rfl,S4⟩)⟩
  exact ask im (M9 (SqT.of (S4 _ _ eal3))) bcD bm pm fun t H5 S5 et=>same (S4.trans S5) et fun H6 S6=>⟨false,rfl,t9 (fun z=>absurd z (by decide)) (fun _=>hN _ _ ⟨rfl,S4.trans (S5.trans S6)⟩)⟩
 rintro σ H5 ⟨rfl,S5⟩
 refine e9 (fun σ H6=>∃ ma,σ=[some (.ref u),some (.ref na),some (.ref al),some x,some (.int (n:Int)),some (.ref du),some (.ref mo),some (.ref ma),none]∧d5 H3 H6∧∃ ds,IsD K H6 (.ref ma) (.lst ds)∧ds.length=15∧∀ d∈ds,P7 d) (fun N hN=>?_) ?_
 ·subst_eqs
  have L5:=L3.same S5
  have l15:(15 - ((xs.length:Nat):Int)).toNat=15 - xs.length:=by simp
  refine ⟨y7,fun p hp=>⟨by decide,fun p1 hp1=>?_⟩⟩
  have X1:=d5.new hp (.tup [.int 1,.int (1+(n:Int))])
  have X2:=d5.new hp1 (.lst [.ref p])
  have X:=X1.trans X2
  refine ⟨_,.inl (SqL.of (X _ _ L5.at')),_,b8,by lia,by lia,Nat.le_trans (show _≤100 by rw [l15];simp;lia) (by decide),fun p2 hp2=>?_⟩
  rw [l15,List.flatten_replicate_singleton]
  have X3:=d5.new hp2 (.lst (List.replicate (15 - xs.length) (.ref p)))
  refine ⟨_,X3 _ _ (X _ _ L5.at'),_,b8,Nat.le_trans (show _≤100 by rw [List.length_replicate];omega) (by decide),fun p3 hp3=>?_⟩
  have X4:=d5.new hp3 (.lst (xs++List.replicate (15 - xs.length) (.ref p)))
  have XX:=X.trans (X3.trans X4)
  refine hN _ _ ⟨p3,rfl,S5.trans XX,ks.map w9++List.replicate (15 - xs.length) (dI 1 (1+(n:Int))),.lst (SqL.of b8) ?_,?_,fun d hd=>?_⟩
  ·have ip:IsD K (upd (upd (upd (upd H5 p (.tup [.int 1,.int (1+(n:Int))])) p1 (.lst [.ref p])) p2 (.lst (List.replicate (15 - xs.length) (.ref p)))) p3 (.lst (xs++List.replicate (15 - xs.length) (.ref p)))) (.ref p) (dI 1 (1+(n:Int))):=.tup (SqT.of ((X2.trans (X3.trans X4)) _ _ b8)) (.cons (.v rfl) (.cons (.v rfl) .nil))
   have rep:∀ m,N4 K (upd (upd (upd (upd H5 p (.tup [.int 1,.int (1+(n:Int))])) p1 (.lst [.ref p])) p2 (.lst (List.replicate (15 - xs.length) (.ref p)))) p3 (.lst (xs++List.replicate (15 - xs.length) (.ref p)))) (List.replicate m (.ref p)) (List.replicate m (dI 1 (1+(n:Int)))):=fun m=>by
    induction m with
    | zero=>exact .nil
    | succ m ih=>exact .cons ip ih
   exact ((L5.nums.mono XX.tups).isDs).append (rep _)
  ·rw [List.length_append,List.length_map,List.length_replicate];lia
  ·rcases List.mem_append.mp hd with z | z
   ·exact bkD d z
   ·rw [(List.mem_replicate.mp z).2]
    intro t b e
    unfold dI at e
    injection e with e
    injection e with e1 _
    injection e1 with e1
    injection e1 with e1
    rw [←e1];exact .inl (B6 (show (1:Int).natAbs<2 ^ 1 by decide))
 rintro σ H6 ⟨ma,rfl,S6,ds,ima,lds,bds⟩
 refine e9 (fun σ H7=>σ=[some (.ref u),some (.ref na),some (.ref al),some x,some (.int (n:Int)),some (.ref du),some (.ref mo),some (.ref ma),none]∧d5 H3 H7) (fun N hN=>?_) ?_
 ·subst_eqs
  exact ask ima (M9 (SqT.of (S6 _ _ eal3))) bcD (fun ds' e=>by injection e with e;rw [←e];exact ⟨by lia,bds⟩) (aP0 (by lia)) fun t H7 S7 et=>same (S6.trans S7) et fun H8 S8=>⟨false,rfl,t9 (fun z=>absurd z (by decide)) (fun _=>hN _ _ ⟨rfl,S6.trans (S7.trans S8)⟩)⟩
 rintro σ H7 ⟨rfl,S7⟩
 refine e9 (fun σ H8=>∃ mo,σ=[some (.ref u),some (.ref na),some (.ref al),some x,some (.int (n:Int)),some (.ref du),some (.ref mo),some (.ref ma),none]∧d5 H3 H8∧H8 mo=some (.lst (xs.take n++[x]++xs.drop (n+1)))) (fun N hN=>?_) ?_
 ·subst_eqs
  rw [show ((n:Int)+1)=((n+1:Nat):Int) from rfl]
  simp only [bx4,bx5]
  have Lh:=L3.same S7
  refine ⟨_,SqL.of Lh.at',fun p hp=>⟨by decide,fun p1 hp1=>?_⟩⟩
  have X1:=d5.new hp (.lst (xs.take n))
  have X2:=d5.new hp1 (.lst [x])
  refine ⟨_,X2 _ _ b8,_,b8,Nat.le_trans (show _≤100 by rw [List.length_take,List.length_singleton];lia) (by decide),fun p2 hp2=>?_⟩
  have X3:=d5.new hp2 (.lst (xs.take n++[x]))
  have X13:=X1.trans (X2.trans X3)
  refine ⟨_,SqL.of (X13 _ _ Lh.at'),fun p3 hp3=>?_⟩
  have X4:=d5.new hp3 (.lst (xs.drop (n+1)))
  refine ⟨_,X4 _ _ b8,_,b8,Nat.le_trans (show _≤100 by rw [List.length_append,List.length_take,List.length_singleton,List.length_drop];lia) (by decide),fun p4 hp4=>?_⟩
  have X5:=d5.new hp4 (.lst (xs.take n++[x]++xs.drop (n+1)))
  exact hN _ _ ⟨p4,rfl,S7.trans (X13.trans (X4.trans X5)),b8⟩
 rintro σ H8 ⟨mo,rfl,S8,emo⟩
 refine e9 (fun σ H9=>σ=[some (.ref u),some (.ref na),some (.ref al),some x,some (.int (n:Int)),some (.ref du),some (.ref mo),some (.ref ma),none]∧d5 H3 H9) (fun N hN=>?_) ?_
 ·subst_eqs
  have L8:=L3.same S8
  refine ⟨by decide,fun p hp=>?_⟩
  have X:=d5.new hp (.lst [])
  refine ⟨B7 ks,B7 [],rfl,(L8.same X).isD,M8 (SqL.of b8) .nil,N5 _ _,by have:=U4 ks;lia,?_⟩
  rw [N8]
  refine ⟨_,rfl,t9 (fun _=>?_) (fun _=>hN _ _ ⟨rfl,S8.trans X⟩)⟩
  obtain ⟨im,pm,bm⟩:=mix (n+1) (S8.trans X) (X _ _ emo)
  exact ask im (M9 (SqT.of ((S8.trans X) _ _ eal3))) bcD bm pm fun t H9 S9 et=>same (S8.trans (X.trans S9)) et fun H10 S10=>⟨false,rfl,t9 (fun z=>absurd z (by decide)) (fun _=>hN _ _ ⟨rfl,S8.trans (X.trans (S9.trans S10))⟩)⟩
 rintro σ H9 ⟨rfl,S9⟩
 have u9:=d5.urn (S3.trans S9) u2
 refine e9 (fun σ H10=>∃ v dv,σ=[some (.ref u),some (.ref na),some (.ref al),some x,some (.int (n:Int)),some (.ref du),some (.ref mo),some (.ref ma),some v]∧t7 u H3 H10∧v3 H10 u∧IsD K H10 v dv∧(∀ ds,dv≠.lst ds)) (fun N hN=>?_) ?_
 ·simp! [O4]
  have L9:=L3.same S9
  refine ⟨xs,.inl ⟨SqL.of L9.at',fun l hl=>⟨by decide,fun p hp=>⟨by decide,fun p1 hp1=>?_⟩⟩⟩⟩
  have X1:=d5.new hl (.tup xs)
  have X2:=d5.new hp (.tup [.ref na])
  have X3:=d5.new hp1 (.lst [.ref l,.non,.int 0,.str "",.bl true,.ref p,.int 1,.str "parts"])
  have X:=X1.trans (X2.trans X3)
  have uX:=d5.urn X u9
  refine ⟨uX,by decide,by decide,fun r H10 a0 a8 s10 u10=>?_⟩
  have e10:=s10 p1 _ b8 (X9 (d5.urn (X1.trans X2) u9) hp1)
  have sx:t7 u H3 H10:=(d5.x (S9.trans X) u).trans s10
  have L10:=L3.samex sx u3
  have el:=s10.tups uX _ _ ((X2.trans X3) _ _ (b8 (a:=l) (o:=.tup xs)))
  have epp:=s10.tups uX _ _ (X3 _ _ (b8 (a:=p) (o:=.tup [.ref na])))
  have h8:r=0∨r=1∨r=2∨r=3∨r=4∨r=5∨r=6∨r=7:=by lia
  rcases h8 with rfl | rfl | rfl | rfl | rfl | rfl | rfl | rfl
  ·exact ⟨_,SqL.of e10,_,rfl,hN _ _ ⟨_,.tup (ks.map w9),rfl,sx,u10,.tup (SqT.of el) L10.nums.isDs,fun ds e=>by cases e⟩⟩
  ·exact ⟨_,SqL.of e10,_,rfl,hN _ _ ⟨_,.v .non,rfl,sx,u10,.v rfl,fun ds e=>by cases e⟩⟩
  ·exact ⟨_,SqL.of e10,_,rfl,hN _ _ ⟨_,.v (.int 0),rfl,sx,u10,.v rfl,fun ds e=>by cases e⟩⟩
  ·exact ⟨_,SqL.of e10,_,rfl,hN _ _ ⟨_,.v (.str ""),rfl,sx,u10,.v rfl,fun ds e=>by cases e⟩⟩
  ·exact ⟨_,SqL.of e10,_,rfl,hN _ _ ⟨_,.v (.bl true),rfl,sx,u10,.v rfl,fun ds e=>by cases e⟩⟩
  ·exact ⟨_,SqL.of e10,_,rfl,hN _ _ ⟨_,.tup [B7 ks],rfl,sx,u10,.tup (SqT.of epp) (.cons L10.isD .nil),fun ds e=>by cases e⟩⟩
  ·exact ⟨_,SqL.of e10,_,rfl,hN _ _ ⟨_,.v (.int 1),rfl,sx,u10,.v rfl,fun ds e=>by cases e⟩⟩
  ·exact ⟨_,SqL.of e10,_,rfl,hN _ _ ⟨_,.v (.str "parts"),rfl,sx,u10,.v rfl,fun ds e=>by cases e⟩⟩
 rintro σ H10 ⟨v,dv,rfl,s10,u10,iv,nv⟩
 refine e9 (fun σ H11=>σ=[some (.ref u),some (.ref na),some (.ref al),some x,some (.int (n:Int)),some (.ref du),some (.ref mo),some (.ref ma),some v]∧t7 u H3 H11∧v3 H11 u) (fun N hN=>?_) ?_
 ·subst_eqs
  have pv:K9 dv (w9 c0)=false:=by
   cases dv with
   | v x=>rfl
   | tup l=>rfl
   | lst l=>exact absurd rfl (nv l)
  exact ask iv (M9 (SqT.of (s10.tups u3 _ _ eal3))) bcD (fun ds e=>absurd e (nv ds)) pv fun t H11 S11 et=>sameX (s10.trans (d5.x S11 u)) et fun H12 S12=>⟨false,rfl,t9 (fun z=>absurd z (by decide)) (fun _=>hN _ _ ⟨rfl,s10.trans (d5.x (S11.trans S12) u),d5.urn (S11.trans S12) u10⟩)⟩
 rintro σ H11 ⟨rfl,s11,u11⟩
 refine e9 (fun σ H12=>∃ v dv,σ=[some (.ref u),some (.ref na),some (.ref al),some x,some (.int (n:Int)),some (.ref du),some (.ref mo),some (.ref ma),some v]∧t7 u H3 H12∧v3 H12 u∧IsD K H12 v dv∧dv∈ao6) (fun N hN=>?_) ?_
 ·simp! [O4]
  refine ⟨(by decide),fun w0 hw0=>?_⟩
  have sw0:=d5.new hw0 (.tup [.int 0,.int 1])
  have ew0:(upd H11 w0 (.tup [.int 0,.int 1])) w0=some (.tup [.int 0,.int 1]):=b8
  have fw0:=hw0
  generalize upd H11 w0 (.tup [.int 0,.int 1])=Gw0 at sw0 ew0 ⊢
  refine ⟨(by decide),fun w1 hw1=>?_⟩
  have sw1:=d5.new hw1 (.tup [.int 2,.int 2])
  have ew1:(upd Gw0 w1 (.tup [.int 2,.int 2])) w1=some (.tup [.int 2,.int 2]):=b8
  have fw1:=hw1
  generalize upd Gw0 w1 (.tup [.int 2,.int 2])=Gw1 at sw1 ew1 ⊢
  refine ⟨(by decide),fun w2 hw2=>?_⟩
  have sw2:=d5.new hw2 (.tup [.int 1,.int 0])
  have ew2:(upd Gw1 w2 (.tup [.int 1,.int 0])) w2=some (.tup [.int 1,.int 0]):=b8
  have fw2:=hw2
  generalize upd Gw1 w2 (.tup [.int 1,.int 0])=Gw2 at sw2 ew2 ⊢
  refine ⟨(by decide),fun w3 hw3=>?_⟩
  have sw3:=d5.new hw3 (.lst [.int 1,.int 1])
  have ew3:(upd Gw2 w3 (.lst [.int 1,.int 1])) w3=some (.lst [.int 1,.int 1]):=b8
  have fw3:=hw3
  generalize upd Gw2 w3 (.lst [.int 1,.int 1])=Gw3 at sw3 ew3 ⊢
  refine ⟨(by decide),fun w4 hw4=>?_⟩
  have sw4:=d5.new hw4 (.tup [.bl false,.int 1])
  have ew4:(upd Gw3 w4 (.tup [.bl false,.int 1])) w4=some (.tup [.bl false,.int 1]):=b8
  have fw4:=hw4
  generalize upd Gw3 w4 (.tup [.bl false,.int 1])=Gw4 at sw4 ew4 ⊢
  refine ⟨(by decide),fun w5 hw5=>?_⟩
  have sw5:=d5.new hw5 (.tup [.int 1,.int (-1)])
  have ew5:(upd Gw4 w5 (.tup [.int 1,.int (-1)])) w5=some (.tup [.int 1,.int (-1)]):=b8
  have fw5:=hw5
  generalize upd Gw4 w5 (.tup [.int 1,.int (-1)])=Gw5 at sw5 ew5 ⊢
  refine ⟨(by decide),fun w6 hw6=>?_⟩
  have sw6:=d5.new hw6 (.lst [.ref w0,.non,.int 0,.ref w1,.ref w2,.ref w3,.ref w4,.ref w5])
  have ew6:(upd Gw5 w6 (.lst [.ref w0,.non,.int 0,.ref w1,.ref w2,.ref w3,.ref w4,.ref w5])) w6=some (.lst [.ref w0,.non,.int 0,.ref w1,.ref w2,.ref w3,.ref w4,.ref w5]):=b8
  have fw6:=hw6
  generalize upd Gw5 w6 (.lst [.ref w0,.non,.int 0,.ref w1,.ref w2,.ref w3,.ref w4,.ref w5])=Gw6 at sw6 ew6 ⊢
  have tw5:=sw6
  have tw4:=sw5.trans tw5
  have tw3:=sw4.trans tw4
  have tw2:=sw3.trans tw3
  have tw1:=sw2.trans tw2
  have tw0:=sw1.trans tw1
  have twA:=sw0.trans tw0
  have uW:=d5.urn twA u11
  refine ⟨uW,by decide,by decide,fun r H12 a0 a8 s12 u12=>?_⟩
  have wu:w6≠u:=X9 (d5.urn (sw0.trans (sw1.trans (sw2.trans (sw3.trans (sw4.trans sw5))))) u11) fw6
  have e12:=s12 w6 _ ew6 wu
  have sx:t7 u H3 H12:=s11.trans ((d5.x twA u).trans s12)
  have iw:N4 K Gw6 [.ref w0,.non,.int 0,.ref w1,.ref w2,.ref w3,.ref w4,.ref w5] ao6:=.cons (show IsD K _ (.ref w0) (dI 0 1) from .tup (SqT.of (tw0 _ _ ew0)) (.cons (.v rfl) (.cons (.v rfl) .nil))) (.cons (.v rfl) (.cons (.v rfl) (.cons (show IsD K _ (.ref w1) (dI 2 2) from .tup (SqT.of (tw1 _ _ ew1)) (.cons (.v rfl) (.cons (.v rfl) .nil))) (.cons (show IsD K _ (.ref w2) (dI 1 0) from .tup (SqT.of (tw2 _ _ ew2)) (.cons (.v rfl) (.cons (.v rfl) .nil))) (.cons (.lst (SqL.of (tw3 _ _ ew3)) (.cons (.v rfl) (.cons (.v rfl) .nil))) (.cons (.tup (SqT.of (tw4 _ _ ew4)) (.cons (.v rfl) (.cons (.v rfl) .nil))) (.cons (show IsD K _ (.ref w5) (dI 1 (-1)) from .tup (SqT.of (tw5 _ _ ew5)) (.cons (.v rfl) (.cons (.v rfl) .nil))) .nil)))))))
  have iw2:=Y7 s12 uW (ds:=ao6) rfl iw
  obtain ⟨j,rfl⟩:∃ j:Nat,r=(j:Int):=⟨r.toNat,by lia⟩
  have hj:j<[V.ref w0,.non,.int 0,.ref w1,.ref w2,.ref w3,.ref w4,.ref w5].length:=by show j<8;lia
  have hv:=List.getElem?_eq_getElem hj
  obtain ⟨dv,hdv,iv⟩:=iw2.get hv
  exact ⟨_,SqL.of e12,_,F7 hv,hN _ _ ⟨_,dv,rfl,sx,u12,iv,List.mem_of_getElem? hdv⟩⟩
 rintro σ H12 ⟨v,dv,rfl,s12,u12,iv,mv⟩
 subst_eqs
 have L12:=L3.samex s12 u3
 obtain ⟨pf,bl⟩:=aQ3 mv (B7 ks)
 refine ask L12.isD iv bl (fun ds e=>?_) pf fun t H13 S13 et=>?_
 ·unfold B7 at e
  injection e with e
  rw [←e];exact ⟨by rw [List.length_map];lia,bkD⟩
 refine ⟨Y9 "refused" "parts",Y9 "refused" "parts",rfl,ab4 (SqT.of et),ab4 (SqT.of (S13 _ _ (s12.tups u3 _ _ edu))),av0 _ _ _ _,aI2 _ _,?_⟩
 rw [av9]
 exact k _ (s2.trans ((d5.x S3 u).trans (s12.trans (d5.x S13 u)))) (d5.urn S13 u12)
end
theorem bo1 {kd:Int} {q:Rat} {cc:Nat} (h:NK kd q) (hk:((kd=0∨kd=1)∧cc=10)∨(kd=2∧cc=40)):BdN cc q:=by
 rcases hk with ⟨rfl | rfl,rfl⟩ | ⟨rfl,rfl⟩
 ·exact aF9 (by decide) (by decide) h.ovb0
 ·exact (aF9 (W:=4) (by decide) (by decide) h.ovb1).mono (by decide)
 ·exact h.bd2
theorem br3 {ks:List Rat} {c0:Rat} {cc:Nat} (hp:∀ q∈ks,0<q) (hb:∀ q∈ks,BdN cc q) (c1:c0≠0) (bc:BdN cc c0) (z:cOk cc ks.length):O0 cc (pR ks) [c0]:=by
 have c10:10≤cc:=by rcases z with ⟨h,_⟩ | ⟨h,_⟩ <;> lia
 refine ⟨fun L hL=>?_,?_,by simp,.inr rfl,fun x hx=>by rw [List.mem_singleton.mp hx];exact bc,?_⟩
 ·obtain ⟨q,hq,rfl⟩:=List.mem_map.mp hL
  have qn:=ac1 (hp q hq)
  refine ⟨Y0 fun x hx=>?_,Nat.le_refl 2,rfl,fun x hx=>?_⟩
  ·cases hx;exact qn
  ·simp only [List.mem_cons,List.not_mem_nil,or_false] at hx
   rcases hx with h | h
   ·rw [h];exact ⟨Nat.two_pow_pos _,Nat.lt_of_lt_of_le (show 1<2 ^ 1 by decide) (d6 (by omega))⟩
   ·rw [h];exact hb q hq
 ·exact Y0 fun x hx=>by cases hx;exact c1
 ·have e:((pR ks).map fun L=>L.length - 1).sum=ks.length:=by
   unfold pR
   rw [List.map_map]
   induction ks with
   | nil=>rfl
   | cons q ks ih=>
    rw [List.map_cons,List.sum_cons,List.length_cons]
    have:=ih (fun q hq=>hp q (List.mem_cons_of_mem _ hq)) (fun q hq=>hb q (List.mem_cons_of_mem _ hq)) (by
     rcases z with ⟨h,h2⟩ | ⟨h,h2⟩
     ·exact .inl ⟨h,by simp at h2;lia⟩
     ·exact .inr ⟨h,by simp at h2;lia⟩)
    rw [this]
    show 2 - 1+_=_
    lia
  rw [e]
  show cOk cc (1 - 1+ks.length)
  rw [show 1 - 1+ks.length=ks.length by simp];exact z
def dP3 (ks:List Rat) (c:Rat):D:=.tup [.v (.str "parts"),B7 ks,w9 c]
theorem bu4 (ks:List Rat) (c:Rat):eqD (dP3 ks c) (dP3 ks c)=true:=by
 unfold dP3
 rw [eqD,P8,P8,P8,P8,N8,al1];simp [eqD,eqV]
theorem bs4 (ks:List Rat) (c:Rat):okD (dP3 ks c) (dP3 ks c)=true:=by
 unfold dP3
 rw [okD,ad3,ad3,ad3,N5,ak6];simp [okD,ad3]
theorem bx2 (ks:List Rat) (c:Rat):dpD (dP3 ks c)≤60:=by
 unfold dP3
 rw [dpD,ag3,ag3,ag3,ag3]
 have h2:=U4 ks
 have h3:dpD (w9 c)≤2:=by simp [w9,dpD,ag3]
 generalize dpD (w9 c)=b at *
 generalize dpD (B7 ks)=a at *
 have h1:dpD (.v (.str "parts"))=0:=by simp only [dpD]
 rw [h1]
 lia
section
variable {P:Program} {w:World} {K:PySem.W.Frag} {mg:Str→Option Value} {base:Heap}
def aS2 (K:PySem.W.Frag):Sp:=fun vs H Q _=>∃ u,vs=[.ref u]∧v3 H u∧∀ H',t7 u H H'→v3 H' u→Q (.bl true) H'
abbrev C5:Stmt:=top 103
theorem C7:i8 ["_law_urn_here","_law_kind_here","_law_many","_law_numbers","_law_last","_law_due","_law_handed","_law_told"] ["_law_urn_here"] (d3 C5):=by and_intros
set_option maxHeartbeats 0 in
theorem ay8 {f f1 f2 f3 f4 f5 f6 f7 f8 f9 f10:Addr} (d:Df K mg "_law_right" C5 ["_law_urn_here"] f) (G__law_draw:Def P w K mg base CX0 1 "_law_draw" f1 ["_law_urn_here","_law_many"] O4) (G__law_kind:Def P w K mg base CX0 2 "_law_kind" f2 ["_law_urn_here"] aO0) (G__law_above:Def P w K mg base CX0 4 "_law_above" f3 ["_law_urn_here","_law_kind_here"] aE7) (GD__law_other:Def P w K mg base CX0 3 "_law_other" f4 ["_law_urn_here","_law_kind_here"] at4) (G__law_folded:Def P w K mg base CX0 4 "_law_folded" f5 ["_law_quotients","_law_last"] (aK1 K)) (G__law_said:Def P w K mg base CX0 7 "_law_said" f6 ["_law_numbers","_law_last"] (aj1 K)) (G__law_is_poly:Def P w K mg base CX0 3 "_law_is_poly" f7 ["_law_thing"] (aJ9 K)) (G_parts_of:Def P w K mg base CX0 6 "parts_of" f8 ["p"] (aA0 K)) (G_dies:Def P w K mg base CX0 4 "dies" f9 ["p"] (bb3 K)) (G__law_refused_right:Def P w K mg base CX0 8 "_law_refused_right" f10 ["_law_urn_here","_law_numbers","_law_last"] (ba8 K)) (n_list:mg "list" = none) (n_range:mg "range" = none):Def P w K mg base CX0 9 "_law_right" f ["_law_urn_here"] (aS2 K):=by
 have G__law_other:=GD__law_other
 refine d.ok (N:=["_law_urn_here","_law_kind_here","_law_many","_law_numbers","_law_last","_law_due","_law_handed","_law_told"]) C7 (by rintro vs H Q E ⟨_,h,_⟩;rw [h];rfl) (fun cdv A outer s H vs Q E hr h=>?_)
 obtain ⟨u,rfl,hu0,k⟩:=h
 have hu:=hr.units
 refine ⟨_,(@b9 _ _ _ _ _ (@i7 _ _ 1 _ _ _ _ C7.nd rfl (Or.inr rfl) (@d9 _ _ _ _ _ _ _ _ _ _ _ _ _ _ G__law_kind hr (@b6 _ _ _ _ _ (pv 0) b7 (by simp_wf)) i5 (by simp_wf) (by simp_wf) (by simp_wf) (by simp_wf) (by simp_wf)) (by simp_wf) (by simp_wf)) (@b9 _ _ _ _ _ (@i7 _ _ 2 _ _ _ _ C7.nd rfl (Or.inl rfl) (@d9 _ _ _ _ _ _ _ _ _ _ _ _ _ _ G__law_draw hr (@b6 _ _ _ _ _ (pv 0) (@b6 _ _ _ _ _ (@j8 _ _ _ _ _ _ _ u7 (@t6 _ _ _ _ (@b6 _ _ _ _ _ d4 (@b6 _ _ _ _ _ d4 (@b6 _ _ _ _ _ d4 b7 (by simp_wf)) (by simp_wf)) (by simp_wf))) (pv 1) (fun _ _=>rfl)) b7 (by simp_wf)) (by simp_wf)) i5 (by simp_wf) (by simp_wf) (by simp_wf) (by simp_wf) (by simp_wf)) (by simp_wf) (by simp_wf)) (@b9 _ _ _ _ _ (@P2 _ _ _ _ _ _ _ _ _ 3 _ ["_law_urn_here","_law_kind_here","_law_turn"] [some 0,some 1,none] _ _ _ C7.nd rfl (Or.inl rfl) rfl (Z3.of (osc:=d3 C5) (N:=["_law_urn_here","_law_kind_here","_law_many","_law_numbers","_law_last","_law_due","_law_handed","_law_told"]) (ks:=["_law_urn_here","_law_kind_here"]) rfl rfl rfl rfl (F8 rfl (F8 rfl D3)) (by decide +kernel)) (@am8 _ _ _ _ _ _ rfl n_range (@b6 _ _ _ _ _ (pv 2) b7 (by simp_wf)) (by simp_wf)) (fun C s₂ H₂ fp pins=>(e8 (i:=2) (show List.Nodup (["_law_urn_here","_law_kind_here","_law_turn"]:List Str) by decide +kernel) rfl (Or.inl rfl) (Or.inr rfl))) (fun C s₂ H₂ fp pins=>(d9 G__law_above hr (b6 (pv 0) (b6 (pv 1) b7)) i5)) (by simp_wf) (by simp_wf) (by simp_wf)) (@b9 _ _ _ _ _ (@i7 _ _ 4 _ _ _ _ C7.nd rfl (Or.inl rfl) (@d9 _ _ _ _ _ _ _ _ _ _ _ _ _ _ G__law_other hr (@b6 _ _ _ _ _ (pv 0) (@b6 _ _ _ _ _ (pv 1) b7 (by simp_wf)) (by simp_wf)) i5 (by simp_wf) (by simp_wf) (by simp_wf) (by simp_wf) (by simp_wf)) (by simp_wf) (by simp_wf)) (@b9 _ _ _ _ _ (@i7 _ _ 5 _ _ _ _ C7.nd rfl (Or.inl rfl) (@d9 _ _ _ _ _ _ _ _ _ _ _ _ _ _ G__law_folded hr (@b6 _ _ _ _ _ (@R6 _ _ _ _ _ _ _ ["_law_one"] [none] _ _ _ rfl (Z3.of (osc:=d3 C5) (N:=["_law_urn_here","_law_kind_here","_law_many","_law_numbers","_law_last","_law_due","_law_handed","_law_told"]) (ks:=[]) rfl rfl rfl rfl D3 (by decide +kernel)) (@D4 _ _ _ _ (pv 3)) (fun C s₂ H₂ fp pins=>(e8 (i:=0) (show List.Nodup (["_law_one"]:List Str) by decide +kernel) rfl (Or.inl rfl) (Or.inr rfl))) (fun C s₂ H₂ fp pins=>(t6 (b6 (j9 (b6 d4 (b6 d4 b7))) (b6 (pv 0) b7)))) (by simp_wf)) (@b6 _ _ _ _ _ (@t6 _ _ _ _ (@b6 _ _ _ _ _ (pv 4) b7 (by simp_wf))) b7 (by simp_wf)) (by simp_wf)) i5 (by simp_wf) (by simp_wf) (by simp_wf) (by simp_wf) (by simp_wf)) (by simp_wf) (by simp_wf)) (@b9 _ _ _ _ _ (@i7 _ _ 6 _ _ _ _ C7.nd rfl (Or.inl rfl) (@G3 _ _ _ _ _ _ _ _ _ E8 rfl n_list (by decide +kernel) (@b6 _ _ _ _ _ (pv 3) b7 (by simp_wf)) (by simp_wf) (by simp_wf) (by simp_wf) (by simp_wf)) (by simp_wf) (by simp_wf)) (@b9 _ _ _ _ _ (@i7 _ _ 7 _ _ _ _ C7.nd rfl (Or.inl rfl) (@d9 _ _ _ _ _ _ _ _ _ _ _ _ _ _ G__law_said hr (@b6 _ _ _ _ _ (pv 6) (@b6 _ _ _ _ _ (pv 4) b7 (by simp_wf)) (by simp_wf)) i5 (by simp_wf) (by simp_wf) (by simp_wf) (by simp_wf) (by simp_wf)) (by simp_wf) (by simp_wf)) (@b9 _ _ _ _ _ (@A0 _ _ _ _ _ _ _ _ (@PW.pt _ _ _ (@W3 _ _ _ _ _ _ _ (@j3 _ _ _ _ _ _ _ _ (aa2 hu) (pv 7) (pv 5) (j6 _)) (@W3 _ _ _ _ _ _ _ (@G0 _ _ _ _ (@Q9 _ _ _ (@d9 _ _ _ _ _ _ _ _ _ _ _ _ _ _ G__law_is_poly hr (@b6 _ _ _ _ _ (pv 7) b7 (by simp_wf)) i5 (by simp_wf) (by simp_wf) (by simp_wf) (by simp_wf) (by simp_wf)) (by simp_wf))) (@V7 _ _ _ _ (@j3 _ _ _ _ _ _ _ _ (aa2 hu) (pv 6) (pv 3) (j6 _)))))) (@d7 _ _ _ (@g8 _ _ _ _ G6)) m8) (@b9 _ _ _ _ _ (@A0 _ _ _ _ _ _ _ _ (@j3 _ _ _ _ _ _ _ _ (aa2 hu) (@d9 _ _ _ _ _ _ _ _ _ _ _ _ _ _ G_parts_of hr (@b6 _ _ _ _ _ (@G3 _ _ _ _ _ _ _ _ _ E8 rfl n_list (by decide +kernel) (@b6 _ _ _ _ _ (pv 5) b7 (by simp_wf)) (by simp_wf) (by simp_wf) (by simp_wf) (by simp_wf)) b7 (by simp_wf)) i5 (by simp_wf) (by simp_wf) (by simp_wf) (by simp_wf) (by simp_wf)) (@j9 _ _ _ _ _ (@b6 _ _ _ _ _ W0 (@b6 _ _ _ _ _ (pv 3) (@b6 _ _ _ _ _ (pv 4) b7 (by simp_wf)) (by simp_wf)) (by simp_wf))) (j6 _)) (@d7 _ _ _ (@g8 _ _ _ _ G6)) m8) (@b9 _ _ _ _ _ (@A0 _ _ _ _ _ _ _ _ (@j3 _ _ _ _ _ _ _ _ bj7 (@d9 _ _ _ _ _ _ _ _ _ _ _ _ _ _ G_dies hr (@b6 _ _ _ _ _ (@G3 _ _ _ _ _ _ _ _ _ E8 rfl n_list (by decide +kernel) (@b6 _ _ _ _ _ (pv 5) b7 (by simp_wf)) (by simp_wf) (by simp_wf) (by simp_wf) (by simp_wf)) b7 (by simp_wf)) i5 (by simp_wf) (by simp_wf) (by simp_wf) (by simp_wf) (by simp_wf)) G6 (j6 _)) (@d7 _ _ _ (@g8 _ _ _ _ G6)) m8) (@b9 _ _ _ _ _ (@af8 _ _ _ _ (@ap7 _ _ _ _ _ _ _ _ _ _ _ _ PySem.F.plainAttrs_list PySem.F.slot_list_append PySem.F.type_list_append U0 (pv 7) (@b6 _ _ _ _ _ (@j9 _ _ _ _ _ (@b6 _ _ _ _ _ d4 (@b6 _ _ _ _ _ d4 b7 (by simp_wf)) (by simp_wf))) b7 (by simp_wf)) (by simp_wf) (by simp_wf) (by simp_wf) (by simp_wf) (by simp_wf)) (by simp_wf)) (@b9 _ _ _ _ _ (@af8 _ _ _ _ (@ap7 _ _ _ _ _ _ _ _ _ _ _ _ PySem.F.plainAttrs_list PySem.F.slot_list_append PySem.F.type_list_append U0 (pv 6) (@b6 _ _ _ _ _ (@j9 _ _ _ _ _ (@b6 _ _ _ _ _ d4 (@b6 _ _ _ _ _ d4 b7 (by simp_wf)) (by simp_wf))) b7 (by simp_wf)) (by simp_wf) (by simp_wf) (by simp_wf) (by simp_wf) (by simp_wf)) (by simp_wf)) (@b9 _ _ _ _ _ (@A0 _ _ _ _ _ _ _ _ (@j3 _ _ _ _ _ _ _ _ (aa2 hu) (@d9 _ _ _ _ _ _ _ _ _ _ _ _ _ _ G__law_said hr (@b6 _ _ _ _ _ (@G3 _ _ _ _ _ _ _ _ _ E8 rfl n_list (by decide +kernel) (@b6 _ _ _ _ _ (pv 3) b7 (by simp_wf)) (by simp_wf) (by simp_wf) (by simp_wf) (by simp_wf)) (@b6 _ _ _ _ _ (pv 4) b7 (by simp_wf)) (by simp_wf)) i5 (by simp_wf) (by simp_wf) (by simp_wf) (by simp_wf) (by simp_wf)) (pv 5) (j6 _)) (@d7 _ _ _ (@g8 _ _ _ _ G6)) m8) (@b9 _ _ _ _ _ (@A0 _ _ _ _ _ _ _ _ (@G0 _ _ _ _ (@Q9 _ _ _ (@d9 _ _ _ _ _ _ _ _ _ _ _ _ _ _ G__law_refused_right hr (@b6 _ _ _ _ _ (pv 0) (@b6 _ _ _ _ _ (pv 3) (@b6 _ _ _ _ _ (pv 4) b7 (by simp_wf)) (by simp_wf)) (by simp_wf)) i5 (by simp_wf) (by simp_wf) (by simp_wf) (by simp_wf) (by simp_wf)) (by simp_wf))) (@d7 _ _ _ (@g8 _ _ _ _ G6)) m8) (@d7 _ _ _ (@g8 _ _ _ _ (@W6 _ _ _ _ _ _ _ _ (ae0 hu) (@d9 _ _ _ _ _ _ _ _ _ _ _ _ _ _ G__law_said hr (@b6 _ _ _ _ _ (@G3 _ _ _ _ _ _ _ _ _ E8 rfl n_list (by decide +kernel) (@b6 _ _ _ _ _ (pv 3) b7 (by simp_wf)) (by simp_wf) (by simp_wf) (by simp_wf) (by simp_wf)) (@b6 _ _ _ _ _ (pv 4) b7 (by simp_wf)) (by simp_wf)) i5 (by simp_wf) (by simp_wf) (by simp_wf) (by simp_wf) (by simp_wf)) (pv 5) (j6 _)))))))))))))))))),?_⟩
 rw [show start ["_law_urn_here","_law_kind_here","_law_many","_law_numbers","_law_last","_law_due","_law_handed","_law_told"] [.ref u]=[some (.ref u),none,none,none,none,none,none,none] from rfl]
 refine e9 (fun σ H1=>∃ kd:Int,σ=[some (.ref u),some (.int kd),none,none,none,none,none,none]∧t7 u H H1∧v3 H1 u∧(kd=0∨kd=1∨kd=2)) (fun N hN=>?_) ?_
 ·simp! [aO0]
  exact ⟨hu0,fun wy H1 h0 s1 u1=>hN _ _ ⟨wy,rfl,s1,u1,h0⟩⟩
 rintro σ H1 ⟨kd,rfl,s1,u1,hk⟩
 refine e9 (fun σ H2=>∃ (m cc:Nat),σ=[some (.ref u),some (.int kd),some (.int (m:Int)),none,none,none,none,none]∧t7 u H H2∧v3 H2 u∧(((kd=0∨kd=1)∧cc=10)∨(kd=2∧cc=40))∧cOk cc m∧(Ub cc m+1+4) * (m+1)≤8800) (fun N hN=>?_) ?_
 ·simp! [O4]
  refine ⟨by decide,fun p hp=>?_⟩
  have X:=d5.new hp (.lst [.int 15,.int 15,.int 5])
  have uX:=af1 (o:=.lst [.int 15,.int 15,.int 5]) u1 hp
  have ub:∀ (cc m:Nat),cOk cc m→(cc=40→m≤4)→(Ub cc m+1+4) * (m+1)≤8800:=fun cc m hc h4=>by
   unfold Ub
   rcases hc with ⟨rfl,h⟩ | ⟨rfl,h⟩
   ·have h2:1+2 * 10+(3 * 10+4) * m+1+4≤502:=by lia
    exact Nat.le_trans (Nat.mul_le_mul h2 (show m+1≤15 by lia)) (by decide)
   ·have:=h4 rfl
    have h2:1+2 * 40+(3 * 40+4) * m+1+4≤582:=by lia
    exact Nat.le_trans (Nat.mul_le_mul h2 (show m+1≤5 by lia)) (by decide)
  rcases hk with rfl | rfl | rfl
  ·refine ⟨_,SqL.of b8,_,rfl,_,rfl,uX,by decide,by decide,fun r H2 a0 a1 s2 u2=>?_⟩
   obtain ⟨m,rfl⟩:∃ m:Nat,r=(m:Int):=⟨r.toNat,by lia⟩
   exact hN _ _ ⟨m,10,rfl,s1.trans ((d5.x X u).trans s2),u2,.inl ⟨.inl rfl,rfl⟩,.inl ⟨rfl,by lia⟩,ub 10 m (.inl ⟨rfl,by omega⟩) (fun h=>by omega)⟩
  ·refine ⟨_,SqL.of b8,_,rfl,_,rfl,uX,by decide,by decide,fun r H2 a0 a1 s2 u2=>?_⟩
   obtain ⟨m,rfl⟩:∃ m:Nat,r=(m:Int):=⟨r.toNat,by omega⟩
   exact hN _ _ ⟨m,10,rfl,s1.trans ((d5.x X u).trans s2),u2,.inl ⟨.inr rfl,rfl⟩,.inl ⟨rfl,by omega⟩,ub 10 m (.inl ⟨rfl,by omega⟩) (fun h=>by omega)⟩
  ·refine ⟨_,SqL.of b8,_,rfl,_,rfl,uX,by decide,by decide,fun r H2 a0 a1 s2 u2=>?_⟩
   obtain ⟨m,rfl⟩:∃ m:Nat,r=(m:Int):=⟨r.toNat,by lia⟩
   exact hN _ _ ⟨m,40,rfl,s1.trans ((d5.x X u).trans s2),u2,.inr ⟨rfl,rfl⟩,.inr ⟨rfl,by lia⟩,ub 40 m (.inr ⟨rfl,by omega⟩) (fun _=>by lia)⟩
 rintro σ H2 ⟨m,cc,rfl,s2,u2,hkc,hcm,hub⟩
 have m14:m≤14:=by rcases hcm with ⟨_,h⟩ | ⟨_,h⟩ <;> lia
 have cc40:cc≤40:=by rcases hkc with ⟨_,h⟩ | ⟨_,h⟩ <;> lia
 refine e9 (fun σ H3=>∃ na xs ks,σ=[some (.ref u),some (.int kd),some (.int (m:Int)),some (.ref na),none,none,none,none]∧t7 u H H3∧v3 H3 u∧LsX u H3 na xs ks∧ks.length=m∧∀ q∈ks,BdN cc q∧0<q) (fun N hN=>?_) ?_
 ·subst_eqs
  refine ⟨by simp,by lia,fun D hD=>?_⟩
  have hDu:D≠u:=X9 u2 hD
  refine bg9 (fun i σ H3=>∃ o,σ=[some (.ref u),some (.int kd),o]∧t7 u H2 H3∧v3 H3 u∧∃ xs qs,H3 D=some (.lst xs)∧q8 H3 xs qs∧qs.length=i∧∀ p∈qs,BdN cc p∧0<p) ⟨_,rfl,d5.x (d5.new hD _) u,af1 u2 hD,[],[],b8,.nil,rfl,by simp⟩ ?_ ?_
  ·rintro i σ H3 hi ⟨o,rfl,s3,u3,xs,qs,e,n,hl,hs⟩
   subst_eqs
   refine ⟨u,kd,rfl,u3,fun rn q H4 nq qp s4 u4 e4=>?_⟩
   have e5:=s4 D _ e hDu
   refine G8.mk hi e5 (by rw [n.length,hl];exact Nat.lt_of_lt_of_le (show i<1000 by lia) (by decide)) ?_
   refine ⟨_,rfl,(s3.trans s4).over hD _,u4.other hDu,_,b8,qs++[q],((n.mono (s4.tups u3)).append (.cons e4 .nil)).mono (ac8.lst e5),by simp [hl],fun p hp=>?_⟩
   rcases List.mem_append.mp hp with z | z
   ·exact hs p z
   ·rw [List.mem_singleton.mp z];exact ⟨bo1 nq hkc,qp⟩
  ·rintro σ H3 ⟨o,rfl,s3,u3,xs,qs,e,n,hl,hs⟩
   exact hN _ _ ⟨D,xs,qs,rfl,s2.trans s3,u3,⟨hDu,e,n⟩,by rw [hl];simp,hs⟩
 rintro σ H3 ⟨na,xs,ks,rfl,s3,u3,Ln,lk,hks⟩
 have lx:=Ln.nums.length
 refine e9 (fun σ H4=>∃ al c0,σ=[some (.ref u),some (.int kd),some (.int (m:Int)),some (.ref na),some (.ref al),none,none,none]∧t7 u H H4∧v3 H4 u∧LsX u H4 na xs ks∧H4 al=some (.tup (t8 c0))∧c0≠0∧BdN cc c0) (fun N hN=>?_) ?_
 ·subst_eqs
  exact ⟨u,kd,rfl,u3,fun r q H4 nk q0 s4 u4 e4=>hN _ _ ⟨r,q,rfl,s3.trans s4,u4,Ln.samex s4 u3,e4,q0,bo1 nk hkc⟩⟩
 rintro σ H4 ⟨al,c0,rfl,s4,u4,L4,eal,c1,bc⟩
 have R:O0 cc (pR ks) [c0]:=br3 (fun q hq=>(hks q hq).2) (fun q hq=>(hks q hq).1) c1 bc (by rw [lk];exact hcm)
 have lpk:(pR ks).length=ks.length:=List.length_map ..
 have Pr:Prt (pR ks) [c0] c0:=⟨fun L hL=>by
  obtain ⟨q,hq,rfl⟩:=List.mem_map.mp hL
  exact ⟨q,(hks q hq).2,rfl⟩,rfl,c1⟩
 refine e9 (fun σ H5=>∃ du zs ps,σ=[some (.ref u),some (.int kd),some (.int (m:Int)),some (.ref na),some (.ref al),some (.ref du),none,none]∧d5 H4 H5∧LsX u H5 du zs ps∧A7 ps ps.length∧qp ps=(fld (pR ks) [c0] (pR ks).length).1+(fld (pR ks) [c0] (pR ks).length).2) (fun N hN=>?_) ?_
 ·subst_eqs
  refine ⟨⟨_,SqL.of L4.at'⟩,fun D hD=>?_⟩
  refine N2 xs (fun i σ H5=>∃ o,σ=[o]∧ad1 H4 D ((pR ks).take i) H5) ⟨_,rfl,ad1.start hD⟩ (fun i σ H5 _ ⟨_,_,T⟩=>SqL.of (T.same _ _ L4.at')) ?_ ?_
  ·rintro i x σ H5 hx ⟨o,rfl,T⟩
   have hi:=(List.getElem?_eq_some_iff.mp hx).1
   obtain ⟨px,q,rfl,hq,epx⟩:=L4.nums.getV hx
   subst_eqs
   refine ⟨y7,fun p0 hp0=>⟨by decide,fun p hp=>?_⟩⟩
   have X0:=d5.new hp0 (.tup [.int 0,.int 1])
   have X:=d5.new hp (.lst [.ref p0,.ref px])
   have e0:(upd H5 p0 (.tup [.int 0,.int 1])) p0=some (.tup (t8 0)):=b8
   obtain ⟨ys,ey,ly,T'⟩:=(T.to X0).add hD hp (L:=[0,q]) (H3:=upd (upd H5 p0 (.tup [.int 0,.int 1])) p (.lst [.ref p0,.ref px])) ⟨X,_,b8,.cons (X _ _ e0) (.cons ((X0.trans X) _ _ (T.same _ _ epx)) .nil)⟩
   refine G8.mk hi ey ?_ ⟨_,rfl,?_⟩
   ·rw [ly,List.length_take]
    exact Nat.lt_of_le_of_lt (show _≤100 by lia) (by decide)
   ·have e:(pR ks)[i]? = some [0,q]:=by unfold pR;rw [List.getElem?_map,hq];rfl
    rw [List.take_succ,e]
    exact T'
  ·rintro σ H5 ⟨o,rfl,T⟩
   rw [lx,←lpk,List.take_length] at T
   obtain ⟨S5,ts,e5,hn,nd,R5⟩:=T
   refine ⟨by decide,fun p hp=>?_⟩
   have X:=d5.new hp (.lst [.ref al])
   have u5:=d5.urn (S5.trans X) u4
   refine ⟨D,p,ts,_,cc,pR ks,[c0],rfl,SqL.of (X _ _ e5),R5.same X,SqL.of b8,.cons (X _ _ (S5 _ _ eal)) .nil,R,fun r zs ps H6 S6 fr er nr tp ep=>?_⟩
   exact hN _ _ ⟨r,zs,ps,rfl,S5.trans (X.trans S6),⟨X9 u5 fr,er,nr⟩,tp,ep⟩
 rintro σ H5 ⟨du,zs,ps,rfl,S5,D5,tp,ep⟩
 have u5:=d5.urn S5 u4
 have L5:=L4.same S5
 have eal5:=S5 _ _ eal
 have lps:=V4 R tp ep
 rw [ad8 Pr _ (Nat.le_refl _),lpk] at lps
 have lzs:=D5.nums.length
 have good:K9 (B7 ks) (w9 c0)=true:=by
  show (decide ((ks.map w9).length≤14) && (T3 (w9 c0) && !eqD (w9 c0) (w9 0)) && (ks.map w9).all R7)=true
  rw [decide_eq_true (by rw [List.length_map];lia),aL7,al1,decide_eq_false c1]
  simp only [Bool.not_false,Bool.and_true,Bool.true_and]
  rw [List.all_map,List.all_eq_true]
  intro q hq
  show R7 (w9 q)=true
  rw [aK9]
  exact decide_eq_true (at8 (hks q hq).2)
 have bkD:∀ d∈ks.map w9,P7 d:=fun d hd=>by
  obtain ⟨q,hq,rfl⟩:=List.mem_map.mp hd
  exact al7 (Nat.lt_of_lt_of_le (hks q hq).1.d (d6 (by lia)))
 have ask:∀ {Hx:Hp} {a:Addr} {Q':VK},v3 Hx u→LsX u Hx a xs ks→Hx al=some (.tup (t8 c0))→(∀ r zs' H',d5 Hx H'→Hx r=none→LsX u H' r zs' ps→Q' (.ref r) H')→aj1 K [.ref a,.ref al] Hx Q' E0:=fun {Hx a Q'} ux La ea kk=>by
  refine ⟨_,_,B7 ks,w9 c0,rfl,La.isD,M9 (SqT.of ea),al7 (Nat.lt_of_lt_of_le bc.d (d6 (by omega))),fun ds e=>?_,fun z=>absurd z (by rw [good];decide),fun _=>⟨a,al,xs,ks,c0,cc,rfl,rfl,SqL.of La.at',La.nums,ea,R,fun r zs' ps' H' S' fr er nr tp' ep'=>?_⟩⟩
  ·unfold B7 at e
   injection e with e
   rw [←e];exact ⟨by rw [List.length_map];lia,bkD⟩
  ·have:=aO6 tp' tp (by rw [ep',ep])
   subst this
   exact kk r zs' H' S' fr ⟨X9 ux fr,er,nr⟩
 refine e9 (fun σ H6=>∃ ha,σ=[some (.ref u),some (.int kd),some (.int (m:Int)),some (.ref na),some (.ref al),some (.ref du),some (.ref ha),none]∧d5 H5 H6∧H5 ha=none∧LsX u H6 ha xs ks) (fun N hN=>?_) ?_
 ·subst_eqs
  refine ⟨xs,.inl (SqL.of L5.at'),fun l hl=>?_⟩
  have X:=d5.new hl (.lst xs)
  exact hN _ _ ⟨l,rfl,X,hl,X9 u5 hl,b8,L5.nums.mono X.tups⟩
 rintro σ H6 ⟨ha,rfl,S6,fh,L6⟩
 have u6:=d5.urn S6 u5
 refine e9 (fun σ H7=>∃ td zs',σ=[some (.ref u),some (.int kd),some (.int (m:Int)),some (.ref na),some (.ref al),some (.ref du),some (.ref ha),some (.ref td)]∧d5 H6 H7∧H6 td=none∧LsX u H7 td zs' ps) (fun N hN=>?_) ?_
 ·subst_eqs
  exact ask u6 L6 (S6 _ _ eal5) fun r zs' H7 S7 fr Lr=>hN _ _ ⟨r,zs',rfl,S7,fr,Lr⟩
 rintro σ H7 ⟨td,zs',rfl,S7,ftd,Lt⟩
 have S57:=S6.trans S7
 have lz':=Lt.nums.length
 obtain ⟨σ0,hσ⟩:∃ σ0:L2.St,σ0=[some (.ref u),some (.int kd),some (.int (m:Int)),some (.ref na),some (.ref al),some (.ref du),some (.ref ha),some (.ref td)]:=⟨_,rfl⟩
 refine e9 (fun σ H8=>σ=σ0∧d5 H7 H8) (fun N hN=>?_) ?_
 ·subst_eqs
  have D7:=D5.same S57
  refine ⟨B7 ps,B7 ps,rfl,Lt.isD,D7.isD,N5 _ _,by have:=U4 ps;lia,?_⟩
  rw [N8]
  simp only [decide_true,Bool.not_true]
  refine ⟨false,rfl,t9 (fun z=>absurd z (by decide)) (fun _=>?_)⟩
  obtain ⟨B,B0,hB,o1,o2⟩:=ag1 R (pR ks).length (Nat.le_refl _)
  have ub:=R.ub (n:=(pR ks).length) (Nat.le_refl _)
  refine ⟨td,zs',ps,rfl,Lt.at',Lt.nums,fun p hp=>?_,by lia,tp,fun H8 S8=>⟨true,rfl,t9 (fun z=>absurd z (by decide)) (fun _=>?_)⟩⟩
  ·have:=aF9 B0 (Nat.lt_of_lt_of_le hB (d6 (Nat.le_succ _))) (Y5 (by rw [ep];exact OvP.add B0 o1 o2) p hp)
   exact Nat.lt_of_lt_of_le this.d (d6 (by lia))
  refine ⟨B7 ks,B7 ks,rfl,(L6.same (S7.trans S8)).isD,(L5.same (S57.trans S8)).isD,N5 _ _,by have:=U4 ks;lia,?_⟩
  rw [N8]
  simp only [decide_true,Bool.not_true]
  exact ⟨false,rfl,t9 (fun z=>absurd z (by decide)) (fun _=>hN _ _ ⟨hσ.symm,S8⟩)⟩
 rintro σ H8 ⟨eσ,S8⟩
 rw [eσ,hσ]
 clear eσ σ
 refine e9 (fun σ H9=>σ=σ0∧d5 H7 H9) (fun N hN=>?_) ?_
 ·subst_eqs
  have D8:=D5.same (S57.trans S8)
  refine ⟨zs,.inl (SqL.of D8.at'),fun l hl=>?_⟩
  have X:=d5.new hl (.lst zs)
  refine ⟨l,zs,ps,cc,ks,c0,rfl,SqL.of b8,D8.nums.mono X.tups,R,fun q hq=>(hks q hq).2,tp,ep,fun r pa pl ys H9 S9 er epa nys epl=>⟨by decide,fun p hp=>?_⟩⟩
  have Y:=d5.new hp (.tup [.str "parts",.ref na,.ref al])
  have ss:=S57.trans (S8.trans (X.trans (S9.trans Y)))
  refine ⟨dP3 ks c0,dP3 ks c0,rfl,.tup (SqT.of (Y _ _ er)) (.cons (.v rfl) (.cons (M8 (SqL.of (Y _ _ epa)) (nys.mono Y.tups)) (.cons (M9 (SqT.of (Y _ _ epl))) .nil))),.tup (SqT.of b8) (.cons (.v rfl) (.cons (L5.same ss).isD (.cons (M9 (SqT.of (ss _ _ eal5))) .nil))),bs4 _ _,bx2 _ _,?_⟩
  rw [bu4]
  exact ⟨false,rfl,t9 (fun z=>absurd z (by decide)) (fun _=>hN _ _ ⟨hσ.symm,S8.trans (X.trans (S9.trans Y))⟩)⟩
 rintro σ H9 ⟨eσ,S9⟩
 rw [eσ,hσ]
 clear eσ σ
 refine e9 (fun σ H10=>σ=σ0∧d5 H7 H10) (fun N hN=>?_) ?_
 ·subst_eqs
  have D9:=D5.same (S57.trans S9)
  refine ⟨zs,.inl (SqL.of D9.at'),fun l hl=>?_⟩
  have X:=d5.new hl (.lst zs)
  refine ⟨l,zs,ps,cc,pR ks,[c0],c0,rfl,SqL.of b8,D9.nums.mono X.tups,R,Pr,by rw [lpk,lk];exact hub,tp,ep,fun H10 S10=>⟨true,rfl,t9 (fun z=>by cases z) (fun _=>hN _ _ ⟨hσ.symm,S9.trans (X.trans S10)⟩)⟩⟩
 rintro σ H10 ⟨eσ,S10⟩
 rw [eσ,hσ]
 clear eσ σ
 have ftd5:H5 td=none:=S6.free ftd
 refine e9 (fun σ H11=>σ=σ0∧d5 H5 H11∧H11 ha=some (.lst xs)) (fun N hN=>?_) ?_
 ·subst_eqs
  have Lt10:=Lt.same S10
  refine ⟨.inl ⟨_,SqL.of Lt10.at'⟩,y7,fun p hp=>?_⟩
  have X:=d5.new hp (.tup [.int 1,.int 1])
  have ne:ha≠td:=g9 L6.at' ftd
  exact ⟨zs',X _ _ Lt10.at',Nat.lt_of_le_of_lt (show _≤100 by lia) (by decide),hN _ _ ⟨hσ.symm,(S57.trans (S10.trans X)).over ftd5 _,by rw [j0 ne];exact X _ _ (S10 _ _ (S7 _ _ L6.at'))⟩⟩
 rintro σ H11 ⟨eσ,S11,eha⟩
 rw [eσ,hσ]
 clear eσ σ
 refine e9 (fun σ H12=>σ=σ0∧d5 H5 H12) (fun N hN=>?_) ?_
 ·subst_eqs
  refine ⟨.inl ⟨_,SqL.of eha⟩,y7,fun p hp=>?_⟩
  have X:=d5.new hp (.tup [.int 3,.int 1])
  exact ⟨xs,X _ _ eha,Nat.lt_of_le_of_lt (show _≤100 by lia) (by decide),hN _ _ ⟨hσ.symm,(S11.trans X).over fh _⟩⟩
 rintro σ H12 ⟨eσ,S12⟩
 rw [eσ,hσ]
 clear eσ σ
 refine e9 (fun σ H13=>σ=σ0∧d5 H5 H13) (fun N hN=>?_) ?_
 ·subst_eqs
  have L12:=L5.same S12
  have u12:=d5.urn S12 u5
  refine ⟨xs,.inl (SqL.of L12.at'),fun l hl=>?_⟩
  have X:=d5.new hl (.lst xs)
  refine ask (d5.urn X u12) ⟨X9 u12 hl,b8,L12.nums.mono X.tups⟩ (X _ _ (S12 _ _ eal5)) fun r zs2 H13 S13 fr Lr=>?_
  have ss:=S12.trans (X.trans S13)
  refine ⟨B7 ps,B7 ps,rfl,Lr.isD,(D5.same ss).isD,N5 _ _,by have:=U4 ps;omega,?_⟩
  rw [N8]
  simp only [decide_true,Bool.not_true]
  exact ⟨false,rfl,t9 (fun z=>absurd z (by decide)) (fun _=>hN _ _ ⟨hσ.symm,ss⟩)⟩
 rintro σ H13 ⟨eσ,S13⟩
 rw [eσ,hσ]
 clear eσ σ
 have u13:=d5.urn S13 u5
 subst_eqs
 have L13:=L5.same S13
 refine ⟨u,na,al,xs,ks,c0,rfl,u13,L13,S13 _ _ eal5,by lia,fun q hq=>(hks q hq).1.mono cc40,bc.mono cc40,fun H14 s14 u14=>⟨true,rfl,t9 (fun z=>absurd z (by decide)) (fun _=>?_)⟩⟩
 have L14:=L13.samex s14 u13
 have D14:=(D5.same S13).samex s14 u13
 refine ⟨xs,.inl (SqL.of L14.at'),fun l hl=>?_⟩
 have X:=d5.new hl (.lst xs)
 refine ask (d5.urn X u14) ⟨X9 u14 hl,b8,L14.nums.mono X.tups⟩ (X _ _ (s14.tups u13 _ _ (S13 _ _ eal5))) fun r zs2 H15 S15 fr Lr=>?_
 have ss:=X.trans S15
 refine ⟨B7 ps,B7 ps,rfl,Lr.isD,(D14.same ss).isD,N5 _ _,by have:=U4 ps;omega,?_⟩
 rw [N8]
 simp only [decide_true]
 exact k _ (s4.trans ((d5.x (S5.trans S13) u).trans (s14.trans (d5.x ss u)))) (d5.urn ss u14)
end
section
variable {P:Program} {w:World} {K:PySem.W.Frag} {mg:Str→Option Value} {base:Heap}
abbrev ag9:Stmt:=top 104
theorem bb7:i8 ["_law_script","_law_at"] ["_law_script"] (d3 ag9):=by and_intros
set_option maxHeartbeats 0 in
theorem bs3 {f g1 g2:Addr} {fd:FuncData} (F:Fun K "law" "law" ag9 f fd) (G__law_urn:Def P w K mg base CX0 1 "_law_urn" g1 ["_law_script","_law_at"] (bn3 K)) (G__law_right:Def P w K mg base CX0 9 "_law_right" g2 ["_law_urn_here"] (aS2 K))
  (n_range:mg "range" = none) (n_max:mg "max" = none) (n_min:mg "min" = none) (n_len:mg "len" = none):ae9 P w K mg base CX0 (9+1) f fd ["_law_script"] (aS3 K):=by
 refine F.ok (N:=["_law_script","_law_at"]) bb7 (fun vs H Q E ⟨x,y,h,_⟩=>by rw [h];rfl) (fun cdv A outer s H vs Q E hr h=>?_)
 obtain ⟨as,ns,rfl,hS,h63,k⟩:=h
 refine ⟨_,(b9 (R1 PassesOwn.never rfl (am8 rfl n_range (b6 (d8 (ap1 rfl) rfl n_max (by decide +kernel) (b6 d4 (b6 (d8 (aY0 rfl) rfl n_min (by decide +kernel) (b6 d4 (b6 (d8 i3 rfl n_len (by decide +kernel) (b6 (pv 0) b7)) b7))) b7))) b7)) (e8 (i:=1) bb7.nd rfl (Or.inl rfl)) (d7 (A0 (G0 (Q9 (d9 G__law_right hr (b6 (d9 G__law_urn hr (b6 (pv 0) (b6 (pv 1) b7)) i5) b7) i5))) (d7 (g8 G6)) m8)))
   (d7 (g8 G6))),?_⟩
 rw [show start ["_law_script","_law_at"] [.ref as]=[some (.ref as),none] from rfl]
 have hlen:(((ns.map V.int).length:Nat):Int)=(ns.length:Int):=by rw [List.length_map]
 refine ⟨_,rfl,as,_,rfl,.inl hS,3,_,rfl,1,_,rfl,_,rfl,?_,?_,aC0 (fun i σ H1=>∃ o1:Option V,σ=[some (.ref as),o1]∧SqL K H1 as (ns.map V.int)) ⟨_,rfl,hS⟩ ?_ ?_⟩
 ·rw [hlen];split <;> split <;> simp
 ·rw [hlen];split <;> split <;> lia
 ·rintro i σ H1 hi ⟨o1,rfl,hS1⟩
  rw [hlen] at hi
  have hi4:i<4:=by
   revert hi
   split <;> split <;> lia
  subst_eqs
  refine ⟨as,ns,_,rfl,hS1,by simp,by lia,fun u H2 s2 hu0 hu2=>?_⟩
  refine ⟨u,rfl,hu2,fun H3 s3 hu3=>?_⟩
  exact ⟨true,rfl,t9 (fun h=>absurd h (by decide)) (fun _=>((d5.x s2 u).trans s3).seq hu0 hS1)⟩
 ·rintro σ H1 ⟨o1,rfl,hS1⟩
  exact k H1
end
end R
set_option maxRecDepth 100000
def PySem.W.Fast.tw13039560082654123329:Unit:=()
def PySem.W.Fast.tw14190157691869055415:Unit:=()
def PySem.W.Fast.tw7222614610265059832:Unit:=()
def PySem.W.Fast.tw803979494639340732:Unit:=()
def PySem.W.Fast.tw6035143443972954323:Unit:=()
def PySem.W.Fast.tw873665630714413021:Unit:=()
def PySem.W.Fast.tw14588752542206480309:Unit:=()
def PySem.W.Fast.tw9629368304912255327:Unit:=()
def PySem.W.Fast.tw2193993535365694231:Unit:=()
def PySem.W.Fast.tw6699449751597714060:Unit:=()
def PySem.W.Fast.tw7660802173380436503:Unit:=()
def PySem.W.Fast.tw1280145522063163173:Unit:=()
def PySem.W.Fast.tw14136888798234047120:Unit:=()
def PySem.W.Fast.tw9883536171687807941:Unit:=()
def PySem.W.Fast.tw952282989460319837:Unit:=()
def PySem.W.Fast.tw16337388621647745167:Unit:=()
def PySem.W.Fast.tw12216075240231176471:Unit:=()
def PySem.W.Fast.tw18240943226300062061:Unit:=()
def PySem.W.Fast.tw11895944624618247797:Unit:=()
def PySem.W.Fast.tw1421442259118969146:Unit:=()
def PySem.W.Fast.tw4825781003876854150:Unit:=()
def PySem.W.Fast.tw16557958375176763240:Unit:=()
def PySem.W.Fast.tw2893217143292591193:Unit:=()
def PySem.W.Fast.tw11601324371498580455:Unit:=()
def PySem.W.Fast.tw1074178043145721554:Unit:=()
def PySem.W.Fast.tw14216847641725178192:Unit:=()
def PySem.W.Fast.tw9563667010378881252:Unit:=()
def PySem.W.Fast.tw10120916538064666908:Unit:=()
def PySem.W.Fast.tw3153471722653493891:Unit:=()
def PySem.W.Fast.tw3508723551162554018:Unit:=()
def PySem.W.Fast.tw11399232042429405703:Unit:=()
def PySem.W.Fast.tw1651511409020834134:Unit:=()
def PySem.W.Fast.tw18100135253321553782:Unit:=()
def PySem.W.Fast.tw664847470580508691:Unit:=()
def PySem.W.Fast.tw16025490719829169414:Unit:=()
def PySem.W.Fast.tw1573456763357124658:Unit:=()
def PySem.W.Fast.tw11870417272074131435:Unit:=()
def PySem.W.Fast.tw11633473604482969015:Unit:=()
def PySem.W.Fast.tw9462541106023911423:Unit:=()
def PySem.W.Fast.tw9206108801014292325:Unit:=()
def PySem.W.Fast.tw724801959402641012:Unit:=()
def PySem.W.Fast.tw11786047200782223000:Unit:=()
def PySem.W.Fast.tw5146494349430948051:Unit:=()
def PySem.W.Fast.tw5786463145697507798:Unit:=()
def PySem.W.Fast.tw12365768831311005784:Unit:=()
def PySem.W.Fast.tw11123992725799569209:Unit:=()
def PySem.W.Fast.tw2460582482053683914:Unit:=()
def PySem.W.Fast.tw3242509093440264023:Unit:=()
def PySem.W.Fast.tw16010985238925553792:Unit:=()
def PySem.W.Fast.tw13357399151300903547:Unit:=()
def PySem.W.Fast.tw7191360738238606836:Unit:=()
def PySem.W.Fast.tw2137464655316674657:Unit:=()
def PySem.W.Fast.tw17369331480843182520:Unit:=()
def PySem.W.Fast.tw15378579498142763903:Unit:=()
def PySem.W.Fast.tw3237447012075028638:Unit:=()
def PySem.W.Fast.tw5771353325663595482:Unit:=()
def PySem.W.Fast.tw127394824900797706:Unit:=()
def PySem.W.Fast.tw3368209891903514869:Unit:=()
def PySem.W.Fast.tw9817620279254109548:Unit:=()
def PySem.W.Fast.tw7187641265429945209:Unit:=()
def PySem.W.Fast.tw10606521793685556591:Unit:=()
def PySem.W.Fast.tw10587736131356901235:Unit:=()
def PySem.W.Fast.tw15580285263047080070:Unit:=()
def PySem.W.Fast.tw45483238915033378:Unit:=()
def PySem.W.Fast.tw9674625672332217320:Unit:=()
def PySem.W.Fast.tw9614493303447689664:Unit:=()
def PySem.W.Fast.tw2730030468574619552:Unit:=()
def PySem.W.Fast.tw4868815716387226558:Unit:=()
def PySem.W.Fast.tw1902489959731187733:Unit:=()
def PySem.W.Fast.tw11586228268459236571:Unit:=()
def PySem.W.Fast.tw8123090748893320083:Unit:=()
def PySem.W.Fast.tw8206550358431904491:Unit:=()
def PySem.W.Fast.tw7514263815542010608:Unit:=()
def PySem.W.Fast.tw2200559416422092737:Unit:=()
def PySem.W.Fast.tw3339780488011973667:Unit:=()
def PySem.W.Fast.tw3257375855524244546:Unit:=()
def PySem.W.Fast.tw499854237955553352:Unit:=()
def PySem.W.Fast.tw16784694901474122650:Unit:=()
def PySem.W.Fast.tw1063130158392901340:Unit:=()
def PySem.W.Fast.tw16333403146996510291:Unit:=()
def PySem.W.Fast.tw11558840132457570352:Unit:=()
def PySem.W.Fast.tw11966310813926548600:Unit:=()
def PySem.W.Fast.tw4277992487390230435:Unit:=()
def PySem.W.Fast.tw14066857792802626038:Unit:=()
def PySem.W.Fast.tw16885455307421417057:Unit:=()
def PySem.W.Fast.tw2030149882534897626:Unit:=()
def PySem.W.Fast.tw12795491791479686610:Unit:=()
def PySem.W.Fast.tw7546409859025569938:Unit:=()
def PySem.W.Fast.tw11217322733435864889:Unit:=()
def PySem.W.Fast.tw14391172355874166460:Unit:=()
def PySem.W.Fast.tw4182748033122887380:Unit:=()
def PySem.W.Fast.tw12935150312810219839:Unit:=()
def PySem.W.Fast.tw6932751530212334669:Unit:=()
def PySem.W.Fast.tw14425578961428736397:Unit:=()
def PySem.W.Fast.tw7835699297928367629:Unit:=()
def PySem.W.Fast.tw6294259109844885452:Unit:=()
def PySem.W.Fast.tw9554308646885781145:Unit:=()
def PySem.W.Fast.tw7383929437704132794:Unit:=()
def PySem.W.Fast.tw9766361280949822300:Unit:=()
def PySem.W.Fast.tw1535667900642386462:Unit:=()
def PySem.W.Fast.tw11335265827925702424:Unit:=()
def PySem.W.Fast.tw16362329697537966241:Unit:=()
def PySem.W.Fast.tw9568209879073640589:Unit:=()
def PySem.W.Fast.tw12740927351944590816:Unit:=()
def PySem.W.Fast.tw2072025303551405087:Unit:=()
def PySem.W.Fast.tw15648311541118803728:Unit:=()
def PySem.W.Fast.tw13479744896103733393:Unit:=()
def PySem.W.Fast.tw5730273206565182087:Unit:=()
def PySem.W.Fast.tw4365779063418081370:Unit:=()
def PySem.W.Fast.tw11869774826034177386:Unit:=()
def PySem.W.Fast.tw7764862522044480172:Unit:=()
def PySem.W.Fast.tw17074279472696046779:Unit:=()
def PySem.W.Fast.tw16217667136344688628:Unit:=()
def PySem.W.Fast.tw14644556496932037606:Unit:=()
def PySem.W.Fast.tw16268456334461297741:Unit:=()
def PySem.W.Fast.tw658532880809325608:Unit:=()
def PySem.W.Fast.tw8413872690251671701:Unit:=()
def PySem.W.Fast.tw4287225622444711191:Unit:=()
def PySem.W.Fast.tw5166447660707036637:Unit:=()
def PySem.W.Fast.tw7594016352396700259:Unit:=()
def PySem.W.Fast.tw2195630739172205016:Unit:=()
def PySem.W.Fast.tw17479755501032856893:Unit:=()
def PySem.W.Fast.tw5487791616863821381:Unit:=()
def PySem.W.Fast.tw12347003211126803680:Unit:=()
def PySem.W.Fast.tw52366840850202713:Unit:=()
def PySem.W.Fast.tw11957253718312481239:Unit:=()
def PySem.W.Fast.tw12265411443743904703:Unit:=()
def PySem.W.Fast.tw15923749213366913500:Unit:=()
def PySem.W.Fast.tw13873526317423669912:Unit:=()
def PySem.W.Fast.tw5746987335904852734:Unit:=()
def PySem.W.Fast.tw5147788312714984951:Unit:=()
def PySem.W.Fast.tw2490523715405366561:Unit:=()
def PySem.W.Fast.tw9392312509048238693:Unit:=()
def PySem.W.Fast.tw15530259548047632040:Unit:=()
def PySem.W.Fast.tw9885094395978619663:Unit:=()
def PySem.W.Fast.tw6748705182774690906:Unit:=()
def PySem.W.Fast.tw3478725666921163746:Unit:=()
def PySem.W.Fast.tw1319607071635462711:Unit:=()
def PySem.W.Fast.tw9640903775967494947:Unit:=()
def PySem.W.Fast.tw16954038336863981627:Unit:=()
def PySem.W.Fast.tw3629400763080540966:Unit:=()
def PySem.W.Fast.tw12921694097008160502:Unit:=()
def PySem.W.Fast.tw772720282605429499:Unit:=()
def PySem.W.Fast.tw10702661058900881790:Unit:=()
def PySem.W.Fast.tw6334593848485982327:Unit:=()
def PySem.W.Fast.tw13815263996477937916:Unit:=()
def PySem.W.Fast.tw207954985083688513:Unit:=()
def PySem.W.Fast.tw15554251574608593611:Unit:=()
def PySem.W.Fast.tw10699011945027447019:Unit:=()
def PySem.W.Fast.tw14528916166346147963:Unit:=()
def PySem.W.Fast.tw8853123070127728649:Unit:=()
def PySem.W.Fast.tw10724495934478623512:Unit:=()
def PySem.W.Fast.tw9912855595590685598:Unit:=()
def PySem.W.Fast.tw9481352297639984928:Unit:=()
def PySem.W.Fast.tw10949589887716750666:Unit:=()
def PySem.W.Fast.tw7413447899753644500:Unit:=()
def PySem.W.Fast.tw17411854477358447228:Unit:=()
def PySem.W.Fast.tw5159488840891763851:Unit:=()
def PySem.W.Fast.tw5674200977013523150:Unit:=()
def PySem.W.Fast.tw17941368605842740614:Unit:=()
def PySem.W.Fast.tw13420557930468985886:Unit:=()
def PySem.W.Fast.tw4211400153707037661:Unit:=()
def PySem.W.Fast.tw18048288555945971681:Unit:=()
def PySem.W.Fast.tw13618408461016299208:Unit:=()
def PySem.W.Fast.tw18083114206868425222:Unit:=()
def PySem.W.Fast.tw16638090306865782616:Unit:=()
def PySem.W.Fast.tw3233768728762024293:Unit:=()
def PySem.W.Fast.tw7089664351063672863:Unit:=()
def PySem.W.Fast.tw8487773861158761861:Unit:=()
def PySem.W.Fast.tw7448179075167035252:Unit:=()
def PySem.W.Fast.tw14538065331888919509:Unit:=()
def PySem.W.Fast.tw16742553939517119674:Unit:=()
def PySem.W.Fast.tw5989183978600905128:Unit:=()
def PySem.W.Fast.tw11169911151065413600:Unit:=()
def PySem.W.Fast.tw367225542523790764:Unit:=()
def PySem.W.Fast.tw261648505443176351:Unit:=()
def PySem.W.Fast.tw3295400799091979271:Unit:=()
def PySem.W.Fast.tw10880942658102009818:Unit:=()
def PySem.W.Fast.tw12203342165284165271:Unit:=()
def PySem.W.Fast.tw7553970492799986259:Unit:=()
def PySem.W.Fast.tw6869734708266148747:Unit:=()
def PySem.W.Fast.tw1283031449053172165:Unit:=()
def PySem.W.Fast.tw10645858022718974051:Unit:=()
def PySem.W.Fast.tw5995148644868923346:Unit:=()
def PySem.W.Fast.tw2283895721643300198:Unit:=()
def PySem.W.Fast.tw11713579862932778020:Unit:=()
def PySem.W.Fast.tw17555081436645952076:Unit:=()
def PySem.W.Fast.tw15541538257025351763:Unit:=()
def PySem.W.Fast.tw5569365441873092093:Unit:=()
def PySem.W.Fast.tw16660098525129857075:Unit:=()
def PySem.W.Fast.tw5101942387161063031:Unit:=()
def PySem.W.Fast.tw16862201200285716207:Unit:=()
def PySem.W.Fast.tw18096363034724201170:Unit:=()
def PySem.W.Fast.tw4176517976057613176:Unit:=()
def PySem.W.Fast.tw16916898400663159329:Unit:=()
def PySem.W.Fast.tw14823159451984496825:Unit:=()
def PySem.W.Fast.tw7573862808261800155:Unit:=()
def PySem.W.Fast.tw8265144595599305380:Unit:=()
def PySem.W.Fast.tw3590649649249051593:Unit:=()
def PySem.W.Fast.tw12932663208630865836:Unit:=()
def PySem.W.Fast.tw16038867079393650131:Unit:=()
def PySem.W.Fast.tw14066195393876288984:Unit:=()
def PySem.W.Fast.tw6977850708978852368:Unit:=()
def PySem.W.Fast.tw11903058397822083493:Unit:=()
def PySem.W.Fast.tw15346033717359508872:Unit:=()
def PySem.W.Fast.tw7253345622046582315:Unit:=()
def PySem.W.Fast.tw10283926615568140926:Unit:=()
def PySem.W.Fast.tw7985365805710949310:Unit:=()
def PySem.W.Fast.tw10393342694555743692:Unit:=()
def PySem.W.Fast.tw18093824531940425266:Unit:=()
def PySem.W.Fast.tw7340358285944130063:Unit:=()
def PySem.W.Fast.tw15437905283523072671:Unit:=()
def PySem.W.Fast.tw8919247018340931211:Unit:=()
def PySem.W.Fast.tw10936717987036872949:Unit:=()
def PySem.W.Fast.tw7850137852373574454:Unit:=()
def PySem.W.Fast.tw11115245590621585838:Unit:=()
def PySem.W.Fast.tw11977288234363724141:Unit:=()
def PySem.W.Fast.tw9718379938054850322:Unit:=()
def PySem.W.Fast.tw11084599857430109735:Unit:=()
def PySem.W.Fast.tw14096647670852390812:Unit:=()
def PySem.W.Fast.tw6714986107825194104:Unit:=()
def PySem.W.Fast.tw4650607771925698203:Unit:=()
def PySem.W.Fast.tw2020423605172214486:Unit:=()
def PySem.W.Fast.tw7720160586627736100:Unit:=()
def PySem.W.Fast.tw2925362958180509609:Unit:=()
def PySem.W.Fast.tw10454355236522146543:Unit:=()
def PySem.W.Fast.tw810872157744058541:Unit:=()
def PySem.W.Fast.tw10529869404750067460:Unit:=()
def PySem.W.Fast.tw7760436216240306262:Unit:=()
def PySem.W.Fast.tw3830405724634587874:Unit:=()
def PySem.W.Fast.tw13760804111753767317:Unit:=()
def PySem.W.Fast.tw6187117240188135333:Unit:=()
def PySem.W.Fast.tw8328044515075363718:Unit:=()
def PySem.W.Fast.tw12006181417507514850:Unit:=()
def PySem.W.Fast.tw12847769961605437485:Unit:=()
def PySem.W.Fast.tw15430639063018883003:Unit:=()
def PySem.W.Fast.tw1849103725382814405:Unit:=()
def PySem.W.Fast.tw8986564393071611698:Unit:=()
def PySem.W.Fast.tw371605573590773147:Unit:=()
def PySem.W.Fast.tw4269995596320507748:Unit:=()
def PySem.W.Fast.tw1256321473007581036:Unit:=()
def PySem.W.Fast.tw13377563635078681083:Unit:=()
def PySem.W.Fast.tw16031816230058716874:Unit:=()
def PySem.W.Fast.tw7518615276801816891:Unit:=()
def PySem.W.Fast.tw14299437835401201543:Unit:=()
def PySem.W.Fast.tw7430325136597823560:Unit:=()
def PySem.W.Fast.tw16889222186002155074:Unit:=()
def PySem.W.Fast.tw1626000235120217124:Unit:=()
def PySem.W.Fast.tw9884945080750226546:Unit:=()
def PySem.W.Fast.tw2686511020902621066:Unit:=()
def PySem.W.Fast.tw2525136333629348205:Unit:=()
def PySem.W.Fast.tw1687451125619991435:Unit:=()
def PySem.W.Fast.tw9524941380230881333:Unit:=()
def PySem.W.Fast.tw11914554090841059431:Unit:=()
def PySem.W.Fast.tw15364145654982890747:Unit:=()
def PySem.W.Fast.tw16838261339729918013:Unit:=()
def PySem.W.Fast.tw14168157937874295589:Unit:=()
def PySem.W.Fast.tw5581365731019618966:Unit:=()
def PySem.W.Fast.tw12414416368466705764:Unit:=()
def PySem.W.Fast.tw8074104075258766265:Unit:=()
def PySem.W.Fast.tw18131127226372285329:Unit:=()
def PySem.W.Fast.tw6607091712664944617:Unit:=()
def PySem.W.Fast.tw14966198809587139624:Unit:=()
def PySem.W.Fast.tw17596493611085971497:Unit:=()
def PySem.W.Fast.tw4756262417152913981:Unit:=()
def PySem.W.Fast.tw2812047463359774872:Unit:=()
def PySem.W.Fast.tw974186531645219086:Unit:=()
def PySem.W.Fast.tw734560977747674539:Unit:=()
def PySem.W.Fast.tw10721676294147745560:Unit:=()
def PySem.W.Fast.tw7143487452964743028:Unit:=()
def PySem.W.Fast.tw11855165279603952667:Unit:=()
def PySem.W.Fast.tw15232692160453311085:Unit:=()
def PySem.W.Fast.tw16178183257588253661:Unit:=()
def PySem.W.Fast.tw1759146767277417803:Unit:=()
def PySem.W.Fast.tw13281185717860684103:Unit:=()
def PySem.W.Fast.tw12044281798141905679:Unit:=()
def PySem.W.Fast.tw1737957757885713565:Unit:=()
def PySem.W.Fast.tw17816232850461198881:Unit:=()
def PySem.W.Fast.tw10656050780319594541:Unit:=()
def PySem.W.Fast.tw11273699360782862684:Unit:=()
def PySem.W.Fast.tw9377893636993630460:Unit:=()
def PySem.W.Fast.tw18251950662188860122:Unit:=()
def PySem.W.Fast.tw17578766939608501290:Unit:=()
def PySem.W.Fast.tw13450852414428097210:Unit:=()
def PySem.W.Fast.tw13039132758037135744:Unit:=()
def PySem.W.Fast.tw14849679340093343505:Unit:=()
def PySem.W.Fast.tw17236131744464280289:Unit:=()
def PySem.W.Fast.tw17266087136301946629:Unit:=()
def PySem.W.Fast.tw6659368712432324685:Unit:=()
def PySem.W.Fast.tw7538586022453381806:Unit:=()
def PySem.W.Fast.tw1026337132537697790:Unit:=()
def PySem.W.Fast.tw17392095422671420499:Unit:=()
def PySem.W.Fast.tw574517961851449995:Unit:=()
def PySem.W.Fast.tw16581665740965507153:Unit:=()
def PySem.W.Fast.tw9406622097501281958:Unit:=()
def PySem.W.Fast.tw1357555268496146031:Unit:=()
def PySem.W.Fast.tw8436033733780950743:Unit:=()
def PySem.W.Fast.tw440040244144249930:Unit:=()
def PySem.W.Fast.tw9948702955194791173:Unit:=()
def PySem.W.Fast.tw13667818849049339594:Unit:=()
def PySem.W.Fast.tw16375214594844712586:Unit:=()
def PySem.W.Fast.tw4007887266811062312:Unit:=()
def PySem.W.Fast.tw5883830081649687680:Unit:=()
def PySem.W.Fast.tw12763508829225004105:Unit:=()
def PySem.W.Fast.tw14005789795470354248:Unit:=()
def PySem.W.Fast.tw8570011139681819001:Unit:=()
def PySem.W.Fast.tw13894806358525701398:Unit:=()
def PySem.W.Fast.tw11501347188305760095:Unit:=()
def PySem.W.Fast.tw17169244741192610259:Unit:=()
def PySem.W.Fast.tw11939373355700217792:Unit:=()
def PySem.W.Fast.tw14216492883862290554:Unit:=()
def PySem.W.Fast.tw3815955213570751260:Unit:=()
def PySem.W.Fast.tw10919435311005759508:Unit:=()
def PySem.W.Fast.tw16255931407239031841:Unit:=()
def PySem.W.Fast.tw8365811488002723828:Unit:=()
def PySem.W.Fast.tw7892258734830112708:Unit:=()
def PySem.W.Fast.tw11081714947616493327:Unit:=()
def PySem.W.Fast.tw16963054095244790517:Unit:=()
def PySem.W.Fast.tw6309512846646848935:Unit:=()
def PySem.W.Fast.tw2975748677400223980:Unit:=()
def PySem.W.Fast.tw5620276292164955645:Unit:=()
def PySem.W.Fast.tw10457581194013446397:Unit:=()
def PySem.W.Fast.tw2678729866908428161:Unit:=()
def PySem.W.Fast.tw12851026469821464866:Unit:=()
def PySem.W.Fast.tw146234175392661335:Unit:=()
def PySem.W.Fast.tw7551724910855278286:Unit:=()
def PySem.W.Fast.tw2004089133324610179:Unit:=()
def PySem.W.Fast.tw915016029163576369:Unit:=()
def PySem.W.Fast.tw8044613372143514123:Unit:=()
def PySem.W.Fast.tw14504199124241597982:Unit:=()
def PySem.W.Fast.tw3074260544130972577:Unit:=()
def PySem.W.Fast.tw15346099623610244946:Unit:=()
def PySem.W.Fast.tw10284232401894119522:Unit:=()
def PySem.W.Fast.tw15595704366646176908:Unit:=()
def PySem.W.Fast.tw5745678701118655093:Unit:=()
def PySem.W.Fast.tw4519691254540836190:Unit:=()
def PySem.W.Fast.tw11340314488660627496:Unit:=()
def PySem.W.Fast.tw15971406216029629289:Unit:=()
def PySem.W.Fast.tw18040306309394569325:Unit:=()
def PySem.W.Fast.tw7531355567659654458:Unit:=()
def PySem.W.Fast.tw5495144435052932809:Unit:=()
def PySem.W.Fast.tw1213730154080581644:Unit:=()
def PySem.W.Fast.tw9865299052286130353:Unit:=()
def PySem.W.Fast.tw10231941780070842059:Unit:=()
def PySem.W.Fast.tw13243342096658085392:Unit:=()
def PySem.W.Fast.tw10895280559107654982:Unit:=()
def PySem.W.Fast.tw1416843736335405560:Unit:=()
def PySem.W.Fast.tw16574583793417427941:Unit:=()
def PySem.W.Fast.tw16314819497654690913:Unit:=()
def PySem.W.Fast.tw6379548540403064636:Unit:=()
def PySem.W.Fast.tw15023647595954133676:Unit:=()
def PySem.W.Fast.tw3682153452807350411:Unit:=()
def PySem.W.Fast.tw7924205164509947351:Unit:=()
def PySem.W.Fast.tw4926788636642936542:Unit:=()
def PySem.W.Fast.tw9431331741646818777:Unit:=()
def PySem.W.Fast.tw8620672568523068639:Unit:=()
def PySem.W.Fast.tw10482501285802639:Unit:=()
def PySem.W.Fast.tw2669780784085492445:Unit:=()
def PySem.W.Fast.tw8413478107408551935:Unit:=()
def PySem.W.Fast.tw3784634602225669682:Unit:=()
def PySem.W.Fast.tw2703098784569973817:Unit:=()
def PySem.W.Fast.tw2285687256384488927:Unit:=()
def PySem.W.Fast.tw18089064202890202527:Unit:=()
def PySem.W.Fast.tw12203299476367853764:Unit:=()
def PySem.W.Fast.tw1440744943382508102:Unit:=()
def PySem.W.Fast.tw584690438199749231:Unit:=()
def PySem.W.Fast.tw7049550363929782709:Unit:=()
def PySem.W.Fast.tw4697070396213328182:Unit:=()
def PySem.W.Fast.tw19826486523775455:Unit:=()
def PySem.W.Fast.tw2883842592075742614:Unit:=()
def PySem.W.Fast.tw2673888867486000010:Unit:=()
def PySem.W.Fast.tw4885669372731228319:Unit:=()
def PySem.W.Fast.tw7328360420806946174:Unit:=()
def PySem.W.Fast.tw1555087560596101064:Unit:=()
def PySem.W.Fast.tw4621924978315037678:Unit:=()
def PySem.W.Fast.tw3372573850449137297:Unit:=()
def PySem.W.Fast.tw9913336244873462560:Unit:=()
def PySem.W.Fast.tw8657730185086110379:Unit:=()
def PySem.W.Fast.tw15378529197592502184:Unit:=()
def PySem.W.Fast.tw3820078992182702149:Unit:=()
def PySem.W.Fast.tw10562737790383156782:Unit:=()
def PySem.W.Fast.tw16904901417813636257:Unit:=()
def PySem.W.Fast.tw1462411250800010793:Unit:=()
def PySem.W.Fast.tw2253915815887592294:Unit:=()
def PySem.W.Fast.tw13007834130858780489:Unit:=()
def PySem.W.Fast.tw16488070695931771564:Unit:=()
def PySem.W.Fast.tw18416798553766429263:Unit:=()
def PySem.W.Fast.tw15002275471201496816:Unit:=()
def PySem.W.Fast.tw10864265151561727941:Unit:=()
def PySem.W.Fast.tw12207125535582216555:Unit:=()
def PySem.W.Fast.tw16535546651889444899:Unit:=()
def PySem.W.Fast.tw17270829330025581303:Unit:=()
def PySem.W.Fast.tw6046469763603820088:Unit:=()
def PySem.W.Fast.tw5235947390226740232:Unit:=()
def PySem.W.Fast.tw12100012888555040411:Unit:=()
def PySem.W.Fast.tw5095647779175883413:Unit:=()
def PySem.W.Fast.tw16450987317837767333:Unit:=()
def PySem.W.Fast.tw12201874720867808937:Unit:=()
def PySem.W.Fast.tw5208894490252156736:Unit:=()
def PySem.W.Fast.tw9166472889640668:Unit:=()
def PySem.W.Fast.tw7547586125988718636:Unit:=()
def PySem.W.Fast.tw7734955203535155387:Unit:=()
def PySem.W.Fast.tw3424364250371076258:Unit:=()
def PySem.W.Fast.tw1394277352790875963:Unit:=()
def PySem.W.Fast.tw4681454770251349933:Unit:=()
def PySem.W.Fast.tw6846599326735380727:Unit:=()
def PySem.W.Fast.tw13555164994083376674:Unit:=()
def PySem.W.Fast.tw6629788939501906351:Unit:=()
def PySem.W.Fast.tw14874698837410771669:Unit:=()
def PySem.W.Fast.tw257968138154947058:Unit:=()
def PySem.W.Fast.tw6365911475129096935:Unit:=()
def PySem.W.Fast.tw10283684881843768276:Unit:=()
def PySem.W.Fast.tw7916792082616266249:Unit:=()
def PySem.W.Fast.tw16020082096655454168:Unit:=()
def PySem.W.Fast.tw6378879684767592397:Unit:=()
def PySem.W.Fast.tw2172946842785288654:Unit:=()
def PySem.W.Fast.tw8578147208175958541:Unit:=()
def PySem.W.Fast.tw3769077681090896803:Unit:=()
def PySem.W.Fast.tw670923984917088955:Unit:=()
def PySem.W.Fast.tw10527289104830950074:Unit:=()
def PySem.W.Fast.tw6363286619044894950:Unit:=()
def PySem.W.Fast.tw4646918305514703123:Unit:=()
def PySem.W.Fast.tw8726220757688144338:Unit:=()
def PySem.W.Fast.tw15044876501344037315:Unit:=()
def PySem.W.Fast.tw2876322682027550818:Unit:=()
def PySem.W.Fast.tw9429015457331042704:Unit:=()
def PySem.W.Fast.tw15065889736385330260:Unit:=()
def PySem.W.Fast.tw15220493100325429330:Unit:=()
def PySem.W.Fast.tw196844682306530645:Unit:=()
def PySem.W.Fast.tw735608163871113526:Unit:=()
def PySem.W.Fast.tw3053412422765787699:Unit:=()
def PySem.W.Fast.tw3454461558399308472:Unit:=()
def PySem.W.Fast.tw9936463169724754962:Unit:=()
def PySem.W.Fast.tw10172112484950925636:Unit:=()
def PySem.W.Fast.tw5391160130518893678:Unit:=()
def PySem.W.Fast.tw11908345587967728941:Unit:=()
def PySem.W.Fast.tw17900531772061779312:Unit:=()
def PySem.W.Fast.tw7436860998760263947:Unit:=()
def PySem.W.Fast.tw10487300425214440187:Unit:=()
namespace R
open PySem L2 PyProof.Rows
section
variable {l:PySem.W.OpenLaw} {w:World} {K:PySem.W.Frag} {h:Heap} {mg:Str→Option Value}
set_option maxHeartbeats 0 in
theorem bv1 {fa f0 f1 f2 f3 f4 f5 f6 f7 f8 f9 f10 f11 f12 f13 f14 f15 f16 f17 f18 f19 f20 f21 f22 f23 f24 f25 f26 f27 f28 f29 f30 f31 f32 f33 f34 f35 f36 f37 f38 f39 f40 f41 f42 f43 f44 f45 f46 f47 f48 f49 f50:Addr} {C_NoFraction C_NoPolynomial C_NoStretch C_NoRow C_NoPair C_NoBack C_NoForm C_NoParts C_NoDegree C_NoSteps C_NoBox C_NoGain C_NoText C_NoLine C_NoName C_NoDeed C_RestError:Addr} {od0 an0:Option Addr} {sl0:Array (Option Value)} {oc0 kV0 dc0 pm0 cd0 ct0:Value} {od1 an1:Option Addr} {sl1:Array (Option Value)} {oc1 kV1 dc1 pm1 cd1 ct1:Value} {od2 an2:Option Addr} {sl2:Array (Option Value)} {oc2 kV2 dc2 pm2 cd2 ct2:Value} {od3 an3:Option Addr} {sl3:Array (Option Value)} {oc3 kV3 dc3 pm3 cd3 ct3:Value} {od4 an4:Option Addr} {sl4:Array (Option Value)} {oc4 kV4 dc4 pm4 cd4 ct4:Value} {od5 an5:Option Addr} {sl5:Array (Option Value)} {oc5 kV5 dc5 pm5 cd5 ct5:Value} {od6 an6:Option Addr} {sl6:Array (Option Value)} {oc6 kV6 dc6 pm6 cd6 ct6:Value} {od7 an7:Option Addr} {sl7:Array (Option Value)} {oc7 kV7 dc7 pm7 cd7 ct7:Value} {od8 an8:Option Addr} {sl8:Array (Option Value)} {oc8 kV8 dc8 pm8 cd8 ct8:Value} {od9 an9:Option Addr} {sl9:Array (Option Value)} {oc9 kV9 dc9 pm9 cd9 ct9:Value} {od10 an10:Option Addr} {sl10:Array (Option Value)} {oc10 kV10 dc10 pm10 cd10 ct10:Value} {od11 an11:Option Addr} {sl11:Array (Option Value)} {oc11 kV11 dc11 pm11 cd11 ct11:Value} {od12 an12:Option Addr} {sl12:Array (Option Value)} {oc12 kV12 dc12 pm12 cd12 ct12:Value} {od13 an13:Option Addr} {sl13:Array (Option Value)} {oc13 kV13 dc13 pm13 cd13 ct13:Value} {od14 an14:Option Addr} {sl14:Array (Option Value)} {oc14 kV14 dc14 pm14 cd14 ct14:Value} {od15 an15:Option Addr} {sl15:Array (Option Value)} {oc15 kV15 dc15 pm15 cd15 ct15:Value} {od16 an16:Option Addr} {sl16:Array (Option Value)} {oc16 kV16 dc16 pm16 cd16 ct16:Value} {od17 an17:Option Addr} {sl17:Array (Option Value)} {oc17 kV17 dc17 pm17 cd17 ct17:Value} {od18 an18:Option Addr} {sl18:Array (Option Value)} {oc18 kV18 dc18 pm18 cd18 ct18:Value} {od19 an19:Option Addr} {sl19:Array (Option Value)} {oc19 kV19 dc19 pm19 cd19 ct19:Value} {od20 an20:Option Addr} {sl20:Array (Option Value)} {oc20 kV20 dc20 pm20 cd20 ct20:Value} {od21 an21:Option Addr} {sl21:Array (Option Value)} {oc21 kV21 dc21 pm21 cd21 ct21:Value} {od22 an22:Option Addr} {sl22:Array (Option Value)} {oc22 kV22 dc22 pm22 cd22 ct22:Value} {od23 an23:Option Addr} {sl23:Array (Option Value)} {oc23 kV23 dc23 pm23 cd23 ct23:Value} {od24 an24:Option Addr} {sl24:Array (Option Value)} {oc24 kV24 dc24 pm24 cd24 ct24:Value} {od25 an25:Option Addr} {sl25:Array (Option Value)} {oc25 kV25 dc25 pm25 cd25 ct25:Value} {od26 an26:Option Addr} {sl26:Array (Option Value)} {oc26 kV26 dc26 pm26 cd26 ct26:Value} {od27 an27:Option Addr} {sl27:Array (Option Value)} {oc27 kV27 dc27 pm27 cd27 ct27:Value} {od28 an28:Option Addr} {sl28:Array (Option Value)} {oc28 kV28 dc28 pm28 cd28 ct28:Value} {od29 an29:Option Addr} {sl29:Array (Option Value)} {oc29 kV29 dc29 pm29 cd29 ct29:Value} {od30 an30:Option Addr} {sl30:Array (Option Value)} {oc30 kV30 dc30 pm30 cd30 ct30:Value} {od31 an31:Option Addr} {sl31:Array (Option Value)} {oc31 kV31 dc31 pm31 cd31 ct31:Value} {od32 an32:Option Addr} {sl32:Array (Option Value)} {oc32 kV32 dc32 pm32 cd32 ct32:Value} {od33 an33:Option Addr} {sl33:Array (Option Value)} {oc33 kV33 dc33 pm33 cd33 ct33:Value} {od34 an34:Option Addr} {sl34:Array (Option Value)} {oc34 kV34 dc34 pm34 cd34 ct34:Value} {od35 an35:Option Addr} {sl35:Array (Option Value)} {oc35 kV35 dc35 pm35 cd35 ct35:Value} {od36 an36:Option Addr} {sl36:Array (Option Value)} {oc36 kV36 dc36 pm36 cd36 ct36:Value} {od37 an37:Option Addr} {sl37:Array (Option Value)} {oc37 kV37 dc37 pm37 cd37 ct37:Value} {od38 an38:Option Addr} {sl38:Array (Option Value)} {oc38 kV38 dc38 pm38 cd38 ct38:Value} {od39 an39:Option Addr} {sl39:Array (Option Value)} {oc39 kV39 dc39 pm39 cd39 ct39:Value} {od40 an40:Option Addr} {sl40:Array (Option Value)} {oc40 kV40 dc40 pm40 cd40 ct40:Value} {od41 an41:Option Addr} {sl41:Array (Option Value)} {oc41 kV41 dc41 pm41 cd41 ct41:Value} {od42 an42:Option Addr} {sl42:Array (Option Value)} {oc42 kV42 dc42 pm42 cd42 ct42:Value} {od43 an43:Option Addr} {sl43:Array (Option Value)} {oc43 kV43 dc43 pm43 cd43 ct43:Value} {od44 an44:Option Addr} {sl44:Array (Option Value)} {oc44 kV44 dc44 pm44 cd44 ct44:Value} {od45 an45:Option Addr} {sl45:Array (Option Value)} {oc45 kV45 dc45 pm45 cd45 ct45:Value} {od46 an46:Option Addr} {sl46:Array (Option Value)} {oc46 kV46 dc46 pm46 cd46 ct46:Value} {od47 an47:Option Addr} {sl47:Array (Option Value)} {oc47 kV47 dc47 pm47 cd47 ct47:Value} {od48 an48:Option Addr} {sl48:Array (Option Value)} {oc48 kV48 dc48 pm48 cd48 ct48:Value} {od49 an49:Option Addr} {sl49:Array (Option Value)} {oc49 kV49 dc49 pm49 cd49 ct49:Value} {od50 an50:Option Addr} {sl50:Array (Option Value)} {oc50 kV50 dc50 pm50 cd50 ct50:Value} {t_SHORT:Tok} {t_LONG:Tok} {t_HIGHEST:Tok} {A_ONE:Addr} {td_ONE:Option Addr} {ts_ONE:Array (Option Value)} {tn_ONE:Nat} {tt0_ONE tt1_ONE:Tok} {A_NOUGHT:Addr} {td_NOUGHT:Option Addr} {ts_NOUGHT:Array (Option Value)} {tn_NOUGHT:Nat} {tt0_NOUGHT tt1_NOUGHT:Tok}
  (X:K.In h) (G:h.Ns mainGlobals mg) (hfa:mg "law" = some (.ref fa))
  (a0:PySem.W.nsIn K mainGlobals "common_divisor" = some (some (.ref f0)))
  (l0:K.lookup f0=some ⟨oc0,od0,.func (PySem.W.fnOf "common_divisor" "common_divisor" (i9 A9) (i6 A9) (d3 A9) .none kV0 dc0 pm0 an0 cd0 ct0),sl0⟩)
  (c0:PySem.W.codeIn K cd0 "common_divisor" = true) (k0:PySem.W.keepIn K (.ref f0)=true)
  (a1:PySem.W.nsIn K mainGlobals "times" = some (some (.ref f1)))
  (l1:K.lookup f1=some ⟨oc1,od1,.func (PySem.W.fnOf "times" "times" (i9 ac0) (i6 ac0) (d3 ac0) .none kV1 dc1 pm1 an1 cd1 ct1),sl1⟩)
  (c1:PySem.W.codeIn K cd1 "times" = true) (k1:PySem.W.keepIn K (.ref f1)=true)
  (a2:PySem.W.nsIn K mainGlobals "over" = some (some (.ref f2)))
  (l2:K.lookup f2=some ⟨oc2,od2,.func (PySem.W.fnOf "over" "over" (i9 ah6) (i6 ah6) (d3 ah6) .none kV2 dc2 pm2 an2 cd2 ct2),sl2⟩)
  (c2:PySem.W.codeIn K cd2 "over" = true) (k2:PySem.W.keepIn K (.ref f2)=true)
  (a3:PySem.W.nsIn K mainGlobals "content_of" = some (some (.ref f3)))
  (l3:K.lookup f3=some ⟨oc3,od3,.func (PySem.W.fnOf "content_of" "content_of" (i9 J2) (i6 J2) (d3 J2) .none kV3 dc3 pm3 an3 cd3 ct3),sl3⟩)
  (c3:PySem.W.codeIn K cd3 "content_of" = true) (k3:PySem.W.keepIn K (.ref f3)=true)
  (a4:PySem.W.nsIn K mainGlobals "cleared" = some (some (.ref f4)))
  (l4:K.lookup f4=some ⟨oc4,od4,.func (PySem.W.fnOf "cleared" "cleared" (i9 P6) (i6 P6) (d3 P6) .none kV4 dc4 pm4 an4 cd4 ct4),sl4⟩)
  (c4:PySem.W.codeIn K cd4 "cleared" = true) (k4:PySem.W.keepIn K (.ref f4)=true)
  (a5:PySem.W.nsIn K mainGlobals "lifted" = some (some (.ref f5)))
  (l5:K.lookup f5=some ⟨oc5,od5,.func (PySem.W.fnOf "lifted" "lifted" (i9 Q6) (i6 Q6) (d3 Q6) .none kV5 dc5 pm5 an5 cd5 ct5),sl5⟩)
  (c5:PySem.W.codeIn K cd5 "lifted" = true) (k5:PySem.W.keepIn K (.ref f5)=true)
  (a6:PySem.W.nsIn K mainGlobals "divisor_for_all" = some (some (.ref f6)))
  (l6:K.lookup f6=some ⟨oc6,od6,.func (PySem.W.fnOf "divisor_for_all" "divisor_for_all" (i9 z8) (i6 z8) (d3 z8) .none kV6 dc6 pm6 an6 cd6 ct6),sl6⟩)
  (c6:PySem.W.codeIn K cd6 "divisor_for_all" = true) (k6:PySem.W.keepIn K (.ref f6)=true)
  (a7:PySem.W.nsIn K mainGlobals "lowered" = some (some (.ref f7)))
  (l7:K.lookup f7=some ⟨oc7,od7,.func (PySem.W.fnOf "lowered" "lowered" (i9 T8) (i6 T8) (d3 T8) .none kV7 dc7 pm7 an7 cd7 ct7),sl7⟩)
  (c7:PySem.W.codeIn K cd7 "lowered" = true) (k7:PySem.W.keepIn K (.ref f7)=true)
  (a8:PySem.W.nsIn K mainGlobals "trimmed" = some (some (.ref f8)))
  (l8:K.lookup f8=some ⟨oc8,od8,.func (PySem.W.fnOf "trimmed" "trimmed" (i9 T7) (i6 T7) (d3 T7) .none kV8 dc8 pm8 an8 cd8 ct8),sl8⟩)
  (c8:PySem.W.codeIn K cd8 "trimmed" = true) (k8:PySem.W.keepIn K (.ref f8)=true)
  (a9:PySem.W.nsIn K mainGlobals "whole_divided" = some (some (.ref f9)))
  (l9:K.lookup f9=some ⟨oc9,od9,.func (PySem.W.fnOf "whole_divided" "whole_divided" (i9 v7) (i6 v7) (d3 v7) .none kV9 dc9 pm9 an9 cd9 ct9),sl9⟩)
  (c9:PySem.W.codeIn K cd9 "whole_divided" = true) (k9:PySem.W.keepIn K (.ref f9)=true)
  (a10:PySem.W.nsIn K mainGlobals "formed" = some (some (.ref f10)))
  (l10:K.lookup f10=some ⟨oc10,od10,.func (PySem.W.fnOf "formed" "formed" (i9 Q7) (i6 Q7) (d3 Q7) .none kV10 dc10 pm10 an10 cd10 ct10),sl10⟩)
  (c10:PySem.W.codeIn K cd10 "formed" = true) (k10:PySem.W.keepIn K (.ref f10)=true)
  (a11:PySem.W.nsIn K mainGlobals "form_divided" = some (some (.ref f11)))
  (l11:K.lookup f11=some ⟨oc11,od11,.func (PySem.W.fnOf "form_divided" "form_divided" (i9 D0) (i6 D0) (d3 D0) .none kV11 dc11 pm11 an11 cd11 ct11),sl11⟩)
  (c11:PySem.W.codeIn K cd11 "form_divided" = true) (k11:PySem.W.keepIn K (.ref f11)=true)
  (a12:PySem.W.nsIn K mainGlobals "whole_times" = some (some (.ref f12)))
  (l12:K.lookup f12=some ⟨oc12,od12,.func (PySem.W.fnOf "whole_times" "whole_times" (i9 E9) (i6 E9) (d3 E9) .none kV12 dc12 pm12 an12 cd12 ct12),sl12⟩)
  (c12:PySem.W.codeIn K cd12 "whole_times" = true) (k12:PySem.W.keepIn K (.ref f12)=true)
  (a13:PySem.W.nsIn K mainGlobals "whole_scaled" = some (some (.ref f13)))
  (l13:K.lookup f13=some ⟨oc13,od13,.func (PySem.W.fnOf "whole_scaled" "whole_scaled" (i9 B9) (i6 B9) (d3 B9) .none kV13 dc13 pm13 an13 cd13 ct13),sl13⟩)
  (c13:PySem.W.codeIn K cd13 "whole_scaled" = true) (k13:PySem.W.keepIn K (.ref f13)=true)
  (a14:PySem.W.nsIn K mainGlobals "whole_sum" = some (some (.ref f14)))
  (l14:K.lookup f14=some ⟨oc14,od14,.func (PySem.W.fnOf "whole_sum" "whole_sum" (i9 M0) (i6 M0) (d3 M0) .none kV14 dc14 pm14 an14 cd14 ct14),sl14⟩)
  (c14:PySem.W.codeIn K cd14 "whole_sum" = true) (k14:PySem.W.keepIn K (.ref f14)=true)
  (a15:PySem.W.nsIn K mainGlobals "form_times" = some (some (.ref f15)))
  (l15:K.lookup f15=some ⟨oc15,od15,.func (PySem.W.fnOf "form_times" "form_times" (i9 J1) (i6 J1) (d3 J1) .none kV15 dc15 pm15 an15 cd15 ct15),sl15⟩)
  (c15:PySem.W.codeIn K cd15 "form_times" = true) (k15:PySem.W.keepIn K (.ref f15)=true)
  (a16:PySem.W.nsIn K mainGlobals "form_sum" = some (some (.ref f16)))
  (l16:K.lookup f16=some ⟨oc16,od16,.func (PySem.W.fnOf "form_sum" "form_sum" (i9 O7) (i6 O7) (d3 O7) .none kV16 dc16 pm16 an16 cd16 ct16),sl16⟩)
  (c16:PySem.W.codeIn K cd16 "form_sum" = true) (k16:PySem.W.keepIn K (.ref f16)=true)
  (a17:PySem.W.nsIn K mainGlobals "put_together" = some (some (.ref f17)))
  (l17:K.lookup f17=some ⟨oc17,od17,.func (PySem.W.fnOf "put_together" "put_together" (i9 C9) (i6 C9) (d3 C9) .none kV17 dc17 pm17 an17 cd17 ct17),sl17⟩)
  (c17:PySem.W.codeIn K cd17 "put_together" = true) (k17:PySem.W.keepIn K (.ref f17)=true)
  (a18:PySem.W.nsIn K mainGlobals "poly" = some (some (.ref f18)))
  (l18:K.lookup f18=some ⟨oc18,od18,.func (PySem.W.fnOf "poly" "poly" (i9 ah5) (i6 ah5) (d3 ah5) .none kV18 dc18 pm18 an18 cd18 ct18),sl18⟩)
  (c18:PySem.W.codeIn K cd18 "poly" = true) (k18:PySem.W.keepIn K (.ref f18)=true)
  (a19:PySem.W.nsIn K mainGlobals "by_turns" = some (some (.ref f19)))
  (l19:K.lookup f19=some ⟨oc19,od19,.func (PySem.W.fnOf "by_turns" "by_turns" (i9 J3) (i6 J3) (d3 J3) .none kV19 dc19 pm19 an19 cd19 ct19),sl19⟩)
  (c19:PySem.W.codeIn K cd19 "by_turns" = true) (k19:PySem.W.keepIn K (.ref f19)=true)
  (a20:PySem.W.nsIn K mainGlobals "_law_low" = some (some (.ref f20)))
  (l20:K.lookup f20=some ⟨oc20,od20,.func (PySem.W.fnOf "_law_low" "_law_low" (i9 O9) (i6 O9) (d3 O9) .none kV20 dc20 pm20 an20 cd20 ct20),sl20⟩)
  (c20:PySem.W.codeIn K cd20 "_law_low" = true) (k20:PySem.W.keepIn K (.ref f20)=true)
  (a21:PySem.W.nsIn K mainGlobals "_law_urn" = some (some (.ref f21)))
  (l21:K.lookup f21=some ⟨oc21,od21,.func (PySem.W.fnOf "_law_urn" "_law_urn" (i9 O8) (i6 O8) (d3 O8) .none kV21 dc21 pm21 an21 cd21 ct21),sl21⟩)
  (c21:PySem.W.codeIn K cd21 "_law_urn" = true) (k21:PySem.W.keepIn K (.ref f21)=true)
  (a22:PySem.W.nsIn K mainGlobals "_law_draw" = some (some (.ref f22)))
  (l22:K.lookup f22=some ⟨oc22,od22,.func (PySem.W.fnOf "_law_draw" "_law_draw" (i9 M6) (i6 M6) (d3 M6) .none kV22 dc22 pm22 an22 cd22 ct22),sl22⟩)
  (c22:PySem.W.codeIn K cd22 "_law_draw" = true) (k22:PySem.W.keepIn K (.ref f22)=true)
  (a23:PySem.W.nsIn K mainGlobals "_law_kind" = some (some (.ref f23)))
  (l23:K.lookup f23=some ⟨oc23,od23,.func (PySem.W.fnOf "_law_kind" "_law_kind" (i9 M5) (i6 M5) (d3 M5) .none kV23 dc23 pm23 an23 cd23 ct23),sl23⟩)
  (c23:PySem.W.codeIn K cd23 "_law_kind" = true) (k23:PySem.W.keepIn K (.ref f23)=true)
  (a24:PySem.W.nsIn K mainGlobals "_law_number" = some (some (.ref f24)))
  (l24:K.lookup f24=some ⟨oc24,od24,.func (PySem.W.fnOf "_law_number" "_law_number" (i9 F0) (i6 F0) (d3 F0) .none kV24 dc24 pm24 an24 cd24 ct24),sl24⟩)
  (c24:PySem.W.codeIn K cd24 "_law_number" = true) (k24:PySem.W.keepIn K (.ref f24)=true)
  (a25:PySem.W.nsIn K mainGlobals "_law_whole" = some (some (.ref f25)))
  (l25:K.lookup f25=some ⟨oc25,od25,.func (PySem.W.fnOf "_law_whole" "_law_whole" (i9 J4) (i6 J4) (d3 J4) .none kV25 dc25 pm25 an25 cd25 ct25),sl25⟩)
  (c25:PySem.W.codeIn K cd25 "_law_whole" = true) (k25:PySem.W.keepIn K (.ref f25)=true)
  (a26:PySem.W.nsIn K mainGlobals "_law_is_number" = some (some (.ref f26)))
  (l26:K.lookup f26=some ⟨oc26,od26,.func (PySem.W.fnOf "_law_is_number" "_law_is_number" (i9 B4) (i6 B4) (d3 B4) .none kV26 dc26 pm26 an26 cd26 ct26),sl26⟩)
  (c26:PySem.W.codeIn K cd26 "_law_is_number" = true) (k26:PySem.W.keepIn K (.ref f26)=true)
  (a27:PySem.W.nsIn K mainGlobals "_law_other" = some (some (.ref f27)))
  (l27:K.lookup f27=some ⟨oc27,od27,.func (PySem.W.fnOf "_law_other" "_law_other" (i9 K2) (i6 K2) (d3 K2) .none kV27 dc27 pm27 an27 cd27 ct27),sl27⟩)
  (c27:PySem.W.codeIn K cd27 "_law_other" = true) (k27:PySem.W.keepIn K (.ref f27)=true)
  (a28:PySem.W.nsIn K mainGlobals "_law_trim" = some (some (.ref f28)))
  (l28:K.lookup f28=some ⟨oc28,od28,.func (PySem.W.fnOf "_law_trim" "_law_trim" (i9 M2) (i6 M2) (d3 M2) .none kV28 dc28 pm28 an28 cd28 ct28),sl28⟩)
  (c28:PySem.W.codeIn K cd28 "_law_trim" = true) (k28:PySem.W.keepIn K (.ref f28)=true)
  (a29:PySem.W.nsIn K mainGlobals "_law_is_poly" = some (some (.ref f29)))
  (l29:K.lookup f29=some ⟨oc29,od29,.func (PySem.W.fnOf "_law_is_poly" "_law_is_poly" (i9 C0) (i6 C0) (d3 C0) .none kV29 dc29 pm29 an29 cd29 ct29),sl29⟩)
  (c29:PySem.W.codeIn K cd29 "_law_is_poly" = true) (k29:PySem.W.keepIn K (.ref f29)=true)
  (a30:PySem.W.nsIn K mainGlobals "_law_plus" = some (some (.ref f30)))
  (l30:K.lookup f30=some ⟨oc30,od30,.func (PySem.W.fnOf "_law_plus" "_law_plus" (i9 M4) (i6 M4) (d3 M4) .none kV30 dc30 pm30 an30 cd30 ct30),sl30⟩)
  (c30:PySem.W.codeIn K cd30 "_law_plus" = true) (k30:PySem.W.keepIn K (.ref f30)=true)
  (a31:PySem.W.nsIn K mainGlobals "_law_times" = some (some (.ref f31)))
  (l31:K.lookup f31=some ⟨oc31,od31,.func (PySem.W.fnOf "_law_times" "_law_times" (i9 K1) (i6 K1) (d3 K1) .none kV31 dc31 pm31 an31 cd31 ct31),sl31⟩)
  (c31:PySem.W.codeIn K cd31 "_law_times" = true) (k31:PySem.W.keepIn K (.ref f31)=true)
  (a32:PySem.W.nsIn K mainGlobals "_law_poly_plus" = some (some (.ref f32)))
  (l32:K.lookup f32=some ⟨oc32,od32,.func (PySem.W.fnOf "_law_poly_plus" "_law_poly_plus" (i9 B3) (i6 B3) (d3 B3) .none kV32 dc32 pm32 an32 cd32 ct32),sl32⟩)
  (c32:PySem.W.codeIn K cd32 "_law_poly_plus" = true) (k32:PySem.W.keepIn K (.ref f32)=true)
  (a33:PySem.W.nsIn K mainGlobals "_law_poly_times" = some (some (.ref f33)))
  (l33:K.lookup f33=some ⟨oc33,od33,.func (PySem.W.fnOf "_law_poly_times" "_law_poly_times" (i9 A3) (i6 A3) (d3 A3) .none kV33 dc33 pm33 an33 cd33 ct33),sl33⟩)
  (c33:PySem.W.codeIn K cd33 "_law_poly_times" = true) (k33:PySem.W.keepIn K (.ref f33)=true)
  (a34:PySem.W.nsIn K mainGlobals "_law_folded" = some (some (.ref f34)))
  (l34:K.lookup f34=some ⟨oc34,od34,.func (PySem.W.fnOf "_law_folded" "_law_folded" (i9 F4) (i6 F4) (d3 F4) .none kV34 dc34 pm34 an34 cd34 ct34),sl34⟩)
  (c34:PySem.W.codeIn K cd34 "_law_folded" = true) (k34:PySem.W.keepIn K (.ref f34)=true)
  (a35:PySem.W.nsIn K mainGlobals "row_behind" = some (some (.ref f35)))
  (l35:K.lookup f35=some ⟨oc35,od35,.func (PySem.W.fnOf "row_behind" "row_behind" (i9 E5) (i6 E5) (d3 E5) .none kV35 dc35 pm35 an35 cd35 ct35),sl35⟩)
  (c35:PySem.W.codeIn K cd35 "row_behind" = true) (k35:PySem.W.keepIn K (.ref f35)=true)
  (a36:PySem.W.nsIn K mainGlobals "whole_dies" = some (some (.ref f36)))
  (l36:K.lookup f36=some ⟨oc36,od36,.func (PySem.W.fnOf "whole_dies" "whole_dies" (i9 E4) (i6 E4) (d3 E4) .none kV36 dc36 pm36 an36 cd36 ct36),sl36⟩)
  (c36:PySem.W.codeIn K cd36 "whole_dies" = true) (k36:PySem.W.keepIn K (.ref f36)=true)
  (a37:PySem.W.nsIn K mainGlobals "dies" = some (some (.ref f37)))
  (l37:K.lookup f37=some ⟨oc37,od37,.func (PySem.W.fnOf "dies" "dies" (i9 ah7) (i6 ah7) (d3 ah7) .none kV37 dc37 pm37 an37 cd37 ct37),sl37⟩)
  (c37:PySem.W.codeIn K cd37 "dies" = true) (k37:PySem.W.keepIn K (.ref f37)=true)
  (a38:PySem.W.nsIn K mainGlobals "is_whole" = some (some (.ref f38)))
  (l38:K.lookup f38=some ⟨oc38,od38,.func (PySem.W.fnOf "is_whole" "is_whole" (i9 O6) (i6 O6) (d3 O6) .none kV38 dc38 pm38 an38 cd38 ct38),sl38⟩)
  (c38:PySem.W.codeIn K cd38 "is_whole" = true) (k38:PySem.W.keepIn K (.ref f38)=true)
  (a39:PySem.W.nsIn K mainGlobals "is_number" = some (some (.ref f39)))
  (l39:K.lookup f39=some ⟨oc39,od39,.func (PySem.W.fnOf "is_number" "is_number" (i9 M1) (i6 M1) (d3 M1) .none kV39 dc39 pm39 an39 cd39 ct39),sl39⟩)
  (c39:PySem.W.codeIn K cd39 "is_number" = true) (k39:PySem.W.keepIn K (.ref f39)=true)
  (a40:PySem.W.nsIn K mainGlobals "_law_which" = some (some (.ref f40)))
  (l40:K.lookup f40=some ⟨oc40,od40,.func (PySem.W.fnOf "_law_which" "_law_which" (i9 K0) (i6 K0) (d3 K0) .none kV40 dc40 pm40 an40 cd40 ct40),sl40⟩)
  (c40:PySem.W.codeIn K cd40 "_law_which" = true) (k40:PySem.W.keepIn K (.ref f40)=true)
  (a41:PySem.W.nsIn K mainGlobals "are_parts" = some (some (.ref f41)))
  (l41:K.lookup f41=some ⟨oc41,od41,.func (PySem.W.fnOf "are_parts" "are_parts" (i9 G5) (i6 G5) (d3 G5) .none kV41 dc41 pm41 an41 cd41 ct41),sl41⟩)
  (c41:PySem.W.codeIn K cd41 "are_parts" = true) (k41:PySem.W.keepIn K (.ref f41)=true)
  (a42:PySem.W.nsIn K mainGlobals "from_parts" = some (some (.ref f42)))
  (l42:K.lookup f42=some ⟨oc42,od42,.func (PySem.W.fnOf "from_parts" "from_parts" (i9 E6) (i6 E6) (d3 E6) .none kV42 dc42 pm42 an42 cd42 ct42),sl42⟩)
  (c42:PySem.W.codeIn K cd42 "from_parts" = true) (k42:PySem.W.keepIn K (.ref f42)=true)
  (a43:PySem.W.nsIn K mainGlobals "division_forms" = some (some (.ref f43)))
  (l43:K.lookup f43=some ⟨oc43,od43,.func (PySem.W.fnOf "division_forms" "division_forms" (i9 v8) (i6 v8) (d3 v8) .none kV43 dc43 pm43 an43 cd43 ct43),sl43⟩)
  (c43:PySem.W.codeIn K cd43 "division_forms" = true) (k43:PySem.W.keepIn K (.ref f43)=true)
  (a44:PySem.W.nsIn K mainGlobals "parts_of" = some (some (.ref f44)))
  (l44:K.lookup f44=some ⟨oc44,od44,.func (PySem.W.fnOf "parts_of" "parts_of" (i9 G9) (i6 G9) (d3 G9) .none kV44 dc44 pm44 an44 cd44 ct44),sl44⟩)
  (c44:PySem.W.codeIn K cd44 "parts_of" = true) (k44:PySem.W.keepIn K (.ref f44)=true)
  (a45:PySem.W.nsIn K mainGlobals "_law_above" = some (some (.ref f45)))
  (l45:K.lookup f45=some ⟨oc45,od45,.func (PySem.W.fnOf "_law_above" "_law_above" (i9 K3) (i6 K3) (d3 K3) .none kV45 dc45 pm45 an45 cd45 ct45),sl45⟩)
  (c45:PySem.W.codeIn K cd45 "_law_above" = true) (k45:PySem.W.keepIn K (.ref f45)=true)
  (a46:PySem.W.nsIn K mainGlobals "_law_said" = some (some (.ref f46)))
  (l46:K.lookup f46=some ⟨oc46,od46,.func (PySem.W.fnOf "_law_said" "_law_said" (i9 M3) (i6 M3) (d3 M3) .none kV46 dc46 pm46 an46 cd46 ct46),sl46⟩)
  (c46:PySem.W.codeIn K cd46 "_law_said" = true) (k46:PySem.W.keepIn K (.ref f46)=true)
  (a47:PySem.W.nsIn K mainGlobals "_law_bad" = some (some (.ref f47)))
  (l47:K.lookup f47=some ⟨oc47,od47,.func (PySem.W.fnOf "_law_bad" "_law_bad" (i9 P1) (i6 P1) (d3 P1) .none kV47 dc47 pm47 an47 cd47 ct47),sl47⟩)
  (c47:PySem.W.codeIn K cd47 "_law_bad" = true) (k47:PySem.W.keepIn K (.ref f47)=true)
  (a48:PySem.W.nsIn K mainGlobals "_law_refused_right" = some (some (.ref f48)))
  (l48:K.lookup f48=some ⟨oc48,od48,.func (PySem.W.fnOf "_law_refused_right" "_law_refused_right" (i9 v5) (i6 v5) (d3 v5) .none kV48 dc48 pm48 an48 cd48 ct48),sl48⟩)
  (c48:PySem.W.codeIn K cd48 "_law_refused_right" = true) (k48:PySem.W.keepIn K (.ref f48)=true)
  (a49:PySem.W.nsIn K mainGlobals "_law_right" = some (some (.ref f49)))
  (l49:K.lookup f49=some ⟨oc49,od49,.func (PySem.W.fnOf "_law_right" "_law_right" (i9 C5) (i6 C5) (d3 C5) .none kV49 dc49 pm49 an49 cd49 ct49),sl49⟩)
  (c49:PySem.W.codeIn K cd49 "_law_right" = true) (k49:PySem.W.keepIn K (.ref f49)=true)
  (a50:PySem.W.nsIn K mainGlobals "law" = some (some (.ref f50)))
  (l50:K.lookup f50=some ⟨oc50,od50,.func (PySem.W.fnOf "law" "law" (i9 ag9) (i6 ag9) (d3 ag9) .none kV50 dc50 pm50 an50 cd50 ct50),sl50⟩)
  (c50:PySem.W.codeIn K cd50 "law" = true) (k50:PySem.W.keepIn K (.ref f50)=true)
  (z_ValueError:PySem.W.nsIn K mainGlobals "ValueError" = some none)
  (z_abs:PySem.W.nsIn K mainGlobals "abs" = some none)
  (z_all:PySem.W.nsIn K mainGlobals "all" = some none)
  (z_any:PySem.W.nsIn K mainGlobals "any" = some none)
  (z_bool:PySem.W.nsIn K mainGlobals "bool" = some none)
  (z_enumerate:PySem.W.nsIn K mainGlobals "enumerate" = some none)
  (z_int:PySem.W.nsIn K mainGlobals "int" = some none)
  (z_isinstance:PySem.W.nsIn K mainGlobals "isinstance" = some none)
  (z_len:PySem.W.nsIn K mainGlobals "len" = some none)
  (z_list:PySem.W.nsIn K mainGlobals "list" = some none)
  (z_max:PySem.W.nsIn K mainGlobals "max" = some none)
  (z_min:PySem.W.nsIn K mainGlobals "min" = some none)
  (z_range:PySem.W.nsIn K mainGlobals "range" = some none)
  (z_reversed:PySem.W.nsIn K mainGlobals "reversed" = some none)
  (z_tuple:PySem.W.nsIn K mainGlobals "tuple" = some none)
  (z_zip:PySem.W.nsIn K mainGlobals "zip" = some none)
  (y_SHORT:PySem.W.nsIn K mainGlobals "SHORT" = some (some (.int 6000 t_SHORT)))
  (y_LONG:PySem.W.nsIn K mainGlobals "LONG" = some (some (.int 1000 t_LONG)))
  (y_HIGHEST:PySem.W.nsIn K mainGlobals "HIGHEST" = some (some (.int 14 t_HIGHEST)))
  (y_ONE:PySem.W.nsIn K mainGlobals "ONE" = some (some (.ref A_ONE)))
  (u_ONE:K.lookup A_ONE=some ⟨.type "tuple",td_ONE,.seq #[.int 1 tt0_ONE,.int 1 tt1_ONE] tn_ONE,ts_ONE⟩)
  (y_NOUGHT:PySem.W.nsIn K mainGlobals "NOUGHT" = some (some (.ref A_NOUGHT)))
  (u_NOUGHT:K.lookup A_NOUGHT=some ⟨.type "tuple",td_NOUGHT,.seq #[.int 0 tt0_NOUGHT,.int 1 tt1_NOUGHT] tn_NOUGHT,ts_NOUGHT⟩)
  (m_NoFraction:PySem.W.nsIn K mainGlobals "NoFraction" = some (some (.ref C_NoFraction)))
  (x_NoFraction:PySem.W.excIn K C_NoFraction [.type "ValueError",.type "Exception",.type "BaseException",.type "object"] "ValueError.__new__" = true)
  (e_NoFraction:F5 K C_NoFraction)
  (m_NoPolynomial:PySem.W.nsIn K mainGlobals "NoPolynomial" = some (some (.ref C_NoPolynomial)))
  (x_NoPolynomial:PySem.W.excIn K C_NoPolynomial [.type "ValueError",.type "Exception",.type "BaseException",.type "object"] "ValueError.__new__" = true)
  (e_NoPolynomial:F5 K C_NoPolynomial)
  (m_NoStretch:PySem.W.nsIn K mainGlobals "NoStretch" = some (some (.ref C_NoStretch)))
  (x_NoStretch:PySem.W.excIn K C_NoStretch [.type "ValueError",.type "Exception",.type "BaseException",.type "object"] "ValueError.__new__" = true)
  (e_NoStretch:F5 K C_NoStretch)
  (m_NoRow:PySem.W.nsIn K mainGlobals "NoRow" = some (some (.ref C_NoRow)))
  (x_NoRow:PySem.W.excIn K C_NoRow [.type "ValueError",.type "Exception",.type "BaseException",.type "object"] "ValueError.__new__" = true)
  (e_NoRow:F5 K C_NoRow)
  (m_NoPair:PySem.W.nsIn K mainGlobals "NoPair" = some (some (.ref C_NoPair)))
  (x_NoPair:PySem.W.excIn K C_NoPair [.type "ValueError",.type "Exception",.type "BaseException",.type "object"] "ValueError.__new__" = true)
  (e_NoPair:F5 K C_NoPair)
  (m_NoBack:PySem.W.nsIn K mainGlobals "NoBack" = some (some (.ref C_NoBack)))
  (x_NoBack:PySem.W.excIn K C_NoBack [.type "ValueError",.type "Exception",.type "BaseException",.type "object"] "ValueError.__new__" = true)
  (e_NoBack:F5 K C_NoBack)
  (m_NoForm:PySem.W.nsIn K mainGlobals "NoForm" = some (some (.ref C_NoForm)))
  (x_NoForm:PySem.W.excIn K C_NoForm [.type "ValueError",.type "Exception",.type "BaseException",.type "object"] "ValueError.__new__" = true)
  (e_NoForm:F5 K C_NoForm)
  (m_NoParts:PySem.W.nsIn K mainGlobals "NoParts" = some (some (.ref C_NoParts)))
  (x_NoParts:PySem.W.excIn K C_NoParts [.type "ValueError",.type "Exception",.type "BaseException",.type "object"] "ValueError.__new__" = true)
  (e_NoParts:F5 K C_NoParts)
  (m_NoDegree:PySem.W.nsIn K mainGlobals "NoDegree" = some (some (.ref C_NoDegree)))
  (x_NoDegree:PySem.W.excIn K C_NoDegree [.type "ValueError",.type "Exception",.type "BaseException",.type "object"] "ValueError.__new__" = true)
  (e_NoDegree:F5 K C_NoDegree)
  (m_NoSteps:PySem.W.nsIn K mainGlobals "NoSteps" = some (some (.ref C_NoSteps)))
  (x_NoSteps:PySem.W.excIn K C_NoSteps [.type "ValueError",.type "Exception",.type "BaseException",.type "object"] "ValueError.__new__" = true)
  (e_NoSteps:F5 K C_NoSteps)
  (m_NoBox:PySem.W.nsIn K mainGlobals "NoBox" = some (some (.ref C_NoBox)))
  (x_NoBox:PySem.W.excIn K C_NoBox [.type "ValueError",.type "Exception",.type "BaseException",.type "object"] "ValueError.__new__" = true)
  (e_NoBox:F5 K C_NoBox)
  (m_NoGain:PySem.W.nsIn K mainGlobals "NoGain" = some (some (.ref C_NoGain)))
  (x_NoGain:PySem.W.excIn K C_NoGain [.type "ValueError",.type "Exception",.type "BaseException",.type "object"] "ValueError.__new__" = true)
  (e_NoGain:F5 K C_NoGain)
  (m_NoText:PySem.W.nsIn K mainGlobals "NoText" = some (some (.ref C_NoText)))
  (x_NoText:PySem.W.excIn K C_NoText [.type "ValueError",.type "Exception",.type "BaseException",.type "object"] "ValueError.__new__" = true)
  (e_NoText:F5 K C_NoText)
  (m_NoLine:PySem.W.nsIn K mainGlobals "NoLine" = some (some (.ref C_NoLine)))
  (x_NoLine:PySem.W.excIn K C_NoLine [.type "ValueError",.type "Exception",.type "BaseException",.type "object"] "ValueError.__new__" = true)
  (e_NoLine:F5 K C_NoLine)
  (m_NoName:PySem.W.nsIn K mainGlobals "NoName" = some (some (.ref C_NoName)))
  (x_NoName:PySem.W.excIn K C_NoName [.type "ValueError",.type "Exception",.type "BaseException",.type "object"] "ValueError.__new__" = true)
  (e_NoName:F5 K C_NoName)
  (m_NoDeed:PySem.W.nsIn K mainGlobals "NoDeed" = some (some (.ref C_NoDeed)))
  (x_NoDeed:PySem.W.excIn K C_NoDeed [.type "ValueError",.type "Exception",.type "BaseException",.type "object"] "ValueError.__new__" = true)
  (e_NoDeed:F5 K C_NoDeed)
  (m_RestError:PySem.W.nsIn K mainGlobals "RestError" = some (some (.ref C_RestError)))
  (x_RestError:PySem.W.excIn K C_RestError [.type "ValueError",.type "Exception",.type "BaseException",.type "object"] "ValueError.__new__" = true)
  (e_RestError:F5 K C_RestError)
  (kt_NoParts:bv8 K (⟨C_NoFraction,C_NoPolynomial,C_NoStretch,C_NoRow,C_NoPair,C_NoBack,C_NoForm,C_NoParts,C_NoDegree,C_NoSteps,C_NoBox,C_NoGain,C_NoText,C_NoLine,C_NoName,C_NoDeed,C_RestError⟩:CAd) C_NoParts 7) :
  ∃ fd:FuncData,(∀ (s:Shared) (v:Value),BindsTo s fd ⟨[v],[]⟩ [("_law_script",v)])∧∀ base:Heap,K.In base→base.Ns mainGlobals mg→ae9 l.prog w K mg base CX0 (9+1) fa fd ["_law_script"] (aS3 K):=by
 have e:=hfa.symm.trans (PySem.W.mg_of X G a50)
 cases e
 have F_common_divisor:=m6 (st:=A9) l0 c0 k0
 have b_common_divisor:=F_common_divisor.binds (ps:=["one","other"]) fun _ _ _ _ _ _ us hl=>match us,hl with | [_,_],_=>rfl
 have d_common_divisor:Df K mg "common_divisor" A9 ["one","other"] f0:=⟨⟨_,F_common_divisor,b_common_divisor⟩,PySem.W.mg_of X G a0⟩
 have F_times:=m6 (st:=ac0) l1 c1 k1
 have b_times:=F_times.binds (ps:=["one","other"]) fun _ _ _ _ _ _ us hl=>match us,hl with | [_,_],_=>rfl
 have d_times:Df K mg "times" ac0 ["one","other"] f1:=⟨⟨_,F_times,b_times⟩,PySem.W.mg_of X G a1⟩
 have F_over:=m6 (st:=ah6) l2 c2 k2
 have b_over:=F_over.binds (ps:=["one","other"]) fun _ _ _ _ _ _ us hl=>match us,hl with | [_,_],_=>rfl
 have d_over:Df K mg "over" ah6 ["one","other"] f2:=⟨⟨_,F_over,b_over⟩,PySem.W.mg_of X G a2⟩
 have F_content_of:=m6 (st:=J2) l3 c3 k3
 have b_content_of:=F_content_of.binds (ps:=["wholes"]) fun _ _ _ _ _ _ us hl=>match us,hl with | [_],_=>rfl
 have d_content_of:Df K mg "content_of" J2 ["wholes"] f3:=⟨⟨_,F_content_of,b_content_of⟩,PySem.W.mg_of X G a3⟩
 have F_cleared:=m6 (st:=P6) l4 c4 k4
 have b_cleared:=F_cleared.binds (ps:=["numbers"]) fun _ _ _ _ _ _ us hl=>match us,hl with | [_],_=>rfl
 have d_cleared:Df K mg "cleared" P6 ["numbers"] f4:=⟨⟨_,F_cleared,b_cleared⟩,PySem.W.mg_of X G a4⟩
 have F_lifted:=m6 (st:=Q6) l5 c5 k5
 have b_lifted:=F_lifted.binds (ps:=["p"]) fun _ _ _ _ _ _ us hl=>match us,hl with | [_],_=>rfl
 have d_lifted:Df K mg "lifted" Q6 ["p"] f5:=⟨⟨_,F_lifted,b_lifted⟩,PySem.W.mg_of X G a5⟩
 have F_divisor_for_all:=m6 (st:=z8) l6 c6 k6
 have b_divisor_for_all:=F_divisor_for_all.binds (ps:=["wholes","bottom"]) fun _ _ _ _ _ _ us hl=>match us,hl with | [_,_],_=>rfl
 have d_divisor_for_all:Df K mg "divisor_for_all" z8 ["wholes","bottom"] f6:=⟨⟨_,F_divisor_for_all,b_divisor_for_all⟩,PySem.W.mg_of X G a6⟩
 have F_lowered:=m6 (st:=T8) l7 c7 k7
 have b_lowered:=F_lowered.binds (ps:=["scale","wholes"]) fun _ _ _ _ _ _ us hl=>match us,hl with | [_,_],_=>rfl
 have d_lowered:Df K mg "lowered" T8 ["scale","wholes"] f7:=⟨⟨_,F_lowered,b_lowered⟩,PySem.W.mg_of X G a7⟩
 have F_trimmed:=m6 (st:=T7) l8 c8 k8
 have b_trimmed:=F_trimmed.binds (ps:=["wholes"]) fun _ _ _ _ _ _ us hl=>match us,hl with | [_],_=>rfl
 have d_trimmed:Df K mg "trimmed" T7 ["wholes"] f8:=⟨⟨_,F_trimmed,b_trimmed⟩,PySem.W.mg_of X G a8⟩
 have F_whole_divided:=m6 (st:=v7) l9 c9 k9
 have b_whole_divided:=F_whole_divided.binds (ps:=["one","other"]) fun _ _ _ _ _ _ us hl=>match us,hl with | [_,_],_=>rfl
 have d_whole_divided:Df K mg "whole_divided" v7 ["one","other"] f9:=⟨⟨_,F_whole_divided,b_whole_divided⟩,PySem.W.mg_of X G a9⟩
 have F_formed:=m6 (st:=Q7) l10 c10 k10
 have b_formed:=F_formed.binds (ps:=["scale","wholes"]) fun _ _ _ _ _ _ us hl=>match us,hl with | [_,_],_=>rfl
 have d_formed:Df K mg "formed" Q7 ["scale","wholes"] f10:=⟨⟨_,F_formed,b_formed⟩,PySem.W.mg_of X G a10⟩
 have F_form_divided:=m6 (st:=D0) l11 c11 k11
 have b_form_divided:=F_form_divided.binds (ps:=["one","other"]) fun _ _ _ _ _ _ us hl=>match us,hl with | [_,_],_=>rfl
 have d_form_divided:Df K mg "form_divided" D0 ["one","other"] f11:=⟨⟨_,F_form_divided,b_form_divided⟩,PySem.W.mg_of X G a11⟩
 have F_whole_times:=m6 (st:=E9) l12 c12 k12
 have b_whole_times:=F_whole_times.binds (ps:=["one","other"]) fun _ _ _ _ _ _ us hl=>match us,hl with | [_,_],_=>rfl
 have d_whole_times:Df K mg "whole_times" E9 ["one","other"] f12:=⟨⟨_,F_whole_times,b_whole_times⟩,PySem.W.mg_of X G a12⟩
 have F_whole_scaled:=m6 (st:=B9) l13 c13 k13
 have b_whole_scaled:=F_whole_scaled.binds (ps:=["factor","wholes"]) fun _ _ _ _ _ _ us hl=>match us,hl with | [_,_],_=>rfl
 have d_whole_scaled:Df K mg "whole_scaled" B9 ["factor","wholes"] f13:=⟨⟨_,F_whole_scaled,b_whole_scaled⟩,PySem.W.mg_of X G a13⟩
 have F_whole_sum:=m6 (st:=M0) l14 c14 k14
 have b_whole_sum:=F_whole_sum.binds (ps:=["one","other"]) fun _ _ _ _ _ _ us hl=>match us,hl with | [_,_],_=>rfl
 have d_whole_sum:Df K mg "whole_sum" M0 ["one","other"] f14:=⟨⟨_,F_whole_sum,b_whole_sum⟩,PySem.W.mg_of X G a14⟩
 have F_form_times:=m6 (st:=J1) l15 c15 k15
 have b_form_times:=F_form_times.binds (ps:=["one","other"]) fun _ _ _ _ _ _ us hl=>match us,hl with | [_,_],_=>rfl
 have d_form_times:Df K mg "form_times" J1 ["one","other"] f15:=⟨⟨_,F_form_times,b_form_times⟩,PySem.W.mg_of X G a15⟩
 have F_form_sum:=m6 (st:=O7) l16 c16 k16
 have b_form_sum:=F_form_sum.binds (ps:=["one","other"]) fun _ _ _ _ _ _ us hl=>match us,hl with | [_,_],_=>rfl
 have d_form_sum:Df K mg "form_sum" O7 ["one","other"] f16:=⟨⟨_,F_form_sum,b_form_sum⟩,PySem.W.mg_of X G a16⟩
 have F_put_together:=m6 (st:=C9) l17 c17 k17
 have b_put_together:=F_put_together.binds (ps:=["quotients","last"]) fun _ _ _ _ _ _ us hl=>match us,hl with | [_,_],_=>rfl
 have d_put_together:Df K mg "put_together" C9 ["quotients","last"] f17:=⟨⟨_,F_put_together,b_put_together⟩,PySem.W.mg_of X G a17⟩
 have F_poly:=m6 (st:=ah5) l18 c18 k18
 have b_poly:=F_poly.binds (ps:=["numbers"]) fun _ _ _ _ _ _ us hl=>match us,hl with | [_],_=>rfl
 have d_poly:Df K mg "poly" ah5 ["numbers"] f18:=⟨⟨_,F_poly,b_poly⟩,PySem.W.mg_of X G a18⟩
 have F_by_turns:=m6 (st:=J3) l19 c19 k19
 have b_by_turns:=F_by_turns.binds (ps:=["p"]) fun _ _ _ _ _ _ us hl=>match us,hl with | [_],_=>rfl
 have d_by_turns:Df K mg "by_turns" J3 ["p"] f19:=⟨⟨_,F_by_turns,b_by_turns⟩,PySem.W.mg_of X G a19⟩
 have F__law_low:=m6 (st:=O9) l20 c20 k20
 have b__law_low:=F__law_low.binds (ps:=["_law_top","_law_bottom"]) fun _ _ _ _ _ _ us hl=>match us,hl with | [_,_],_=>rfl
 have d__law_low:Df K mg "_law_low" O9 ["_law_top","_law_bottom"] f20:=⟨⟨_,F__law_low,b__law_low⟩,PySem.W.mg_of X G a20⟩
 have F__law_urn:=m6 (st:=O8) l21 c21 k21
 have b__law_urn:=F__law_urn.binds (ps:=["_law_script","_law_at"]) fun _ _ _ _ _ _ us hl=>match us,hl with | [_,_],_=>rfl
 have d__law_urn:Df K mg "_law_urn" O8 ["_law_script","_law_at"] f21:=⟨⟨_,F__law_urn,b__law_urn⟩,PySem.W.mg_of X G a21⟩
 have F__law_draw:=m6 (st:=M6) l22 c22 k22
 have b__law_draw:=F__law_draw.binds (ps:=["_law_urn_here","_law_many"]) fun _ _ _ _ _ _ us hl=>match us,hl with | [_,_],_=>rfl
 have d__law_draw:Df K mg "_law_draw" M6 ["_law_urn_here","_law_many"] f22:=⟨⟨_,F__law_draw,b__law_draw⟩,PySem.W.mg_of X G a22⟩
 have F__law_kind:=m6 (st:=M5) l23 c23 k23
 have b__law_kind:=F__law_kind.binds (ps:=["_law_urn_here"]) fun _ _ _ _ _ _ us hl=>match us,hl with | [_],_=>rfl
 have d__law_kind:Df K mg "_law_kind" M5 ["_law_urn_here"] f23:=⟨⟨_,F__law_kind,b__law_kind⟩,PySem.W.mg_of X G a23⟩
 have F__law_number:=m6 (st:=F0) l24 c24 k24
 have b__law_number:=F__law_number.binds (ps:=["_law_urn_here","_law_kind_here"]) fun _ _ _ _ _ _ us hl=>match us,hl with | [_,_],_=>rfl
 have d__law_number:Df K mg "_law_number" F0 ["_law_urn_here","_law_kind_here"] f24:=⟨⟨_,F__law_number,b__law_number⟩,PySem.W.mg_of X G a24⟩
 have F__law_whole:=m6 (st:=J4) l25 c25 k25
 have b__law_whole:=F__law_whole.binds (ps:=["_law_thing"]) fun _ _ _ _ _ _ us hl=>match us,hl with | [_],_=>rfl
 have d__law_whole:Df K mg "_law_whole" J4 ["_law_thing"] f25:=⟨⟨_,F__law_whole,b__law_whole⟩,PySem.W.mg_of X G a25⟩
 have F__law_is_number:=m6 (st:=B4) l26 c26 k26
 have b__law_is_number:=F__law_is_number.binds (ps:=["_law_thing"]) fun _ _ _ _ _ _ us hl=>match us,hl with | [_],_=>rfl
 have d__law_is_number:Df K mg "_law_is_number" B4 ["_law_thing"] f26:=⟨⟨_,F__law_is_number,b__law_is_number⟩,PySem.W.mg_of X G a26⟩
 have F__law_other:=m6 (st:=K2) l27 c27 k27
 have b__law_other:=F__law_other.binds (ps:=["_law_urn_here","_law_kind_here"]) fun _ _ _ _ _ _ us hl=>match us,hl with | [_,_],_=>rfl
 have d__law_other:Df K mg "_law_other" K2 ["_law_urn_here","_law_kind_here"] f27:=⟨⟨_,F__law_other,b__law_other⟩,PySem.W.mg_of X G a27⟩
 have F__law_trim:=m6 (st:=M2) l28 c28 k28
 have b__law_trim:=F__law_trim.binds (ps:=["_law_numbers"]) fun _ _ _ _ _ _ us hl=>match us,hl with | [_],_=>rfl
 have d__law_trim:Df K mg "_law_trim" M2 ["_law_numbers"] f28:=⟨⟨_,F__law_trim,b__law_trim⟩,PySem.W.mg_of X G a28⟩
 have F__law_is_poly:=m6 (st:=C0) l29 c29 k29
 have b__law_is_poly:=F__law_is_poly.binds (ps:=["_law_thing"]) fun _ _ _ _ _ _ us hl=>match us,hl with | [_],_=>rfl
 have d__law_is_poly:Df K mg "_law_is_poly" C0 ["_law_thing"] f29:=⟨⟨_,F__law_is_poly,b__law_is_poly⟩,PySem.W.mg_of X G a29⟩
 have F__law_plus:=m6 (st:=M4) l30 c30 k30
 have b__law_plus:=F__law_plus.binds (ps:=["_law_one","_law_other_here"]) fun _ _ _ _ _ _ us hl=>match us,hl with | [_,_],_=>rfl
 have d__law_plus:Df K mg "_law_plus" M4 ["_law_one","_law_other_here"] f30:=⟨⟨_,F__law_plus,b__law_plus⟩,PySem.W.mg_of X G a30⟩
 have F__law_times:=m6 (st:=K1) l31 c31 k31
 have b__law_times:=F__law_times.binds (ps:=["_law_one","_law_other_here"]) fun _ _ _ _ _ _ us hl=>match us,hl with | [_,_],_=>rfl
 have d__law_times:Df K mg "_law_times" K1 ["_law_one","_law_other_here"] f31:=⟨⟨_,F__law_times,b__law_times⟩,PySem.W.mg_of X G a31⟩
 have F__law_poly_plus:=m6 (st:=B3) l32 c32 k32
 have b__law_poly_plus:=F__law_poly_plus.binds (ps:=["_law_p","_law_q"]) fun _ _ _ _ _ _ us hl=>match us,hl with | [_,_],_=>rfl
 have d__law_poly_plus:Df K mg "_law_poly_plus" B3 ["_law_p","_law_q"] f32:=⟨⟨_,F__law_poly_plus,b__law_poly_plus⟩,PySem.W.mg_of X G a32⟩
 have F__law_poly_times:=m6 (st:=A3) l33 c33 k33
 have b__law_poly_times:=F__law_poly_times.binds (ps:=["_law_p","_law_q"]) fun _ _ _ _ _ _ us hl=>match us,hl with | [_,_],_=>rfl
 have d__law_poly_times:Df K mg "_law_poly_times" A3 ["_law_p","_law_q"] f33:=⟨⟨_,F__law_poly_times,b__law_poly_times⟩,PySem.W.mg_of X G a33⟩
 have F__law_folded:=m6 (st:=F4) l34 c34 k34
 have b__law_folded:=F__law_folded.binds (ps:=["_law_quotients","_law_last"]) fun _ _ _ _ _ _ us hl=>match us,hl with | [_,_],_=>rfl
 have d__law_folded:Df K mg "_law_folded" F4 ["_law_quotients","_law_last"] f34:=⟨⟨_,F__law_folded,b__law_folded⟩,PySem.W.mg_of X G a34⟩
 have F_row_behind:=m6 (st:=E5) l35 c35 k35
 have b_row_behind:=F_row_behind.binds (ps:=["row","further","divisor"]) fun _ _ _ _ _ _ us hl=>match us,hl with | [_,_,_],_=>rfl
 have d_row_behind:Df K mg "row_behind" E5 ["row","further","divisor"] f35:=⟨⟨_,F_row_behind,b_row_behind⟩,PySem.W.mg_of X G a35⟩
 have F_whole_dies:=m6 (st:=E4) l36 c36 k36
 have b_whole_dies:=F_whole_dies.binds (ps:=["wholes"]) fun _ _ _ _ _ _ us hl=>match us,hl with | [_],_=>rfl
 have d_whole_dies:Df K mg "whole_dies" E4 ["wholes"] f36:=⟨⟨_,F_whole_dies,b_whole_dies⟩,PySem.W.mg_of X G a36⟩
 have F_dies:=m6 (st:=ah7) l37 c37 k37
 have b_dies:=F_dies.binds (ps:=["p"]) fun _ _ _ _ _ _ us hl=>match us,hl with | [_],_=>rfl
 have d_dies:Df K mg "dies" ah7 ["p"] f37:=⟨⟨_,F_dies,b_dies⟩,PySem.W.mg_of X G a37⟩
 have F_is_whole:=m6 (st:=O6) l38 c38 k38
 have b_is_whole:=F_is_whole.binds (ps:=["thing"]) fun _ _ _ _ _ _ us hl=>match us,hl with | [_],_=>rfl
 have d_is_whole:Df K mg "is_whole" O6 ["thing"] f38:=⟨⟨_,F_is_whole,b_is_whole⟩,PySem.W.mg_of X G a38⟩
 have F_is_number:=m6 (st:=M1) l39 c39 k39
 have b_is_number:=F_is_number.binds (ps:=["thing"]) fun _ _ _ _ _ _ us hl=>match us,hl with | [_],_=>rfl
 have d_is_number:Df K mg "is_number" M1 ["thing"] f39:=⟨⟨_,F_is_number,b_is_number⟩,PySem.W.mg_of X G a39⟩
 have F__law_which:=m6 (st:=K0) l40 c40 k40
 have b__law_which:=F__law_which.binds (ps:=["_law_e"]) fun _ _ _ _ _ _ us hl=>match us,hl with | [_],_=>rfl
 have d__law_which:Df K mg "_law_which" K0 ["_law_e"] f40:=⟨⟨_,F__law_which,b__law_which⟩,PySem.W.mg_of X G a40⟩
 have F_are_parts:=m6 (st:=G5) l41 c41 k41
 have b_are_parts:=F_are_parts.binds (ps:=["parts","last"]) fun _ _ _ _ _ _ us hl=>match us,hl with | [_,_],_=>rfl
 have d_are_parts:Df K mg "are_parts" G5 ["parts","last"] f41:=⟨⟨_,F_are_parts,b_are_parts⟩,PySem.W.mg_of X G a41⟩
 have F_from_parts:=m6 (st:=E6) l42 c42 k42
 have b_from_parts:=F_from_parts.binds (ps:=["parts","last"]) fun _ _ _ _ _ _ us hl=>match us,hl with | [_,_],_=>rfl
 have d_from_parts:Df K mg "from_parts" E6 ["parts","last"] f42:=⟨⟨_,F_from_parts,b_from_parts⟩,PySem.W.mg_of X G a42⟩
 have F_division_forms:=m6 (st:=v8) l43 c43 k43
 have b_division_forms:=F_division_forms.binds (ps:=["p"]) fun _ _ _ _ _ _ us hl=>match us,hl with | [_],_=>rfl
 have d_division_forms:Df K mg "division_forms" v8 ["p"] f43:=⟨⟨_,F_division_forms,b_division_forms⟩,PySem.W.mg_of X G a43⟩
 have F_parts_of:=m6 (st:=G9) l44 c44 k44
 have b_parts_of:=F_parts_of.binds (ps:=["p"]) fun _ _ _ _ _ _ us hl=>match us,hl with | [_],_=>rfl
 have d_parts_of:Df K mg "parts_of" G9 ["p"] f44:=⟨⟨_,F_parts_of,b_parts_of⟩,PySem.W.mg_of X G a44⟩
 have F__law_above:=m6 (st:=K3) l45 c45 k45
 have b__law_above:=F__law_above.binds (ps:=["_law_urn_here","_law_kind_here"]) fun _ _ _ _ _ _ us hl=>match us,hl with | [_,_],_=>rfl
 have d__law_above:Df K mg "_law_above" K3 ["_law_urn_here","_law_kind_here"] f45:=⟨⟨_,F__law_above,b__law_above⟩,PySem.W.mg_of X G a45⟩
 have F__law_said:=m6 (st:=M3) l46 c46 k46
 have b__law_said:=F__law_said.binds (ps:=["_law_numbers","_law_last"]) fun _ _ _ _ _ _ us hl=>match us,hl with | [_,_],_=>rfl
 have d__law_said:Df K mg "_law_said" M3 ["_law_numbers","_law_last"] f46:=⟨⟨_,F__law_said,b__law_said⟩,PySem.W.mg_of X G a46⟩
 have F__law_bad:=m6 (st:=P1) l47 c47 k47
 have b__law_bad:=F__law_bad.binds (ps:=["_law_urn_here","_law_number_here"]) fun _ _ _ _ _ _ us hl=>match us,hl with | [_,_],_=>rfl
 have d__law_bad:Df K mg "_law_bad" P1 ["_law_urn_here","_law_number_here"] f47:=⟨⟨_,F__law_bad,b__law_bad⟩,PySem.W.mg_of X G a47⟩
 have F__law_refused_right:=m6 (st:=v5) l48 c48 k48
 have b__law_refused_right:=F__law_refused_right.binds (ps:=["_law_urn_here","_law_numbers","_law_last"]) fun _ _ _ _ _ _ us hl=>match us,hl with | [_,_,_],_=>rfl
 have d__law_refused_right:Df K mg "_law_refused_right" v5 ["_law_urn_here","_law_numbers","_law_last"] f48:=⟨⟨_,F__law_refused_right,b__law_refused_right⟩,PySem.W.mg_of X G a48⟩
 have F__law_right:=m6 (st:=C5) l49 c49 k49
 have b__law_right:=F__law_right.binds (ps:=["_law_urn_here"]) fun _ _ _ _ _ _ us hl=>match us,hl with | [_],_=>rfl
 have d__law_right:Df K mg "_law_right" C5 ["_law_urn_here"] f49:=⟨⟨_,F__law_right,b__law_right⟩,PySem.W.mg_of X G a49⟩
 have F_law:=m6 (st:=ag9) l50 c50 k50
 have b_law:=F_law.binds (ps:=["_law_script"]) fun _ _ _ _ _ _ us hl=>match us,hl with | [_],_=>rfl
 have d_law:Df K mg "law" ag9 ["_law_script"] fa:=⟨⟨_,F_law,b_law⟩,PySem.W.mg_of X G a50⟩
 have n_ValueError:=PySem.W.mg_none_of X G z_ValueError
 have n_abs:=PySem.W.mg_none_of X G z_abs
 have n_all:=PySem.W.mg_none_of X G z_all
 have n_any:=PySem.W.mg_none_of X G z_any
 have n_bool:=PySem.W.mg_none_of X G z_bool
 have n_enumerate:=PySem.W.mg_none_of X G z_enumerate
 have n_int:=PySem.W.mg_none_of X G z_int
 have n_isinstance:=PySem.W.mg_none_of X G z_isinstance
 have n_len:=PySem.W.mg_none_of X G z_len
 have n_list:=PySem.W.mg_none_of X G z_list
 have n_max:=PySem.W.mg_none_of X G z_max
 have n_min:=PySem.W.mg_none_of X G z_min
 have n_range:=PySem.W.mg_none_of X G z_range
 have n_reversed:=PySem.W.mg_none_of X G z_reversed
 have n_tuple:=PySem.W.mg_none_of X G z_tuple
 have n_zip:=PySem.W.mg_none_of X G z_zip
 have c_SHORT:=PySem.W.mg_of X G y_SHORT
 have c_LONG:=PySem.W.mg_of X G y_LONG
 have c_HIGHEST:=PySem.W.mg_of X G y_HIGHEST
 have c_ONE:=PySem.W.mg_of X G y_ONE
 have t_ONE:∀ H:Hp,SqT K H A_ONE [.int 1,.int 1]:=fun H=>.inr ⟨_,_,_,u_ONE,rfl,rfl,(show 2≤sizeLine by decide),(.cons ⟨_,rfl⟩ (.cons ⟨_,rfl⟩ .nil))⟩
 have c_NOUGHT:=PySem.W.mg_of X G y_NOUGHT
 have t_NOUGHT:∀ H:Hp,SqT K H A_NOUGHT [.int 0,.int 1]:=fun H=>.inr ⟨_,_,_,u_NOUGHT,rfl,rfl,(show 2≤sizeLine by decide),(.cons ⟨_,rfl⟩ (.cons ⟨_,rfl⟩ .nil))⟩
 have X_NoFraction:ExT K mg "NoFraction" C_NoFraction:=⟨PySem.W.mg_of X G m_NoFraction,⟨x_NoFraction⟩,e_NoFraction⟩
 have X_NoPolynomial:ExT K mg "NoPolynomial" C_NoPolynomial:=⟨PySem.W.mg_of X G m_NoPolynomial,⟨x_NoPolynomial⟩,e_NoPolynomial⟩
 have X_NoStretch:ExT K mg "NoStretch" C_NoStretch:=⟨PySem.W.mg_of X G m_NoStretch,⟨x_NoStretch⟩,e_NoStretch⟩
 have X_NoRow:ExT K mg "NoRow" C_NoRow:=⟨PySem.W.mg_of X G m_NoRow,⟨x_NoRow⟩,e_NoRow⟩
 have X_NoPair:ExT K mg "NoPair" C_NoPair:=⟨PySem.W.mg_of X G m_NoPair,⟨x_NoPair⟩,e_NoPair⟩
 have X_NoBack:ExT K mg "NoBack" C_NoBack:=⟨PySem.W.mg_of X G m_NoBack,⟨x_NoBack⟩,e_NoBack⟩
 have X_NoForm:ExT K mg "NoForm" C_NoForm:=⟨PySem.W.mg_of X G m_NoForm,⟨x_NoForm⟩,e_NoForm⟩
 have X_NoParts:ExT K mg "NoParts" C_NoParts:=⟨PySem.W.mg_of X G m_NoParts,⟨x_NoParts⟩,e_NoParts⟩
 have X_NoDegree:ExT K mg "NoDegree" C_NoDegree:=⟨PySem.W.mg_of X G m_NoDegree,⟨x_NoDegree⟩,e_NoDegree⟩
 have X_NoSteps:ExT K mg "NoSteps" C_NoSteps:=⟨PySem.W.mg_of X G m_NoSteps,⟨x_NoSteps⟩,e_NoSteps⟩
 have X_NoBox:ExT K mg "NoBox" C_NoBox:=⟨PySem.W.mg_of X G m_NoBox,⟨x_NoBox⟩,e_NoBox⟩
 have X_NoGain:ExT K mg "NoGain" C_NoGain:=⟨PySem.W.mg_of X G m_NoGain,⟨x_NoGain⟩,e_NoGain⟩
 have X_NoText:ExT K mg "NoText" C_NoText:=⟨PySem.W.mg_of X G m_NoText,⟨x_NoText⟩,e_NoText⟩
 have X_NoLine:ExT K mg "NoLine" C_NoLine:=⟨PySem.W.mg_of X G m_NoLine,⟨x_NoLine⟩,e_NoLine⟩
 have X_NoName:ExT K mg "NoName" C_NoName:=⟨PySem.W.mg_of X G m_NoName,⟨x_NoName⟩,e_NoName⟩
 have X_NoDeed:ExT K mg "NoDeed" C_NoDeed:=⟨PySem.W.mg_of X G m_NoDeed,⟨x_NoDeed⟩,e_NoDeed⟩
 have X_RestError:ExT K mg "RestError" C_RestError:=⟨PySem.W.mg_of X G m_RestError,⟨x_RestError⟩,e_RestError⟩
 have XX:XTx K mg (⟨C_NoFraction,C_NoPolynomial,C_NoStretch,C_NoRow,C_NoPair,C_NoBack,C_NoForm,C_NoParts,C_NoDegree,C_NoSteps,C_NoBox,C_NoGain,C_NoText,C_NoLine,C_NoName,C_NoDeed,C_RestError⟩:CAd):=⟨X_NoFraction,X_NoPolynomial,X_NoStretch,X_NoRow,X_NoPair,X_NoBack,X_NoForm,X_NoParts,X_NoDegree,X_NoSteps,X_NoBox,X_NoGain,X_NoText,X_NoLine,X_NoName,X_NoDeed⟩
 refine ⟨PySem.W.fnOf "law" "law" (i9 ag9) (i6 ag9) (d3 ag9) .none kV50 dc50 pm50 an50 cd50 ct50,fun s v=>.of_eq rfl,fun base _ _=>?_⟩
 have G_common_divisor:=ak2 (P:=l.prog) (w:=w) (base:=base) d_common_divisor ⟨_,c_SHORT⟩ n_abs
 have G_times:=bd9 (P:=l.prog) (w:=w) (base:=base) d_times G_common_divisor
 have G_over:=bk0 (P:=l.prog) (w:=w) (base:=base) d_over G_times
 have G_content_of:=ay4 (P:=l.prog) (w:=w) (base:=base) d_content_of G_common_divisor
 have G_cleared:=aP5 (P:=l.prog) (w:=w) (base:=base) d_cleared G_common_divisor
 have GP_lifted:=au8 (P:=l.prog) (w:=w) (base:=base) d_lifted G_cleared G_content_of c_ONE t_ONE
 have GD_lifted:=aP6 (P:=l.prog) (w:=w) (base:=base) d_lifted G_cleared G_content_of c_ONE t_ONE
 have G_divisor_for_all:=ah9 (P:=l.prog) (w:=w) (base:=base) d_divisor_for_all G_common_divisor c_LONG n_max
 have G_lowered:=aP4 (P:=l.prog) (w:=w) (base:=base) d_lowered G_divisor_for_all G_common_divisor
 have G_trimmed:=aP3 (P:=l.prog) (w:=w) (base:=base) d_trimmed n_len
 have G_whole_divided:=ao2 (P:=l.prog) (w:=w) (base:=base) d_whole_divided G_trimmed n_len n_max n_list n_abs n_enumerate
 have GP_formed:=au9 (P:=l.prog) (w:=w) (base:=base) d_formed G_content_of G_times c_ONE t_ONE
 have GD_formed:=aP7 (P:=l.prog) (w:=w) (base:=base) d_formed G_content_of G_times c_ONE t_ONE
 have G_whole_times:=au6 (P:=l.prog) (w:=w) (base:=base) d_whole_times n_len n_enumerate
 have G_whole_scaled:=ar1 (P:=l.prog) (w:=w) (base:=base) d_whole_scaled G_trimmed
 have G_whole_sum:=aG0 (P:=l.prog) (w:=w) (base:=base) d_whole_sum G_trimmed n_len n_list n_enumerate
 have G_form_times:=ay3 (P:=l.prog) (w:=w) (base:=base) d_form_times G_times G_whole_times
 have G_form_sum:=aL2 (P:=l.prog) (w:=w) (base:=base) d_form_sum G_over G_whole_sum G_whole_scaled GD_formed
 have G_put_together:=ar2 (P:=l.prog) (w:=w) (base:=base) d_put_together GD_lifted G_form_sum G_form_times G_lowered c_ONE t_ONE n_reversed
 have GP_form_divided:=ao3 (P:=l.prog) (w:=w) (base:=base) d_form_divided G_whole_divided G_over GP_formed
 have G_poly:=bj9 (P:=l.prog) (w:=w) (base:=base) d_poly c_NOUGHT t_NOUGHT n_len
 have G_by_turns:=aL3 (P:=l.prog) (w:=w) (base:=base) d_by_turns G_poly c_NOUGHT t_NOUGHT n_len n_enumerate
 have G__law_low:=aL5 (P:=l.prog) (w:=w) (base:=base) d__law_low n_abs
 have G__law_urn:=aL4 (P:=l.prog) (w:=w) (base:=base) d__law_urn n_len n_abs
 have G__law_draw:=aG7 (P:=l.prog) (w:=w) (base:=base) d__law_draw
 have G__law_kind:=aG6 (P:=l.prog) (w:=w) (base:=base) d__law_kind G__law_draw
 have G__law_whole:=ay5 (P:=l.prog) (w:=w) (base:=base) d__law_whole n_isinstance n_int n_bool
 have G__law_is_number:=ak4 (P:=l.prog) (w:=w) (base:=base) d__law_is_number G__law_whole G__law_low n_isinstance n_tuple n_len
 have G__law_trim:=aG3 (P:=l.prog) (w:=w) (base:=base) d__law_trim n_list
 have G__law_is_poly:=ar3 (P:=l.prog) (w:=w) (base:=base) d__law_is_poly G__law_is_number G__law_trim n_isinstance n_list n_all
 have G__law_plus:=aG5 (P:=l.prog) (w:=w) (base:=base) d__law_plus G__law_low
 have G__law_times:=ay7 (P:=l.prog) (w:=w) (base:=base) d__law_times G__law_low
 have G__law_poly_plus:=ak3 (P:=l.prog) (w:=w) (base:=base) d__law_poly_plus G__law_plus G__law_trim n_range n_max n_len
 have G__law_poly_times:=ai0 (P:=l.prog) (w:=w) (base:=base) d__law_poly_times G__law_plus G__law_times G__law_trim n_len n_enumerate
 have G__law_folded:=au7 (P:=l.prog) (w:=w) (base:=base) d__law_folded G__law_poly_plus G__law_poly_times n_reversed
 have G_row_behind:=ay1 (P:=l.prog) (w:=w) (base:=base) d_row_behind n_len n_zip
 have G_whole_dies:=ay0 (P:=l.prog) (w:=w) (base:=base) d_whole_dies G_row_behind n_min
 have G_dies:=bk1 (P:=l.prog) (w:=w) (base:=base) d_dies GD_lifted G_whole_dies n_bool
 have G_is_whole:=aL1 (P:=l.prog) (w:=w) (base:=base) d_is_whole n_isinstance n_int n_bool
 have G_is_number:=aG1 (P:=l.prog) (w:=w) (base:=base) d_is_number G_is_whole G_common_divisor n_isinstance n_tuple n_len
 have G__law_which:=ay6 (P:=l.prog) (w:=w) (base:=base) d__law_which XX n_isinstance n_ValueError
 have G_are_parts:=aG2 (P:=l.prog) (w:=w) (base:=base) d_are_parts G_is_number c_HIGHEST c_NOUGHT t_NOUGHT n_isinstance n_list n_len n_all
 have G_from_parts:=ay2 (P:=l.prog) (w:=w) (base:=base) d_from_parts G_are_parts G_put_together c_NOUGHT t_NOUGHT X_NoParts
 have G_division_forms:=ak1 (P:=l.prog) (w:=w) (base:=base) d_division_forms G_by_turns GP_lifted GP_form_divided
 have G_parts_of:=aL0 (P:=l.prog) (w:=w) (base:=base) d_parts_of G_division_forms G_lowered n_len n_any
 have GD__law_number:=ar4 (P:=l.prog) (w:=w) (base:=base) d__law_number G__law_draw G__law_low n_int
 have GD__law_other:=av1 (P:=l.prog) (w:=w) (base:=base) d__law_other G__law_draw GD__law_number
 have G__law_above:=ay9 (P:=l.prog) (w:=w) (base:=base) d__law_above GD__law_other n_abs
 have G__law_said:=aG4 (P:=l.prog) (w:=w) (base:=base) d__law_said G_from_parts G__law_which X_RestError kt_NoParts
 have G__law_bad:=aL6 (P:=l.prog) (w:=w) (base:=base) d__law_bad G__law_draw
 have G__law_refused_right:=ad2 (P:=l.prog) (w:=w) (base:=base) d__law_refused_right G__law_draw G__law_above G__law_bad G__law_said n_len n_tuple
 have G__law_right:=ay8 (P:=l.prog) (w:=w) (base:=base) d__law_right G__law_draw G__law_kind G__law_above GD__law_other G__law_folded G__law_said G__law_is_poly G_parts_of G_dies G__law_refused_right n_list n_range
 exact bs3 (P:=l.prog) (w:=w) (base:=base) F_law G__law_urn G__law_right n_range n_max n_min n_len
end
theorem by1 {l:PySem.W.OpenLaw} {q:Program} {loose:List Str} {XP:(Str→Option Value)→Heap→Prop} {YP:World→Heap→Prop} {d:DefRec} {K:Params→PySem.W.Frag} (hn:l.most=some 63) (hdf:d.params.defaults=[])
  (hY:∀ (w:World) (h:Heap),YP w h→(K w.params).In h)
  (F:∀ (w:World) (mg:Str→Option Value) (fa:Addr) (h:Heap),(K w.params).In h→h.Ns mainGlobals mg→mg d.name=some (.ref fa) →
   ∃ fd:FuncData,(∀ (s:Shared) (u:Value),BindsTo s fd ⟨[u],[]⟩ [("_law_script",u)])∧∀ base:Heap,(K w.params).In base→base.Ns mainGlobals mg→ae9 l.prog w (K w.params) mg base CX0 (9+1) fa fd ["_law_script"] (aS3 (K w.params))) :
  PySem.W.WalkO q loose XP YP l.row.toRowW d [] (fun f vs=>PySem.call f vs):=
 L2.aS0 (n:=63) (k:=(9+1)) (x:="_law_script") (CX:=fun _=>CX0) (sp:=fun w=>aS3 (K w.params)) hn (by decide) hdf ⟨rfl,by decide,by decide⟩ hY F (fun _ _ a ns hl _ hS=>⟨a,ns,rfl,hS,hl,fun _=>rfl⟩) fun _ _ _ _ _ z=>z
end R
open PySem PySem.W PyProof.Rows
set_option maxRecDepth 100000 in
set_option maxHeartbeats 0 in
theorem PySem.Challenge.cw_restward_k27_polynomials_from_parts_holds : PySem.Challenge.rw_restward_k27_polynomials_from_parts.Holds := by
 w_on;o_law;k_head;(case hw=>w_witness2)
 k_fill
 refine R.by1 (l:=PySem.Challenge.rw_restward_k27_polynomials_from_parts) rfl rfl (fun w h Y=>PySem.W.kIn_of Y) ?F
 case F=>
  intro w mg fa h KX G hmg
  refine' R.bv1 KX G hmg ?a0 ?l0 ?c0 ?k0 ?a1 ?l1 ?c1 ?k1 ?a2 ?l2 ?c2 ?k2 ?a3 ?l3 ?c3 ?k3 ?a4 ?l4 ?c4 ?k4 ?a5 ?l5 ?c5 ?k5 ?a6 ?l6 ?c6 ?k6 ?a7 ?l7 ?c7 ?k7 ?a8 ?l8 ?c8 ?k8 ?a9 ?l9 ?c9 ?k9 ?a10 ?l10 ?c10 ?k10 ?a11 ?l11 ?c11 ?k11 ?a12 ?l12 ?c12 ?k12 ?a13 ?l13 ?c13 ?k13 ?a14 ?l14 ?c14 ?k14 ?a15 ?l15 ?c15 ?k15 ?a16 ?l16 ?c16 ?k16 ?a17 ?l17 ?c17 ?k17 ?a18 ?l18 ?c18 ?k18 ?a19 ?l19 ?c19 ?k19 ?a20 ?l20 ?c20 ?k20 ?a21 ?l21 ?c21 ?k21 ?a22 ?l22 ?c22 ?k22 ?a23 ?l23 ?c23 ?k23 ?a24 ?l24 ?c24 ?k24 ?a25 ?l25 ?c25 ?k25 ?a26 ?l26 ?c26 ?k26 ?a27 ?l27 ?c27 ?k27 ?a28 ?l28 ?c28 ?k28 ?a29 ?l29 ?c29 ?k29 ?a30 ?l30 ?c30 ?k30 ?a31 ?l31 ?c31 ?k31 ?a32 ?l32 ?c32 ?k32 ?a33 ?l33 ?c33 ?k33 ?a34 ?l34 ?c34 ?k34 ?a35 ?l35 ?c35 ?k35 ?a36 ?l36 ?c36 ?k36 ?a37 ?l37 ?c37 ?k37 ?a38 ?l38 ?c38 ?k38 ?a39 ?l39 ?c39 ?k39 ?a40 ?l40 ?c40 ?k40 ?a41 ?l41 ?c41 ?k41 ?a42 ?l42 ?c42 ?k42 ?a43 ?l43 ?c43 ?k43 ?a44 ?l44 ?c44 ?k44 ?a45 ?l45 ?c45 ?k45 ?a46 ?l46 ?c46 ?k46 ?a47 ?l47 ?c47 ?k47 ?a48 ?l48 ?c48 ?k48 ?a49 ?l49 ?c49 ?k49 ?a50 ?l50 ?c50 ?k50 ?z_ValueError ?z_abs ?z_all ?z_any ?z_bool ?z_enumerate ?z_int ?z_isinstance ?z_len ?z_list ?z_max ?z_min ?z_range ?z_reversed ?z_tuple ?z_zip ?y_SHORT ?y_LONG ?y_HIGHEST ?y_ONE ?u_ONE ?y_NOUGHT ?u_NOUGHT ?m_NoFraction ?x_NoFraction ?e_NoFraction ?m_NoPolynomial ?x_NoPolynomial ?e_NoPolynomial ?m_NoStretch ?x_NoStretch ?e_NoStretch ?m_NoRow ?x_NoRow ?e_NoRow ?m_NoPair ?x_NoPair ?e_NoPair ?m_NoBack ?x_NoBack ?e_NoBack ?m_NoForm ?x_NoForm ?e_NoForm ?m_NoParts ?x_NoParts ?e_NoParts ?m_NoDegree ?x_NoDegree ?e_NoDegree ?m_NoSteps ?x_NoSteps ?e_NoSteps ?m_NoBox ?x_NoBox ?e_NoBox ?m_NoGain ?x_NoGain ?e_NoGain ?m_NoText ?x_NoText ?e_NoText ?m_NoLine ?x_NoLine ?e_NoLine ?m_NoName ?x_NoName ?e_NoName ?m_NoDeed ?x_NoDeed ?e_NoDeed ?m_RestError ?x_RestError ?e_RestError ?kt_NoParts
  (case a0=>k_is);(case l0=>k_is);(case c0=>k_is);(case k0=>k_is)
  (case a1=>k_is);(case l1=>k_is);(case c1=>k_is);(case k1=>k_is)
  (case a2=>k_is);(case l2=>k_is);(case c2=>k_is);(case k2=>k_is)
  (case a3=>k_is);(case l3=>k_is);(case c3=>k_is);(case k3=>k_is)
  (case a4=>k_is);(case l4=>k_is);(case c4=>k_is);(case k4=>k_is)
  (case a5=>k_is);(case l5=>k_is);(case c5=>k_is);(case k5=>k_is)
  (case a6=>k_is);(case l6=>k_is);(case c6=>k_is);(case k6=>k_is)
  (case a7=>k_is);(case l7=>k_is);(case c7=>k_is);(case k7=>k_is)
  (case a8=>k_is);(case l8=>k_is);(case c8=>k_is);(case k8=>k_is)
  (case a9=>k_is);(case l9=>k_is);(case c9=>k_is);(case k9=>k_is)
  (case a10=>k_is);(case l10=>k_is);(case c10=>k_is);(case k10=>k_is)
  (case a11=>k_is);(case l11=>k_is);(case c11=>k_is);(case k11=>k_is)
  (case a12=>k_is);(case l12=>k_is);(case c12=>k_is);(case k12=>k_is)
  (case a13=>k_is);(case l13=>k_is);(case c13=>k_is);(case k13=>k_is)
  (case a14=>k_is);(case l14=>k_is);(case c14=>k_is);(case k14=>k_is)
  (case a15=>k_is);(case l15=>k_is);(case c15=>k_is);(case k15=>k_is)
  (case a16=>k_is);(case l16=>k_is);(case c16=>k_is);(case k16=>k_is)
  (case a17=>k_is);(case l17=>k_is);(case c17=>k_is);(case k17=>k_is)
  (case a18=>k_is);(case l18=>k_is);(case c18=>k_is);(case k18=>k_is)
  (case a19=>k_is);(case l19=>k_is);(case c19=>k_is);(case k19=>k_is)
  (case a20=>k_is);(case l20=>k_is);(case c20=>k_is);(case k20=>k_is)
  (case a21=>k_is);(case l21=>k_is);(case c21=>k_is);(case k21=>k_is)
  (case a22=>k_is);(case l22=>k_is);(case c22=>k_is);(case k22=>k_is)
  (case a23=>k_is);(case l23=>k_is);(case c23=>k_is);(case k23=>k_is)
  (case a24=>k_is);(case l24=>k_is);(case c24=>k_is);(case k24=>k_is)
  (case a25=>k_is);(case l25=>k_is);(case c25=>k_is);(case k25=>k_is)
  (case a26=>k_is);(case l26=>k_is);(case c26=>k_is);(case k26=>k_is)
  (case a27=>k_is);(case l27=>k_is);(case c27=>k_is);(case k27=>k_is)
  (case a28=>k_is);(case l28=>k_is);(case c28=>k_is);(case k28=>k_is)
  (case a29=>k_is);(case l29=>k_is);(case c29=>k_is);(case k29=>k_is)
  (case a30=>k_is);(case l30=>k_is);(case c30=>k_is);(case k30=>k_is)
  (case a31=>k_is);(case l31=>k_is);(case c31=>k_is);(case k31=>k_is)
  (case a32=>k_is);(case l32=>k_is);(case c32=>k_is);(case k32=>k_is)
  (case a33=>k_is);(case l33=>k_is);(case c33=>k_is);(case k33=>k_is)
  (case a34=>k_is);(case l34=>k_is);(case c34=>k_is);(case k34=>k_is)
  (case a35=>k_is);(case l35=>k_is);(case c35=>k_is);(case k35=>k_is)
  (case a36=>k_is);(case l36=>k_is);(case c36=>k_is);(case k36=>k_is)
  (case a37=>k_is);(case l37=>k_is);(case c37=>k_is);(case k37=>k_is)
  (case a38=>k_is);(case l38=>k_is);(case c38=>k_is);(case k38=>k_is)
  (case a39=>k_is);(case l39=>k_is);(case c39=>k_is);(case k39=>k_is)
  (case a40=>k_is);(case l40=>k_is);(case c40=>k_is);(case k40=>k_is)
  (case a41=>k_is);(case l41=>k_is);(case c41=>k_is);(case k41=>k_is)
  (case a42=>k_is);(case l42=>k_is);(case c42=>k_is);(case k42=>k_is)
  (case a43=>k_is);(case l43=>k_is);(case c43=>k_is);(case k43=>k_is)
  (case a44=>k_is);(case l44=>k_is);(case c44=>k_is);(case k44=>k_is)
  (case a45=>k_is);(case l45=>k_is);(case c45=>k_is);(case k45=>k_is)
  (case a46=>k_is);(case l46=>k_is);(case c46=>k_is);(case k46=>k_is)
  (case a47=>k_is);(case l47=>k_is);(case c47=>k_is);(case k47=>k_is)
  (case a48=>k_is);(case l48=>k_is);(case c48=>k_is);(case k48=>k_is)
  (case a49=>k_is);(case l49=>k_is);(case c49=>k_is);(case k49=>k_is)
  (case a50=>k_is);(case l50=>k_is);(case c50=>k_is);(case k50=>k_is)
  (case z_ValueError=>k_is)
  (case z_abs=>k_is)
  (case z_all=>k_is)
  (case z_any=>k_is)
  (case z_bool=>k_is)
  (case z_enumerate=>k_is)
  (case z_int=>k_is)
  (case z_isinstance=>k_is)
  (case z_len=>k_is)
  (case z_list=>k_is)
  (case z_max=>k_is)
  (case z_min=>k_is)
  (case z_range=>k_is)
  (case z_reversed=>k_is)
  (case z_tuple=>k_is)
  (case z_zip=>k_is)
  (case y_SHORT=>k_is)
  (case y_LONG=>k_is)
  (case y_HIGHEST=>k_is)
  (case y_ONE=>k_is);(case u_ONE=>k_is)
  (case y_NOUGHT=>k_is);(case u_NOUGHT=>k_is)
  (case m_NoFraction=>k_is);(case x_NoFraction=>k_exc);(case e_NoFraction=>(refine ⟨?_,?_,?_,?_,?_,?_⟩ <;> first | k_is | kernel_rfl))
  (case m_NoPolynomial=>k_is);(case x_NoPolynomial=>k_exc);(case e_NoPolynomial=>(refine ⟨?_,?_,?_,?_,?_,?_⟩ <;> first | k_is | kernel_rfl))
  (case m_NoStretch=>k_is);(case x_NoStretch=>k_exc);(case e_NoStretch=>(refine ⟨?_,?_,?_,?_,?_,?_⟩ <;> first | k_is | kernel_rfl))
  (case m_NoRow=>k_is);(case x_NoRow=>k_exc);(case e_NoRow=>(refine ⟨?_,?_,?_,?_,?_,?_⟩ <;> first | k_is | kernel_rfl))
  (case m_NoPair=>k_is);(case x_NoPair=>k_exc);(case e_NoPair=>(refine ⟨?_,?_,?_,?_,?_,?_⟩ <;> first | k_is | kernel_rfl))
  (case m_NoBack=>k_is);(case x_NoBack=>k_exc);(case e_NoBack=>(refine ⟨?_,?_,?_,?_,?_,?_⟩ <;> first | k_is | kernel_rfl))
  (case m_NoForm=>k_is);(case x_NoForm=>k_exc);(case e_NoForm=>(refine ⟨?_,?_,?_,?_,?_,?_⟩ <;> first | k_is | kernel_rfl))
  (case m_NoParts=>k_is);(case x_NoParts=>k_exc);(case e_NoParts=>(refine ⟨?_,?_,?_,?_,?_,?_⟩ <;> first | k_is | kernel_rfl))
  (case m_NoDegree=>k_is);(case x_NoDegree=>k_exc);(case e_NoDegree=>(refine ⟨?_,?_,?_,?_,?_,?_⟩ <;> first | k_is | kernel_rfl))
  (case m_NoSteps=>k_is);(case x_NoSteps=>k_exc);(case e_NoSteps=>(refine ⟨?_,?_,?_,?_,?_,?_⟩ <;> first | k_is | kernel_rfl))
  (case m_NoBox=>k_is);(case x_NoBox=>k_exc);(case e_NoBox=>(refine ⟨?_,?_,?_,?_,?_,?_⟩ <;> first | k_is | kernel_rfl))
  (case m_NoGain=>k_is);(case x_NoGain=>k_exc);(case e_NoGain=>(refine ⟨?_,?_,?_,?_,?_,?_⟩ <;> first | k_is | kernel_rfl))
  (case m_NoText=>k_is);(case x_NoText=>k_exc);(case e_NoText=>(refine ⟨?_,?_,?_,?_,?_,?_⟩ <;> first | k_is | kernel_rfl))
  (case m_NoLine=>k_is);(case x_NoLine=>k_exc);(case e_NoLine=>(refine ⟨?_,?_,?_,?_,?_,?_⟩ <;> first | k_is | kernel_rfl))
  (case m_NoName=>k_is);(case x_NoName=>k_exc);(case e_NoName=>(refine ⟨?_,?_,?_,?_,?_,?_⟩ <;> first | k_is | kernel_rfl))
  (case m_NoDeed=>k_is);(case x_NoDeed=>k_exc);(case e_NoDeed=>(refine ⟨?_,?_,?_,?_,?_,?_⟩ <;> first | k_is | kernel_rfl))
  (case m_RestError=>k_is);(case x_RestError=>k_exc);(case e_RestError=>(refine ⟨?_,?_,?_,?_,?_,?_⟩ <;> first | k_is | kernel_rfl))
  (case kt_NoParts=>(refine ⟨?_,?_,?_,?_,?_,?_,?_,?_,?_,?_,?_,?_,?_,?_,?_,?_,?_,?_,?_⟩ <;> first | kernel_rfl | (refine ⟨?_,?_,?_,?_,?_,?_⟩ <;> first | k_is | kernel_rfl)))
