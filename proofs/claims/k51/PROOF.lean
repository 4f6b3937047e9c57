import PyProof.Rows.All
import Wide.All
import OpenK.AllK
import Wide.FinOn
import PyProof.EqAt
import PyProof.EqKinds
import PyProof.TupleCall
import KE.KTryMore
import KE.KIsNot
import PyProof.MeetsStr
import PyProof.Rows.RuleM_int
import PyProof.CompFree
import PyProof.WalksEnum
import PyProof.EnumMake
import PyProof.NeKinds
import PyProof.ConsumeWalk
import PyProof.CompMap
import PyProof.Rows.EqBoolInt
import KE.IntBitsLaws
import PyProof.ZipIter
import PyProof.Rows.ZipGen
import PyProof.MinMaxWalk
import PyProof.WalkInts
import PyProof.Rows.CallKwBuiltin
import PyProof.CompUse
import KE.KRevIter
import PyProof.Rows.Range3
import PyProof.NsDelKeeps
import PyProof.SumAny
import PyProof.TupleIter
import PyProof.WalksMore
import PyProof.ListRange
import PyProof.CollectStr
import PyProof.TupleOfStr
import PySem.Challenge.RW_restward_k51_room_of_boxes
set_option Elab.async false
set_option linter.all false
-- CHANGE: your row's module here,as the last of these rows
set_option maxRecDepth 100000
namespace L2
open PySem PySem.Spec PyProof.Rows
abbrev Key:=Sum Int Str
def bh9:Key→Value→Bool
 | .inl k,v=>Value.isInt k v
 | .inr x,v=>Value.isStrOf x v
def br2 (w:World):Key→Int
 | .inl k=>hashInt k
 | .inr x=>hashStr w x
theorem C8:∀ {k:Key} {v:Value},bh9 k v=true→(∃ i t,k=Sum.inl i∧v=Value.int i t)∨(∃ x t,k=Sum.inr x∧v=Value.str x t)
 | .inl i,v,h=>by
  obtain ⟨t,e⟩:=Value.isInt_shape (k:=i) (v:=v) h
  exact .inl ⟨i,t,rfl,e⟩
 | .inr x,v,h=>by
  obtain ⟨t,e⟩:=Value.isStrOf_shape (x:=x) (v:=v) h
  exact .inr ⟨x,t,rfl,e⟩
theorem bm0 (a b:Int):decide ((Sum.inl a:Key)=Sum.inl b)=(a == b):=by
 by_cases e:a=b
 ·subst e;simp
 ·have h : ¬ (Sum.inl a:Key)=Sum.inl b:=fun q=>e (Sum.inl.inj q)
  rw [decide_eq_false h]
  exact (beq_eq_false_iff_ne.mpr e).symm
theorem bl7 (a b:Str):decide ((Sum.inr a:Key)=Sum.inr b)=decide (a=b):=by
 by_cases e:a=b
 ·subst e;simp
 ·have h : ¬ (Sum.inr a:Key)=Sum.inr b:=fun q=>e (Sum.inr.inj q)
  rw [decide_eq_false h,decide_eq_false e]
theorem bl9 (a:Int) (b:Str):decide ((Sum.inl a:Key)=Sum.inr b)=false:=decide_eq_false (fun q=>nomatch q)
theorem bl8 (a:Str) (b:Int):decide ((Sum.inr a:Key)=Sum.inl b)=false:=decide_eq_false (fun q=>nomatch q)
def aD2 (prog:Program) (w:World):PySem.KeyKind prog w Key where
 is:=bh9
 hash:=br2 w
 inj:=fun v a b ha hb=>by
  rcases C8 ha with ⟨i,t,rfl,rfl⟩ | ⟨x,t,rfl,rfl⟩
  ·rcases C8 hb with ⟨j,u,rfl,e⟩ | ⟨y,u,rfl,e⟩
   ·injection e with e1 _;rw [e1]
   ·exact nomatch e
  ·rcases C8 hb with ⟨j,u,rfl,e⟩ | ⟨y,u,rfl,e⟩
   ·exact nomatch e
   ·injection e with e1 _;rw [e1]
 byValue:=fun k v h=>by
  rcases C8 h with ⟨i,t,rfl,rfl⟩ | ⟨x,t,rfl,rfl⟩ <;> rfl
 pyHash:=fun hv h=>by
  rcases C8 hv with ⟨i,t,rfl,rfl⟩ | ⟨x,t,rfl,rfl⟩
  ·exact wpAny_pyHash_int h
  ·exact wpAny_pyHash_str h
 eqBool:=fun hu hv h=>by
  rcases C8 hu with ⟨i,t,rfl,rfl⟩ | ⟨x,t,rfl,rfl⟩
  ·rcases C8 hv with ⟨j,u,rfl,rfl⟩ | ⟨y,u,rfl,rfl⟩
   ·rw [bm0] at h;exact wpAny_eqBool_int h
   ·rw [bl9] at h;exact SeqAt.EqAt.int_str i t y u _ _ _ _ h
  ·rcases C8 hv with ⟨j,u,rfl,rfl⟩ | ⟨y,u,rfl,rfl⟩
   ·rw [bl8] at h;exact SeqAt.EqAt.str_int x t j u _ _ _ _ h
   ·rw [bl7] at h;exact wpAny_eqBool_str h
 «strs»:=fun k x t v h=>by
  rcases C8 h with ⟨i,u,rfl,e⟩ | ⟨y,u,rfl,e⟩
  ·exact nomatch e
  ·injection e with e1 _
   subst e1
   cases v <;> rfl
inductive V where
 | non | bl (b:Bool) | int (i:Int) | str (x:Str) | byt (b:Array UInt8) | flt (b:UInt64) | ref (a:Addr) | ty (n:String)
 deriving DecidableEq
def B1:V→Value→Prop
 | .non,u=>u=Value.none
 | .bl b,u=>u=Value.bool b
 | .int i,u=>∃ t,u=Value.int i t
 | .str x,u=>∃ t,u=Value.str x t
 | .byt b,u=>∃ t,u=Value.bytes b t
 | .flt b,u=>∃ t,u=Value.float b t
 | .ref a,u=>u=Value.ref a
 | .ty n,u=>u=Value.type n
abbrev p7:List V→List Value→Prop:=Paired B1
theorem p7.length {xs:List V} {us:List Value} (r:p7 xs us):xs.length=us.length:=Paired.length r
theorem p7.get:∀ {xs:List V} {us:List Value} {i:Nat} {x:V},p7 xs us→xs[i]? = some x→∃ u,us[i]? = some u∧B1 x u
 | _,_,_,_,.nil,e=>by simp at e
 | _,_,0,_,.cons r _,e=>by simp at e;subst e;exact ⟨_,rfl,r⟩
 | _,_,i+1,x,.cons _ t,e=>by
  obtain ⟨u,h1,h2⟩:=p7.get (i:=i) (x:=x) t (by simpa using e)
  exact ⟨u,by simpa using h1,h2⟩
theorem p7.set {x:V} {u:Value} (r:B1 x u):∀ {xs:List V} {us:List Value} (i:Nat),p7 xs us→p7 (xs.set i x) (us.set i u)
 | _,_,_,.nil=>.nil
 | _,_,0,.cons _ t=>.cons r t
 | _,_,i+1,.cons q t=>.cons q (p7.set r i t)
theorem p7.append:∀ {xs ys:List V} {us ws:List Value},p7 xs us→p7 ys ws→p7 (xs++ys) (us++ws)
 | _,_,_,_,.nil,s=>s
 | _,_,_,_,.cons r t,s=>.cons r (p7.append t s)
theorem p7.take:∀ {xs:List V} {us:List Value} (n:Nat),p7 xs us→p7 (xs.take n) (us.take n)
 | _,_,0,_=>.nil
 | _,_,_+1,.nil=>.nil
 | _,_,n+1,.cons r t=>.cons r (p7.take n t)
theorem p7.drop:∀ {xs:List V} {us:List Value} (n:Nat),p7 xs us→p7 (xs.drop n) (us.drop n)
 | _,_,0,r=>r
 | _,_,_+1,.nil=>.nil
 | _,_,n+1,.cons _ t=>p7.drop n t
theorem p7.none_of:∀ {xs:List V} {us:List Value} {i:Nat},p7 xs us→xs[i]? = none→us[i]? = none:=fun {xs us i} r e=>by
 have h1:=r.length
 have h2:xs.length≤i:=List.getElem?_eq_none_iff.mp e
 exact List.getElem?_eq_none_iff.mpr (by omega)
def bo0:Option V→Option Value→Prop
 | some v,some u=>B1 v u
 | none,none=>True
 | _,_=>False
def KV {κ:Type}:List (κ × V)→List (κ × Value)→Prop:=Paired fun (p : κ × V) (q : κ × Value)=>p.1=q.1∧B1 p.2 q.2
def kV:Key→V
 | .inl i=>.int i
 | .inr x=>.str x
inductive HO where
 /-- a list -/
 | lst (xs:List V)
 /-- a tuple (never changes) -/
 | tup (xs:List V)
 /-- a dict whose keys are ints and texts;one whose keys are tuples of ints and texts (the empty one is both) -/
 | dK (kvs:List (Key × V)) | dT (kvs:List (List Key × V))
 /-- a set of ints: its members,its size -/
 | set (S:Int→Bool) (n:Nat)
 /-- an instance of the class at C,its dict at dx,its attributes -/
 | ins (C dx:Addr) (fs:List (Str × V))
 /-- the dict of the instance at x -/
 | own (x:Addr)
 /-- the dict of an exception -/
 | xd (fs:List (Str × V))
 /-- a bound method,f of x -/
 | met (f x:Addr)
 /-- a range object lo,lo+1,.. R0 hi -/
 | rng (lo hi:Int)
 /-- a thing that is known to the object (the script;a dict while a loop walks it): read,never written while it is so -/
 | frz (o:Obj) (u:HO)
 /-- a code object's table -/
 | tbl (ps:Array Value)
 /-- any other thing,by what is true of its one object (a def of one's own: SetO a S n:=HO.ext fun h=>..) -/
 | ext (φ:Heap→Prop)
abbrev Hp:=Addr→Option HO
def upd (H:Hp) (a:Addr) (o:HO):Hp:=fun b=>if b=a then some o else H b
theorem b8 {H:Hp} {a:Addr} {o:HO}:upd H a o a=some o:=by unfold upd;rw [if_pos rfl]
theorem j3 {H:Hp} {a b:Addr} {o:HO} (h:b≠a):upd H a o b=H b:=by unfold upd;rw [if_neg h]
theorem bh7 {H:Hp} {a b:Addr} {o u:HO} (h:H a=some o) (h':H b=some u) (d:o≠u):a≠b:=by
 intro e;subst e;rw [h] at h';exact d (Option.some.inj h')
theorem j4 {H:Hp} {a b:Addr} {o:HO} (h:H a=some o) (h':H b=none):a≠b:=by
 intro e;subst e;rw [h] at h';cases h'
section
variable (P:Program) (w:World)
def E4 (H:Hp) (h:Heap) (a:Addr):HO→Prop
 | .lst xs=>xs.length≤sizeLine∧∃ (its:List Value) (n:Nat),p7 xs its∧h.get? a=some { cls:=.type "list",data:=.seq its.toArray n }
 | .tup xs=>xs.length≤sizeLine∧∃ its:List Value,p7 xs its∧IsTup h a its.toArray
 | .dK kvs=>kvs.length≤sizeLine∧(a == sysModules)=false∧∃ vs,KV kvs vs∧h.DictOf (aD2 P w) a vs
 | .dT kvs=>kvs.length≤sizeLine∧(a == sysModules)=false∧∃ xs:List (List Key × Addr × Value),
   Paired (fun (p:List Key × V) (q:List Key × Addr × Value)=>p.1=q.1∧H q.2.1=some (.tup (p.1.map kV))∧B1 p.2 q.2.2) kvs xs ∧
   ∃ o es ep,h.get? a=some o∧o.ExactDict∧o.data = .dict es ep∧es.toList=xs.map (entryOfKey (tupleKind (aD2 P w)))∧(xs.map (·.1)).Nodup
 | .set S n=>h.SetOf (intKind P w) a S n
 | .ins C dx fs=>H dx=some (.own a)∧fs.length≤1000∧dx≠a∧h.get? a=some (PySem.W.instObj C dx) ∧
   ∃ mA,h.Ns1 dx mA∧(∀ f,bo0 (fs.lookup f) (mA f))∧PySem.Within mA (fs.map (·.1))
 | .own _=>∃ o,h.get? a=some o
 | .xd fs=>∃ mA,h.Ns1 a mA∧∀ f,bo0 (fs.lookup f) (mA f)
 | .rng lo hi=>∃ t u v,h.get? a=some { cls:=.type "range",data:=.fields #[.int lo t,.int hi u,.int 1 v] }
 | .frz o u=>h.get? a=some o∧E4 H h a u
 | .tbl ps=>h.get? a=some { cls:=.none,data:=.fields ps }
 | .met f x=>h.get? a=some (PySem.W.methodObj (.ref f) (.ref x))
 | .ext φ=>φ h∧(∃ o,h.get? a=some o)∧∀ h1 h2:Heap,φ h1→(∀ o,h1.get? a=some o→h2.get? a=some o)→φ h2
def HOk (H:Hp) (h:Heap):Prop:=∀ a o,H a=some o→E4 P w H h a o
end
section
variable {P:Program} {w:World} {H H':Hp} {h h':Heap} {a:Addr} {o:HO}
theorem E4.lt (x:E4 P w H h a o):a<h.objs.size:=by
 cases o with
 | lst xs=>obtain ⟨_,_,_,_,e⟩:=x;exact Heap.lt_size e
 | tup xs=>obtain ⟨_,_,_,p⟩:=x;exact p.lt
 | dK kvs=>obtain ⟨_,_,_,_,o,_,_,e,_⟩:=x;exact Heap.lt_size e
 | dT kvs=>obtain ⟨_,_,_,_,o,_,_,e,_⟩:=x;exact Heap.lt_size e
 | set S n=>obtain ⟨o,_,_,_,e,_⟩:=x;exact Heap.lt_size e
 | ins C dx fs=>obtain ⟨_,_,_,e,_⟩:=x;exact Heap.lt_size e
 | own y=>obtain ⟨_,e⟩:=x;exact Heap.lt_size e
 | xd fs=>obtain ⟨_,⟨_,_,_,e,_⟩,_⟩:=x;exact Heap.lt_size e
 | rng lo hi=>obtain ⟨_,_,_,e⟩:=x;exact Heap.lt_size e
 | frz ob u=>obtain ⟨e,_⟩:=x;exact Heap.lt_size e
 | tbl ps=>exact Heap.lt_size (show h.get? a=some _ from x)
 | met f y=>exact Heap.lt_size (show h.get? a=some _ from x)
 | ext φ=>obtain ⟨_,⟨_,e⟩,_⟩:=x;exact Heap.lt_size e
theorem Paired.mapP {α β:Type} {F G : α→β→Prop}:∀ {l₁:List α} {l₂:List β},Paired F l₁ l₂→(∀ a b,F a b→G a b)→Paired G l₁ l₂
 | _,_,.nil,_=>.nil
 | _,_,.cons r t,f=>.cons (f _ _ r) (Paired.mapP t f)
theorem E4.stay (x:E4 P w H h a o) (k:∀ b u,(b=a∨H b=some (.own a))→h.get? b=some u→h'.get? b=some u)
  (ho:∀ b,H b=some (.own a)→H' b=some (.own a)) (ht:∀ b xs,H b=some (.tup xs)→H' b=some (.tup xs)):E4 P w H' h' a o:=by
 induction o with
 | lst xs=>obtain ⟨z,its,n,r,e⟩:=x;exact ⟨z,its,n,r,k _ _ (.inl rfl) e⟩
 | tup xs=>obtain ⟨z,its,r,ob,e,c⟩:=x;exact ⟨z,its,r,ob,k _ _ (.inl rfl) e,c⟩
 | dK kvs=>obtain ⟨z,y,vs,r,ob,es,ep,e,c⟩:=x;exact ⟨z,y,vs,r,ob,es,ep,k _ _ (.inl rfl) e,c⟩
 | dT kvs=>
  obtain ⟨z,y,xs,r,ob,es,ep,e,c⟩:=x
  exact ⟨z,y,xs,Paired.mapP r fun p q z=>⟨z.1,ht _ _ z.2.1,z.2.2⟩,ob,es,ep,k _ _ (.inl rfl) e,c⟩
 | set S n=>obtain ⟨ob,es,ep,t,e,c⟩:=x;exact ⟨ob,es,ep,t,k _ _ (.inl rfl) e,c⟩
 | ins C dx fs=>
  obtain ⟨d,z,ne,e,mA,⟨od,es,ep,e2,c⟩,r⟩:=x
  exact ⟨ho _ d,z,ne,k _ _ (.inl rfl) e,mA,⟨od,es,ep,k _ _ (.inr d) e2,c⟩,r⟩
 | own y=>obtain ⟨ob,e⟩:=x;exact ⟨ob,k _ _ (.inl rfl) e⟩
 | xd fs=>obtain ⟨mA,⟨od,es,ep,e,c⟩,r⟩:=x;exact ⟨mA,⟨od,es,ep,k _ _ (.inl rfl) e,c⟩,r⟩
 | rng lo hi=>obtain ⟨t,u,v,e⟩:=x;exact ⟨t,u,v,k _ _ (.inl rfl) e⟩
 | frz ob u ih=>obtain ⟨e,q⟩:=x;exact ⟨k _ _ (.inl rfl) e,ih q⟩
 | tbl ps=>
  have e:h.get? a=some { cls:=.none,data:=.fields ps }:=x
  show h'.get? a=some { cls:=.none,data:=.fields ps }
  exact k a _ (.inl rfl) e
 | met f y=>
  have e:h.get? a=some (PySem.W.methodObj (.ref f) (.ref y)):=x
  show h'.get? a=some (PySem.W.methodObj (.ref f) (.ref y))
  exact k a _ (.inl rfl) e
 | ext φ=>obtain ⟨p,⟨o,e⟩,st⟩:=x;exact ⟨st _ _ p fun o q=>k _ _ (.inl rfl) q,⟨o,k _ _ (.inl rfl) e⟩,st⟩
theorem HOk.lt (x:HOk P w H h) (e:H a=some o):a<h.objs.size:=(x a o e).lt
theorem HOk.fresh (x:HOk P w H h) (e:h.objs.size≤a):H a=none:=by
 cases q:H a with
 | none=>rfl
 | some u=>exact absurd (Nat.lt_of_lt_of_le (x.lt q) e) (Nat.lt_irrefl _)
theorem HOk.kept (x:HOk P w H h) (k:∀ b u,h.get? b=some u→h'.get? b=some u):HOk P w H h':=fun a o e=>
 (x a o e).stay (fun b u _ q=>k b u q) (fun _ q=>q) fun _ _ q=>q
theorem HOk.laid (x:HOk P w H h) (k:∀ b u,h.get? b=some u→h'.get? b=some u) (hp:h.objs.size≤a) (new:E4 P w (upd H a o) h' a o):HOk P w (upd H a o) h':=fun b u e=>by
 have hn:=x.fresh hp
 by_cases hb:b=a
 ·subst hb;rw [b8] at e;cases e;exact new
 ·rw [j3 hb] at e
  exact (x b u e).stay (fun c v _ q=>k c v q) (fun c q=>by rw [j3 (j4 q hn)];exact q) fun c xs q=>by rw [j3 (j4 q hn)];exact q
end
def Rd (H:Hp) (a:Addr) (u:HO):Prop:=H a=some u∨∃ o,H a=some (.frz o u)
theorem Rd.ok {P:Program} {w:World} {H:Hp} {h:Heap} {a:Addr} {u:HO} (r:Rd H a u) (x:HOk P w H h):E4 P w H h a u:=by
 rcases r with r | ⟨o,r⟩
 ·exact x a u r
 ·obtain ⟨_,q⟩:=x a _ r
  exact q
def Mut:Option HO→Prop
 | some (.lst _)=>True
 | some (.dK _)=>True
 | some (.dT _)=>True
 | some (.set _ _)=>True
 | some (.ins _ _ _)=>True
 | some (.ext _)=>True
 | _=>False
section
variable {P:Program} {w:World} {H:Hp} {h h':Heap} {x e:Addr} {o':HO}
theorem HOk.write (ok:HOk P w H h) (mu:Mut (H x)) (he:e=x∨H e=some (.own x)) (k:∀ b u,b≠e→h.get? b=some u→h'.get? b=some u) (heo:∃ u,h'.get? e=some u)
  (new:E4 P w (upd H x o') h' x o'):HOk P w (upd H x o') h':=fun b u q=>by
 have nown:∀ c y,H c=some (.own y)→c≠x:=fun c y r z=>by subst z;rw [r] at mu;exact mu
 have ntup:∀ c xs,H c=some (.tup xs)→c≠x:=fun c xs r z=>by subst z;rw [r] at mu;exact mu
 by_cases hb:b=x
 ·subst hb;rw [b8] at q;cases q;exact new
 ·rw [j3 hb] at q
  by_cases hbe:b=e
  ·have q':H b=some (.own x):=by
    rcases he with z | z
    ·exact absurd (hbe.trans z) hb
    ·rw [hbe];exact z
   rw [q] at q';cases q'
   obtain ⟨v,hv⟩:=heo
   exact ⟨v,by rw [hbe];exact hv⟩
  ·refine (ok b u q).stay (fun c v hc r=>k c v ?_ r) (fun c r=>by rw [j3 (nown c b r)];exact r) fun c xs r=>by rw [j3 (ntup c xs r)];exact r
   rcases hc with rfl | hc
   ·exact hbe
   ·rintro rfl
    rcases he with z | z
    ·exact nown c b hc z
    ·rw [hc] at z;cases z;exact hb rfl
end
structure Un (fs ex:List Addr) (H H':Hp) (h h':Heap):Prop where
 keep:∀ b o,h.get? b=some o→H b=none→b ∉ fs→b ∉ ex→h'.get? b=some o
 slot:∀ b o,h.get? b=some o→H b=none→b∈fs→b ∉ ex→∃ sl,h'.get? b=some { o with slots:=sl }
 free:∀ b o,h.get? b=some o→H b=none→b ∉ ex→H' b=none
 there:∀ b o,h.get? b=some o→b ∉ ex→∃ o',h'.get? b=some o'
 tups:∀ b xs,H b=some (.tup xs)→H' b=some (.tup xs)
 frzs:∀ b o u,H b=some (.frz o u)→H' b=some (.frz o u)
 tbls:∀ b ps,H b=some (.tbl ps)→∃ more,H' b=some (.tbl (ps++more))
section
variable {fs fs' ex ex':List Addr} {H H1 H2:Hp} {h h1 h2 h':Heap} {a x e:Addr} {o:HO}
theorem Un.any (u:Un fs ex H H1 h h1) {b:Addr} {ob:Obj} (q:h.get? b=some ob) (n:H b=none) (hx:b ∉ ex):∃ sl,h1.get? b=some { ob with slots:=sl }:=by
 by_cases hb:b∈fs
 ·exact u.slot b ob q n hb hx
 ·exact ⟨ob.slots,u.keep b ob q n hb hx⟩
theorem Un.kept (k:∀ b u,h.get? b=some u→h'.get? b=some u):Un fs ex H H h h':=
 ⟨fun b ob q _ _ _=>k b ob q,fun b ob q _ _ _=>⟨ob.slots,k b ob q⟩,fun _ _ _ n _=>n,fun b ob q _=>⟨ob,k b ob q⟩,fun _ _ q=>q,fun _ _ _ q=>q,fun _ ps q=>⟨#[],by rw [q];simp⟩⟩
theorem Un.refl:Un fs ex H H h h:=Un.kept fun _ _ q=>q
theorem Un.laid (k:∀ b u,h.get? b=some u→h'.get? b=some u) (hp:h.objs.size≤a) (hn:H a=none):Un fs ex H (upd H a o) h h' where
 keep:=fun b u q _ _ _=>k b u q
 slot:=fun b u q _ _ _=>⟨u.slots,k b u q⟩
 free:=fun b u q n _=>by rw [j3 (Nat.ne_of_lt (Nat.lt_of_lt_of_le (Heap.lt_size q) hp))];exact n
 there:=fun b u q _=>⟨u,k b u q⟩
 tups:=fun b xs q=>by rw [j3 (j4 q hn)];exact q
 frzs:=fun b u xs q=>by rw [j3 (j4 q hn)];exact q
 tbls:=fun b ps q=>⟨#[],by rw [j3 (j4 q hn),q];simp⟩
theorem Un.write (mu:Mut (H x)) (he:e=x∨H e=some (.own x)) (k:∀ b u,b≠e→h.get? b=some u→h'.get? b=some u) (heo:∃ u,h'.get? e=some u):Un fs ex H (upd H x o) h h':=by
 have hx:∀ b,H b=none→b≠x:=fun b n z=>by subst z;rw [n] at mu;exact mu
 have hb:∀ b,H b=none→b≠e:=fun b n z=>by
  subst z
  rcases he with r | r
  ·exact hx b n r
  ·rw [n] at r;cases r
 have hm:∀ b u,H b=some u→¬ Mut (some u)→b≠x:=fun b u q nm z=>by subst z;rw [q] at mu;exact nm mu
 refine ⟨fun b u q n _ _=>k b u (hb b n) q,fun b u q n _ _=>⟨u.slots,k b u (hb b n) q⟩,fun b u q n _=>by rw [j3 (hx b n)];exact n,fun b u q _=>?_,
  fun b xs q=>by rw [j3 (hm b _ q fun z=>z)];exact q,fun b u xs q=>by rw [j3 (hm b _ q fun z=>z)];exact q,fun b ps q=>⟨#[],by rw [j3 (hm b _ q fun z=>z),q];simp⟩⟩
 by_cases hbe:b=e
 ·subst hbe;exact heo
 ·exact ⟨u,k b u hbe q⟩
end
def trk (h:Heap) (H:Hp):List Addr:=(List.range h.objs.size).filter fun a=>(H a).isSome
def aD5 (h:Heap) (H:Hp):Heap:=PySem.W.hideAll h (trk h H)
theorem aS3 (h:Heap) (H:Hp):(aD5 h H).objs.size=h.objs.size:=PySem.W.hideAll_size _ _
theorem aZ9 {h:Heap} {H:Hp} {b:Addr} {o:Obj} (e:h.get? b=some o) (n:H b=none):(aD5 h H).get? b=some o:=
 PySem.W.hideAll_get _ e fun hm=>by
  have q:(H b).isSome=true:=(List.mem_filter.mp hm).2
  rw [n] at q;simp at q
theorem be7 {h:Heap} {H:Hp} {b:Addr} {o:Obj} (e:(aD5 h H).get? b=some o):h.get? b=some o∧H b=none:=by
 have e':h.get? b=some o:=PySem.W.of_hideAll (trk h H) e
 refine ⟨e',?_⟩
 cases q:H b with
 | none=>rfl
 | some x=>
  have hm:b∈trk h H:=List.mem_filter.mpr ⟨List.mem_range.mpr (Heap.lt_size e'),by simp [q]⟩
  have z:(aD5 h H).get? b=none:=PySem.W.hideAll_none (trk h H) hm
  rw [z] at e;cases e
def bg3 (g h:Heap) (L:Addr):List (Addr × Obj):=(List.range h.objs.size).filterMap fun a=>if a=L∨(g.get? a).isSome=true then none else (h.get? a).map fun o=>(a,o)
def ag4 (g h:Heap) (L d:Addr):List (Addr × Obj):=(bg3 g h L).filter fun p=>decide (p.1≠d)
structure Mod (K:PySem.W.Frag) (mg:Str→Option Value) (base:Heap):Prop where
 kin:K.In base
 glob:base.Ns mainGlobals mg
 blt:∃ mb,base.Ns builtinsNs mb∧∀ x:Str,x≠"__name__" → mb x=bootBuiltins x
 nolimit:base.NoLimit
/-- the context: a def's body (or a comprehension's block) running. base: fixed through the whole law;s₀,H₀: the entry;outer: the frames whose slots others may change (a def's callers);stack: all frames that run;
   ex: iterators that were made ahead of the entry and are walked here (a comprehension's);fn: the names whose cells were made at the entry (a def: all;a comprehension's block: its own);calm: not within an except suite;pn: pins that every state bears;xe: what is wanted of an exception that leaves the code -/
structure Cx where
 prog:Program
 w:World
 K:PySem.W.Frag
 mg:Str→Option Value
 base:Heap
 A:Around
 N:List Str
 s₀:Shared
 H₀:Hp
 env:Env
 outer:List Env
 stack:List Env
 ex:List Addr
 fn:Str→Bool
 calm:Bool
 pn:List (Addr × Obj)
 xe:Value→Shared→Prop
def frs (l:List Env):List Addr:=l.filterMap (·.frame)
abbrev Cx.fs (X:Cx):List Addr:=frs X.outer
def Vis (sc:Scope) (x:Str):Prop:=sc.names.lookup x=some .local∨sc.names.lookup x=some .cell∨sc.names.lookup x=some .free
def Loc (sc:Scope) (x:Str):Prop:=sc.names.lookup x=some .local∨sc.names.lookup x=some .cell
def br6 (env:Env) (h:Heap) (m:Str→Option Value) (x:Str) (u:Value):Prop:=
 (env.kindOf x=some .local∧m x=some u)∨((env.kindOf x=some .cell∨env.kindOf x=some .free)∧∃ c,env.cells.lookup x=some c∧h.IsCell c (some u))
structure Cx.Ok (X:Cx):Prop where
 mod:Mod X.K X.mg X.base
 kind:X.env.scope.kind = .function
 glob:X.env.globals=mainGlobals
 blt:X.env.builtins=builtinsNs
 above:X.s₀.heap.objs.size≤X.env.locals
 inj:∀ x y c,X.env.cells.lookup x=some c→X.env.cells.lookup y=some c→x=y
 has:∀ x,(X.env.kindOf x=some .cell∨X.env.kindOf x=some .free)→∃ c,X.env.cells.lookup x=some c
 cab:∀ x c,X.fn x=true→X.env.cells.lookup x=some c→X.s₀.heap.objs.size≤c
 hd:X.calm=true→X.A.handled=none
 frames:X.A.frames=some X.stack
 stk:X.stack=X.outer∨(X.stack=X.env :: X.outer∧X.env.frame=some X.env.locals)
 exf:∀ b∈X.ex,b≠X.env.locals∧∀ x c,X.env.cells.lookup x=some c→c≠b
 bs:∀ b o,X.base.get? b=some o→X.s₀.heap.get? b=some o∧X.H₀ b=none
 bsz:X.base.objs.size≤X.s₀.heap.objs.size
 noex:∀ b o,X.base.get? b=some o→b ∉ X.ex
 exfs:∀ b∈X.ex,b ∉ X.fs
 funs:X.s₀.heap.FunFrames X.base X.outer
 frf:∀ b∈X.fs,X.H₀ b=none
structure Inv (X:Cx) (pins:List (Addr × Obj)) (σ:List (Option V)) (H:Hp) (s:Shared):Prop where
 ok:X.Ok
 os:s.os=X.s₀.os
 bare:AllBare s.gens
 base:Un X.fs X.ex X.H₀ H X.s₀.heap s.heap
 loc:∃ m,s.heap.Ns X.env.locals m∧∀ (i:Nat) (x:Str) (v:V),X.N[i]? = some x→σ[i]? = some (some v)→Vis X.env.scope x→∃ u,B1 v u∧br6 X.env s.heap m x u
 cell:∀ x c,X.env.cells.lookup x=some c→∃ v,s.heap.IsCell c v
 free:H X.env.locals=none
 freeC:∀ x c,X.env.cells.lookup x=some c→H c=none
 pin:∀ p∈X.pn++pins,s.heap.get? p.1=some p.2∧H p.1=none∧p.1≠X.env.locals∧p.1 ∉ X.fs∧∀ v,p.2.data≠.cell v
 hok:HOk X.prog X.w H s.heap
 len:σ.length=X.N.length
section
variable {X:Cx} {pins:List (Addr × Obj)} {σ:List (Option V)} {H H':Hp} {s:Shared} {h':Heap}
theorem Cx.Ok.nofr (ok:X.Ok) {b:Addr} {o:Obj} (e:X.base.get? b=some o):b ∉ X.fs:=fun hb=>by
 have:=(ok.funs.mem hb).1
 rw [e] at this;cases this
theorem Inv.bs (I:Inv X pins σ H s):∀ b o,X.base.get? b=some o→s.heap.get? b=some o∧H b=none:=fun b o e=>
 ⟨I.base.keep b o (I.ok.bs b o e).1 (I.ok.bs b o e).2 (I.ok.nofr e) (I.ok.noex b o e),I.base.free b o (I.ok.bs b o e).1 (I.ok.bs b o e).2 (I.ok.noex b o e)⟩
theorem Inv.bk (I:Inv X pins σ H s):∀ b o,X.base.get? b=some o→s.heap.get? b=some o:=fun b o e=>(I.bs b o e).1
theorem Inv.mod (I:Inv X pins σ H s):Mod X.K X.mg X.base:=I.ok.mod
theorem Inv.kIn (I:Inv X pins σ H s):X.K.In s.heap:=I.ok.mod.kin.keeps I.bk
theorem Inv.fr (I:Inv X pins σ H s):∃ m,Fr X.base X.env.locals s.heap m:=
 let ⟨m,hn,_⟩:=I.loc
 ⟨m,hn,I.bk,Nat.le_trans I.ok.bsz I.ok.above⟩
theorem Inv.lt (I:Inv X pins σ H s):X.env.locals<s.heap.objs.size:=let ⟨_,hn,_⟩:=I.loc;hn.lt
theorem Inv.sz (I:Inv X pins σ H s):X.s₀.heap.objs.size≤s.heap.objs.size:=Nat.le_trans I.ok.above (Nat.le_of_lt I.lt)
theorem Inv.nofs (I:Inv X pins σ H s) {a:Addr} (h:s.heap.objs.size≤a):a ∉ X.fs:=fun hb=>by
 obtain ⟨_,o,ho,_⟩:=I.ok.funs.mem hb
 exact absurd (Nat.lt_of_lt_of_le (Heap.lt_size ho) (Nat.le_trans I.sz h)) (Nat.lt_irrefl _)
theorem Inv.cne (I:Inv X pins σ H s):∀ x c,X.env.cells.lookup x=some c→c≠X.env.locals:=fun x c e z=>by
 obtain ⟨v,o,ho,hd⟩:=I.cell x c e
 obtain ⟨m,⟨o',es,ep,ho',hd',_⟩,_⟩:=I.loc
 rw [z,ho'] at ho;cases ho;rw [hd'] at hd;cases hd
theorem Inv.funs (I:Inv X pins σ H s):s.heap.FunFrames X.base X.outer:=by
 have all:∀ (l:List Env),(∀ b∈frs l,b∈X.fs)→X.s₀.heap.FunFrames X.base l→s.heap.FunFrames X.base l:=by
  intro l
  induction l with
  | nil=>intro _ _;trivial
  | cons env r ih=>
   intro hs hl
   obtain ⟨hk,⟨L,o,hf,hn,ho,hd⟩,hr⟩:=hl
   have hL:L∈X.fs:=hs L (by unfold frs;rw [List.filterMap_cons,hf];exact List.mem_cons_self)
   obtain ⟨sl,e⟩:=I.base.slot L o ho (I.ok.frf L hL) hL fun z=>I.ok.exfs L z hL
   exact ⟨hk,⟨L,_,hf,hn,e,hd⟩,ih (fun b hb=>hs b (by unfold frs;rw [List.filterMap_cons,hf];exact List.mem_cons_of_mem _ hb)) hr⟩
 exact all X.outer (fun _ hb=>hb) I.ok.funs
theorem Inv.stack (I:Inv X pins σ H s):s.heap.FunFrames X.base X.stack:=by
 rcases I.ok.stk with e | ⟨e,hf⟩
 ·rw [e];exact I.funs
 ·rw [e]
  obtain ⟨m,hn,_⟩:=I.loc
  refine .cons (by rw [I.ok.kind];decide) hf hn ?_ I.funs
  exact Heap.get?_none_of_le (Nat.le_trans I.ok.bsz I.ok.above)
theorem Inv.stkSub (I:Inv X pins σ H s):∀ b∈frs X.stack,b∈X.env.locals :: X.fs:=fun b hb=>by
 rcases I.ok.stk with e | ⟨e,hf⟩
 ·rw [e] at hb;exact List.mem_cons_of_mem _ hb
 ·rw [e] at hb
  unfold frs at hb
  rw [List.filterMap_cons,hf] at hb
  exact hb
theorem Inv.stkFree (I:Inv X pins σ H s):∀ b∈frs X.stack,H b=none:=fun b hb=>by
 rcases List.mem_cons.mp (I.stkSub b hb) with e | hb
 ·rw [e];exact I.free
 ·obtain ⟨_,o,ho,_⟩:=I.ok.funs.mem hb
  exact I.base.free b o ho (I.ok.frf b hb) fun z=>I.ok.exfs b z hb
theorem Inv.step {g':Array GenState} {t':Nat} {d':Drawn} {ch:List Addr} (I:Inv X pins σ H s)
  (hch:∀ b∈ch,(b∈X.ex∨X.s₀.heap.objs.size≤b)∧b≠X.env.locals∧(∀ x c,X.env.cells.lookup x=some c→c≠b)∧∀ p∈X.pn++pins,p.1≠b)
  (keep:∀ b o,b≠X.env.locals→b ∉ X.fs→b ∉ ch→s.heap.get? b=some o→H b=none→h'.get? b=some o)
  (slot:∀ b o,b≠X.env.locals→b∈X.fs→b ∉ ch→s.heap.get? b=some o→H b=none→∃ sl,h'.get? b=some { o with slots:=sl }) (free:∀ b o,b ∉ ch→s.heap.get? b=some o→H b=none→H' b=none)
  (there:∀ b o,b ∉ ch→s.heap.get? b=some o→∃ o',h'.get? b=some o')
  (tups:∀ b xs,H b=some (.tup xs)→H' b=some (.tup xs)) (frzs:∀ b o u,H b=some (.frz o u)→H' b=some (.frz o u)) (tbls:∀ b ps,H b=some (.tbl ps)→∃ more,H' b=some (.tbl (ps++more)))
  (ns:∀ m,s.heap.Ns X.env.locals m→h'.Ns X.env.locals m) (hok:HOk X.prog X.w H' h') (hg:AllBare g') :
  Inv X pins σ H' { s with heap:=h',gens:=g',drawn:=d',toks:=t' }:=by
 have neL:∀ b o,X.s₀.heap.get? b=some o→b≠X.env.locals:=fun b o e=>Nat.ne_of_lt (Nat.lt_of_lt_of_le (Heap.lt_size e) I.ok.above)
 have neC:∀ b o,X.s₀.heap.get? b=some o→b ∉ X.ex→b ∉ ch:=fun b o e hx hb=>by
  rcases (hch b hb).1 with z | z
  ·exact hx z
  ·exact absurd (Nat.lt_of_lt_of_le (Heap.lt_size e) z) (Nat.lt_irrefl _)
 have cellK:∀ x c,X.env.cells.lookup x=some c→∀ v,s.heap.IsCell c v→h'.IsCell c v:=fun x c e v ⟨o,ho,hd⟩=>by
  have nch:c ∉ ch:=fun z=>(hch c z).2.2.1 x c e rfl
  by_cases hc:c∈X.fs
  ·obtain ⟨sl,q⟩:=slot c o (I.cne x c e) hc nch ho (I.freeC x c e)
   exact ⟨_,q,hd⟩
  ·exact ⟨o,keep c o (I.cne x c e) hc nch ho (I.freeC x c e),hd⟩
 refine ⟨I.ok,I.os,hg,⟨fun b o e n hb hx=>?_,fun b o e n hb hx=>?_,fun b o e n hx=>?_,fun b o e hx=>?_,fun b xs e=>tups b xs (I.base.tups b xs e),fun b o xs e=>frzs b o xs (I.base.frzs b o xs e),fun b ps e=>?_⟩,?_,fun x c e=>?_,?_,fun x c e=>?_,fun p hp=>?_,hok,I.len⟩
 ·exact keep b o (neL b o e) hb (neC b o e hx) (I.base.keep b o e n hb hx) (I.base.free b o e n hx)
 ·obtain ⟨sl,e1⟩:=I.base.slot b o e n hb hx
  obtain ⟨sl',e2⟩:=slot b _ (neL b o e) hb (neC b o e hx) e1 (I.base.free b o e n hx)
  exact ⟨sl',e2⟩
 ·obtain ⟨o',e1⟩:=I.base.there b o e hx
  exact free b o' (neC b o e hx) e1 (I.base.free b o e n hx)
 ·obtain ⟨o',e1⟩:=I.base.there b o e hx
  exact there b o' (neC b o e hx) e1
 ·obtain ⟨m1,e1⟩:=I.base.tbls b ps e
  obtain ⟨m2,e2⟩:=tbls b _ e1
  exact ⟨m1++m2,by rw [e2,Array.append_assoc]⟩
 ·obtain ⟨m,hn,hl⟩:=I.loc
  refine ⟨m,ns m hn,fun i x v e1 e2 e3=>?_⟩
  obtain ⟨u,r,l⟩:=hl i x v e1 e2 e3
  refine ⟨u,r,?_⟩
  rcases l with l | ⟨k,c,e,z⟩
  ·exact .inl l
  ·exact .inr ⟨k,c,e,cellK x c e _ z⟩
 ·obtain ⟨v,z⟩:=I.cell x c e
  exact ⟨v,cellK x c e v z⟩
 ·obtain ⟨m,⟨o,_,_,ho,_⟩,_⟩:=I.loc
  exact free _ o (fun z=>(hch _ z).2.1 rfl) ho I.free
 ·obtain ⟨v,o,ho,hd⟩:=I.cell x c e
  exact free c o (fun z=>(hch c z).2.2.1 x c e rfl) ho (I.freeC x c e)
 ·obtain ⟨e,n,ne,nf,d⟩:=I.pin p hp
  have nch:p.1 ∉ ch:=fun z=>(hch p.1 z).2.2.2 p hp rfl
  exact ⟨keep p.1 p.2 ne nf nch e n,free p.1 p.2 nch e n,ne,nf,d⟩
theorem Inv.un {t':Nat} (I:Inv X pins σ H s) (u:Un X.fs [] H H' s.heap h') (hok:HOk X.prog X.w H' h'):Inv X pins σ H' { s with heap:=h',toks:=t' }:=by
 obtain ⟨m,⟨o,es,ep,ho,r⟩,_⟩:=id I.loc
 obtain ⟨sl,hL⟩:=u.any ho I.free (by simp)
 exact I.step (g':=s.gens) (d':=s.drawn) (ch:=[]) (fun _ z=>nomatch z) (fun b o _ hb _ e n=>u.keep b o e n hb (by simp)) (fun b o _ hb _ e n=>u.slot b o e n hb (by simp)) (fun b o _ e n=>u.free b o e n (by simp)) (fun b o _ e=>u.there b o e (by simp)) u.tups u.frzs u.tbls (fun m' hm=>by
  obtain ⟨o',es',ep',ho',r'⟩:=hm
  rw [ho] at ho';cases ho'
  exact ⟨_,es',ep',hL,r'⟩) hok I.bare
theorem Inv.call {g':Array GenState} {t':Nat} {d':Drawn} {ch:List Addr} (I:Inv X pins σ H s) (u:Un (frs X.stack) ch H H' s.heap h') (hok:HOk X.prog X.w H' h') (hg:AllBare g')
  (hch:∀ b∈ch,(b∈X.ex∨X.s₀.heap.objs.size≤b)∧b≠X.env.locals∧(∀ x c,X.env.cells.lookup x=some c→c≠b)∧∀ p∈X.pn++pins,p.1≠b) :
  Inv X pins σ H' { s with heap:=h',gens:=g',drawn:=d',toks:=t' }:=by
 obtain ⟨m,⟨o,es,ep,ho,r⟩,_⟩:=id I.loc
 obtain ⟨sl,hL⟩:=u.any ho I.free fun z=>(hch _ z).2.1 rfl
 exact I.step (ch:=ch) hch (fun b o hL hb hc e n=>u.keep b o e n (fun z=>(List.mem_cons.mp (I.stkSub b z)).elim hL hb) hc) (fun b o _ _ hc e n=>u.any e n hc) (fun b o hc e n=>u.free b o e n hc) (fun b o hc e=>u.there b o e hc) u.tups u.frzs u.tbls (fun m' hm=>by
  obtain ⟨o',es',ep',ho',r'⟩:=hm
  rw [ho] at ho';cases ho'
  exact ⟨_,es',ep',hL,r'⟩) hok hg
theorem Inv.turned {t':Nat} {it:Addr} (I:Inv X pins σ H s) (k:∀ b o,b≠it→s.heap.get? b=some o→h'.get? b=some o) (hn:H it=none) (hL:it≠X.env.locals)
  (h1:it∈X.ex∨X.s₀.heap.objs.size≤it) (h2:∀ x c,X.env.cells.lookup x=some c→c≠it) (h3:∀ p∈X.pn++pins,p.1≠it):Inv X pins σ H { s with heap:=h',toks:=t' }:=by
 have nit:∀ b u,H b=some u→b≠it:=fun b u e z=>by rw [z,hn] at e;cases e
 refine I.step (g':=s.gens) (d':=s.drawn) (ch:=[it]) (fun b hb=>?_) (fun b o _ _ hc e _=>k b o (fun z=>hc (by simp [z])) e) (fun b o _ _ hc e _=>⟨o.slots,k b o (fun z=>hc (by simp [z])) e⟩) (fun _ _ _ _ n=>n)
  (fun b o hc e=>⟨o,k b o (fun z=>hc (by simp [z])) e⟩) (fun _ _ e=>e) (fun _ _ _ e=>e) (fun b ps e=>⟨#[],by rw [e];simp⟩) (fun m hm=>?_) (fun b u e=>?_) I.bare
 ·have e:b=it:=by simpa using hb
  subst e
  exact ⟨h1,hL,h2,h3⟩
 ·obtain ⟨o,es,ep,ho,r⟩:=hm
  exact ⟨o,es,ep,k _ o (Ne.symm hL) ho,r⟩
 ·refine (I.hok b u e).stay (fun c v hc q=>k c v ?_ q) (fun _ q=>q) fun _ _ q=>q
  rcases hc with z | z
  ·rw [z];exact nit b u e
  ·exact nit c _ z
theorem Inv.tok (I:Inv X pins σ H s) (t:Nat):Inv X pins σ H { s with toks:=t }:=I.un (h':=s.heap) (t':=t) Un.refl I.hok
theorem Inv.kept {t':Nat} (I:Inv X pins σ H s) (k:∀ b u,s.heap.get? b=some u→h'.get? b=some u):Inv X pins σ H { s with heap:=h',toks:=t' }:=I.un (Un.kept k) (I.hok.kept k)
theorem Inv.laid {a:Addr} {o:HO} {t':Nat} (I:Inv X pins σ H s) (k:∀ b u,s.heap.get? b=some u→h'.get? b=some u) (hp:s.heap.objs.size≤a) (new:E4 X.prog X.w (upd H a o) h' a o) :
  Inv X pins σ (upd H a o) { s with heap:=h',toks:=t' }:=I.un (Un.laid k hp (I.hok.fresh hp)) (I.hok.laid k hp new)
theorem Inv.write {x e:Addr} {o:HO} {t':Nat} (I:Inv X pins σ H s) (mu:Mut (H x)) (he:e=x∨H e=some (.own x)) (k:∀ b u,b≠e→s.heap.get? b=some u→h'.get? b=some u) (heo:∃ u,h'.get? e=some u)
  (new:E4 X.prog X.w (upd H x o) h' x o):Inv X pins σ (upd H x o) { s with heap:=h',toks:=t' }:=I.un (Un.write mu he k heo) (I.hok.write mu he k heo new)
theorem Inv.weak {σ':List (Option V)} (I:Inv X pins σ H s) (hl:σ'.length=σ.length) (w:∀ (i:Nat) v,σ'[i]? = some (some v)→σ[i]? = some (some v)):Inv X pins σ' H s:=
 ⟨I.ok,I.os,I.bare,I.base,let ⟨m,hn,hl'⟩:=I.loc;⟨m,hn,fun i x v e1 e2 e3=>hl' i x v e1 (w i v e2) e3⟩,I.cell,I.free,I.freeC,I.pin,I.hok,hl.trans I.len⟩
theorem Inv.pins_of {pins':List (Addr × Obj)} (I:Inv X pins σ H s) (h:∀ p∈pins',s.heap.get? p.1=some p.2∧H p.1=none∧p.1≠X.env.locals∧p.1 ∉ X.fs∧∀ v,p.2.data≠.cell v):Inv X pins' σ H s:=
 ⟨I.ok,I.os,I.bare,I.base,I.loc,I.cell,I.free,I.freeC,fun p hp=>(List.mem_append.mp hp).elim (fun z=>I.pin p (List.mem_append_left _ z)) (h p),I.hok,I.len⟩
theorem aG9 {N:List Str} (hN:N.Nodup) {i j:Nat} {x:Str} (a:N[i]? = some x) (b:N[j]? = some x):i=j:=by
 obtain ⟨h1,e1⟩:=List.getElem?_eq_some_iff.mp a
 obtain ⟨h2,e2⟩:=List.getElem?_eq_some_iff.mp b
 exact (List.getElem_inj hN).mp (e1.trans e2.symm)
theorem aQ1 {M:Model} {A:Around} {E:Value→Shared→Prop} {i:Nat} {x:Str} {v:V} {u:Value} {Q:Unit→Shared→Prop} (I:Inv X pins σ H s) (hN:X.N.Nodup) (hi:X.N[i]? = some x) (hx:Loc X.env.scope x) (r:B1 v u)
  (h:∀ s',Inv X pins (σ.set i (some v)) H s'→(∃ a,Heap.SameBut a s.heap s'.heap∧(a=X.env.locals∨X.env.cells.lookup x=some a))→Q () s') (hf:X.fn x=true∨X.env.scope.names.lookup x=some .local:=by first | exact .inl rfl | exact .inr rfl | assumption):wpAny M A (storeName X.env x u) Q E s:=by
 obtain ⟨m,hn,hl⟩:=id I.loc
 have hcls:(X.env.scope.kind == .class || (X.env.scope.kind == .module && X.env.locals != X.env.globals))=false:=by rw [I.ok.kind];rfl
 have hiσ:i<σ.length:=by rw [I.len];exact (List.getElem?_eq_some_iff.mp hi).1
 have cne:=I.cne
 have tracked:∀ {a:Addr} {h':Heap},(∃ o,s.heap.get? a=some o∧H a=none)→Heap.SameBut a s.heap h'→HOk X.prog X.w H h':=fun {a h'} ha hs b ob e=>by
  obtain ⟨_,_,hfree⟩:=ha
  refine (I.hok b ob e).stay (fun c w' hc q=>(hs.2 c ?_).trans q) (fun _ q=>q) fun _ _ q=>q
  rintro rfl
  rcases hc with rfl | hc
  ·rw [hfree] at e;cases e
  ·rw [hfree] at hc;cases hc
 rcases hx with hk | hk
 ·refine wpAny_storeName_local hk hn (fun h' hn' hs=>?_) hcls
  obtain ⟨oL,_,_,hoL,_⟩:=id hn
  refine h _ ⟨I.ok,I.os,I.bare,⟨fun b o e n hb hx=>?_,fun b o e n hb hx=>?_,I.base.free,fun b o e hx=>?_,I.base.tups,I.base.frzs,I.base.tbls⟩,⟨_,hn',fun j y v' e1 e2 e3=>?_⟩,fun y c e=>?_,I.free,I.freeC,fun p hp=>?_,tracked ⟨oL,hoL,I.free⟩ hs,by simpa using I.len⟩ ⟨_,hs,.inl rfl⟩
  ·exact (hs.2 b (Nat.ne_of_lt (Nat.lt_of_lt_of_le (Heap.lt_size e) I.ok.above))).trans (I.base.keep b o e n hb hx)
  ·obtain ⟨sl,e1⟩:=I.base.slot b o e n hb hx
   exact ⟨sl,(hs.2 b (Nat.ne_of_lt (Nat.lt_of_lt_of_le (Heap.lt_size e) I.ok.above))).trans e1⟩
  ·obtain ⟨o',e1⟩:=I.base.there b o e hx
   exact ⟨o',(hs.2 b (Nat.ne_of_lt (Nat.lt_of_lt_of_le (Heap.lt_size e) I.ok.above))).trans e1⟩
  ·by_cases hj:j=i
   ·subst hj
    rw [hi] at e1;cases e1
    rw [List.getElem?_set_self hiσ] at e2
    cases e2
    exact ⟨u,r,.inl ⟨hk,by simp⟩⟩
   ·rw [List.getElem?_set_ne (Ne.symm hj)] at e2
    obtain ⟨u',r',q⟩:=hl j y v' e1 e2 e3
    refine ⟨u',r',?_⟩
    rcases q with ⟨k,e⟩ | ⟨k,c,e,z⟩
    ·refine .inl ⟨k,?_⟩
     have:y≠x:=fun e=>hj (aG9 hN e1 (e ▸ hi))
     simp [this,e]
    ·exact .inr ⟨k,c,e,z.sameBut hs (cne y c e)⟩
  ·obtain ⟨w',z⟩:=I.cell y c e
   exact ⟨w',z.sameBut hs (cne y c e)⟩
  ·obtain ⟨e,n,ne,nf,d⟩:=I.pin p hp
   exact ⟨(hs.2 p.1 ne).trans e,n,ne,nf,d⟩
 ·have hfn:X.fn x=true:=by
   rcases hf with z | z
   ·exact z
   ·rw [z] at hk;cases hk
  obtain ⟨c,hc⟩:=I.ok.has x (.inl hk)
  obtain ⟨w',z⟩:=I.cell x c hc
  refine wpAny_storeName_cell I.ok.kind hk hc z (fun h' hc' hs=>?_)
  obtain ⟨oc,hoc,hocd⟩:=id z
  refine h { s with heap:=h' } ⟨I.ok,I.os,I.bare,⟨fun b o e n hb hx=>?_,fun b o e n hb hx=>?_,I.base.free,fun b o e hx=>?_,I.base.tups,I.base.frzs,I.base.tbls⟩,⟨m,hn.sameBut hs (Ne.symm (cne x c hc)),fun j y v' e1 e2 e3=>?_⟩,fun y c' e=>?_,I.free,I.freeC,fun p hp=>?_,tracked ⟨oc,hoc,I.freeC x c hc⟩ hs,by simpa using I.len⟩ ⟨c,hs,.inr hc⟩
  ·exact (hs.2 b (Nat.ne_of_lt (Nat.lt_of_lt_of_le (Heap.lt_size e) (I.ok.cab x c hfn hc)))).trans (I.base.keep b o e n hb hx)
  ·obtain ⟨sl,e1⟩:=I.base.slot b o e n hb hx
   exact ⟨sl,(hs.2 b (Nat.ne_of_lt (Nat.lt_of_lt_of_le (Heap.lt_size e) (I.ok.cab x c hfn hc)))).trans e1⟩
  ·obtain ⟨o',e1⟩:=I.base.there b o e hx
   exact ⟨o',(hs.2 b (Nat.ne_of_lt (Nat.lt_of_lt_of_le (Heap.lt_size e) (I.ok.cab x c hfn hc)))).trans e1⟩
  ·by_cases hj:j=i
   ·subst hj
    rw [hi] at e1;cases e1
    rw [List.getElem?_set_self hiσ] at e2
    cases e2
    exact ⟨u,r,.inr ⟨.inl hk,c,hc,hc'⟩⟩
   ·rw [List.getElem?_set_ne (Ne.symm hj)] at e2
    obtain ⟨u',r',q⟩:=hl j y v' e1 e2 e3
    refine ⟨u',r',?_⟩
    rcases q with q | ⟨k,c',e,z'⟩
    ·exact .inl q
    ·refine .inr ⟨k,c',e,z'.sameBut hs ?_⟩
     rintro rfl
     exact hj (aG9 hN e1 (I.ok.inj _ _ _ e hc ▸ hi))
  ·by_cases hcc:c'=c
   ·subst hcc;exact ⟨_,hc'⟩
   ·obtain ⟨w2,z2⟩:=I.cell y c' e
    exact ⟨w2,z2.sameBut hs hcc⟩
  ·obtain ⟨e,n,ne,nf,d⟩:=I.pin p hp
   refine ⟨(hs.2 p.1 ?_).trans e,n,ne,nf,d⟩
   intro q
   rw [q,hoc] at e
   have q':oc=p.2:=Option.some.inj e
   exact d w' (by rw [←q'];exact hocd)
theorem Z6 {M:Model} {A:Around} {E:Value→Shared→Prop} {i:Nat} {x:Str} {v:V} {u:Value} {Q:Unit→Shared→Prop} (I:Inv X pins σ H s) (hN:X.N.Nodup) (hi:X.N[i]? = some x) (hx:Loc X.env.scope x) (r:B1 v u)
  (h:∀ s',Inv X pins (σ.set i (some v)) H s'→Q () s') (hf:X.fn x=true∨X.env.scope.names.lookup x=some .local:=by first | exact .inl rfl | exact .inr rfl | assumption):wpAny M A (storeName X.env x u) Q E s:=
 aQ1 I hN hi hx r (fun s' I' _=>h s' I') hf
theorem Inv.call' {s':Shared} {ch:List Addr} (I:Inv X pins σ H s) (ho:s'.os=s.os) (u:Un (frs X.stack) ch H H' s.heap s'.heap) (hok:HOk X.prog X.w H' s'.heap) (hg:AllBare s'.gens)
  (hch:∀ b∈ch,(b∈X.ex∨X.s₀.heap.objs.size≤b)∧b≠X.env.locals∧(∀ x c,X.env.cells.lookup x=some c→c≠b)∧∀ p∈X.pn++pins,p.1≠b):Inv X pins σ H' s':=by
 obtain ⟨h',g',d',t',o'⟩:=s'
 have e:o'=s.os:=ho
 subst e
 exact I.call (g':=g') (t':=t') (d':=d') u hok hg hch
end
abbrev XK:=Value→Option Addr→Hp→Prop
abbrev St:=List (Option V)
abbrev VK:=V→Hp→Prop
abbrev TE:=St→Hp→VK→Prop
abbrev TT:=St→Hp→(Bool→Hp→Prop)→Prop
abbrev TA:=St→Hp→(List V→Hp→Prop)→Prop
structure ab2 where
 nx:St→Hp→Prop
 rt:VK
 bk:St→Hp→Prop:=fun _ _=>False
 ct:St→Hp→Prop:=fun _ _=>False
abbrev TS:=ab2→St→Hp→Prop
def EP (X:Cx) (pins:List (Addr × Obj)) (σ:St) (Q:VK) (u:Value) (s':Shared):Prop:=∃ v H',Inv X pins σ H' s'∧B1 v u∧Q v H'
def TP (X:Cx) (pins:List (Addr × Obj)) (σ:St) (Q:Bool→Hp→Prop) (b:Bool) (s':Shared):Prop:=∃ H',Inv X pins σ H' s'∧Q b H'
def AP (X:Cx) (pins:List (Addr × Obj)) (σ:St) (Q:List V→Hp→Prop) (us:List Value) (s':Shared):Prop:=∃ vs H',Inv X pins σ H' s'∧p7 vs us∧Q vs H'
def SP (X:Cx) (pins:List (Addr × Obj)) (D:ab2) (f:Flow) (s':Shared):Prop:=
 match f with
 | .next=>∃ σ' H',Inv X pins σ' H' s'∧D.nx σ' H'
 | .brk=>∃ σ' H',Inv X pins σ' H' s'∧D.bk σ' H'
 | .cont=>∃ σ' H',Inv X pins σ' H' s'∧D.ct σ' H'
 | .ret u=>∃ v σ' H',Inv X pins σ' H' s'∧B1 v u∧D.rt v H'
def PE (X:Cx) (e:Expr) (t:TE):Prop:=
 ∀ (pins:List (Addr × Obj)) (s:Shared) (σ:St) (H:Hp) (Q:VK),Inv X pins σ H s→t σ H Q→wpAny (model X.prog X.w) X.A (eval e X.env) (EP X pins σ Q) X.xe s
def PT (X:Cx) (e:Expr) (t:TT):Prop:=
 ∀ (pins:List (Addr × Obj)) (s:Shared) (σ:St) (H:Hp) (Q:Bool→Hp→Prop),Inv X pins σ H s→t σ H Q→wpAny (model X.prog X.w) X.A (isTrue e X.env (eval e X.env)) (TP X pins σ Q) X.xe s
def PW (X:Cx) (e:Expr) (t:TT):Prop:=
 ∀ (whole:Sem Value) (pins:List (Addr × Obj)) (s:Shared) (σ:St) (H:Hp) (Q:Bool→Hp→Prop),Inv X pins σ H s→t σ H Q→wpAny (model X.prog X.w) X.A (isTrue e X.env whole) (TP X pins σ Q) X.xe s
theorem PW.pt {X:Cx} {e:Expr} {t:TT} (h:PW X e t):PT X e t:=h _
def PA (X:Cx) (es:List Expr) (t:TA):Prop:=
 ∀ (pos:Pos) (pins:List (Addr × Obj)) (s:Shared) (σ:St) (H:Hp) (Q:List V→Hp→Prop),Inv X pins σ H s→t σ H Q→wpAny (model X.prog X.w) X.A (spliced (backTo pos (starEach es X.env))) (AP X pins σ Q) X.xe s
def PS (X:Cx) (st:Stmt) (t:TS):Prop:=
 ∀ (pins:List (Addr × Obj)) (s:Shared) (σ:St) (H:Hp) (D:ab2),Inv X pins σ H s→t D σ H→wpAny (model X.prog X.w) X.A (exec st X.env) (SP X pins D) X.xe s
def PSs (X:Cx) (st:List Stmt) (t:TS):Prop:=
 ∀ (pins:List (Addr × Obj)) (s:Shared) (σ:St) (H:Hp) (D:ab2),Inv X pins σ H s→t D σ H→wpAny (model X.prog X.w) X.A (execs st X.env) (SP X pins D) X.xe s
theorem thn {α:Type} {t:Sem α} {Q Q' : α→Shared→Prop} {M:Model} {A:Around} {E:Value→Shared→Prop} {s:Shared} (h:wpAny M A t Q E s) (hQ:∀ a s,Q a s→Q' a s):wpAny M A t Q' E s:=wpAny_mono h hQ fun _ _ x=>x
section
variable {X:Cx}
def az3 (i:Nat):TE:=fun σ H Q=>∃ v,σ[i]? = some (some v)∧Q v H
def tC (v:V):TE:=fun _ H Q=>Q v H
theorem bk4 {i:Nat} {x:Str} {pos:Pos} (hN:X.N[i]? = some x) (hv:Vis X.env.scope x) (hd:(x == ("__debug__" : Str))=false:=by decide) (hcd:(x == ("__classdict__" : Str))=false:=by decide):PE X (.Name x pos) (az3 i):=by
 intro pins s σ H Q I h
 obtain ⟨v,e,h⟩:=h
 obtain ⟨m,hn,hl⟩:=I.loc
 obtain ⟨u,r,l⟩:=hl i x v hN e hv
 have fin:EP X pins σ Q u s:=⟨v,H,I,r,h⟩
 rcases l with ⟨hk,hm⟩ | ⟨hk,c,hc,hcell⟩
 ·exact wpAny_Name (wpAny_loadName_local I.ok.kind hk hn hm fin) hd
 ·rcases hk with hk | hk
  ·exact wpAny_Name (wpAny_loadName_cell I.ok.kind hk hc hcell fin) hd
  ·exact wpAny_Name (wpAny_loadName_free I.ok.kind hk hc hcell fin hcd) hd
theorem b9 {i j pos}:PE X (.Constant (.int i) j pos) (tC (.int i)):=fun _ _ _ H _ I h=>wpAny_Constant_int ⟨.int i,H,I.tok _,⟨_,rfl⟩,h⟩
theorem G0 {b j pos}:PE X (.Constant (.bool b) j pos) (tC (.bl b)):=fun _ _ _ H _ I h=>Constant_bool ⟨.bl b,H,I,rfl,h⟩
theorem ai8 {j pos}:PE X (.Constant .none j pos) (tC .non):=fun _ _ _ H _ I h=>Constant_none ⟨.non,H,I,rfl,h⟩
theorem R8 {x j pos}:PE X (.Constant (.str x) j pos) (tC (.str x)):=fun _ _ _ H _ I h=>Calls.Constant_str ⟨.str x,H,I.tok _,⟨_,rfl⟩,h⟩
def Gl (X:Cx) (x:Str):Prop:=X.env.kindOf x=some .globalImplicit
theorem ah1 {E:Value→Shared→Prop} {pins:List (Addr × Obj)} {s:Shared} {σ:St} {H:Hp} {x:Str} {u:Value} {pos:Pos} {Q:Value→Shared→Prop} (I:Inv X pins σ H s) (hg:Gl X x) (hm:X.mg x=some u) (h:Q u s)
  (hd:(x == ("__debug__" : Str))=false:=by decide):wpAny (model X.prog X.w) X.A (eval (.Name x pos) X.env) Q E s:=
 Calls.Name_function_global I.ok.kind hg (Calls.loadGlobal_global (by rw [I.ok.glob];exact I.mod.glob.keeps I.bk) hm h) hd
theorem af2 {E:Value→Shared→Prop} {pins:List (Addr × Obj)} {s:Shared} {σ:St} {H:Hp} {x:Str} {u:Value} {pos:Pos} {Q:Value→Shared→Prop} (I:Inv X pins σ H s) (hg:Gl X x) (hm:X.mg x=none) (hv:bootBuiltins x=some u) (h:Q u s)
  (hn:x≠"__name__":=by decide) (hd:(x == ("__debug__" : Str))=false:=by decide):wpAny (model X.prog X.w) X.A (eval (.Name x pos) X.env) Q E s:=by
 obtain ⟨mb,h1,h2⟩:=I.mod.blt
 exact Calls.Name_function_global I.ok.kind hg (Calls.loadGlobal_builtin (by rw [I.ok.glob];exact I.mod.glob.keeps I.bk) hm (by rw [I.ok.blt];exact h1.keeps I.bk) ((h2 x hn).trans hv) h) hd
theorem z9 {x:Str} {v:V} {u:Value} {pos:Pos} (hg:Gl X x) (hm:X.mg x=some u) (r:B1 v u) (hd:(x == ("__debug__" : Str))=false:=by decide):PE X (.Name x pos) (tC v):=
 fun _ _ _ H _ I h=>ah1 I hg hm ⟨v,H,I,r,h⟩ hd
theorem M1 {x:Str} {v:V} {u:Value} {pos:Pos} (hg:Gl X x) (hm:X.mg x=none) (hv:bootBuiltins x=some u) (r:B1 v u) (hn:x≠"__name__":=by decide) (hd:(x == ("__debug__" : Str))=false:=by decide):PE X (.Name x pos) (tC v):=
 fun _ _ _ H _ I h=>af2 I hg hm hv ⟨v,H,I,r,h⟩ hn hd
variable {a b:Expr} {ta tb:TE} {pos:Pos}
def PC (X:Cx) (op:CmpOp) (a b:Expr) (t:TE):Prop:=
 ∀ (pins:List (Addr × Obj)) (s:Shared) (σ:St) (H:Hp) (Q:VK),Inv X pins σ H s→t σ H Q →
  wpAny (model X.prog X.w) X.A (eval a X.env) (fun v s₁=>wpAny (model X.prog X.w) X.A (eval b X.env) (fun u s₂=>wpAny (model X.prog X.w) X.A (compareOp op v u) (EP X pins σ Q) X.xe s₂) X.xe s₁) X.xe s
def tB (t:TE):TT:=fun σ H Q=>t σ H fun x H1=>∃ c,x = .bl c∧Q c H1
theorem B0 {e:Expr} {t:TE} (h:PE X e t) (he:∀ whole,isTrue e X.env whole=(do let v ←whole;standAt e.pos;holding [v] (truthy v)):=by intro _;rfl):PT X e (tB t):=by
 intro pins s σ H Q I hw
 refine isTrue_plain (thn (h pins s σ H _ I hw) fun v s1 ⟨x,H1,I1,r1,q1⟩=>?_) (he _)
 obtain ⟨d,rfl,q⟩:=q1
 cases r1
 exact wpAny_truthy_bool ⟨H1,I1,q⟩
variable {tA tB':TT} {ag4:List Expr}
def bj0 (t u:TT):TT:=fun σ H Q=>t σ H fun c H1=>if c=true then u σ H1 Q else Q false H1
def tOr (t u:TT):TT:=fun σ H Q=>t σ H fun c H1=>if c=true then Q true H1 else u σ H1 Q
def bi7 (t:TT):TT:=fun σ H Q=>t σ H fun c H1=>Q (!c) H1
theorem aB1 (ha:PT X a tA):PW X (.BoolOp .And [a] pos) tA:=by
 intro wh pins s σ H Q I h
 refine isTrue_and (thn (ha pins s σ H Q I h) fun c s1 e=>?_)
 cases c with
 | true=>exact isTrue_and_nil e
 | false=>exact e
theorem M6 (ha:PT X a tA):PW X (.BoolOp .Or [a] pos) tA:=by
 intro wh pins s σ H Q I h
 refine isTrue_or (thn (ha pins s σ H Q I h) fun c s1 e=>?_)
 cases c with
 | false=>exact isTrue_or_nil e
 | true=>exact e
theorem aJ8 (ha:PT X a tA) (hb:PW X (.BoolOp .And (b :: ag4) pos) tB'):PW X (.BoolOp .And (a :: b :: ag4) pos) (bj0 tA tB'):=by
 intro wh pins s σ H Q I h
 refine isTrue_and (thn (ha pins s σ H _ I h) fun c s1 ⟨H1,I1,q1⟩=>?_)
 cases c with
 | true=>exact hb wh pins s1 σ H1 Q I1 q1
 | false=>exact ⟨H1,I1,q1⟩
theorem G2 (ha:PT X a tA) (hb:PW X (.BoolOp .Or (b :: ag4) pos) tB'):PW X (.BoolOp .Or (a :: b :: ag4) pos) (tOr tA tB'):=by
 intro wh pins s σ H Q I h
 refine isTrue_or (thn (ha pins s σ H _ I h) fun c s1 ⟨H1,I1,q1⟩=>?_)
 cases c with
 | true=>exact ⟨H1,I1,q1⟩
 | false=>exact hb wh pins s1 σ H1 Q I1 q1
theorem B6 (ha:PT X a tA):PT X (.UnaryOp .Not a pos) (bi7 tA):=by
 intro pins s σ H Q I h
 exact isTrue_not (ha pins s σ H (fun c H1=>Q (!c) H1) I h)
def aV3 (ta tb:TE):TE:=fun σ H Q=>ta σ H fun x H1=>∃ c,x = .bl c∧if c=true then tb σ H1 Q else Q (.bl false) H1
def bi6 (ta tb:TE):TE:=fun σ H Q=>ta σ H fun x H1=>∃ c,x = .bl c∧if c=true then Q (.bl true) H1 else tb σ H1 Q
def aU9 (ta:TE):TE:=fun σ H Q=>ta σ H fun x H1=>∃ c,x = .bl c∧Q (.bl (!c)) H1
theorem ae5 {op} {t:TE} (h:PE X a t):PE X (.BoolOp op [a] pos) t:=fun pins s σ H Q I hw=>BoolOp_one (h pins s σ H Q I hw)
theorem ae6 (ha:PE X a ta) (hb:PE X (.BoolOp .And (b :: ag4) pos) tb):PE X (.BoolOp .And (a :: b :: ag4) pos) (aV3 ta tb):=by
 intro pins s σ H Q I h
 refine BoolOp_and (thn (ha pins s σ H _ I h) fun v s1 ⟨x,H1,I1,r1,q1⟩=>?_)
 obtain ⟨c,rfl,q1⟩:=q1
 cases r1
 refine wpAny_truthy_bool ?_
 cases c with
 | true=>exact hb pins s1 σ H1 Q I1 q1
 | false=>exact ⟨.bl false,H1,I1,rfl,q1⟩
theorem bp3 (ha:PE X a ta) (hb:PE X (.BoolOp .Or (b :: ag4) pos) tb):PE X (.BoolOp .Or (a :: b :: ag4) pos) (bi6 ta tb):=by
 intro pins s σ H Q I h
 refine BoolOp_or (thn (ha pins s σ H _ I h) fun v s1 ⟨x,H1,I1,r1,q1⟩=>?_)
 obtain ⟨c,rfl,q1⟩:=q1
 cases r1
 refine wpAny_truthy_bool ?_
 cases c with
 | false=>exact hb pins s1 σ H1 Q I1 q1
 | true=>exact ⟨.bl true,H1,I1,rfl,q1⟩
theorem aq8 (ha:PE X a ta):PE X (.UnaryOp .Not a pos) (aU9 ta):=by
 intro pins s σ H Q I h
 refine UnaryOp_ (thn (ha pins s σ H _ I h) fun v s1 ⟨x,H1,I1,r1,q1⟩=>?_)
 obtain ⟨c,rfl,q1⟩:=q1
 cases r1
 exact not_of (wpAny_truthy_bool ⟨.bl (!c),H1,I1,rfl,q1⟩)
end
def SqL (K:PySem.W.Frag) (H:Hp) (a:Addr) (xs:List V):Prop:=
 Rd H a (.lst xs) ∨
  ∃ (o:Obj) (its:Array Value) (n:Nat),K.lookup a=some o∧o.cls = .type "list" ∧ o.dict=none∧o.data = .seq its n∧its.size≤sizeLine∧p7 xs its.toList
def SqT (K:PySem.W.Frag) (H:Hp) (a:Addr) (xs:List V):Prop:=
 Rd H a (.tup xs) ∨
  ∃ (o:Obj) (its:Array Value) (n:Nat),K.lookup a=some o∧o.cls = .type "tuple" ∧ o.data = .seq its n∧its.size≤sizeLine∧p7 xs its.toList
def br4:Value→Option V
 | .none=>some .non
 | .bool b=>some (.bl b)
 | .int i _=>some (.int i)
 | .str x _=>some (.str x)
 | .bytes b _=>some (.byt b)
 | .float b _=>some (.flt b)
 | .ref a=>some (.ref a)
 | .type n=>some (.ty n)
 | _=>none
theorem B1.abs {x:V} {u:Value} (r:B1 x u):br4 u=some x:=by
 cases x with
 | non=>cases r;rfl
 | bl _=>cases r;rfl
 | int _=>obtain ⟨t,rfl⟩:=r;rfl
 | str _=>obtain ⟨t,rfl⟩:=r;rfl
 | byt _=>obtain ⟨t,rfl⟩:=r;rfl
 | flt _=>obtain ⟨t,rfl⟩:=r;rfl
 | ref _=>cases r;rfl
 | ty _=>cases r;rfl
theorem B1.inj {x y:V} {u:Value} (r:B1 x u) (q:B1 y u):x=y:=Option.some.inj (r.abs.symm.trans q.abs)
theorem p7.inj:∀ {xs ys:List V} {us:List Value},p7 xs us→p7 ys us→xs=ys
 | _,_,_,.nil,.nil=>rfl
 | _,_,_,.cons r t,.cons r' t'=>by rw [r.inj r',p7.inj t t']
section
variable {X:Cx} {pins:List (Addr × Obj)} {σ:St} {H:Hp} {s:Shared} {a:Addr} {xs ys:List V}
theorem SqL.of {K:PySem.W.Frag} (h:H a=some (.lst xs)):SqL K H a xs:=.inl (.inl h)
theorem SqT.of {K:PySem.W.Frag} (h:H a=some (.tup xs)):SqT K H a xs:=.inl (.inl h)
theorem Inv.list (I:Inv X pins σ H s) (h:SqL X.K H a xs):∃ its:List Value,p7 xs its∧PlainL s.heap a its.toArray∧xs.length≤sizeLine:=by
 rcases h with h | ⟨o,its,n,hk,hc,hd,hs,hz,r⟩
 ·obtain ⟨z,its,n,r,e⟩:=h.ok I.hok
  exact ⟨its,r,⟨_,n,e,rfl,rfl,rfl⟩,z⟩
 ·refine ⟨its.toList,r,⟨o,n,I.kIn a o hk,hc,hd,by simpa using hs⟩,?_⟩
  have e:=r.length
  simp only [Array.length_toList] at e
  omega
theorem Inv.tuple (I:Inv X pins σ H s) (h:SqT X.K H a xs):∃ its:List Value,p7 xs its∧IsTup s.heap a its.toArray∧xs.length≤sizeLine:=by
 rcases h with h | ⟨o,its,n,hk,hc,hs,hz,r⟩
 ·obtain ⟨z,its,r,p⟩:=h.ok I.hok
  exact ⟨its,r,p,z⟩
 ·refine ⟨its.toList,r,⟨o,I.kIn a o hk,hc,n,by simpa using hs⟩,?_⟩
  have e:=r.length
  simp only [Array.length_toList] at e
  omega
theorem Inv.list_inj (I:Inv X pins σ H s) (h:SqL X.K H a xs) (h':SqL X.K H a ys):xs=ys:=by
 obtain ⟨its,r,⟨o,n,e,_,_,d⟩,_⟩:=I.list h
 obtain ⟨its',r',⟨o',n',e',_,_,d'⟩,_⟩:=I.list h'
 rw [e] at e';cases e'
 rw [d] at d'
 injection d' with d1 _
 have:its=its':=by simpa using congrArg Array.toList d1
 subst this
 exact r.inj r'
theorem Inv.tuple_inj (I:Inv X pins σ H s) (h:SqT X.K H a xs) (h':SqT X.K H a ys):xs=ys:=by
 obtain ⟨its,r,⟨o,e,_,n,d⟩,_⟩:=I.tuple h
 obtain ⟨its',r',⟨o',e',_,n',d'⟩,_⟩:=I.tuple h'
 rw [e] at e';cases e'
 rw [d] at d'
 injection d' with d1 _
 have:its=its':=by simpa using congrArg Array.toList d1
 subst this
 exact r.inj r'
end
abbrev Cx.wish (X:Cx) (E:Value→Shared→Prop):Cx:={ X with xe:=E }
abbrev Cx.nox (X:Cx):Cx:=X.wish fun _ _=>False
theorem Cx.Ok.wish {X:Cx} (ok:X.Ok) (E:Value→Shared→Prop):(X.wish E).Ok:=
 ⟨ok.mod,ok.kind,ok.glob,ok.blt,ok.above,ok.inj,ok.has,ok.cab,ok.hd,ok.frames,ok.stk,ok.exf,ok.bs,ok.bsz,ok.noex,ok.exfs,ok.funs,ok.frf⟩
theorem Cx.Ok.unwish {X:Cx} {E:Value→Shared→Prop} (ok:(X.wish E).Ok):X.Ok:=
 ⟨ok.mod,ok.kind,ok.glob,ok.blt,ok.above,ok.inj,ok.has,ok.cab,ok.hd,ok.frames,ok.stk,ok.exf,ok.bs,ok.bsz,ok.noex,ok.exfs,ok.funs,ok.frf⟩
section
variable {X:Cx} {pins:List (Addr × Obj)} {σ:St} {H:Hp} {s:Shared} {E:Value→Shared→Prop}
theorem Inv.wish (I:Inv X pins σ H s) (E:Value→Shared→Prop):Inv (X.wish E) pins σ H s:=⟨I.ok.wish E,I.os,I.bare,I.base,I.loc,I.cell,I.free,I.freeC,I.pin,I.hok,I.len⟩
theorem Inv.unwish (I:Inv (X.wish E) pins σ H s):Inv X pins σ H s:=⟨I.ok.unwish,I.os,I.bare,I.base,I.loc,I.cell,I.free,I.freeC,I.pin,I.hok,I.len⟩
theorem SP.unwish {D:ab2} {f:Flow} {s':Shared} (h:SP (X.wish E) pins D f s'):SP X pins D f s':=by
 cases f with
 | next=>obtain ⟨σ',H',I,q⟩:=h;exact ⟨σ',H',I.unwish,q⟩
 | brk=>obtain ⟨σ',H',I,q⟩:=h;exact ⟨σ',H',I.unwish,q⟩
 | cont=>obtain ⟨σ',H',I,q⟩:=h;exact ⟨σ',H',I.unwish,q⟩
 | ret u=>obtain ⟨v,σ',H',I,r,q⟩:=h;exact ⟨v,σ',H',I.unwish,r,q⟩
theorem PSs.nox {st:List Stmt} {t:TS} (h:PSs X.nox st t):PSs X st t:=fun pins s σ H D I hw=>
 wpAny_mono (h pins s σ H D (I.wish _) hw) (fun _ _ q=>q.unwish) fun _ _ z=>False.elim z
end
section
variable {X:Cx} {st:Stmt} {ag4:List Stmt} {t u:TS} {e:Expr} {te:TE} {pos:Pos}
def aV0:TS:=fun D σ H=>D.nx σ H
def bc4 (t u:TS):TS:=fun D σ H=>t { D with nx:=u D } σ H
theorem p8:PSs X [] aV0:=fun _ _ σ H _ I h=>wpAny_execs_nil ⟨σ,H,I,h⟩
theorem d4 (h1:PS X st t) (h2:PSs X ag4 u):PSs X (st :: ag4) (bc4 t u):=by
 intro pins s σ H D I h
 refine wpAny_execs_cons (thn (h1 pins s σ H { D with nx:=u D } I h) fun f s1 q=>?_)
 cases f with
 | next=>
  obtain ⟨σ',H',I',q⟩:=q
  exact h2 pins s1 σ' H' D I' q
 | ret v=>exact q
 | brk=>exact q
 | cont=>exact q
theorem d6 (h1:PS X st t):PSs X [st] t:=by
 intro pins s σ H D I h
 refine wpAny_execs_cons (thn (h1 pins s σ H D I h) fun f s1 q=>?_)
 cases f with
 | next=>exact wpAny_execs_nil q
 | ret v=>exact q
 | brk=>exact q
 | cont=>exact q
theorem Inv.quiet {pins:List (Addr × Obj)} {σ:St} {H:Hp} {s:Shared} (I:Inv X pins σ H s):interactive X.env=false:=by simp [interactive,I.ok.kind]
def aV1 (te:TE):TS:=fun D σ H=>te σ H fun _ H1=>D.nx σ H1
theorem ao3 (he:PE X e te) (hs:swapsWith e none pos.line X.env=pure false:=by rfl):PS X (.Expr e pos) (aV1 te):=by
 intro pins s σ H D I h
 exact wpAny_Expr_any (thn (he pins s σ H _ I h) fun v s1 ⟨x,H1,I1,r1,q1⟩=>⟨σ,H1,I1,q1⟩) I.quiet hs
def bc5 (te:TE):TS:=fun D σ H=>te σ H D.rt
theorem h9 (he:PE X e te):PS X (.Return (some e) pos) (bc5 te):=by
 intro pins s σ H D I h
 exact wpAny_Return_some (thn (he pins s σ H _ I h) fun v s1 ⟨x,H1,I1,r1,q1⟩=>⟨x,σ,H1,I1,r1,q1⟩)
def bi8 (c:TT) (t u:TS):TS:=fun D σ H=>c σ H fun b H1=>if b=true then t D σ H1 else u D σ H1
theorem A5 {c:Expr} {a b:List Stmt} {tc:TT} (hc:PT X c tc) (ha:PSs X a t) (hb:PSs X b u):PS X (.If c a b pos) (bi8 tc t u):=by
 intro pins s σ H D I h
 refine wpAny_If (thn (hc pins s σ H _ I h) fun d s1 ⟨H1,I1,q1⟩=>?_)
 cases d with
 | true=>exact ha pins s1 σ H1 D I1 q1
 | false=>exact hb pins s1 σ H1 D I1 q1
def aJ0:TS:=fun _ _ _=>False
theorem aX4:PS X st aJ0:=fun _ _ _ _ _ _ h=>h.elim
end
abbrev TG:=V→St→Hp→(St→Hp→Prop)→Prop
abbrev TGs:=List V→St→Hp→(St→Hp→Prop)→Prop
def PG (X:Cx) (target:Expr) (t:TG):Prop:=
 ∀ (pins:List (Addr × Obj)) (s:Shared) (σ:St) (H:Hp) (v:V) (u:Value) (Q:St→Hp→Prop),Inv X pins σ H s→B1 v u→t v σ H Q →
  wpAny (model X.prog X.w) X.A (assign target X.env u) (fun _ s'=>∃ σ' H',Inv X pins σ' H' s'∧Q σ' H') X.xe s
def PGs (X:Cx) (ts:List Expr) (t:TGs):Prop:=
 ∀ (pins:List (Addr × Obj)) (s:Shared) (σ:St) (H:Hp) (vs:List V) (us:List Value) (Q:St→Hp→Prop),Inv X pins σ H s→p7 vs us→t vs σ H Q →
  wpAny (model X.prog X.w) X.A (assignInOrder ((assignEach ts X.env).map (·.2)) us) (fun _ s'=>∃ σ' H',Inv X pins σ' H' s'∧Q σ' H') X.xe s
abbrev bn9:=V→V→V→Hp→(Hp→Prop)→Prop
def bq5 (X:Cx) (t:bn9):Prop:=
 ∀ (pins:List (Addr × Obj)) (s:Shared) (σ:St) (H:Hp) (o i v:V) (ov iv u:Value) (Q:Hp→Prop),Inv X pins σ H s→B1 o ov→B1 i iv→B1 v u→t o i v H Q →
  wpAny (model X.prog X.w) X.A (setItem ov iv u) (fun _ s'=>∃ H',Inv X pins σ H' s'∧Q H') X.xe s
section
variable {X:Cx} {pos:Pos}
def v3 (i:Nat):TG:=fun v σ H Q=>Q (σ.set i (some v)) H
theorem g8 {i:Nat} {x:Str} (hN:X.N.Nodup) (hi:X.N[i]? = some x) (hx:Loc X.env.scope x) (hf:X.fn x=true∨X.env.scope.names.lookup x=some .local:=by first | exact .inl rfl | exact .inr rfl | assumption):PG X (.Name x pos) (v3 i):=by
 intro pins s σ H v u Q I r h
 exact wpAny_assign_Name (Z6 I hN hi hx r (fun s' I'=>⟨_,H,I',h⟩) hf)
def S8:TGs:=fun vs σ H Q=>vs=[]∧Q σ H
def v8 (t:TG) (u:TGs):TGs:=fun vs σ H Q=>∃ v r,vs=v :: r∧t v σ H fun σ' H'=>u r σ' H' Q
theorem A4:PGs X [] S8:=by
 intro pins s σ H vs us Q I r h
 obtain ⟨e,h⟩:=h
 subst e
 cases r
 exact assignInOrder_nil ⟨σ,H,I,h⟩
theorem j0 {e:Expr} {es:List Expr} {t:TG} {u:TGs} (h1:PG X e t) (h2:PGs X es u)
  (hs:(assignEach (e :: es) X.env).map (·.2)=assign e X.env :: (assignEach es X.env).map (·.2):=by rfl):PGs X (e :: es) (v8 t u):=by
 intro pins s σ H vs us Q I r h
 obtain ⟨v,vr,e1,h⟩:=h
 subst e1
 cases r with
 | cons r rr=>
  rw [hs]
  refine assignInOrder_cons (thn (h1 pins s σ H _ _ _ I r h) fun _ s1 ⟨σ1,H1,I1,q1⟩=>?_)
  exact h2 pins s1 σ1 H1 _ _ Q I1 rr q1
def R9 (K:PySem.W.Frag) (n:Nat) (t:TGs):TG:=fun v σ H Q=>∃ a xs,v = .ref a∧SqT K H a xs∧xs.length=n∧t xs σ H Q
theorem C2 {es:List Expr} {k:Nat} {t:TGs} {n:Nat} (hc:X.calm=true) (h:PGs X es t)
  (hn:(assignEach es X.env).length=n:=by rfl) (hst:(assignEach es X.env).findIdx? (·.1)=none:=by rfl):PG X (.Tuple es k pos) (R9 X.K n t):=by
 intro pins s σ H v u Q I r hw
 obtain ⟨a,xs,e1,hq,hl,hw⟩:=hw
 subst e1
 cases r
 obtain ⟨its,rv,ht,hz⟩:=I.tuple hq
 refine assign_Tuple_tuple (I.ok.hd hc) ht (by simp [hn,←hl,rv.length]) hst fun h' hx=>?_
 have I1:Inv X pins σ H { s with heap:=h' }:=I.kept (t':=s.toks) fun b o e=>hx b o (Nat.ne_of_lt (Heap.lt_size e)) e
 exact h pins _ σ H xs _ Q I1 (by simpa using rv) hw
def bm8 (to ti:TE) (t:bn9):TG:=fun v σ H Q=>to σ H fun o H1=>ti σ H1 fun i H2=>t o i v H2 fun H3=>Q σ H3
theorem aK1 {o i:Expr} {to ti:TE} {t:bn9} (ho:PE X o to) (hi:PE X i ti) (hs:bq5 X t)
  (ha:∀ v,assign (.Subscript o i pos) X.env v=(do
   let ov ←holding [v] (eval o X.env)
   let iv ←holding [v,ov] (eval i X.env)
   standAt pos
   holding [v,ov,iv] (setItem ov iv v)
   release [v,ov,iv] []):=by intro _;rfl):PG X (.Subscript o i pos) (bm8 to ti t):=by
 intro pins s σ H v u Q I r h
 rw [ha]
 refine wpAny_bind (wpAny_holding (thn (ho pins s σ H _ I h) fun ov s1 ⟨x,H1,I1,r1,q1⟩=>?_))
 refine wpAny_bind (wpAny_holding (thn (hi pins s1 σ H1 _ I1 q1) fun iv s2 ⟨y,H2,I2,r2,q2⟩=>?_))
 refine wpAny_bind (wpAny_standAt (wpAny_bind (wpAny_holding (thn (hs pins s2 σ H2 x y v ov iv u _ I2 r1 r2 r q2) fun _ s3 ⟨H3,I3,q3⟩=>?_))))
 exact wpAny_release ⟨σ,H3,I3,q3⟩
def aV2 (te:TE) (g:TG):TS:=fun D σ H=>te σ H fun x H1=>g x σ H1 D.nx
theorem K8 {tg e:Expr} {te:TE} {g:TG} (he:PE X e te) (hg:PG X tg g) (hs:swapsWithSole [tg] e pos.line X.env=pure false:=by rfl) (hw:swappedStores [tg] e X.env=pure none:=by rfl)
  (h1:(assignEach [tg] X.env).map (·.2)=[assign tg X.env]:=by rfl):PS X (.Assign [tg] e pos) (aV2 te g):=by
 intro pins s σ H D I h
 refine wpAny_Assign_stores (thn (he pins s σ H _ I h) fun v s1 ⟨x,H1,I1,r1,q1⟩=>?_) hs hw
 rw [h1]
 exact thn (hg pins s1 σ H1 x v _ I1 r1 q1) fun _ s2 q=>q
theorem j8 {i:Nat} {x:Str} {e:Expr} {te:TE} {pos':Pos} (hN:X.N.Nodup) (hi:X.N[i]? = some x) (hx:Loc X.env.scope x) (he:PE X e te) (hs:swapsWith e (some (.Name x pos')) pos.line X.env=pure false:=by rfl) (hf:X.fn x=true∨X.env.scope.names.lookup x=some .local:=by first | exact .inl rfl | exact .inr rfl | assumption) :
  PS X (.Assign [.Name x pos'] e pos) (aV2 te (v3 i)):=by
 intro pins s σ H D I h
 refine wpAny_Assign_Name (thn (he pins s σ H _ I h) fun v s1 ⟨y,H1,I1,r1,q1⟩=>?_) hs
 exact Z6 I1 hN hi hx r1 (fun s2 I2=>⟨_,H1,I2,q1⟩) hf
def bc6 (i j:Nat) (ta:TA):TS:=fun D σ H=>ta σ H fun vs H1=>∃ v w,vs=[v,w]∧D.nx ((σ.set i (some v)).set j (some w)) H1
theorem aa0 {i j:Nat} {x y:Str} {a b:Expr} {ta:TA} {px py pt:Pos} {kt k2 pt2} (hc:X.calm=true) (hN:X.N.Nodup) (hi:X.N[i]? = some x) (hj:X.N[j]? = some y) (hij:i≠j)
  (hx:X.env.scope.names.lookup x=some .local) (hy:X.env.scope.names.lookup y=some .local) (ha:PA X [a,b] ta)
  (hw:swappedStores [.Tuple [.Name x px,.Name y py] kt pt] (.Tuple [a,b] k2 pt2) X.env=pure (some [x,y]))
  (hs:swapsWithSole [.Tuple [.Name x px,.Name y py] kt pt] (.Tuple [a,b] k2 pt2) pos.line X.env=pure false:=by rfl) :
  PS X (.Assign [.Tuple [.Name x px,.Name y py] kt pt] (.Tuple [a,b] k2 pt2) pos) (bc6 i j ta):=by
 intro pins s σ H D I h
 rw [exec_Assign_arm]
 refine wpAny_bind (wpAny_standAt ?_)
 rw [hs]
 refine wpAny_bind (wpAny_pure ?_)
 rw [if_neg (by decide)]
 refine wpAny_bind (Tuple_ (thn (ha _ pins s σ H _ I h) fun us s1 ⟨vs,H1,I1,r1,q1⟩=>?_))
 obtain ⟨v,w,e1,q1⟩:=q1
 subst e1
 obtain ⟨u1,u2,rfl,rv,rw'⟩:∃ u1 u2,us=[u1,u2]∧B1 v u1∧B1 w u2:=by
  cases r1 with
  | cons p q=>
   cases q with
   | cons p' q'=>
    cases q'
    exact ⟨_,_,rfl,p,p'⟩
 refine wpAny_newObj_type ?_ (by show 2≤sizeLine;decide)
 have I2:Inv X pins σ H1 { s1 with heap:=s1.heap.push { cls:=.type "tuple",data:=.seq [u1,u2].toArray } }:=I1.kept (t':=s1.toks) fun b o e=>Heap.get?_push_of_some _ e
 rw [hw]
 refine wpAny_bind (wpAny_pure ?_)
 show wpAny (model X.prog X.w) X.A (do rule "assign.swapped-stores";let items ←unpackItems (.ref s1.heap.objs.size) 2 none;assignInOrder [fun v=>bindName X.env y v,fun v=>bindName X.env x v] items.reverse;pure Flow.next) _ _ _
 refine wpAny_bind (wpAny_rule (wpAny_bind (unpackItems_tuple (items:=#[u1,u2]) (I.ok.hd hc) (IsTup.new s1.heap _) fun h' hx'=>?_)))
 have I3:=I2.kept (h':=h') (t':=s1.toks) fun b o e=>hx' b o (Nat.ne_of_lt (Heap.lt_size e)) e
 show wpAny _ _ (assignInOrder [fun v=>bindName X.env y v,fun v=>bindName X.env x v] [u2,u1] >>= fun _=>pure Flow.next) _ _ _
 refine wpAny_bind (assignInOrder_cons (wpAny_bindName (Z6 I3 hN hj (.inl hy) rw' (fun s2 I4=>?_) (.inr hy))))
 refine assignInOrder_cons (wpAny_bindName (Z6 I4 hN hi (.inl hx) rv (fun s3 I5=>assignInOrder_nil (wpAny_pure ?_)) (.inr hx)))
 rw [List.set_comm _ _ (Ne.symm hij)] at I5
 exact ⟨_,H1,I5,q1⟩
end
section
variable {X:Cx} {pos:Pos}
def ad7 (c:TT) (tb:TS):TS:=fun D σ H=>∃ W:Nat→St→Hp→Prop,(∃ m,W m σ H)∧∀ m σ H,W m σ H →
 c σ H fun b H1=>if b=true then ∃ N:St→Hp→Prop,(∀ σ' H',N σ' H'→∃ m',m'<m∧W m' σ' H')∧tb { D with nx:=N,ct:=N,bk:=D.nx } σ H1 else D.nx σ H1
theorem Z9 {c:Expr} {body:List Stmt} {tc:TT} {tb:TS} (hp:PassesOwn (model X.prog X.w) X.A X.env X.xe) (hc:PT X c tc) (hb:PSs X body tb):PS X (.While c body [] pos) (ad7 tc tb):=by
 intro pins s σ H D I h
 obtain ⟨W,⟨m0,w0⟩,turn⟩:=h
 refine wpAny_While (codeAny_whileLoop (fun n s'=>∃ σ' H',Inv X pins σ' H' s'∧W n σ' H') ?_ m0 ⟨σ,H,I,w0⟩)
 rintro n s1 ⟨σ1,H1,I1,w1⟩
 refine wpAny_passesOwn hp (thn (hc pins s1 σ1 H1 _ I1 (turn n σ1 H1 w1)) fun b s2 ⟨H2,I2,q2⟩=>?_)
 cases b with
 | true=>
  obtain ⟨N,hN,q2⟩:=q2
  rw [if_pos rfl]
  refine wpAny_passesOwn hp (thn (hb pins s2 σ1 H2 _ I2 q2) fun f s3 q3=>?_)
  cases f with
  | next=>
   obtain ⟨σ3,H3,I3,n3⟩:=q3
   obtain ⟨m',hm,w3⟩:=hN σ3 H3 n3
   exact ⟨m',hm,σ3,H3,I3,w3⟩
  | cont=>
   obtain ⟨σ3,H3,I3,n3⟩:=q3
   obtain ⟨m',hm,w3⟩:=hN σ3 H3 n3
   exact ⟨m',hm,σ3,H3,I3,w3⟩
  | brk=>exact q3
  | ret v=>exact q3
 | false=>
  rw [if_neg Bool.false_ne_true]
  exact wpAny_execs_nil ⟨σ1,H2,I2,q2⟩
end
structure It where
 go:Nat→Hp→Prop
 yld:Nat→Hp→V→Hp→Prop
 stop:Nat→Hp→Prop
def ak4 (X:Cx) (pins:List (Addr × Obj)) (H:Hp) (b:Addr):Prop:=
 H b=none∧b≠X.env.locals∧b ∉ X.fs∧(b∈X.ex∨X.s₀.heap.objs.size≤b)∧(∀ x c,X.env.cells.lookup x=some c→c≠b)∧∀ p∈X.pn++pins,p.1≠b
theorem Inv.fpOk {X:Cx} {pins:List (Addr × Obj)} {σ:St} {H H':Hp} {s:Shared} {b:Addr} (I:Inv X pins σ H s) (hb:s.heap.objs.size≤b) (hn:H' b=none):ak4 X pins H' b:=by
 refine ⟨hn,Nat.ne_of_gt (Nat.lt_of_lt_of_le I.lt hb),I.nofs hb,.inr (Nat.le_trans I.sz hb),fun x c e z=>?_,fun p hp z=>?_⟩
 ·obtain ⟨v,q⟩:=I.cell x c e
  exact absurd (Nat.lt_of_lt_of_le q.lt (by rw [z];exact hb)) (Nat.lt_irrefl _)
 ·exact absurd (Nat.lt_of_lt_of_le (Heap.lt_size (I.pin p hp).1) (by rw [z];exact hb)) (Nat.lt_irrefl _)
structure aM4 (P:Program) (w:World) (K:PySem.W.Frag) (tg:Expr) (J:It) (fp:List Addr) (it:Addr) (tn:Nat→Heap→Prop):Prop where
 mem:it∈fp
 obj:∀ i h,tn i h→∀ b∈fp,∃ o,h.get? b=some o∧∀ v,o.data≠.cell v
 keep:∀ i h h',tn i h→(∀ b∈fp,∀ o,h.get? b=some o→h'.get? b=some o)→tn i h'
 item:∀ (X:Cx),X.prog=P→X.w=w→X.K=K→X.calm=true→∀ (i:Nat) (pins:List (Addr × Obj)) (s:Shared) (σ:St) (H:Hp) (E:Value→Shared→Prop),Inv X pins σ H s→(∀ b∈fp,ak4 X pins H b)→tn i s.heap→J.go i H →
  wpAny (model P w) X.A (pyNext (.ref it)) (fun r s1=>∃ u,r=some u ∧
   wpAny (model P w) X.A (letOwnedTupleGo tg (.ref it) u) (fun _ s2=>∃ x H',Inv X pins σ H' s2∧B1 x u∧J.yld i H x H'∧tn (i+1) s2.heap∧∀ b∈fp,H' b=none) E s1) E s
 done:∀ (X:Cx),X.prog=P→X.w=w→X.K=K→X.calm=true→∀ (i:Nat) (pins:List (Addr × Obj)) (s:Shared) (σ:St) (H:Hp) (E:Value→Shared→Prop),Inv X pins σ H s→(∀ b∈fp,ak4 X pins H b)→tn i s.heap→J.stop i H →
  wpAny (model P w) X.A (pyNext (.ref it)) (fun r s1=>r=none∧Inv X pins σ H s1) E s
 self:∀ (A:Around) (i:Nat) (s:Shared) (Q:Value→Shared→Prop) (E:Value→Shared→Prop),tn i s.heap→Q (.ref it) s→wpAny (model P w) A (pyIter (.ref it)) Q E s
abbrev TI:=St→Hp→(It→Hp→Prop)→Prop
def PIE (X:Cx) (pins:List (Addr × Obj)) (σ:St) (tg:Expr) (R:It→Hp→Prop) (itv:Value) (s2:Shared):Prop:=
 ∃ (it:Addr) (fp:List Addr) (tn:Nat→Heap→Prop) (J:It) (H':Hp),itv = .ref it∧Inv X pins σ H' s2∧aM4 X.prog X.w X.K tg J fp it tn∧tn 0 s2.heap∧(∀ b∈fp,ak4 X pins H' b)∧R J H'
def PI (X:Cx) (tg iter:Expr) (wi:TI):Prop:=
 ∀ (pins:List (Addr × Obj)) (s:Shared) (σ:St) (H:Hp) (R:It→Hp→Prop),Inv X pins σ H s→wi σ H R →
  wpAny (model X.prog X.w) X.A (eval iter X.env) (fun v s1=>wpAny (model X.prog X.w) X.A (pyIter v) (PIE X pins σ tg R) X.xe s1) X.xe s
theorem aO5 {M:Model} {A:Around} {E:Value→Shared→Prop} {s:Shared} {tg:Expr} {it:Addr} {u:Value} {o:Obj} {n:String} {vs:Array Value} {Q:Unit→Shared→Prop} (ho:s.heap.get? it=some o) (hc:o.cls = .type n) (hd:o.data = .fields vs)
    (hn:["enumerate","zip","dict_itemiterator","dict_reverseitemiterator","odict_iterator","itertools.zip_longest","itertools.pairwise"].contains n=false) (hQ:Q () s):wpAny M A (letOwnedTupleGo tg (.ref it) u) Q E s:=by
  unfold letOwnedTupleGo
  cases tg <;> first
    | exact wpAny_pure hQ
    | (cases u <;> first
        | exact wpAny_pure hQ
        | (refine wpAny_bind (wpAny_load ho ?_)
           rw [hc,hd]
           show wpAny M A (if (["enumerate","zip","dict_itemiterator","dict_reverseitemiterator","odict_iterator","itertools.zip_longest","itertools.pairwise"].contains n && vs[0]? == some (rawInt _))=true then _ else _) Q E s
           rw [if_neg (by intro h;rw [hn,Bool.false_and] at h;cases h)]
           exact wpAny_pure hQ))
def Itl (K:PySem.W.Frag) (a:Addr):It:=
 ⟨fun i H=>∃ xs x,SqL K H a xs∧xs[i]? = some x,fun i H x H'=>H'=H∧∀ xs,SqL K H a xs→xs[i]? = some x,fun i H=>∃ xs,SqL K H a xs∧xs.length≤i⟩
def Itt (K:PySem.W.Frag) (a:Addr):It:=
 ⟨fun i H=>∃ xs x,SqT K H a xs∧xs[i]? = some x,fun i H x H'=>H'=H∧∀ xs,SqT K H a xs→xs[i]? = some x,fun i H=>∃ xs,SqT K H a xs∧xs.length≤i⟩
def Itr (lo:Int) (n:Nat):It:=⟨fun i _=>i<n,fun i H x H'=>H'=H∧x = .int (lo+i),fun i _=>n≤i⟩
theorem aP8 {P:Program} {w:World} {K:PySem.W.Frag} {tg:Expr} (a it:Addr):aM4 P w K tg (Itl K a) [it] it (fun i h=>h.IsListIter it a i) where
 mem:=by simp
 obj:=fun i h st b hb=>by
  have e:b=it:=by simpa using hb
  subst e
  obtain ⟨o,e,c,d⟩:=st
  exact ⟨o,e,fun v z=>by rw [d] at z;cases z⟩
 keep:=fun i h h' st k=>st.at fun o e=>k it (by simp) o e
 item:=by
  intro X hP hw hK hc i pins s σ H E I hf st hg
  subst hP hw hK
  obtain ⟨xs,x,hq,hx⟩:=hg
  obtain ⟨its,rv,p,hz⟩:=I.list hq
  obtain ⟨u,hu,ru⟩:=rv.get hx
  obtain ⟨f0,f1,f2,f3,f4,f5⟩:=hf it (by simp)
  refine wpAny_pyNext_list_item st p.isList (x:=u) (by simpa using hu) fun h' st' sb=>?_
  have I1:Inv X pins σ H { s with heap:=h' }:=I.turned (t':=s.toks) (fun b o hb e=>(sb.2 b hb).trans e) f0 f1 f3 f4 f5
  obtain ⟨o,e,c,d⟩:=id st'
  exact ⟨u,rfl,aO5 (s:={ s with heap:=h' }) e c d (by decide) ⟨x,H,I1,ru,⟨rfl,fun ys hy=>by rw [I.list_inj hy hq];exact hx⟩,st',fun b hb=>(hf b hb).1⟩⟩
 done:=by
  intro X hP hw hK hc i pins s σ H E I hf st hg
  subst hP hw hK
  obtain ⟨xs,hq,hx⟩:=hg
  obtain ⟨its,rv,p,hz⟩:=I.list hq
  obtain ⟨f0,f1,f2,f3,f4,f5⟩:=hf it (by simp)
  have hl:=rv.length
  exact wpAny_pyNext_list_end (I.ok.hd hc) st p.isList (by simp;omega) fun h' eb=>⟨rfl,I.turned (t':=s.toks) (fun b o hb e=>eb b o hb e) f0 f1 f3 f4 f5⟩
 self:=fun _ _ _ _ _ st h=>wpAny_pyIter_listiter st h
theorem aI6 {P:Program} {w:World} {K:PySem.W.Frag} {tg:Expr} (a it:Addr):aM4 P w K tg (Itt K a) [it] it (fun i h=>h.IsTupleIter it a i) where
 mem:=by simp
 obj:=fun i h st b hb=>by
  have e:b=it:=by simpa using hb
  subst e
  obtain ⟨o,e,c,d⟩:=st
  exact ⟨o,e,fun v z=>by rw [d] at z;cases z⟩
 keep:=fun i h h' st k=>st.at fun o e=>k it (by simp) o e
 item:=by
  intro X hP hw hK hc i pins s σ H E I hf st hg
  subst hP hw hK
  obtain ⟨xs,x,hq,hx⟩:=hg
  obtain ⟨its,rv,p,hz⟩:=I.tuple hq
  obtain ⟨u,hu,ru⟩:=rv.get hx
  obtain ⟨f0,f1,f2,f3,f4,f5⟩:=hf it (by simp)
  refine wpAny_pyNext_tuple_item st (show s.heap.IsTuple a its.toArray from p) (x:=u) (by simpa using hu) fun h' st' sb=>?_
  have I1:Inv X pins σ H { s with heap:=h' }:=I.turned (t':=s.toks) (fun b o hb e=>(sb.2 b hb).trans e) f0 f1 f3 f4 f5
  obtain ⟨o,e,c,d⟩:=id st'
  exact ⟨u,rfl,aO5 (s:={ s with heap:=h' }) e c d (by decide) ⟨x,H,I1,ru,⟨rfl,fun ys hy=>by rw [I.tuple_inj hy hq];exact hx⟩,st',fun b hb=>(hf b hb).1⟩⟩
 done:=by
  intro X hP hw hK hc i pins s σ H E I hf st hg
  subst hP hw hK
  obtain ⟨xs,hq,hx⟩:=hg
  obtain ⟨its,rv,p,hz⟩:=I.tuple hq
  obtain ⟨f0,f1,f2,f3,f4,f5⟩:=hf it (by simp)
  have hl:=rv.length
  exact wpAny_pyNext_tuple_end (I.ok.hd hc) st (show s.heap.IsTuple a its.toArray from p) (by simp;omega) fun h' eb=>⟨rfl,I.turned (t':=s.toks) (fun b o hb e=>eb b o hb e) f0 f1 f3 f4 f5⟩
 self:=fun _ _ _ _ _ st h=>wpAny_pyIter_tupleiter st h
theorem aI7 {P:Program} {w:World} {K:PySem.W.Frag} {tg:Expr} (it:Addr) (lo:Int) (n:Nat):aM4 P w K tg (Itr lo n) [it] it (fun i h=>IsRangeIter h it (lo+(i:Nat) * 1) ((n:Int) - (i:Nat)) 1) where
 mem:=by simp
 obj:=fun i h st b hb=>by
  have e:b=it:=by simpa using hb
  subst e
  exact ⟨_,st,fun v z=>by
   have z':Data.fields _=Data.cell v:=z
   cases z'⟩
 keep:=fun i h h' st k=>k it (by simp) _ st
 item:=by
  intro X hP hw hK hc i pins s σ H E I hf st hg
  subst hP hw hK
  obtain ⟨f0,f1,f2,f3,f4,f5⟩:=hf it (by simp)
  have W:=Walks.range (prog:=X.prog) (w:=X.w) (I.ok.hd hc) it lo 1 n
  refine W.item i s _ _ hg st fun v h' tk hv st' kk=>?_
  obtain ⟨t,rfl⟩:=hv
  have I1:Inv X pins σ H { s with heap:=h',toks:=tk }:=I.turned (fun b o hb e=>kk b o (by simpa using hb) e) f0 f1 f3 f4 f5
  refine ⟨_,rfl,aO5 (s:={ s with heap:=h',toks:=tk }) (n:="range_iterator") st' rfl rfl (by decide) ⟨.int (lo+i),H,I1,⟨t,?_⟩,⟨rfl,rfl⟩,st',fun b hb=>(hf b hb).1⟩⟩
  rw [Int.mul_one]
 done:=by
  intro X hP hw hK hc i pins s σ H E I hf st hg
  subst hP hw hK
  obtain ⟨f0,f1,f2,f3,f4,f5⟩:=hf it (by simp)
  exact wpAny_pyNext_range_end (I.ok.hd hc) st (by have:n≤i:=hg;omega) fun h' eb=>⟨rfl,I.turned (t':=s.toks) (fun b o hb e=>eb b o hb e) f0 f1 f3 f4 f5⟩
 self:=fun _ _ _ _ _ st h=>wpAny_pyIter_rangeiter st h
section
variable {X:Cx} {tg:Expr}
def aO3 (K:PySem.W.Frag) (tl:TE):TI:=fun σ H R=>tl σ H fun x H1=>∃ a,x = .ref a∧(∃ xs,SqL K H1 a xs)∧R (Itl K a) H1
def bm5 (K:PySem.W.Frag) (tl:TE):TI:=fun σ H R=>tl σ H fun x H1=>∃ a,x = .ref a∧(∃ xs,SqT K H1 a xs)∧R (Itt K a) H1
theorem K7 {l:Expr} {tl:TE} (hl:PE X l tl):PI X tg l (aO3 X.K tl):=by
 intro pins s σ H R I h
 refine thn (hl pins s σ H _ I h) fun v s1 ⟨x,H1,I1,r1,q1⟩=>?_
 obtain ⟨a,e,⟨xs,hq⟩,q⟩:=q1
 subst e
 cases r1
 obtain ⟨its,rv,p,hz⟩:=I1.list hq
 refine wpAny_pyIter_list p.isList ?_
 refine ⟨s1.heap.objs.size,[s1.heap.objs.size],_,_,H1,rfl,I1.kept (t':=s1.toks) fun b o e=>Heap.get?_push_of_some _ e,aP8 a _,⟨_,Heap.get?_push_size _ rfl,rfl,rfl⟩,fun b hb=>?_,q⟩
 have e:b=s1.heap.objs.size:=by simpa using hb
 subst e
 exact I1.fpOk (Nat.le_refl _) (I1.hok.fresh (Nat.le_refl _))
theorem aK0 {l:Expr} {tl:TE} (hl:PE X l tl):PI X tg l (bm5 X.K tl):=by
 intro pins s σ H R I h
 refine thn (hl pins s σ H _ I h) fun v s1 ⟨x,H1,I1,r1,q1⟩=>?_
 obtain ⟨a,e,⟨xs,hq⟩,q⟩:=q1
 subst e
 cases r1
 obtain ⟨its,rv,p,hz⟩:=I1.tuple hq
 refine wpAny_pyIter_tuple (show s1.heap.IsTuple a its.toArray from p) ?_
 refine ⟨s1.heap.objs.size,[s1.heap.objs.size],_,_,H1,rfl,I1.kept (t':=s1.toks) fun b o e=>Heap.get?_push_of_some _ e,aI6 a _,⟨_,Heap.get?_push_size _ rfl,rfl,rfl⟩,fun b hb=>?_,q⟩
 have e:b=s1.heap.objs.size:=by simpa using hb
 subst e
 exact I1.fpOk (Nat.le_refl _) (I1.hok.fresh (Nat.le_refl _))
theorem aW6 {pins:List (Addr × Obj)} {σ:St} {H:Hp} {s:Shared} {R:It→Hp→Prop} {E:Value→Shared→Prop} {lo hi:Int} {t u v:Tok} {tk:Nat} (I:Inv X pins σ H s) (h1 : -(2 ^ 62)≤lo) (h2:lo<2 ^ 62) (h3 : -(2 ^ 62)≤hi) (h4:hi<2 ^ 62)
  (q:R (Itr lo (hi - lo).toNat) H):wpAny (model X.prog X.w) X.A (pyIter (.ref s.heap.objs.size)) (PIE X pins σ tg R) E { s with heap:=s.heap.push { cls:=.type "range",data:=.fields #[.int lo t,.int hi u,.int 1 v] },toks:=tk }:=by
 refine wpAny_pyIter_range (IsRange.new ..) (small_one h1 h2 h3 h4) ?_
 have I1:Inv X pins σ H { s with heap:=s.heap.push { cls:=.type "range",data:=.fields #[.int lo t,.int hi u,.int 1 v] },toks:=tk }:=I.kept fun b o e=>Heap.get?_push_of_some _ e
 refine ⟨(s.heap.push { cls:=.type "range",data:=.fields #[.int lo t,.int hi u,.int 1 v] }).objs.size,[(s.heap.push { cls:=.type "range",data:=.fields #[.int lo t,.int hi u,.int 1 v] }).objs.size],_,_,H,rfl,
  I1.kept (t':=tk) fun b o e=>Heap.get?_push_of_some _ e,aI7 _ lo (hi - lo).toNat,?_,fun b hb=>?_,q⟩
 ·have e1:lo+((0:Nat):Int) * 1=lo:=by simp
  have e2:(((hi - lo).toNat:Nat):Int) - ((0:Nat):Int)=Builtin.Range.rangeSize lo hi 1:=by rw [rangeSize_one];split <;> omega
  show IsRangeIter _ _ (lo+((0:Nat):Int) * 1) ((((hi - lo).toNat:Nat):Int) - ((0:Nat):Int)) 1
  rw [e1,e2]
  exact Heap.get?_push_size _ rfl
 ·have e:b=(s.heap.push { cls:=.type "range",data:=.fields #[.int lo t,.int hi u,.int 1 v] }).objs.size:=by simpa using hb
  subst e
  exact I1.fpOk (Nat.le_refl _) (I1.hok.fresh (Nat.le_refl _))
def aZ8 (ta:TA):TI:=fun σ H R=>ta σ H fun vs H1=>∃ j:Int,vs=[.int j]∧-(2 ^ 62)≤j∧j<2 ^ 62∧R (Itr 0 j.toNat) H1
theorem ab7 {a:Expr} {ta:TA} {p pos:Pos} (hg:Gl X "range") (hm:X.mg "range" = none) (ha:PA X [a] ta) (hs:starEach [a] X.env=[(false,eval a X.env)]:=by rfl):PI X tg (.Call (.Name "range" p) [a] [] pos) (aZ8 ta):=by
 intro pins s σ H R I h
 refine Call_ (af2 I hg hm boot_range (PyProof.Rows.callWith_type1 (thn (ha pos pins s σ H _ I h) fun us s1 ⟨vs,H1,I1,r1,q1⟩=>?_) hs rfl))
 obtain ⟨j,e,q1,q2,q⟩:=q1
 subst e
 cases r1 with
 | cons r rr=>
  cases rr
  obtain ⟨t,rfl⟩:=r
  exact call_range_1 (aW6 I1 (by omega) (by omega) q1 q2 (by simpa using q))
def bo9 (wi:TI) (g:TG) (tb:TS):TS:=fun D σ H=>wi σ H fun J H1=>∃ W:Nat→Nat→St→Hp→Prop,(∃ m,W 0 m σ H1)∧∀ i m σ H,W i m σ H →
 (J.stop i H∧D.nx σ H)∨(J.go i H∧∃ N:St→Hp→Prop,(∀ σ' H',N σ' H'→∃ m',m'<m∧W (i+1) m' σ' H')∧∀ x H',J.yld i H x H'→g x σ H' fun σ2 H2=>tb { D with nx:=N,ct:=N,bk:=D.nx } σ2 H2)
def aB6 (fp:List Addr) (h:Heap):List (Addr × Obj):=fp.filterMap fun b=>(h.get? b).map fun o=>(b,o)
theorem D3 {fp:List Addr} {h:Heap} {b:Addr} {o:Obj} (hb:b∈fp) (e:h.get? b=some o):(b,o)∈aB6 fp h:=List.mem_filterMap.mpr ⟨b,hb,by rw [e];rfl⟩
theorem aR6 {fp:List Addr} {h:Heap} {p:Addr × Obj} (hp:p∈aB6 fp h):p.1∈fp∧h.get? p.1=some p.2:=by
 obtain ⟨b,hb,e⟩:=List.mem_filterMap.mp hp
 cases q:h.get? b with
 | none=>rw [q] at e;cases e
 | some o=>
  rw [q] at e
  have e':(b,o)=p:=Option.some.inj e
  subst e'
  exact ⟨hb,q⟩
theorem Inv.pinned {pins:List (Addr × Obj)} {σ:St} {H:Hp} {s:Shared} {fp:List Addr} (I:Inv X pins σ H s) (hf:∀ b∈fp,ak4 X pins H b) (ho:∀ b∈fp,∃ o,s.heap.get? b=some o∧∀ v,o.data≠.cell v):Inv X (pins++aB6 fp s.heap) σ H s:=
 I.pins_of fun p hp=>(List.mem_append.mp hp).elim (fun z=>I.pin p (List.mem_append_right _ z)) fun z=>by
  obtain ⟨hb,e⟩:=aR6 z
  obtain ⟨f0,f1,f2,_⟩:=hf p.1 hb
  obtain ⟨o,e',d⟩:=ho p.1 hb
  rw [e] at e';cases e'
  exact ⟨e,f0,f1,f2,d⟩
theorem Inv.unpinned {pins pl:List (Addr × Obj)} {σ:St} {H:Hp} {s:Shared} (I:Inv X (pins++pl) σ H s):Inv X pins σ H s:=I.pins_of fun p hp=>I.pin p (List.mem_append_right _ (List.mem_append_left _ hp))
theorem U5 {iter:Expr} {body:List Stmt} {wi:TI} {g:TG} {tb:TS} {pos:Pos} (hp:PassesOwn (model X.prog X.w) X.A X.env X.xe) (hc:X.calm=true) (hi:PI X tg iter wi) (hg:PG X tg g) (hb:PSs X body tb)
  (hs:∀ x,foldedSetIterable iter X.env x=pure x:=by intro _;rfl):PS X (.For tg iter body [] pos) (bo9 wi g tb):=by
 intro pins s σ H D I h
 refine wpAny_For (thn (hi pins s σ H _ I h) fun v s1 h1=>thn h1 fun itv s2 h2=>?_) hs
 obtain ⟨it,fp,tn,J,H2,e,I2,T,st2,f2,W,⟨m0,w0⟩,turn⟩:=h2
 subst e
 -- what stays true of the iterator's objects through the loop
 have stat:∀ {H':Hp},(∀ b∈fp,H' b=none)→∀ b∈fp,ak4 X pins H' b:=fun hn b hb=>⟨hn b hb,(f2 b hb).2⟩
 refine codeAny_forLoop_any (fun n s'=>∃ i σ' H',Inv X pins σ' H' s'∧tn i s'.heap∧(∀ b∈fp,H' b=none)∧W i n σ' H') ?_ m0 ⟨0,σ,H2,I2,st2,fun b hb=>(f2 b hb).1,w0⟩
 rintro n s3 ⟨i,σ3,H3,I3,st3,fr3,w3⟩
 rcases turn i n σ3 H3 w3 with ⟨stop,qn⟩ | ⟨go,N,hN,step⟩
 ·refine wpAny_passesOwn hp (thn (T.done X rfl rfl rfl hc i pins s3 σ3 H3 X.xe I3 (stat fr3) st3 stop) fun r s4 ⟨hr,I4⟩=>?_)
  subst hr
  exact wpAny_execs_nil ⟨σ3,H3,I4,qn⟩
 ·refine wpAny_passesOwn hp (thn (T.item X rfl rfl rfl hc i pins s3 σ3 H3 X.xe I3 (stat fr3) st3 go) fun r s4 ⟨u,hr,h4⟩=>?_)
  subst hr
  refine wpAny_passesOwn hp (thn h4 fun _ s5 ⟨x,H5,I5,r5,y5,st5,fr5⟩=>?_)
  have I5':=I5.pinned (stat fr5) (T.obj _ _ st5)
  refine wpAny_passesOwn hp (thn (hg _ s5 σ3 H5 x u _ I5' r5 (step x H5 y5)) fun _ s6 ⟨σ6,H6,I6,q6⟩=>?_)
  refine wpAny_passesOwn hp (thn (hb _ s6 σ6 H6 _ I6 q6) fun f s7 q7=>?_)
  have again:∀ {σ7:St} {H7:Hp},Inv X (pins++aB6 fp s5.heap) σ7 H7 s7→N σ7 H7→∃ m,m<n∧∃ i σ' H',Inv X pins σ' H' s7∧tn i s7.heap∧(∀ b∈fp,H' b=none)∧W i m σ' H':=fun {σ7 H7} I7 n7=>by
   obtain ⟨m',hm,w7⟩:=hN σ7 H7 n7
   refine ⟨m',hm,i+1,σ7,H7,I7.unpinned,T.keep _ _ _ st5 fun b hb o e=>(I7.pin (b,o) (List.mem_append_right _ (List.mem_append_right _ (D3 hb e)))).1,fun b hb=>?_,w7⟩
   obtain ⟨o,e,d⟩:=T.obj _ _ st5 b hb
   exact (I7.pin (b,o) (List.mem_append_right _ (List.mem_append_right _ (D3 hb e)))).2.1
  cases f with
  | next=>obtain ⟨σ7,H7,I7,n7⟩:=q7;exact again I7 n7
  | cont=>obtain ⟨σ7,H7,I7,n7⟩:=q7;exact again I7 n7
  | brk=>obtain ⟨σ7,H7,I7,q7⟩:=q7;exact ⟨σ7,H7,I7.unpinned,q7⟩
  | ret v=>obtain ⟨x7,σ7,H7,I7,r7,q7⟩:=q7;exact ⟨x7,σ7,H7,I7.unpinned,r7,q7⟩
end
theorem W6 {K:PySem.W.Frag} {a:Addr} {xs:List V} {g:TG} {tb:TS} {D:ab2} {σ:St} {H:Hp} (Pv:Nat→St→Hp→Prop) (h0:Pv 0 σ H) (hl:∀ i σ H,i≤xs.length→Pv i σ H→SqL K H a xs)
  (hs:∀ i x σ H,xs[i]? = some x→Pv i σ H→g x σ H fun σ2 H2=>tb { D with nx:=Pv (i+1),ct:=Pv (i+1),bk:=D.nx } σ2 H2) (hd:∀ σ H,Pv xs.length σ H→D.nx σ H) :
  ∃ W:Nat→Nat→St→Hp→Prop,(∃ m,W 0 m σ H)∧∀ i m σ H,W i m σ H →
   ((Itl K a).stop i H∧D.nx σ H)∨((Itl K a).go i H∧∃ N:St→Hp→Prop,(∀ σ' H',N σ' H'→∃ m',m'<m∧W (i+1) m' σ' H')∧∀ x H',(Itl K a).yld i H x H'→g x σ H' fun σ2 H2=>tb { D with nx:=N,ct:=N,bk:=D.nx } σ2 H2):=by
 refine ⟨fun i m σ H=>m=xs.length - i∧i≤xs.length∧Pv i σ H,⟨xs.length,by simp,Nat.zero_le _,h0⟩,?_⟩
 rintro i m σ H ⟨rfl,hi,p⟩
 have q:=hl i σ H hi p
 by_cases hlt:i<xs.length
 ·refine .inr ⟨⟨xs,xs[i],q,by simp [hlt]⟩,Pv (i+1),fun σ' H' p'=>⟨xs.length - (i+1),by omega,rfl,hlt,p'⟩,fun x H' y=>?_⟩
  obtain ⟨e,y⟩:=y
  subst e
  exact hs i x σ _ (y xs q) p
 ·have e:i=xs.length:=by omega
  subst e
  exact .inl ⟨⟨xs,q,Nat.le_refl _⟩,hd σ H p⟩
theorem aj5 {lo:Int} {n:Nat} {g:TG} {tb:TS} {D:ab2} {σ:St} {H:Hp} (Pv:Nat→St→Hp→Prop) (h0:Pv 0 σ H)
  (hs:∀ i σ H,i<n→Pv i σ H→g (.int (lo+i)) σ H fun σ2 H2=>tb { D with nx:=Pv (i+1),ct:=Pv (i+1),bk:=D.nx } σ2 H2) (hd:∀ σ H,Pv n σ H→D.nx σ H) :
  ∃ W:Nat→Nat→St→Hp→Prop,(∃ m,W 0 m σ H)∧∀ i m σ H,W i m σ H →
   ((Itr lo n).stop i H∧D.nx σ H)∨((Itr lo n).go i H∧∃ N:St→Hp→Prop,(∀ σ' H',N σ' H'→∃ m',m'<m∧W (i+1) m' σ' H')∧∀ x H',(Itr lo n).yld i H x H'→g x σ H' fun σ2 H2=>tb { D with nx:=N,ct:=N,bk:=D.nx } σ2 H2):=by
 refine ⟨fun i m σ H=>m=n - i∧i≤n∧Pv i σ H,⟨n,by simp,Nat.zero_le _,h0⟩,?_⟩
 rintro i m σ H ⟨rfl,hi,p⟩
 by_cases hlt:i<n
 ·refine .inr ⟨hlt,Pv (i+1),fun σ' H' p'=>⟨n - (i+1),by omega,rfl,hlt,p'⟩,fun x H' y=>?_⟩
  obtain ⟨e,y⟩:=y
  subst e y
  exact hs i σ _ hlt p
 ·have e:i=n:=by omega
  subst e
  exact .inl ⟨Nat.le_refl _,hd σ H p⟩
theorem aE4 {c:TT} {tb:TS} {D:ab2} {σ:St} {H:Hp} (Pv:St→Hp→Prop) (μ:St→Hp→Nat) (h0:Pv σ H)
  (hs:∀ σ H,Pv σ H→c σ H fun b H1=>if b=true then tb { D with nx:=fun σ' H'=>Pv σ' H'∧μ σ' H' < μ σ H,ct:=fun σ' H'=>Pv σ' H'∧μ σ' H' < μ σ H,bk:=D.nx } σ H1 else D.nx σ H1)
  (mono:∀ σ H Q Q',(∀ b H1,Q b H1→Q' b H1)→c σ H Q→c σ H Q'):ad7 c tb D σ H:=by
 refine ⟨fun m σ H=>m = μ σ H∧Pv σ H,⟨_,rfl,h0⟩,?_⟩
 rintro m σ H ⟨rfl,p⟩
 refine mono σ H _ _ (fun b H1 q=>?_) (hs σ H p)
 cases b with
 | true=>exact ⟨_,fun σ' H' ⟨p',l⟩=>⟨_,l,rfl,p'⟩,q⟩
 | false=>exact q
abbrev R2:=V→V→Hp→VK→Prop
def OpR (X:Cx) (f:Value→Value→Sem Value) (r:R2):Prop:=
 ∀ (pins:List (Addr × Obj)) (s:Shared) (σ:St) (H:Hp) (x y:V) (v u:Value) (Q:VK),Inv X pins σ H s→B1 x v→B1 y u→r x y H Q →
  wpAny (model X.prog X.w) X.A (f v u) (EP X pins σ Q) X.xe s
def UnR (X:Cx) (f:Value→Sem Value) (r:V→Hp→VK→Prop):Prop:=
 ∀ (pins:List (Addr × Obj)) (s:Shared) (σ:St) (H:Hp) (x:V) (v:Value) (Q:VK),Inv X pins σ H s→B1 x v→r x H Q →
  wpAny (model X.prog X.w) X.A (f v) (EP X pins σ Q) X.xe s
def X6 (X:Cx) (f:Value) (r:List V→Hp→VK→Prop):Prop:=
 ∀ (pins:List (Addr × Obj)) (s:Shared) (σ:St) (H:Hp) (xs:List V) (us:List Value) (Q:VK),Inv X pins σ H s→p7 xs us→r xs H Q →
  wpAny (model X.prog X.w) X.A (call f us) (EP X pins σ Q) X.xe s
def br5 (X:Cx) (r:V→Hp→(Bool→Hp→Prop)→Prop):Prop:=
 ∀ (pins:List (Addr × Obj)) (s:Shared) (σ:St) (H:Hp) (x:V) (v:Value) (Q:Bool→Hp→Prop),Inv X pins σ H s→B1 x v→r x H Q →
  wpAny (model X.prog X.w) X.A (truthy v) (TP X pins σ Q) X.xe s
def tOp (r:R2) (ta tb:TE):TE:=fun σ H Q=>ta σ H fun x H1=>tb σ H1 fun y H2=>r x y H2 Q
def tUn (r:V→Hp→VK→Prop) (ta:TE):TE:=fun σ H Q=>ta σ H fun x H1=>r x H1 Q
def rI (C:Int→Int→Prop) (g:Int→Int→V):R2:=fun x y H Q=>∃ i j,x = .int i∧y = .int j∧C i j∧Q (g i j) H
def rI0 (g:Int→Int→V):R2:=fun x y H Q=>∃ i j,x = .int i∧y = .int j∧Q (g i j) H
def rU (g:Int→V):V→Hp→VK→Prop:=fun x H Q=>∃ i,x = .int i∧Q (g i) H
section
variable {X:Cx} {a b c:Expr} {ta tb tc:TE} {pos:Pos}
theorem bn6 (ha:PE X a ta) (hb:PE X b tb) {pins:List (Addr × Obj)} {s:Shared} {σ:St} {H:Hp} {R:V→V→Hp→Prop} (I:Inv X pins σ H s)
  (h:ta σ H fun x H1=>tb σ H1 fun y H2=>R x y H2) {Q:Value→Shared→Prop} {f:Value→Value→Sem Value}
  (hf:∀ v u s2 x y H2,Inv X pins σ H2 s2→B1 x v→B1 y u→R x y H2→wpAny (model X.prog X.w) X.A (f v u) Q X.xe s2) :
  wpAny (model X.prog X.w) X.A (eval a X.env) (fun v s₁=>wpAny (model X.prog X.w) X.A (eval b X.env) (fun u s₂=>wpAny (model X.prog X.w) X.A (f v u) Q X.xe s₂) X.xe s₁) X.xe s:=by
 refine thn (ha pins s σ H _ I h) fun v s1 ⟨x,H1,I1,r1,q1⟩=>?_
 refine thn (hb pins s1 σ H1 _ I1 q1) fun u s2 ⟨y,H2,I2,r2,q2⟩=>?_
 exact hf v u s2 x y H2 I2 r1 r2 q2
theorem d9 {op:Operator} {r:R2} (ho:OpR X (binaryOp op) r) (ha:PE X a ta) (hb:PE X b tb):PE X (.BinOp a op b pos) (tOp r ta tb):=by
 intro pins s σ H Q I h
 exact wpAny_BinOp (bn6 ha hb I h fun v u s2 x y H2 I2 rx ry q=>ho pins s2 σ H2 x y v u Q I2 rx ry q)
theorem N5 {op:UnaryOp} {r:V→Hp→VK→Prop} (ho:UnR X (unaryOp op) r) (ha:PE X a ta):PE X (.UnaryOp op a pos) (tUn r ta):=by
 intro pins s σ H Q I h
 exact UnaryOp_ (thn (ha pins s σ H _ I h) fun v s1 ⟨x,H1,I1,r1,q1⟩=>ho pins s1 σ H1 x v Q I1 r1 q1)
theorem opI {f:Value→Value→Sem Value} {C:Int→Int→Prop} {g:Int→Int→Int}
  (rule:∀ (i j:Int) (t u:Tok) (s:Shared) (Q:Value→Shared→Prop) (E:Value→Shared→Prop),C i j→Q (.int (g i j) s.toks) { s with toks:=s.toks+1 }→wpAny (model X.prog X.w) X.A (f (.int i t) (.int j u)) Q E s) :
  OpR X f (rI C fun i j=>.int (g i j)):=by
 intro pins s σ H x y v u Q I rx ry h
 obtain ⟨i,j,rfl,rfl,hc,q⟩:=h
 obtain ⟨t,rfl⟩:=rx
 obtain ⟨t',rfl⟩:=ry
 exact rule i j t t' s _ _ hc ⟨.int (g i j),H,I.tok _,⟨_,rfl⟩,q⟩
theorem bk7 {f:Value→Value→Sem Value} {g:Int→Int→Int}
  (rule:∀ (i j:Int) (t u:Tok) (s:Shared) (Q:Value→Shared→Prop) (E:Value→Shared→Prop),Q (.int (g i j) s.toks) { s with toks:=s.toks+1 }→wpAny (model X.prog X.w) X.A (f (.int i t) (.int j u)) Q E s) :
  OpR X f (rI0 fun i j=>.int (g i j)):=by
 intro pins s σ H x y v u Q I rx ry h
 obtain ⟨i,j,rfl,rfl,q⟩:=h
 obtain ⟨t,rfl⟩:=rx
 obtain ⟨t',rfl⟩:=ry
 exact rule i j t t' s _ _ ⟨.int (g i j),H,I.tok _,⟨_,rfl⟩,q⟩
theorem be2 {f:Value→Value→Sem Value} {g:Int→Int→Bool}
  (rule:∀ (i j:Int) (t u:Tok) (s:Shared) (Q:Value→Shared→Prop) (E:Value→Shared→Prop),Q (.bool (g i j)) s→wpAny (model X.prog X.w) X.A (f (.int i t) (.int j u)) Q E s) :
  OpR X f (rI0 fun i j=>.bl (g i j)):=by
 intro pins s σ H x y v u Q I rx ry h
 obtain ⟨i,j,rfl,rfl,q⟩:=h
 obtain ⟨t,rfl⟩:=rx
 obtain ⟨t',rfl⟩:=ry
 exact rule i j t t' s _ _ ⟨.bl (g i j),H,I,rfl,q⟩
def bo7 (i j:Int):Prop:=0≤j∧j≤1000000∧i.natAbs<2 ^ 64
theorem N7:OpR X (binaryOp .Add) (rI0 fun i j=>.int (i+j)):=bk7 fun _ _ _ _ _ _ _ q=>add_int q
theorem M7:OpR X (binaryOp .Sub) (rI0 fun i j=>.int (i - j)):=bk7 fun _ _ _ _ _ _ _ q=>sub_int q
theorem P6:OpR X (binaryOp .Mod) (rI (fun _ j=>j≠0) fun i j=>.int (i.fmod j)):=opI fun _ _ _ _ _ _ _ hc q=>mod_int' hc q
theorem aa1:OpR X (binaryOp .Pow) (rI bo7 fun i j=>.int (i ^ j.toNat)):=opI fun _ _ _ _ _ _ _ hc q=>pow_int_small hc.1 hc.2.1 hc.2.2 q
theorem bk6:OpR X (binaryOp .BitAnd) (rI0 fun i j=>.int (Builtin.bitAnd i j)):=bk7 fun _ _ _ _ _ _ _ q=>and_int q
theorem unI {f:Value→Sem Value} {g:Int→Int}
  (rule:∀ (i:Int) (t:Tok) (s:Shared) (Q:Value→Shared→Prop) (E:Value→Shared→Prop),Q (.int (g i) s.toks) { s with toks:=s.toks+1 }→wpAny (model X.prog X.w) X.A (f (.int i t)) Q E s) :
  UnR X f (rU fun i=>.int (g i)):=by
 intro pins s σ H x v Q I rx h
 obtain ⟨i,rfl,q⟩:=h
 obtain ⟨t,rfl⟩:=rx
 exact rule i t s _ _ ⟨.int (g i),H,I.tok _,⟨_,rfl⟩,q⟩
theorem E5:UnR X (unaryOp .USub) (rU fun i=>.int (-i)):=unI fun _ _ _ _ _ q=>neg_int q
end
def bd0:V→V→Bool
 | .non,.non=>true | .non,.int _=>true | .int _,.non=>true | .non,.bl _=>true | .bl _,.non=>true | .non,.str _=>true | .str _,.non=>true
 | .int _,.int _=>true | .bl _,.bl _=>true | .str _,.str _=>true | .byt _,.byt _=>true
 | .int _,.str _=>true | .str _,.int _=>true | .bl _,.str _=>true | .str _,.bl _=>true
 | _,_=>false
def rEq:R2:=fun x y H Q=>bd0 x y=true∧Q (.bl (decide (x=y))) H
def rNe:R2:=fun x y H Q=>bd0 x y=true∧Q (.bl (!decide (x=y))) H
theorem aO9 {i j:Int}:decide (V.int i=V.int j)=(i == j):=by
 rw [Bool.eq_iff_iff]
 simp
theorem bb0 {i j:Bool}:decide (V.bl i=V.bl j)=(i == j):=by
 rw [Bool.eq_iff_iff]
 simp
theorem aO8 {i j:Str}:decide (V.str i=V.str j)=(i == j):=by
 rw [Bool.eq_iff_iff]
 simp
theorem aP0 {i j:Array UInt8}:decide (V.byt i=V.byt j)=(i.toList == j.toList):=by
 rw [Bool.eq_iff_iff]
 cases i
 cases j
 simp
section
variable {X:Cx} {a b c:Expr} {ta tb tc:TE} {pos:Pos}
theorem x9 {pins:List (Addr × Obj)} {σ:St} {H:Hp} {s:Shared} {Q:VK} {k k':Bool} (I:Inv X pins σ H s) (q:Q (.bl k) H) (e:k=k'):EP X pins σ Q (.bool k') s:=by
 subst e
 exact ⟨.bl k,H,I,rfl,q⟩
theorem ak9:OpR X (compareOp .Eq) rEq:=by
 intro pins s σ H x y v u Q I rx ry h
 obtain ⟨hs,q⟩:=h
 cases x with
 | non=>
  cases rx
  cases y with
  | non=>cases ry;exact PySem.EqNone.eq_none_none (x9 I q (by simp))
  | bl j=>cases ry;exact PySem.EqNone.eq_none_bool (x9 I q (by simp))
  | int j=>obtain ⟨t',rfl⟩:=ry;exact PySem.EqNone.eq_none_int (x9 I q (by simp))
  | str j=>obtain ⟨t',rfl⟩:=ry;exact PySem.EqNone.eq_none_str (x9 I q (by simp))
  | _=>exact absurd (show false=true from hs) Bool.false_ne_true
 | bl i=>
  cases rx
  cases y with
  | non=>cases ry;exact PySem.EqNone.eq_bool_none (x9 I q (by simp))
  | bl j=>cases ry;exact eq_bool (x9 I q bb0)
  | str j=>obtain ⟨t',rfl⟩:=ry;exact PySem.EqMixed.eq_bool_str (x9 I q (by simp))
  | _=>exact absurd (show false=true from hs) Bool.false_ne_true
 | int i=>
  obtain ⟨t,rfl⟩:=rx
  cases y with
  | non=>cases ry;exact PySem.EqNone.eq_int_none (x9 I q (by simp))
  | int j=>obtain ⟨t',rfl⟩:=ry;exact eq_int (x9 I q aO9)
  | str j=>obtain ⟨t',rfl⟩:=ry;exact PySem.EqMixed.eq_int_str (x9 I q (by simp))
  | _=>exact absurd (show false=true from hs) Bool.false_ne_true
 | str i=>
  obtain ⟨t,rfl⟩:=rx
  cases y with
  | non=>cases ry;exact PySem.EqNone.eq_str_none (x9 I q (by simp))
  | bl j=>cases ry;exact PySem.EqMixed.eq_str_bool (x9 I q (by simp))
  | int j=>obtain ⟨t',rfl⟩:=ry;exact PySem.EqMixed.eq_str_int (x9 I q (by simp))
  | str j=>obtain ⟨t',rfl⟩:=ry;exact eq_str (x9 I q aO8)
  | _=>exact absurd (show false=true from hs) Bool.false_ne_true
 | byt i=>
  obtain ⟨t,rfl⟩:=rx
  cases y with
  | byt j=>obtain ⟨t',rfl⟩:=ry;exact PySem.W.eq_bytes (x9 I q aP0)
  | _=>exact absurd (show false=true from hs) Bool.false_ne_true
 | _=>cases y <;> exact absurd (show false=true from hs) Bool.false_ne_true
theorem ak8:OpR X (compareOp .NotEq) rNe:=by
 intro pins s σ H x y v u Q I rx ry h
 obtain ⟨hs,q⟩:=h
 cases x with
 | non=>
  cases rx
  cases y with
  | non=>cases ry;exact PySem.EqNone.ne_none_none (x9 I q (by simp))
  | bl j=>cases ry;exact PySem.EqNone.ne_none_bool (x9 I q (by simp))
  | int j=>obtain ⟨t',rfl⟩:=ry;exact PySem.EqNone.ne_none_int (x9 I q (by simp))
  | str j=>obtain ⟨t',rfl⟩:=ry;exact PySem.EqNone.ne_none_str (x9 I q (by simp))
  | _=>exact absurd (show false=true from hs) Bool.false_ne_true
 | bl i=>
  cases rx
  cases y with
  | non=>cases ry;exact PySem.EqNone.ne_bool_none (x9 I q (by simp))
  | bl j=>cases ry;exact ne_bool (x9 I q (congrArg not bb0))
  | str j=>obtain ⟨t',rfl⟩:=ry;exact PySem.EqMixed.ne_bool_str (x9 I q (by simp))
  | _=>exact absurd (show false=true from hs) Bool.false_ne_true
 | int i=>
  obtain ⟨t,rfl⟩:=rx
  cases y with
  | non=>cases ry;exact PySem.EqNone.ne_int_none (x9 I q (by simp))
  | int j=>obtain ⟨t',rfl⟩:=ry;exact ne_int (x9 I q (congrArg not aO9))
  | str j=>obtain ⟨t',rfl⟩:=ry;exact PySem.EqMixed.ne_int_str (x9 I q (by simp))
  | _=>exact absurd (show false=true from hs) Bool.false_ne_true
 | str i=>
  obtain ⟨t,rfl⟩:=rx
  cases y with
  | non=>cases ry;exact PySem.EqNone.ne_str_none (x9 I q (by simp))
  | bl j=>cases ry;exact PySem.EqMixed.ne_str_bool (x9 I q (by simp))
  | int j=>obtain ⟨t',rfl⟩:=ry;exact PySem.EqMixed.ne_str_int (x9 I q (by simp))
  | str j=>obtain ⟨t',rfl⟩:=ry;exact ne_str (x9 I q (congrArg not aO8))
  | _=>exact absurd (show false=true from hs) Bool.false_ne_true
 | byt i=>
  obtain ⟨t,rfl⟩:=rx
  cases y with
  | byt j=>obtain ⟨t',rfl⟩:=ry;exact PySem.W.ne_bytes (x9 I q (congrArg not aP0))
  | _=>exact absurd (show false=true from hs) Bool.false_ne_true
 | _=>cases y <;> exact absurd (show false=true from hs) Bool.false_ne_true
theorem ad1:OpR X (compareOp .Lt) (rI0 fun i j=>.bl (decide (i<j))):=be2 fun _ _ _ _ _ _ _ q=>lt_int q
theorem aG4:OpR X (compareOp .LtE) (rI0 fun i j=>.bl (decide (i≤j))):=be2 fun _ _ _ _ _ _ _ q=>le_int q
theorem ag5:OpR X (compareOp .Gt) (rI0 fun i j=>.bl (decide (j<i))):=be2 fun _ _ _ _ _ _ _ q=>gt_int q
theorem bp6:OpR X (compareOp .GtE) (rI0 fun i j=>.bl (decide (j≤i))):=be2 fun _ _ _ _ _ _ _ q=>ge_int q
theorem bk5:OpR X (compareOp .Is) (fun x y H Q=>y = .non∧Q (.bl (decide (x = .non))) H):=by
 intro pins s σ H x y v u Q I rx ry h
 obtain ⟨rfl,q⟩:=h
 cases ry
 refine is_none_gen (x9 I q ?_)
 cases x <;> first
  | (cases rx;rfl)
  | (obtain ⟨t,rfl⟩:=rx;rfl)
theorem o0 (b:Expr) {op:CmpOp} (h:op≠.In:=by decide) (h2:op≠.NotIn:=by decide):behindInMarks op b=false:=by
 have e1:(op == CmpOp.In)=false:=by cases op <;> first | rfl | exact absurd rfl h
 have e2:(op == CmpOp.NotIn)=false:=by cases op <;> first | rfl | exact absurd rfl h2
 cases b <;> simp [behindInMarks,e1,e2]
theorem P5 {op:CmpOp} {r:R2} (ho:OpR X (compareOp op) r) (ha:PE X a ta) (hb:PE X b tb) (hm:behindInMarks op b=false):PE X (.Compare a [op] [b] pos) (tOp r ta tb):=by
 intro pins s σ H Q I h
 exact wpAny_Compare1 (bn6 ha hb I h fun v u s2 x y H2 I2 rx ry q=>ho pins s2 σ H2 x y v u Q I2 rx ry q) hm
def aM8 (t:TE):TT:=fun σ H Q=>t σ H fun x H'=>∃ k,x = .bl k∧Q k H'
theorem p6 {op:CmpOp} {r:R2} (ho:OpR X (compareOp op) r) (ha:PE X a ta) (hb:PE X b tb) (hm:behindInMarks op b=false):PT X (.Compare a [op] [b] pos) (aM8 (tOp r ta tb)):=by
 intro pins s σ H Q I h
 refine wpAny_isTrue_Compare1 (thn (ha pins s σ H _ I h) fun v s1 ⟨x,H1,I1,r1,q1⟩=>thn (hb pins s1 σ H1 _ I1 q1) fun u s2 ⟨y,H2,I2,r2,q2⟩=>
  thn (ho pins s2 σ H2 x y v u _ I2 r1 r2 q2) fun c s3 ⟨z,H3,I3,r3,k,e,q3⟩=>?_) hm
 subst e
 cases r3
 exact wpAny_truthy_bool ⟨H3,I3,q3⟩
def aJ1 (r r':R2) (ta tb tc:TE):TE:=fun σ H Q=>ta σ H fun x H1=>tb σ H1 fun y H2=>r x y H2 fun z H3=>∃ k,z = .bl k ∧
 (if k=true then tc σ H3 fun w' H4=>r' y w' H4 Q else Q (.bl false) H3)
theorem aX2 {op op':CmpOp} {r r':R2} (ho:OpR X (compareOp op) r) (ho':OpR X (compareOp op') r') (ha:PE X a ta) (hb:PE X b tb) (hc:PE X c tc)
  (hm:lastMarks [op,op'] [b,c]=false:=by with_unfolding_all rfl):PT X (.Compare a [op,op'] [b,c] pos) (aM8 (aJ1 r r' ta tb tc)):=by
 intro pins s σ H Q I h
 refine isTrue_chain (thn (ha pins s σ H _ I h) fun v s1 ⟨x,H1,I1,r1,q1⟩=>test_link (thn (hb pins s1 σ H1 _ I1 q1) fun u s2 ⟨y,H2,I2,r2,q2⟩=>
  thn (ho pins s2 σ H2 x y v u _ I2 r1 r2 q2) fun d s3 ⟨z,H3,I3,r3,k,e,q3⟩=>?_)) hm
 subst e
 cases r3
 refine wpAny_truthy_bool ?_
 cases k with
 | false=>
  obtain ⟨k',e',q'⟩:=q3
  cases e'
  exact ite_ff ⟨H3,I3,q'⟩
 | true=>
  refine ite_tt (test_last (thn (hc pins s3 σ H3 _ I3 q3) fun w' s4 ⟨z',H4,I4,r4,q4⟩=>thn (ho' pins s4 σ H4 y z' u w' _ I4 r2 r4 q4) fun d' s5 ⟨z2,H5,I5,r5,k2,e2,q5⟩=>?_))
  subst e2
  cases r5
  exact wpAny_truthy_bool ⟨H5,I5,q5⟩
def aI4 (K:PySem.W.Frag) (x:V) (H:Hp) (k:Bool):Prop:=
 match x with
 | .non=>k=false
 | .bl b=>k=b
 | .int i=>k=(i != 0)
 | .str y=>y.length≤sizeLine∧k=((y.length:Int) != 0)
 | .byt y=>y.size≤sizeLine∧k=((y.size:Int) != 0)
 | .ref p=>(∃ xs,SqL K H p xs∧k = !xs.isEmpty)∨(∃ xs,SqT K H p xs∧k = !xs.isEmpty)∨∃ kvs,H p=some (.dK kvs)∧k = !kvs.isEmpty
 | _=>False
theorem aL4 {κ:Type} {kvs:List (κ × V)} {vs:List (κ × Value)} (r:KV kvs vs):(!vs.isEmpty) = !kvs.isEmpty:=by
 cases r <;> rfl
theorem af4 {xs:List V} {its:List Value} (r:p7 xs its):(!its.toArray.isEmpty) = !xs.isEmpty:=by
 cases r <;> simp
theorem af1:(sizeLine:Nat)<2 ^ 63:=by rw [sizeLine_eq];decide
theorem bi4:br5 X (fun x H Q=>∃ k,aI4 X.K x H k∧Q k H):=by
 intro pins s σ H x v Q I rx h
 obtain ⟨k,e,q⟩:=h
 have hl:=af1
 have hs:sizeLine=16777216:=sizeLine_eq
 cases x with
 | non=>
  cases rx
  have e':k=false:=e
  subst e'
  exact truthy_none ⟨H,I,q⟩
 | bl b=>
  cases rx
  have e':k=b:=e
  subst e'
  exact wpAny_truthy_bool ⟨H,I,q⟩
 | int i=>
  obtain ⟨t,rfl⟩:=rx
  have e':k=(i != 0):=e
  subst e'
  exact PySem.P.truthy_int ⟨H,I,q⟩
 | str y=>
  obtain ⟨t,rfl⟩:=rx
  obtain ⟨hy,e'⟩:y.length≤sizeLine∧k=((y.length:Int) != 0):=e
  subst e'
  exact PySem.P.truthy_str (by omega) ⟨H,I.tok _,q⟩
 | byt y=>
  obtain ⟨t,rfl⟩:=rx
  obtain ⟨hy,e'⟩:y.size≤sizeLine∧k=((y.size:Int) != 0):=e
  subst e'
  exact PySem.W.truthy_bytes (by omega) ⟨H,I.tok _,q⟩
 | ref p=>
  cases rx
  have e':(∃ xs,SqL X.K H p xs∧k = !xs.isEmpty)∨(∃ xs,SqT X.K H p xs∧k = !xs.isEmpty)∨∃ kvs,H p=some (.dK kvs)∧k = !kvs.isEmpty:=e
  rcases e' with ⟨xs,hx,e'⟩ | ⟨xs,hx,e'⟩ | ⟨kvs,hx,e'⟩
  ·subst e'
   obtain ⟨its,r,pl,hz⟩:=I.list hx
   have hlen:=r.length
   exact wpAny_truthy_list pl.isList (by simp only [List.size_toArray];omega) ⟨H,I.tok _,by rw [af4 r];exact q⟩
  ·subst e'
   obtain ⟨its,r,pl,hz⟩:=I.tuple hx
   have hlen:=r.length
   exact truthy_tuple pl (by simp only [List.size_toArray];omega) ⟨H,I.tok _,by rw [af4 r];exact q⟩
  ·subst e'
   obtain ⟨hz,hS,vs,r,m⟩:kvs.length≤sizeLine∧(p == sysModules)=false∧∃ vs,KV kvs vs∧s.heap.DictOf (aD2 X.prog X.w) p vs:=I.hok p _ hx
   have hlen:kvs.length=vs.length:=Paired.length r
   exact wpAny_truthy_dict hS m (by omega) ⟨H,I.tok _,by rw [aL4 r];exact q⟩
 | _=>exact (show False from e).elim
theorem aq5 (ha:PE X a ta) (he:∀ whole,isTrue a X.env whole=(do let v ←whole;standAt a.pos;holding [v] (truthy v))) :
  PT X a (fun σ H Q=>ta σ H fun x H'=>∃ k,aI4 X.K x H' k∧Q k H'):=by
 intro pins s σ H Q I h
 exact isTrue_plain (thn (ha pins s σ H _ I h) fun v s1 ⟨x,H1,I1,r1,q1⟩=>bi4 pins s1 σ H1 x v Q I1 r1 q1) (he _)
theorem ac5 {x:V} {us:List Value} (r:p7 [x] us):∃ u,us=[u]∧B1 x u:=by
 cases r with
 | cons r1 r2=>cases r2;exact ⟨_,rfl,r1⟩
theorem bg8 {x y:V} {us:List Value} (r:p7 [x,y] us):∃ u w',us=[u,w']∧B1 x u∧B1 y w':=by
 cases r with
 | cons r1 r2=>
  cases r2 with
  | cons r3 r4=>cases r4;exact ⟨_,_,rfl,r1,r3⟩
theorem W9:X6 X (.builtin "abs") (fun xs H Q=>∃ i,xs=[.int i]∧Q (.int (if i<0 then -i else i)) H):=by
 intro pins s σ H xs us Q I r h
 obtain ⟨i,rfl,q⟩:=h
 obtain ⟨u,rfl,t,rfl⟩:=ac5 r
 exact call_abs_int fun u tk=>⟨.int (if i<0 then -i else i),H,I.tok _,⟨_,rfl⟩,q⟩
theorem aT6 (hc:X.calm=true):X6 X (.builtin "max") (fun xs H Q=>∃ i j,xs=[.int i,.int j]∧Q (.int (if j > i then j else i)) H):=by
 intro pins s σ H xs us Q I r h
 obtain ⟨i,j,rfl,q⟩:=h
 obtain ⟨u,w',rfl,⟨t,rfl⟩,⟨t',rfl⟩⟩:=bg8 r
 refine max_two_ints (I.ok.hd hc) fun h' tk k=>⟨_,H,I.kept k,?_,q⟩
 by_cases hj:j > i
 ·rw [if_pos hj,if_pos hj];exact ⟨_,rfl⟩
 ·rw [if_neg hj,if_neg hj];exact ⟨_,rfl⟩
theorem aT5 (hc:X.calm=true):X6 X (.builtin "min") (fun xs H Q=>∃ i j,xs=[.int i,.int j]∧Q (.int (if j<i then j else i)) H):=by
 intro pins s σ H xs us Q I r h
 obtain ⟨i,j,rfl,q⟩:=h
 obtain ⟨u,w',rfl,⟨t,rfl⟩,⟨t',rfl⟩⟩:=bg8 r
 refine min_two_ints (I.ok.hd hc) fun h' tk k=>⟨_,H,I.kept k,?_,q⟩
 by_cases hj:j<i
 ·rw [if_pos hj,if_pos hj];exact ⟨_,rfl⟩
 ·rw [if_neg hj,if_neg hj];exact ⟨_,rfl⟩
theorem ak1:X6 X (.type "int") (fun xs H Q=>(∃ i,xs=[.int i]∧Q (.int i) H)∨∃ k,xs=[.bl k]∧Q (.int (if k then 1 else 0)) H):=by
 intro pins s σ H xs us Q I r h
 rcases h with ⟨i,rfl,q⟩ | ⟨k,rfl,q⟩
 ·obtain ⟨u,rfl,t,rfl⟩:=ac5 r
  exact call_int_int ⟨.int i,H,I,⟨_,rfl⟩,q⟩
 ·obtain ⟨u,rfl,r1⟩:=ac5 r
  cases r1
  exact call_int_bool ⟨.int (if k then 1 else 0),H,I.tok _,⟨_,rfl⟩,q⟩
end
structure bo3 (h:Heap) (x dx C:Addr) (mA:Str→Option Value):Prop where
 obj:h.get? x=some (PySem.W.instObj C dx)
 ns:h.Ns1 dx mA
 ne:dx≠x
theorem aR9 {h:Heap} {dx:Addr} {mA:Str→Option Value} (n:h.Ns1 dx mA):∃ od,h.get? dx=some od∧∀ name,PySem.W.lookIn name od=some (mA name):=by
 obtain ⟨o,es,ep,ho,hd,hk,_,hm⟩:=n
 refine ⟨o,ho,fun name=>?_⟩
 have e:=hm name
 unfold nsFind findBy at e
 rw [←Array.find?_toList] at e
 unfold PySem.W.lookIn
 rw [hd]
 dsimp only
 split
 ·rename_i y q
  rw [q] at e
  exact congrArg some e
 ·rename_i q
  rw [q] at e
  have a:es.toList.any (·.refKey)=false:=by
   rw [List.any_eq_false]
   intro y hy
   obtain ⟨z,t,hkey⟩:=hk y (Array.mem_toList_iff.mp hy)
   simp [DictEntry.refKey,hkey]
  have a' : ¬ es.toList.any (·.refKey)=true:=by rw [a];exact Bool.false_ne_true
  rw [if_neg a']
  exact congrArg some e
theorem bo3.look {h:Heap} {x dx C:Addr} {mA:Str→Option Value} (I:bo3 h x dx C mA):∃ od,PySem.W.InstAt h x (PySem.W.instObj C dx) C (some od)∧∀ name,PySem.W.lookIn name od=some (mA name):=
 let ⟨od,ho,hl⟩:=aR9 I.ns
 ⟨od,⟨I.obj,rfl,rfl,ho⟩,hl⟩
section
variable {P:Program} {w:World} {H H':Hp} {h h':Heap} {a C dx:Addr} {fs fs':List (Str × V)}
theorem bf5 (hok:HOk P w H h) (e:H a=some (.ins C dx fs)):∃ mA,bo3 h a dx C mA∧(∀ f,bo0 (fs.lookup f) (mA f))∧PySem.Within mA (fs.map (·.1))∧fs.length≤1000∧H dx=some (.own a):=by
 obtain ⟨d,z,ne,ob,mA,n,r,q⟩:=(show E4 P w H h a (.ins C dx fs) from hok a _ e)
 exact ⟨mA,⟨ob,n,ne⟩,r,q,z,d⟩
end
structure Cls (K:PySem.W.Frag) (C:Addr):Prop where
 pg:PySem.W.plainGet K C Str.empty=true
 hd:PySem.W.hasDictIn K C=true
 po:PySem.W.plainOver K C=true
 sa:PySem.W.findIn K (.ref C) "__setattr__" = some (some (.builtin "object.__setattr__"))
theorem Cls.get {K:PySem.W.Frag} {C:Addr} (c:Cls K C) (f:Str):PySem.W.plainGet K C f=true:=c.pg
structure Con (K:PySem.W.Frag) (C:Addr) (f:Str) (v:V) (u:Value):Prop where
 at_:PySem.W.findIn K (.ref C) f=some (some u)
 rel:B1 v u
 get:PySem.W.specialIn K u "__get__" = some none
 cp:PySem.W.copiedNames.contains f=false
structure Meth (K:PySem.W.Frag) (C:Addr) (m:Str) (f:Addr):Prop where
 at_:PySem.W.findIn K (.ref C) m=some (some (.ref f))
 fn:PySem.W.isFn K (.ref f)=true
 kp:PySem.W.keepIn K (.ref f)=true
section
variable {X:Cx} {pins:List (Addr × Obj)} {σ:St} {H:Hp} {s:Shared} {A:Around} {E:Value→Shared→Prop} {Q:Value→Shared→Prop} {c:Value} {b:Bool}
inductive ak2 (K:PySem.W.Frag) (H:Hp):V→Value→Prop where
 | non:ak2 K H .non (.type "NoneType")
 | bl (x:Bool):ak2 K H (.bl x) (.type "bool")
 | int (i:Int):ak2 K H (.int i) (.type "int")
 | str (x:Str):ak2 K H (.str x) (.type "str")
 | flt (x:UInt64):ak2 K H (.flt x) (.type "float")
 | lst {a:Addr} {xs:List V} (e:H a=some (.lst xs)):ak2 K H (.ref a) (.type "list")
 | frz {a:Addr} {o:Obj} {xs:List V} (e:H a=some (.frz o (.lst xs))):ak2 K H (.ref a) (.type "list")
 | tup {a:Addr} {xs:List V} (e:H a=some (.tup xs)):ak2 K H (.ref a) (.type "tuple")
 | dK {a:Addr} {kvs:List (Key × V)} (e:H a=some (.dK kvs)):ak2 K H (.ref a) (.type "dict")
 | dT {a:Addr} {kvs:List (List Key × V)} (e:H a=some (.dT kvs)):ak2 K H (.ref a) (.type "dict")
 | ins {a C dx:Addr} {fs:List (Str × V)} (e:H a=some (.ins C dx fs)) (cl:Cls K C) (ha:PySem.W.findIn K (.ref C) "__class__" = some (some (.builtin "object.__class__")))
   (hn:PySem.W.specialIn K (.builtin "object.__class__") "__get__" = some (some (.builtin "getset_descriptor.__get__"))) (htk:PySem.W.takesIn K (.builtin "object.__class__")=some true)
   (hm:PySem.W.mroIn K C (.type "object")=some true):ak2 K H (.ref a) (.ref C)
theorem aS1 {x:V} {u t:Value} (I:Inv X pins σ H s) (rx:B1 x u) (ty:ak2 X.K H x t) (e:PySem.W.kitOne X.K t c=some b) (h:∀ tk,Q (.bool b) { s with toks:=tk }) :
  wpAny (model X.prog X.w) A (call (.builtin "isinstance") [u,c]) Q E s:=by
 cases ty with
 | non=>cases (show u=Value.none from rx);exact PySem.W.kia_one PySem.W.kitx_none I.kIn True.intro e (fun z=>nomatch z) h
 | bl y=>cases (show u=Value.bool y from rx);exact PySem.W.kia_one PySem.W.kitx_bool I.kIn True.intro e (fun z=>nomatch z) h
 | int i=>obtain ⟨t,q⟩:=(show ∃ t,u=Value.int i t from rx);cases q;exact PySem.W.kia_one PySem.W.kitx_int I.kIn True.intro e (fun z=>nomatch z) h
 | str y=>obtain ⟨t,q⟩:=(show ∃ t,u=Value.str y t from rx);cases q;exact PySem.W.kia_one PySem.W.kitx_str I.kIn True.intro e (fun z=>nomatch z) h
 | flt y=>obtain ⟨t,q⟩:=(show ∃ t,u=Value.float y t from rx);cases q;exact PySem.W.kia_one PySem.W.kitx_float I.kIn True.intro e (fun z=>nomatch z) h
 | @lst a xs ea=>
  cases (show u=Value.ref a from rx)
  obtain ⟨_,_,n,_,h1⟩:=(show E4 X.prog X.w H s.heap a (.lst xs) from I.hok a _ ea)
  exact PySem.W.kia_one PySem.W.kitx_list I.kIn ⟨_,h1,rfl⟩ e (fun z=>nomatch z) h
 | @frz a ob xs ea=>
  cases (show u=Value.ref a from rx)
  obtain ⟨_,_,_,n,_,h1⟩:=(show E4 X.prog X.w H s.heap a (.frz ob (.lst xs)) from I.hok a _ ea)
  exact PySem.W.kia_one PySem.W.kitx_list I.kIn ⟨_,h1,rfl⟩ e (fun z=>nomatch z) h
 | @tup a xs ea=>
  cases (show u=Value.ref a from rx)
  obtain ⟨_,_,_,p⟩:=(show E4 X.prog X.w H s.heap a (.tup xs) from I.hok a _ ea)
  obtain ⟨o,h1,h2,_⟩:=p
  exact PySem.W.kia_one PySem.W.kitx_tuple I.kIn ⟨o,h1,h2⟩ e (fun z=>nomatch z) h
 | @dK a kvs ea=>
  cases (show u=Value.ref a from rx)
  obtain ⟨_,_,vs,_,p⟩:=(show E4 X.prog X.w H s.heap a (.dK kvs) from I.hok a _ ea)
  obtain ⟨o,es,ep,h1,h2,_⟩:=p
  exact PySem.W.kia_one PySem.W.kitx_dict I.kIn ⟨o,h1,h2.1⟩ e (fun z=>nomatch z) h
 | @dT a kvs ea=>
  cases (show u=Value.ref a from rx)
  obtain ⟨_,_,xs,_,o,es,ep,h1,h2,_⟩:=(show E4 X.prog X.w H s.heap a (.dT kvs) from I.hok a _ ea)
  exact PySem.W.kia_one PySem.W.kitx_dict I.kIn ⟨o,h1,h2.1⟩ e (fun z=>nomatch z) h
 | @ins a C dx fs ea cl ha hn htk hm=>
  cases (show u=Value.ref a from rx)
  obtain ⟨mA,O,_⟩:=bf5 I.hok ea
  obtain ⟨od,J,_⟩:=O.look
  exact PySem.W.kia_one (PySem.W.kitx_own (cl.get _) cl.hd ha hn htk hm) I.kIn J e (fun z=>nomatch z) h
end
structure V0 (k:Nat) (A:Around):Prop where
 hd:A.handled=none
 dp:A.depth+3 * k+5<recursionLimit
 un:A.units+16 * k+200<cLine
theorem V0.mono {j k:Nat} {A:Around} (r:V0 k A) (h:j≤k):V0 j A:=⟨r.hd,by have:=r.dp;omega,by have:=r.un;omega⟩
theorem V0.deeper {k:Nat} {A:Around} (r:V0 (k+1) A) (env:Env):V0 k (A.deeper env):=
 ⟨r.hd,by have:=r.dp;show A.depth+1+3 * k+5<_;omega,by have:=r.un;show A.units+3+16 * k+200<_;omega⟩
theorem V0.depth {k:Nat} {A:Around} (r:V0 k A):A.depth<recursionLimit:=by have:=r.dp;omega
theorem V0.units {k:Nat} {A:Around} (r:V0 k A):A.units+64<cLine:=by have:=r.un;omega
def V9:TA:=fun _ H Q=>Q [] H
def n9 (ta:TE) (tr:TA):TA:=fun σ H Q=>ta σ H fun x H1=>tr σ H1 fun xs H2=>Q (x :: xs) H2
section
variable {X:Cx} {e:Expr} {es:List Expr} {te:TE} {t:TA} {pos:Pos}
theorem b7:PA X [] V9:=fun _ _ _ _ H Q I h=>Calls.spliced_nil ⟨[],H,I,.nil,h⟩
theorem b6 (ha:PE X e te) (hr:PA X es t) (hs:starEach (e :: es) X.env=(false,eval e X.env) :: starEach es X.env:=by rfl):PA X (e :: es) (n9 te t):=by
 intro pos pins s σ H Q I h
 rw [hs]
 show wpAny _ _ (spliced ((false,eval e X.env) :: backTo pos (starEach es X.env))) _ _ s
 refine Calls.spliced_cons (thn (ha pins s σ H _ I h) fun u s1 ⟨x,H1,I1,r1,q1⟩=>?_)
 exact thn (hr pos pins s1 σ H1 _ I1 q1) fun us s2 ⟨xs,H2,I2,r2,q2⟩=>⟨x :: xs,H2,I2,.cons r1 r2,q2⟩
def ad8 (t:TA):TE:=fun σ H Q=>t σ H fun xs H1=>xs.length≤sizeLine∧∀ p,H1 p=none→Q (.ref p) (upd H1 p (.tup xs))
def aQ0 (t:TA):TE:=fun σ H Q=>t σ H fun xs H1=>xs.length≤sizeLine∧∀ p,H1 p=none→Q (.ref p) (upd H1 p (.lst xs))
theorem m6 {x1} (h:PA X es t):PE X (.Tuple es x1 pos) (ad8 t):=by
 intro pins s σ H Q I hq
 refine wpAny_Tuple_spliced (thn (h pos pins s σ H _ I hq) fun us s1 ⟨xs,H1,I1,r,z,q⟩=>⟨by rw [←r.length];exact z,?_⟩)
 have hf:H1 s1.heap.objs.size=none:=I1.hok.fresh (Nat.le_refl _)
 refine ⟨.ref s1.heap.objs.size,upd H1 s1.heap.objs.size (.tup xs),I1.laid (t':=s1.toks) (fun b u e=>Heap.get?_push_of_some _ e) (Nat.le_refl _) ?_,rfl,q _ hf⟩
 exact ⟨z,us,r,⟨_,Heap.get?_push_size _ rfl,rfl,_,rfl⟩⟩
theorem v9 (h:PA X es t):PE X (.List es pos) (aQ0 t):=by
 intro pins s σ H Q I hq
 refine wpAny_List_spliced (thn (h pos pins s σ H _ I hq) fun us s1 ⟨xs,H1,I1,r,z,q⟩=>⟨by rw [←r.length];exact z,?_⟩)
 have hf:H1 s1.heap.objs.size=none:=I1.hok.fresh (Nat.le_refl _)
 refine ⟨.ref s1.heap.objs.size,upd H1 s1.heap.objs.size (.lst xs),I1.laid (t':=s1.toks) (fun b u e=>Heap.get?_push_of_some _ e) (Nat.le_refl _) ?_,rfl,q _ hf⟩
 exact ⟨z,us,0,r,Heap.get?_push_size _ rfl⟩
end
abbrev Sp:=List V→Hp→VK→XK→Prop
abbrev CXT:=List Env→Hp→Shared→XK→Value→Shared→Prop
structure aT9 (P:Program) (w:World) (K:PySem.W.Frag) (mg:Str→Option Value) (base:Heap) (A:Around) (outer:List Env) (s:Shared) (H:Hp):Prop where
 frames:A.frames=some outer
 mod:Mod K mg base
 bs:∀ b o,base.get? b=some o→s.heap.get? b=some o∧H b=none
 bsz:base.objs.size≤s.heap.objs.size
 funs:s.heap.FunFrames base outer
 frf:∀ b∈frs outer,H b=none
 hok:HOk P w H s.heap
 bare:AllBare s.gens
def CE (outer:List Env) (P:Program) (w:World) (H:Hp) (s:Shared) (Q:VK) (u:Value) (s':Shared):Prop:=
 ∃ v H',s'.os=s.os∧AllBare s'.gens∧Un (frs outer) [] H H' s.heap s'.heap∧HOk P w H' s'.heap∧B1 v u∧Q v H'
def CR (CX:CXT) (outer:List Env) (P:Program) (w:World) (H:Hp) (s:Shared) (Q:VK) (E:XK) (r:Result) (s':Shared):Prop:=
 match r with
 | .ok (.ret u)=>CE outer P w H s Q u s'
 | .ok _=>False
 | .error e=>CX outer H s E e s'
structure ab1 (P:Program) (w:World) (K:PySem.W.Frag) (mg:Str→Option Value) (base:Heap) (CX:CXT) (k:Nat) (f:Addr) (fd:FuncData) (ps:List Str) (sp:Sp):Prop where
 len:∀ vs H Q E,sp vs H Q E→vs.length=ps.length
 run:∀ (A:Around) (outer:List Env) (s:Shared) (H:Hp) (args:Args) (us:List Value) (vs:List V) (Q:VK) (E:XK),V0 k A→aT9 P w K mg base A outer s H→BindsTo s fd args (ps.zip us)→p7 vs us→sp vs H Q E →
  codeAny (model P w) A (.call (.ref f) args) (CR CX outer P w H s Q E) s
theorem ab1.mono {P:Program} {w:World} {K:PySem.W.Frag} {mg:Str→Option Value} {base:Heap} {CX:CXT} {j k:Nat} {f:Addr} {fd:FuncData} {ps:List Str} {sp:Sp} (F:ab1 P w K mg base CX j f fd ps sp) (h:j≤k) :
  ab1 P w K mg base CX k f fd ps sp:=⟨F.len,fun A outer s H args us vs Q E hr=>F.run A outer s H args us vs Q E (hr.mono h)⟩
theorem ab1.imp {P:Program} {w:World} {K:PySem.W.Frag} {mg:Str→Option Value} {base:Heap} {CX:CXT} {k:Nat} {f:Addr} {fd:FuncData} {ps:List Str} {sp sp':Sp} (F:ab1 P w K mg base CX k f fd ps sp)
  (h:∀ vs H Q E,sp' vs H Q E→sp vs H Q E):ab1 P w K mg base CX k f fd ps sp':=
 ⟨fun vs H Q E q=>F.len vs H Q E (h _ _ _ _ q),fun A outer s H args us vs Q E hr he hb hv hs=>F.run A outer s H args us vs Q E hr he hb hv (h _ _ _ _ hs)⟩
section
variable {X:Cx} {pins:List (Addr × Obj)} {σ:St} {H:Hp} {s s':Shared}
theorem Inv.env0 (I:Inv X pins σ H s):aT9 X.prog X.w X.K X.mg X.base X.A X.stack s H:=
 ⟨I.ok.frames,I.ok.mod,I.bs,Nat.le_trans I.ok.bsz I.sz,I.stack,I.stkFree,I.hok,I.bare⟩
theorem Inv.after {Q:VK} {u:Value} (I:Inv X pins σ H s) (h:CE X.stack X.prog X.w H s Q u s'):EP X pins σ Q u s':=by
 obtain ⟨v,H',os,bare,un,hok,r,q⟩:=h
 obtain ⟨hh,g,d,t,os'⟩:=s'
 obtain rfl:os'=s.os:=os
 exact ⟨v,H',I.call (h':=hh) (g':=g) (d':=d) (t':=t) (ch:=[]) un hok bare (fun b z=>absurd z (by simp)),r,q⟩
end
def bg9 (sp:Sp) (dvs:List V) (E:XK) (t:TA):TE:=fun σ H Q=>t σ H fun vs H1=>sp (vs++dvs) H1 Q E
def ab3 (K:PySem.W.Frag) (fd:FuncData) (ps:List Str) (ds:List Value):Prop:=
 ∀ (s:Shared) (us:List Value),K.In s.heap→(us++ds).length=ps.length→BindsTo s fd ⟨us,[]⟩ (ps.zip (us++ds))
theorem ab3.all {K:PySem.W.Frag} {fd:FuncData} {ps:List Str} (h:∀ us:List Value,us.length=ps.length→bindArgs fd ⟨us,[]⟩=pure (ps.zip us)):ab3 K fd ps []:=fun s us _ hl=>by
 rw [List.append_nil] at hl ⊢
 exact .of_eq (h us hl)
def ak3 (CX:CXT) (X:Cx) (E:XK):Prop:=∀ (pins:List (Addr × Obj)) (σ:St) (H:Hp) (s:Shared) (e:Value) (s':Shared),Inv X pins σ H s→CX X.stack H s E e s'→X.xe e s'
section
variable {X:Cx} {CX:CXT} {k:Nat} {f C:Addr} {fd:FuncData} {ps:List Str} {sp:Sp} {dvs:List V} {ds:List Value} {E:XK} {x m:Str} {p pos apos:Pos} {e o:Expr} {es:List Expr} {ta:TE} {t:TA}
theorem bj2 {pins:List (Addr × Obj)} {σ:St} {H:Hp} {s:Shared} {Q:VK} {us:List Value} {vs:List V} (F:ab1 X.prog X.w X.K X.mg X.base CX k f fd ps sp) (hr:V0 k X.A) (hb:ab3 X.K fd ps ds) (hd:p7 dvs ds) (hx:ak3 CX X E)
  (I:Inv X pins σ H s) (r:p7 vs us) (h:sp (vs++dvs) H Q E):wpAny (model X.prog X.w) X.A (call (.ref f) us) (EP X pins σ Q) X.xe s:=by
 have r2:p7 (vs++dvs) (us++ds):=r.append hd
 have hl:(us++ds).length=ps.length:=by rw [←r2.length];exact F.len _ _ _ _ h
 refine wpAny_call (codeAny_mono (F.run X.A X.stack s H ⟨us,[]⟩ (us++ds) (vs++dvs) Q E hr I.env0 (hb s us I.kIn hl) r2 h) fun r s' hq=>?_)
 cases r with
 | error e=>exact hx pins σ H s e s' I hq
 | ok fl=>
  cases fl with
  | ret u=>exact I.after hq
  | next=>exact False.elim hq
  | brk=>exact False.elim hq
  | cont=>exact False.elim hq
theorem be1 (F:ab1 X.prog X.w X.K X.mg X.base CX k f fd ps sp) (hr:V0 k X.A) (hg:Gl X x) (hm:X.mg x=some (.ref f)) (hk:PySem.W.keepIn X.K (.ref f)=true) (hb:ab3 X.K fd ps ds) (hd:p7 dvs ds) (hx:ak3 CX X E)
  (ha:PA X (e :: es) t) (hdb:(x == ("__debug__" : Str))=false:=by decide) (he:starEach (e :: es) X.env=(false,eval e X.env) :: starEach es X.env:=by rfl) (hpl:(backTo pos (starEach es X.env)).any (·.1)=false:=by rfl) :
  PE X (.Call (.Name x p) (e :: es) [] pos) (bg9 sp dvs E t):=by
 intro pins s σ H Q I h
 refine wpAny_Call_Name_kw (ah1 I hg hm ?_ hdb)
 refine PySem.W.callWith_K (h₀:=X.base) I.ok.mod.kin hk (thn (ha pos pins s σ H _ I h) fun us s1 ⟨vs,H1,I1,r,q⟩=>⟨I1.kIn,?_⟩) he hpl
 exact bj2 F hr hb hd hx I1 r q
structure Mk (K:PySem.W.Frag) (C f:Addr):Prop where
 makes:PySem.W.makesIn K C=true
 init:PySem.W.findIn K (.ref C) "__init__" = some (some (.ref f))
 fn:PySem.W.isFn K (.ref f)=true
 kp:PySem.W.keepIn K (.ref C)=true
end
section
variable {X:Cx} {CX:CXT} {k:Nat} {f C:Addr} {fd:FuncData} {ps ks:List Str} {sp:Sp} {E:XK} {x m:Str} {p pos apos kpos:Pos} {e o:Expr} {es:List Expr} {kws:List Keyword} {te ta:TE} {t tk:TA} {nm:Option Str}
structure KBinds (K:PySem.W.Frag) (fd:FuncData) (ps ks:List Str) (g:List Value→List Value→List Value) (gV:List V→List V→List V):Prop where
 to:∀ (s:Shared) (us ws:List Value),K.In s.heap→(g us ws).length=ps.length→BindsTo s fd ⟨us,ks.zip ws⟩ (ps.zip (g us ws))
 rel:∀ {vs:List V} {us:List Value} {zs:List V} {ws:List Value},p7 vs us→p7 zs ws→p7 (gV vs zs) (g us ws)
variable {g:List Value→List Value→List Value} {gV:List V→List V→List V}
end
structure i9 (N P:List Str) (sc:Scope):Prop where
 kind:sc.kind = .function
 co:sc.isCoroutine=false
 gen:sc.isGenerator=false
 nd:N.Nodup
 pre:N.take P.length=P
 par:∀ x∈P,sc.names.lookup x=some .local∨sc.names.lookup x=some .cell
 nofree:∀ y∈sc.names,y.2≠.free
theorem ay2 {kindOf:Str→Option NameKind} {x:Str}:∀ {binds:List (Str × Value)} {m:Str→Option Value},(∀ v,(x,v) ∉ binds)→bindL kindOf binds m x=m x
 | [],_,_=>rfl
 | (n,v) :: r,m,h=>by
  unfold bindL
  rw [ay2 fun w hw=>h w (List.mem_cons_of_mem _ hw)]
  split
  ·have:x≠n:=by rintro rfl;exact h v List.mem_cons_self
   simp [this]
  ·rfl
theorem ay4 {kindOf:Str→Option NameKind} {x:Str}:∀ {binds:List (Str × Value)} {m:Str→Option Value},(∀ v,(x,v) ∉ binds)→bindC kindOf binds m x=m x
 | [],_,_=>rfl
 | (n,v) :: r,m,h=>by
  unfold bindC
  rw [ay4 fun w hw=>h w (List.mem_cons_of_mem _ hw)]
  split
  ·rfl
  ·have:x≠n:=by rintro rfl;exact h v List.mem_cons_self
   simp [this]
theorem ay3 {kindOf:Str→Option NameKind} {x:Str} {v:Value}:∀ {P:List Str} {vs:List Value} {i:Nat} {m:Str→Option Value},P.Nodup→P[i]? = some x→vs[i]? = some v→kindOf x=some .local →
  bindL kindOf (P.zip vs) m x=some v
 | [],_,_,_,_,h,_,_=>by simp at h
 | _ :: _,[],_,_,_,_,h,_=>by simp at h
 | p :: P,w :: vs,0,m,nd,h1,h2,hk=>by
  simp at h1 h2;subst h1;subst h2
  show bindL kindOf ((p,w) :: P.zip vs) m p=_
  unfold bindL
  rw [ay2 fun v hv=>(List.nodup_cons.mp nd).1 (List.of_mem_zip hv).1,if_pos hk]
  simp
 | p :: P,w :: vs,i+1,m,nd,h1,h2,hk=>by
  show bindL kindOf ((p,w) :: P.zip vs) m x=_
  unfold bindL
  exact ay3 (i:=i) (List.nodup_cons.mp nd).2 (by simpa using h1) (by simpa using h2) hk
theorem ay5 {kindOf:Str→Option NameKind} {x:Str} {v:Value}:∀ {P:List Str} {vs:List Value} {i:Nat} {m:Str→Option Value},P.Nodup→P[i]? = some x→vs[i]? = some v→kindOf x≠some .local →
  bindC kindOf (P.zip vs) m x=some v
 | [],_,_,_,_,h,_,_=>by simp at h
 | _ :: _,[],_,_,_,_,h,_=>by simp at h
 | p :: P,w :: vs,0,m,nd,h1,h2,hk=>by
  simp at h1 h2;subst h1;subst h2
  show bindC kindOf ((p,w) :: P.zip vs) m p=_
  unfold bindC
  rw [ay4 fun v hv=>(List.nodup_cons.mp nd).1 (List.of_mem_zip hv).1,if_neg hk]
  simp
 | p :: P,w :: vs,i+1,m,nd,h1,h2,hk=>by
  show bindC kindOf ((p,w) :: P.zip vs) m x=_
  unfold bindC
  exact ay5 (i:=i) (List.nodup_cons.mp nd).2 (by simpa using h1) (by simpa using h2) hk
def start (N:List Str) (vs:List V):St:=vs.map some++List.replicate (N.length - vs.length) none
def am7 (CX:CXT) (P:Program) (w:World) (K:PySem.W.Frag) (mg:Str→Option Value) (base:Heap) (N:List Str) (qual:Str) (scope:Scope) (f:Addr) (cd:Value) (A:Around) (outer:List Env) (s:Shared) (H:Hp) (E:XK):Cx where
 prog:=P
 w:=w
 K:=K
 mg:=mg
 base:=base
 A:=A.deeper (envOfC qual scope s.heap.objs.size f cd)
 N:=N
 s₀:=s
 H₀:=H
 env:=envOfC qual scope s.heap.objs.size f cd
 outer:=outer
 stack:=envOfC qual scope s.heap.objs.size f cd :: outer
 ex:=[]
 calm:=true
 fn:=fun _=>true
 pn:=[]
 xe:=fun e s'=>wpAny (model P w) (A.deeper (envOfC qual scope s.heap.objs.size f cd)) (leaving (envOfC qual scope s.heap.objs.size f cd) e) (fun _ s''=>CX outer H s E e s'') (fun e' s''=>CX outer H s E e' s'') s'
theorem aI3 {sc:Scope} {n:Nat} {x:Str} (h:sc.names.lookup x=some .cell):∃ c,(cellsFrom n sc.names []).lookup x=some c:=by
 have q:=PySem.W.cellsFrom_some sc.names n [] (.inl h)
 exact Option.isSome_iff_exists.mp q
theorem ax3 {CX:CXT} {P:Program} {w:World} {K:PySem.W.Frag} {mg:Str→Option Value} {base:Heap} {N ps:List Str} {qual:Str} {scope:Scope} {f:Addr} {cd:Value} {A:Around} {outer:List Env} {s s1:Shared} {H:Hp} {E:XK} {us:List Value} {vs:List V}
  (S:i9 N ps scope) (hd:A.handled=none) (e0:aT9 P w K mg base A outer s H) (hl:vs.length=ps.length) (r:p7 vs us)
  (x:InCallC s s.heap.objs.size (bindL (envOfC qual scope s.heap.objs.size f cd).kindOf (ps.zip us) fun _=>none) (cellsFrom (s.heap.objs.size+1) scope.names []) (bindC (envOfC qual scope s.heap.objs.size f cd).kindOf (ps.zip us) fun _=>none) s1) :
  Inv (am7 CX P w K mg base N qual scope f cd A outer s H E) [] (start N vs) H s1:=by
 have hpl:ps.length≤N.length:=by have:=congrArg List.length S.pre;rw [List.length_take] at this;omega
 obtain ⟨h1,tk,rfl,hk⟩:=x.done
 have noA:∀ b:Addr,b ∉ (am7 CX P w K mg base N qual scope f cd A outer s H E).ex:=fun b z=>absurd (show b∈([]:List Addr) from z) (by simp)
 refine ⟨⟨e0.mod,S.kind,rfl,rfl,Nat.le_refl _,fun y z c h1 h2=>?_,fun y hy=>?_,fun y c _ h=>?_,fun _=>hd,Around.frames_deeper e0.frames,.inr ⟨rfl,rfl⟩,fun b z=>absurd z (noA b),e0.bs,e0.bsz,fun b _ _=>noA b,fun b z=>absurd z (noA b),e0.funs,e0.frf⟩,
  rfl,e0.bare,Un.kept hk,⟨_,x.toInCall.ns,fun i y v h1 h2 h3=>?_⟩,fun y c h=>⟨_,x.cell y c h⟩,e0.hok.fresh (Nat.le_refl _),fun y c h=>?_,fun p hp=>absurd (show p∈([]:List (Addr × Obj)) from hp) (by simp),e0.hok.kept hk,?_⟩
 ·exact name_of_addr x.apart (PySem.mem_of_lookup h1) (PySem.mem_of_lookup h2)
 ·have hy:scope.names.lookup y=some .cell∨scope.names.lookup y=some .free:=hy
  rcases hy with hy | hy
  ·exact aI3 hy
  ·exact absurd rfl (S.nofree _ (PySem.mem_of_lookup hy))
 ·exact Nat.le_of_lt (x.above y c (PySem.mem_of_lookup h))
 ·have hi:i<vs.length:=by
   unfold start at h2
   by_cases hi:i<vs.length
   ·exact hi
   ·rw [List.getElem?_append_right (by simpa using hi)] at h2
    rw [List.getElem?_replicate] at h2
    split at h2 <;> cases h2
  have ha:vs[i]? = some v:=by
   unfold start at h2
   rw [List.getElem?_append_left (by simpa using hi),List.getElem?_map] at h2
   cases e:vs[i]? with
   | none=>rw [e] at h2;cases h2
   | some a=>rw [e] at h2;cases h2;rfl
  obtain ⟨u,hu,rv⟩:=r.get ha
  have hp:ps[i]? = some y:=by
   rw [←S.pre,List.getElem?_take_of_lt (by omega)];exact h1
  have ndP:ps.Nodup:=by rw [←S.pre];exact S.nd.sublist (List.take_sublist _ _)
  refine ⟨u,rv,?_⟩
  rcases S.par y (List.mem_of_getElem? hp) with k | k
  ·exact .inl ⟨k,ay3 ndP hp hu k⟩
  ·obtain ⟨c,e⟩:=aI3 (n:=s.heap.objs.size+1) k
   refine .inr ⟨.inl k,c,e,?_⟩
   have q:=x.cell y c e
   rw [ay5 ndP hp hu (by show scope.names.lookup y≠_;rw [k];decide)] at q
   exact q
 ·exact e0.hok.fresh (Nat.le_of_lt (x.above y c (PySem.mem_of_lookup h)))
 ·unfold start
  show _=N.length
  rw [List.length_append,List.length_map,List.length_replicate]
  omega
theorem bi2 {CX:CXT} {P:Program} {w:World} {K:PySem.W.Frag} {mg:Str→Option Value} {base:Heap} {k:Nat} {f:Addr} {name qual:Str} {params:Arguments} {body:List Stmt} {scope:Scope} {dV kV doc pm cdv ct oc:Value} {an od:Option Addr}
  {osl:Array (Option Value)} {N ps:List Str} {sp:Sp} (lk:K.lookup f=some ⟨oc,od,.func (PySem.W.fnOf name qual params body scope dV kV doc pm an cdv ct),osl⟩) (hcd:PySem.W.codeIn K cdv qual=true) (S:i9 N ps scope)
  (len:∀ vs H Q E,sp vs H Q E→vs.length=ps.length)
  (hbody:∀ (A:Around) (outer:List Env) (s:Shared) (H:Hp) (vs:List V) (Q:VK) (E:XK),V0 k (A.deeper (envOfC qual scope s.heap.objs.size f cdv))→sp vs H Q E →
   ∃ t,PSs (am7 CX P w K mg base N qual scope f cdv A outer s H E) body t∧t { nx:=fun _ H'=>Q .non H',rt:=Q } (start N vs) H) :
  ab1 P w K mg base CX (k+1) f (PySem.W.fnOf name qual params body scope dV kV doc pm an cdv ct) ps sp:=by
 refine ⟨len,fun A outer s H args us vs Q E hr e0 hb r hsp=>?_⟩
 have hl:=len _ _ _ _ hsp
 have KX:K.In s.heap:=e0.mod.kin.keeps fun b o e=>(e0.bs b o e).1
 have lim:s.heap.NoLimit:=e0.mod.nolimit.keeps fun b o e=>(e0.bs b o e).1
 have hkind:∀ y∈ps.zip us,scope.names.lookup y.1=some .local∨(scope.names.lookup y.1=some .cell∧((cellsFrom (s.heap.objs.size+1) scope.names []).lookup y.1).isSome=true):=fun ⟨n,v⟩ hy=>by
  rcases S.par n (List.of_mem_zip hy).1 with q | q
  ·exact .inl q
  ·exact .inr ⟨q,PySem.W.cellsFrom_some _ _ _ (.inl q)⟩
 refine codeAny_call_function hr.depth (KX _ _ lk) rfl S.co S.gen rfl (PySem.W.codeRec_of KX hcd) (hb _ _ _ _ ?_)
 refine wpAny_newFunctionEnv_cells S.kind hkind fun env he s1 x=>?_
 subst he
 refine ⟨lim.keeps x.toInCall.keep,codeAny_func ?_⟩
 obtain ⟨t,ht,hq⟩:=hbody A outer s H vs Q E (hr.deeper _) hsp
 have I:Inv (am7 CX P w K mg base N qual scope f cdv A outer s H E) [] (start N vs) H s1:=ax3 S hr.hd e0 hl r x
 refine wpAny_mono (ht [] s1 (start N vs) H _ I hq) (fun fl s' hs=>?_) fun e s' hs=>hs
 have fin:∀ {σ':St} {H':Hp} {v:V} {u:Value},Inv (am7 CX P w K mg base N qual scope f cdv A outer s H E) [] σ' H' s'→B1 v u→Q v H'→CE outer P w H s Q u s':=
  fun {σ' H' v u} J rv q=>⟨v,H',J.os,J.bare,J.base,J.hok,rv,q⟩
 cases fl with
 | ret u=>
  obtain ⟨v,σ',H',J,rv,q⟩:=hs
  exact fin J rv q
 | next=>
  obtain ⟨σ',H',J,q⟩:=hs
  exact fin (v:=V.non) (u:=Value.none) J rfl q
 | brk=>
  obtain ⟨_,_,_,q⟩:=hs
  exact False.elim q
 | cont=>
  obtain ⟨_,_,_,q⟩:=hs
  exact False.elim q
section
variable {X:Cx} {x:Str} {p pos:Pos} {e:Expr} {es:List Expr} {t:TA} {id T:String} {r:List V→Hp→VK→Prop}
def tCB (r:List V→Hp→VK→Prop) (t:TA):TE:=fun σ H Q=>t σ H fun vs H1=>r vs H1 Q
theorem d8 (hc:X6 X (.builtin id) r) (hg:Gl X x) (hm:X.mg x=none) (hv:bootBuiltins x=some (.builtin id)) (ha:PA X (e :: es) t) (hn:x≠"__name__":=by decide) (hdb:(x == ("__debug__" : Str))=false:=by decide)
  (he:starEach (e :: es) X.env=(false,eval e X.env) :: starEach es X.env:=by rfl) (hpl:(backTo pos (starEach es X.env)).any (·.1)=false:=by rfl):PE X (.Call (.Name x p) (e :: es) [] pos) (tCB r t):=by
 intro pins s σ H Q I h
 refine wpAny_Call_Name_kw (af2 I hg hm hv ?_ hn hdb)
 exact PyProof.Rows.callWith_builtin1 (thn (ha pos pins s σ H _ I h) fun us s1 ⟨vs,H1,I1,r1,q1⟩=>hc pins s1 σ H1 vs us Q I1 r1 q1) he hpl
theorem N1 (hc:X6 X (.type T) r) (hg:Gl X x) (hm:X.mg x=none) (hv:bootBuiltins x=some (.type T)) (ha:PA X (e :: es) t) (hn:x≠"__name__":=by decide) (hdb:(x == ("__debug__" : Str))=false:=by decide)
  (he:starEach (e :: es) X.env=(false,eval e X.env) :: starEach es X.env:=by rfl) (hpl:(backTo pos (starEach es X.env)).any (·.1)=false:=by rfl):PE X (.Call (.Name x p) (e :: es) [] pos) (tCB r t):=by
 intro pins s σ H Q I h
 refine wpAny_Call_Name_kw (af2 I hg hm hv ?_ hn hdb)
 exact PyProof.Rows.callWith_type1 (thn (ha pos pins s σ H _ I h) fun us s1 ⟨vs,H1,I1,r1,q1⟩=>hc pins s1 σ H1 vs us Q I1 r1 q1) he hpl
end
end L2
namespace HT
open PySem PyProof.Rows
section
open PySem.SeqAt
open PySem.AutoSeq1 (wpAny_loadPart')
open PySem.MeetsSeq PySem.MeetsSeq2 PySem.MeetsSeq3
end
section
variable {prog:Program} {w:World} {A:Around} {E:Value→Shared→Prop} {s:Shared}
def sIx (n d:Nat):Option Int→Nat
 | none=>d
 | some v=>if v<0 then (v+(n:Int)).toNat else min v.toNat n
end
end HT
namespace L2
open PySem PySem.Spec PyProof.Rows
abbrev TO:=St→Hp→(Option Int→Hp→Prop)→Prop
def PO (X:Cx) (e:Option Expr) (t:TO):Prop:=
 ∀ (pins:List (Addr × Obj)) (s:Shared) (σ:St) (H:Hp) (Q:Option Int→Hp→Prop),Inv X pins σ H s→t σ H Q →
  wpAny (model X.prog X.w) X.A (evalPart e X.env) (fun u s'=>∃ o H',Inv X pins σ H' s'∧IsPart u o∧Q o H') X.xe s
def az4:TO:=fun _ H Q=>Q none H
def aU8 (t:TE):TO:=fun σ H Q=>t σ H fun x H1=>∃ i,x = .int i∧Q (some i) H1
section
variable {X:Cx} {e:Expr} {te:TE} {lo hi:Option Expr} {tl th:TO} {pos p2:Pos}
theorem K6:PO X none az4:=by
 intro pins s σ H Q I h
 rw [evalPart_none]
 exact wpAny_pure ⟨none,H,I,.none,h⟩
theorem K5 (h:PE X e te):PO X (some e) (aU8 te):=by
 intro pins s σ H Q I hw
 rw [evalPart_some]
 refine thn (h pins s σ H _ I hw) fun u s1 ⟨x,H1,I1,r1,q1⟩=>?_
 obtain ⟨i,rfl,q⟩:=q1
 obtain ⟨t,rfl⟩:=r1
 exact ⟨some i,H1,I1,.int i t,q⟩
def SlR (X:Cx) (r:V→Option Int→Option Int→Hp→VK→Prop):Prop:=
 ∀ (pins:List (Addr × Obj)) (s:Shared) (σ:St) (H:Hp) (x:V) (v vl vu:Value) (lo hi:Option Int) (sl:Addr) (Q:VK),Inv X pins σ H s→B1 x v→s.heap.IsSliceOf sl vl vu .none→IsPart vl lo→IsPart vu hi→r x lo hi H Q →
  ∃ T id,typeLookup (.type T) "__getitem__" = pure (some (.builtin id))∧s.TypeIs v T∧wpAny (model X.prog X.w) X.A (getItem v (.ref sl)) (EP X pins σ Q) X.xe s
def tSl (r:V→Option Int→Option Int→Hp→VK→Prop) (te:TE) (tl th:TO):TE:=fun σ H Q=>te σ H fun x H1=>tl σ H1 fun l H2=>th σ H2 fun u H3=>r x l u H3 Q
theorem L4 {r:V→Option Int→Option Int→Hp→VK→Prop} (hr:SlR X r) (he:PE X e te) (hl:PO X lo tl) (hu:PO X hi th):PE X (.Subscript e (.Slice lo hi none p2) pos) (tSl r te tl th):=by
 intro pins s σ H Q I h
 refine Subscript_ (thn (he pins s σ H _ I h) fun v s1 ⟨x,H1,I1,r1,q1⟩=>?_)
 refine wpAny_Slice (thn (hl pins s1 σ H1 _ I1 q1) fun vl s2 ⟨l,H2,I2,pl,q2⟩=>thn (hu pins s2 σ H2 _ I2 q2) fun vu s3 ⟨u,H3,I3,pu,q3⟩=>?_)
 rw [evalPart_none]
 refine wpAny_pure ?_
 have I4:Inv X pins σ H3 { s3 with heap:=s3.heap.push { cls:=.type "slice",data:=.fields #[vl,vu,.none] } }:=I3.kept (t':=s3.toks) fun b ob q=>Heap.get?_push_of_some _ q
 obtain ⟨T,id,hT,ht,hg⟩:=hr pins { s3 with heap:=s3.heap.push { cls:=.type "slice",data:=.fields #[vl,vu,.none] } } σ H3 x v vl vu l u s3.heap.objs.size Q I4 r1 (Heap.IsSliceOf.new ..) pl pu q3
 show wpAny (model X.prog X.w) X.A (subscriptTail e (.Slice lo hi none p2) v (.ref s3.heap.objs.size)) (EP X pins σ Q) X.xe { s3 with heap:=s3.heap.push { cls:=.type "slice",data:=.fields #[vl,vu,.none] } }
 exact tail_any (ops:=[.ref s3.heap.objs.size,v]) ht hT hg (by with_unfolding_all rfl)
def af5 (xs:List V) (lo hi:Option Int):List V:=(xs.drop (HT.sIx xs.length 0 lo)).take (HT.sIx xs.length xs.length hi - HT.sIx xs.length 0 lo)
theorem al6 (xs:List V) (lo hi:Option Int):(af5 xs lo hi).length≤xs.length:=by
 unfold af5
 rw [List.length_take,List.length_drop]
 omega
end
def ixN (n:Nat) (i:Int):Option Nat:=if 0≤i then (if i<n then some i.toNat else none) else if -(n:Int)≤i then some (i+n).toNat else none
def atI {α:Type} (xs:List α) (i:Int):Option α:=(ixN xs.length i).bind fun j=>xs[j]?
theorem aO2 {n:Nat} {i:Int} {j:Nat} (h:ixN n i=some j):seqIndex? i n=some j∧j<n∧-(n:Int)≤i∧i<n:=by
 unfold ixN at h
 by_cases h0:0≤i
 ·rw [if_pos h0] at h
  by_cases h1:i<n
  ·rw [if_pos h1] at h
   have e:i.toNat=j:=Option.some.inj h
   exact ⟨by rw [seqIndex_of h0 h1,e],by omega,by omega,h1⟩
  ·rw [if_neg h1] at h;cases h
 ·rw [if_neg h0] at h
  by_cases h1 : -(n:Int)≤i
  ·rw [if_pos h1] at h
   have e:(i+n).toNat=j:=Option.some.inj h
   exact ⟨by rw [seqIndex_neg (by omega) h1,e],by omega,h1,by omega⟩
  ·rw [if_neg h1] at h;cases h
theorem aP5 {α:Type} {xs:List α} {i:Int} {v : α} (h:atI xs i=some v):∃ j,seqIndex? i xs.length=some j∧xs[j]? = some v∧j<xs.length∧-(xs.length:Int)≤i∧i<xs.length:=by
 unfold atI at h
 cases e:ixN xs.length i with
 | none=>rw [e] at h;cases h
 | some j=>
  rw [e] at h
  obtain ⟨h1,h2,h3,h4⟩:=aO2 e
  exact ⟨j,h1,h,h2,h3,h4⟩
theorem C9 {α:Type} {xs:List α} {j:Nat} {v : α} (h:xs[j]? = some v):atI xs (j:Int)=some v:=by
 have hj:j<xs.length:=(List.getElem?_eq_some_iff.mp h).1
 have e:ixN xs.length (j:Int)=some j:=by
  unfold ixN
  rw [if_pos (by omega),if_pos (by omega)];simp
 unfold atI;rw [e];exact h
theorem bb8 {α:Type} (xs:List α) (v : α):atI (xs++[v]) (-1)=some v:=by
 have hl:(xs++[v]).length=xs.length+1:=by simp
 have e:ixN (xs++[v]).length (-1)=some xs.length:=by
  unfold ixN
  rw [hl,if_neg (by decide),if_pos (by omega)]
  congr 1
  omega
 unfold atI
 rw [e]
 show (xs++[v])[xs.length]? = some v
 simp
def bg5 (b:Expr):Prop:=∀ o i,subscripted b false o i=operate [o,i] (getItem o i)
def IxR (X:Cx) (r:R2):Prop:=
 ∀ (value slice:Expr) (pins:List (Addr × Obj)) (s:Shared) (σ:St) (H:Hp) (x y:V) (v u:Value) (Q:VK),Inv X pins σ H s→B1 x v→B1 y u→r x y H Q →
  subscripted slice false v u=operate [v,u] (getItem v u)→wpAny (model X.prog X.w) X.A (subscriptTail value slice v u) (EP X pins σ Q) X.xe s
def MtR (X:Cx) (id:String) (r:V→List V→Hp→VK→Prop):Prop:=
 ∀ (pins:List (Addr × Obj)) (s:Shared) (σ:St) (H:Hp) (x:V) (xs:List V) (v:Value) (us:List Value) (Q:VK),Inv X pins σ H s→B1 x v→p7 xs us→r x xs H Q →
  wpAny (model X.prog X.w) X.A (call (.builtin id) (v :: us)) (EP X pins σ Q) X.xe s
section
variable {X:Cx} {a b:Expr} {ta tb:TE} {pos:Pos}
theorem i6 {r:R2} (hr:IxR X r) (ha:PE X a ta) (hb:PE X b tb) (hs:bg5 b):PE X (.Subscript a b pos) (tOp r ta tb):=by
 intro pins s σ H Q I h
 exact Subscript_ (bn6 ha hb I h fun v u s2 x y H2 I2 rx ry q=>hr a b pins s2 σ H2 x y v u Q I2 rx ry q (hs _ _))
def aW8 (K:PySem.W.Frag):R2:=fun x y H Q=>∃ p xs i v,x = .ref p∧y = .int i∧SqL K H p xs∧atI xs i=some v∧Q v H
def aJ5 (K:PySem.W.Frag):R2:=fun x y H Q=>∃ p xs i v,x = .ref p∧y = .int i∧SqT K H p xs∧atI xs i=some v∧Q v H
theorem t4:IxR X (aW8 X.K):=by
 intro value slice pins s σ H x y v u Q I rx ry h hs
 obtain ⟨p,xs,i,z,rfl,rfl,hq,he,q⟩:=h
 cases rx
 obtain ⟨t,rfl⟩:=ry
 obtain ⟨its,r,pl,hz⟩:=I.list hq
 obtain ⟨j,h1,h2,h3,h4,h5⟩:=aP5 he
 obtain ⟨w,ew,rw'⟩:=r.get h2
 have hl:=r.length
 have hn:=af1
 have fin:EP X pins σ Q w s:=⟨z,H,I,rw',q⟩
 by_cases h0:0≤i
 ·have hj:i.toNat=j:=by
   rw [seqIndex_of h0 h5] at h1
   exact Option.some.inj h1
  exact item_listR pl.isList h0 (by omega) (by rw [hj];simpa using ew) fin hs
 ·have hj:(i+(its.toArray.size:Int)).toNat=j:=by
   rw [seqIndex_neg (by omega) h4] at h1
   rw [List.size_toArray,←hl]
   exact Option.some.inj h1
  exact subscriptTail_builtinR (x:=w) pl.isList.typeIs slot_list_getitem.lookup
   (wpAny_getItem_list_neg (Q:=fun r s'=>r=w∧EP X pins σ Q r s') pl.isList (by omega) (by rw [List.size_toArray] <;> omega) (by omega) (by rw [hj];simpa using ew) ⟨rfl,fin⟩) hs
theorem j6:IxR X (aJ5 X.K):=by
 intro value slice pins s σ H x y v u Q I rx ry h hs
 obtain ⟨p,xs,i,z,rfl,rfl,hq,he,q⟩:=h
 cases rx
 obtain ⟨t,rfl⟩:=ry
 obtain ⟨its,r,pl,hz⟩:=I.tuple hq
 obtain ⟨j,h1,h2,h3,h4,h5⟩:=aP5 he
 obtain ⟨w,ew,rw'⟩:=r.get h2
 have hl:=r.length
 have hn:=af1
 have fin:EP X pins σ Q w s:=⟨z,H,I,rw',q⟩
 exact subscriptTail_builtinR (x:=w) pl.typeIs slot_tuple_getitem.lookup
  (getItem_tuple (j:=j) (Q:=fun r s'=>r=w∧EP X pins σ Q r s') pl (by omega) (by omega) (by rw [List.size_toArray,←hl];exact h1) (by simpa using ew) ⟨rfl,fin⟩) hs
theorem aL3 (its:List Value) (n j:Nat) (u:Value):Obj.mapSeq (·.setIfInBounds j u) { cls:=.type "list",data:=.seq its.toArray n }={ cls:=.type "list",data:=.seq (its.set j u).toArray n }:=by
 simp [Obj.mapSeq]
theorem Inv.lst {pins:List (Addr × Obj)} {σ:St} {H:Hp} {s:Shared} {p:Addr} {xs:List V} (I:Inv X pins σ H s) (h:H p=some (.lst xs)) :
  ∃ (its:List Value) (n:Nat),p7 xs its∧s.heap.get? p=some { cls:=.type "list",data:=.seq its.toArray n }∧xs.length≤sizeLine:=by
 obtain ⟨z,its,n,r,e⟩:=I.hok p _ h
 exact ⟨its,n,r,e,z⟩
theorem Inv.lstUpd {pins:List (Addr × Obj)} {σ:St} {H:Hp} {s:Shared} {p:Addr} {xs ys:List V} {its its':List Value} {n n':Nat} {f:Obj→Obj} (I:Inv X pins σ H s) (h:H p=some (.lst xs))
  (ho:s.heap.get? p=some { cls:=.type "list",data:=.seq its.toArray n }) (hf:f { cls:=.type "list",data:=.seq its.toArray n }={ cls:=.type "list",data:=.seq its'.toArray n' }) (r:p7 ys its') (hz:ys.length≤sizeLine) (t:Nat) :
  Inv X pins σ (upd H p (.lst ys)) { s with heap:=s.heap.update p f,toks:=t }:=by
 have e:(s.heap.update p f).get? p=some { cls:=.type "list",data:=.seq its'.toArray n' }:=by
  rw [Heap.get?_update_self f ho (by rw [hf] <;> rfl),hf]
 refine I.write (x:=p) (e:=p) (by rw [h];trivial) (.inl rfl) (fun b u hb q=>(Heap.get?_update_other _ _ (Ne.symm hb)).trans q) ⟨_,e⟩ ?_
 exact ⟨hz,its',n',r,e⟩
def aW7:V→V→V→Hp→(Hp→Prop)→Prop:=fun o i v H Q=>∃ p xs k j,o = .ref p∧i = .int k∧H p=some (.lst xs)∧ixN xs.length k=some j∧Q (upd H p (.lst (xs.set j v)))
theorem aq1:bq5 X aW7:=by
 intro pins s σ H o i v ov iv u Q I ro ri rv h
 obtain ⟨p,xs,k,j,rfl,rfl,hp,hj,q⟩:=h
 cases ro
 obtain ⟨t,rfl⟩:=ri
 obtain ⟨its,n,r,ho,hz⟩:=I.lst hp
 obtain ⟨h1,h2,h3,h4⟩:=aO2 hj
 have hl:=r.length
 have hn:=af1
 have I':Inv X pins σ (upd H p (.lst (xs.set j v))) { s with heap:=s.heap.update p (Obj.mapSeq (·.setIfInBounds j u)) }:=
  I.lstUpd hp ho (aL3 its n j u) (r.set rv j) (by rw [List.length_set];exact hz) s.toks
 by_cases h0:0≤k
 ·have hk:k.toNat=j:=by
   rw [seqIndex_of h0 h4] at h1
   exact Option.some.inj h1
  exact PySem.W.ki_setAt ho h0 (by omega) (by rw [List.size_toArray,←hl];exact h4) (by rw [hk];exact ⟨_,I',q⟩)
 ·have hk:(k+(its.toArray.size:Int)).toNat=j:=by
   rw [seqIndex_neg (by omega) h3] at h1
   rw [List.size_toArray,←hl]
   exact Option.some.inj h1
  exact PySem.W.ki_setBack ho (by omega) (by rw [List.size_toArray,←hl];exact h3) (by omega) (by rw [hk];exact ⟨_,I',q⟩)
theorem aA1 (lo hi:Option Int) (n:Nat):(sliceBounds lo hi none n).1=((HT.sIx n 0 lo:Nat):Int)∧(sliceBounds lo hi none n).2.1=((HT.sIx n n hi:Nat):Int)∧(sliceBounds lo hi none n).2.2=1:=by
 refine ⟨?_,?_,rfl⟩
 ·cases lo with
  | none=>simp [sliceBounds,HT.sIx]
  | some i=>
   simp only [sliceBounds,HT.sIx,Option.getD_none,show (1:Int) > 0 by decide,if_true]
   by_cases h:i<0
   ·simp only [h,if_true] <;> omega
   ·simp only [h,if_false] <;> omega
 ·cases hi with
  | none=>simp [sliceBounds,HT.sIx]
  | some i=>
   simp only [sliceBounds,HT.sIx,Option.getD_none,show (1:Int) > 0 by decide,if_true]
   by_cases h:i<0
   ·simp only [h,if_true] <;> omega
   ·simp only [h,if_false] <;> omega
theorem au2 (its:List Value) (lo hi:Option Int):slicePick its.toArray lo hi none=((its.drop (HT.sIx its.length 0 lo)).take (HT.sIx its.length its.length hi - HT.sIx its.length 0 lo)).toArray:=by
 obtain ⟨h1,h2,h3⟩:=aA1 lo hi its.toArray.size
 unfold slicePick
 rw [h1,h2,h3]
 simp only [sliceRange_one,pick_run,List.size_toArray] <;> rfl
def bj3 (K:PySem.W.Frag):V→Option Int→Option Int→Hp→VK→Prop:=fun x lo hi H Q=>∃ a xs,x = .ref a∧SqL K H a xs∧∀ p,H p=none→Q (.ref p) (upd H p (.lst (af5 xs lo hi)))
theorem P2:SlR X (bj3 X.K):=by
 intro pins s σ H x v vl vu lo hi sl Q I rx hs pl pu h
 obtain ⟨a,xs,rfl,hx,q⟩:=h
 cases rx
 obtain ⟨its,r,ht,hz⟩:=I.list hx
 have hlen:=r.length
 refine ⟨"list",_,slot_list_getitem.lookup,ht.isList.typeIs,?_⟩
 refine wpAny_getItem_list_slice ht.isList hs pl pu .none (by simp) ?_ (by rw [List.size_toArray] <;> omega)
 rw [au2,←hlen]
 refine ⟨.ref s.heap.objs.size,_,I.laid (t':=s.toks) (o:=.lst (af5 xs lo hi)) (fun b ob q=>Heap.get?_push_of_some _ q) (Nat.le_refl _) ?_,rfl,q _ (I.hok.fresh (Nat.le_refl _))⟩
 exact ⟨Nat.le_trans (al6 xs lo hi) hz,_,0,(r.drop (HT.sIx xs.length 0 lo)).take (HT.sIx xs.length xs.length hi - HT.sIx xs.length 0 lo),Heap.get?_push_size _ rfl⟩
def U9:V→Bool
 | .non=>true
 | .bl _=>true
 | .int _=>true
 | .str _=>true
 | _=>false
def eqV:V→V→Bool
 | .non,.non=>true
 | .bl a,.bl b=>a == b
 | .bl a,.int b=>(if a then 1 else 0) == b
 | .int a,.bl b=>a == (if b then 1 else 0)
 | .int a,.int b=>a == b
 | .str a,.str b=>a == b
 | _,_=>false
theorem ba6 {A:Around} {s:Shared} {y x:V} {u v:Value} (ry:B1 y u) (rx:B1 x v) (fy:U9 y=true) (fx:U9 x=true):SeqAt.EqAt A s u v (eqV y x):=by
 cases y with
 | non=>
  cases ry
  cases x with
  | non=>cases rx;exact SeqAt.EqAt.same _
  | bl b=>cases rx;exact SeqAt.EqAt.none_bool b
  | int b=>obtain ⟨t,rfl⟩:=rx;exact SeqAt.EqAt.none_int b t
  | str b=>obtain ⟨t,rfl⟩:=rx;exact SeqAt.EqAt.none_str b t
  | _=>exact absurd (show false=true from fx) Bool.false_ne_true
 | bl a=>
  cases ry
  cases x with
  | non=>cases rx;exact SeqAt.EqAt.bool_none a
  | bl b=>cases rx;exact SeqAt.EqAt.bool_bool a b
  | int b=>obtain ⟨t,rfl⟩:=rx;exact SeqAt.EqAt.bool_int a b t
  | str b=>obtain ⟨t,rfl⟩:=rx;exact SeqAt.EqAt.bool_str a b t
  | _=>exact absurd (show false=true from fx) Bool.false_ne_true
 | int a=>
  obtain ⟨t',rfl⟩:=ry
  cases x with
  | non=>cases rx;exact SeqAt.EqAt.int_none a t'
  | bl b=>cases rx;exact SeqAt.EqAt.int_bool a t' b
  | int b=>obtain ⟨t,rfl⟩:=rx;exact SeqAt.EqAt.int_int a t' b t
  | str b=>obtain ⟨t,rfl⟩:=rx;exact SeqAt.EqAt.int_str a t' b t
  | _=>exact absurd (show false=true from fx) Bool.false_ne_true
 | str a=>
  obtain ⟨t',rfl⟩:=ry
  cases x with
  | non=>cases rx;exact SeqAt.EqAt.str_none a t'
  | bl b=>cases rx;exact SeqAt.EqAt.str_bool a t' b
  | int b=>obtain ⟨t,rfl⟩:=rx;exact SeqAt.EqAt.str_int a t' b t
  | str b=>obtain ⟨t,rfl⟩:=rx;exact SeqAt.EqAt.str_str a t' b t
  | _=>exact absurd (show false=true from fx) Bool.false_ne_true
 | _=>exact absurd (show false=true from fy) Bool.false_ne_true
def eqU (x:V) (u:Value):Bool:=match u with
 | .none=>eqV .non x
 | .bool b=>eqV (.bl b) x
 | .int i _=>eqV (.int i) x
 | .str z _=>eqV (.str z) x
 | _=>false
theorem aL8 {x y:V} {u:Value} (r:B1 y u) (f:U9 y=true):eqU x u=eqV y x:=by
 cases y with
 | non=>cases r;rfl
 | bl b=>cases r;rfl
 | int i=>obtain ⟨t,rfl⟩:=r;rfl
 | str z=>obtain ⟨t,rfl⟩:=r;rfl
 | _=>exact absurd (show false=true from f) Bool.false_ne_true
theorem ar5 {A:Around} {s:Shared} {x:V} {v:Value} (rx:B1 x v) (fx:U9 x=true):∀ {xs:List V} {us:List Value},p7 xs us→xs.all U9=true→∀ u∈us,SeqAt.EqAt A s u v (eqU x u)
 | _,_,.nil,_=>fun u hu=>by cases hu
 | y :: xs,u :: us,.cons r t,f=>fun u' hu=>by
  rw [List.all_cons,Bool.and_eq_true] at f
  rcases List.mem_cons.mp hu with rfl | hu
  ·rw [aL8 r f.1];exact ba6 r rx f.1 fx
  ·exact ar5 rx fx t f.2 u' hu
theorem m5:X6 X (.builtin "len") (fun xs H Q=>∃ p ys,xs=[.ref p]∧(SqL X.K H p ys∨SqT X.K H p ys)∧Q (.int ys.length) H):=by
 intro pins s σ H xs us Q I r h
 obtain ⟨p,ys,rfl,hq,q⟩:=h
 obtain ⟨u,rfl,rx⟩:=ac5 r
 cases rx
 have hn:=af1
 rcases hq with hq | hq
 ·obtain ⟨its,r',pl,hz⟩:=I.list hq
  have hlen:=r'.length
  exact Calls.call_len_list pl.isList (by simp only [List.size_toArray] <;> omega) ⟨.int ys.length,H,I.tok _,⟨s.toks+1,by rw [List.size_toArray,hlen]⟩,q⟩
 ·obtain ⟨its,r',pl,hz⟩:=I.tuple hq
  have hlen:=r'.length
  exact len_tuple pl (by simp only [List.size_toArray] <;> omega) ⟨.int ys.length,H,I.tok _,⟨s.toks+1,by rw [List.size_toArray,hlen]⟩,q⟩
theorem Z3:X6 X (.type "list") (fun xs H Q=>∃ p ys,xs=[.ref p]∧(SqL X.K H p ys∨SqT X.K H p ys)∧∀ l,H l=none→Q (.ref l) (upd H l (.lst ys))):=by
 intro pins s σ H xs us Q I r h
 obtain ⟨p,ys,rfl,hq,q⟩:=h
 obtain ⟨u,rfl,rx⟩:=ac5 r
 cases rx
 have fin:∀ (its:List Value),p7 ys its→ys.length≤sizeLine→∀ (h':Heap) (c':Nat),(∀ b o',s.heap.get? b=some o'→h'.get? b=some o') →
   h'.get? s.heap.objs.size=some { cls:=.type "list",dict:=none,data:=.seq its.toArray c',slots:=#[] }→EP X pins σ Q (.ref s.heap.objs.size) { s with heap:=h' }:=fun its r' hz h' c' kp e=>
  ⟨.ref s.heap.objs.size,_,I.laid (t':=s.toks) kp (Nat.le_refl _) (show E4 X.prog X.w _ h' _ (.lst ys) from ⟨hz,its,c',r',e⟩),rfl,q _ (I.hok.fresh (Nat.le_refl _))⟩
 rcases hq with hq | hq
 ·obtain ⟨its,r',pl,hz⟩:=I.list hq
  have hlen:=r'.length
  obtain ⟨o,ho,hc,n,hd⟩:=pl.isList
  exact call_list_seq p (.inl rfl) ho hc hd (fun h' c' kp e=>fin its r' hz h' c' kp e) (by simp only [List.size_toArray] <;> omega)
 ·obtain ⟨its,r',pl,hz⟩:=I.tuple hq
  have hlen:=r'.length
  obtain ⟨o,ho,hc,n,hd⟩:=pl
  exact call_list_seq p (.inr rfl) ho hc hd (fun h' c' kp e=>fin its r' hz h' c' kp e) (by simp only [List.size_toArray] <;> omega)
theorem av8:X6 X (.type "tuple") (fun xs H Q=>∃ p ys,xs=[.ref p]∧((SqL X.K H p ys∧∀ l,H l=none→Q (.ref l) (upd H l (.tup ys)))∨(SqT X.K H p ys∧Q (.ref p) H))):=by
 intro pins s σ H xs us Q I r h
 obtain ⟨p,ys,rfl,h⟩:=h
 obtain ⟨u,rfl,rx⟩:=ac5 r
 cases rx
 rcases h with ⟨hq,q⟩ | ⟨hq,q⟩
 ·obtain ⟨its,r',pl,hz⟩:=I.list hq
  have hlen:=r'.length
  refine call_tuple_list pl.isList (fun h' kp=>?_) (by simp only [List.size_toArray] <;> omega)
  have I1:Inv X pins σ H { s with heap:=h' }:=I.kept (t':=s.toks) kp
  have I2:Inv X pins σ (upd H h'.objs.size (.tup ys)) { s with heap:=h'.push { cls:=.type "tuple",data:=.seq its.toArray } }:=
   I1.laid (t':=s.toks) (fun b o e=>Heap.get?_push_of_some _ e) (Nat.le_refl _) (show E4 X.prog X.w _ _ _ (.tup ys) from ⟨hz,its,r',IsTup.new _ _⟩)
  exact ⟨.ref h'.objs.size,_,I2,rfl,q _ (I1.hok.fresh (Nat.le_refl _))⟩
 ·obtain ⟨its,r',pl,hz⟩:=I.tuple hq
  exact call_tuple_same pl ⟨.ref p,H,I,rfl,q⟩
def tyV (K:PySem.W.Frag) (T:String) (x:V) (H:Hp):Prop:=match x with
 | .str _=>T = "str"
 | .int _=>T = "int"
 | .ref p=>(T = "list" ∧ ∃ xs,SqL K H p xs)∨(T = "tuple" ∧ ∃ o,K.lookup p=some o∧o.cls = .type "tuple" ∧ o.dict=none) ∨
   (T = "dict" ∧ ((∃ kvs,H p=some (.dK kvs))∨∃ kvs,H p=some (.dT kvs)))∨(T = "set" ∧ ∃ S n,H p=some (.set S n))
 | _=>False
theorem aU2 {pins:List (Addr × Obj)} {σ:St} {H:Hp} {s:Shared} {T:String} {x:V} {v:Value} (I:Inv X pins σ H s) (r:B1 x v) (ty:tyV X.K T x H) :
  s.TypeIs v T∧∀ a,v = .ref a→∃ ob,s.heap.get? a=some ob∧ob.dict=none:=by
 cases x with
 | str z=>
  obtain ⟨t,rfl⟩:=r
  cases (show T = "str" from ty)
  exact ⟨typeIs_str s z t,fun _ e=>nomatch e⟩
 | int i=>
  obtain ⟨t,rfl⟩:=r
  cases (show T = "int" from ty)
  exact ⟨typeIs_int s i t,fun _ e=>nomatch e⟩
 | ref p=>
  cases r
  rcases ty with ⟨rfl,xs,hq⟩ | ⟨rfl,o,hk,hc,hd⟩ | ⟨rfl,hk⟩ | ⟨rfl,S,n,hk⟩
  ·obtain ⟨its,_,pl,_⟩:=I.list hq
   refine ⟨pl.isList.typeIs,fun a e=>?_⟩
   cases e
   obtain ⟨o,n,e,c,hd,_⟩:=pl
   exact ⟨o,e,hd⟩
  ·refine ⟨⟨o,I.kIn p o hk,hc⟩,fun a e=>?_⟩
   cases e
   exact ⟨o,I.kIn _ o hk,hd⟩
  ·have z:∃ o,s.heap.get? p=some o∧o.ExactDict:=by
    rcases hk with ⟨kvs,hk⟩ | ⟨kvs,hk⟩
    ·obtain ⟨_,_,_,_,o,_,_,e,ex,_⟩:=I.hok p _ hk
     exact ⟨o,e,ex⟩
    ·obtain ⟨_,_,_,_,o,_,_,e,ex,_⟩:=I.hok p _ hk
     exact ⟨o,e,ex⟩
   obtain ⟨o,e,ex⟩:=z
   refine ⟨⟨o,e,ex.1⟩,fun a e2=>?_⟩
   cases e2
   exact ⟨o,e,ex.2.1⟩
  ·obtain ⟨o,_,_,_,e,ex,_⟩:=I.hok p _ hk
   refine ⟨⟨o,e,ex.1⟩,fun a e2=>?_⟩
   cases e2
   exact ⟨o,e,ex.2.1⟩
 | _=>exact False.elim ty
def bi9 (K:PySem.W.Frag) (T:String) (r:V→List V→Hp→VK→Prop) (to:TE):TE:=fun σ H Q=>to σ H fun x H1=>tyV K T x H1∧r x [] H1 Q
def tBM (K:PySem.W.Frag) (T:String) (r:V→List V→Hp→VK→Prop) (to:TE) (t:TA):TE:=fun σ H Q=>to σ H fun x H1=>tyV K T x H1∧t σ H1 fun xs H2=>r x xs H2 Q
variable {o e:Expr} {es:List Expr} {to:TE} {t:TA} {name:Str} {apos cpos:Pos} {T id:String} {r:V→List V→Hp→VK→Prop}
theorem aK2 (pa:PlainAttrs T) (slot:Slot T name id) (hty:typeOf (.builtin id)=pure (.type "method_descriptor")) (hm:MtR X id r) (ho:PE X o to)
  (hbase:attributeBase o name X.env (eval o X.env)=eval o X.env:=by rfl) (hline:(apos.endLine == cpos.line)=true:=by rfl):PE X (.Call (.Attribute o name apos) [] [] cpos) (bi9 X.K T r to):=by
 intro pins s σ H Q I h
 refine wpAny_Call_method0_late hbase hline (thn (ho pins s σ H _ I h) fun v s1 ⟨x,H1,I1,r1,ty,q1⟩=>?_)
 obtain ⟨h1,h2⟩:=aU2 I1 r1 ty
 exact ⟨T,id,pa,slot,hty,h1,h2,Calls.callWith_builtin rfl (PySem.evalArgs_none (hm pins s1 σ H1 x [] v [] Q I1 r1 .nil q1))⟩
theorem aG3 (pa:PlainAttrs T) (slot:Slot T name id) (hty:typeOf (.builtin id)=pure (.type "method_descriptor")) (hm:MtR X id r) (ho:PE X o to) (ha:PA X (e :: es) t)
  (hbase:attributeBase o name X.env (eval o X.env)=eval o X.env:=by rfl)
  (hfew:((backTo cpos (starEach (e :: es) X.env)).all (fun x=>!x.1) && (backToKw cpos (keywordEach [] X.env)).all (fun x=>x.1.isSome)
   && decide ((e :: es).length+([]:List Keyword).length+(if ([]:List Keyword).isEmpty then 0 else 1)<30))=true:=by rfl)
  (hline:(apos.endLine == cpos.line)=true:=by rfl) (hs:starEach (e :: es) X.env=(false,eval e X.env) :: starEach es X.env:=by rfl) (hplain:(backTo cpos (starEach es X.env)).any (·.1)=false:=by rfl) :
  PE X (.Call (.Attribute o name apos) (e :: es) [] cpos) (tBM X.K T r to t):=by
 intro pins s σ H Q I h
 refine wpAny_Call_method_late hbase hfew hline rfl (thn (ho pins s σ H _ I h) fun v s1 ⟨x,H1,I1,r1,ty,q1⟩=>?_)
 obtain ⟨h1,h2⟩:=aU2 I1 r1 ty
 refine ⟨T,id,pa,slot,hty,h1,h2,?_⟩
 have hA:=ha cpos pins s1 σ H1 _ I1 q1
 rw [hs] at hA ⊢
 refine Calls.callWith_builtin (by show (false || (backTo cpos (starEach es X.env)).any (·.1))=false;rw [hplain] <;> rfl) (Calls.evalArgs_plain ?_)
 exact thn hA fun us s2 ⟨vs,H2,I2,r2,q2⟩=>hm pins s2 σ H2 x vs v us Q I2 r1 r2 q2
/- xs.append(e),list.index on a module's tuple .. are MtR facts of 06m -/
end
def MtM (X:Cx) (id:String) (r:V→List V→Hp→VK→Prop):Prop:=
 ∀ (pins:List (Addr × Obj)) (s:Shared) (σ:St) (H:Hp) (x:V) (xs:List V) (v:Value) (us:List Value) (Q:VK),Inv X pins σ H s→B1 x v→p7 xs us→r x xs H Q →
  wpAny (model X.prog X.w) X.A (call (.builtin id) (v :: us)) (EP X pins σ Q) X.xe s
theorem p7.one:∀ {x:V} {us:List Value},p7 [x] us→∃ u,us=[u]∧B1 x u
 | _,_,.cons r .nil=>⟨_,rfl,r⟩
theorem p7.two:∀ {x y:V} {us:List Value},p7 [x,y] us→∃ u v,us=[u,v]∧B1 x u∧B1 y v
 | _,_,_,.cons r (.cons q .nil)=>⟨_,_,rfl,r,q⟩
theorem p7.zero:∀ {us:List Value},p7 [] us→us=[]
 | _,.nil=>rfl
theorem p7.dropLast {xs:List V} {us:List Value} (h:p7 xs us):p7 xs.dropLast us.dropLast:=by
 induction h with
 | nil=>exact .nil
 | cons r t ih=>
  cases t with
  | nil=>exact .nil
  | cons q t'=>exact .cons r ih
theorem p7.rep {xs:List V} {us:List Value} (h:p7 xs us):∀ k:Nat,p7 (List.replicate k xs).flatten (List.replicate k us).flatten
 | 0=>.nil
 | k+1=>by
  rw [List.replicate_succ,List.replicate_succ,List.flatten_cons,List.flatten_cons]
  exact p7.append h (p7.rep h k)
theorem aL7 {α:Type} (l:List α):l.eraseIdx (l.length - 1)=l.dropLast:=by
 induction l with
 | nil=>rfl
 | cons a r ih=>
  cases r with
  | nil=>rfl
  | cons b r=>
   have e:(a :: b :: r).length - 1=((b :: r).length - 1)+1:=by
    have h1:(a :: b :: r).length=r.length+2:=rfl
    have h2:(b :: r).length=r.length+1:=rfl
    omega
   rw [e,List.eraseIdx_cons_succ,ih]
   all_goals rfl
theorem ax6 (its:List Value):∀ (k:Nat) (acc:List Value),
  List.foldl (fun x1 x2=>x1++x2) acc.toArray (List.replicate k its.toArray)=(acc++(List.replicate k its).flatten).toArray
 | 0,acc=>by simp
 | k+1,acc=>by
  have e:acc.toArray++its.toArray=(acc++its).toArray:=by simp
  have e2:(acc++its)++(List.replicate k its).flatten=acc++(List.replicate (k+1) its).flatten:=by
   rw [List.replicate_succ,List.flatten_cons,List.append_assoc]
  rw [←e2,←ax6 its k (acc++its),←e,List.replicate_succ,List.foldl_cons]
section
variable {X:Cx} {pins:List (Addr × Obj)} {σ:St} {H:Hp} {s:Shared} {l b:Addr} {xs ys zs:List V}
theorem Inv.lset {its its':List Value} {n:Nat} {f:Array Value→Array Value} {t':Nat} (I:Inv X pins σ H s) (hH:H l=some (.lst xs))
  (e:s.heap.get? l=some { cls:=.type "list",data:=.seq its.toArray n }) (hf:f its.toArray=its'.toArray) (hv:p7 ys its') (hz:ys.length≤sizeLine) :
  Inv X pins σ (upd H l (.lst ys)) { s with heap:=s.heap.update l (Obj.mapSeq f),toks:=t' }:=by
 have q:=PySem.IsL.update e f
 rw [hf] at q
 refine I.write (x:=l) (e:=l) (by rw [hH];exact trivial) (.inl rfl) (fun b' u hb hu=>(Heap.get?_update_other s.heap (Obj.mapSeq f) (Ne.symm hb)).trans hu) ⟨_,q⟩ ?_
 exact ⟨hz,its',_,hv,q⟩
theorem Inv.lnew {its:List Value} {t':Nat} (I:Inv X pins σ H s) (hv:p7 ys its) (hz:ys.length≤sizeLine) :
  Inv X pins σ (upd H s.heap.objs.size (.lst ys)) { s with heap:=s.heap.push { cls:=.type "list",data:=.seq its.toArray },toks:=t' }:=
 I.laid (fun _ _ q=>Heap.get?_push_of_some _ q) (Nat.le_refl _) ⟨hz,its,0,hv,Heap.get?_push_size _ rfl⟩
theorem Inv.fresh (I:Inv X pins σ H s):H s.heap.objs.size=none:=I.hok.fresh (Nat.le_refl _)
theorem Inv.lstM (I:Inv X pins σ H s) (hH:H l=some (.lst xs)):xs.length≤sizeLine∧∃ (its:List Value) (n:Nat),p7 xs its∧xs.length=its.length∧s.heap.get? l=some { cls:=.type "list",data:=.seq its.toArray n }:=by
 obtain ⟨z,its,n,r,e⟩:=I.hok l _ hH
 exact ⟨z,its,n,r,r.length,e⟩
theorem aY3 {n:Nat} (h:n≤sizeLine):Builtin.List.listTooLong n=false:=by
 unfold Builtin.List.listTooLong
 exact decide_eq_false (by omega)
end
section
variable {X:Cx}
def aB0:V→List V→Hp→VK→Prop:=fun x vs H Q=>∃ l xs y,x = .ref l∧vs=[y]∧H l=some (.lst xs)∧xs.length<sizeLine∧Q .non (upd H l (.lst (xs++[y])))
theorem W4:MtM X "list.append" aB0:=by
 intro pins s σ H x vs v us Q I rx rv h
 obtain ⟨l,xs,y,rfl,rfl,hH,hz,q⟩:=h
 cases rx
 obtain ⟨u,rfl,ru⟩:=rv.one
 obtain ⟨z,its,n,r,hl,e⟩:=I.lstM hH
 refine call_meets F.slot_list_append ⟨_,e,rfl⟩ F.entry_list_append (F.args_list_append_2 _ _) (PySem.list_append l its.toArray n u (by rw [List.size_toArray];omega)) ⟨e,?_⟩
 refine ⟨.non,_,I.lset (its':=its++[u]) hH e (by simp) (r.append (.cons ru .nil)) ?_,rfl,q⟩
 rw [List.length_append,List.length_singleton]
 omega
def rExtend:V→List V→Hp→VK→Prop:=fun x vs H Q=>∃ l b xs zs,x = .ref l∧vs=[.ref b]∧H l=some (.lst xs)∧H b=some (.lst zs)∧xs.length+zs.length≤sizeLine∧Q .non (upd H l (.lst (xs++zs)))
def bj5:V→List V→Hp→VK→Prop:=fun x vs H Q=>∃ l xs y,x = .ref l∧vs=[]∧H l=some (.lst xs)∧xs[xs.length - 1]? = some y∧Q y (upd H l (.lst xs.dropLast))
theorem bl4:MtM X "list.pop" bj5:=by
 intro pins s σ H x vs v us Q I rx rv h
 obtain ⟨l,xs,y,rfl,rfl,hH,hy,q⟩:=h
 cases rx
 have hus:=rv.zero
 subst hus
 obtain ⟨z,its,n,r,hl,e⟩:=I.lstM hH
 obtain ⟨u,hu,ru⟩:=r.get hy
 have hy':its.toArray[its.toArray.size - 1]? = some u:=by
  show its.toArray[its.length - 1]? = some u
  rw [←Array.getElem?_toList,←hl]
  exact hu
 refine call_meets F.slot_list_pop ⟨_,e,rfl⟩ F.entry_list_pop (F.args_list_pop_1 _) (MeetsSeq.list_pop_last l its.toArray n u hy' (by rw [List.size_toArray];omega)) ⟨e,?_⟩
 refine ⟨y,_,I.lset (its':=its.dropLast) hH e ?_ r.dropLast ?_,ru,q⟩
 ·show its.toArray.eraseIdxIfInBounds (its.toArray.size - 1)=its.dropLast.toArray
  rw [List.size_toArray,List.eraseIdxIfInBounds_toArray,aL7]
 ·rw [List.length_dropLast]
  omega
def bj7:R2:=fun x y H Q=>∃ l b xs zs,x = .ref l∧y = .ref b∧H l=some (.lst xs)∧H b=some (.lst zs)∧xs.length+zs.length≤sizeLine∧∀ p,H p=none→Q (.ref p) (upd H p (.lst (xs++zs)))
theorem O8:OpR X (binaryOp .Add) bj7:=by
 intro pins s σ H x y v u Q I rx ry h
 obtain ⟨l,b,xs,zs,rfl,rfl,hH,hB,hz,q⟩:=h
 cases rx
 cases ry
 obtain ⟨z,its,n,r,hl,e⟩:=I.lstM hH
 obtain ⟨z2,its2,n2,r2,hl2,e2⟩:=I.lstM hB
 refine PySem.P.add_list e e2 ?_ (by rw [List.size_toArray,List.size_toArray];omega)
 have ea:its.toArray++its2.toArray=(its++its2).toArray:=by simp
 rw [ea]
 exact ⟨.ref _,_,I.lnew (t':=s.toks) (r.append r2) (by rw [List.length_append];omega),rfl,q _ I.fresh⟩
def bj4:R2:=fun x y H Q=>∃ l k xs,x = .ref l∧y = .int k∧H l=some (.lst xs)∧-(2 ^ 63)≤k∧k<2 ^ 63∧xs.length * k.toNat≤sizeLine ∧
 ∀ p,H p=none→Q (.ref p) (upd H p (.lst (List.replicate k.toNat xs).flatten))
theorem bf3 {α:Type} (xs:List α) (k:Nat):(List.replicate k xs).flatten.length=k * xs.length:=by
 induction k with
 | zero=>simp
 | succ k ih=>rw [List.replicate_succ,List.flatten_cons,List.length_append,ih,Nat.succ_mul,Nat.add_comm]
theorem aK4:OpR X (binaryOp .Mult) bj4:=by
 intro pins s σ H x y v u Q I rx ry h
 obtain ⟨l,k,xs,rfl,rfl,hH,h1,h2,hz,q⟩:=h
 cases rx
 obtain ⟨t,rfl⟩:=ry
 obtain ⟨z,its,n,r,hl,e⟩:=I.lstM hH
 have hlen:its.toArray.size * k.toNat≤sizeLine:=by rw [List.size_toArray,←hl];exact hz
 have hcap : ¬ its.toArray.size * k.toNat > (2 ^ 63 - 1) / 8:=by
  have:(sizeLine:Nat)≤(2 ^ 63 - 1) / 8:=by decide
  omega
 have hfit : ¬ (!Builtin.List.listFitsIndex k)=true:=by
  rw [fitsIndex_both h1 h2]
  exact Bool.false_ne_true
 have hlong : ¬ Builtin.List.listTooLong (its.toArray.size * k.toNat)=true:=by
  rw [aY3 hlen]
  exact Bool.false_ne_true
 have hnew:List.foldl (fun x1 x2=>x1++x2) #[] (List.replicate (if its.toArray.isEmpty=true then 0 else k.toNat) its.toArray)=(List.replicate k.toNat its).flatten.toArray:=by
  have f0:∀ m:Nat,List.foldl (fun x1 x2=>x1++x2) #[] (List.replicate m its.toArray)=(List.replicate m its).flatten.toArray:=fun m=>by
   have:=ax6 its m []
   rw [List.nil_append] at this
   exact this
  rw [f0]
  cases its with
  | nil=>simp
  | cons a r'=>rw [if_neg (by simp)]
 refine wpAny_binaryOp_repeat_ref (T:="list") (U:="int") (by decide) ⟨_,e,rfl⟩ (fun s'=>typeIs_int s' k t) noFill_list_mul F.fills_int_mul F.slot_int_rmul repeat_list F.slot_int_index.lookup
  (call_meets F.slot_int_rmul (typeIs_int s k t) F.entry_int_rmul (F.args_int_rmul_2 _ _) (int___rmul___int_list k t l its.toArray n)
   ⟨e,rfl,⟨_,e,rfl⟩,call_meets F.slot_list_mul ⟨_,e,rfl⟩ F.entry_list_mul (F.args_list_mul_2 _ _) (AutoListH.list___mul___list_int_3 l its.toArray n k t hfit hcap hlong) ⟨e,?_⟩⟩)
 rw [hnew]
 exact ⟨.ref _,_,I.lnew (t':=s.toks) (r.rep k.toNat) (by rw [bf3,Nat.mul_comm];exact hz),rfl,q _ I.fresh⟩
end
end L2
namespace Att
open PySem PySem.W PySem.Calls PyProof.Rows
theorem am6 {P:Params} {h:Heap}:∀ (ns:List Int) (vs:List Value),WellAll P h vs (ns.map WData.int)→IntsAre vs ns:=by
 intro ns
 induction ns with
 | nil=>
  intro vs w
  rw [List.map_nil] at w
  cases w
  exact .nil
 | cons n ns ih=>
  intro vs w
  rw [List.map_cons] at w
  cases w with
  | cons a b=>
   cases a
   exact .cons _ _ (ih _ b)
theorem aQ4 {l:OpenLaw} {n:Nat} (hn:l.most=some n) {P:Params} {h:Heap} {args:List WData} {vals:List Value}
  (hpre:l.row.toRowW.claim.pre args=true) (hwl:WellAll P h vals args) :
  ∃ a vs ns,vals=[Value.ref a]∧args=[WData.list (ns.map WData.int)]∧h.get? a=some { cls:=.type "list",data:=.seq vs.toArray }∧IntsAre vs ns∧ns.length≤n:=by
 have hsh:WShape.hasAll [] args [.list .int]=true:=(pre_splitW hpre).1
 have hc:l.pre.holds [] { args:=args }=true:=(pre_splitW hpre).2
 obtain ⟨d,r,rfl,h1,h2⟩:=hasAllW_cons hsh
 obtain rfl:=hasAllW_nil h2
 obtain ⟨xs,rfl,h3⟩:=hasW_list h1
 obtain ⟨ns,rfl⟩:=items_int h3
 have hlen:ns.length≤n:=by
  unfold OpenLaw.pre at hc
  have h4:(WTm.not (.lt (.lit (.int (n:Int))) (.len (.arg 0)))).holds [] { args:=[.list (ns.map .int)] }=true:=by
   have h4:=(holds_andW hc).1
   rw [hn] at h4
   exact h4
  have h5:=condW_of h4 (w_not (w_lt w_lit (w_len_list (w_arg rfl))))
  rw [List.length_map] at h5
  refine Nat.le_of_not_lt fun q=>?_
  have q':(n:Int)<((ns.length:Nat):Int):=by omega
  first
   | (rw [decide_eq_true q'] at h5;exact absurd h5 (by decide))
   | (simp at h5;omega)
 cases hwl with
 | cons w1 w2=>
  cases w2
  cases w1 with
  | list ho hall=>exact ⟨_,_,ns,rfl,rfl,ho,am6 ns _ hall,hlen⟩
theorem aQ9 (l:OpenLaw) (args:List WData):l.row.toRowW.claim.post args (.bool true) args=true:=
 postW_of (r:=l.row.toRowW) (X:=(true == true))
  (show WShape.has [] (.bool true) .bool=true by first | rfl | decide | simp [WShape.has,WShape.arms,WShape.armsAll])
  (show (WTm.eq .res (.lit (.bool true))).value [] { args:=args,res:=some (.bool true),after:=args }=some (.bool (true == true)) from w_eq_bool (w_res rfl) w_lit) rfl
theorem attach_call {l:OpenLaw} {n:Nat} {q:Program} {loose:List Str} {XP:(Str→Option Value)→Heap→Prop} {YP:World→Heap→Prop} {d:DefRec}
  (hn:l.most=some n) (hdf:d.params.defaults=[])
  (call:∀ (w:World) (s₀ s₁:Shared) (mg mb:Str→Option Value) (fa:Addr) (o:Obj) (pm cd doc:Value) (a:Addr) (vs:List Value) (ns:List Int),
   Ground q loose [] XP w s₀ mg mb s₁.heap→YP w s₁.heap →
   s₁.heap.get? fa=some o→o.data = .func (docDef d.name d.params d.body d.scope pm cd doc)→s₁.heap.CodeRec cd d.name→mg d.name=some (.ref fa) →
   s₁.heap.get? a=some { cls:=.type "list",data:=.seq vs.toArray }→IntsAre vs ns→ns.length≤n→s₁.gens = #[] →
   codeAny (model l.prog w) callerA (.call (.ref fa) ⟨[.ref a],[]⟩) (fun r s'=>r = .ok (.ret (.bool true))∧OldK s₁.heap s'.heap∧s'.os=s₁.os∧AllBare s'.gens) s₁) :
  WalkO q loose XP YP l.row.toRowW d [] (fun f vs=>PySem.call f vs):=by
 intro w s₀ s₁ mg mb G Y fa o pm cd doc dV kV ho hd hcd hD hmg hg args vals as hpre hlay hrd hwl hlo
 obtain rfl:dV = .none:=Dflts.none hD hdf
 obtain rfl:kV = .none:=Dflts.noKw hD
 obtain ⟨a,vs,ns,rfl,rfl,hobj,hints,hlen⟩:=aQ4 hn hpre hwl
 refine enter_call (codeAny_mono (call w s₀ s₁ mg mb fa o pm cd doc a vs ns G Y ho (fd_plain hd) hcd hmg hobj hints hlen hg) fun r s' hq=>?_)
 obtain ⟨rfl,h2,h3,h4⟩:=hq
 exact ⟨.inl ⟨.bool true,.bool true,[],rfl,fun _=>rfl,.bool true,aQ9 l _,fun _=>⟨List.Pairwise.nil,fun _ hm=>(nomatch hm)⟩⟩,h2,h3,h4⟩
end Att
namespace L2
open PySem PySem.Spec PyProof.Rows
theorem aw2:∀ {vs:List Value} {ns:List Int},IntsAre vs ns→p7 (ns.map V.int) vs
 | _,_,.nil=>.nil
 | _,_,.cons n t h=>.cons ⟨t,rfl⟩ (aw2 h)
def bo2 (H:Hp):Prop:=∀ b,H b=none∨∃ o xs,H b=some (.frz o (.lst xs))
theorem aZ4 {P:Program} {w:World} {K:PySem.W.Frag} {mg mb:Str→Option Value} {CX:CXT} {k:Nat} {fa a:Addr} {fd:FuncData} {x:Str} {sp:Sp} {s₁:Shared} {vs:List Value} {ns:List Int}
  (KX:K.In s₁.heap) (hns:s₁.heap.Ns mainGlobals mg) (hb:s₁.heap.Ns builtinsNs mb) (hbb:∀ x:Str,x≠"__name__" → mb x=bootBuiltins x) (hlim:s₁.heap.NoLimit) (hg:s₁.gens = #[])
  (ha:s₁.heap.get? a=some { cls:=.type "list",data:=.seq vs.toArray }) (hi:IntsAre vs ns) (hl:ns.length≤sizeLine) (hr:V0 k callerA)
  (F:∀ base:Heap,K.In base→base.Ns mainGlobals mg→ab1 P w K mg base CX k fa fd [x] sp) (hbind:∀ (s:Shared) (u:Value),BindsTo s fd ⟨[u],[]⟩ [(x,u)])
  (hsp:∀ H:Hp,bo2 H→SqL K H a (ns.map V.int)→sp [.ref a] H (fun v _=>v = .bl true) fun _ _ _=>False)
  (hCX:∀ H e s',CX [] H s₁ (fun _ _ _=>False) e s'→False) :
  codeAny (model P w) callerA (.call (.ref fa) ⟨[.ref a],[]⟩) (fun r s'=>r = .ok (.ret (.bool true))∧OldK s₁.heap s'.heap∧s'.os=s₁.os∧AllBare s'.gens) s₁:=by
 have rv:=aw2 hi
 have lenV:=hi.length
 -- from an abstract heap in which nothing but the script may be tracked
 have core:∀ H:Hp,bo2 H→SqL K H a (ns.map V.int)→HOk P w H s₁.heap→(∀ b,H b≠none→b=a)→(H a≠none→K.lookup a=none) →
   codeAny (model P w) callerA (.call (.ref fa) ⟨[.ref a],[]⟩) (fun r s'=>r = .ok (.ret (.bool true))∧OldK s₁.heap s'.heap∧s'.os=s₁.os∧AllBare s'.gens) s₁:=by
  intro H hO hS hok hA hK
  have base_of:∀ {b:Addr} {o:Obj},s₁.heap.get? b=some o→H b=none→(aD5 s₁.heap H).get? b=some o:=fun e n=>aZ9 e n
  have noA:∀ {b:Addr} {o:Obj} {es:Array DictEntry} {ep:Nat},s₁.heap.get? b=some o→o.data = .dict es ep→H b=none:=fun {b o es ep} e d=>by
   cases q:H b with
   | none=>rfl
   | some u=>
    have e':b=a:=hA b (by rw [q];simp)
    subst e'
    rw [ha] at e;cases e
    have d':Data.seq vs.toArray _=Data.dict es ep:=d
    cases d'
  have nsK:∀ {b:Addr} {m:Str→Option Value},s₁.heap.Ns b m→(aD5 s₁.heap H).Ns b m:=fun {b m} ⟨o,es,ep,e,d,r⟩=>⟨o,es,ep,base_of e (noA e d),d,r⟩
  have hKb:K.In (aD5 s₁.heap H):=fun b o e=>base_of (KX b o e) (by
   cases q:H b with
   | none=>rfl
   | some u=>
    have e':b=a:=hA b (by rw [q];simp)
    subst e'
    rw [hK (by rw [q];simp)] at e;cases e)
  have hM:Mod K mg (aD5 s₁.heap H):=⟨hKb,nsK hns,⟨mb,nsK hb,hbb⟩,let ⟨mc,h1,h2⟩:=hlim;⟨mc,nsK h1,h2⟩⟩
  have e0:aT9 P w K mg (aD5 s₁.heap H) callerA [] s₁ H:=⟨rfl,hM,fun b o e=>be7 e,Nat.le_of_eq (aS3 _ _),trivial,fun b hb=>absurd (show b∈([]:List Addr) from hb) (by simp),hok,.of_eq hg⟩
  refine codeAny_mono ((F _ hKb (nsK hns)).run callerA [] s₁ H ⟨[.ref a],[]⟩ [.ref a] [.ref a] _ _ hr e0 (hbind s₁ (.ref a)) (.cons rfl .nil) (hsp H hO hS)) fun r s' h=>?_
  cases r with
  | error e=>exact (hCX H e s' h).elim
  | ok fl=>
   cases fl with
   | next=>exact False.elim h
   | brk=>exact False.elim h
   | cont=>exact False.elim h
   | ret u=>
    obtain ⟨v,H',os,bare,un,hok',r',q⟩:=h
    have q':v = .bl true:=q
    subst q'
    obtain rfl:u=Value.bool true:=r'
    refine ⟨rfl,OldK.of_keep fun b o e=>?_,os,bare⟩
    cases q:H b with
    | none=>exact un.keep b o e q (by intro z;exact absurd (show b∈([]:List Addr) from z) (by simp)) (by simp)
    | some u=>
     rcases hO b with z | ⟨ob,xs,z⟩
     ·rw [q] at z;cases z
     ·have z2:=un.frzs b ob _ z
      obtain ⟨e1,_⟩:=hok b _ z
      obtain ⟨e2,_⟩:=hok' b _ z2
      rw [e] at e1;cases e1
      exact e2
 cases hk:K.lookup a with
 | some o=>
  -- the script is one of the module's own objects
  have e:=KX a o hk
  rw [ha] at e
  cases e
  refine core (fun _=>none) (fun _=>.inl rfl) (.inr ⟨_,vs.toArray,_,hk,rfl,rfl,rfl,by rw [List.size_toArray,lenV];exact hl,by simpa using rv⟩) (fun b u z=>by have z':(none:Option HO)=some u:=z;cases z') (fun b z=>absurd rfl z) fun z=>absurd rfl z
 | none=>
  refine core (fun b=>if b=a then some (.frz { cls:=.type "list",data:=.seq vs.toArray } (.lst (ns.map V.int))) else none) (fun b=>?_) (.inl (.inr ⟨{ cls:=.type "list",data:=.seq vs.toArray },if_pos rfl⟩)) (fun b u z=>?_) (fun b z=>?_) fun _=>hk
  ·by_cases hb:b=a
   ·exact .inr ⟨_,_,if_pos hb⟩
   ·exact .inl (if_neg hb)
  ·by_cases hb:b=a
   ·have z':=(if_pos hb).symm.trans z
    cases z'
    subst hb
    exact ⟨ha,by rw [List.length_map];exact hl,vs,_,rv,ha⟩
   ·have z':=(if_neg hb).symm.trans z
    cases z'
  ·by_cases hb:b=a
   ·exact hb
   ·exact absurd (if_neg hb) z
abbrev KOf {K:PySem.W.Frag} {h:Heap} (_:K.In h):PySem.W.Frag:=K
theorem aM6 {l:PySem.W.OpenLaw} {n k:Nat} {q:Program} {loose:List Str} {XP:(Str→Option Value)→Heap→Prop} {YP:World→Heap→Prop} {d:DefRec} {K:Params→PySem.W.Frag} {CX:World→CXT} {sp:World→Sp} {x:Str}
  (hn:l.most=some n) (hn2:n≤sizeLine) (hdf:d.params.defaults=[]) (hr:V0 k callerA)
  (hY:∀ (w:World) (h:Heap),YP w h→(K w.params).In h)
  (F:∀ (w:World) (mg:Str→Option Value) (fa:Addr) (h:Heap),(K w.params).In h→h.Ns mainGlobals mg→mg d.name=some (.ref fa) →
   ∃ fd:FuncData,(∀ (s:Shared) (u:Value),BindsTo s fd ⟨[u],[]⟩ [(x,u)]) ∧
    ∀ base:Heap,(K w.params).In base→base.Ns mainGlobals mg→ab1 l.prog w (K w.params) mg base (CX w) k fa fd [x] (sp w))
  (hsp:∀ (w:World) (H:Hp) (a:Addr) (ns:List Int),ns.length≤n→bo2 H→SqL (K w.params) H a (ns.map V.int)→sp w [.ref a] H (fun v _=>v = .bl true) fun _ _ _=>False)
  (hCX:∀ (w:World) (H:Hp) (s:Shared) (e:Value) (s':Shared),CX w [] H s (fun _ _ _=>False) e s'→False) :
  PySem.W.WalkO q loose XP YP l.row.toRowW d [] (fun f vs=>PySem.call f vs):=by
 refine Att.attach_call hn hdf fun w s₀ s₁ mg mb fa o pm cd doc a vs ns G Y ho hd hcd hmg hobj hints hlen hg=>?_
 have KX:=hY w _ Y
 obtain ⟨fd,hb,hF⟩:=F w mg fa _ KX G.T.g hmg
 exact aZ4 KX G.T.g G.T.b G.T.builtins G.T.nolimit hg hobj hints (Nat.le_trans hlen hn2) hr hF hb (fun H hO hS=>hsp w H a ns hlen hO hS) fun H e s'=>hCX w H s₁ e s'
end L2
/- THE LAST THEOREM (shape;LID,My.* are yours):
   My.Adr: a structure of the addresses that your layer names (classes,functions);My.Txt K t: a structure (Prop) of the equations over K;
   My.txt_mk:{K} {implicit addresses ..} (e1:nsIn K mainGlobals "law" = some (some (.ref f))) (e2:K.lookup f=some ⟨oc,od,.func (fnOf "law" "law" params body scope dV kV doc pm an cdv ct),sl⟩) (e3:codeIn K cdv "law" = true) .. : ∃ t,My.Txt K t
set_option maxRecDepth 100000 in
set_option maxHeartbeats 0 in
theorem PySem.Challenge.cw_LID_holds : PySem.Challenge.rw_LID.Holds := by
 w_on;o_law;k_head;(case hw=>w_witness2)
 k_fill
 refine L2.aM6 (l:=PySem.Challenge.rw_LID) (n:=63) (k:=40) (x:="script") (CX:=fun w=>..) (sp:=fun _=>My.sp_law) rfl (by decide) rfl ⟨rfl,by decide,by decide⟩ (fun w h Y=>PySem.W.kIn_of Y) ?F ?S ?C
 case F=>
  intro w mg fa h KX G hmg
  have T:∃ t,My.Txt (L2.KOf KX) t:=by
   dsimp only [L2.KOf]                          -- K must stand as «<heap const> w.params» for k_is
   refine' My.txt_mk ?e1 ?e2 ?e3 ..
   (case e1=>PySem.W.k_is)                    -- in the order: a name -> its address -> its object -> its parts
   (case e2=>PySem.W.k_is)
   ..
  obtain ⟨t,T⟩:=T
  have e0:=hmg.symm.trans (PySem.W.mg_of KX G T.law)
  cases e0                                       -- fa is the law's own address
  exact ⟨_,fun s u=>.of_eq rfl,fun base kb nb=>My.law_fn T kb nb⟩     -- if «.of_eq rfl» comes too early: refine' ⟨_,?b,fun base kb nb=>My.law_fn T kb nb⟩;exact fun s u=>.of_eq rfl
 case S=>exact fun w H a ns hl hO hS=>..
 case C=>exact ..
(the tactic k_is has no namespace: write k_is) -/
namespace L2
open PySem PySem.Spec PyProof.Rows
def j2 (s:Stmt):Arguments:=match s with
 | .FunctionDef _ a _ _ _ _ _ _ _ _=>a
 | _=>{ posonlyargs:=[],args:=[],vararg:=none,kwonlyargs:=[],kw_defaults:=[],kwarg:=none,defaults:=[] }
def g9 (s:Stmt):List Stmt:=match s with
 | .FunctionDef _ _ b _ _ _ _ _ _ _=>b
 | _=>[]
def d3 (s:Stmt):Scope:=match s with
 | .FunctionDef _ _ _ _ _ _ sc _ _ _=>sc
 | _=>{ kind:=.function,names:=[],isGenerator:=false,isCoroutine:=false }
abbrev CX0:CXT:=fun _ _ _ _ _ _=>False
abbrev E0:XK:=fun _ _ _=>False
theorem i0 {X:Cx}:ak3 CX0 X E0:=fun _ _ _ _ _ _ _ h=>h.elim
structure Fun (K:PySem.W.Frag) (x qual:Str) (st:Stmt) (f:Addr) (fd:FuncData):Prop where
 ex:∃ (oc:Value) (od:Option Addr) (kV doc pm:Value) (an:Option Addr) (cdv ct:Value) (osl:Array (Option Value)),
  fd=PySem.W.fnOf x qual (j2 st) (g9 st) (d3 st) .none kV doc pm an cdv ct∧K.lookup f=some ⟨oc,od,.func fd,osl⟩∧PySem.W.codeIn K cdv qual=true
 kp:PySem.W.keepIn K (.ref f)=true
section
variable {P:Program} {w:World} {K:PySem.W.Frag} {mg:Str→Option Value} {base:Heap}
theorem Fun.ok {x qual:Str} {st:Stmt} {f:Addr} {fd:FuncData} {N ps:List Str} {k:Nat} {sp:Sp} (F:Fun K x qual st f fd) (S:i9 N ps (d3 st)) (len:∀ vs H Q E,sp vs H Q E→vs.length=ps.length)
  (hbody:∀ (cdv:Value) (A:Around) (outer:List Env) (s:Shared) (H:Hp) (vs:List V) (Q:VK) (E:XK),V0 k (A.deeper (envOfC qual (d3 st) s.heap.objs.size f cdv))→sp vs H Q E →
   ∃ t,PSs (am7 CX0 P w K mg base N qual (d3 st) f cdv A outer s H E).nox (g9 st) t∧t { nx:=fun _ H'=>Q .non H',rt:=Q } (start N vs) H):ab1 P w K mg base CX0 (k+1) f fd ps sp:=by
 obtain ⟨oc,od,kV,doc,pm,an,cdv,ct,osl,rfl,lk,hcd⟩:=F.ex
 refine bi2 lk hcd S len fun A outer s H vs Q E hr hsp=>?_
 obtain ⟨t,h,q⟩:=hbody cdv A outer s H vs Q E hr hsp
 exact ⟨t,h.nox,q⟩
theorem Fun.binds {x qual:Str} {st:Stmt} {f:Addr} {fd:FuncData} {ps:List Str} (F:Fun K x qual st f fd)
  (h:∀ (kV doc pm:Value) (an:Option Addr) (cdv ct:Value) (us:List Value),us.length=ps.length→bindArgs (PySem.W.fnOf x qual (j2 st) (g9 st) (d3 st) .none kV doc pm an cdv ct) ⟨us,[]⟩=pure (ps.zip us)):ab3 K fd ps []:=by
 obtain ⟨oc,od,kV,doc,pm,an,cdv,ct,osl,rfl,lk,hcd⟩:=F.ex
 exact .all (h kV doc pm an cdv ct)
theorem p5 {x qual:Str} {st:Stmt} {f:Addr} {oc:Value} {od an:Option Addr} {osl:Array (Option Value)} {kV doc pm cdv ct:Value} (l:K.lookup f=some ⟨oc,od,.func (PySem.W.fnOf x qual (j2 st) (g9 st) (d3 st) .none kV doc pm an cdv ct),osl⟩)
  (c:PySem.W.codeIn K cdv qual=true) (k:PySem.W.keepIn K (.ref f)=true):Fun K x qual st f (PySem.W.fnOf x qual (j2 st) (g9 st) (d3 st) .none kV doc pm an cdv ct):=⟨⟨oc,od,kV,doc,pm,an,cdv,ct,osl,rfl,l,c⟩,k⟩
end
section
variable {X:Cx}
theorem pv (i:Nat) {x:Str} {pos:Pos} (hN:X.N[i]? = some x:=by rfl) (hv:Vis X.env.scope x:=by first | exact Or.inl rfl | exact Or.inr (Or.inl rfl) | exact Or.inr (Or.inr rfl)) (hd:(x == ("__debug__" : Str))=false:=by decide)
  (hcd:(x == ("__classdict__" : Str))=false:=by decide):PE X (.Name x pos) (az3 i):=bk4 hN hv hd hcd
end
theorem v6 {c A B:Prop} [Decidable c] (h1:c→A) (h2 : ¬ c→B):if c then A else B:=by
 by_cases h:c
 ·rw [if_pos h]
  exact h1 h
 ·rw [if_neg h]
  exact h2 h
def d5 (H H':Hp):Prop:=∀ b o,H b=some o→H' b=some o
theorem d5.refl (H:Hp):d5 H H:=fun _ _ h=>h
theorem d5.trans {H H1 H2:Hp} (a:d5 H H1) (b:d5 H1 H2):d5 H H2:=fun c o h=>b c o (a c o h)
theorem d5.free {H H':Hp} (e:d5 H H') {l:Addr} (h:H' l=Option.none):H l=Option.none:=by
 cases q:H l with
 | none=>rfl
 | some o=>
  rw [e l o q] at h
  cases h
theorem d5.seq {K:PySem.W.Frag} {H H':Hp} {a:Addr} {xs:List V} (e:d5 H H') (h:SqL K H a xs):SqL K H' a xs:=by
 rcases h with (h | ⟨o,h⟩) | h
 ·exact .inl (.inl (e _ _ h))
 ·exact .inl (.inr ⟨o,e _ _ h⟩)
 ·exact .inr h
section
variable {P:Program} {w:World} {H:Hp} {h:Heap} {a:Addr} {o:HO}
theorem E4.there (x:E4 P w H h a o):∃ ob,h.get? a=some ob:=by
 cases o with
 | lst xs=>obtain ⟨_,_,_,_,e⟩:=x;exact ⟨_,e⟩
 | tup xs=>obtain ⟨_,_,_,ob,e,_⟩:=x;exact ⟨_,e⟩
 | dK kvs=>obtain ⟨_,_,_,_,o,_,_,e,_⟩:=x;exact ⟨_,e⟩
 | dT kvs=>obtain ⟨_,_,_,_,o,_,_,e,_⟩:=x;exact ⟨_,e⟩
 | set S n=>obtain ⟨o,_,_,_,e,_⟩:=x;exact ⟨_,e⟩
 | ins C dx fs=>obtain ⟨_,_,_,e,_⟩:=x;exact ⟨_,e⟩
 | own y=>obtain ⟨_,e⟩:=x;exact ⟨_,e⟩
 | xd fs=>obtain ⟨_,⟨_,_,_,e,_⟩,_⟩:=x;exact ⟨_,e⟩
 | rng lo hi=>obtain ⟨_,_,_,e⟩:=x;exact ⟨_,e⟩
 | frz ob u=>obtain ⟨e,_⟩:=x;exact ⟨_,e⟩
 | tbl ps=>exact ⟨_,(show h.get? a=some _ from x)⟩
 | met f y=>exact ⟨_,(show h.get? a=some _ from x)⟩
 | ext φ=>obtain ⟨_,e,_⟩:=x;exact e
end
def CXR (P:Program) (w:World):CXT:=fun outer H s E e s'=>∃ (a:Addr) (cls a0:Value) (H':Hp) (B:Heap),e = .ref a∧s'.os=s.os∧AllBare s'.gens ∧
 Heap.FlyingW B outer a cls a0 s'.heap∧(∀ b o,s.heap.get? b=some o→H b=none→b ∉ frs outer→B.get? b=some o)∧(∀ b o,s.heap.get? b=some o→b ∉ frs outer→∃ o',B.get? b=some o') ∧
 HOk P w H' B∧Un (frs outer) [] H H' s.heap s'.heap∧H' a=none∧E cls none H'
def bb9 (X:Cx) (R:Value→Hp→Prop):Prop:=∀ (pins:List (Addr × Obj)) (σ:St) (H:Hp) (s:Shared) (h':Heap) (e:Addr) (cls:Value) (vs:List Value),Inv X pins σ H s→Heap.MadeExcOf s.heap h' e cls vs→R cls H →
 X.xe (.ref e) { s with heap:=h' }
section
variable {CX:CXT} {P:Program} {w:World} {K:PySem.W.Frag} {mg:Str→Option Value} {base:Heap} {N:List Str} {qual:Str} {scope:Scope} {f:Addr} {cd:Value} {A:Around} {outer:List Env} {s₀:Shared} {H₀:Hp} {E:XK}
abbrev cxR (P:Program) (w:World) (K:PySem.W.Frag) (mg:Str→Option Value) (base:Heap) (N:List Str) (qual:Str) (scope:Scope) (f:Addr) (cd:Value) (A:Around) (outer:List Env) (s₀:Shared) (H₀:Hp) (E:XK):Cx:=am7 (CXR P w) P w K mg base N qual scope f cd A outer s₀ H₀ E
theorem bm6 {X:Cx} {pins:List (Addr × Obj)} {σ:St} {H:Hp} {s:Shared} (I:Inv X pins σ H s):HOk X.prog X.w H (PySem.W.hideAll s.heap (frs X.stack)):=fun b u e=>by
 refine (I.hok b u e).stay (fun c v hc q=>PySem.W.hideAll_get _ q fun hm=>?_) (fun _ q=>q) fun _ _ q=>q
 have z:=I.stkFree c hm
 rcases hc with rfl | hc
 ·rw [z] at e;cases e
 ·rw [z] at hc;cases hc
theorem aQ7:bb9 (cxR P w K mg base N qual scope f cd A outer s₀ H₀ E) (fun cls H'=>E cls none H'):=by
 intro pins σ H s h' e cls vs I hx hE
 have frS:=I.stack
 have hin:∀ env∈(cxR P w K mg base N qual scope f cd A outer s₀ H₀ E).stack,∀ b,env.frame=some b→b∈frs (cxR P w K mg base N qual scope f cd A outer s₀ H₀ E).stack:=fun env he b hb=>List.mem_filterMap.mpr ⟨env,he,hb⟩
 have lo:∀ b o,s₀.heap.get? b=some o→b ∉ frs outer→b ∉ frs (cxR P w K mg base N qual scope f cd A outer s₀ H₀ E).stack:=fun b o q hb hm=>by
  rcases List.mem_cons.mp (I.stkSub b hm) with z | z
  ·exact absurd z (Nat.ne_of_lt (Nat.lt_of_lt_of_le (Heap.lt_size q) I.ok.above))
  ·exact hb z
 refine wpAny_leaves_madeW (base:=PySem.W.hideAll s.heap (frs (cxR P w K mg base N qual scope f cd A outer s₀ H₀ E).stack)) I.ok.frames rfl (fun b o q=>PySem.W.of_hideAll _ q) (PySem.W.funFrames_hide frS hin) hx fun h2 t x1 x2 x3 x4=>?_
 have hk:∀ b o,s.heap.get? b=some o→b ∉ frs (cxR P w K mg base N qual scope f cd A outer s₀ H₀ E).stack→h2.get? b=some o:=fun b o q hb=>x1.1 b o (PySem.W.hideAll_get _ q hb)
 have hfr:∀ b o,s.heap.get? b=some o→b∈frs (cxR P w K mg base N qual scope f cd A outer s₀ H₀ E).stack→∃ sl,h2.get? b=some { o with slots:=sl }:=fun b o q hb=>by
  obtain ⟨_,ob,hob,hnf⟩:=frS.mem hb
  rw [q] at hob;cases hob
  exact x4 b o (hx.keeps b o q) hnf
 have hany:∀ b o,s.heap.get? b=some o→∃ o',h2.get? b=some o':=fun b o q=>by
  by_cases hb:b∈frs (cxR P w K mg base N qual scope f cd A outer s₀ H₀ E).stack
  ·obtain ⟨sl,z⟩:=hfr b o q hb;exact ⟨_,z⟩
  ·exact ⟨_,hk b o q hb⟩
 have nx:∀ b:Addr,b ∉ (cxR P w K mg base N qual scope f cd A outer s₀ H₀ E).ex:=fun b z=>absurd (show b∈([]:List Addr) from z) (by simp)
 refine ⟨e,cls,.ref t,H,_,rfl,I.os,I.bare,x1,fun b o q n hb=>PySem.W.hideAll_get _ (I.base.keep b o q n hb (nx b)) (lo b o q hb),fun b o q hb=>?_,bm6 I,⟨fun b o q n hb _=>?_,fun b o q n hb _=>?_,fun b o q n _=>I.base.free b o q n (nx b),fun b o q _=>?_,I.base.tups,I.base.frzs,I.base.tbls⟩,?_,hE⟩
 ·obtain ⟨o',z⟩:=I.base.there b o q (nx b)
  exact ⟨o',PySem.W.hideAll_get _ z (lo b o q hb)⟩
 ·exact hk b o (I.base.keep b o q n hb (nx b)) (lo b o q hb)
 ·obtain ⟨sl,z⟩:=I.base.slot b o q n hb (nx b)
  have hm:b∈frs (cxR P w K mg base N qual scope f cd A outer s₀ H₀ E).stack:=by
   show b∈frs (_ :: outer)
   unfold frs at hb ⊢
   rw [List.filterMap_cons]
   exact List.mem_cons_of_mem _ hb
  obtain ⟨sl',z'⟩:=hfr b _ z hm
  exact ⟨sl',z'⟩
 ·obtain ⟨o',z⟩:=I.base.there b o q (nx b)
  exact hany b o' z
 ·cases q:H e with
  | none=>rfl
  | some u=>
   obtain ⟨ob,z⟩:=(I.hok e u q).there
   rw [hx.new] at z;cases z
theorem aR0 {E2:XK} (h:∀ cls H',E2 cls none H'→E cls none H'):ak3 (CXR P w) (cxR P w K mg base N qual scope f cd A outer s₀ H₀ E) E2:=by
 intro pins σ H s e s' I hcx
 obtain ⟨a,cls,a0,H',B,rfl,os,bare,fl,hB,hth,hok,un,hn,hE⟩:=hcx
 have lo:∀ b o,s₀.heap.get? b=some o→b ∉ frs outer→b ∉ frs (cxR P w K mg base N qual scope f cd A outer s₀ H₀ E).stack:=fun b o q hb hm=>by
  rcases List.mem_cons.mp (I.stkSub b hm) with z | z
  ·exact absurd z (Nat.ne_of_lt (Nat.lt_of_lt_of_le (Heap.lt_size q) I.ok.above))
  ·exact hb z
 have nx:∀ b:Addr,b ∉ (cxR P w K mg base N qual scope f cd A outer s₀ H₀ E).ex:=fun b z=>absurd (show b∈([]:List Addr) from z) (by simp)
 refine wpAny_leaves_onW I.ok.frames rfl fl fun h2 x1 x2=>?_
 have fro:∀ b∈frs outer,b∈frs (cxR P w K mg base N qual scope f cd A outer s₀ H₀ E).stack:=fun b hb=>by
  show b∈frs (_ :: outer)
  unfold frs at hb ⊢
  rw [List.filterMap_cons]
  exact List.mem_cons_of_mem _ hb
 have hfr:∀ b o,s'.heap.get? b=some o→b∈frs (cxR P w K mg base N qual scope f cd A outer s₀ H₀ E).stack→∃ sl,h2.get? b=some { o with slots:=sl }:=fun b o q hb=>by
  obtain ⟨_,ob,hob,hnf⟩:=fl.2.2.1.mem hb
  rw [q] at hob;cases hob
  exact x2 b o q hnf
 refine ⟨a,cls,a0,H',B,rfl,os.trans I.os,bare,x1,fun b o q n hb=>hB b o (I.base.keep b o q n hb (nx b)) (I.base.free b o q n (nx b)) (lo b o q hb),fun b o q hb=>?_,hok,⟨fun b o q n hb _=>?_,fun b o q n hb _=>?_,fun b o q n _=>?_,fun b o q _=>?_,fun b xs q=>un.tups b xs (I.base.tups b xs q),fun b ob xs q=>un.frzs b ob xs (I.base.frzs b ob xs q),fun b ps q=>?_⟩,hn,h _ _ hE⟩
 ·obtain ⟨o',z⟩:=I.base.there b o q (nx b)
  exact hth b o' z (lo b o q hb)
 ·exact x1.1 b o (hB b o (I.base.keep b o q n hb (nx b)) (I.base.free b o q n (nx b)) (lo b o q hb))
 ·obtain ⟨sl,z⟩:=I.base.slot b o q n hb (nx b)
  obtain ⟨sl',z'⟩:=un.slot b _ z (I.base.free b o q n (nx b)) (fro b hb) (by simp)
  obtain ⟨sl2,z2⟩:=hfr b _ z' (fro b hb)
  exact ⟨sl2,z2⟩
 ·obtain ⟨o',z⟩:=I.base.there b o q (nx b)
  exact un.free b o' z (I.base.free b o q n (nx b)) (by simp)
 ·obtain ⟨o',z⟩:=I.base.there b o q (nx b)
  by_cases hb:b∈frs (cxR P w K mg base N qual scope f cd A outer s₀ H₀ E).stack
  ·obtain ⟨o2,z2⟩:=un.there b o' z (by simp)
   obtain ⟨sl,z3⟩:=hfr b o2 z2 hb
   exact ⟨_,z3⟩
  ·obtain ⟨o2,z2⟩:=hth b o' z hb
   exact ⟨o2,x1.1 b o2 z2⟩
 ·obtain ⟨m1,z1⟩:=I.base.tbls b ps q
  obtain ⟨m2,z2⟩:=un.tbls b _ z1
  exact ⟨m1++m2,by rw [z2,Array.append_assoc]⟩
end
structure bg6 (K:PySem.W.Frag) (C:Addr) (bm:List Value) (newId:String):Prop where
 ok:PySem.W.excIn K C bm newId=true
theorem bg6.obj {K:PySem.W.Frag} {C:Addr} {bm:List Value} {newId:String} (O:bg6 K C bm newId) {h:Heap} (X:K.In h) :
  ∃ tl N nm q bs hdct sn sub ab col dd k0 k1 k2 k3 k5 mN,h.get? C=some (excClassObj nm q C N bs tl hdct sn sub ab col dd k0 k1 k2 k3 k5 newId)∧h.Ns N mN∧mN "__init__" = none∧OwnTail h bm tl:=by
 have q:=O.ok
 unfold PySem.W.excIn at q
 split at q
 ·rename_i dd cd sl ho
  split at q
  ·rename_i C' bm' k0 k1 k2 k3 n k5 hm hs
   simp only [Bool.and_eq_true,beq_iff_eq,Bool.not_eq_true'] at q
   obtain ⟨⟨⟨⟨⟨rfl,rfl⟩,hdel⟩,ht⟩,hok⟩,hni⟩:=q
   obtain ⟨nm,bs,mro,ns,qn,hd,sn,sub,ab,col,del⟩:=cd
   dsimp only at hm hdel hok hni
   subst hm hdel
   have hsl:sl = #[k0,k1,k2,k3,some (.builtin n),k5]:=by
    obtain ⟨l⟩:=sl
    simp only at hs
    rw [hs]
   subst hsl
   exact ⟨bm',ns,nm,qn,bs,hd,sn,sub,ab,col,dd,k0,k1,k2,k3,k5,_,X _ _ ho,.of_isNs (PySem.W.isNs_of_in X hok),PySem.W.nsMap_none_of_in X hok hni,PySem.W.tail_of_in X ht⟩
  ·cases q
 ·cases q
section
variable {X:Cx} {x:Str} {C:Addr} {bm:List Value} {newId B initId:String} {e:Expr} {es:List Expr} {te:TA} {np cpos pos:Pos} {R:Value→Hp→Prop}
def aI9 (C:Addr) (te:TA) (R:Value→Hp→Prop):TS:=fun _ σ H=>te σ H fun vs H1=>vs.length≤sizeLine∧R (.ref C) H1
theorem aX3 (O:bg6 X.K C bm newId) (FB:ExcBaseFacts B newId initId bm) (hc:X.calm=true) (hg:Gl X x) (hm:X.mg x=some (.ref C)) (hr:bb9 X R) (he:PA X (e :: es) te)
  (hst:starEach (e :: es) X.env=(false,eval e X.env) :: starEach es X.env:=by rfl) (hplain:(backTo cpos (starEach es X.env)).any (·.1)=false:=by rfl) (hd:(x == ("__debug__" : Str))=false:=by decide) :
  PS X (.Raise (some (.Call (.Name x np) (e :: es) [] cpos)) none pos) (aI9 C te R):=by
 intro pins s σ H D I h
 obtain ⟨tl,N,nm,q,bs,hdct,sn,sub,ab,col,dd,k0,k1,k2,k3,k5,mN,hC,hN,hni,T⟩:=O.obj I.ok.mod.kin
 refine wpAny_Raise_call_subT (C:=C) (nm:=nm) (q:=q) (N:=N) (bs:=bs) (bm:=tl) (hdct:=hdct) (sn:=sn) (sub:=sub) (ab:=ab) (col:=col) (dd:=dd) (k0:=k0) (k1:=k1) (k2:=k2) (k3:=k3) (k5:=k5)
  FB (mN:=mN) (T.hasType FB.hasBase) (I.ok.hd hc) (by rw [hst];show (false || (backTo cpos (starEach es X.env)).any (·.1))=false;rw [hplain];rfl) hni (ah1 I hg hm ⟨rfl,?_⟩ hd)
 have hA:=he cpos pins s σ H _ I h
 rw [hst] at hA ⊢
 refine Calls.evalArgs_plain (thn hA fun us s2 ⟨vs,H1,I1,r1,hl,q1⟩=>⟨rfl,?_,I1.bk _ _ hC,hN.keeps I1.bk,T.keeps I1.bk,fun h' a hx=>hr pins σ H1 s2 h' a _ us I1 hx q1⟩)
 show us.length≤sizeLine
 rw [←r1.length];exact hl
end
section
variable {X:Cx} {pins:List (Addr × Obj)} {σ:St} {H H':Hp} {s s':Shared}
theorem Inv.reA {A2:Around} {c2:Bool} {E2:Value→Shared→Prop} (I:Inv X pins σ H s) (hf:A2.frames=X.A.frames) (hc:c2=true→A2.handled=none):Inv { X with A:=A2,calm:=c2,xe:=E2 } pins σ H s:=
 ⟨⟨I.ok.mod,I.ok.kind,I.ok.glob,I.ok.blt,I.ok.above,I.ok.inj,I.ok.has,I.ok.cab,hc,hf.trans I.ok.frames,I.ok.stk,I.ok.exf,I.ok.bs,I.ok.bsz,I.ok.noex,I.ok.exfs,I.ok.funs,I.ok.frf⟩,
  I.os,I.bare,I.base,I.loc,I.cell,I.free,I.freeC,I.pin,I.hok,I.len⟩
theorem Inv.unA {A2:Around} {c2:Bool} {E2:Value→Shared→Prop} (I:Inv { X with A:=A2,calm:=c2,xe:=E2 } pins σ H s) (ok:X.Ok):Inv X pins σ H s:=
 ⟨ok,I.os,I.bare,I.base,I.loc,I.cell,I.free,I.freeC,I.pin,I.hok,I.len⟩
theorem Inv.bear {E2:Value→Shared→Prop} (I:Inv X pins σ H s):Inv { X with xe:=E2,pn:=X.pn++pins } [] σ H s:=
 ⟨⟨I.ok.mod,I.ok.kind,I.ok.glob,I.ok.blt,I.ok.above,I.ok.inj,I.ok.has,I.ok.cab,I.ok.hd,I.ok.frames,I.ok.stk,I.ok.exf,I.ok.bs,I.ok.bsz,I.ok.noex,I.ok.exfs,I.ok.funs,I.ok.frf⟩,
  I.os,I.bare,I.base,I.loc,I.cell,I.free,I.freeC,fun p hp=>I.pin p (by simpa using hp),I.hok,I.len⟩
theorem Inv.unbear {E2:Value→Shared→Prop} {pins':List (Addr × Obj)} (I:Inv { X with xe:=E2,pn:=X.pn++pins } pins' σ H s):Inv X pins σ H s:=
 ⟨⟨I.ok.mod,I.ok.kind,I.ok.glob,I.ok.blt,I.ok.above,I.ok.inj,I.ok.has,I.ok.cab,I.ok.hd,I.ok.frames,I.ok.stk,I.ok.exf,I.ok.bs,I.ok.bsz,I.ok.noex,I.ok.exfs,I.ok.funs,I.ok.frf⟩,
  I.os,I.bare,I.base,I.loc,I.cell,I.free,I.freeC,fun p hp=>I.pin p (List.mem_append_left _ hp),I.hok,I.len⟩
def al0 (X:Cx):St:=List.replicate X.N.length none
theorem Inv.forget (I:Inv X pins σ H s):Inv X pins (al0 X) H s:=
 I.weak (by unfold al0;rw [List.length_replicate];exact I.len.symm) fun i v e=>by
  unfold al0 at e
  rw [List.getElem?_replicate] at e
  split at e <;> cases e
theorem Inv.relocal {h':Heap} {m':Str→Option Value} {t':Nat} (I:Inv X pins σ H s) (hn':h'.Ns X.env.locals m') (hs:Heap.SameBut X.env.locals s.heap h'):Inv X pins (al0 X) H { s with heap:=h',toks:=t' }:=by
 have cne:=I.cne
 refine ⟨I.ok,I.os,I.bare,⟨fun b o e n hb hx=>?_,fun b o e n hb hx=>?_,I.base.free,fun b o e hx=>?_,I.base.tups,I.base.frzs,I.base.tbls⟩,⟨_,hn',fun j y v' e1 e2 e3=>?_⟩,fun y c e=>?_,I.free,I.freeC,fun p hp=>?_,fun b ob e=>?_,?_⟩
 ·exact (hs.2 b (Nat.ne_of_lt (Nat.lt_of_lt_of_le (Heap.lt_size e) I.ok.above))).trans (I.base.keep b o e n hb hx)
 ·obtain ⟨sl,e1⟩:=I.base.slot b o e n hb hx
  exact ⟨sl,(hs.2 b (Nat.ne_of_lt (Nat.lt_of_lt_of_le (Heap.lt_size e) I.ok.above))).trans e1⟩
 ·obtain ⟨o',e1⟩:=I.base.there b o e hx
  exact ⟨o',(hs.2 b (Nat.ne_of_lt (Nat.lt_of_lt_of_le (Heap.lt_size e) I.ok.above))).trans e1⟩
 ·unfold al0 at e2
  rw [List.getElem?_replicate] at e2
  split at e2 <;> cases e2
 ·obtain ⟨w',z⟩:=I.cell y c e
  exact ⟨w',z.sameBut hs (cne y c e)⟩
 ·obtain ⟨e,n,ne,nf,d⟩:=I.pin p hp
  exact ⟨(hs.2 p.1 ne).trans e,n,ne,nf,d⟩
 ·refine (I.hok b ob e).stay (fun c w' hc q=>(hs.2 c ?_).trans q) (fun _ q=>q) fun _ _ q=>q
  rintro rfl
  rcases hc with rfl | hc
  ·rw [I.free] at e;cases e
  ·rw [I.free] at hc;cases hc
 ·show (List.replicate X.N.length none).length=_
  exact List.length_replicate
def Exc (cls:Value) (a:Addr):HO:=.ext fun h=>∃ o vs,h.get? a=some o∧o.cls=cls∧o.data = .fields vs
end
theorem Exc.ok {P:Program} {w:World} {H:Hp} {h:Heap} {cls:Value} {a:Addr} {o:Obj} {vs:Array Value} (h1:h.get? a=some o) (h2:o.cls=cls) (h3:o.data = .fields vs):E4 P w H h a (Exc cls a):=
 ⟨⟨o,vs,h1,h2,h3⟩,⟨o,h1⟩,fun _ _ ⟨o,vs,q1,q2,q3⟩ k=>⟨o,vs,k o q1,q2,q3⟩⟩
theorem Inv.track {X:Cx} {pins:List (Addr × Obj)} {σ:St} {H:Hp} {s:Shared} {o:HO} {a:Addr} (I:Inv X pins σ H s) (hn:H a=none) (new:E4 X.prog X.w (upd H a o) s.heap a o)
  (h1:∀ b ob,X.s₀.heap.get? b=some ob→X.H₀ b=none→b ∉ X.ex→b≠a) (h2:X.env.locals≠a) (h3:∀ x c,X.env.cells.lookup x=some c→c≠a) (h4:∀ p∈X.pn++pins,p.1≠a):Inv X pins σ (upd H a o) s:=
 ⟨I.ok,I.os,I.bare,⟨I.base.keep,I.base.slot,fun b ob q n hx=>by rw [j3 (h1 b ob q n hx)];exact I.base.free b ob q n hx,I.base.there,fun b xs q=>by rw [j3 (j4 (I.base.tups b xs q) hn)];exact I.base.tups b xs q,
   fun b ob u q=>by rw [j3 (j4 (I.base.frzs b ob u q) hn)];exact I.base.frzs b ob u q,fun b ps q=>by obtain ⟨m,z⟩:=I.base.tbls b ps q;exact ⟨m,by rw [j3 (j4 z hn)];exact z⟩⟩,
  I.loc,I.cell,by rw [j3 h2];exact I.free,fun x c q=>by rw [j3 (h3 x c q)];exact I.freeC x c q,fun p hp=>let ⟨e1,e2,e3⟩:=I.pin p hp;⟨e1,by rw [j3 (h4 p hp)];exact e2,e3⟩,
  fun b u e=>by
   by_cases hb:b=a
   ·subst hb;rw [b8] at e;cases e;exact new
   ·rw [j3 hb] at e
    exact (I.hok b u e).stay (fun _ _ _ q=>q) (fun c q=>by rw [j3 (j4 q hn)];exact q) fun c xs q=>by rw [j3 (j4 q hn)];exact q,
  I.len⟩
theorem Inv.caught {X:Cx} {pins:List (Addr × Obj)} {σ:St} {H:Hp} {s s':Shared} {a:Addr} {cls a0:Value} {H':Hp} {B h6:Heap} (I:Inv X pins σ H s) (os:s'.os=s.os) (bare:AllBare s'.gens) (fl:Heap.FlyingW B X.stack a cls a0 s'.heap)
  (hB:∀ b o,s.heap.get? b=some o→H b=none→b ∉ frs X.stack→B.get? b=some o) (hth:∀ b o,s.heap.get? b=some o→b ∉ frs X.stack→∃ o',B.get? b=some o') (hok:HOk X.prog X.w H' B)
  (un:Un (frs X.stack) [] H H' s.heap s'.heap) (st:B.StaysIn h6) (up:s'.heap.UpToSlots h6):Inv X pins σ H' { s' with heap:=h6 }:=by
 have hfr:∀ b o,s'.heap.get? b=some o→b∈frs X.stack→∃ sl,h6.get? b=some { o with slots:=sl }:=fun b o q hb=>by
  obtain ⟨_,ob,hob,hnf⟩:=fl.2.2.1.mem hb
  rw [q] at hob;cases hob
  exact up b o q hnf
 refine I.call' (s':={ s' with heap:=h6 }) (ch:=[]) os ⟨fun b o q n hb _=>st b o (hB b o q n hb),fun b o q n hb _=>?_,un.free,fun b o q _=>?_,un.tups,un.frzs,un.tbls⟩ (hok.kept fun b u q=>st b u q) bare (fun b z=>absurd z (by simp))
 ·obtain ⟨sl,z⟩:=un.slot b o q n hb (by simp)
  obtain ⟨sl2,z2⟩:=hfr b _ z hb
  exact ⟨sl2,z2⟩
 ·by_cases hb:b∈frs X.stack
  ·obtain ⟨o2,z2⟩:=un.there b o q (by simp)
   obtain ⟨sl,z3⟩:=hfr b o2 z2 hb
   exact ⟨_,z3⟩
  ·obtain ⟨o2,z2⟩:=hth b o q hb
   exact ⟨o2,st b o2 z2⟩
abbrev Cx.body (X:Cx) (xe:Value→Shared→Prop) (pn:List (Addr × Obj)):Cx:={ X with xe:=xe,pn:=pn }
abbrev Cx.suite (X:Cx) (a:Addr):Cx:={ X with A:=X.A.mark (some (.ref a)),calm:=false,xe:=fun _ _=>False }
def bo8 (K:PySem.W.Frag) (n C i:Nat) (tb:XK→TS) (th:Addr→TS):TS:=fun D σ H=>
 tb (fun cls _ H'=>PySem.W.exmOne K cls (.ref C)=some true∧∀ a,H' a=none→th a { nx:=fun _ _=>False,rt:=D.rt } ((List.replicate n none).set i (some (.ref a))) (upd H' a (Exc cls a))) D σ H
section
variable {X:Cx}
theorem bj9 {body:List Stmt} {x n:Str} {C:Addr} {i:Nat} {b₀:Stmt} {suite:List Stmt} {tb:XK→TS} {th:Addr→TS} {np hpos pos:Pos} {l:List Env} (hst:X.stack=X.env :: l) (hfr:X.env.frame=some X.env.locals)
  (hex0:X.ex=[]) (hN:X.N.Nodup) (hi:X.N[i]? = some n) (hl:X.env.kindOf n=some .local) (hg:Gl X x) (hm:X.mg x=some (.ref C))
  (hb:∀ (E:XK) (xe:Value→Shared→Prop) (pn:List (Addr × Obj)),ak3 (CXR X.prog X.w) (X.body xe pn) E→PSs (X.body xe pn) body (tb E))
  (hs:∀ a,PSs (X.suite a) (b₀ :: suite) (th a)) (hd:(x == ("__debug__" : Str))=false:=by decide) :
  PS X (.Try body [.ExceptHandler (some (.Name x np)) (some n) (b₀ :: suite) hpos] [] [] pos) (bo8 X.K X.N.length C i tb th):=by
 intro pins s σ H D I h
 refine wpAny_Try_except ?_
 refine wpAny_mono (hb _ (fun e s₁=>wpAny (model X.prog X.w) X.A (noteFrame e X.env) (fun _ s₂=>wpAny (model X.prog X.w) X.A (setFlight e none) (fun _ s₃=>wpAny (model X.prog X.w) X.A (handleBy e X.env [.ExceptHandler (some (.Name x np)) (some n) (b₀ :: suite) hpos]) (SP X pins D) X.xe s₃) X.xe s₂) X.xe s₁) (X.pn++pins) ?_ [] s σ H D I.bear h) ?_ fun _ _ z=>z
 case refine_2=>
  intro f s1 hf
  cases f with
  | next=>
   obtain ⟨σ',H',J,q⟩:=hf
   exact wpAny_execs_nil ⟨σ',H',J.unbear,q⟩
  | brk=>
   obtain ⟨σ',H',J,q⟩:=hf
   exact ⟨σ',H',J.unbear,q⟩
  | cont=>
   obtain ⟨σ',H',J,q⟩:=hf
   exact ⟨σ',H',J.unbear,q⟩
  | ret u=>
   obtain ⟨v,σ',H',J,r,q⟩:=hf
   exact ⟨v,σ',H',J.unbear,r,q⟩
 case refine_1=>
  intro pins' σ' H1 s1 e s2 J0 hcx
  have J:Inv X pins σ' H1 s1:=J0.unbear
  obtain ⟨a,cls,a0,H2,B,rfl,os,bare,fl,hB,hth,hok,un,hn,hE⟩:=hcx
  obtain ⟨hex,hsu⟩:=hE
  have fl':Heap.FlyingW B (X.env :: l) a cls a0 s2.heap:=by rw [←hst];exact fl
  refine wpAny_looks_onW (by rw [J.ok.frames,hst]) hfr fl' fun h4 held4 up4=>?_
  refine wpAny_landsW held4 fun h5 fl5 up5=>?_
  have J5:Inv X pins σ' H2 { s2 with heap:=h5 }:=J.caught os bare fl hB hth hok un fl5.1 (up4.trans up5)
  obtain ⟨ob,hob,hobc⟩:=fl5.there
  have LT:PySem.W.Looks (model X.prog X.w) h5 (typeOf (.ref a)) cls:=hobc ▸ (PySem.W.Looks.ld hob).andThen .now
  have J5h:Inv (X.suite a) pins σ' H2 { s2 with heap:=h5 }:=J5.reA rfl (fun z=>nomatch z)
  refine wpAny_handleBy_cons (codeAny_handlers_test (ah1 (X:=X.suite a) J5h hg hm ?_ hd)) (by intro q;cases q)
  refine (PySem.W.exm_one (M:=model X.prog X.w) J5.kIn LT hex).at ?_
  refine codeAny_handlers_suite_as ?_
  refine lands_againW fl5 fun h6 fl6 up6=>?_
  have J6:Inv X pins σ' H2 { s2 with heap:=h6 }:=J.caught os bare fl hB hth hok un fl6.1 ((up4.trans up5).trans up6)
  have J6h:Inv (X.suite a) pins (al0 X) H2 { s2 with heap:=h6 }:=(show Inv (X.suite a) pins σ' H2 { s2 with heap:=h6 } from J6.reA rfl (fun z=>nomatch z)).forget
  -- the exception is tracked
  obtain ⟨oe,ws,hoe,hoec,hoed,_⟩:=fl6.first
  have nfr:∀ b∈frs X.stack,b≠a:=fun b hb z=>by
   obtain ⟨_,o',ho',hnf⟩:=fl6.2.2.1.mem (show b∈frs (X.env :: l) from hst ▸ hb)
   subst z
   have ho6:h6.get? b=some o':=ho'
   rw [hoe] at ho6;cases ho6
   exact hnf ws hoed
  have nB:∀ b o,B.get? b=some o→b≠a:=fun b o q z=>by rw [z,fl.2.1] at q;cases q
  have nL:X.env.locals≠a:=nfr _ (by rw [hst];unfold frs;rw [List.filterMap_cons,hfr];exact List.mem_cons_self)
  have J7:Inv (X.suite a) pins (al0 X) (upd H2 a (Exc cls a)) { s2 with heap:=h6 }:=by
   refine J6h.track hn (Exc.ok hoe hoec hoed) (fun b ob q n hx=>?_) nL (fun y c q=>?_) (fun p hp=>?_)
   ·have hx':b ∉ X.ex:=hx
    by_cases hbf:b∈frs X.stack
    ·exact nfr b hbf
    ·have z1:b ∉ X.fs:=fun z=>hbf (by
      rcases J.ok.stk with e | ⟨e,_⟩
      ·rw [e];exact z
      ·rw [e];unfold frs;rw [List.filterMap_cons,hfr];exact List.mem_cons_of_mem _ z)
     exact nB b ob (hB b ob (J.base.keep b ob q n z1 hx') (J.base.free b ob q n hx') hbf)
   ·obtain ⟨v,o',ho',hd'⟩:=J6h.cell y c q
    intro z
    subst z
    have z1:h6.get? c=some o':=ho'
    rw [hoe] at z1;cases z1
    rw [hoed] at hd';cases hd'
   ·have hp':p∈X.pn++pins:=hp
    obtain ⟨e1,e2,e3,e4,_⟩:=J.pin p hp'
    refine nB p.1 p.2 (hB p.1 p.2 e1 e2 fun z=>?_)
    rcases List.mem_cons.mp (J.stkSub p.1 z) with y | y
    ·exact e3 y
    ·exact e4 y
  refine Z6 (X:=X.suite a) J7 hN hi (.inl hl) (v:=.ref a) (u:=.ref a) rfl (fun s8 J8=>?_) (.inr hl)
  refine wpAny_mono (hs a pins s8 _ _ { nx:=fun _ _=>False,rt:=D.rt } J8 (hsu a hn)) (fun f s9 hf=>?_) fun _ _ z=>False.elim z
  cases f with
  | next=>obtain ⟨_,_,_,q⟩:=hf;exact False.elim q
  | brk=>obtain ⟨_,_,_,q⟩:=hf;exact False.elim q
  | cont=>obtain ⟨_,_,_,q⟩:=hf;exact False.elim q
  | ret u=>
   obtain ⟨v,σ9,H9,J9,r9,q9⟩:=hf
   obtain ⟨m9,hn9,_⟩:=id J9.loc
   have J9':Inv X pins σ9 H9 s9:=J9.unA J.ok
   refine wpAny_nameGoes hl hn9 (by rw [J.ok.kind];rfl) fun h' m' hn' hs'=>?_
   exact ⟨v,al0 X,H9,J9'.relocal hn' hs',r9,q9⟩
end
structure O2 (k:Nat) (A:Around):Prop where
 dp:A.depth+3 * k+5<recursionLimit
 un:A.units+16 * k+200<cLine
theorem V0.toX {k:Nat} {A:Around} (r:V0 k A):O2 k A:=⟨r.dp,r.un⟩
theorem O2.mono {j k:Nat} {A:Around} (r:O2 k A) (h:j≤k):O2 j A:=⟨by have:=r.dp;omega,by have:=r.un;omega⟩
theorem O2.deeper {k:Nat} {A:Around} (r:O2 (k+1) A) (env:Env):O2 k (A.deeper env):=
 ⟨by have:=r.dp;show A.depth+1+3 * k+5<_;omega,by have:=r.un;show A.units+3+16 * k+200<_;omega⟩
theorem O2.mark {k:Nat} {A:Around} (r:O2 k A) (v:Option Value):O2 k (A.mark v):=⟨r.dp,r.un⟩
theorem O2.depth {k:Nat} {A:Around} (r:O2 k A):A.depth<recursionLimit:=by have:=r.dp;omega
structure aP6 (P:Program) (w:World) (K:PySem.W.Frag) (mg:Str→Option Value) (base:Heap) (k:Nat) (f:Addr) (fd:FuncData) (ps:List Str) (sp:Sp):Prop where
 len:∀ vs H Q E,sp vs H Q E→vs.length=ps.length
 run:∀ (A:Around) (outer:List Env) (s:Shared) (H:Hp) (args:Args) (us:List Value) (vs:List V) (Q:VK) (E:XK),O2 k A→aT9 P w K mg base A outer s H→BindsTo s fd args (ps.zip us)→p7 vs us→sp vs H Q E →
  codeAny (model P w) A (.call (.ref f) args) (CR CX0 outer P w H s Q E) s
abbrev cxX (P:Program) (w:World) (K:PySem.W.Frag) (mg:Str→Option Value) (base:Heap) (N:List Str) (qual:Str) (scope:Scope) (f:Addr) (cd:Value) (A:Around) (outer:List Env) (s₀:Shared) (H₀:Hp) (E:XK):Cx:=
 { am7 CX0 P w K mg base N qual scope f cd A outer s₀ H₀ E with calm:=false,xe:=fun _ _=>False }
theorem Fun.okX {P:Program} {w:World} {K:PySem.W.Frag} {mg:Str→Option Value} {base:Heap} {x qual:Str} {st:Stmt} {f:Addr} {fd:FuncData} {N ps:List Str} {k:Nat} {sp:Sp} (F:Fun K x qual st f fd) (S:i9 N ps (d3 st)) (len:∀ vs H Q E,sp vs H Q E→vs.length=ps.length)
  (hbody:∀ (cdv:Value) (A:Around) (outer:List Env) (s:Shared) (H:Hp) (vs:List V) (Q:VK) (E:XK),O2 k (A.deeper (envOfC qual (d3 st) s.heap.objs.size f cdv))→sp vs H Q E →
   ∃ t,PSs (cxX P w K mg base N qual (d3 st) f cdv A outer s H E) (g9 st) t∧t { nx:=fun _ H'=>Q .non H',rt:=Q } (start N vs) H):aP6 P w K mg base (k+1) f fd ps sp:=by
 obtain ⟨oc,od,kV,doc,pm,an,cdv,ct,osl,rfl,lk,hcd⟩:=F.ex
 refine ⟨len,fun A outer s H args us vs Q E hr e0 hb r hsp=>?_⟩
 have hl:=len _ _ _ _ hsp
 have KX:K.In s.heap:=e0.mod.kin.keeps fun b o e=>(e0.bs b o e).1
 have lim:s.heap.NoLimit:=e0.mod.nolimit.keeps fun b o e=>(e0.bs b o e).1
 have hkind:∀ y∈ps.zip us,(d3 st).names.lookup y.1=some .local∨((d3 st).names.lookup y.1=some .cell∧((cellsFrom (s.heap.objs.size+1) (d3 st).names []).lookup y.1).isSome=true):=fun ⟨n,v⟩ hy=>by
  rcases S.par n (List.of_mem_zip hy).1 with q | q
  ·exact .inl q
  ·exact .inr ⟨q,PySem.W.cellsFrom_some _ _ _ (.inl q)⟩
 refine codeAny_call_function hr.depth (KX _ _ lk) rfl S.co S.gen rfl (PySem.W.codeRec_of KX hcd) (hb _ _ _ _ ?_)
 refine wpAny_newFunctionEnv_cells S.kind hkind fun env he s1 x=>?_
 subst he
 refine ⟨lim.keeps x.toInCall.keep,codeAny_func ?_⟩
 obtain ⟨t,ht,hq⟩:=hbody cdv A outer s H vs Q E (hr.deeper _) hsp
 have e0':aT9 P w K mg base { A with handled:=none } outer s H:=⟨e0.frames,e0.mod,e0.bs,e0.bsz,e0.funs,e0.frf,e0.hok,e0.bare⟩
 have I0:Inv (am7 CX0 P w K mg base N qual (d3 st) f cdv { A with handled:=none } outer s H E) [] (start N vs) H s1:=ax3 S rfl e0' hl r x
 have I:Inv (cxX P w K mg base N qual (d3 st) f cdv A outer s H E) [] (start N vs) H s1:=I0.reA (A2:=A.deeper (envOfC qual (d3 st) s.heap.objs.size f cdv)) (by rfl) (fun z=>nomatch z)
 refine wpAny_mono (ht [] s1 (start N vs) H _ I hq) (fun fl s' hs=>?_) fun e s' hs=>False.elim hs
 have fin:∀ {σ':St} {H':Hp} {v:V} {u:Value},Inv (cxX P w K mg base N qual (d3 st) f cdv A outer s H E) [] σ' H' s'→B1 v u→Q v H'→CE outer P w H s Q u s':=
  fun {σ' H' v u} J rv q=>⟨v,H',J.os,J.bare,J.base,J.hok,rv,q⟩
 cases fl with
 | ret u=>
  obtain ⟨v,σ',H',J,rv,q⟩:=hs
  exact fin J rv q
 | next=>
  obtain ⟨σ',H',J,q⟩:=hs
  exact fin (v:=V.non) (u:=Value.none) J rfl q
 | brk=>
  obtain ⟨_,_,_,q⟩:=hs
  exact False.elim q
 | cont=>
  obtain ⟨_,_,_,q⟩:=hs
  exact False.elim q
section
variable {X:Cx} {CX:CXT} {k:Nat} {f:Addr} {fd:FuncData} {ps:List Str} {sp:Sp} {E:XK} {x:Str} {p pos:Pos} {e:Expr} {es:List Expr} {t:TA}
theorem bd3 {pins:List (Addr × Obj)} {σ:St} {H:Hp} {s:Shared} {Q:VK} {us:List Value} {vs:List V} (F:aP6 X.prog X.w X.K X.mg X.base k f fd ps sp) (hr:O2 k X.A) (hb:ab3 X.K fd ps [])
  (I:Inv X pins σ H s) (r:p7 vs us) (h:sp vs H Q E):wpAny (model X.prog X.w) X.A (call (.ref f) us) (EP X pins σ Q) X.xe s:=by
 have hl:(us++[]).length=ps.length:=by rw [List.append_nil,←r.length];exact F.len _ _ _ _ h
 have hb':=hb s us I.kIn hl
 rw [List.append_nil] at hb'
 refine wpAny_call (codeAny_mono (F.run X.A X.stack s H ⟨us,[]⟩ us vs Q E hr I.env0 hb' r h) fun r s' hq=>?_)
 cases r with
 | error e=>exact False.elim hq
 | ok fl=>
  cases fl with
  | ret u=>exact I.after hq
  | next=>exact False.elim hq
  | brk=>exact False.elim hq
  | cont=>exact False.elim hq
def az5 (sp:Sp) (t:TA):TE:=fun σ H Q=>t σ H fun vs H1=>sp vs H1 Q E0
theorem aX8 (F:aP6 X.prog X.w X.K X.mg X.base k f fd ps sp) (hr:O2 k X.A) (hg:Gl X x) (hm:X.mg x=some (.ref f)) (hk:PySem.W.keepIn X.K (.ref f)=true) (hb:ab3 X.K fd ps [])
  (ha:PA X (e :: es) t) (hdb:(x == ("__debug__" : Str))=false:=by decide) (he:starEach (e :: es) X.env=(false,eval e X.env) :: starEach es X.env:=by rfl) (hpl:(backTo pos (starEach es X.env)).any (·.1)=false:=by rfl) :
  PE X (.Call (.Name x p) (e :: es) [] pos) (az5 sp t):=by
 intro pins s σ H Q I h
 refine wpAny_Call_Name_kw (ah1 I hg hm ?_ hdb)
 refine PySem.W.callWith_K (h₀:=X.base) I.ok.mod.kin hk (thn (ha pos pins s σ H _ I h) fun us s1 ⟨vs,H1,I1,r,q⟩=>⟨I1.kIn,?_⟩) he hpl
 exact bd3 F hr hb I1 r q
structure FnV (P:Program) (w:World) (K:PySem.W.Frag) (mg:Str→Option Value) (base:Heap) (k:Nat) (f:Addr) (sp:Sp):Prop where
 ex:∃ fd ps,ab1 P w K mg base (CXR P w) k f fd ps sp∧ab3 K fd ps []
 kp:PySem.W.keepIn K (.ref f)=true
end
end L2
-- the class of an exception,isinstance,great numbers
set_option maxRecDepth 100000
namespace L2
open PySem PySem.W PySem.Spec PyProof.Rows Builtin Builtin.ObjectAttr Builtin.Getset_descriptor
section
variable {prog:Program} {w:World} {A:Around} {E:Value→Shared→Prop} {s:Shared} {K:Frag} {a C:Addr} {o:Obj}
theorem av6 {R:Result→Shared→Prop} {tp:Value} (X:K.In s.heap) (hx:s.heap.get? a=some o) (hc:o.cls = .ref C) (hm:mroIn K C (.type "object")=some true)
  (h:R (.ok (.ret (.ref C))) s):codeAny (model prog w) A (.call (.builtin "getset_descriptor.__get__") ⟨[.builtin "object.__class__",.ref a,tp],[]⟩) R s:=by
 obtain ⟨hh,g,dr,t,os⟩:=s
 have L0:Looks (model prog w) hh (typeOf (.ref a)) (.ref C):=hc ▸ (Looks.ld hx).andThen .now
 have L1:=looks_mroIn (M:=model prog w) X hm
 refine codeAny_call_builtin KF.slot_gs.plain KF.entry_gs (KF.slot_gs.check _ _ _ _ _ _ _ _ KF.type_class (KF.args_gs _ _ _) ?_)
 unfold Builtin.«getset_descriptor.__get__» descrGet
 rw [dga_obj]
 refine wpAny_bind (wpAny_pure ?_)
 unfold descrGetter descrCheckInstance descrNameAndClass isInstance
 simp only [KF.owner_class]
 repeat lk
 refine ⟨Code.quiet_builtin _ (by decide +kernel),codeAny_builtin KF.entry_class ?_⟩
 unfold Builtin.«object.__class__» shownTypeOf
 repeat lk
 exact h
theorem aS6 {tk:Tok} {Q:Fin→Shared→Prop} (X:K.In s.heap) (hx:s.heap.get? a=some o) (hc:o.cls = .ref C) (g3:findIn K (.ref C) "__class__" = some (some (.builtin "object.__class__"))) (hm:mroIn K C (.type "object")=some true)
  (hq:Q (.done (.ret (.ref C))) s):wpAny (model prog w) A (Builtin.«object.__getattribute__» ⟨[.ref a,.str "__class__" tk],[]⟩) Q E s:=by
 obtain ⟨hh,g,dr,t,os⟩:=s
 have L0:Looks (model prog w) hh (typeOf (.ref a)) (.ref C):=hc ▸ (Looks.ld hx).andThen .now
 have L1:=looks_findIn (M:=model prog w) X g3
 have f5:typeOf (.builtin "object.__class__")=pure (.type "getset_descriptor"):=KF.type_class
 have f6:=F.slot_gs_get.lookup
 have f7:=F.slot_gs_set.lookup
 repeat (any_goals (first | assumption | (with_reducible refine wpAny_loadPart_at hx ?_;rw [hc]) | with_reducible refine L1.at ?_ | wp_step))
 refine av6 X hx hc hm ?_
 repeat (any_goals (first | assumption | wp_step))
theorem aS8 {M:Model} {nameV:Value} {Q:Unit→Shared→Prop} (X:K.In s.heap) (hx:s.heap.get? a=some o) (hc:o.cls = .ref C) (hmB:mroIn K C (.type "BaseException")=some true) (hq:Q () s) :
  wpAny M A (checkBuiltinCall "BaseException.__getattribute__" ⟨[.ref a,nameV],[]⟩) Q E s:=by
 obtain ⟨hh,g,d,t,os⟩:=s
 have L3:=looks_mroIn (M:=M) X hmB
 have hk:builtinKind "BaseException.__getattribute__" = some .slot:=by decide +kernel
 have hsplit:splitId "BaseException.__getattribute__" = some ("BaseException","__getattribute__"):=by decide +kernel
 have ha:=F.args_bexc_ga (.ref a) nameV
 simp only [checkBuiltinCall,hk,hsplit]
 refine wpAny_bind ?_
 ·unfold isInstance
  repeat (first | (with_reducible refine wpAny_loadPart_at hx ?_;rw [hc]) | with_reducible refine L3.at ?_ | wp_step)
  exact hq
theorem aS7 {Q:Option Value→Shared→Prop} (X:K.In s.heap) (hx:s.heap.get? a=some o) (hc:o.cls = .ref C) (g1:findIn K (.ref C) "__getattribute__" = some (some (.builtin "BaseException.__getattribute__"))) (g2:findIn K (.ref C) "__getattr__" = some none)
  (g3:findIn K (.ref C) "__class__" = some (some (.builtin "object.__class__"))) (hm:mroIn K C (.type "object")=some true) (hmB:mroIn K C (.type "BaseException")=some true)
  (h:Q (some (.ref C)) { s with toks:=s.toks+1 }):wpAny (model prog w) A (getAttr? (.ref a) "__class__") Q E s:=by
 obtain ⟨hh,g,d,t,os⟩:=s
 have L0:Looks (model prog w) hh (typeOf (.ref a)) (.ref C):=hc ▸ (Looks.ld hx).andThen .now
 have L1:=looks_findIn (M:=model prog w) X g1
 have L2:=looks_findIn (M:=model prog w) X g2
 have L3:=looks_mroIn (M:=model prog w) X hmB
 unfold getAttr? getAttrBy? getAttrBy
 refine wpAny_bind (wpAny_mkText (wpAny_bind (wpAny_attempt (wpAny_holding (wpAny_bind (L0.at (wpAny_bind (L1.at ?_))))))))
 have hx2:(Value.builtin "BaseException.__getattribute__" == Value.builtin "object.__getattribute__")=false:=by decide +kernel
 have hx1:(onTheHeap (Value.ref C) && Value.builtin "BaseException.__getattribute__" == Value.builtin "object.__getattribute__")=false:=by rw [hx2];rfl
 show wpAny _ _ (if (onTheHeap (Value.ref C) && Value.builtin "BaseException.__getattribute__" == Value.builtin "object.__getattribute__")=true then _ else _) _ _ _
 rw [if_neg (by rw [hx1];decide)]
 have f3:=PySem.F.attr_ValueError.ga.bind (.ref a)
 have hx0:(false && onTheHeap (Value.builtin "BaseException.__getattribute__"))=false:=rfl
 unfold getAttrByItsOwn hookBefore
 repeat (any_goals (first | assumption | (with_reducible refine wpAny_loadPart_at hx ?_;rw [hc]) | with_reducible refine L1.at ?_ | with_reducible refine L2.at ?_ | wp_step))
 refine codeAny_call_builtin PySem.F.attr_ValueError.ga.plain F.entry_bexc_ga (aS8 X hx hc hmB (aS6 X hx hc g3 hm ?_))
 dsimp only
 unfold handedOut
 exact wpAny_pure (wpAny_pure h)
structure D4 (K:Frag) (C:Addr):Prop where
 cl:(clsIn K C).isSome=true
 g1:findIn K (.ref C) "__getattribute__" = some (some (.builtin "BaseException.__getattribute__"))
 g2:findIn K (.ref C) "__getattr__" = some none
 g3:findIn K (.ref C) "__class__" = some (some (.builtin "object.__class__"))
 hm:mroIn K C (.type "object")=some true
 hB:mroIn K C (.type "BaseException")=some true
theorem aZ5 (c:D4 K C):KitX K (.ref a) (.ref C) (fun h=>∃ o,h.get? a=some o∧o.cls = .ref C) where
 ty:=fun _ _ _ ⟨o,hx,hc⟩=>hc ▸ (Looks.ld hx).andThen .now
 it:=fun _ _ X _=>by
  obtain ⟨cdD,hcD⟩:=Option.isSome_iff_exists.mp c.cl
  unfold clsIn at hcD
  split at hcD
  ·rename_i c' d' cd' sl' ho
   intro A' Q' E' s' k q
   unfold isType loadHead
   exact wpAny_bind (wpAny_loadPart (k _ _ (X _ _ ho)) (wpAny_pure q))
  ·cases hcD
 ne:=fun h tp dd its n sl X htp=>by
  obtain ⟨cdD,hcD⟩:=Option.isSome_iff_exists.mp c.cl
  refine Bool.eq_false_iff.mpr fun q=>?_
  have e:C=tp:=Value.ref.inj (beq_iff_eq.mp q)
  subst e
  unfold clsIn at hcD
  split at hcD
  ·rename_i c' d' cd' sl' ho
   have z:=(X _ _ ho).symm.trans htp
   cases z
  ·cases hcD
 ca:=fun X ⟨o,hx,hc⟩ k=>aS7 X hx hc c.g1 c.g2 c.g3 c.hm c.hB k
end
section
variable {X:Cx}
def bq2:V→Value
 | .ty n=>.type n
 | .ref a=>.ref a
 | _=>.none
def isC:V→Prop
 | .ty _=>True
 | .ref _=>True
 | _=>False
inductive TyX (K:Frag) (H:Hp):V→Value→Prop where
 | of {x:V} {t:Value} (h:ak2 K H x t):TyX K H x t
 | exc {a C:Addr} (e:H a=some (Exc (.ref C) a)) (c:D4 K C):TyX K H (.ref a) (.ref C)
 | sqt {a:Addr} {xs:List V} (h:SqT K H a xs):TyX K H (.ref a) (.type "tuple")
 | sql {a:Addr} {xs:List V} (h:SqL K H a xs):TyX K H (.ref a) (.type "list")
def bj6 (K:Frag):List V→Hp→VK→Prop:=fun xs H Q=>∃ x c t b,xs=[x,c]∧isC c∧TyX K H x t∧kitOne K t (bq2 c)=some b∧Q (.bl b) H
theorem j5:X6 X (.builtin "isinstance") (bj6 X.K):=by
 intro pins s σ H us vs Q I r h
 obtain ⟨x,c,t,b,rfl,ic,ty,e,q⟩:=h
 obtain ⟨u,cu,rfl,rx,rc⟩:=p7.two r
 have ec:cu=bq2 c:=by
  cases c with
  | ty n=>exact rc
  | ref a=>exact rc
  | _=>exact False.elim ic
 subst ec
 have fin:∀ tk,EP X pins σ Q (.bool b) { s with toks:=tk }:=fun tk=>⟨.bl b,H,I.tok tk,rfl,q⟩
 cases ty with
 | of ty=>exact aS1 I rx ty e fin
 | @exc a C ea cl=>
  cases (show u=Value.ref a from rx)
  obtain ⟨⟨o,_,h1,h2,_⟩,_⟩:=(show E4 X.prog X.w H s.heap a (Exc (.ref C) a) from I.hok a _ ea)
  exact kia_one (aZ5 cl) I.kIn ⟨o,h1,h2⟩ e (fun z=>nomatch z) fin
 | @sqt a xs h=>
  cases (show u=Value.ref a from rx)
  obtain ⟨_,_,⟨o,h1,h2,_⟩,_⟩:=I.tuple h
  exact kia_one kitx_tuple I.kIn ⟨o,h1,h2⟩ e (fun z=>nomatch z) fin
 | @sql a xs h=>
  cases (show u=Value.ref a from rx)
  obtain ⟨_,_,⟨o,n,h1,h2,_⟩,_⟩:=I.list h
  exact kia_one kitx_list I.kIn ⟨o,h1,h2⟩ e (fun z=>nomatch z) fin
theorem t9:OpR X (binaryOp .Mult) (rI IntMulOk fun i j=>.int (i * j)):=opI fun _ _ _ _ _ _ _ hc q=>mul_int q hc
def ah8 (_ j:Int):Prop:=j≠0∧j.natAbs.log2<9000
theorem B4:OpR X (binaryOp .FloorDiv) (rI ah8 fun i j=>.int (i.fdiv j)):=opI fun _ _ _ _ _ _ _ hc q=>floordiv_int hc.1 q (.inl (PyProof.noPylong_of_log2 hc.2))
end
open PySem PySem.Spec PyProof.Rows
inductive D where
 | v (x:V)
 | tup (ds:List D)
 | lst (ds:List D)
mutual
def eqD:D→D→Bool
 | .v x,.v y=>eqV x y
 | .tup a,.tup b=>K4 a b
 | .lst a,.lst b=>K4 a b
 | _,_=>false
def K4:List D→List D→Bool
 | [],[]=>true
 | x :: xs,y :: ys=>eqD x y && K4 xs ys
 | _,_=>false
end
mutual
def okD:D→D→Bool
 | .v _,.v _=>true
 | .tup a,.tup b=>Z5 a b
 | .lst a,.lst b=>Z5 a b
 | _,_=>false
def Z5:List D→List D→Bool
 | x :: xs,y :: ys=>okD x y && Z5 xs ys
 | _,_=>true
end
mutual
def dpD:D→Nat
 | .v _=>0
 | .tup a=>ac2 a+1
 | .lst a=>ac2 a+1
def ac2:List D→Nat
 | []=>0
 | x :: xs=>max (dpD x) (ac2 xs)
end
mutual
inductive IsD (K:PySem.W.Frag) (H:Hp):V→D→Prop where
 | v {x:V} (f:U9 x=true):IsD K H x (.v x)
 | tup {p:Addr} {xs:List V} {ds:List D} (h:SqT K H p xs) (t:T9 K H xs ds):IsD K H (.ref p) (.tup ds)
 | lst {p:Addr} {xs:List V} {ds:List D} (h:SqL K H p xs) (t:T9 K H xs ds):IsD K H (.ref p) (.lst ds)
inductive T9 (K:PySem.W.Frag) (H:Hp):List V→List D→Prop where
 | nil:T9 K H [] []
 | cons {x:V} {xs:List V} {d:D} {ds:List D} (h:IsD K H x d) (t:T9 K H xs ds):T9 K H (x :: xs) (d :: ds)
end
theorem T9.length {K:PySem.W.Frag} {H:Hp}:∀ {xs:List V} {ds:List D},T9 K H xs ds→xs.length=ds.length
 | _,_,.nil=>rfl
 | _,_,.cons _ t=>congrArg (· + 1) t.length
theorem ba2:∀ {x:V},U9 x=true→eqV x x=true
 | .non,_=>rfl
 | .bl a,_=>by simp [eqV]
 | .int a,_=>by simp [eqV]
 | .str a,_=>by simp [eqV]
 | .byt _,h=>absurd (show false=true from h) Bool.false_ne_true
 | .flt _,h=>absurd (show false=true from h) Bool.false_ne_true
 | .ref _,h=>absurd (show false=true from h) Bool.false_ne_true
 | .ty _,h=>absurd (show false=true from h) Bool.false_ne_true
section
variable {X:Cx} {pins:List (Addr × Obj)} {σ:St} {H:Hp} {s:Shared}
mutual
theorem as3 (I:Inv X pins σ H s):∀ {x:V} {d d':D},IsD X.K H x d→IsD X.K H x d'→okD d d'=true→eqD d d'=true
 | _,_,_,.v f,.v _,_=>by rw [eqD];exact ba2 f
 | _,_,_,.tup h t,.tup h' t',ok=>by
  have e:=I.tuple_inj h h'
  subst e
  rw [eqD]
  rw [okD] at ok
  exact aj6 I t t' ok
 | _,_,_,.lst h t,.lst h' t',ok=>by
  have e:=I.list_inj h h'
  subst e
  rw [eqD]
  rw [okD] at ok
  exact aj6 I t t' ok
 | _,_,_,.v f,.tup _ _,_=>absurd (show false=true from f) Bool.false_ne_true
 | _,_,_,.v f,.lst _ _,_=>absurd (show false=true from f) Bool.false_ne_true
 | _,_,_,.tup _ _,.v f,_=>absurd (show false=true from f) Bool.false_ne_true
 | _,_,_,.lst _ _,.v f,_=>absurd (show false=true from f) Bool.false_ne_true
 | _,_,_,.tup _ _,.lst _ _,ok=>by simp [okD] at ok
 | _,_,_,.lst _ _,.tup _ _,ok=>by simp [okD] at ok
theorem aj6 (I:Inv X pins σ H s):∀ {xs:List V} {ds ds':List D},T9 X.K H xs ds→T9 X.K H xs ds'→Z5 ds ds'=true→K4 ds ds'=true
 | _,_,_,.nil,.nil,_=>by rw [K4]
 | _,_,_,.cons h t,.cons h' t',ok=>by
  rw [Z5,Bool.and_eq_true] at ok
  rw [K4,as3 I h h' ok.1,aj6 I t t' ok.2]
  rfl
end
def aa6 (ds ds':List D) (j:Nat):Bool:=match ds[j]?,ds'[j]? with
 | some d,some d'=>eqD d d'
 | _,_=>true
theorem aa8 (n:Nat) (e:Nat→Bool):(List.range (n+1)).all e=(e 0 && (List.range n).all fun j=>e (j+1)):=by
 rw [List.range_succ_eq_map,List.all_cons,List.all_map];rfl
theorem ac1:∀ (ds ds':List D),((List.range (min ds.length ds'.length)).all (aa6 ds ds') && ds.length == ds'.length)=K4 ds ds'
 | [],[]=>by rw [K4];rfl
 | [],_ :: _=>by simp [K4]
 | _ :: _,[]=>by simp [K4]
 | x :: xs,y :: ys=>by
  have ih:=ac1 xs ys
  rw [K4,←ih]
  have e1:min (x :: xs).length (y :: ys).length=min xs.length ys.length+1:=by simp only [List.length_cons];omega
  rw [e1,aa8]
  have e2:((x :: xs).length == (y :: ys).length)=(xs.length == ys.length):=by
   by_cases h:xs.length=ys.length <;> simp [h]
  rw [e2,Bool.and_assoc]
  rfl
theorem ad2 (ds ds':List D) (h:ds.length=ds'.length):(List.range ds.length).all (aa6 ds ds')=K4 ds ds':=by
 rw [←ac1,←h,Nat.min_self];simp
theorem as2:∀ (ds ds':List D),ds.length≠ds'.length→K4 ds ds'=false
 | [],[],h=>absurd rfl h
 | [],_ :: _,_=>by simp [K4]
 | _ :: _,[],_=>by simp [K4]
 | x :: xs,y :: ys,h=>by
  rw [K4,as2 xs ys (fun e=>h (by simp [e]))];simp
theorem aw6 (I:Inv X pins σ H s) {p p':Addr} {xs ys:List V} {ds ds':List D} {A:Around} (h:SqT X.K H p xs) (t:T9 X.K H xs ds) (h':SqT X.K H p' ys) (t':T9 X.K H ys ds') (hu:A.units<cLine)
  (q:∀ {us vs:List Value},p7 xs us→p7 ys vs→∀ (j:Nat) (h1:j<us.length) (h2:j<vs.length),SeqAt.EqAt A.in1 s us[j] vs[j] (aa6 ds ds' j)):SeqAt.RcAt A s (.ref p) (.ref p') (K4 ds ds'):=by
  obtain ⟨its,r1,i1,_⟩:=I.tuple h
  obtain ⟨its',r2,i2,_⟩:=I.tuple h'
  have z:=SeqAt.RcAt.tuples (A:=A) (items:=its.toArray) (items2:=its'.toArray) (e:=aa6 ds ds') i1 i2 hu (fun j h1 h2=>q r1 r2 j (by simpa using h1) (by simpa using h2))
  have e1:its.toArray.size=ds.length:=by rw [List.size_toArray,←r1.length,t.length]
  have e2:its'.toArray.size=ds'.length:=by rw [List.size_toArray,←r2.length,t'.length]
  rw [e1,e2,ac1] at z
  exact z
theorem aw7 (I:Inv X pins σ H s) {p p':Addr} {xs ys:List V} {ds ds':List D} {A:Around} (h:SqL X.K H p xs) (t:T9 X.K H xs ds) (h':SqL X.K H p' ys) (t':T9 X.K H ys ds') (hu:A.units<cLine)
  (q:∀ {us vs:List Value},p7 xs us→p7 ys vs→∀ (j:Nat) (h1:j<us.length) (h2:j<vs.length),SeqAt.EqAt A.in1 s us[j] vs[j] (aa6 ds ds' j)):SeqAt.RcAt A s (.ref p) (.ref p') (K4 ds ds'):=by
  obtain ⟨its,r1,i1,_⟩:=I.list h
  obtain ⟨its',r2,i2,_⟩:=I.list h'
  have e1:its.toArray.size=ds.length:=by rw [List.size_toArray,←r1.length,t.length]
  have e2:its'.toArray.size=ds'.length:=by rw [List.size_toArray,←r2.length,t'.length]
  by_cases hl:ds.length=ds'.length
  ·have z:=SeqAt.RcAt.lists (A:=A) (items:=its.toArray) (items2:=its'.toArray) (e:=aa6 ds ds') i1.isList i2.isList (by rw [e1,e2,hl]) hu (fun j h1 h2=>q r1 r2 j (by simpa using h1) (by simpa using h2))
   rw [e1,ad2 ds ds' hl] at z
   exact z
  ·rw [as2 ds ds' hl]
   exact SeqAt.RcAt.lists_lengths i1.isList i2.isList (by rw [e1,e2];simpa using hl) hu
mutual
theorem bn0 (I:Inv X pins σ H s):∀ {x y:V} {d d':D} {u v:Value} {A:Around},IsD X.K H x d→IsD X.K H y d'→okD d d'=true→B1 x u→B1 y v→A.units+dpD d<cLine→SeqAt.EqAt A s u v (eqD d d')
 | _,_,_,_,_,_,_,.v f,.v f',_,r,r',_=>by rw [eqD];exact ba6 r r' f f'
 | _,_,_,_,u,v,A,.tup (p:=p) h t,.tup (p:=p') h' t',ok,r,r',hu=>by
  cases (show u=Value.ref p from r)
  cases (show v=Value.ref p' from r')
  by_cases hp:p=p'
  ·subst hp
   rw [as3 I (.tup h t) (.tup h' t') ok]
   exact SeqAt.EqAt.same _
  ·rw [okD] at ok
   rw [dpD] at hu
   rw [eqD]
   exact SeqAt.EqAt.of_refs hp (aw6 I h t h' t' (by omega) fun r1 r2 j h1 h2=>Y9 (A:=A.in1) I t t' ok r1 r2 (by show A.units+1+_<_;omega) j h1 h2)
 | _,_,_,_,u,v,A,.lst (p:=p) h t,.lst (p:=p') h' t',ok,r,r',hu=>by
  cases (show u=Value.ref p from r)
  cases (show v=Value.ref p' from r')
  by_cases hp:p=p'
  ·subst hp
   rw [as3 I (.lst h t) (.lst h' t') ok]
   exact SeqAt.EqAt.same _
  ·rw [okD] at ok
   rw [dpD] at hu
   rw [eqD]
   exact SeqAt.EqAt.of_refs hp (aw7 I h t h' t' (by omega) fun r1 r2 j h1 h2=>Y9 (A:=A.in1) I t t' ok r1 r2 (by show A.units+1+_<_;omega) j h1 h2)
 | _,_,_,_,_,_,_,.v _,.tup _ _,ok,_,_,_=>by simp [okD] at ok
 | _,_,_,_,_,_,_,.v _,.lst _ _,ok,_,_,_=>by simp [okD] at ok
 | _,_,_,_,_,_,_,.tup _ _,.v _,ok,_,_,_=>by simp [okD] at ok
 | _,_,_,_,_,_,_,.lst _ _,.v _,ok,_,_,_=>by simp [okD] at ok
 | _,_,_,_,_,_,_,.tup _ _,.lst _ _,ok,_,_,_=>by simp [okD] at ok
 | _,_,_,_,_,_,_,.lst _ _,.tup _ _,ok,_,_,_=>by simp [okD] at ok
theorem Y9 (I:Inv X pins σ H s):∀ {xs ys:List V} {ds ds':List D} {us vs:List Value} {A:Around},T9 X.K H xs ds→T9 X.K H ys ds'→Z5 ds ds'=true→p7 xs us→p7 ys vs→A.units+ac2 ds<cLine →
  ∀ (j:Nat) (h1:j<us.length) (h2:j<vs.length),SeqAt.EqAt A s us[j] vs[j] (aa6 ds ds' j)
 | _,_,_,_,_,_,_,.nil,_,_,.nil,_,_=>fun j h1 _=>absurd h1 (Nat.not_lt_zero _)
 | _,_,_,_,_,_,_,.cons _ _,.nil,_,_,.nil,_=>fun j _ h2=>absurd h2 (Nat.not_lt_zero _)
 | _,_,_,_,_,_,A,.cons h t,.cons h' t',ok,.cons r rs,.cons r' rs',hu=>fun j h1 h2=>by
  rw [Z5,Bool.and_eq_true] at ok
  rw [ac2] at hu
  cases j with
  | zero=>exact bn0 I h h' ok.1 r r' (by omega)
  | succ j=>exact Y9 I t t' ok.2 rs rs' (by omega) j (by simpa using h1) (by simpa using h2)
end
def D.isV:D→Bool
 | .v _=>true
 | _=>false
def bq9 (K:PySem.W.Frag):R2:=fun x y H Q=>∃ d d',d.isV=false∧IsD K H x d∧IsD K H y d'∧okD d d'=true∧dpD d≤60∧Q (.bl (eqD d d')) H
theorem aB9 (hu:X.A.units+64<cLine):OpR X (compareOp .Eq) (bq9 X.K):=by
 intro pins s σ H x y v u Q I rx ry h
 obtain ⟨d,d',nf,h1,h2,ok,dp,q⟩:=h
 have fin:EP X pins σ Q (.bool (eqD d d')) s:=⟨.bl _,H,I,rfl,q⟩
 cases h1 with
 | v f=>
  cases h2 with
  | v f'=>exact absurd (show true=false from nf) (by decide)
  | tup _ _=>simp [okD] at ok
  | lst _ _=>simp [okD] at ok
 | @tup p xs ds h t=>
  cases h2 with
  | v f'=>simp [okD] at ok
  | @tup p' ys ds' h' t'=>
   cases (show v=Value.ref p from rx)
   cases (show u=Value.ref p' from ry)
   rw [okD] at ok
   rw [dpD] at dp
   rw [eqD] at fin
   exact aw6 I h t h' t' (by omega) (fun r1 r2 j h1 h2=>Y9 (A:=X.A.in1) I t t' ok r1 r2 (by show X.A.units+1+_<_;omega) j h1 h2) X.prog X.w X.xe _ fin
  | lst _ _=>simp [okD] at ok
 | @lst p xs ds h t=>
  cases h2 with
  | v f'=>simp [okD] at ok
  | tup _ _=>simp [okD] at ok
  | @lst p' ys ds' h' t'=>
   cases (show v=Value.ref p from rx)
   cases (show u=Value.ref p' from ry)
   rw [okD] at ok
   rw [dpD] at dp
   rw [eqD] at fin
   exact aw7 I h t h' t' (by omega) (fun r1 r2 j h1 h2=>Y9 (A:=X.A.in1) I t t' ok r1 r2 (by show X.A.units+1+_<_;omega) j h1 h2) X.prog X.w X.xe _ fin
end
open PySem PySem.Spec PyProof.Rows
section
variable {X:Cx}
def aA9:V→List V→Hp→VK→Prop:=fun x vs H Q=>∃ i,x = .int i∧vs=[]∧Q (.int (Builtin.Int.intBits i)) H
theorem ax1:MtM X "int.bit_length" aA9:=by
 intro pins s σ H x vs v us Q I rx rv h
 obtain ⟨i,rfl,rfl,q⟩:=h
 obtain ⟨t,rfl⟩:=rx
 cases p7.zero rv
 exact call_int_bit_length ⟨.int _,H,I.tok _,⟨_,rfl⟩,q⟩
theorem ay1 {x:V}:∀ {xs:List V} {us:List Value},p7 xs us→xs.all U9=true→us.countP (eqU x)=xs.countP fun y=>eqV y x
 | _,_,.nil,_=>rfl
 | y :: xs,u :: us,.cons r t,f=>by
  rw [List.all_cons,Bool.and_eq_true] at f
  rw [List.countP_cons,List.countP_cons,aL8 r f.1,ay1 t f.2]
def aJ7:V→List V→Hp→VK→Prop:=fun x vs H Q=>∃ l xs y,x = .ref l∧vs=[y]∧H l=some (.lst xs)∧U9 y=true∧xs.all U9=true∧Q (.int (xs.countP fun z=>eqV z y)) H
theorem aY9:MtM X "list.count" aJ7:=by
 intro pins s σ H x vs v us Q I rx rv h
 obtain ⟨l,xs,y,rfl,rfl,hH,fy,fx,q⟩:=h
 cases rx
 obtain ⟨u,rfl,ru⟩:=rv.one
 obtain ⟨z,its,n,r,hl,e⟩:=I.lstM hH
 refine call_meets F.slot_list_count ⟨_,e,rfl⟩ F.entry_list_count (F.args_list_count_2 _ _) (SeqAt.list_countAt l its.toArray n none #[] u (eqU y)) ⟨e,fun w hw=>ar5 ru fy r fx w (by simpa using hw),?_⟩
 refine ⟨.int _,H,I.tok _,⟨_,rfl⟩,?_⟩
 rw [show its.toArray.toList=its from rfl,ay1 r fx]
 exact q
theorem aO6 {y:V} {xs:List V} {us:List Value} (r:p7 xs us) (f:xs.all U9=true) (j:Nat) (hj:j<us.length) (hx:j<xs.length):eqU y us[j]=eqV xs[j] y:=by
 obtain ⟨u,e1,e2⟩:=r.get (List.getElem?_eq_getElem hx)
 have e3:us[j]=u:=by rw [List.getElem?_eq_getElem hj] at e1;exact Option.some.inj e1
 rw [e3]
 exact aL8 e2 (List.all_eq_true.mp f _ (List.getElem_mem hx))
def aJ6:V→List V→Hp→VK→Prop:=fun x vs H Q=>∃ l xs y j,x = .ref l∧vs=[y]∧H l=some (.lst xs)∧U9 y=true∧xs.all U9=true∧(xs.findIdx? fun z=>eqV z y)=some j∧Q (.int (j:Nat)) H
theorem aY8:MtM X "list.index" aJ6:=by
  intro pins s σ H x vs v us Q I rx rv h
  obtain ⟨l,xs,y,j,rfl,rfl,hH,fy,fx,hi,q⟩:=h
  cases rx
  obtain ⟨u,rfl,ru⟩:=rv.one
  obtain ⟨z,its,n,r,hl,e⟩:=I.lstM hH
  obtain ⟨hj,h1,h2⟩:=List.findIdx?_eq_some_iff_getElem.mp hi
  have hz:xs.length<2 ^ 63:=Nat.lt_of_le_of_lt z af1
  refine call_meets F.slot_list_index ⟨_, e, rfl⟩ F.entry_list_index (F.args_list_index_2 _ _) (SeqAt.list_indexAt l its.toArray n none #[] u (eqU y) j (by simpa [← hl] using hj) (by have : (xs.length : Int) < 2 ^ 63 := by exact_mod_cast hz
                                                                                                                                                                                       omega) ?_ ?_) ⟨e, fun w hw => ar5 ru fy r fx w (by simpa using hw), ?_⟩
  · rw [show its.toArray[j]'(by simpa [←hl] using hj)=its[j]'(by rw [←hl];exact hj) from rfl,aO6 r fx j _ hj];exact h1
  · intro m hm hlt
    have hm':m<its.length:=by simpa using hm
    rw [show its.toArray[m]'hm=its[m]'hm' from rfl,aO6 r fx m _ (by rw [hl];exact hm')]
    have:=h2 m hlt
    simpa using this
  · exact ⟨.int _,H,I.tok _,⟨_,rfl⟩,q⟩
theorem aw1:∀ (t:Nat) (ps:List Str),p7 (ps.map V.str) (strsFrom t ps)
 | _,[]=>.nil
 | t,p :: ps=>.cons ⟨_,rfl⟩ (aw1 (t+1) ps)
def ab8 (x y:Str):List Str:=Builtin.Str.partsBetween x (Builtin.Str.occurrences x y 0 x.length (x.length+1)) y.length
def aJ4:V→List V→Hp→VK→Prop:=fun v vs H Q=>∃ x y,v = .str x∧vs=[.str y]∧(decide (x.length<y.length) || decide (Builtin.Str.strKind x<Builtin.Str.strKind y))=false∧(y.length == 0)=false ∧
 (Builtin.Str.occurrences x y 0 x.length (x.length+1)).isEmpty=false∧x.length≤sizeLine∧(ab8 x y).length≤sizeLine∧∀ l,H l=none→Q (.ref l) (upd H l (.lst ((ab8 x y).map V.str)))
theorem aY7:MtM X "str.split" aJ4:=by
 intro pins s σ H x vs v us Q I rx rv h
 obtain ⟨x',y,rfl,rfl,h1,h2,h3,h4,h5,q⟩:=h
 obtain ⟨t,rfl⟩:=rx
 obtain ⟨u,rfl,t',rfl⟩:=rv.one
 refine call_meets F.slot_str_split rfl F.entry_str_split (F.args_str_split_2 _ _) (meets_str_split_sep x' y t t' h1 h2 h3 h4 h5) ?_
 exact ⟨.ref _,_,I.lnew (ys:=(ab8 x' y).map V.str) (aw1 _ _) (by rw [List.length_map];exact h5),rfl,q _ I.fresh⟩
end
open PySem PySem.Spec PyProof.Rows
structure Df (K:PySem.W.Frag) (mg:Str→Option Value) (x:Str) (st:Stmt) (ps:List Str) (f:Addr):Prop where
 ex:∃ fd,Fun K x x st f fd∧ab3 K fd ps []
 m:mg x=some (.ref f)
structure Def (P:Program) (w:World) (K:PySem.W.Frag) (mg:Str→Option Value) (base:Heap) (CX:CXT) (k:Nat) (x:Str) (f:Addr) (ps:List Str) (sp:Sp):Prop where
 ex:∃ fd,ab1 P w K mg base CX k f fd ps sp∧ab3 K fd ps []
 m:mg x=some (.ref f)
 kp:PySem.W.keepIn K (.ref f)=true
structure bg7 (P:Program) (w:World) (K:PySem.W.Frag) (mg:Str→Option Value) (base:Heap) (k:Nat) (x:Str) (f:Addr) (ps:List Str) (sp:Sp):Prop where
 ex:∃ fd,aP6 P w K mg base k f fd ps sp∧ab3 K fd ps []
 m:mg x=some (.ref f)
 kp:PySem.W.keepIn K (.ref f)=true
section
variable {P:Program} {w:World} {K:PySem.W.Frag} {mg:Str→Option Value} {base:Heap} {k:Nat} {x:Str} {f:Addr} {ps N:List Str} {sp:Sp} {st:Stmt} {CX:CXT}
theorem Df.ok (d:Df K mg x st ps f) (S:i9 N ps (d3 st)) (len:∀ vs H Q E,sp vs H Q E→vs.length=ps.length)
  (hbody:∀ (cdv:Value) (A:Around) (outer:List Env) (s:Shared) (H:Hp) (vs:List V) (Q:VK) (E:XK),V0 k (A.deeper (envOfC x (d3 st) s.heap.objs.size f cdv))→sp vs H Q E →
   ∃ t,PSs (am7 CX0 P w K mg base N x (d3 st) f cdv A outer s H E).nox (g9 st) t∧t { nx:=fun _ H'=>Q .non H',rt:=Q } (start N vs) H):Def P w K mg base CX0 (k+1) x f ps sp:=by
 obtain ⟨fd,F,b⟩:=d.ex
 exact ⟨⟨fd,F.ok S len hbody,b⟩,d.m,F.kp⟩
theorem Df.okR (d:Df K mg x st ps f) (S:i9 N ps (d3 st)) (len:∀ vs H Q E,sp vs H Q E→vs.length=ps.length)
  (hbody:∀ (cdv:Value) (A:Around) (outer:List Env) (s:Shared) (H:Hp) (vs:List V) (Q:VK) (E:XK),V0 k (A.deeper (envOfC x (d3 st) s.heap.objs.size f cdv))→sp vs H Q E →
   ∃ t,PSs (cxR P w K mg base N x (d3 st) f cdv A outer s H E) (g9 st) t∧t { nx:=fun _ H'=>Q .non H',rt:=Q } (start N vs) H):Def P w K mg base (CXR P w) (k+1) x f ps sp:=by
 obtain ⟨fd,F,b⟩:=d.ex
 have kp:=F.kp
 obtain ⟨oc,od,kV,doc,pm,an,cdv,ct,osl,rfl,lk,hcd⟩:=F.ex
 exact ⟨⟨_,bi2 lk hcd S len fun A outer s H vs Q E hr hsp=>hbody cdv A outer s H vs Q E hr hsp,b⟩,d.m,kp⟩
theorem Df.okX (d:Df K mg x st ps f) (S:i9 N ps (d3 st)) (len:∀ vs H Q E,sp vs H Q E→vs.length=ps.length)
  (hbody:∀ (cdv:Value) (A:Around) (outer:List Env) (s:Shared) (H:Hp) (vs:List V) (Q:VK) (E:XK),O2 k (A.deeper (envOfC x (d3 st) s.heap.objs.size f cdv))→sp vs H Q E →
   ∃ t,PSs (cxX P w K mg base N x (d3 st) f cdv A outer s H E) (g9 st) t∧t { nx:=fun _ H'=>Q .non H',rt:=Q } (start N vs) H):bg7 P w K mg base (k+1) x f ps sp:=by
 obtain ⟨fd,F,b⟩:=d.ex
 exact ⟨⟨fd,F.okX S len hbody,b⟩,d.m,F.kp⟩
theorem Def.imp {sp':Sp} (d:Def P w K mg base CX k x f ps sp) (h:∀ vs H Q E,sp' vs H Q E→sp vs H Q E):Def P w K mg base CX k x f ps sp':=
 let ⟨fd,F,b⟩:=d.ex
 ⟨⟨fd,F.imp h,b⟩,d.m,d.kp⟩
end
section
variable {X:Cx} {CX:CXT} {k j:Nat} {f:Addr} {ps:List Str} {sp:Sp} {E:XK} {x:Str} {p pos:Pos} {e:Expr} {es:List Expr} {t:TA}
def bc7 (sp:Sp) (E:XK) (t:TA):TE:=fun σ H Q=>t σ H fun vs H1=>sp vs H1 Q E
theorem d7 (d:Def X.prog X.w X.K X.mg X.base CX j x f ps sp) (hr:V0 k X.A) (ha:PA X (e :: es) t) (hx:ak3 CX X E) (hj:j≤k:=by decide) (hg:Gl X x:=by rfl)
  (hdb:(x == ("__debug__" : Str))=false:=by decide) (he:starEach (e :: es) X.env=(false,eval e X.env) :: starEach es X.env:=by rfl) (hpl:(backTo pos (starEach es X.env)).any (·.1)=false:=by rfl) :
  PE X (.Call (.Name x p) (e :: es) [] pos) (bc7 sp E t):=by
 obtain ⟨fd,F,b⟩:=d.ex
 have z:=be1 (E:=E) (es:=es) (e:=e) (p:=p) (pos:=pos) (F.mono hj) hr hg d.m d.kp b .nil hx ha hdb he hpl
 intro pins s σ H Q I h
 refine z pins s σ H Q I ?_
 unfold bg9
 simpa only [List.append_nil,bc7] using h
theorem be0 (d:bg7 X.prog X.w X.K X.mg X.base j x f ps sp) (hr:O2 k X.A) (ha:PA X (e :: es) t) (hj:j≤k:=by decide) (hg:Gl X x:=by rfl)
  (hdb:(x == ("__debug__" : Str))=false:=by decide) (he:starEach (e :: es) X.env=(false,eval e X.env) :: starEach es X.env:=by rfl) (hpl:(backTo pos (starEach es X.env)).any (·.1)=false:=by rfl) :
  PE X (.Call (.Name x p) (e :: es) [] pos) (az5 sp t):=by
 obtain ⟨fd,F,b⟩:=d.ex
 exact aX8 F (hr.mono hj) hg d.m d.kp b ha hdb he hpl
end
theorem d5.new {H:Hp} {p:Addr} (h:H p=none) (o:HO):d5 H (upd H p o):=fun b u q=>by rw [j3 (j4 q h)];exact q
theorem d5.tup {K:PySem.W.Frag} {H H':Hp} {a:Addr} {xs:List V} (e:d5 H H') (h:SqT K H a xs):SqT K H' a xs:=by
 rcases h with h | h
 ·rcases h with h | ⟨o,h⟩
  ·exact .inl (.inl (e _ _ h))
  ·exact .inl (.inr ⟨o,e _ _ h⟩)
 ·exact .inr h
open PySem PySem.Spec PyProof.Rows
section
variable {prog:Program} {w:World} {A:Around} {R:Result→Shared→Prop} {s:Shared}
theorem aj9 {elt target iter:Expr} {scope:Scope} {pos:Pos} {it acc:Value} {env:Env} (I:Nat→Shared→Prop)
  (turn:∀ n s,I n s→wpAny (model prog w) A (pyNext it) (fun r s₁=>match r with
   | none=>R (.ok .next) s₁
   | some v=>wpAny (model prog w) A (letOwnedTupleGo target it v) (fun _ s₁'=>wpAny (model prog w) A (assign target env v) (fun _ s₂=>wpAny (model prog w) A (eval elt env) (fun x s₃=>
     wpAny (model prog w) A (call (.builtin "list.append") [acc,x]) (fun _ s₄=>∃ m,m<n∧I m s₄) (fun _ _=>False) s₃)
     (fun _ _=>False) s₂) (fun _ _=>False) s₁') (fun _ _=>False) s₁) (fun _ _=>False) s)
  (n:Nat) (h:I n s) :
  codeAny (model prog w) A (.compLoop (.ListComp elt [⟨target,iter,[],0⟩] scope pos) 0 it acc env) R s:=by
 refine codeAny_loop rfl I (fun n s hI=>?_) n h
 show wpAny _ _ ((compTurn (.ListComp elt [⟨target,iter,[],0⟩] scope pos) 0 it acc env).onRaise (fun x=>do noteFrame x env;theTreesLotGoes x)) _ _ s
 refine wpAny_noted ?_
 rw [compTurn_list1]
 have no:∀ {P:Value→Shared→Prop} (e:Value) (s:Shared),False→P e s:=fun _ _ h=>h.elim
 refine wpAny_bind (wpAny_standAt (wpAny_bind (wpAny_mono (turn n s hI) (fun r s₁ h₁=>?_) no)))
 cases r with
 | none=>exact wpAny_pure h₁
 | some v=>
  refine wpAny_bind (wpAny_mono h₁ (fun _ s₁' h₁'=>?_) no)
  exact wpAny_bind (wpAny_mono h₁' (fun _ s₂ h₂=>wpAny_bind (wpAny_bind (wpAny_mono h₂ (fun x s₃ h₃=>wpAny_bind (wpAny_mono h₃
   (fun _ s₄ h₄=>wpAny_pure (wpAny_pure ⟨rfl,h₄⟩)) no)) no))) no)
end
abbrev Cx.block (X:Cx) (scope:Scope) (cl:List (Str × Addr)) (C:Addr) (Nc:List Str) (s₂:Shared) (H₂:Hp) (fp:List Addr) (pins:List (Addr × Obj)):Cx:=
 { X with N:=Nc,s₀:=s₂,H₀:=H₂,env:=compEnvC scope cl C X.env,outer:=X.stack,ex:=fp,fn:=fun _=>false,pn:=X.pn++pins,xe:=fun _ _=>False }
def O1 (caps:List (Option Nat)) (σ:St):St:=caps.map fun o=>o.bind fun j=>(σ[j]?).join
def aM9 (wi:TI) (caps:List (Option Nat)) (g:TG) (te:TE):TE:=fun σ H Q=>wi σ H fun J H1=>∀ D,H1 D=none→∃ W:Nat→Nat→St→Hp→Prop,(∃ m,W 0 m (O1 caps σ) (upd H1 D (.lst []))) ∧
 ∀ i m σc H2,W i m σc H2→(J.stop i H2∧Q (.ref D) H2) ∨
  (J.go i H2∧∀ x H3,J.yld i H2 x H3→g x σc H3 fun σ4 H4=>te σ4 H4 fun y H5=>∃ ys,H5 D=some (.lst ys)∧ys.length<sizeLine∧∃ m',m'<m∧W (i+1) m' σ4 (upd H5 D (.lst (ys++[y]))))
section
variable {X:Cx}
structure X5 (X:Cx) (scope:Scope) (cl:List (Str × Addr)) (Nc:List Str) (caps:List (Option Nat)):Prop where
 clos:closureFor scope X.env=pure cl
 sub:∀ x c,cl.lookup x=some c→X.env.cells.lookup x=some c
 has:∀ x,(relabel scope X.env).names.lookup x=some .cell∨(relabel scope X.env).names.lookup x=some .free→∃ c,cl.lookup x=some c
 nocell:∀ x∈scope.names,x.2≠.cell
 kind:scope.kind = .function
 names:∀ x∈scope.names,x.2 = .local→scope.names.lookup x.1=some .local
 len:caps.length=Nc.length
 cap:∀ (i j:Nat) (x:Str),caps[i]? = some (some j)→Nc[i]? = some x→X.N[j]? = some x∧Vis X.env.scope x∧X.env.kindOf x≠some .local∧((relabel scope X.env).names.lookup x=some .cell∨(relabel scope X.env).names.lookup x=some .free)
theorem Inv.sameC {pins:List (Addr × Obj)} {σ:St} {H H':Hp} {s s':Shared} {h'':Heap} {fp:List Addr} {C:Addr} (I:Inv X pins σ H s) (hf:∀ b∈fp,ak4 X pins H b) (os:s'.os=s.os) (bare:AllBare s'.gens)
  (un:Un (frs X.stack) fp H H' s.heap s'.heap) (hok:HOk X.prog X.w H' s'.heap) (hC:s.heap.objs.size≤C) (hCn:H' C=none) (sb:Heap.SameBut C s'.heap h''):Inv X pins σ H' { s' with heap:=h'' }:=by
 have ne:∀ b o,s.heap.get? b=some o→b≠C:=fun b o e=>Nat.ne_of_lt (Nat.lt_of_lt_of_le (Heap.lt_size e) hC)
 refine I.call' (s':={ s' with heap:=h'' }) (ch:=fp) os ⟨fun b o e n h1 h2=>(sb.2 b (ne b o e)).trans (un.keep b o e n h1 h2),fun b o e n h1 h2=>?_,un.free,fun b o e h2=>?_,un.tups,un.frzs,un.tbls⟩ (fun b u e=>?_) bare (fun b hb=>?_)
 ·obtain ⟨sl,z⟩:=un.slot b o e n h1 h2
  exact ⟨sl,(sb.2 b (ne b o e)).trans z⟩
 ·obtain ⟨o',z⟩:=un.there b o e h2
  exact ⟨o',(sb.2 b (ne b o e)).trans z⟩
 ·refine (hok b u e).stay (fun c v hc q=>(sb.2 c ?_).trans q) (fun _ q=>q) fun _ _ q=>q
  rintro rfl
  rcases hc with rfl | hc
  ·rw [hCn] at e;cases e
  ·rw [hCn] at hc;cases hc
 ·obtain ⟨_,f1,_,f3,f4,f5⟩:=hf b hb
  exact ⟨f3,f1,f4,f5⟩
theorem N6 {elt tg iter:Expr} {scope:Scope} {pos:Pos} {cl:List (Str × Addr)} {Nc:List Str} {caps:List (Option Nat)} {wi:TI} {g:TG} {te:TE} (hc:X.calm=true) (cp:X5 X scope cl Nc caps) (hi:PI X tg iter wi)
  (hg:∀ C s₂ H₂ fp pins,PG (X.block scope cl C Nc s₂ H₂ fp pins) tg g) (he:∀ C s₂ H₂ fp pins,PE (X.block scope cl C Nc s₂ H₂ fp pins) elt te) (hs:∀ x,foldedSetIterable iter X.env x=pure x:=by intro _;rfl) :
  PE X (.ListComp elt [⟨tg,iter,[],0⟩] scope pos) (aM9 wi caps g te):=by
 intro pins s σ H Q I h
 rw [eval_ListComp]
 refine wpAny_comprehension_free (use:=none) rfl hs cp.clos cp.kind cp.names ?_
 refine thn (hi pins s σ H _ I h) fun v s1 h1=>thn h1 fun itv s2 h2=>?_
 obtain ⟨it,fp,tn,J,H2,e,I2,T,st2,f2,hW⟩:=h2
 subst e
 refine wpAny_newObj_type ?_ (by show 0≤sizeLine;exact Nat.zero_le _)
 refine wpAny_newFunctionEnv cp.nocell (by intro y hy;simp at hy) (fun h4 hns hsb=>?_) cp.kind
 dsimp only at hns hsb ⊢
 generalize hH3:s2.heap.push { cls:=.type "list",dict:=none,data:=.seq ([]:List Value).toArray }=H3 at hns hsb ⊢
 have hCe:H3.objs.size=s2.heap.objs.size+1:=by rw [←hH3,Heap.size_push]
 have R0:∀ b o,s2.heap.get? b=some o→b≠H3.objs.size:=fun b o e=>by rw [hCe];exact Nat.ne_of_lt (Nat.lt_succ_of_lt (Heap.lt_size e))
 have old:∀ b o,s2.heap.get? b=some o→h4.get? b=some o:=fun b o e=>hsb.extBut b o (R0 b o e) (Heap.get?_push_of_some _ (hH3 ▸ Heap.get?_push_of_some _ e))
 have hD:h4.get? s2.heap.objs.size=some { cls:=.type "list",dict:=none,data:=.seq ([]:List Value).toArray }:=
  hsb.extBut _ _ (by rw [hCe];exact Nat.ne_of_lt (Nat.lt_succ_self _)) (Heap.get?_push_of_some _ (hH3 ▸ Heap.get?_push_size _ rfl))
 have hDn:H2 s2.heap.objs.size=none:=I2.fresh
 have hCn:H2 H3.objs.size=none:=I2.hok.fresh (by rw [hCe];exact Nat.le_succ _)
 have hCs:s2.heap.objs.size≤H3.objs.size:=by rw [hCe];exact Nat.le_succ _
 have hDC:s2.heap.objs.size≠H3.objs.size:=by rw [hCe];exact Nat.ne_of_lt (Nat.lt_succ_self _)
 have fpl:∀ b∈fp,∃ o,s2.heap.get? b=some o:=fun b hb=>let ⟨o,e,_⟩:=T.obj _ _ st2 b hb;⟨o,e⟩
 have fpC:∀ b∈fp,b≠H3.objs.size:=fun b hb=>let ⟨o,e⟩:=fpl b hb;R0 b o e
 have fpD:∀ b∈fp,b≠s2.heap.objs.size:=fun b hb=>let ⟨o,e⟩:=fpl b hb;Nat.ne_of_lt (Heap.lt_size e)
 have stkN:∀ b,b≠X.env.locals→b ∉ X.fs→b ∉ frs X.stack:=fun b h1 h2 z=>(List.mem_cons.mp (I2.stkSub b z)).elim h1 h2
 obtain ⟨W,⟨m0,w0⟩,turn⟩:=hW s2.heap.objs.size hDn
 have okB:(X.block scope cl H3.objs.size Nc s2 H2 fp pins).Ok:=by
  refine ⟨I2.ok.mod,?_,I2.ok.glob,I2.ok.blt,hCs,fun x y c h1 h2=>I2.ok.inj x y c (cp.sub x c h1) (cp.sub y c h2),fun x hx=>cp.has x hx,fun x c h=>(by cases h),I2.ok.hd,I2.ok.frames,.inl rfl,fun b hb=>⟨fpC b hb,fun x c h=>(f2 b hb).2.2.2.2.1 x c (cp.sub x c h)⟩,I2.bs,Nat.le_trans I2.ok.bsz I2.sz,fun b o e hb=>?_,fun b hb=>stkN b (f2 b hb).2.1 (f2 b hb).2.2.1,I2.stack,I2.stkFree⟩
  ·exact cp.kind
  ·rcases (f2 b hb).2.2.2.1 with z | z
   ·exact I2.ok.noex b o e z
   ·exact absurd (Nat.lt_of_lt_of_le (Heap.lt_size e) (Nat.le_trans I2.ok.bsz z)) (Nat.lt_irrefl _)
 have hokB:HOk X.prog X.w (upd H2 s2.heap.objs.size (.lst [])) h4:=I2.hok.laid old (Nat.le_refl _) ⟨Nat.zero_le _,[],_,.nil,hD⟩
 have IB:Inv (X.block scope cl H3.objs.size Nc s2 H2 fp pins) [] (O1 caps σ) (upd H2 s2.heap.objs.size (.lst [])) { s2 with heap:=h4,toks:=s2.toks+([]:List (Str × Value)).length }:=by
  refine ⟨okB,rfl,I2.bare,Un.laid old (Nat.le_refl _) hDn,⟨_,hns,fun i x v e1 e2 e3=>?_⟩,fun x c e=>?_,(show upd H2 s2.heap.objs.size (.lst []) H3.objs.size=none by rw [j3 (Ne.symm hDC)];exact hCn),fun x c e=>?_,fun p hp=>?_,hokB,?_⟩
  ·unfold O1 at e2
   rw [List.getElem?_map] at e2
   cases hcap:caps[i]? with
   | none=>rw [hcap] at e2;cases e2
   | some o=>
    rw [hcap] at e2
    cases o with
    | none=>cases e2
    | some j=>
     have hj:σ[j]? = some (some v):=by
      have e2':(σ[j]?).join=some v:=Option.some.inj e2
      cases q:σ[j]? with
      | none=>rw [q] at e2';cases e2'
      | some z=>rw [q] at e2';exact congrArg some e2'
     obtain ⟨n1,n2,n3,n4⟩:=cp.cap i j x hcap e1
     obtain ⟨m,hm,hl⟩:=I2.loc
     obtain ⟨u,r,q⟩:=hl j x v n1 hj n2
     rcases q with ⟨k,_⟩ | ⟨k,c,ec,z⟩
     ·exact absurd k n3
     ·obtain ⟨c',ec'⟩:=cp.has x n4
      have:=cp.sub x c' ec'
      rw [ec] at this;cases this
      obtain ⟨oc,ho,hd⟩:=z
      exact ⟨u,r,.inr ⟨n4,c,ec',oc,old _ _ ho,hd⟩⟩
  ·obtain ⟨v,oc,ho,hd⟩:=I2.cell x c (cp.sub x c e)
   exact ⟨v,oc,old _ _ ho,hd⟩
  ·obtain ⟨v,oc,ho,hd⟩:=I2.cell x c (cp.sub x c e)
   rw [j3 (Nat.ne_of_lt (Heap.lt_size ho))]
   exact I2.freeC x c (cp.sub x c e)
  ·have hp':p∈X.pn++pins:=by simpa using hp
   obtain ⟨e1,e2,e3,e4,e5⟩:=I2.pin p hp'
   exact ⟨old _ _ e1,by rw [j3 (Nat.ne_of_lt (Heap.lt_size e1))];exact e2,R0 _ _ e1,stkN _ e3 e4,e5⟩
  ·show (O1 caps σ).length=Nc.length
   unfold O1
   rw [List.length_map];exact cp.len
 have stat:∀ {H':Hp},(∀ b∈fp,H' b=none)→∀ b∈fp,ak4 (X.block scope cl H3.objs.size Nc s2 H2 fp pins) [] H' b:=fun hn b hb=>
  ⟨hn b hb,fpC b hb,stkN b (f2 b hb).2.1 (f2 b hb).2.2.1,.inl hb,fun x c h=>(f2 b hb).2.2.2.2.1 x c (cp.sub x c h),fun p hp=>(f2 b hb).2.2.2.2.2 p (by simpa using hp)⟩
 have loop:∀ s5:Shared,s5={ s2 with heap:=h4,toks:=s2.toks+([]:List (Str × Value)).length } →
   codeAny (model X.prog X.w) X.A (.compLoop (.ListComp elt [⟨tg,iter,[],0⟩] scope pos) 0 (.ref it) (.ref s2.heap.objs.size) (compEnvC scope cl H3.objs.size X.env))
    (compPost (model X.prog X.w) X.A X.xe none (EP X pins σ Q) (.ref s2.heap.objs.size) H3.objs.size) s5:=by
  rintro s5 rfl
  refine aj9 (fun n s'=>∃ i σ' H',Inv (X.block scope cl H3.objs.size Nc s2 H2 fp pins) [] σ' H' s'∧tn i s'.heap∧(∀ b∈fp,H' b=none)∧W i n σ' H') ?_ m0 ⟨0,_,_,IB,T.keep _ _ _ st2 fun b hb o e=>old b o e,fun b hb=>by rw [j3 (fpD b hb)];exact (f2 b hb).1,w0⟩
  rintro n s6 ⟨i,σ6,H6,I6,st6,fr6,w6⟩
  rcases turn i n σ6 H6 w6 with ⟨stop,qn⟩ | ⟨go,step⟩
  ·refine thn (T.done (X.block scope cl H3.objs.size Nc s2 H2 fp pins) rfl rfl rfl hc i [] s6 σ6 H6 _ I6 (stat fr6) st6 stop) fun r s7 ⟨hr,I7⟩=>?_
   subst hr
   obtain ⟨m7,hn7,_⟩:=id I7.loc
   exact ⟨m7,hn7,fun h' sb=>⟨.ref s2.heap.objs.size,H6,I2.sameC f2 I7.os I7.bare I7.base I7.hok hCs I7.free sb,rfl,qn⟩⟩
  ·refine thn (T.item (X.block scope cl H3.objs.size Nc s2 H2 fp pins) rfl rfl rfl hc i [] s6 σ6 H6 _ I6 (stat fr6) st6 go) fun r s7 ⟨u,hr,h7⟩=>?_
   subst hr
   refine thn h7 fun _ s8 ⟨x,H8,I8,r8,y8,st8,fr8⟩=>?_
   have I8':=I8.pinned (stat fr8) (T.obj _ _ st8)
   refine thn (hg _ _ _ _ _ _ s8 σ6 H8 x u _ I8' r8 (step x H8 y8)) fun _ s9 ⟨σ9,H9,I9,q9⟩=>?_
   refine thn (he _ _ _ _ _ _ s9 σ9 H9 _ I9 q9) fun u10 s10 ⟨v10,H10,I10,r10,ys,hys,hlen,m',hm',w'⟩=>?_
   refine thn (W4 _ s10 σ9 H10 (.ref s2.heap.objs.size) [v10] (.ref s2.heap.objs.size) [u10] (fun _ H11=>H11=upd H10 s2.heap.objs.size (.lst (ys++[v10]))) I10 rfl (.cons r10 .nil) ⟨_,ys,v10,rfl,rfl,hys,hlen,rfl⟩) fun _ s11 ⟨_,H11,I11,_,hH11⟩=>?_
   subst hH11
   refine ⟨m',hm',i+1,σ9,_,I11.unpinned,T.keep _ _ _ st8 fun b hb o e=>(I11.pin (b,o) (List.mem_append_right _ (List.mem_append_right _ (D3 hb e)))).1,fun b hb=>?_,w'⟩
   obtain ⟨o,e,d⟩:=T.obj _ _ st8 b hb
   exact (I11.pin (b,o) (List.mem_append_right _ (List.mem_append_right _ (D3 hb e)))).2.1
 exact codeAny_compStart_list (loop _ rfl) (T.self _ 0 _ _ _ (T.keep _ _ _ st2 fun b hb o e=>old b o e) (loop _ rfl))
end
open PySem PySem.Spec PyProof.Rows
def Q7 (scope osc:Scope):List (Str × NameKind):=scope.names.map fun (n,k)=>if (k == .free && osc.kind == .function && osc.names.lookup n == some .cell) then (n,.cell) else (n,k)
def aS2 (o:Option NameKind):Bool:=o == some .cell || o == some .free
def bb7 (scope osc:Scope) (N ks Nc:List Str) (caps:List (Option Nat)):Bool:=
 ((Q7 scope osc).all fun y=>!(y.2 == .cell || y.2 == .free) || ks.contains y.1) && (scope.names.all fun y=>y.2 != .cell) && scope.kind == .function &&
 (scope.names.all fun y=>y.2 != .local || scope.names.lookup y.1 == some .local) && caps.length == Nc.length &&
 ((caps.zip Nc).all fun p=>match p.1 with
  | none=>true
  | some j=>N[j]? == some p.2 && aS2 (osc.names.lookup p.2) && aS2 ((Q7 scope osc).lookup p.2))
theorem af0 {α β:Type} [BEq α] [LawfulBEq α]:∀ {l:List (α × β)} {x : α} {v : β},l.lookup x=some v→(x,v)∈l
 | [],_,_,h=>by simp at h
 | (a,b) :: r,x,v,h=>by
  rw [List.lookup_cons] at h
  split at h
  ·rename_i e
   have:=eq_of_beq e
   subst this
   cases h
   exact List.mem_cons_self
  ·exact List.mem_cons_of_mem _ (af0 h)
theorem P7 {β:Type}:∀ {l:List (Str × β)} {x:Str},x∈l.map (·.1)→∃ c,l.lookup x=some c
 | [],_,h=>by simp at h
 | (a,b) :: r,x,h=>by
  rw [List.lookup_cons]
  by_cases e:x=a
  ·subst e;exact ⟨b,by simp⟩
  ·have:(x == a)=false:=by simpa using e
   rw [this]
   rcases List.mem_cons.mp h with z | z
   ·exact absurd z e
   ·exact P7 z
theorem ao6 {o:Option NameKind} (h:aS2 o=true):o=some .cell∨o=some .free:=by
 unfold aS2 at h
 simp only [Bool.or_eq_true,beq_iff_eq] at h
 exact h
theorem X5.of {X:Cx} {scope osc:Scope} {cl:List (Str × Addr)} {N ks Nc:List Str} {caps:List (Option Nat)} (clos:closureFor scope X.env=pure cl) (hN:X.N=N) (hosc:X.env.scope=osc) (hks:cl.map (·.1)=ks)
  (sub:∀ x c,cl.lookup x=some c→X.env.cells.lookup x=some c) (ok:bb7 scope osc N ks Nc caps=true):X5 X scope cl Nc caps:=by
 unfold bb7 at ok
 simp only [Bool.and_eq_true,List.all_eq_true,beq_iff_eq,Bool.or_eq_true,Bool.not_eq_true',bne_iff_ne,ne_eq] at ok
 obtain ⟨⟨⟨⟨⟨o1,o2⟩,o3⟩,o4⟩,o5⟩,o6⟩:=ok
 have er:(relabel scope X.env).names=Q7 scope osc:=by subst hosc;rfl
 have kof:∀ x,X.env.kindOf x=osc.names.lookup x:=fun x=>by subst hosc;rfl
 refine ⟨clos,sub,fun x h=>?_,fun x hx=>o2 x hx,o3,fun x hx hl=>?_,o5,fun i j x h1 h2=>?_⟩
 ·rw [er] at h
  refine P7 ?_
  rw [hks]
  have key:∀ k,(Q7 scope osc).lookup x=some k→(k = .cell∨k = .free)→x∈ks:=fun k hk hcf=>by
   rcases o1 (x,k) (af0 hk) with z | z
   ·rcases hcf with rfl | rfl <;> simp at z
   ·simpa using z
  rcases h with h | h
  ·exact key _ h (.inl rfl)
  ·exact key _ h (.inr rfl)
 ·rcases o4 x hx with z | z
  ·exact absurd hl z
  ·exact z
 ·have hm:(some j,x)∈caps.zip Nc:=by
   have:(caps.zip Nc)[i]? = some (some j,x):=by
    rw [List.getElem?_zip_eq_some];exact ⟨h1,h2⟩
   exact List.mem_of_getElem? this
  have z:=o6 _ hm
  simp only [Bool.and_eq_true,beq_iff_eq] at z
  obtain ⟨⟨z1,z2⟩,z3⟩:=z
  have c2:=ao6 z2
  have c3:=ao6 z3
  refine ⟨by rw [hN];exact z1,?_,?_,?_⟩
  ·rw [hosc]
   rcases c2 with c | c
   ·exact .inr (.inl c)
   ·exact .inr (.inr c)
  ·rw [kof]
   rcases c2 with c | c <;> rw [c] <;> decide
  ·rw [er];exact c3
open PySem PySem.Spec PyProof.Rows
section
variable {X:Cx} {pins:List (Addr × Obj)} {σ:St} {H:Hp} {s:Shared}
theorem Inv.turnLaid {h':Heap} {t':Nat} {fp:List Addr} {a:Addr} {o:HO} (I:Inv X pins σ H s) (hf:∀ b∈fp,ak4 X pins H b)
  (k:∀ b u,b ∉ fp→s.heap.get? b=some u→h'.get? b=some u) (hp:s.heap.objs.size≤a) (new:E4 X.prog X.w (upd H a o) h' a o):Inv X pins σ (upd H a o) { s with heap:=h',toks:=t' }:=by
 have hn:H a=none:=I.hok.fresh hp
 have nf:∀ b u,H b=some u→b ∉ fp:=fun b u e z=>by rw [(hf b z).1] at e;cases e
 have ne:∀ b u,s.heap.get? b=some u→b≠a:=fun b u e=>Nat.ne_of_lt (Nat.lt_of_lt_of_le (Heap.lt_size e) hp)
 refine I.step (g':=s.gens) (d':=s.drawn) (ch:=fp) (fun b hb=>?_) (fun b o _ _ hc e _=>k b o hc e) (fun b o _ _ hc e _=>⟨o.slots,k b o hc e⟩) (fun b o _ e n=>by rw [j3 (ne b o e)];exact n)
  (fun b o hc e=>⟨o,k b o hc e⟩) (fun b xs e=>by rw [j3 (j4 e hn)];exact e) (fun b o u e=>by rw [j3 (j4 e hn)];exact e) (fun b ps e=>⟨#[],by rw [j3 (j4 e hn),e];simp⟩) (fun m hm=>?_) (fun b u e=>?_) I.bare
 ·obtain ⟨_,f1,_,f3,f4,f5⟩:=hf b hb
  exact ⟨f3,f1,f4,f5⟩
 ·obtain ⟨o,es,ep,ho,r⟩:=hm
  exact ⟨o,es,ep,k _ o (fun z=>(hf _ z).2.1 rfl) ho,r⟩
 ·by_cases hb:b=a
  ·subst hb;rw [b8] at e;cases e;exact new
  ·rw [j3 hb] at e
   refine (I.hok b u e).stay (fun c v hc q=>k c v ?_ q) (fun c q=>by rw [j3 (j4 q hn)];exact q) fun c xs q=>by rw [j3 (j4 q hn)];exact q
   rcases hc with z | z
   ·rw [z];exact nf b u e
   ·exact nf c _ z
end
def Ite (K:PySem.W.Frag) (a:Addr):It:=
 ⟨fun i H=>∃ xs x,SqL K H a xs∧xs[i]? = some x,fun i H y H'=>∀ xs,SqL K H a xs→∃ x p,xs[i]? = some x∧H p=none∧y = .ref p∧H'=upd H p (.tup [.int i,x]),fun i H=>∃ xs,SqL K H a xs∧xs.length≤i⟩
theorem aP9 {P:Program} {w:World} {K:PySem.W.Frag} {elts:List Expr} {k:Nat} {tpos:Pos} (a e it:Addr) (hei:e≠it) :
  aM4 P w K (.Tuple elts k tpos) (Ite K a) [e,it] e (fun i h=>(∃ old,IsEnum h e it ((i:Nat):Int) old)∧h.IsListIter it a i) where
 mem:=by simp
 obj:=fun i h st b hb=>by
  obtain ⟨⟨old,he⟩,hit⟩:=st
  rcases (by simpa using hb:b=e∨b=it) with z | z
  ·subst z
   exact ⟨_,he,fun v z=>by cases z⟩
  ·subst z
   obtain ⟨o,e,c,d⟩:=hit
   exact ⟨o,e,fun v z=>by rw [d] at z;cases z⟩
 keep:=fun i h h' st k=>⟨let ⟨old,he⟩:=st.1;⟨old,k e (by simp) _ he⟩,st.2.at fun o e=>k it (by simp) o e⟩
 item:=by
  intro X hP hw hK hc i pins s σ H E I hf st hg
  subst hP hw hK
  obtain ⟨xs,x,hq,hx⟩:=hg
  obtain ⟨its,rv,p,hz⟩:=I.list hq
  obtain ⟨u,hu,ru⟩:=rv.get hx
  obtain ⟨⟨old,he⟩,hit⟩:=st
  have helt:e<s.heap.objs.size:=Heap.lt_size he
  have hilt:it<s.heap.objs.size:=by obtain ⟨_,x,_⟩:=id hit;exact Heap.lt_size x
  refine wpAny_pyNext_enum_item he hit p.isList (x:=u) (by simpa using hu) hei fun h' ho hit' hT hsz kk=>?_
  refine ⟨_,rfl,?_⟩
  refine wpAny_letOwnedTupleGo_enum (s:={ s with heap:=h',toks:=s.toks+1 }) ho fun h'' he' sb=>?_
  have hT':h''.get? s.heap.objs.size=some { cls:=.type "tuple",data:=.seq #[.int i s.toks,u] }:=(sb.2 _ (Nat.ne_of_gt helt)).trans hT
  refine ⟨.ref s.heap.objs.size,upd H s.heap.objs.size (.tup [.int i,x]),I.turnLaid (fp:=[e,it]) (t':=s.toks+1) hf (fun b v hb q=>?_) (Nat.le_refl _) ?_,rfl,?_,?_,fun b hb=>?_⟩
  ·have h1:b≠e:=fun z=>hb (by simp [z])
   have h2:b≠it:=fun z=>hb (by simp [z])
   exact (sb.2 b h1).trans (kk b v h1 h2 q)
  ·exact ⟨(show 2≤sizeLine by decide +kernel),[.int i s.toks,u],.cons ⟨_,rfl⟩ (.cons ru .nil),_,hT',rfl,_,rfl⟩
  ·intro ys hy
   rw [I.list_inj hy hq]
   exact ⟨x,_,hx,I.fresh,rfl,rfl⟩
  ·refine ⟨⟨u,by have:=he';simpa using this⟩,hit'.at fun o q=>(sb.2 it hei.symm).trans q⟩
  ·have hlt:b<s.heap.objs.size:=by
    rcases (by simpa using hb:b=e∨b=it) with z | z
    ·rw [z];exact helt
    ·rw [z];exact hilt
   rw [j3 (Nat.ne_of_lt hlt)]
   exact (hf b hb).1
 done:=by
  intro X hP hw hK hc i pins s σ H E I hf st hg
  subst hP hw hK
  obtain ⟨xs,hq,hx⟩:=hg
  obtain ⟨its,rv,p,hz⟩:=I.list hq
  obtain ⟨⟨old,he⟩,hit⟩:=st
  obtain ⟨f0,f1,f2,f3,f4,f5⟩:=hf it (by simp)
  have hl:=rv.length
  exact wpAny_pyNext_enum_end (I.ok.hd hc) he hit p.isList (by simp;omega) fun h' eb=>⟨rfl,I.turned (t':=s.toks) (fun b o hb e=>eb b o hb e) f0 f1 f3 f4 f5⟩
 self:=fun _ _ _ _ _ st h=>by
  obtain ⟨⟨old,he⟩,_⟩:=st
  exact wpAny_pyIter_enum he h
section
variable {X:Cx}
def aO4 (K:PySem.W.Frag) (ta:TA):TI:=fun σ H R=>ta σ H fun vs H1=>∃ a,vs=[.ref a]∧(∃ xs,SqL K H1 a xs)∧R (Ite K a) H1
theorem ao4 {elts:List Expr} {k:Nat} {tpos:Pos} {l:Expr} {ta:TA} {p pos:Pos} (hg:Gl X "enumerate") (hm:X.mg "enumerate" = none) (ha:PA X [l] ta) (hs:starEach [l] X.env=[(false,eval l X.env)]:=by rfl) :
  PI X (.Tuple elts k tpos) (.Call (.Name "enumerate" p) [l] [] pos) (aO4 X.K ta):=by
 intro pins s σ H R I h
 refine Call_ (af2 I hg hm (u:=.type "enumerate") (by decide +kernel) (PyProof.Rows.callWith_type1 (thn (ha pos pins s σ H _ I h) fun us s1 ⟨vs,H1,I1,r1,q1⟩=>?_) hs rfl))
 obtain ⟨a,e,⟨xs,hq⟩,q⟩:=q1
 subst e
 obtain ⟨u,rfl,rx⟩:=ac5 r1
 cases rx
 obtain ⟨its,rv,p,hz⟩:=I1.list hq
 refine call_enumerate_list p.isList fun h' he hit hsz kk=>?_
 refine wpAny_pyIter_enum he ?_
 have I2:Inv X pins σ H1 { s1 with heap:=h' }:=I1.kept (t':=s1.toks) kk
 refine ⟨s1.heap.objs.size+1,[s1.heap.objs.size+1,s1.heap.objs.size],_,_,H1,rfl,I2,aP9 a _ _ (Nat.succ_ne_self _),⟨⟨_,he⟩,hit⟩,fun b hb=>?_,q⟩
 have hb':s1.heap.objs.size≤b:=by
  rcases (by simpa using hb:b=s1.heap.objs.size+1∨b=s1.heap.objs.size) with z | z
  ·rw [z];exact Nat.le_succ _
  ·rw [z];exact Nat.le_refl _
 obtain ⟨f0,f1,f2,f3,f4,f5⟩:=I1.fpOk (H':=H1) hb' (I1.hok.fresh hb')
 exact ⟨f0,f1,f2,f3,f4,f5⟩
end
def bc8 (wi:TI) (caps:List (Option Nat)) (g:TG) (tt:TT) (te:TE):TE:=fun σ H Q=>wi σ H fun J H1=>∀ D,H1 D=none→∃ W:Nat→Nat→St→Hp→Prop,(∃ m,W 0 m (O1 caps σ) (upd H1 D (.lst []))) ∧
 ∀ i m σc H2,W i m σc H2→(J.stop i H2∧Q (.ref D) H2) ∨
  (J.go i H2∧∀ x H3,J.yld i H2 x H3→g x σc H3 fun σ4 H4=>tt σ4 H4 fun b H4'=>if b=true then te σ4 H4' fun y H5=>∃ ys,H5 D=some (.lst ys)∧ys.length<sizeLine∧∃ m',m'<m∧W (i+1) m' σ4 (upd H5 D (.lst (ys++[y])))
   else ∃ m',m'<m∧W (i+1) m' σ4 H4')
open PySem PySem.Spec PyProof.Rows
section
variable {X:Cx}
theorem av9 (bs:List Bool):(List.range bs.length).all (fun i=>(bs[i]?).getD true)=bs.all id:=by
 induction bs with
 | nil=>rfl
 | cons b bs ih=>
  rw [List.length_cons,aa8,List.all_cons,←ih]
  rfl
theorem ah7 (hc:X.calm=true):X6 X (.builtin "all") (fun xs H Q=>∃ (p:Addr) (bs:List Bool),xs=[.ref p]∧SqL X.K H p (bs.map V.bl)∧Q (.bl (bs.all id)) H):=by
 intro pins s σ H xs us Q I r h
 obtain ⟨p,bs,rfl,hq,q⟩:=h
 obtain ⟨u,rfl,rx⟩:=ac5 r
 cases rx
 obtain ⟨its,r',pl,hz⟩:=I.list hq
 have hlen:its.length=bs.length:=by rw [←r'.length,List.length_map]
 have hp:p≠s.heap.objs.size:=by
  obtain ⟨o,ho,_⟩:=pl.isList
  exact Nat.ne_of_lt (Heap.lt_size ho)
 refine call_all_walk (wpAny_pyIter_list pl.isList ?_)
 refine ⟨s.heap.objs.size,_,_,_,_,_,fun i=>(bs[i]?).getD true,rfl,Walks.list (A:=X.A.in1) (I.ok.hd hc) _ p hp its.toArray,⟨⟨_,Heap.get?_push_size _ rfl,rfl,rfl⟩,pl.isList.at fun o e=>Heap.get?_push_of_some _ e⟩,?_,?_⟩
 ·intro i v s' Q' E' hv hQ
  have hv':its[i]? = some v:=by simpa using hv
  have hi:i<bs.length:=by rw [←hlen];exact (List.getElem?_eq_some_iff.mp hv').1
  obtain ⟨u,hu,ru⟩:=r'.get (i:=i) (x:=.bl bs[i]) (by rw [List.getElem?_map,List.getElem?_eq_getElem hi];rfl)
  rw [hv'] at hu
  cases hu
  cases ru
  simp only [List.getElem?_eq_getElem hi] at hQ
  exact wpAny_truthy_bool hQ
 ·intro h' tk kk
  have e:(List.range its.toArray.size).all (fun i=>(bs[i]?).getD true)=bs.all id:=by rw [List.size_toArray,hlen,av9]
  rw [e]
  refine ⟨.bl _,H,I.kept (t':=tk) fun b o e=>kk b o ?_ (Heap.get?_push_of_some _ e),rfl,q⟩
  intro z
  have:b=s.heap.objs.size:=by simpa using z
  exact absurd (Heap.lt_size e) (by rw [this];exact Nat.lt_irrefl _)
def bq8 (K:PySem.W.Frag):R2:=fun x y H Q=>∃ d d',d.isV=false∧IsD K H x d∧IsD K H y d'∧okD d d'=true∧dpD d≤60∧Q (.bl (!eqD d d')) H
theorem aB8 (hu:X.A.units+64<cLine):OpR X (compareOp .NotEq) (bq8 X.K):=by
 intro pins s σ H x y v u Q I rx ry h
 obtain ⟨d,d',nf,h1,h2,ok,dp,q⟩:=h
 have fin:EP X pins σ Q (.bool (!eqD d d')) s:=⟨.bl _,H,I,rfl,q⟩
 cases h1 with
 | v f=>
  cases h2 with
  | v f'=>exact absurd (show true=false from nf) (by decide)
  | tup _ _=>simp [okD] at ok
  | lst _ _=>simp [okD] at ok
 | @tup p xs ds h t=>
  cases h2 with
  | v f'=>simp [okD] at ok
  | @tup p' ys ds' h' t'=>
   cases (show v=Value.ref p from rx)
   cases (show u=Value.ref p' from ry)
   rw [okD] at ok
   rw [dpD] at dp
   rw [eqD] at fin
   obtain ⟨its,r1,i1,_⟩:=I.tuple h
   obtain ⟨its',r2,i2,_⟩:=I.tuple h'
   have q':∀ (j:Nat) (h1:j<its.length) (h2:j<its'.length),SeqAt.EqAt X.A.in1 s its[j] its'[j] (aa6 ds ds' j):=fun j h1 h2=>Y9 (A:=X.A.in1) I t t' ok r1 r2 (by show X.A.units+1+_<_;omega) j h1 h2
   have z:=SeqAt.RcNeAt.tuples (A:=X.A) (items:=its.toArray) (items2:=its'.toArray) (e:=aa6 ds ds') i1 i2 (by omega) (fun j h1 h2=>q' j (by simpa using h1) (by simpa using h2))
   have e1:its.toArray.size=ds.length:=by rw [List.size_toArray,←r1.length,t.length]
   have e2:its'.toArray.size=ds'.length:=by rw [List.size_toArray,←r2.length,t'.length]
   rw [e1,e2,ac1] at z
   exact PySem.EqBoolInt.of_rcne z fin
  | lst _ _=>simp [okD] at ok
 | @lst p xs ds h t=>
  cases h2 with
  | v f'=>simp [okD] at ok
  | tup _ _=>simp [okD] at ok
  | @lst p' ys ds' h' t'=>
   cases (show v=Value.ref p from rx)
   cases (show u=Value.ref p' from ry)
   rw [okD] at ok
   rw [dpD] at dp
   rw [eqD] at fin
   obtain ⟨its,r1,i1,_⟩:=I.list h
   obtain ⟨its',r2,i2,_⟩:=I.list h'
   have q':∀ (j:Nat) (h1:j<its.length) (h2:j<its'.length),SeqAt.EqAt X.A.in1 s its[j] its'[j] (aa6 ds ds' j):=fun j h1 h2=>Y9 (A:=X.A.in1) I t t' ok r1 r2 (by show X.A.units+1+_<_;omega) j h1 h2
   have e1:its.toArray.size=ds.length:=by rw [List.size_toArray,←r1.length,t.length]
   have e2:its'.toArray.size=ds'.length:=by rw [List.size_toArray,←r2.length,t'.length]
   by_cases hl:ds.length=ds'.length
   ·have z:=SeqAt.RcNeAt.lists (A:=X.A) (items:=its.toArray) (items2:=its'.toArray) (e:=aa6 ds ds') i1.isList i2.isList (by rw [e1,e2,hl]) (by omega) (fun j h1 h2=>q' j (by simpa using h1) (by simpa using h2))
    rw [e1,ad2 ds ds' hl] at z
    exact PySem.EqBoolInt.of_rcne z fin
   ·rw [as2 ds ds' hl] at fin
    exact PySem.EqBoolInt.of_rcne (SeqAt.RcNeAt.lists_lengths (A:=X.A) i1.isList i2.isList (by rw [e1,e2];simpa using hl) (by omega)) fin
def aq7 (xs:List V) (lo hi st:Option Int):List V:=
 (sliceRange (sliceBounds lo hi st xs.length).1 (sliceBounds lo hi st xs.length).2.1 (sliceBounds lo hi st xs.length).2.2).filterMap (xs[·]?)
theorem p7.picks {xs:List V} {us:List Value} (r:p7 xs us):∀ ks:List Nat,p7 (ks.filterMap (xs[·]?)) (ks.filterMap (us[·]?))
 | []=>.nil
 | k :: ks=>by
  rw [List.filterMap_cons,List.filterMap_cons]
  cases h:xs[k]? with
  | none=>rw [r.none_of h];exact r.picks ks
  | some x=>
   obtain ⟨u,hu,ru⟩:=r.get h
   rw [hu]
   exact .cons ru (r.picks ks)
def bi5 (K:PySem.W.Frag) (te:TE) (tl th tk:TO):TE:=fun σ H Q=>te σ H fun x H1=>tl σ H1 fun l H2=>th σ H2 fun u H3=>tk σ H3 fun k H4=>
 ∃ a xs,x = .ref a∧SqL K H4 a xs∧k≠some 0∧∀ p,H4 p=none→Q (.ref p) (upd H4 p (.lst (aq7 xs l u k)))
theorem aw9 {e:Expr} {te:TE} {lo hi:Option Expr} {st:Expr} {tl th tk:TO} {pos p2:Pos} (he:PE X e te) (hl:PO X lo tl) (hu:PO X hi th) (hk:PO X (some st) tk):PE X (.Subscript e (.Slice lo hi (some st) p2) pos) (bi5 X.K te tl th tk):=by
 intro pins s σ H Q I h
 refine Subscript_ (thn (he pins s σ H _ I h) fun v s1 ⟨x,H1,I1,r1,q1⟩=>?_)
 refine wpAny_Slice (thn (hl pins s1 σ H1 _ I1 q1) fun vl s2 ⟨l,H2,I2,pl,q2⟩=>thn (hu pins s2 σ H2 _ I2 q2) fun vu s3 ⟨u,H3,I3,pu,q3⟩=>thn (hk pins s3 σ H3 _ I3 q3) fun vk s4 ⟨k,H4,I4,pk,q4⟩=>?_)
 obtain ⟨a,xs,rfl,hq,h0,q⟩:=q4
 cases r1
 have I5:Inv X pins σ H4 { s4 with heap:=s4.heap.push { cls:=.type "slice",data:=.fields #[vl,vu,vk] } }:=I4.kept (t':=s4.toks) fun b ob q=>Heap.get?_push_of_some _ q
 obtain ⟨its,r,ht,hz⟩:=I5.list hq
 have hlen:=r.length
 show wpAny (model X.prog X.w) X.A (subscriptTail e (.Slice lo hi (some st) p2) (.ref a) (.ref s4.heap.objs.size)) (EP X pins σ Q) X.xe { s4 with heap:=s4.heap.push { cls:=.type "slice",data:=.fields #[vl,vu,vk] } }
 refine tail_any (ops:=[.ref a,.ref s4.heap.objs.size]) (s:={ s4 with heap:=s4.heap.push { cls:=.type "slice",data:=.fields #[vl,vu,vk] } }) (T:="list") ht.isList.typeIs slot_list_getitem.lookup ?_ (by with_unfolding_all rfl)
 refine wpAny_getItem_list_slice ht.isList (Heap.IsSliceOf.new ..) pl pu pk h0 ?_ (by rw [List.size_toArray] <;> omega)
 have ep:(slicePick its.toArray l u k)=((sliceRange (sliceBounds l u k xs.length).1 (sliceBounds l u k xs.length).2.1 (sliceBounds l u k xs.length).2.2).filterMap (its[·]?)).toArray:=by
  unfold slicePick
  rw [List.size_toArray,←hlen]
  simp
 rw [ep]
 have hv:p7 (aq7 xs l u k) ((sliceRange (sliceBounds l u k xs.length).1 (sliceBounds l u k xs.length).2.1 (sliceBounds l u k xs.length).2.2).filterMap (its[·]?)):=p7.picks r _
 have hsz:=slicePick_size_le its.toArray l u k
 rw [ep,List.size_toArray,List.size_toArray,←hv.length] at hsz
 refine ⟨.ref _,_,I5.laid (t':=s4.toks) (o:=.lst (aq7 xs l u k)) (fun b ob q=>Heap.get?_push_of_some _ q) (Nat.le_refl _) ?_,rfl,q _ (I5.hok.fresh (Nat.le_refl _))⟩
 exact ⟨by omega,_,0,hv,Heap.get?_push_size _ rfl⟩
end
def D5 (D:Addr) (n:Nat) (Pv:Nat→St→Hp→Prop) (i:Nat) (σ4:St) (y:V) (H5:Hp):Prop:=
 ∃ ys,H5 D=some (.lst ys)∧ys.length<sizeLine∧∃ m',m'<n - i∧(m'=n - (i+1)∧i+1≤n∧Pv (i+1) σ4 (upd H5 D (.lst (ys++[y]))))
theorem D5.mk {D:Addr} {n:Nat} {Pv:Nat→St→Hp→Prop} {i:Nat} {σ4:St} {y:V} {H5:Hp} {ys:List V} (hi:i<n) (h:H5 D=some (.lst ys)) (hl:ys.length<sizeLine) (p:Pv (i+1) σ4 (upd H5 D (.lst (ys++[y])))):D5 D n Pv i σ4 y H5:=
 ⟨ys,h,hl,_,by omega,rfl,hi,p⟩
section
variable {K:PySem.W.Frag} {a D:Addr} {xs:List V} {g:TG} {te:TE} {σ0:St} {H0:Hp} {Q:VK}
theorem aT1 (Pv:Nat→St→Hp→Prop) (h0:Pv 0 σ0 H0) (hl:∀ i σ H,i≤xs.length→Pv i σ H→SqL K H a xs)
  (hs:∀ i x σ H,xs[i]? = some x→Pv i σ H→g x σ H fun σ4 H4=>te σ4 H4 fun y H5=>D5 D xs.length Pv i σ4 y H5) (hd:∀ σ H,Pv xs.length σ H→Q (.ref D) H) :
  ∃ W:Nat→Nat→St→Hp→Prop,(∃ m,W 0 m σ0 H0)∧∀ i m σc H2,W i m σc H2→((Itl K a).stop i H2∧Q (.ref D) H2) ∨
   ((Itl K a).go i H2∧∀ x H3,(Itl K a).yld i H2 x H3→g x σc H3 fun σ4 H4=>te σ4 H4 fun y H5=>∃ ys,H5 D=some (.lst ys)∧ys.length<sizeLine∧∃ m',m'<m∧W (i+1) m' σ4 (upd H5 D (.lst (ys++[y])))):=by
 refine ⟨fun i m σ H=>m=xs.length - i∧i≤xs.length∧Pv i σ H,⟨xs.length,by simp,Nat.zero_le _,h0⟩,?_⟩
 rintro i m σ H ⟨rfl,hi,p⟩
 have q:=hl i σ H hi p
 by_cases hlt:i<xs.length
 ·refine .inr ⟨⟨xs,xs[i],q,List.getElem?_eq_getElem hlt⟩,?_⟩
  rintro x H3 ⟨rfl,hx⟩
  exact hs i x σ _ (hx xs q) p
 ·have e:i=xs.length:=by omega
  subst e
  exact .inl ⟨⟨xs,q,Nat.le_refl _⟩,hd σ H p⟩
theorem bb6 (Pv:Nat→St→Hp→Prop) (h0:Pv 0 σ0 H0) (hl:∀ i σ H,i≤xs.length→Pv i σ H→SqT K H a xs)
  (hs:∀ i x σ H,xs[i]? = some x→Pv i σ H→g x σ H fun σ4 H4=>te σ4 H4 fun y H5=>D5 D xs.length Pv i σ4 y H5) (hd:∀ σ H,Pv xs.length σ H→Q (.ref D) H) :
  ∃ W:Nat→Nat→St→Hp→Prop,(∃ m,W 0 m σ0 H0)∧∀ i m σc H2,W i m σc H2→((Itt K a).stop i H2∧Q (.ref D) H2) ∨
   ((Itt K a).go i H2∧∀ x H3,(Itt K a).yld i H2 x H3→g x σc H3 fun σ4 H4=>te σ4 H4 fun y H5=>∃ ys,H5 D=some (.lst ys)∧ys.length<sizeLine∧∃ m',m'<m∧W (i+1) m' σ4 (upd H5 D (.lst (ys++[y])))):=by
 refine ⟨fun i m σ H=>m=xs.length - i∧i≤xs.length∧Pv i σ H,⟨xs.length,by simp,Nat.zero_le _,h0⟩,?_⟩
 rintro i m σ H ⟨rfl,hi,p⟩
 have q:=hl i σ H hi p
 by_cases hlt:i<xs.length
 ·refine .inr ⟨⟨xs,xs[i],q,List.getElem?_eq_getElem hlt⟩,?_⟩
  rintro x H3 ⟨rfl,hx⟩
  exact hs i x σ _ (hx xs q) p
 ·have e:i=xs.length:=by omega
  subst e
  exact .inl ⟨⟨xs,q,Nat.le_refl _⟩,hd σ H p⟩
theorem aM2 {lo:Int} {n:Nat} (Pv:Nat→St→Hp→Prop) (h0:Pv 0 σ0 H0)
  (hs:∀ i σ H,i<n→Pv i σ H→g (.int (lo+i)) σ H fun σ4 H4=>te σ4 H4 fun y H5=>D5 D n Pv i σ4 y H5) (hd:∀ σ H,Pv n σ H→Q (.ref D) H) :
  ∃ W:Nat→Nat→St→Hp→Prop,(∃ m,W 0 m σ0 H0)∧∀ i m σc H2,W i m σc H2→((Itr lo n).stop i H2∧Q (.ref D) H2) ∨
   ((Itr lo n).go i H2∧∀ x H3,(Itr lo n).yld i H2 x H3→g x σc H3 fun σ4 H4=>te σ4 H4 fun y H5=>∃ ys,H5 D=some (.lst ys)∧ys.length<sizeLine∧∃ m',m'<m∧W (i+1) m' σ4 (upd H5 D (.lst (ys++[y])))):=by
 refine ⟨fun i m σ H=>m=n - i∧i≤n∧Pv i σ H,⟨n,by simp,Nat.zero_le _,h0⟩,?_⟩
 rintro i m σ H ⟨rfl,hi,p⟩
 by_cases hlt:i<n
 ·refine .inr ⟨hlt,?_⟩
  rintro x H3 ⟨rfl,rfl⟩
  exact hs i σ _ hlt p
 ·have e:i=n:=by omega
  subst e
  exact .inl ⟨Nat.le_refl _,hd σ H p⟩
end
end L2
namespace R
theorem U6 {n d:Int} (hd:0<d) (hc:Int.gcd n d=1):(Rat.divInt n d).num=n∧((Rat.divInt n d).den:Int)=d:=by
 obtain ⟨k,rfl⟩:∃ k:Nat,d=k:=⟨d.toNat,by omega⟩
 have hk:k≠0:=by omega
 have hc':n.natAbs.Coprime k:=by
  rw [Int.gcd_eq_natAbs_gcd_natAbs] at hc
  simpa [Nat.Coprime] using hc
 have e:(⟨n,k,hk,hc'⟩:Rat)=Rat.divInt n k:=Rat.mk_eq_divInt
 rw [←e]
 exact ⟨rfl,rfl⟩
theorem T6 {n d t b:Int} (hd:0<d) (hc:Int.gcd n d=1) (hb:b≠0) (h:n * b=t * d):n=(Rat.divInt t b).num∧d=((Rat.divInt t b).den:Int):=by
 have e:Rat.divInt n d=Rat.divInt t b:=(Rat.divInt_eq_divInt_iff (by omega) hb).mpr h
 obtain ⟨h1,h2⟩:=U6 hd hc
 rw [e] at h1 h2
 exact ⟨h1.symm,h2.symm⟩
theorem j7 {g n:Int} (hg:g≠0):(g * n).fdiv g=n:=by
 rw [Int.mul_comm];exact Int.mul_fdiv_cancel n hg
theorem G3 {t b:Int} (hb:b≠0):0<Int.gcd t b:=Int.gcd_pos_of_ne_zero_right t hb
theorem L6 {t b n d:Int} (hb:b≠0) (h1:t=(Int.gcd t b:Int) * n) (h2:b=(Int.gcd t b:Int) * d):Int.gcd n d=1:=by
 have hg:=G3 (t:=t) hb
 have e:Int.gcd ((Int.gcd t b:Int) * n) ((Int.gcd t b:Int) * d)=Int.gcd t b * Int.gcd n d:=by
  rw [Int.gcd_mul_left];simp
 rw [←h1,←h2] at e
 exact Nat.eq_of_mul_eq_mul_left hg (by rw [←e,Nat.mul_one])
theorem aD3 {t b g:Int} (hb:b≠0) (hg:g=if b<0 then -(Int.gcd t b:Int) else (Int.gcd t b:Int)):t.fdiv g=(Rat.divInt t b).num∧b.fdiv g=((Rat.divInt t b).den:Int):=by
  have hp:(0:Int)<Int.gcd t b:=by have:=G3 (t:=t) hb;omega
  obtain ⟨n,hn⟩:=Int.gcd_dvd_left t b
  obtain ⟨d,hd⟩:=Int.gcd_dvd_right t b
  have hc:=L6 hb hn hd
  by_cases hs:b<0
  · rw [if_pos hs] at hg
    subst hg
    have hg0:(-(Int.gcd t b:Int))≠0:=by omega
    have e1:t = -(Int.gcd t b:Int) * (-n):=by rw [Int.neg_mul_neg];exact hn
    have e2:b = -(Int.gcd t b:Int) * (-d):=by rw [Int.neg_mul_neg];exact hd
    have f1 : t.fdiv (-(Int.gcd t b : Int)) = -n := by conv => lhs; arg 1; rw [e1]
                                                       exact j7 hg0
    have f2 : b.fdiv (-(Int.gcd t b : Int)) = -d := by conv => lhs; arg 1; rw [e2]
                                                       exact j7 hg0
    rw [f1,f2]
    have hd0:0 < -d:=by
      rcases Int.lt_or_le d 0 with z | z
      · omega
      · have:=Int.mul_nonneg (Int.le_of_lt hp) z;omega
    refine T6 hd0 (by rw [Int.gcd_neg,Int.neg_gcd];exact hc) hb ?_
    conv=>lhs;rw [hd]
    conv=>rhs;rw [hn]
    generalize (Int.gcd t b:Int)=g
    grind
  · rw [if_neg hs] at hg
    subst hg
    have hg0:((Int.gcd t b:Int))≠0:=by omega
    have f1 : t.fdiv (Int.gcd t b : Int) = n := by conv => lhs; arg 1; rw [hn]
                                                   exact j7 hg0
    have f2 : b.fdiv (Int.gcd t b : Int) = d := by conv => lhs; arg 1; rw [hd]
                                                   exact j7 hg0
    rw [f1,f2]
    have hd0:0<d:=by
      rcases Int.lt_or_le 0 d with z | z
      · exact z
      · have:=Int.mul_nonneg (Int.le_of_lt hp) (show 0≤-d by omega);rw [Int.mul_neg] at this;omega
    refine T6 hd0 hc hb ?_
    conv=>lhs;rw [hd]
    conv=>rhs;rw [hn]
    generalize (Int.gcd t b:Int)=g
    grind
theorem V3 {x y:Int} (h:∀ k:Int,k ∣ x→k ∣ y→k ∣ 1):Int.gcd x y=1:=by
 have:=h (Int.gcd x y:Int) (Int.gcd_dvd_left x y) (Int.gcd_dvd_right x y)
 have h2:=Int.natAbs_dvd_natAbs.mpr this
 simpa using h2
theorem Z0 {x y k:Int} (h:Int.gcd x y=1) (h1:k ∣ x) (h2:k ∣ y):k ∣ 1:=by
 have:=Int.dvd_coe_gcd h1 h2
 rw [h] at this
 simpa using this
theorem L7 {k m n:Int} (h1:Int.gcd k m=1) (h2:Int.gcd k n=1):Int.gcd k (m * n)=1:=by
 rw [Int.gcd_eq_natAbs_gcd_natAbs] at *
 rw [Int.natAbs_mul]
 exact Nat.Coprime.mul_right h1 h2
theorem ah6 {k m:Int} (h1:Int.gcd k m=1):Int.gcd m k=1:=by rw [Int.gcd_comm];exact h1
theorem aE0 {k m n:Int} (h1:Int.gcd k m=1) (h:n ∣ m):Int.gcd k n=1:=V3 fun j a b=>Z0 h1 a (Int.dvd_trans b h)
theorem N9 {k m n:Int} (h1:Int.gcd k m=1) (h:n ∣ k):Int.gcd n m=1:=V3 fun j a b=>Z0 h1 (Int.dvd_trans a h) b
theorem as5 {k m n:Int} (h1:Int.gcd k m=1) (h:k ∣ m * n):k ∣ n:=by
 rw [Int.gcd_eq_natAbs_gcd_natAbs] at h1
 have:=Int.natAbs_dvd_natAbs.mpr h
 rw [Int.natAbs_mul] at this
 exact Int.natAbs_dvd_natAbs.mp (Nat.Coprime.dvd_of_dvd_mul_left h1 this)
theorem bd9 {a b c d g top h:Int} (hb:0<b) (hd:0<d) (h1:Int.gcd a b=1) (h2:Int.gcd c d=1) (hg:g=(Int.gcd b d:Int)) (ht:top=a * d.fdiv g+c * b.fdiv g) (hh:h=(Int.gcd top g:Int)) :
  0<b.fdiv g * d.fdiv h∧Int.gcd (top.fdiv h) (b.fdiv g * d.fdiv h)=1∧top.fdiv h * (b * d)=(a * d+c * b) * (b.fdiv g * d.fdiv h):=by
 have hgp:0<g:=by rw [hg];have:=G3 (t:=b) (b:=d) (by omega);omega
 have hhp:0<h:=by rw [hh];have:=G3 (t:=top) (b:=g) (by omega);omega
 obtain ⟨b',hb'⟩:g ∣ b:=hg ▸ Int.gcd_dvd_left b d
 obtain ⟨d',hd'⟩:g ∣ d:=hg ▸ Int.gcd_dvd_right b d
 have hc:Int.gcd b' d'=1:=L6 (t:=b) (b:=d) (by omega) (by rw [←hg];exact hb') (by rw [←hg];exact hd')
 have eb:b.fdiv g=b':=by rw [hb'];exact j7 (by omega)
 have ed:d.fdiv g=d':=by rw [hd'];exact j7 (by omega)
 rw [eb,ed] at ht
 obtain ⟨n,hn⟩:h ∣ top:=hh ▸ Int.gcd_dvd_left top g
 obtain ⟨g',hg'⟩:h ∣ g:=hh ▸ Int.gcd_dvd_right top g
 have hng:Int.gcd n g'=1:=L6 (t:=top) (b:=g) (by omega) (by rw [←hh];exact hn) (by rw [←hh];exact hg')
 have en:top.fdiv h=n:=by rw [hn];exact j7 (by omega)
 have edh:d.fdiv h=g' * d':=by
  have:d=h * (g' * d'):=by rw [hd',hg',Int.mul_assoc]
  rw [this];exact j7 (by omega)
 rw [eb,en,edh]
 have bp:0<b':=by
  rcases Int.lt_or_le 0 b' with z | z
  ·exact z
  ·have:=Int.mul_nonneg (Int.le_of_lt hgp) (show 0≤-b' by omega);rw [Int.mul_neg] at this;omega
 have dp:0<d':=by
  rcases Int.lt_or_le 0 d' with z | z
  ·exact z
  ·have:=Int.mul_nonneg (Int.le_of_lt hgp) (show 0≤-d' by omega);rw [Int.mul_neg] at this;omega
 have gp:0<g':=by
  rcases Int.lt_or_le 0 g' with z | z
  ·exact z
  ·have:=Int.mul_nonneg (Int.le_of_lt hhp) (show 0≤-g' by omega);rw [Int.mul_neg] at this;omega
 have t1:Int.gcd top b'=1:=V3 fun k ka kb=>by
  have k1:k ∣ a * d':=by
   have:k ∣ top - c * b':=Int.dvd_sub ka (Int.dvd_trans kb (Int.dvd_mul_left _ _))
   rw [ht] at this
   simpa using this
  have k2:k ∣ a:=by
   rw [Int.mul_comm] at k1
   exact as5 (N9 hc kb) k1
  exact Z0 h1 k2 (Int.dvd_trans kb (hb' ▸ Int.dvd_mul_left _ _))
 have t2:Int.gcd top d'=1:=V3 fun k ka kb=>by
  have k1:k ∣ c * b':=by
   have:k ∣ top - a * d':=Int.dvd_sub ka (Int.dvd_trans kb (Int.dvd_mul_left _ _))
   rw [ht] at this
   have e:a * d'+c * b' - a * d'=c * b':=by omega
   rw [e] at this
   exact this
  have k2:k ∣ c:=by
   rw [Int.mul_comm] at k1
   exact as5 (ah6 (aE0 hc kb)) k1
  exact Z0 h2 k2 (Int.dvd_trans kb (hd' ▸ Int.dvd_mul_left _ _))
 have ndt:n ∣ top:=hn ▸ Int.dvd_mul_left _ _
 refine ⟨Int.mul_pos bp (Int.mul_pos gp dp),L7 (N9 t1 ndt) (L7 hng (N9 t2 ndt)),?_⟩
 have e1:a * d+c * b=g * (h * n):=by rw [←hn,ht,hb',hd'];grind
 rw [e1,hb',hd',hg']
 grind
theorem aU7 {a b c d g1 g2:Int} (hb:0<b) (hd:0<d) (h1:Int.gcd a b=1) (h2:Int.gcd c d=1) (hg1:g1=(Int.gcd a d:Int)) (hg2:g2=(Int.gcd c b:Int)) :
  0<b.fdiv g2 * d.fdiv g1∧Int.gcd (a.fdiv g1 * c.fdiv g2) (b.fdiv g2 * d.fdiv g1)=1∧(a.fdiv g1 * c.fdiv g2) * (b * d)=(a * c) * (b.fdiv g2 * d.fdiv g1):=by
 have p1:0<g1:=by rw [hg1];have:=G3 (t:=a) (b:=d) (by omega);omega
 have p2:0<g2:=by rw [hg2];have:=G3 (t:=c) (b:=b) (by omega);omega
 obtain ⟨a',ha'⟩:g1 ∣ a:=hg1 ▸ Int.gcd_dvd_left a d
 obtain ⟨d',hd'⟩:g1 ∣ d:=hg1 ▸ Int.gcd_dvd_right a d
 obtain ⟨c',hc'⟩:g2 ∣ c:=hg2 ▸ Int.gcd_dvd_left c b
 obtain ⟨b',hb'⟩:g2 ∣ b:=hg2 ▸ Int.gcd_dvd_right c b
 have c1:Int.gcd a' d'=1:=L6 (t:=a) (b:=d) (by omega) (by rw [←hg1];exact ha') (by rw [←hg1];exact hd')
 have c2:Int.gcd c' b'=1:=L6 (t:=c) (b:=b) (by omega) (by rw [←hg2];exact hc') (by rw [←hg2];exact hb')
 have ea:a.fdiv g1=a':=by rw [ha'];exact j7 (by omega)
 have ed:d.fdiv g1=d':=by rw [hd'];exact j7 (by omega)
 have ec:c.fdiv g2=c':=by rw [hc'];exact j7 (by omega)
 have eb:b.fdiv g2=b':=by rw [hb'];exact j7 (by omega)
 rw [ea,ed,ec,eb]
 have bp:0<b':=by
  rcases Int.lt_or_le 0 b' with z | z
  ·exact z
  ·have:=Int.mul_nonneg (Int.le_of_lt p2) (show 0≤-b' by omega);rw [Int.mul_neg] at this;omega
 have dp:0<d':=by
  rcases Int.lt_or_le 0 d' with z | z
  ·exact z
  ·have:=Int.mul_nonneg (Int.le_of_lt p1) (show 0≤-d' by omega);rw [Int.mul_neg] at this;omega
 have x1:Int.gcd a' b'=1:=aE0 (N9 h1 (ha' ▸ Int.dvd_mul_left _ _)) (hb' ▸ Int.dvd_mul_left _ _)
 have x2:Int.gcd c' d'=1:=aE0 (N9 h2 (hc' ▸ Int.dvd_mul_left _ _)) (hd' ▸ Int.dvd_mul_left _ _)
 refine ⟨Int.mul_pos bp dp,ah6 (L7 (ah6 (L7 x1 c1)) (ah6 (L7 c2 x2))),?_⟩
 rw [ha',hb',hc',hd']
 grind
theorem ab6 (q:Rat):Int.gcd q.num q.den=1:=by
 rw [Int.gcd_eq_natAbs_gcd_natAbs]
 simpa using q.reduced
theorem t7 (q:Rat):(0:Int)<q.den:=by have:=q.den_nz;omega
theorem af6 (p q:Rat):p+q=Rat.divInt (p.num * q.den+q.num * p.den) (p.den * q.den):=by
 have h1:=t7 p
 have h2:=t7 q
 conv=>lhs;rw [←Rat.num_divInt_den p,←Rat.num_divInt_den q]
 exact Rat.divInt_add_divInt _ _ (by omega) (by omega)
theorem aJ2 (p q:Rat):p - q=Rat.divInt (p.num * q.den - q.num * p.den) (p.den * q.den):=by
 have h1:=t7 p
 have h2:=t7 q
 conv=>lhs;rw [←Rat.num_divInt_den p,←Rat.num_divInt_den q]
 exact Rat.divInt_sub_divInt _ _ (by omega) (by omega)
theorem Y8 (p q:Rat):p * q=Rat.divInt (p.num * q.num) (p.den * q.den):=by
 conv=>lhs;rw [←Rat.num_divInt_den p,←Rat.num_divInt_den q]
 exact Rat.divInt_mul_divInt _ _
theorem aM0 (p q:Rat):p / q=Rat.divInt (p.num * q.den) (p.den * q.num):=by
 rw [Rat.div_def,Rat.inv_def]
 conv=>lhs;lhs;rw [←Rat.num_divInt_den p]
 exact Rat.divInt_mul_divInt _ _
theorem aH4 (a b:Int):Int.gcd b (a.fmod b)=Int.gcd a b:=by
 have e:=Int.mul_fdiv_add_fmod a b
 rw [Int.gcd_comm a b]
 conv=>rhs;rw [←e]
 rw [show b * a.fdiv b+a.fmod b=a.fmod b+a.fdiv b * b by rw [Int.mul_comm,Int.add_comm]]
 simp
theorem aa3 (a:Int) {b:Int} (hb:b≠0):(a.fmod b).natAbs<b.natAbs:=by
 rcases Int.lt_or_le b 0 with h | h
 ·have e:=Int.neg_fmod_neg a b
  have h1:=Int.fmod_nonneg_of_pos (-a) (show 0 < -b by omega)
  have h2:=Int.fmod_lt_of_pos (-a) (show 0 < -b by omega)
  omega
 ·have h1:=Int.fmod_nonneg_of_pos a (show 0<b by omega)
  have h2:=Int.fmod_lt_of_pos a (show 0<b by omega)
  omega
open PySem L2 PyProof.Rows
section
variable {P:Program} {w:World} {K:PySem.W.Frag} {mg:Str→Option Value} {base:Heap}
theorem P1 {a:Int} {m:Nat} (h:a.natAbs<2 ^ m):Builtin.Int.intBits a≤m:=by
 unfold Builtin.Int.intBits
 split
 ·exact Nat.zero_le _
 ·rename_i hz
  have h0:a.natAbs≠0:=by
   intro z
   have:a=0:=by omega
   simp [this] at hz
  have:=(Nat.log2_lt h0).mpr h
  omega
theorem K1 {a b:Int} {m n:Nat} (ha:a.natAbs<2 ^ m) (hb:b.natAbs<2 ^ n) (h:m+n≤134217728:=by decide):IntMulOk a b:=IntMulOk.of_le (P1 ha) (P1 hb) h
theorem W7 {j:Int} (h0:j≠0) (h:j.natAbs<2 ^ 9000):ah8 i j:=⟨h0,(Nat.log2_lt (by omega)).mpr h⟩
theorem i3 {m n:Nat} (h:m≤n):2 ^ m≤2 ^ n:=Nat.pow_le_pow_right (by decide) h
theorem D8 {a:Nat} {m n:Nat} (h:a<2 ^ m) (hm:m≤n:=by decide):a<2 ^ n:=Nat.lt_of_lt_of_le h (i3 hm)
def p9 (q:Rat):List V:=[.int q.num,.int (q.den:Int)]
structure Bd (q:Rat):Prop where
 n:q.num.natAbs<2 ^ 3000
 d:q.den<2 ^ 3000
def Num (K:PySem.W.Frag) (H:Hp) (v:V) (q:Rat):Prop:=∃ p,v = .ref p∧SqT K H p (p9 q)
def at9 (H:Hp) (Q:VK) (q:Rat):Prop:=∀ r H',d5 H H'→H' r=some (.tup (p9 q))→Q (.ref r) H'
theorem Num.same {K:PySem.W.Frag} {H H':Hp} {v:V} {q:Rat} (n:Num K H v q) (e:d5 H H'):Num K H' v q:=let ⟨p,h1,h2⟩:=n;⟨p,h1,e.tup h2⟩
theorem v5:(2:Nat)≤sizeLine:=by decide
theorem ai4:(1:Nat)≤sizeLine:=by decide
theorem aj4 {a b:Int} {n:Nat} (hb:b≠0) (h:b.natAbs<n):((Int.gcd a b:Nat):Int).natAbs<n:=by
 have h1:Int.gcd a b ∣ b.natAbs:=by
  have:=Int.natAbs_dvd_natAbs.mpr (Int.gcd_dvd_right a b)
  simpa using this
 have h2:=Nat.le_of_dvd (by omega) h1
 simp only [Int.natAbs_natCast]
 omega
theorem P9 {a g:Int} (hg:0<g) (hd:g ∣ a):(a.fdiv g).natAbs≤a.natAbs:=by
 obtain ⟨n,rfl⟩:=hd
 rw [j7 (by omega),Int.natAbs_mul]
 exact Nat.le_mul_of_pos_left _ (by omega)
theorem W3 {q:Rat}:q.num=0↔q=0:=by
 constructor
 ·intro h;exact Rat.num_eq_zero.mp h
 ·intro h;rw [h];rfl
theorem at0 (q:Rat):atI (p9 q) 0=some (.int q.num):=rfl
theorem at1 (q:Rat):atI (p9 q) 1=some (.int (q.den:Int)):=rfl
theorem bp7 {a b:Int} (h:a.natAbs<2 ^ 64):IntMulOk a b:=IntMulOk.of_left (P1 h)
theorem ar4 {a b:Int} (h:b.natAbs<2 ^ 64):IntMulOk a b:=IntMulOk.of_right (P1 h)
def ak5:Sp:=fun vs H Q _=>∃ t b:Int,vs=[.int t,.int b]∧b≠0∧b.natAbs<2 ^ 6000∧at9 H Q (Rat.divInt t b)
def x6 (H:Hp) (u:Addr):Prop:=∃ g m p:Int,H u=some (.lst [.int g,.int m,.int p])∧0≤g∧0≤m∧m<2 ^ 40∧0<p∧p<2 ^ 40
def v7 (u:Addr) (H H':Hp):Prop:=∀ b o,H b=some o→b≠u→H' b=some o
theorem d5.x {H H':Hp} (s:d5 H H') (u:Addr):v7 u H H':=fun b o h _=>s b o h
theorem v7.trans {u:Addr} {H H1 H2:Hp} (a:v7 u H H1) (b:v7 u H1 H2):v7 u H H2:=fun c o h n=>b c o (a c o h n) n
theorem v7.upd (u:Addr) (H:Hp) (o:HO):v7 u H (upd H u o):=fun b p h n=>by rw [j3 n];exact h
theorem d5.urn {H H':Hp} {u:Addr} (s:d5 H H') (h:x6 H u):x6 H' u:=let ⟨g,m,p,h1,r⟩:=h;⟨g,m,p,s _ _ h1,r⟩
def bh1 (K:PySem.W.Frag):Sp:=fun vs H Q _=>∃ (a:Addr) (ns:List Int) (k:Int),vs=[.ref a,.int k]∧SqL K H a (ns.map V.int)∧0≤k∧k<64∧∀ r H',d5 H H'→H r=none→x6 H' r→Q (.ref r) H'
def bk0:List V:=[.int 1899999979,.int 1899998977,.int 1899997949,.int 1899996929,.int 1899995927,.int 1899994903,.int 1899993877,.int 1899992839]
theorem aX5 {k:Int} (h0:0≤k):∃ p:Int,atI bk0 (k.fmod 8)=some (.int p)∧1899992839≤p∧p≤1899999979:=by
 have h1:=Int.fmod_nonneg_of_pos k (show (0:Int)<8 by decide)
 have h2:=Int.fmod_lt_of_pos k (show (0:Int)<8 by decide)
 have h3:k.fmod 8=0∨k.fmod 8=1∨k.fmod 8=2∨k.fmod 8=3∨k.fmod 8=4∨k.fmod 8=5∨k.fmod 8=6∨k.fmod 8=7:=by omega
 rcases h3 with h | h | h | h | h | h | h | h <;> rw [h] <;> exact ⟨_,rfl,by decide,by decide⟩
theorem aT7 {ns:List Int} {k:Int} (h0:0≤k) (h:k<(ns.length:Int)):∃ v:Int,atI (ns.map V.int) k=some (.int v):=by
 have hk:k.toNat<ns.length:=by omega
 have ek:k=((k.toNat:Nat):Int):=by omega
 have q:atI (ns.map V.int) ((k.toNat:Nat):Int)=some (.int ns[k.toNat]):=C9 (by rw [List.getElem?_map,List.getElem?_eq_getElem hk] <;> rfl)
 rw [←ek] at q
 exact ⟨_,q⟩
def G4:Sp:=fun vs H Q _=>∃ (u:Addr) (n:Int),vs=[.ref u,.int n]∧x6 H u∧0<n∧n<2 ^ 40∧∀ r H',0≤r→r<n→v7 u H H'→x6 H' u→Q (.int r) H'
structure Sm (q:Rat):Prop where
 n:q.num.natAbs≤10 ^ 12
 d:q.den≤10 ^ 12
theorem N2 {t b:Int} (hb:b≠0):(Rat.divInt t b).num.natAbs≤t.natAbs∧(Rat.divInt t b).den≤b.natAbs:=by
 have hp:=G3 (t:=t) hb
 obtain ⟨e1,e2⟩:=aD3 (t:=t) (b:=b) (g:=if b<0 then -(Int.gcd t b:Int) else (Int.gcd t b:Int)) hb rfl
 have key:∀ x:Int,(Int.gcd t b:Int) ∣ x→(x.fdiv (if b<0 then -(Int.gcd t b:Int) else (Int.gcd t b:Int))).natAbs≤x.natAbs:=by
  rintro x ⟨n,hn⟩
  split
  ·have:x = -(Int.gcd t b:Int) * (-n):=by rw [Int.neg_mul_neg];exact hn
   rw [this,j7 (by omega),Int.natAbs_mul]
   exact Nat.le_mul_of_pos_left _ (by omega)
  ·rw [hn,j7 (by omega),Int.natAbs_mul]
   exact Nat.le_mul_of_pos_left _ (by omega)
 have k1:=key t (Int.gcd_dvd_left t b)
 have k2:=key b (Int.gcd_dvd_right t b)
 rw [e1] at k1
 rw [e2] at k2
 exact ⟨k1,by omega⟩
theorem bp0 {t b:Int} (hb:b≠0) (h1:t.natAbs≤10 ^ 12) (h2:b.natAbs≤10 ^ 12):Sm (Rat.divInt t b):=by
 obtain ⟨e1,e2⟩:=N2 (t:=t) hb
 exact ⟨by omega,by omega⟩
theorem U0 {H:Hp} {u l:Addr} (hu:x6 H u) (hl:H l=none):l≠u:=by
 obtain ⟨g,m,p,h,r⟩:=hu
 exact (j4 h hl).symm
theorem X8 {H:Hp} {u l:Addr} {o:HO} (hu:x6 H u) (hl:H l=none):x6 (upd H l o) u:=by
 obtain ⟨g,m,p,h,r⟩:=hu
 exact ⟨g,m,p,by rw [j3 (j4 h hl)];exact h,r⟩
def spNumber:Sp:=fun vs H Q _=>∃ u kd,vs=[.ref u,.int kd]∧x6 H u∧∀ r q H',Sm q→v7 u H H'→x6 H' u→H' r=some (.tup (p9 q))→Q (.ref r) H'
def x5 (q:Rat):D:=.tup [.v (.int q.num),.v (.int (q.den:Int))]
theorem P8 {H:Hp} {a:Addr} {q:Rat} (h:SqT K H a (p9 q)):IsD K H (.ref a) (x5 q):=.tup h (.cons (.v rfl) (.cons (.v rfl) .nil))
theorem ao7 (q:Rat):eqD (x5 q) (x5 q)=true:=by simp [x5,eqD,K4,eqV]
theorem be6 (p q:Rat):okD (x5 p) (x5 q)=true:=by simp [x5,okD,Z5]
end
open PySem L2 PyProof.Rows
inductive A1 (H:Hp):List V→List Rat→Prop where
 | nil:A1 H [] []
 | cons {p:Addr} {q:Rat} {vs:List V} {qs:List Rat} (h:H p=some (.tup (p9 q))) (t:A1 H vs qs):A1 H (.ref p :: vs) (q :: qs)
def L8 (H H':Hp):Prop:=∀ b xs,H b=some (.tup xs)→H' b=some (.tup xs)
theorem L8.refl (H:Hp):L8 H H:=fun _ _ h=>h
theorem L8.trans {H H1 H2:Hp} (a:L8 H H1) (b:L8 H1 H2):L8 H H2:=fun c xs h=>b c xs (a c xs h)
theorem _root_.L2.d5.tups {H H':Hp} (s:d5 H H'):L8 H H':=fun b xs h=>s b _ h
theorem v7.tups {u:Addr} {H H':Hp} (s:v7 u H H') (hu:x6 H u):L8 H H':=fun b xs h=>by
 obtain ⟨g,m,p,e,_⟩:=hu
 exact s b _ h (bh7 h e (by intro z;cases z))
theorem L8.lst {H:Hp} {a:Addr} {xs:List V} {o:HO} (h:H a=some (.lst xs)):L8 H (upd H a o):=fun b ys e=>by
 rw [j3 (bh7 e h (by intro z;cases z))];exact e
theorem L8.new {H:Hp} {a:Addr} {o:HO} (h:H a=none):L8 H (upd H a o):=(d5.new h o).tups
theorem A1.mono {H H':Hp} (e:L8 H H'):∀ {vs:List V} {qs:List Rat},A1 H vs qs→A1 H' vs qs
 | _,_,.nil=>.nil
 | _,_,.cons h t=>.cons (e _ _ h) (t.mono e)
theorem A1.length {H:Hp}:∀ {vs:List V} {qs:List Rat},A1 H vs qs→vs.length=qs.length
 | _,_,.nil=>rfl
 | _,_,.cons _ t=>congrArg (· + 1) t.length
theorem A1.take {H:Hp}:∀ {vs:List V} {qs:List Rat} (m:Nat),A1 H vs qs→A1 H (vs.take m) (qs.take m)
 | _,_,0,_=>by simp;exact .nil
 | _,_,_+1,.nil=>.nil
 | _,_,m+1,.cons h t=>.cons h (t.take m)
theorem A1.append {H:Hp}:∀ {vs ws:List V} {qs rs:List Rat},A1 H vs qs→A1 H ws rs→A1 H (vs++ws) (qs++rs)
 | _,_,_,_,.nil,b=>b
 | _,_,_,_,.cons h t,b=>.cons h (t.append b)
theorem A1.get {H:Hp}:∀ {vs:List V} {qs:List Rat} {i:Nat} {q:Rat},A1 H vs qs→qs[i]? = some q→∃ p,vs[i]? = some (.ref p)∧H p=some (.tup (p9 q))
 | _,_,_,_,.nil,e=>by simp at e
 | _,_,0,_,.cons h t,e=>by
  have:=Option.some.inj e
  subst this
  exact ⟨_,rfl,h⟩
 | _,_,i+1,_,.cons h t,e=>by
  obtain ⟨p,e1,e2⟩:=t.get (i:=i) (by simpa using e)
  exact ⟨p,by simpa using e1,e2⟩
theorem A1.getV {H:Hp}:∀ {vs:List V} {qs:List Rat} {i:Nat} {v:V},A1 H vs qs→vs[i]? = some v→∃ p q,v = .ref p∧qs[i]? = some q∧H p=some (.tup (p9 q))
 | _,_,_,_,.nil,e=>by simp at e
 | _,_,0,_,.cons h t,e=>by
  have:=Option.some.inj e
  subst this
  exact ⟨_,_,rfl,rfl,h⟩
 | _,_,i+1,_,.cons h t,e=>by
  obtain ⟨p,q,e0,e1,e2⟩:=t.getV (i:=i) (by simpa using e)
  exact ⟨p,q,e0,by simpa using e1,e2⟩
theorem A1.isDs {K:PySem.W.Frag} {H:Hp}:∀ {vs:List V} {qs:List Rat},A1 H vs qs→T9 K H vs (qs.map x5)
 | _,_,.nil=>.nil
 | _,_,.cons h t=>.cons (P8 (SqT.of h)) t.isDs
theorem bd7 {p q:Rat} (h1:p.num=q.num) (h2:p.den=q.den):p=q:=by
 cases p;cases q;simp at h1 h2;subst h1 h2;rfl
theorem ba5 (p q:Rat):eqD (x5 p) (x5 q)=decide (p=q):=by
 by_cases h:p=q
 ·subst h;rw [ao7];simp
 ·rw [decide_eq_false h]
  simp only [x5,eqD,K4,eqV,Bool.and_true]
  by_cases h1:p.num=q.num
  ·have h2:p.den≠q.den:=fun z=>h (bd7 h1 z)
   have:((p.den:Int) == (q.den:Int))=false:=by
    rw [beq_eq_false_iff_ne];intro z;exact h2 (by omega)
   rw [this,Bool.and_false]
  ·have:(p.num == q.num)=false:=by rw [beq_eq_false_iff_ne];exact h1
   rw [this,Bool.false_and]
theorem ax7:∀ ps qs:List Rat,K4 (ps.map x5) (qs.map x5)=decide (ps=qs)
 | [],[]=>by simp [K4]
 | [],_ :: _=>by simp [K4]
 | _ :: _,[]=>by simp [K4]
 | p :: ps,q :: qs=>by
  rw [List.map_cons,List.map_cons,K4,ba5,ax7 ps qs]
  by_cases h1:p=q <;> by_cases h2:ps=qs <;> simp [h1,h2]
theorem ax0:∀ ps qs:List Rat,Z5 (ps.map x5) (qs.map x5)=true
 | [],[]=>by simp [Z5]
 | [],_ :: _=>by simp [Z5]
 | _ :: _,[]=>by simp [Z5]
 | p :: ps,q :: qs=>by rw [List.map_cons,List.map_cons,Z5,be6,ax0 ps qs];rfl
theorem ax9:∀ qs:List Rat,ac2 (qs.map x5)≤1
 | []=>by simp [ac2]
 | q :: qs=>by
  have h1:dpD (x5 q)≤1:=by simp [x5,dpD,ac2]
  have h2:=ax9 qs
  rw [List.map_cons,ac2]
  omega
def N3 (qs:List Rat):D:=.lst (qs.map x5)
theorem Q9 {K:PySem.W.Frag} {H:Hp} {a:Addr} {vs:List V} {qs:List Rat} (h:SqL K H a vs) (n:A1 H vs qs):IsD K H (.ref a) (N3 qs):=.lst h n.isDs
theorem as4 (ps qs:List Rat):eqD (N3 ps) (N3 qs)=decide (ps=qs):=by unfold N3;rw [eqD,ax7]
theorem ag8 (ps qs:List Rat):okD (N3 ps) (N3 qs)=true:=by unfold N3;rw [okD,ax0]
theorem ao8 (qs:List Rat):dpD (N3 qs)≤2:=by unfold N3;rw [dpD];have:=ax9 qs;omega
structure V6 (qs:List Rat) (m:Nat):Prop where
 le:m≤qs.length
 zero:∀ (i:Nat) (q:Rat),m≤i→qs[i]? = some q→q=0
 last:m≠0→∀ q,qs[m - 1]? = some q→q≠0
theorem V6.uniq {qs:List Rat} {m n:Nat} (a:V6 qs m) (b:V6 qs n):m=n:=by
 have key:∀ {m n:Nat},V6 qs m→V6 qs n→¬ m<n:=by
  intro m n a b h
  have hn:n - 1<qs.length:=by have:=b.le;omega
  exact b.last (by omega) _ (List.getElem?_eq_getElem hn) (a.zero (n - 1) _ (by omega) (List.getElem?_eq_getElem hn))
 have:=key a b
 have:=key b a
 omega
def evs {α:Type}:List α→List α
 | []=>[]
 | [x]=>[x]
 | x :: _ :: r=>x :: evs r
def ods {α:Type} (xs:List α):List α:=evs xs.tail
theorem at3 (vs:List V) {m:Nat} (h:m≤vs.length):af5 vs none (some (m:Int))=vs.take m:=by
 unfold af5
 have e1:HT.sIx vs.length 0 none=0:=by simp [HT.sIx]
 have e2:HT.sIx vs.length vs.length (some (m:Int))=m:=by
  simp only [HT.sIx]
  split <;> omega
 rw [e1,e2];simp
end R
set_option maxRecDepth 100000
namespace L2
open PySem PySem.Spec PyProof.Rows
def WhN (Pv:St→Hp→Prop) (μ:St→Hp→Nat) (m:Nat):St→Hp→Prop:=fun σ' H'=>∃ m',m'<m∧(m' = μ σ' H'∧Pv σ' H')
theorem WhN.mk {Pv:St→Hp→Prop} {μ:St→Hp→Nat} {m:Nat} {σ':St} {H':Hp} (h:Pv σ' H') (l : μ σ' H'<m):WhN Pv μ m σ' H':=⟨_,l,rfl,h⟩
def WhB (tb:TS) (D:ab2) (Pv:St→Hp→Prop) (μ:St→Hp→Nat) (m:Nat) (σ:St) (H1:Hp):Prop:=
 ∃ N:St→Hp→Prop,(∀ σ' H',N σ' H'→∃ m',m'<m∧(m' = μ σ' H'∧Pv σ' H'))∧tb { D with nx:=N,ct:=N,bk:=D.nx } σ H1
theorem WhB.mk {tb:TS} {D:ab2} {Pv:St→Hp→Prop} {μ:St→Hp→Nat} {m:Nat} {σ:St} {H1:Hp} (h:tb { D with nx:=WhN Pv μ m,ct:=WhN Pv μ m,bk:=D.nx } σ H1):WhB tb D Pv μ m σ H1:=⟨_,fun _ _ n=>n,h⟩
theorem ap1 {c:TT} {tb:TS} {D:ab2} {σ:St} {H:Hp} (Pv:St→Hp→Prop) (μ:St→Hp→Nat) (h0:Pv σ H)
  (hs:∀ σ H,Pv σ H→c σ H fun b H1=>if b=true then WhB tb D Pv μ (μ σ H) σ H1 else D.nx σ H1):ad7 c tb D σ H:=by
 refine ⟨fun m σ H=>m = μ σ H∧Pv σ H,⟨_,rfl,h0⟩,?_⟩
 rintro m σ H ⟨rfl,p⟩
 exact hs σ H p
theorem d5.over {H H1:Hp} {l:Addr} (s:d5 H H1) (hl:H l=none) (o:HO):d5 H (upd H1 l o):=fun b u h=>by
 rw [j3 (j4 h hl)];exact s b u h
def au1 (J:It) (D:Addr) (σ0:St) (H0:Hp) (g:TG) (te:TE) (Q:VK):Prop:=∃ W:Nat→Nat→St→Hp→Prop,(∃ m,W 0 m σ0 H0) ∧
 ∀ i m σc H2,W i m σc H2→(J.stop i H2∧Q (.ref D) H2) ∨
  (J.go i H2∧∀ x H3,J.yld i H2 x H3→g x σc H3 fun σ4 H4=>te σ4 H4 fun y H5=>∃ ys,H5 D=some (.lst ys)∧ys.length<sizeLine∧∃ m',m'<m∧W (i+1) m' σ4 (upd H5 D (.lst (ys++[y]))))
theorem aE5 (wi:TI) (caps:List (Option Nat)) (g:TG) (te:TE):aM9 wi caps g te=fun σ H Q=>wi σ H fun J H1=>∀ D,H1 D=none→au1 J D (O1 caps σ) (upd H1 D (.lst [])) g te Q:=rfl
def bo6 (J:It) (D:Addr) (σ0:St) (H0:Hp) (g:TG) (tt:TT) (te:TE) (Q:VK):Prop:=∃ W:Nat→Nat→St→Hp→Prop,(∃ m,W 0 m σ0 H0) ∧
 ∀ i m σc H2,W i m σc H2→(J.stop i H2∧Q (.ref D) H2) ∨
  (J.go i H2∧∀ x H3,J.yld i H2 x H3→g x σc H3 fun σ4 H4=>tt σ4 H4 fun b H4'=>if b=true then te σ4 H4' fun y H5=>∃ ys,H5 D=some (.lst ys)∧ys.length<sizeLine∧∃ m',m'<m∧W (i+1) m' σ4 (upd H5 D (.lst (ys++[y])))
   else ∃ m',m'<m∧W (i+1) m' σ4 H4')
theorem ap5 (wi:TI) (caps:List (Option Nat)) (g:TG) (tt:TT) (te:TE):bc8 wi caps g tt te=fun σ H Q=>wi σ H fun J H1=>∀ D,H1 D=none→bo6 J D (O1 caps σ) (upd H1 D (.lst [])) g tt te Q:=rfl
section
variable {K:PySem.W.Frag} {a D:Addr} {xs:List V} {g:TG} {te:TE} {σ0:St} {H0:Hp} {Q:VK}
theorem Z1 (xs:List V) (Pv:Nat→St→Hp→Prop) (h0:Pv 0 σ0 H0) (hl:∀ i σ H,i≤xs.length→Pv i σ H→SqL K H a xs)
  (hs:∀ i x σ H,xs[i]? = some x→Pv i σ H→g x σ H fun σ4 H4=>te σ4 H4 fun y H5=>D5 D xs.length Pv i σ4 y H5) (hd:∀ σ H,Pv xs.length σ H→Q (.ref D) H):au1 (Itl K a) D σ0 H0 g te Q:=aT1 Pv h0 hl hs hd
theorem aM1 (xs:List V) (Pv:Nat→St→Hp→Prop) (h0:Pv 0 σ0 H0) (hl:∀ i σ H,i≤xs.length→Pv i σ H→SqT K H a xs)
  (hs:∀ i x σ H,xs[i]? = some x→Pv i σ H→g x σ H fun σ4 H4=>te σ4 H4 fun y H5=>D5 D xs.length Pv i σ4 y H5) (hd:∀ σ H,Pv xs.length σ H→Q (.ref D) H):au1 (Itt K a) D σ0 H0 g te Q:=bb6 Pv h0 hl hs hd
theorem bb3 {lo:Int} {n:Nat} (Pv:Nat→St→Hp→Prop) (h0:Pv 0 σ0 H0)
  (hs:∀ i σ H,i<n→Pv i σ H→g (.int (lo+i)) σ H fun σ4 H4=>te σ4 H4 fun y H5=>D5 D n Pv i σ4 y H5) (hd:∀ σ H,Pv n σ H→Q (.ref D) H):au1 (Itr lo n) D σ0 H0 g te Q:=aM2 Pv h0 hs hd
end
theorem C3 {cells:List (Str × Addr)}:∀ (x:Str) (c:Addr),([]:List (Str × Addr)).lookup x=some c→cells.lookup x=some c:=fun x c h=>by cases h
theorem C0 {cells cl:List (Str × Addr)} {k:Str} {a:Addr} (h:cells.lookup k=some a) (r:∀ (x:Str) (c:Addr),cl.lookup x=some c→cells.lookup x=some c):∀ (x:Str) (c:Addr),((k,a) :: cl).lookup x=some c→cells.lookup x=some c:=fun x c e=>by
 rw [List.lookup_cons] at e
 split at e
 ·rename_i q
  have:=eq_of_beq q
  subst this
  cases e
  exact h
 ·exact r x c e
end L2
namespace R
open PySem L2 PyProof.Rows
theorem v7.over {u:Addr} {H H1:Hp} {l:Addr} (s:v7 u H H1) (hl:H l=none) (o:HO):v7 u H (L2.upd H1 l o):=fun b x h n=>by
 rw [j3 (j4 h hl)];exact s b x h n
theorem v7.free {u:Addr} {H H':Hp} {l:Addr} (s:v7 u H H') (hu:x6 H' u) (h:H' l=none):H l=none:=by
 cases e:H l with
 | none=>rfl
 | some o=>
  by_cases q:l=u
  ·subst q
   obtain ⟨_,_,_,z,_⟩:=hu
   rw [z] at h;cases h
  ·rw [s l o e q] at h;cases h
theorem x6.other {H:Hp} {u l:Addr} {o:HO} (h:x6 H u) (ne:l≠u):x6 (upd H l o) u:=by
 obtain ⟨g,m,p,e,r⟩:=h
 exact ⟨g,m,p,by rw [j3 ne.symm];exact e,r⟩
theorem aY4 {H:Hp} {p l:Addr} {o:HO} (h:upd H p o l=none):H l=none:=by
 by_cases q:l=p
 ·subst q;rw [b8] at h;cases h
 ·rw [j3 q] at h;exact h
theorem bl2 {H:Hp} {p l:Addr} {o:HO} (h:upd H p o l=none):l≠p:=fun q=>by
 subst q;rw [b8] at h;cases h
end R
set_option maxRecDepth 100000
namespace L2
open PySem PySem.Spec PyProof.Rows
def Itz (K:PySem.W.Frag) (a b:Addr):It:=
  ⟨fun i H=>∃ xs ys x y,SqL K H a xs∧SqL K H b ys∧xs[i]? = some x∧ys[i]? = some y,
   fun i H v H'=>∀ xs ys,SqL K H a xs→SqL K H b ys→∃ x y p,xs[i]? = some x∧ys[i]? = some y∧H p=none∧v = .ref p∧H'=upd H p (.tup [x,y]),
   fun i H=>∃ xs ys,SqL K H a xs∧SqL K H b ys∧(xs.length≤i∨ys.length≤i)⟩
theorem aU3 {P:Program} {w:World} {K:PySem.W.Frag} {elts:List Expr} {k:Nat} {tpos:Pos} (a b z TI TO i1 i2:Addr) (D:ZipApart z TI TO i1 i2 a b) :
  aM4 P w K (.Tuple elts k tpos) (Itz K a b) [z,TI,TO,i1,i2] z (fun i h=>IsZip h z TI TO .none∧IsPair h TI (.ref i1) (.ref i2)∧(∃ a b,IsPair h TO a b)∧h.IsListIter i1 a i∧h.IsListIter i2 b i) where
 mem:=by simp
 obj:=fun i h st c hc=>by
  obtain ⟨hz,hTI,⟨p,q,hTO⟩,h1,h2⟩:=st
  rcases (by simpa using hc:c=z∨c=TI∨c=TO∨c=i1∨c=i2) with e | e | e | e | e <;> subst e
  ·exact ⟨_,hz,fun v z=>by cases z⟩
  ·exact ⟨_,hTI,fun v z=>by cases z⟩
  ·exact ⟨_,hTO,fun v z=>by cases z⟩
  ·obtain ⟨o,e,c,d⟩:=h1
   exact ⟨o,e,fun v z=>by rw [d] at z;cases z⟩
  ·obtain ⟨o,e,c,d⟩:=h2
   exact ⟨o,e,fun v z=>by rw [d] at z;cases z⟩
 keep:=fun i h h' st k=>by
  obtain ⟨hz,hTI,⟨p,q,hTO⟩,h1,h2⟩:=st
  exact ⟨k z (by simp) _ hz,k TI (by simp) _ hTI,⟨p,q,k TO (by simp) _ hTO⟩,h1.at fun o e=>k i1 (by simp) o e,h2.at fun o e=>k i2 (by simp) o e⟩
 item:=by
  intro X hP hw hK hc i pins s σ H E I hf st hg
  subst hP hw hK
  obtain ⟨xs,ys,x,y,hq,hq',hx,hy⟩:=hg
  obtain ⟨its,rv,p,hlz⟩:=I.list hq
  obtain ⟨its',rv',p',hlz'⟩:=I.list hq'
  obtain ⟨u,hu,ru⟩:=rv.get hx
  obtain ⟨u',hu',ru'⟩:=rv'.get hy
  obtain ⟨hz,hTI,⟨pa,pb,hTO⟩,h1,h2⟩:=st
  have zlt:z<s.heap.objs.size:=Heap.lt_size hz
  refine wpAny_pyNext_zip_item D hz hTI hTO h1 h2 p.isList p'.isList (x:=u) (y:=u') (by simpa using hu) (by simpa using hu') fun h' a1 a2 a3 a4 a5 a6 kk=>?_
  refine ⟨_,rfl,?_⟩
  refine wpAny_letOwnedTupleGo_zip (s:={ s with heap:=h' }) a1 fun h'' hz'' sb=>?_
  have up:∀ c o,c≠z→h'.get? c=some o→h''.get? c=some o:=fun c o n q=>(sb.2 c n).trans q
  have hT':h''.get? s.heap.objs.size=some { cls:=.type "tuple",data:=.seq #[u,u'] }:=up _ _ (Nat.ne_of_gt zlt) a5
  refine ⟨.ref s.heap.objs.size,upd H s.heap.objs.size (.tup [x,y]),I.turnLaid (fp:=[z,TI,TO,i1,i2]) (t':=s.toks) hf (fun c v hb q=>?_) (Nat.le_refl _) ?_,rfl,?_,?_,fun c hb=>?_⟩
  ·have n1:c≠z:=fun e=>hb (by simp [e])
   have n2:c≠TO:=fun e=>hb (by simp [e])
   have n3:c≠i1:=fun e=>hb (by simp [e])
   have n4:c≠i2:=fun e=>hb (by simp [e])
   exact up c v n1 (kk c v n1 n2 n3 n4 q)
  ·exact ⟨(show 2≤sizeLine by decide +kernel),[u,u'],.cons ru (.cons ru' .nil),_,hT',rfl,_,rfl⟩
  ·intro vs ws hv hw
   rw [I.list_inj hv hq,I.list_inj hw hq']
   exact ⟨x,y,_,hx,hy,I.fresh,rfl,rfl⟩
  ·refine ⟨hz'',up _ _ D.TIz (kk _ _ D.TIz D.TITO D.TIi1 D.TIi2 hTI),⟨u,u',up _ _ D.TOz a2⟩,a3.at fun o q=>up _ o D.i1z q,a4.at fun o q=>up _ o D.i2z q⟩
  ·have hlt:c<s.heap.objs.size:=by
    have l1:i1<s.heap.objs.size:=by obtain ⟨_,e,_⟩:=h1;exact Heap.lt_size e
    have l2:i2<s.heap.objs.size:=by obtain ⟨_,e,_⟩:=h2;exact Heap.lt_size e
    rcases (by simpa using hb:c=z∨c=TI∨c=TO∨c=i1∨c=i2) with e | e | e | e | e <;> rw [e]
    ·exact zlt
    ·exact Heap.lt_size hTI
    ·exact Heap.lt_size hTO
    ·exact l1
    ·exact l2
   rw [j3 (Nat.ne_of_lt hlt)]
   exact (hf c hb).1
 done:=by
  intro X hP hw hK hc i pins s σ H E I hf st hg
  subst hP hw hK
  obtain ⟨xs,ys,hq,hq',hend⟩:=hg
  obtain ⟨its,rv,p,hlz⟩:=I.list hq
  obtain ⟨its',rv',p',hlz'⟩:=I.list hq'
  obtain ⟨hz,hTI,⟨pa,pb,hTO⟩,h1,h2⟩:=st
  have l1:=rv.length
  have l2:=rv'.length
  refine wpAny_pyNext_zip_end (I.ok.hd hc) D hz hTI hTO h1 h2 p.isList p'.isList ?_ fun h' kk=>⟨rfl,?_⟩
  ·rcases hend with e | e
   ·exact .inl (by simp;omega)
   ·exact .inr (by simp;omega)
  ·have nf:∀ b u,H b=some u→b ∉ [z,TI,TO,i1,i2]:=fun b u e q=>by rw [(hf b q).1] at e;cases e
   have k:∀ b u,b ∉ [z,TI,TO,i1,i2]→s.heap.get? b=some u→h'.get? b=some u:=fun c o hb q=>kk c o (fun e=>hb (by simp [e])) (fun e=>hb (by simp [e])) (fun e=>hb (by simp [e])) (fun e=>hb (by simp [e])) q
   refine I.step (t':=s.toks) (g':=s.gens) (d':=s.drawn) (ch:=[z,TI,TO,i1,i2]) (fun b hb=>?_) (fun b o _ _ hc e _=>k b o hc e) (fun b o _ _ hc e _=>⟨o.slots,k b o hc e⟩) (fun b o _ e n=>n)
    (fun b o hc e=>⟨o,k b o hc e⟩) (fun b xs e=>e) (fun b o u e=>e) (fun b ps e=>⟨#[],by rw [e];simp⟩) (fun m hm=>?_) (fun b u e=>?_) I.bare
   ·obtain ⟨_,f1,_,f3,f4,f5⟩:=hf b hb
    exact ⟨f3,f1,f4,f5⟩
   ·obtain ⟨o,es,ep,ho,r⟩:=hm
    exact ⟨o,es,ep,k _ o (fun q=>(hf _ q).2.1 rfl) ho,r⟩
   ·refine (I.hok b u e).stay (fun c v hc q=>k c v ?_ q) (fun c q=>q) fun c xs q=>q
    rcases hc with q | q
    ·rw [q];exact nf b u e
    ·exact nf c _ q
 self:=fun _ _ _ _ _ st h=>wpAny_pyIter_zip st.1 h
section
variable {X:Cx}
def bm4 (K:PySem.W.Frag) (ta:TA):TI:=fun σ H R=>ta σ H fun vs H1=>∃ a b,vs=[.ref a,.ref b]∧(∃ xs,SqL K H1 a xs)∧(∃ ys,SqL K H1 b ys)∧R (Itz K a b) H1
theorem aX6 {elts:List Expr} {k:Nat} {tpos:Pos} {l l':Expr} {ta:TA} {p pos:Pos} (hg:Gl X "zip") (hm:X.mg "zip" = none) (ha:PA X [l,l'] ta) (hs:starEach [l,l'] X.env=[(false,eval l X.env),(false,eval l' X.env)]:=by rfl) (hs2:starEach [l'] X.env=[(false,eval l' X.env)]:=by rfl) :
  PI X (.Tuple elts k tpos) (.Call (.Name "zip" p) [l,l'] [] pos) (bm4 X.K ta):=by
 intro pins s σ H R I h
 refine Call_ (af2 I hg hm (u:=.type "zip") (by decide +kernel) (PyProof.Rows.callWith_type1 (thn (ha pos pins s σ H _ I h) fun us s1 ⟨vs,H1,I1,r1,q1⟩=>?_) (by rw [hs,hs2]) (by rw [hs2];rfl)))
 obtain ⟨a,b,e,⟨xs,hq⟩,⟨ys,hq'⟩,q⟩:=q1
 subst e
 obtain ⟨u,u',rfl,rx,rx'⟩:=p7.two r1
 cases rx
 cases rx'
 obtain ⟨its,rv,p,hz⟩:=I1.list hq
 obtain ⟨its',rv',p',hz'⟩:=I1.list hq'
 have a1:a<s1.heap.objs.size:=by obtain ⟨_,e,_⟩:=p.isList;exact Heap.lt_size e
 have a2:b<s1.heap.objs.size:=by obtain ⟨_,e,_⟩:=p'.isList;exact Heap.lt_size e
 refine call_zip_2 p.isList p'.isList fun h' hz hTI hTO hi1 hi2 hsz kk=>?_
 refine wpAny_pyIter_zip hz ?_
 have I2:Inv X pins σ H1 { s1 with heap:=h' }:=I1.kept (t':=s1.toks) kk
 refine ⟨_,_,_,_,H1,rfl,I2,aU3 a b _ _ _ _ _ (zipApart_new a1 a2),⟨hz,hTI,⟨_,_,hTO⟩,hi1,hi2⟩,fun c hb=>?_,q⟩
 have hb':s1.heap.objs.size≤c:=by
  rcases (by simpa using hb:c=s1.heap.objs.size+4∨c=s1.heap.objs.size+2∨c=s1.heap.objs.size+3∨c=s1.heap.objs.size∨c=s1.heap.objs.size+1) with e | e | e | e | e <;> rw [e]
  ·exact Nat.le_add_right _ _
  ·exact Nat.le_add_right _ _
  ·exact Nat.le_add_right _ _
  ·exact Nat.le_refl _
  ·exact Nat.le_add_right _ _
 obtain ⟨f0,f1,f2,f3,f4,f5⟩:=I1.fpOk (H':=H1) hb' (I1.hok.fresh hb')
 exact ⟨f0,f1,f2,f3,f4,f5⟩
end
section
variable {prog:Program} {w:World} {A:Around} {E:Value→Shared→Prop} {s:Shared}
theorem aE2 {id:String} {b:Builtin} {args:List Value} {kw:List (Str × Value)} {Q:Value→Shared→Prop} (hk:builtinKind id=none) (hp:plainId id=true)
  (hb:entryFor table id=some b) (ha:argsOk id ⟨args,kw⟩)
  (hc:wpAny (model prog w) A.in1 (b ⟨args,kw⟩) (fun fin s'=>match fin with
   | .done f=>(match (Except.ok f:Result) with | .ok (.ret v)=>Q v s' | .ok _=>False | .error e=>E e s')
   | .again c'=>c'.quiet=true∧codeAny (model prog w) A c' (fun r s'=>match r with | .ok (.ret v)=>Q v s' | .ok _=>False | .error e=>E e s') s') E s) :
  wpAny (model prog w) A (call (.builtin id) args kw) Q E s:=by
 refine wpAny_call (codeAny_call_builtin hp hb ?_)
 simp only [checkBuiltinCall,hk]
 cases hsig:Manifest.signature? id with
 | none=>exact wpAny_pure hc
 | some sig=>
  have ha':Bind.checkArgs id sig ⟨args,kw⟩=pure ():=by simpa only [argsOk,hsig] using ha
  simp only [ha']
  exact wpAny_pure hc
variable {R:Result→Shared→Prop} {I:Addr} {fp wr:List Addr} {n:Nat} {P:Nat→Value→Prop} {St:Nat→Heap→Prop}
end
end L2
set_option maxRecDepth 100000
namespace R
open PySem L2 PyProof.Rows
structure BdN (k:Nat) (q:Rat):Prop where
 n:q.num.natAbs<2 ^ k
 d:q.den<2 ^ k
theorem BdN.mono {m n:Nat} {q:Rat} (h:BdN m q) (l:m≤n):BdN n q:=⟨Nat.lt_of_lt_of_le h.n (i3 l),Nat.lt_of_lt_of_le h.d (i3 l)⟩
theorem Sm.bdN {q:Rat} (s:Sm q):BdN 40 q:=⟨Nat.lt_of_le_of_lt s.n (by decide),Nat.lt_of_le_of_lt s.d (by decide)⟩
theorem BdN.zero {n:Nat} (h:1≤n):BdN n 0:=by
 have:(2:Nat) ^ 1≤2 ^ n:=i3 h
 exact ⟨by show (0:Int).natAbs<_;simp;omega,by show (1:Nat)<_;omega⟩
theorem BdN.mul {m n:Nat} {p q:Rat} (a:BdN m p) (b:BdN n q):BdN (m+n) (p * q):=by
 rw [Y8]
 have hb:(p.den:Int) * q.den≠0:=Int.ne_of_gt (Int.mul_pos (t7 p) (t7 q))
 obtain ⟨e1,e2⟩:=N2 (t:=p.num * q.num) hb
 rw [Int.natAbs_mul] at e1 e2
 refine ⟨Nat.lt_of_le_of_lt e1 ?_,Nat.lt_of_le_of_lt e2 ?_⟩
 ·rw [Nat.pow_add];exact Nat.mul_lt_mul'' a.n b.n
 ·rw [Nat.pow_add,Int.natAbs_natCast,Int.natAbs_natCast];exact Nat.mul_lt_mul'' a.d b.d
theorem BdN.add {m n:Nat} {p q:Rat} (a:BdN m p) (b:BdN n q):BdN (m+n+1) (p+q):=by
 rw [af6]
 have hb:(p.den:Int) * q.den≠0:=Int.ne_of_gt (Int.mul_pos (t7 p) (t7 q))
 obtain ⟨e1,e2⟩:=N2 (t:=p.num * q.den+q.num * p.den) hb
 have h1:(p.num * q.den).natAbs<2 ^ (m+n):=by
  rw [Int.natAbs_mul,Nat.pow_add,Int.natAbs_natCast];exact Nat.mul_lt_mul'' a.n b.d
 have h2:(q.num * p.den).natAbs<2 ^ (m+n):=by
  rw [Int.natAbs_mul,Nat.pow_add,Nat.mul_comm (2 ^ m),Int.natAbs_natCast];exact Nat.mul_lt_mul'' b.n a.d
 rw [Int.natAbs_mul] at e2
 have e3:=Int.natAbs_add_le (p.num * q.den) (q.num * p.den)
 refine ⟨by rw [Nat.pow_succ];omega,Nat.lt_of_le_of_lt e2 ?_⟩
 have:p.den * q.den<2 ^ (m+n):=by rw [Nat.pow_add];exact Nat.mul_lt_mul'' a.d b.d
 rw [Int.natAbs_natCast,Int.natAbs_natCast,Nat.pow_succ];omega
structure SmW (q:Rat):Prop where
 n:q.num.natAbs<2 ^ 42
 d:q.den<2 ^ 40
section
variable {α β:Type}
def ab0 [Add α]:List α→Nat→α→List α
 | [],_,_=>[]
 | y :: r,0,x=>(y+x) :: r
 | y :: r,k+1,x=>y :: ab0 r k x
theorem ay9 [Add α]:∀ (f:List α) (k:Nat) (x : α),(ab0 f k x).length=f.length
 | [],_,_=>rfl
 | _ :: _,0,_=>rfl
 | _ :: r,k+1,x=>by simp [ab0,ay9 r k x]
theorem ay8 [Add α]:∀ (f:List α) (k:Nat) (x y : α),f[k]? = some y→f.set k (y+x)=ab0 f k x
 | [],_,_,_,h=>by simp at h
 | z :: r,0,x,y,h=>by cases h;rfl
 | z :: r,k+1,x,y,h=>by
  rw [List.set_cons_succ,ab0,ay8 r k x y (by simpa using h)]
theorem aa9 [Add α]:∀ (f:List α) (k i:Nat) (x : α),i≠k→(ab0 f k x)[i]? = f[i]?
 | [],_,_,_,_=>rfl
 | _ :: _,0,0,_,h=>absurd rfl h
 | _ :: _,0,i+1,_,_=>rfl
 | _ :: _,k+1,0,_,_=>rfl
 | _ :: r,k+1,i+1,x,h=>by
  simp only [ab0,List.getElem?_cons_succ];exact aa9 r k i x (by omega)
theorem at6 [Add α]:∀ (f:List α) (k:Nat) (x y : α),f[k]? = some y→(ab0 f k x)[k]? = some (y+x)
 | [],_,_,_,h=>by simp at h
 | z :: r,0,x,y,h=>by cases h;rfl
 | z :: r,k+1,x,y,h=>by simp only [ab0,List.getElem?_cons_succ];exact at6 r k x y (by simpa using h)
def F6 [Add α] [Mul α] (z : α) (f:List α) (i:Nat) (x : α) (q:List α):Nat→List α
 | 0=>f
 | j+1=>ab0 (F6 z f i x q j) (i+j) (x * (q[j]?).getD z)
def F5 [Add α] [Mul α] (z : α) (f p q:List α):Nat→List α
 | 0=>f
 | i+1=>F6 z (F5 z f p q i) i ((p[i]?).getD z) q q.length
theorem aj3 [Add α] [Mul α] (z : α) (f:List α) (i:Nat) (x : α) (q:List α):∀ j,(F6 z f i x q j).length=f.length
 | 0=>rfl
 | j+1=>by rw [F6,ay9,aj3 z f i x q j]
theorem ai9 [Add α] [Mul α] (z : α) (f p q:List α):∀ n,(F5 z f p q n).length=f.length
 | 0=>rfl
 | n+1=>by rw [F5,aj3,ai9 z f p q n]
end
def ae9 (p q:List Rat):List Rat:=if p=[]∨q=[] then [] else F5 0 (List.replicate (p.length+q.length - 1) 0) p q p.length
def scl (s:Rat) (ws:List Int):List Rat:=ws.map fun w:Int=>s * (w:Rat)
theorem aY5 {p q:List Rat} (hp:p≠[]) (hq:q≠[]):(ae9 p q).length=p.length+q.length - 1:=by
 unfold ae9
 rw [if_neg (by simp [hp,hq]),ai9,List.length_replicate]
def q8 (qs:List Rat):Nat:=qs.foldl (fun b q=>Nat.lcm b q.den) 1
theorem aS0 (qs:List Rat) (q:Rat):q8 (qs++[q])=Nat.lcm (q8 qs) q.den:=by simp [q8]
theorem al3:∀ (qs:List Rat) (b m:Nat),b ∣ m→(∀ q∈qs,q.den ∣ m)→qs.foldl (fun b q=>Nat.lcm b q.den) b ∣ m
 | [],_,_,h,_=>h
 | q :: qs,b,m,h,k=>al3 qs _ m (Nat.lcm_dvd h (k q List.mem_cons_self)) fun r hr=>k r (List.mem_cons_of_mem _ hr)
theorem ar6 {qs:List Rat} {m:Nat} (h:∀ q∈qs,q.den ∣ m):q8 qs ∣ m:=al3 qs 1 m (Nat.one_dvd _) h
theorem ah3:∀ (qs:List Rat) (b:Nat),b ∣ qs.foldl (fun b q=>Nat.lcm b q.den) b
 | [],_=>Nat.dvd_refl _
 | q :: qs,b=>Nat.dvd_trans (Nat.dvd_lcm_left _ _) (ah3 qs _)
theorem al2:∀ (qs:List Rat) (b:Nat) (q:Rat),q∈qs→q.den ∣ qs.foldl (fun b q=>Nat.lcm b q.den) b
 | r :: qs,b,q,h=>by
  rcases List.mem_cons.mp h with e | e
  ·subst e;exact Nat.dvd_trans (Nat.dvd_lcm_right _ _) (ah3 qs _)
  ·exact al2 qs _ q e
theorem T7 {qs:List Rat} {q:Rat} (h:q∈qs):q.den ∣ q8 qs:=al2 qs 1 q h
def D6 (ws:List Int):Nat:=ws.foldl (fun c w=>Int.gcd w c) 0
theorem aS4 (ws:List Int) (w:Int):D6 (ws++[w])=Int.gcd w (D6 ws):=by simp [D6]
theorem al5:∀ (ws:List Int) (c:Nat),(ws.foldl (fun c w=>Int.gcd w c) c ∣ c)∧∀ w∈ws,((ws.foldl (fun c w=>Int.gcd w c) c:Nat):Int) ∣ w
 | [],c=>⟨Nat.dvd_refl _,by simp⟩
 | w :: ws,c=>by
  obtain ⟨h1,h2⟩:=al5 ws (Int.gcd w c)
  have a1:Int.gcd w c ∣ c:=by have:=Int.gcd_dvd_right w (c:Int);exact Int.natCast_dvd_natCast.mp this
  refine ⟨Nat.dvd_trans h1 a1,fun v hv=>?_⟩
  rcases List.mem_cons.mp hv with e | e
  ·subst e
   exact Int.dvd_trans (Int.natCast_dvd_natCast.mpr h1) (Int.gcd_dvd_left v (c:Int))
  ·exact h2 v e
theorem U8 {ws:List Int} {w:Int} (h:w∈ws):((D6 ws:Nat):Int) ∣ w:=(al5 ws 0).2 w h
theorem al4:∀ (ws:List Int),ws.foldl (fun c w=>Int.gcd w c) 1=1
 | []=>rfl
 | w :: ws=>by
  rw [List.foldl_cons]
  have:Int.gcd w ((1:Nat):Int)=1:=by simp
  rw [this,al4 ws]
theorem ba0 {ws:List Int} (i:Nat) (h:D6 (ws.take i)=1):D6 ws=1:=by
 have e:ws=ws.take i++ws.drop i:=(List.take_append_drop i ws).symm
 rw [e]
 unfold D6 at h ⊢
 rw [List.foldl_append,h,al4]
def m8 (B:Nat) (qs:List Rat):List Int:=qs.map fun q=>q.num * (B:Int).fdiv (q.den:Int)
theorem aU1 {B:Nat} {q:Rat} (hB:0<B) (h:q.den ∣ B):q=Rat.divInt (q.num * (B:Int).fdiv (q.den:Int)) B:=by
 obtain ⟨e,he⟩:=h
 have hd:(q.den:Int)≠0:=by have:=q.den_nz;omega
 have e1:(B:Int).fdiv (q.den:Int)=(e:Int):=by
  rw [he,Int.natCast_mul];exact j7 hd
 rw [e1]
 conv=>lhs;rw [←Rat.num_divInt_den q]
 rw [Rat.divInt_eq_divInt_iff hd (by omega),he,Int.natCast_mul]
 grind
end R
namespace L2
open PySem PySem.Spec PyProof.Rows
section
variable {K:PySem.W.Frag} {a b D:Addr} {xs ys:List V} {g:TG} {te:TE} {σ0:St} {H0:Hp} {Q:VK}
theorem bb2 (xs ys:List V) (Pv:Nat→St→Hp→Prop) (h0:Pv 0 σ0 H0) (hl:∀ i σ H,Pv i σ H→SqL K H a xs∧SqL K H b ys)
  (hs:∀ i x y σ H p,xs[i]? = some x→ys[i]? = some y→Pv i σ H→H p=none→g (.ref p) σ (upd H p (.tup [x,y])) fun σ4 H4=>te σ4 H4 fun v H5=>D5 D (min xs.length ys.length) Pv i σ4 v H5)
  (hd:∀ σ H,Pv (min xs.length ys.length) σ H→Q (.ref D) H):au1 (Itz K a b) D σ0 H0 g te Q:=by
 refine ⟨fun i m σ H=>m=min xs.length ys.length - i∧i≤min xs.length ys.length∧Pv i σ H,⟨_,rfl,Nat.zero_le _,h0⟩,?_⟩
 rintro i m σ H ⟨rfl,hi,p⟩
 obtain ⟨q,q'⟩:=hl i σ H p
 by_cases hlt:i<min xs.length ys.length
 ·have h1:i<xs.length:=by omega
  have h2:i<ys.length:=by omega
  refine .inr ⟨⟨xs,ys,xs[i],ys[i],q,q',List.getElem?_eq_getElem h1,List.getElem?_eq_getElem h2⟩,?_⟩
  intro v H3 hy
  obtain ⟨x,y,r,e1,e2,hr,rfl,rfl⟩:=hy xs ys q q'
  exact hs i x y σ _ r e1 e2 p hr
 ·have e:i=min xs.length ys.length:=by omega
  subst e
  exact .inl ⟨⟨xs,ys,q,q',by omega⟩,hd σ H p⟩
theorem aP1 (xs:List V) (Pv:Nat→St→Hp→Prop) (h0:Pv 0 σ0 H0) (hl:∀ i σ H,Pv i σ H→SqL K H a xs)
  (hs:∀ i x σ H p,xs[i]? = some x→Pv i σ H→H p=none→g (.ref p) σ (upd H p (.tup [.int i,x])) fun σ4 H4=>te σ4 H4 fun v H5=>D5 D xs.length Pv i σ4 v H5)
  (hd:∀ σ H,Pv xs.length σ H→Q (.ref D) H):au1 (Ite K a) D σ0 H0 g te Q:=by
 refine ⟨fun i m σ H=>m=xs.length - i∧i≤xs.length∧Pv i σ H,⟨_,rfl,Nat.zero_le _,h0⟩,?_⟩
 rintro i m σ H ⟨rfl,hi,p⟩
 have q:=hl i σ H p
 by_cases hlt:i<xs.length
 ·refine .inr ⟨⟨xs,xs[i],q,List.getElem?_eq_getElem hlt⟩,?_⟩
  intro x H3 hy
  obtain ⟨y,r,hy1,hr,rfl,rfl⟩:=hy xs q
  exact hs i y σ _ r hy1 p hr
 ·have e:i=xs.length:=by omega
  subst e
  exact .inl ⟨⟨xs,q,Nat.le_refl _⟩,hd σ H p⟩
theorem aH5 {tb:TS} {E:ab2} {σ:St} {H:Hp} (xs:List V) (Pv:Nat→St→Hp→Prop) (h0:Pv 0 σ H) (hl:∀ i σ H,Pv i σ H→SqL K H a xs)
  (hs:∀ i x σ H p,xs[i]? = some x→Pv i σ H→H p=none→g (.ref p) σ (upd H p (.tup [.int i,x])) fun σ2 H2=>tb { E with nx:=Pv (i+1),ct:=Pv (i+1),bk:=E.nx } σ2 H2) (hd:∀ σ H,Pv xs.length σ H→E.nx σ H) :
  ∃ W:Nat→Nat→St→Hp→Prop,(∃ m,W 0 m σ H)∧∀ i m σ H,W i m σ H →
   ((Ite K a).stop i H∧E.nx σ H)∨((Ite K a).go i H∧∃ N:St→Hp→Prop,(∀ σ' H',N σ' H'→∃ m',m'<m∧W (i+1) m' σ' H')∧∀ x H',(Ite K a).yld i H x H'→g x σ H' fun σ2 H2=>tb { E with nx:=N,ct:=N,bk:=E.nx } σ2 H2):=by
 refine ⟨fun i m σ H=>m=xs.length - i∧i≤xs.length∧Pv i σ H,⟨_,rfl,Nat.zero_le _,h0⟩,?_⟩
 rintro i m σ H ⟨rfl,hi,p⟩
 have q:=hl i σ H p
 by_cases hlt:i<xs.length
 ·refine .inr ⟨⟨xs,xs[i],q,List.getElem?_eq_getElem hlt⟩,Pv (i+1),fun σ' H' n=>⟨_,by omega,rfl,hlt,n⟩,?_⟩
  intro x H3 hy
  obtain ⟨y,r,hy1,hr,rfl,rfl⟩:=hy xs q
  exact hs i y σ _ r hy1 p hr
 ·have e:i=xs.length:=by omega
  subst e
  exact .inl ⟨⟨xs,q,Nat.le_refl _⟩,hd σ H p⟩
end
end L2
set_option maxRecDepth 100000
namespace R
open PySem L2 PyProof.Rows
def t8 (f:Nat→Rat):Nat→Rat
 | 0=>0
 | n+1=>t8 f n+f n
theorem aE6 (f:Nat→Rat):∀ n,t8 f (n+1)=f 0+t8 (fun i=>f (i+1)) n
 | 0=>by simp only [t8];grind
 | n+1=>by
  rw [t8,aE6 f n,t8];grind
theorem M8 {f g:Nat→Rat}:∀ {n},(∀ i,i<n→f i=g i)→t8 f n=t8 g n
 | 0,_=>rfl
 | n+1,h=>by rw [t8,t8,M8 fun i hi=>h i (by omega),h n (by omega)]
theorem ad9 {f:Nat→Rat} {m:Nat}:∀ {n},m≤n→(∀ i,m≤i→i<n→f i=0)→t8 f n=t8 f m
 | 0,h,_=>by rw [show m=0 by omega]
 | n+1,h,z=>by
  by_cases e:m=n+1
  ·rw [e]
  ·rw [t8,z n (by omega) (by omega),ad9 (n:=n) (by omega) fun i a b=>z i a (by omega)]
   grind
theorem ax4 (f:List Rat) (i:Nat) (x:Rat) (q:List Rat) {k:Nat} (y:Rat) (hy:f[k]? = some y):∀ j,(F6 0 f i x q j)[k]? = some (y+if i≤k∧k<i+j then x * (q[k - i]?).getD 0 else 0)
 | 0=>by
  rw [F6,hy,if_neg (by omega)];congr 1;grind
 | j+1=>by
  have ih:=ax4 f i x q y hy j
  rw [F6]
  by_cases e:k=i+j
  ·subst e
   rw [at6 _ _ _ _ ih,if_neg (by omega),if_pos (by omega),show i+j - i=j by omega]
   congr 1;grind
  ·rw [aa9 _ _ _ _ e,ih]
   by_cases h:i≤k∧k<i+j
   ·rw [if_pos h,if_pos (by omega)]
   ·rw [if_neg h,if_neg (by omega)]
def al7 (p q:List Rat) (k i:Nat):Rat:=if i≤k then (p[i]?).getD 0 * (q[k - i]?).getD 0 else 0
theorem ab9 (f p q:List Rat) {k:Nat} (hy:f[k]? = some 0):∀ n,(F5 0 f p q n)[k]? = some (t8 (al7 p q k) n)
 | 0=>hy
 | n+1=>by
  rw [F5,ax4 _ _ _ _ _ (ab9 f p q hy n),t8]
  congr 2
  unfold al7
  by_cases h:n≤k
  ·rw [if_pos h]
   by_cases h2:k<n+q.length
   ·rw [if_pos ⟨h,h2⟩]
   ·rw [if_neg (by omega),List.getElem?_eq_none (l:=q) (by omega)]
    show (0:Rat)=_ * 0
    grind
  ·rw [if_neg h,if_neg (by omega)]
theorem aY6 {p q:List Rat} (hp:p≠[]) (hq:q≠[]) {k:Nat} (hk:k<p.length+q.length - 1):(ae9 p q)[k]? = some (t8 (fun i=>(p[i]?).getD 0 * (q[k - i]?).getD 0) (k+1)):=by
 unfold ae9
 rw [if_neg (by simp [hp,hq]),ab9 _ _ _ (by rw [List.getElem?_replicate,if_pos hk])]
 congr 1
 have h1:t8 (al7 p q k) (max p.length (k+1))=t8 (al7 p q k) p.length:=ad9 (by omega) fun i a _=>by
  unfold al7
  rw [List.getElem?_eq_none a]
  split
  ·show (0:Rat) * _=0;grind
  ·rfl
 have h2:t8 (al7 p q k) (max p.length (k+1))=t8 (al7 p q k) (k+1):=ad9 (by omega) fun i a _=>by
  unfold al7
  rw [if_neg (by omega)]
 rw [←h1,h2]
 exact M8 fun i hi=>by unfold al7;rw [if_pos (by omega)]
end R
namespace L2
theorem i8 {t R:TS} {D:ab2} {σ:St} {H:Hp} (P:St→Hp→Prop) (first:∀ N:St→Hp→Prop,(∀ σ H,P σ H→N σ H)→t { D with nx:=N } σ H) (ag4:∀ σ H,P σ H→R D σ H):bc4 t R D σ H:=first _ ag4
end L2
set_option maxRecDepth 100000
namespace R
section
variable {α:Type} [Lean.Grind.CommRing α]
def sad (c a : α):List α→List α
 | []=>[a]
 | r :: rs=>(a+c * r) :: sad c r rs
def syn (c : α):List α→List α
 | []=>[]
 | a :: p=>match syn c p with
  | []=>[a]
  | h :: t=>(a+c * h) :: h :: t
theorem ag3 (c a : α):∀ r:List α,(sad c a r).length=r.length+1
 | []=>rfl
 | x :: r=>by simp only [sad,List.length_cons,ag3 c x r]
def pass (c : α) (k:Nat) (l:List α):List α:=l.take k++syn c (l.drop k)
theorem aF9 (c : α):∀ (r:List α) (a x : α),r[r.length - 1]? = some x→(sad c a r)[(sad c a r).length - 1]? = some x
 | [],a,x,h=>by cases h
 | [y],a,x,h=>by simpa [sad] using h
 | y :: z :: r,a,x,h=>by
  have:=aF9 c (z :: r) y x (by simpa using h)
  rw [ag3] at this ⊢
  rw [sad]
  simpa using this
end
open PySem L2 PyProof.Rows
structure Bd6 (q:Rat):Prop where
 n:q.num.natAbs<2 ^ 6000
 d:q.den<2 ^ 6000
theorem BdN.bd6 {n:Nat} {q:Rat} (h:BdN n q) (l:n≤6000):Bd6 q:=⟨Nat.lt_of_lt_of_le h.n (i3 l),Nat.lt_of_lt_of_le h.d (i3 l)⟩
theorem al1:∀ (qs:List Rat) (b:Nat),0<b→0<qs.foldl (fun b q=>Nat.lcm b q.den) b
 | [],b,h=>h
 | q :: qs,b,h=>al1 qs _ (Nat.lcm_pos h (by have:=q.den_nz;omega))
theorem U7 (qs:List Rat):0<q8 qs:=al1 qs 1 (by decide)
theorem aE1 (qs:List Rat):Int.gcd (D6 (m8 (q8 qs) qs):Int) (q8 qs:Int)=1:=by
 have hB:=U7 qs
 have key:∀ c:Nat,c ∣ D6 (m8 (q8 qs) qs)→c ∣ q8 qs→c=1:=by
  intro c h1 h2
  have hc:0<c:=Nat.pos_of_dvd_of_pos h2 hB
  have h3:q8 qs ∣ q8 qs / c:=by
   refine ar6 fun q hq=>?_
   obtain ⟨e,he⟩:=T7 hq
   have hd:(q.den:Int)≠0:=by have:=q.den_nz;omega
   have e1:(q8 qs:Int).fdiv (q.den:Int)=(e:Int):=by
    rw [he,Int.natCast_mul];exact j7 hd
   have m1:(c:Int) ∣ q.num * (e:Int):=by
    have:=Int.dvd_trans (Int.natCast_dvd_natCast.mpr h1) (U8 (List.mem_map.mpr ⟨q,hq,rfl⟩))
    rw [e1] at this;exact this
   have m2:c ∣ q.num.natAbs * e:=by
    have:=Int.natAbs_dvd_natAbs.mpr m1
    rw [Int.natAbs_mul] at this
    simpa using this
   have m3:c ∣ q.den * e:=by rw [←he];exact h2
   have m4:c ∣ e:=by
    have:=Nat.dvd_gcd m2 m3
    rw [Nat.gcd_mul_right] at this
    have hg:Nat.gcd q.num.natAbs q.den=1:=q.reduced
    rw [hg,Nat.one_mul] at this
    exact this
   obtain ⟨f,hf⟩:=m4
   rw [he,hf]
   refine ⟨f,?_⟩
   rw [show q.den * (c * f)=c * (q.den * f) by grind,Nat.mul_div_cancel_left _ hc]
  have h4:=Nat.le_of_dvd (Nat.div_pos (Nat.le_of_dvd hB h2) hc) h3
  have h5:=Nat.div_mul_cancel h2
  by_cases hc1:c=1
  ·exact hc1
  ·have:q8 qs / c * 2≤q8 qs / c * c:=Nat.mul_le_mul_left _ (by omega)
   omega
 have z:=key (Int.gcd (D6 (m8 (q8 qs) qs):Int) (q8 qs:Int))
 refine z ?_ ?_
 ·exact Int.natCast_dvd_natCast.mp (Int.gcd_dvd_left _ _)
 ·exact Int.natCast_dvd_natCast.mp (Int.gcd_dvd_right _ _)
theorem aN7 (c:Rat):∀ (r:List Rat) (a:Rat) (k:Nat),k≤r.length→(sad c a r)[k]? = some ((if k=0 then a else (r[k - 1]?).getD 0)+c * (r[k]?).getD 0)
 | [],a,k,h=>by
  have:k=0:=by simpa using h
  subst this
  simp only [sad,List.getElem?_cons_zero,if_pos,List.getElem?_nil,Option.getD_none]
  congr 1;grind
 | x :: r,a,0,h=>by simp [sad]
 | x :: r,a,k+1,h=>by
  have:=aN7 c r x k (by simpa using h)
  rw [sad,List.getElem?_cons_succ,this]
  cases k with
  | zero=>simp
  | succ k=>simp
theorem X9 {f:Nat→Rat}:∀ n,(∀ i,i<n→f i=0)→t8 f n=0
 | 0,_=>rfl
 | n+1,h=>by
  rw [t8,X9 n (fun i hi=>h i (by omega)),h n (by omega)]
  grind
theorem aH1 {r:List Rat} (hr:r≠[]) (c:Rat) {k:Nat} (hk:k≤r.length):(ae9 r [c,1])[k]? = some ((if k=0 then 0 else (r[k - 1]?).getD 0)+c * (r[k]?).getD 0):=by
 rw [aY6 hr (by simp) (by simp only [List.length_cons,List.length_nil];omega)]
 congr 1
 rw [t8,Nat.sub_self]
 simp only [List.getElem?_cons_zero,Option.getD_some]
 cases k with
 | zero=>rw [t8,if_pos rfl];grind
 | succ k=>
  rw [t8,X9 k fun i hi=>?_,show k+1 - k=1 by omega,if_neg (by omega)]
  ·simp only [List.getElem?_cons_succ,List.getElem?_cons_zero,Option.getD_some,Nat.add_sub_cancel]
   grind
  ·have:k+1 - i=(k - 1 - i)+2:=by omega
   rw [this]
   simp only [List.getElem?_cons_succ,List.getElem?_nil,Option.getD_none]
   grind
theorem bf1 {r:List Rat} (hr:r≠[]) (c:Rat):ae9 r [c,1]=sad c 0 r:=by
 have hl:(ae9 r [c,1]).length=r.length+1:=by rw [aY5 hr (by simp)];simp only [List.length_cons,List.length_nil];omega
 refine List.ext_getElem? fun k=>?_
 by_cases hk:k≤r.length
 ·rw [aH1 hr c hk,aN7 c r 0 k hk]
 ·rw [List.getElem?_eq_none (by omega),List.getElem?_eq_none (by rw [ag3];omega)]
end R
set_option maxRecDepth 100000
namespace L2
open PySem PySem.Spec PyProof.Rows
theorem aR7 {h:Heap} {a:Addr} {m:Str→Option Value} {o:Obj} (n:h.Ns a m) (e:h.get? a=some o) (v:Option Value) (z:o.data = .cell v):False:=by
 obtain ⟨o',es,ep,e',r⟩:=n
 rw [e] at e'
 cases e'
 have d:=r.1
 rw [d] at z;cases z
section
variable {X:Cx}
theorem U4 {elt tg iter:Expr} {scope:Scope} {pos spos py:Pos} {y:Str} {i₀:Nat} {cl:List (Str × Addr)} {Nc:List Str} {caps:List (Option Nat)} {wi:TI} {g:TG} {te:TE} (hN:X.N.Nodup) (hi₀:X.N[i₀]? = some y) (hx:Loc X.env.scope y) (hc:X.calm=true) (cp:X5 X scope cl Nc caps) (hi:PI X tg iter wi)
  (hg:∀ C s₂ H₂ fp pins,PG (X.block scope cl C Nc s₂ H₂ fp pins) tg g) (he:∀ C s₂ H₂ fp pins,PE (X.block scope cl C Nc s₂ H₂ fp pins) elt te) (hs:∀ x,foldedSetIterable iter X.env x=pure x:=by intro _;rfl) (hsw:swapsWith (.ListComp elt [⟨tg,iter,[],0⟩] scope pos) (some (.Name y py)) spos.line X.env=pure true:=by rfl)
  (hf:X.fn y=true∨X.env.scope.names.lookup y=some .local:=by first | exact .inl rfl | exact .inr rfl | assumption) :
  PS X (.Assign [.Name y py] (.ListComp elt [⟨tg,iter,[],0⟩] scope pos) spos) (aV2 (aM9 wi caps g te) (v3 i₀)):=by
 intro pins s σ H DD I h
 rw [exec_Assign_Name_used _ _ _ _ hsw]
 refine wpAny_bind (wpAny_standAt (wpAny_bind ?_))
 show wpAny _ X.A (do let _ ←comprehension (.ListComp elt [⟨tg,iter,[],0⟩] scope pos) scope X.env _ (newList []) false (eval iter X.env) (some (assign (.Name y py) X.env))) _ _ s
 refine wpAny_bind (wpAny_mono (wpAny_comprehension_free (use:=some (assign (.Name y py) X.env)) (Q:=fun _ s'=>SP X pins DD .next s') rfl hs cp.clos cp.kind cp.names ?_) (fun _ s' hq=>wpAny_pure (wpAny_pure hq)) fun _ _ e=>e)
 refine thn (hi pins s σ H _ I h) fun v s1 h1=>thn h1 fun itv s2 h2=>?_
 obtain ⟨it,fp,tn,J,H2,e,I2,T,st2,f2,hW⟩:=h2
 subst e
 refine wpAny_newObj_type ?_ (by show 0≤sizeLine;exact Nat.zero_le _)
 refine wpAny_newFunctionEnv cp.nocell (by intro y hy;simp at hy) (fun h4 hns hsb=>?_) cp.kind
 dsimp only at hns hsb ⊢
 generalize hH3:s2.heap.push { cls:=.type "list",dict:=none,data:=.seq ([]:List Value).toArray }=H3 at hns hsb ⊢
 have hCe:H3.objs.size=s2.heap.objs.size+1:=by rw [←hH3,Heap.size_push]
 have R0:∀ b o,s2.heap.get? b=some o→b≠H3.objs.size:=fun b o e=>by rw [hCe];exact Nat.ne_of_lt (Nat.lt_succ_of_lt (Heap.lt_size e))
 have old:∀ b o,s2.heap.get? b=some o→h4.get? b=some o:=fun b o e=>hsb.extBut b o (R0 b o e) (Heap.get?_push_of_some _ (hH3 ▸ Heap.get?_push_of_some _ e))
 have hD:h4.get? s2.heap.objs.size=some { cls:=.type "list",dict:=none,data:=.seq ([]:List Value).toArray }:=
  hsb.extBut _ _ (by rw [hCe];exact Nat.ne_of_lt (Nat.lt_succ_self _)) (Heap.get?_push_of_some _ (hH3 ▸ Heap.get?_push_size _ rfl))
 have hDn:H2 s2.heap.objs.size=none:=I2.fresh
 have hCn:H2 H3.objs.size=none:=I2.hok.fresh (by rw [hCe];exact Nat.le_succ _)
 have hCs:s2.heap.objs.size≤H3.objs.size:=by rw [hCe];exact Nat.le_succ _
 have hDC:s2.heap.objs.size≠H3.objs.size:=by rw [hCe];exact Nat.ne_of_lt (Nat.lt_succ_self _)
 have fpl:∀ b∈fp,∃ o,s2.heap.get? b=some o:=fun b hb=>let ⟨o,e,_⟩:=T.obj _ _ st2 b hb;⟨o,e⟩
 have fpC:∀ b∈fp,b≠H3.objs.size:=fun b hb=>let ⟨o,e⟩:=fpl b hb;R0 b o e
 have fpD:∀ b∈fp,b≠s2.heap.objs.size:=fun b hb=>let ⟨o,e⟩:=fpl b hb;Nat.ne_of_lt (Heap.lt_size e)
 have stkN:∀ b,b≠X.env.locals→b ∉ X.fs→b ∉ frs X.stack:=fun b h1 h2 z=>(List.mem_cons.mp (I2.stkSub b z)).elim h1 h2
 obtain ⟨W,⟨m0,w0⟩,turn⟩:=hW s2.heap.objs.size hDn
 have okB:(X.block scope cl H3.objs.size Nc s2 H2 fp pins).Ok:=by
  refine ⟨I2.ok.mod,?_,I2.ok.glob,I2.ok.blt,hCs,fun x y c h1 h2=>I2.ok.inj x y c (cp.sub x c h1) (cp.sub y c h2),fun x hx=>cp.has x hx,fun x c h=>(by cases h),I2.ok.hd,I2.ok.frames,.inl rfl,fun b hb=>⟨fpC b hb,fun x c h=>(f2 b hb).2.2.2.2.1 x c (cp.sub x c h)⟩,I2.bs,Nat.le_trans I2.ok.bsz I2.sz,fun b o e hb=>?_,fun b hb=>stkN b (f2 b hb).2.1 (f2 b hb).2.2.1,I2.stack,I2.stkFree⟩
  ·exact cp.kind
  ·rcases (f2 b hb).2.2.2.1 with z | z
   ·exact I2.ok.noex b o e z
   ·exact absurd (Nat.lt_of_lt_of_le (Heap.lt_size e) (Nat.le_trans I2.ok.bsz z)) (Nat.lt_irrefl _)
 have hokB:HOk X.prog X.w (upd H2 s2.heap.objs.size (.lst [])) h4:=I2.hok.laid old (Nat.le_refl _) ⟨Nat.zero_le _,[],_,.nil,hD⟩
 have IB:Inv (X.block scope cl H3.objs.size Nc s2 H2 fp pins) [] (O1 caps σ) (upd H2 s2.heap.objs.size (.lst [])) { s2 with heap:=h4,toks:=s2.toks+([]:List (Str × Value)).length }:=by
  refine ⟨okB,rfl,I2.bare,Un.laid old (Nat.le_refl _) hDn,⟨_,hns,fun i x v e1 e2 e3=>?_⟩,fun x c e=>?_,(show upd H2 s2.heap.objs.size (.lst []) H3.objs.size=none by rw [j3 (Ne.symm hDC)];exact hCn),fun x c e=>?_,fun p hp=>?_,hokB,?_⟩
  ·unfold O1 at e2
   rw [List.getElem?_map] at e2
   cases hcap:caps[i]? with
   | none=>rw [hcap] at e2;cases e2
   | some o=>
    rw [hcap] at e2
    cases o with
    | none=>cases e2
    | some j=>
     have hj:σ[j]? = some (some v):=by
      have e2':(σ[j]?).join=some v:=Option.some.inj e2
      cases q:σ[j]? with
      | none=>rw [q] at e2';cases e2'
      | some z=>rw [q] at e2';exact congrArg some e2'
     obtain ⟨n1,n2,n3,n4⟩:=cp.cap i j x hcap e1
     obtain ⟨m,hm,hl⟩:=I2.loc
     obtain ⟨u,r,q⟩:=hl j x v n1 hj n2
     rcases q with ⟨k,_⟩ | ⟨k,c,ec,z⟩
     ·exact absurd k n3
     ·obtain ⟨c',ec'⟩:=cp.has x n4
      have:=cp.sub x c' ec'
      rw [ec] at this;cases this
      obtain ⟨oc,ho,hd⟩:=z
      exact ⟨u,r,.inr ⟨n4,c,ec',oc,old _ _ ho,hd⟩⟩
  ·obtain ⟨v,oc,ho,hd⟩:=I2.cell x c (cp.sub x c e)
   exact ⟨v,oc,old _ _ ho,hd⟩
  ·obtain ⟨v,oc,ho,hd⟩:=I2.cell x c (cp.sub x c e)
   rw [j3 (Nat.ne_of_lt (Heap.lt_size ho))]
   exact I2.freeC x c (cp.sub x c e)
  ·have hp':p∈X.pn++pins:=by simpa using hp
   obtain ⟨e1,e2,e3,e4,e5⟩:=I2.pin p hp'
   exact ⟨old _ _ e1,by rw [j3 (Nat.ne_of_lt (Heap.lt_size e1))];exact e2,R0 _ _ e1,stkN _ e3 e4,e5⟩
  ·show (O1 caps σ).length=Nc.length
   unfold O1
   rw [List.length_map];exact cp.len
 have stat:∀ {H':Hp},(∀ b∈fp,H' b=none)→∀ b∈fp,ak4 (X.block scope cl H3.objs.size Nc s2 H2 fp pins) [] H' b:=fun hn b hb=>
  ⟨hn b hb,fpC b hb,stkN b (f2 b hb).2.1 (f2 b hb).2.2.1,.inl hb,fun x c h=>(f2 b hb).2.2.2.2.1 x c (cp.sub x c h),fun p hp=>(f2 b hb).2.2.2.2.2 p (by simpa using hp)⟩
 have loop:∀ s5:Shared,s5={ s2 with heap:=h4,toks:=s2.toks+([]:List (Str × Value)).length } →
   codeAny (model X.prog X.w) X.A (.compLoop (.ListComp elt [⟨tg,iter,[],0⟩] scope pos) 0 (.ref it) (.ref s2.heap.objs.size) (compEnvC scope cl H3.objs.size X.env))
    (compPost (model X.prog X.w) X.A X.xe (some (assign (.Name y py) X.env)) (fun _ s'=>SP X pins DD .next s') (.ref s2.heap.objs.size) H3.objs.size) s5:=by
  rintro s5 rfl
  refine aj9 (fun n s'=>∃ i σ' H',Inv (X.block scope cl H3.objs.size Nc s2 H2 fp pins) [] σ' H' s'∧tn i s'.heap∧(∀ b∈fp,H' b=none)∧W i n σ' H') ?_ m0 ⟨0,_,_,IB,T.keep _ _ _ st2 fun b hb o e=>old b o e,fun b hb=>by rw [j3 (fpD b hb)];exact (f2 b hb).1,w0⟩
  rintro n s6 ⟨i,σ6,H6,I6,st6,fr6,w6⟩
  rcases turn i n σ6 H6 w6 with ⟨stop,qn⟩ | ⟨go,step⟩
  ·refine thn (T.done (X.block scope cl H3.objs.size Nc s2 H2 fp pins) rfl rfl rfl hc i [] s6 σ6 H6 _ I6 (stat fr6) st6 stop) fun r s7 ⟨hr,I7⟩=>?_
   subst hr
   obtain ⟨m7,hn7,_⟩:=id I7.loc
   have Io:Inv X pins σ H6 s7:=I2.sameC (h'':=s7.heap) f2 I7.os I7.bare I7.base I7.hok hCs I7.free ⟨rfl,fun _ _=>rfl⟩
   have fC:ak4 X pins H6 H3.objs.size:=I2.fpOk hCs I7.free
   have fC':∀ b∈[H3.objs.size],ak4 X pins H6 b:=fun b hb=>by rw [List.mem_singleton.mp hb];exact fC
   obtain ⟨oC,esC,epC,hoC,restC⟩:=id hn7
   have obC:∀ b∈[H3.objs.size],∃ o,s7.heap.get? b=some o∧∀ v,o.data≠.cell v:=fun b hb=>by
    rw [List.mem_singleton.mp hb]
    exact ⟨oC,hoC,fun v z=>aR7 hn7 hoC v z⟩
   have Ip:=Io.pinned fC' obC
   show wpAny (model X.prog X.w) X.A (assign (.Name y py) X.env (.ref s2.heap.objs.size)) _ _ s7
   refine thn (g8 (pos:=py) hN hi₀ hx hf _ s7 σ H6 (.ref s2.heap.objs.size) (.ref s2.heap.objs.size) DD.nx Ip rfl qn) fun _ s9 ⟨σ9,H9,I9,q9⟩=>?_
   have keepC:=(I9.pin (H3.objs.size,oC) (List.mem_append_right _ (List.mem_append_right _ (D3 (by simp) hoC)))).1
   have H9C:=(I9.pin (H3.objs.size,oC) (List.mem_append_right _ (List.mem_append_right _ (D3 (by simp) hoC)))).2.1
   refine ⟨m7,hn7.at' fun o e=>by rw [hoC] at e;cases e;exact keepC,fun h' sb=>?_⟩
   obtain ⟨_,g1,g2,g3,g4,g5⟩:=fC
   exact ⟨σ9,H9,I9.unpinned.turned (t':=s9.toks) (fun b o hb e=>(sb.2 b hb).trans e) H9C g1 g3 g4 g5,q9⟩
  ·refine thn (T.item (X.block scope cl H3.objs.size Nc s2 H2 fp pins) rfl rfl rfl hc i [] s6 σ6 H6 _ I6 (stat fr6) st6 go) fun r s7 ⟨u,hr,h7⟩=>?_
   subst hr
   refine thn h7 fun _ s8 ⟨x,H8,I8,r8,y8,st8,fr8⟩=>?_
   have I8':=I8.pinned (stat fr8) (T.obj _ _ st8)
   refine thn (hg _ _ _ _ _ _ s8 σ6 H8 x u _ I8' r8 (step x H8 y8)) fun _ s9 ⟨σ9,H9,I9,q9⟩=>?_
   refine thn (he _ _ _ _ _ _ s9 σ9 H9 _ I9 q9) fun u10 s10 ⟨v10,H10,I10,r10,ys,hys,hlen,m',hm',w'⟩=>?_
   refine thn (W4 _ s10 σ9 H10 (.ref s2.heap.objs.size) [v10] (.ref s2.heap.objs.size) [u10] (fun _ H11=>H11=upd H10 s2.heap.objs.size (.lst (ys++[v10]))) I10 rfl (.cons r10 .nil) ⟨_,ys,v10,rfl,rfl,hys,hlen,rfl⟩) fun _ s11 ⟨_,H11,I11,_,hH11⟩=>?_
   subst hH11
   refine ⟨m',hm',i+1,σ9,_,I11.unpinned,T.keep _ _ _ st8 fun b hb o e=>(I11.pin (b,o) (List.mem_append_right _ (List.mem_append_right _ (D3 hb e)))).1,fun b hb=>?_,w'⟩
   obtain ⟨o,e,d⟩:=T.obj _ _ st8 b hb
   exact (I11.pin (b,o) (List.mem_append_right _ (List.mem_append_right _ (D3 hb e)))).2.1
 exact codeAny_compStart_list (loop _ rfl) (T.self _ 0 _ _ _ (T.keep _ _ _ st2 fun b hb o e=>old b o e) (loop _ rfl))
end
theorem PS.nox {X:Cx} {st:Stmt} {t:TS} (h:PS X.nox st t):PS X st t:=fun pins s σ H D I hw=>
 wpAny_mono (h pins s σ H D (I.wish _) hw) (fun _ _ q=>q.unwish) fun _ _ z=>False.elim z
theorem V4 {M:Model} {A:Around} {E:Value→Shared→Prop} {s:Shared} {scope:Scope} {globals:Addr} {cl:List (Str × Addr)} {qual:Str} {func:Option Addr} {code:Value} {outer:Env} {Q:Env→Shared→Prop}
  (hQ:Q { scope,locals:=s.heap.objs.size,globals,cells:=cellsFrom (s.heap.objs.size+1) scope.names cl,qual,func,code:=outer.code,frame:=outer.frame,builtins:=outer.builtins }
   { s with heap:=pushCells (s.heap.push { cls:=.type "dict",data:=.dict #[] }) scope.names }) :
  wpAny M A (newFunctionEnv scope globals cl [] qual func code (some outer)) Q E s:=by
 simp only [newFunctionEnv,Option.isSome_some,if_true]
 refine wpAny_bind (wpAny_alloc ?_)
 refine wpAny_bind (wpAny_layCells _ (fun name kind cells=>by cases hkc:kind == NameKind.cell <;> simp [hkc]) _ _ _ _ ?_)
 rw [show ({ s with heap:=s.heap.push { cls:=.type "dict",data:=.dict #[] } }:Shared).heap.objs.size=s.heap.objs.size+1 from Heap.size_push ..]
 rw [List.forIn_nil]
 exact wpAny_bind (wpAny_pure (wpAny_pure hQ))
structure bc1 (h h':Heap) (names:List (Str × NameKind)) (acc cs:List (Str × Addr)):Prop where
 cell:∀ x c,cs.lookup x=some c→∃ v,h'.IsCell c v
 inj:∀ x y c,cs.lookup x=some c→cs.lookup y=some c→x=y
 old:∀ x c,cs.lookup x=some c→acc.lookup x=some c∨h.objs.size≤c
 fresh:∀ x,(x,NameKind.cell)∈names→∀ c,cs.lookup x=some c→h.objs.size≤c
theorem W5 {x name:Str} {a c:Addr} {acc:List (Str × Addr)} (h:((name,a) :: acc).lookup x=some c):(x=name∧c=a)∨(x≠name∧acc.lookup x=some c):=by
 rw [List.lookup_cons] at h
 by_cases e:x=name
 ·subst e
  simp at h
  exact .inl ⟨rfl,h.symm⟩
 ·have:(x == name)=false:=by simpa using e
  rw [this] at h
  exact .inr ⟨e,h⟩
theorem ak0:∀ (names:List (Str × NameKind)) (h:Heap) (acc:List (Str × Addr)),(∀ x c,acc.lookup x=some c→∃ v,h.IsCell c v)→(∀ x y c,acc.lookup x=some c→acc.lookup y=some c→x=y) →
  bc1 h (pushCells h names) names acc (cellsFrom h.objs.size names acc)
 | [],h,acc,hc,hi=>⟨hc,hi,fun _ _ e=>.inl e,fun _ hm=>by cases hm⟩
 | (name,kind) :: r,h,acc,hc,hi=>by
  unfold pushCells cellsFrom
  split
  ·have ih:=ak0 r (h.push { cls:=.type "cell",data:=.cell none }) ((name,h.objs.size) :: acc)
    (fun x c e=>by
     rcases W5 e with ⟨_,e2⟩ | ⟨_,e2⟩
     ·subst e2;exact ⟨none,_,Heap.get?_push_size _ rfl,rfl⟩
     ·obtain ⟨v,z⟩:=hc x c e2
      exact ⟨v,z.keeps fun b o e=>Heap.get?_push_of_some _ e⟩)
    (fun x y c e1 e2=>by
     rcases W5 e1 with ⟨a1,a2⟩ | ⟨a1,a2⟩ <;> rcases W5 e2 with ⟨b1,b2⟩ | ⟨b1,b2⟩
     ·rw [a1,b1]
     ·obtain ⟨v,z⟩:=hc y c b2
      exact absurd z.lt (by rw [a2];exact Nat.lt_irrefl _)
     ·obtain ⟨v,z⟩:=hc x c a2
      exact absurd z.lt (by rw [b2];exact Nat.lt_irrefl _)
     ·exact hi x y c a2 b2)
   rw [Heap.size_push] at ih
   refine ⟨ih.cell,ih.inj,fun x c e=>?_,fun x hm c e=>?_⟩
   ·rcases ih.old x c e with z | z
    ·rcases W5 z with ⟨_,e2⟩ | ⟨_,e2⟩
     ·exact .inr (by rw [e2];exact Nat.le_refl _)
     ·exact .inl e2
    ·rw [Heap.size_push] at z
     exact .inr (Nat.le_of_succ_le z)
   ·rcases List.mem_cons.mp hm with z | z
    ·cases z
     rcases ih.old _ c e with z | z
     ·rcases W5 z with ⟨_,e2⟩ | ⟨e1,_⟩
      ·rw [e2];exact Nat.le_refl _
      ·exact absurd rfl e1
     ·rw [Heap.size_push] at z
      exact Nat.le_of_succ_le z
    ·have:=ih.fresh x z c e
     rw [Heap.size_push] at this
     exact Nat.le_of_succ_le this
  ·rename_i hk
   have ih:=ak0 r h acc hc hi
   refine ⟨ih.cell,ih.inj,ih.old,fun x hm c e=>?_⟩
   rcases List.mem_cons.mp hm with z | z
   ·cases z;exact absurd rfl hk
   ·exact ih.fresh x z c e
theorem Z2 {x:Str}:∀ (names:List (Str × NameKind)) (n:Nat) (acc:List (Str × Addr)),(x,NameKind.cell) ∉ names→(cellsFrom n names acc).lookup x=acc.lookup x
 | [],_,_,_=>rfl
 | (name,kind) :: r,n,acc,h=>by
  unfold cellsFrom
  have hr:(x,NameKind.cell) ∉ r:=fun z=>h (List.mem_cons_of_mem _ z)
  split
  ·rename_i hk
   rw [Z2 r _ _ hr,List.lookup_cons]
   have:(x == name)=false:=by
    refine beq_eq_false_iff_ne.mpr fun e=>h ?_
    subst e
    rw [←beq_iff_eq.mp hk]
    exact List.mem_cons_self
   rw [this]
  ·exact Z2 r _ _ hr
theorem V5 {x:Str}:∀ (names:List (Str × NameKind)) (n:Nat) (acc:List (Str × Addr)),((x,NameKind.cell)∈names∨∃ c,acc.lookup x=some c)→∃ c,(cellsFrom n names acc).lookup x=some c
 | [],_,_,h=>h.elim (fun z=>by cases z) id
 | (name,kind) :: r,n,acc,h=>by
  unfold cellsFrom
  have up:(∃ c,acc.lookup x=some c)→∃ c,((name,n) :: acc).lookup x=some c:=fun ⟨c,e⟩=>by
   rw [List.lookup_cons]
   split
   ·exact ⟨_,rfl⟩
   ·exact ⟨c,e⟩
  split
  ·refine V5 r _ _ ?_
   rcases h with z | z
   ·rcases List.mem_cons.mp z with z | z
    ·cases z
     exact .inr ⟨n,by simp⟩
    ·exact .inl z
   ·exact .inr (up z)
  ·rename_i hk
   refine V5 r _ _ ?_
   rcases h with z | z
   ·rcases List.mem_cons.mp z with z | z
    ·cases z;exact absurd rfl hk
    ·exact .inl z
   ·exact .inr z
def aR2 (scope:Scope) (x:Str):Bool:=scope.names.any fun y=>y.1 == x && y.2 == .cell
theorem aO0 {scope:Scope} {x:Str} (h:aR2 scope x=true):(x,NameKind.cell)∈scope.names:=by
 unfold aR2 at h
 obtain ⟨⟨a,k⟩,hm,hh⟩:=List.any_eq_true.mp h
 simp only [Bool.and_eq_true,beq_iff_eq] at hh
 obtain ⟨rfl,rfl⟩:=hh
 exact hm
abbrev Cx.blockC (X:Cx) (scope:Scope) (cl:List (Str × Addr)) (C:Addr) (Nc:List Str) (s₂:Shared) (H₂:Hp) (fp:List Addr) (pins:List (Addr × Obj)):Cx:=
 { X with N:=Nc,s₀:=s₂,H₀:=H₂,env:=compEnvC scope (cellsFrom (C+1) scope.names cl) C X.env,outer:=X.stack,ex:=fp,fn:=aR2 scope,pn:=X.pn++pins,xe:=fun _ _=>False }
structure aP7 (X:Cx) (scope:Scope) (cl:List (Str × Addr)) (Nc:List Str) (caps:List (Option Nat)):Prop where
 clos:closureFor scope X.env=pure cl
 sub:∀ x c,cl.lookup x=some c→X.env.cells.lookup x=some c
 has:∀ n x,(relabel scope X.env).names.lookup x=some .cell∨(relabel scope X.env).names.lookup x=some .free→∃ c,(cellsFrom n scope.names cl).lookup x=some c
 kind:scope.kind = .function
 names:∀ x∈scope.names,x.2 = .local→scope.names.lookup x.1=some .local
 len:caps.length=Nc.length
 cap:∀ (i j:Nat) (x:Str),caps[i]? = some (some j)→Nc[i]? = some x→X.N[j]? = some x∧Vis X.env.scope x∧X.env.kindOf x≠some .local∧((relabel scope X.env).names.lookup x=some .cell∨(relabel scope X.env).names.lookup x=some .free) ∧
  (∃ c,cl.lookup x=some c)∧∀ n c,cl.lookup x=some c→(cellsFrom n scope.names cl).lookup x=some c
def aP3 (scope osc:Scope) (N ks Nc:List Str) (caps:List (Option Nat)):Bool:=
 ((Q7 scope osc).all fun y=>!(y.2 == .cell || y.2 == .free) || ks.contains y.1 || aR2 scope y.1) && scope.kind == .function &&
 (scope.names.all fun y=>y.2 != .local || scope.names.lookup y.1 == some .local) && caps.length == Nc.length &&
 ((caps.zip Nc).all fun p=>match p.1 with
  | none=>true
  | some j=>N[j]? == some p.2 && aS2 (osc.names.lookup p.2) && aS2 ((Q7 scope osc).lookup p.2) && ks.contains p.2 && !aR2 scope p.2)
theorem aP7.of {X:Cx} {scope osc:Scope} {cl:List (Str × Addr)} {N ks Nc:List Str} {caps:List (Option Nat)} (clos:closureFor scope X.env=pure cl) (hN:X.N=N) (hosc:X.env.scope=osc) (hks:cl.map (·.1)=ks)
  (sub:∀ x c,cl.lookup x=some c→X.env.cells.lookup x=some c) (ok:aP3 scope osc N ks Nc caps=true):aP7 X scope cl Nc caps:=by
 unfold aP3 at ok
 simp only [Bool.and_eq_true,List.all_eq_true,beq_iff_eq,Bool.or_eq_true,Bool.not_eq_true',bne_iff_ne,ne_eq] at ok
 obtain ⟨⟨⟨⟨o1,o3⟩,o4⟩,o5⟩,o6⟩:=ok
 have er:(relabel scope X.env).names=Q7 scope osc:=by subst hosc;rfl
 have kof:∀ x,X.env.kindOf x=osc.names.lookup x:=fun x=>by subst hosc;rfl
 refine ⟨clos,sub,fun n x h=>?_,o3,fun x hx hl=>?_,o5,fun i j x h1 h2=>?_⟩
 ·rw [er] at h
  have key:∀ k,(Q7 scope osc).lookup x=some k→(k = .cell∨k = .free)→∃ c,(cellsFrom n scope.names cl).lookup x=some c:=fun k hk hcf=>by
   refine V5 _ _ _ ?_
   rcases o1 (x,k) (af0 hk) with (z | z) | z
   ·rcases hcf with rfl | rfl <;> simp at z
   ·refine .inr (P7 ?_)
    rw [hks];simpa using z
   ·exact .inl (aO0 z)
  rcases h with h | h
  ·exact key _ h (.inl rfl)
  ·exact key _ h (.inr rfl)
 ·rcases o4 x hx with z | z
  ·exact absurd hl z
  ·exact z
 ·have hm:(some j,x)∈caps.zip Nc:=by
   have:(caps.zip Nc)[i]? = some (some j,x):=by
    rw [List.getElem?_zip_eq_some];exact ⟨h1,h2⟩
   exact List.mem_of_getElem? this
  have z:=o6 _ hm
  simp only [Bool.and_eq_true,beq_iff_eq,Bool.not_eq_true'] at z
  obtain ⟨⟨⟨⟨z1,z2⟩,z3⟩,z4⟩,z5⟩:=z
  have c2:=ao6 z2
  have c3:=ao6 z3
  refine ⟨by rw [hN];exact z1,?_,?_,?_,P7 (by rw [hks];simpa using z4),fun n c e=>?_⟩
  ·rw [hosc]
   rcases c2 with c | c
   ·exact .inr (.inl c)
   ·exact .inr (.inr c)
  ·rw [kof]
   rcases c2 with c | c <;> rw [c] <;> decide
  ·rw [er];exact c3
  ·rw [Z2 _ _ _ fun hm=>?_]
   ·exact e
   ·have:aR2 scope x=true:=List.any_eq_true.mpr ⟨_,hm,by simp⟩
    rw [z5] at this;cases this
section
variable {X:Cx}
theorem aX7 {elt tg iter:Expr} {scope:Scope} {pos:Pos} {cl:List (Str × Addr)} {Nc:List Str} {caps:List (Option Nat)} {wi:TI} {g:TG} {te:TE} (hc:X.calm=true) (cp:aP7 X scope cl Nc caps) (hi:PI X tg iter wi)
  (hg:∀ C s₂ H₂ fp pins,PG (X.blockC scope cl C Nc s₂ H₂ fp pins) tg g) (he:∀ C s₂ H₂ fp pins,PE (X.blockC scope cl C Nc s₂ H₂ fp pins) elt te) (hs:∀ x,foldedSetIterable iter X.env x=pure x:=by intro _;rfl) :
  PE X (.ListComp elt [⟨tg,iter,[],0⟩] scope pos) (aM9 wi caps g te):=by
 intro pins s σ H Q I h
 rw [eval_ListComp]
 refine wpAny_comprehension_free (use:=none) rfl hs cp.clos cp.kind cp.names ?_
 refine thn (hi pins s σ H _ I h) fun v s1 h1=>thn h1 fun itv s2 h2=>?_
 obtain ⟨it,fp,tn,J,H2,e,I2,T,st2,f2,hW⟩:=h2
 subst e
 refine wpAny_newObj_type ?_ (by show 0≤sizeLine;exact Nat.zero_le _)
 refine V4 ?_
 dsimp only
 generalize hH3:s2.heap.push { cls:=.type "list",dict:=none,data:=.seq ([]:List Value).toArray }=H3
 have hCe:H3.objs.size=s2.heap.objs.size+1:=by rw [←hH3,Heap.size_push]
 have R0:∀ b o,s2.heap.get? b=some o→b≠H3.objs.size:=fun b o e=>by rw [hCe];exact Nat.ne_of_lt (Nat.lt_succ_of_lt (Heap.lt_size e))
 have hns0:=(Heap.Ns.new H3 (.type "dict")).keeps (pushCells_keeps scope.names _)
 have old0:∀ b o,s2.heap.get? b=some o→(pushCells (H3.push { cls:=.type "dict",data:=.dict #[] }) scope.names).get? b=some o:=fun b o e=>pushCells_keeps _ _ b o (Heap.get?_push_of_some _ (hH3 ▸ Heap.get?_push_of_some _ e))
 have hD0:(pushCells (H3.push { cls:=.type "dict",data:=.dict #[] }) scope.names).get? s2.heap.objs.size=some { cls:=.type "list",dict:=none,data:=.seq ([]:List Value).toArray }:=
  pushCells_keeps _ _ _ _ (Heap.get?_push_of_some _ (hH3 ▸ Heap.get?_push_size _ rfl))
 have own:=ak0 scope.names (H3.push { cls:=.type "dict",data:=.dict #[] }) cl (fun x c e=>by
   obtain ⟨v,o,ho,hd⟩:=I2.cell x c (cp.sub x c e)
   exact ⟨v,o,Heap.get?_push_of_some _ (hH3 ▸ Heap.get?_push_of_some _ ho),hd⟩) (fun x y c h1 h2=>I2.ok.inj x y c (cp.sub x c h1) (cp.sub y c h2))
 rw [Heap.size_push] at own
 generalize hh4:pushCells (H3.push { cls:=.type "dict",data:=.dict #[] }) scope.names=h4 at own hns0 old0 hD0 ⊢
 have hns:=hns0
 have old:=old0
 have hD:=hD0
 have isOld:∀ x c,(cellsFrom (H3.objs.size+1) scope.names cl).lookup x=some c→X.env.cells.lookup x=some c∨H3.objs.size+1≤c:=fun x c e=>(own.old x c e).imp (cp.sub x c) fun z=>by rw [Heap.size_push] at z;exact z
 have hDn:H2 s2.heap.objs.size=none:=I2.fresh
 have hCn:H2 H3.objs.size=none:=I2.hok.fresh (by rw [hCe];exact Nat.le_succ _)
 have hCs:s2.heap.objs.size≤H3.objs.size:=by rw [hCe];exact Nat.le_succ _
 have hDC:s2.heap.objs.size≠H3.objs.size:=by rw [hCe];exact Nat.ne_of_lt (Nat.lt_succ_self _)
 have fpl:∀ b∈fp,∃ o,s2.heap.get? b=some o:=fun b hb=>let ⟨o,e,_⟩:=T.obj _ _ st2 b hb;⟨o,e⟩
 have fpC:∀ b∈fp,b≠H3.objs.size:=fun b hb=>let ⟨o,e⟩:=fpl b hb;R0 b o e
 have fpD:∀ b∈fp,b≠s2.heap.objs.size:=fun b hb=>let ⟨o,e⟩:=fpl b hb;Nat.ne_of_lt (Heap.lt_size e)
 have stkN:∀ b,b≠X.env.locals→b ∉ X.fs→b ∉ frs X.stack:=fun b h1 h2 z=>(List.mem_cons.mp (I2.stkSub b z)).elim h1 h2
 have fpX:∀ b∈fp,∀ x c,(cellsFrom (H3.objs.size+1) scope.names cl).lookup x=some c→c≠b:=fun b hb x c h=>by
  rcases isOld x c h with z | z
  ·exact (f2 b hb).2.2.2.2.1 x c z
  ·obtain ⟨o,e⟩:=fpl b hb
   exact Nat.ne_of_gt (Nat.lt_of_lt_of_le (Heap.lt_size e) (Nat.le_trans (Nat.le_trans hCs (Nat.le_succ _)) z))
 obtain ⟨W,⟨m0,w0⟩,turn⟩:=hW s2.heap.objs.size hDn
 have okB:(X.blockC scope cl H3.objs.size Nc s2 H2 fp pins).Ok:=by
  refine ⟨I2.ok.mod,?_,I2.ok.glob,I2.ok.blt,hCs,fun x y c h1 h2=>own.inj x y c h1 h2,fun x hx=>cp.has _ x hx,fun x c h e=>Nat.le_trans (Nat.le_trans hCs (Nat.le_succ _)) (by have z:=own.fresh x (aO0 h) c e;rw [Heap.size_push] at z;exact z),I2.ok.hd,I2.ok.frames,.inl rfl,fun b hb=>⟨fpC b hb,fun x c h=>fpX b hb x c h⟩,I2.bs,Nat.le_trans I2.ok.bsz I2.sz,fun b o e hb=>?_,fun b hb=>stkN b (f2 b hb).2.1 (f2 b hb).2.2.1,I2.stack,I2.stkFree⟩
  ·exact cp.kind
  ·rcases (f2 b hb).2.2.2.1 with z | z
   ·exact I2.ok.noex b o e z
   ·exact absurd (Nat.lt_of_lt_of_le (Heap.lt_size e) (Nat.le_trans I2.ok.bsz z)) (Nat.lt_irrefl _)
 have hokB:HOk X.prog X.w (upd H2 s2.heap.objs.size (.lst [])) h4:=I2.hok.laid old (Nat.le_refl _) ⟨Nat.zero_le _,[],_,.nil,hD⟩
 have IB:Inv (X.blockC scope cl H3.objs.size Nc s2 H2 fp pins) [] (O1 caps σ) (upd H2 s2.heap.objs.size (.lst [])) { s2 with heap:=h4 }:=by
  refine ⟨okB,rfl,I2.bare,Un.laid old (Nat.le_refl _) hDn,⟨_,hns,fun i x v e1 e2 e3=>?_⟩,fun x c e=>?_,(show upd H2 s2.heap.objs.size (.lst []) H3.objs.size=none by rw [j3 (Ne.symm hDC)];exact hCn),fun x c e=>?_,fun p hp=>?_,hokB,?_⟩
  ·unfold O1 at e2
   rw [List.getElem?_map] at e2
   cases hcap:caps[i]? with
   | none=>rw [hcap] at e2;cases e2
   | some o=>
    rw [hcap] at e2
    cases o with
    | none=>cases e2
    | some j=>
     have hj:σ[j]? = some (some v):=by
      have e2':(σ[j]?).join=some v:=Option.some.inj e2
      cases q:σ[j]? with
      | none=>rw [q] at e2';cases e2'
      | some z=>rw [q] at e2';exact congrArg some e2'
     obtain ⟨n1,n2,n3,n4,n5,n6⟩:=cp.cap i j x hcap e1
     obtain ⟨m,hm,hl⟩:=I2.loc
     obtain ⟨u,r,q⟩:=hl j x v n1 hj n2
     rcases q with ⟨k,_⟩ | ⟨k,c,ec,z⟩
     ·exact absurd k n3
     ·obtain ⟨c',ec'⟩:=n5
      have:=cp.sub x c' ec'
      rw [ec] at this;cases this
      obtain ⟨oc,ho,hd⟩:=z
      exact ⟨u,r,.inr ⟨n4,c,n6 _ _ ec',oc,old _ _ ho,hd⟩⟩
  ·exact own.cell x c e
  ·show upd H2 s2.heap.objs.size (.lst []) c=none
   rcases isOld x c e with z | z
   ·obtain ⟨v,oc,ho,hd⟩:=I2.cell x c z
    rw [j3 (Nat.ne_of_lt (Heap.lt_size ho))]
    exact I2.freeC x c z
   ·have hz:s2.heap.objs.size<c:=Nat.lt_of_lt_of_le (Nat.lt_of_le_of_lt hCs (Nat.lt_succ_self _)) z
    rw [j3 (Nat.ne_of_gt hz)]
    exact I2.hok.fresh (Nat.le_of_lt hz)
  ·have hp':p∈X.pn++pins:=by simpa using hp
   obtain ⟨e1,e2,e3,e4,e5⟩:=I2.pin p hp'
   exact ⟨old _ _ e1,by rw [j3 (Nat.ne_of_lt (Heap.lt_size e1))];exact e2,R0 _ _ e1,stkN _ e3 e4,e5⟩
  ·show (O1 caps σ).length=Nc.length
   unfold O1
   rw [List.length_map];exact cp.len
 have stat:∀ {H':Hp},(∀ b∈fp,H' b=none)→∀ b∈fp,ak4 (X.blockC scope cl H3.objs.size Nc s2 H2 fp pins) [] H' b:=fun hn b hb=>
  ⟨hn b hb,fpC b hb,stkN b (f2 b hb).2.1 (f2 b hb).2.2.1,.inl hb,fun x c h=>fpX b hb x c h,fun p hp=>(f2 b hb).2.2.2.2.2 p (by simpa using hp)⟩
 have loop:∀ s5:Shared,s5={ s2 with heap:=h4 } →
   codeAny (model X.prog X.w) X.A (.compLoop (.ListComp elt [⟨tg,iter,[],0⟩] scope pos) 0 (.ref it) (.ref s2.heap.objs.size) (compEnvC scope (cellsFrom (H3.objs.size+1) scope.names cl) H3.objs.size X.env))
    (compPost (model X.prog X.w) X.A X.xe none (EP X pins σ Q) (.ref s2.heap.objs.size) H3.objs.size) s5:=by
  rintro s5 rfl
  refine aj9 (fun n s'=>∃ i σ' H',Inv (X.blockC scope cl H3.objs.size Nc s2 H2 fp pins) [] σ' H' s'∧tn i s'.heap∧(∀ b∈fp,H' b=none)∧W i n σ' H') ?_ m0 ⟨0,_,_,IB,T.keep _ _ _ st2 fun b hb o e=>old b o e,fun b hb=>by rw [j3 (fpD b hb)];exact (f2 b hb).1,w0⟩
  rintro n s6 ⟨i,σ6,H6,I6,st6,fr6,w6⟩
  rcases turn i n σ6 H6 w6 with ⟨stop,qn⟩ | ⟨go,step⟩
  ·refine thn (T.done (X.blockC scope cl H3.objs.size Nc s2 H2 fp pins) rfl rfl rfl hc i [] s6 σ6 H6 _ I6 (stat fr6) st6 stop) fun r s7 ⟨hr,I7⟩=>?_
   subst hr
   obtain ⟨m7,hn7,_⟩:=id I7.loc
   exact ⟨m7,hn7,fun h' sb=>⟨.ref s2.heap.objs.size,H6,I2.sameC f2 I7.os I7.bare I7.base I7.hok hCs I7.free sb,rfl,qn⟩⟩
  ·refine thn (T.item (X.blockC scope cl H3.objs.size Nc s2 H2 fp pins) rfl rfl rfl hc i [] s6 σ6 H6 _ I6 (stat fr6) st6 go) fun r s7 ⟨u,hr,h7⟩=>?_
   subst hr
   refine thn h7 fun _ s8 ⟨x,H8,I8,r8,y8,st8,fr8⟩=>?_
   have I8':=I8.pinned (stat fr8) (T.obj _ _ st8)
   refine thn (hg _ _ _ _ _ _ s8 σ6 H8 x u _ I8' r8 (step x H8 y8)) fun _ s9 ⟨σ9,H9,I9,q9⟩=>?_
   refine thn (he _ _ _ _ _ _ s9 σ9 H9 _ I9 q9) fun u10 s10 ⟨v10,H10,I10,r10,ys,hys,hlen,m',hm',w'⟩=>?_
   refine thn (W4 _ s10 σ9 H10 (.ref s2.heap.objs.size) [v10] (.ref s2.heap.objs.size) [u10] (fun _ H11=>H11=upd H10 s2.heap.objs.size (.lst (ys++[v10]))) I10 rfl (.cons r10 .nil) ⟨_,ys,v10,rfl,rfl,hys,hlen,rfl⟩) fun _ s11 ⟨_,H11,I11,_,hH11⟩=>?_
   subst hH11
   refine ⟨m',hm',i+1,σ9,_,I11.unpinned,T.keep _ _ _ st8 fun b hb o e=>(I11.pin (b,o) (List.mem_append_right _ (List.mem_append_right _ (D3 hb e)))).1,fun b hb=>?_,w'⟩
   obtain ⟨o,e,d⟩:=T.obj _ _ st8 b hb
   exact (I11.pin (b,o) (List.mem_append_right _ (List.mem_append_right _ (D3 hb e)))).2.1
 exact codeAny_compStart_list (loop _ rfl) (T.self _ 0 _ _ _ (T.keep _ _ _ st2 fun b hb o e=>old b o e) (loop _ rfl))
end
structure Stp (prog:Program) (w:World) (it src:Addr) (ar:Array Value) (st:Nat→Heap→Prop):Prop where
 stay:∀ {k:Nat} {h h':Heap},st k h→(∀ o,h.get? it=some o→h'.get? it=some o)→(∀ o,h.get? src=some o→h'.get? src=some o)→st k h'
 item:∀ {A:Around} {E:Value→Shared→Prop} {s:Shared} {k:Nat} {v:Value} {Q:Value→Shared→Prop},st k s.heap→ar[k]? = some v→(∀ h',st (k+1) h'→Heap.SameBut it s.heap h'→Q v { s with heap:=h' })→wpAny (model prog w) A (Builtin.SmallTypes.nextOf (.ref it)) Q E s
 fin:∀ {A:Around} {E:Value→Shared→Prop} {s:Shared} {k:Nat} {Q:Value→Shared→Prop},A.handled=none→st k s.heap→ar[k]? = none→(∀ h' e,Heap.ExtBut it s.heap h'→(∃ o,h'.get? e=some o∧o.cls = .type "StopIteration")→E (.ref e) { s with heap:=h' })→wpAny (model prog w) A (Builtin.SmallTypes.nextOf (.ref it)) Q E s
open PySem PyProof.Rows
section
variable {X:Cx} {pos:Pos}
def bh0 (te:TE) (g g':TG):TS:=fun D σ H=>te σ H fun x H1=>g x σ H1 fun σ2 H2=>g' x σ2 H2 D.nx
theorem bd8 {tg tg' e:Expr} {te:TE} {g g':TG} (he:PE X e te) (hg:PG X tg g) (hg':PG X tg' g') (hs:swapsWithSole [tg,tg'] e pos.line X.env=pure false:=by rfl) (hw:swappedStores [tg,tg'] e X.env=pure none:=by rfl)
  (h1:(assignEach [tg,tg'] X.env).map (·.2)=[assign tg X.env,assign tg' X.env]:=by rfl):PS X (.Assign [tg,tg'] e pos) (bh0 te g g'):=by
 intro pins s σ H D I h
 refine wpAny_Assign_stores (thn (he pins s σ H _ I h) fun v s1 ⟨x,H1,I1,r1,q1⟩=>?_) hs hw
 rw [h1]
 show wpAny (model X.prog X.w) X.A (do holding [v] (assign tg X.env v);assign tg' X.env v) _ _ _
 refine wpAny_bind (wpAny_holding (thn (hg pins s1 σ H1 x v _ I1 r1 q1) fun _ s2 ⟨σ2,H2,I2,q2⟩=>?_))
 exact thn (hg' pins s2 σ2 H2 x v _ I2 r1 q2) fun _ s3 q=>q
end
section
variable {prog:Program} {w:World} {A:Around} {E:Value→Shared→Prop} {s:Shared}
theorem aZ0 {a b:Int} {t u:Tok} {Q:Value→Shared→Prop} (h:Q (.bool (decide (a<b))) s):wpAny (model prog w) A (richCompare .Lt (.int a t) (.int b u)) Q E s:=
 richCompare_gives (op:=.Lt) (typeIs_int s _ t) (typeIs_int s _ u) F.slot_int_lt F.entry_int_lt (F.args_int_lt_2 _ _) (gives_int_lt _ _ t u) (fun x=>nomatch x) h
theorem aT8 (a:Value):argsOk "min" ⟨[a],[]⟩:=by unfold argsOk;kernel_rfl
variable {R:Result→Shared→Prop} {I:Addr} {fp wr:List Addr} {n:Nat} {P:Nat→Value→Prop} {St:Nat→Heap→Prop}
theorem aR8 (W:Walks prog w A.in1 I fp wr n P St) (Pr:Int→Prop) (hint:∀ i v,P i v→∃ x t,v = .int x t∧Pr x) (S:Addr) (hSf:S ∉ fp) :
  ∀ (k j:Nat) (s:Shared) (x0:Int) (t0:Tok) (c:Nat),Pr x0→n - (j+1)=k→j+1≤n→St (j+1) s.heap →
  s.heap.get? S=some { cls:=.type "list",dict:=none,data:=.seq #[.int x0 t0,.int x0 t0] c,slots:=#[] } →
  (∀ x t h' tk,Pr x→(∀ b o,b ∉ wr→b≠S→s.heap.get? b=some o→h'.get? b=some o)→R (.ok (.ret (.int x t))) { s with heap:=h',toks:=tk }) →
  codeAny (model prog w) A (.builtin "min.loop" ⟨[.ref I,.none,.ref S],[]⟩) R s:=by
 have hSw:S ∉ wr:=fun h=>hSf (W.sub _ h)
 have hname:(toString "min" ++ toString ".loop" : String) = "min.loop":=by decide
 intro k
 induction k with
 | zero=>
  intro j s x0 t0 c px hk hj hst hS hR
  have hin:j+1=n:=by omega
  refine codeAny_builtin F.entry_min_loop ?_
  rw [Around.under_plainId F.plain_min_loop _]
  show wpAny _ A.in1 (seqItems? (.ref S) >>= _) _ _ s
  refine wpAny_bind (wpAny_seqItems hS rfl ?_)
  show wpAny _ A.in1 (tryCatch (pyNext (.ref I)) _ >>= _) _ _ s
  refine wpAny_bind (wpAny_tryCatch (W.done s _ _ (hin ▸ hst) fun h' tk hk'=>?_))
  have hS':=hk' S _ hSw hS
  show wpAny _ A.in1 (updateSeq S (fun _=>#[]) >>= _) _ _ _
  refine wpAny_bind ?_
  refine wpAny_updateSeq hS' rfl (wpAny_bind (wpAny_letGo (wpAny_pure ?_)))
  exact hR x0 t0 _ tk px fun b o hbw hbS e=>(Heap.get?_update_other _ _ (Ne.symm hbS)).trans (hk' b o hbw e)
 | succ k ih=>
  intro j s x0 t0 c px hk hj hst hS hR
  have hlt:j+1<n:=by omega
  refine codeAny_builtin F.entry_min_loop ?_
  rw [Around.under_plainId F.plain_min_loop _]
  show wpAny _ A.in1 (seqItems? (.ref S) >>= _) _ _ s
  refine wpAny_bind (wpAny_seqItems hS rfl ?_)
  show wpAny _ A.in1 (tryCatch (pyNext (.ref I)) _ >>= _) _ _ s
  refine wpAny_bind (wpAny_tryCatch (W.item (j+1) s _ _ hlt hst fun v h' tk hP hst' hk'=>?_))
  obtain ⟨x1,t1,rfl,p1⟩:=hint _ _ hP
  have hS':=hk' S _ hSw hS
  show wpAny _ A.in1 (tryCatch (holding [.int x1 t1,.int x1 t1] (richCompare .Lt (.int x1 t1) (.int x0 t0) >>= _)) _ >>= _) _ _ _
  refine wpAny_bind (wpAny_tryCatch (wpAny_holding (wpAny_bind (aZ0 ?_))))
  refine wpAny_bind (wpAny_holding (wpAny_truthy_bool ?_))
  refine wpAny_bind (wpAny_letGo (wpAny_pure ?_))
  cases hb:decide (x1<x0) with
  | true=>
   simp only [if_true]
   refine wpAny_bind ?_
   refine wpAny_updateSeq hS' rfl (wpAny_bind (wpAny_letGo ?_))
   rw [hname]
   refine wpAny_pure ⟨plainId_quiet F.plain_min_loop _,ih (j+1) _ x1 t1 _ p1 (by omega) hlt (W.frame _ _ _ hst' fun b hbf o e=>?_) (Heap.get?_update_self _ hS' rfl)
    fun x t h'' tk'' pp hk''=>?_⟩
   ·exact (Heap.get?_update_other _ _ (fun h:S=b=>hSf (by rw [h];exact hbf))).trans e
   ·exact hR x t h'' tk'' pp fun b o hbw hbS e=>hk'' b o hbw hbS ((Heap.get?_update_other _ _ (Ne.symm hbS)).trans (hk' b o hbw e))
  | false=>
   simp only [Bool.false_eq_true,if_false]
   refine wpAny_bind (wpAny_letGo ?_)
   rw [hname]
   refine wpAny_pure ⟨plainId_quiet F.plain_min_loop _,ih (j+1) _ x0 t0 c px (by omega) hlt hst' hS' fun x t h'' tk'' pp hk''=>?_⟩
   exact hR x t h'' tk'' pp fun b o hbw hbS e=>hk'' b o hbw hbS (hk' b o hbw e)
theorem aL2 (W:Walks prog w A.in1 I fp wr n P St) (Pr:Int→Prop) (hn:0<n) (hint:∀ i v,P i v→∃ x t,v = .int x t∧Pr x) (S:Addr) (hSf:S ∉ fp) {c:Nat} (hst:St 0 s.heap)
  (hS:s.heap.get? S=some { cls:=.type "list",dict:=none,data:=.seq #[] c,slots:=#[] })
  (hR:∀ x t h' tk,Pr x→(∀ b o,b ∉ wr→b≠S→s.heap.get? b=some o→h'.get? b=some o)→R (.ok (.ret (.int x t))) { s with heap:=h',toks:=tk }) :
  codeAny (model prog w) A (.builtin "min.loop" ⟨[.ref I,.none,.ref S],[]⟩) R s:=by
 have hSw:S ∉ wr:=fun h=>hSf (W.sub _ h)
 have hname:(toString "min" ++ toString ".loop" : String) = "min.loop":=by decide
 refine codeAny_builtin F.entry_min_loop ?_
 rw [Around.under_plainId F.plain_min_loop _]
 show wpAny _ A.in1 (seqItems? (.ref S) >>= _) _ _ s
 refine wpAny_bind (wpAny_seqItems hS rfl ?_)
 show wpAny _ A.in1 (tryCatch (pyNext (.ref I)) _ >>= _) _ _ s
 refine wpAny_bind (wpAny_tryCatch (W.item 0 s _ _ hn hst fun v h' tk hP hst' hk'=>?_))
 obtain ⟨x1,t1,rfl,p1⟩:=hint _ _ hP
 have hS':=hk' S _ hSw hS
 show wpAny _ A.in1 (updateSeq S (fun _=>#[.int x1 t1,.int x1 t1]) >>= _) _ _ _
 refine wpAny_bind ?_
 refine wpAny_updateSeq hS' rfl ?_
 rw [hname]
 refine wpAny_pure ⟨plainId_quiet F.plain_min_loop _,aR8 W Pr hint S hSf _ 0 _ x1 t1 _ p1 rfl hn (W.frame _ _ _ hst' fun b hbf o e=>?_) (Heap.get?_update_self _ hS' rfl) fun x t h'' tk'' pp hk''=>?_⟩
 ·exact (Heap.get?_update_other _ _ (fun h:S=b=>hSf (by rw [h];exact hbf))).trans e
 ·exact hR x t h'' tk'' pp fun b o hbw hbS e=>hk'' b o hbw hbS ((Heap.get?_update_other _ _ (Ne.symm hbS)).trans (hk' b o hbw e))
end
section
variable {X:Cx}
def bh4 (K:PySem.W.Frag):List V→Hp→VK→Prop:=fun vs H Q=>∃ (a:Addr) (ns:List Int),vs=[.ref a]∧SqL K H a (ns.map V.int)∧ns≠[]∧∀ i∈ns,Q (.int i) H
theorem aT4 (hc:X.calm=true):X6 X (.builtin "min") (bh4 X.K):=by
 intro pins s σ H us vs Q I r h
 obtain ⟨a,ns,rfl,hq,hne,q⟩:=h
 obtain ⟨u,rfl,rx⟩:=ac5 r
 cases rx
 have hname:(toString "min" ++ toString ".loop" : String) = "min.loop":=by decide
 obtain ⟨its,r',pl,hz⟩:=I.list hq
 have hp:a≠s.heap.objs.size:=by
  obtain ⟨o,ho,_⟩:=pl.isList
  exact Nat.ne_of_lt (Heap.lt_size ho)
 refine aE2 F.kind_min F.plain_min F.entry_min (aT8 _) ?_
 show wpAny _ X.A.in1 (Builtin.Builtins.bindParams "min" ["key","default"] 0 ⟨[],[]⟩ >>= _) _ _ s
 refine wpAny_bind (wpAny_of_eq (show Builtin.Builtins.bindParams "min" ["key","default"] 0 ⟨[],[]⟩=pure [none,none] from by with_unfolding_all rfl) ?_)
 refine wpAny_bind (wpAny_pure ?_)
 refine wpAny_bind (wpAny_pyIter_list pl.isList ?_)
 refine wpAny_bind (wpAny_newObj_type ?_)
 have a1:a<s.heap.objs.size:=by obtain ⟨o,ho,_⟩:=pl.isList;exact Heap.lt_size ho
 rw [hname]
 refine wpAny_pure ⟨plainId_quiet F.plain_min_loop _,?_⟩
 refine aL2 (Walks.list (A:=X.A.in1) (I.ok.hd hc) s.heap.objs.size a hp its.toArray) (· ∈ ns) ?_ ?_ _ ?_ ⟨⟨_,Heap.get?_push_of_some _ (Heap.get?_push_size _ rfl),rfl,rfl⟩,pl.isList.at fun o e=>Heap.get?_push_of_some _ (Heap.get?_push_of_some _ e)⟩ (Heap.get?_push_size _ rfl) ?_
 ·rw [List.size_toArray,←r'.length,List.length_map];exact List.length_pos_iff.mpr hne
 ·intro i v hv
  have hv':its[i]? = some v:=by simpa using hv
  have hi:i<ns.length:=by
   have:=(List.getElem?_eq_some_iff.mp hv').1
   rw [←r'.length,List.length_map] at this;exact this
  obtain ⟨u,hu,ru⟩:=r'.get (i:=i) (x:=.int ns[i]) (by rw [List.getElem?_map,List.getElem?_eq_getElem hi];rfl)
  rw [hv'] at hu
  cases hu
  obtain ⟨t,rfl⟩:=ru
  exact ⟨_,_,rfl,List.getElem_mem hi⟩
 ·rw [Heap.size_push]
  intro z
  rcases (by simpa using z:s.heap.objs.size+1=s.heap.objs.size∨s.heap.objs.size+1=a) with e | e
  ·exact absurd e (Nat.succ_ne_self _)
  ·exact absurd a1 (by rw [←e];exact Nat.not_lt.mpr (Nat.le_succ _))
 ·intro x t h' tk px kk
  refine ⟨.int x,H,I.kept (t':=tk) fun b o e=>kk b o ?_ ?_ (Heap.get?_push_of_some _ (Heap.get?_push_of_some _ e)),⟨t,rfl⟩,q x px⟩
  ·intro z
   have:b=s.heap.objs.size:=by simpa using z
   exact absurd (Heap.lt_size e) (by rw [this];exact Nat.lt_irrefl _)
  ·rw [Heap.size_push]
   intro z
   exact absurd (Heap.lt_size e) (by rw [z];exact Nat.not_lt.mpr (Nat.le_succ _))
end
theorem am5 (l:Addr) (items:Array Value) (hfit:(items.size:Int)<2 ^ 63) :
  Meets (Builtin.«bool.__new__» ⟨[.type "bool",.ref l],[]⟩) (fun _ R s=>s.heap.IsList l items∧R (.ok (.ret (.bool (!items.isEmpty)))) { s with toks:=s.toks+1+1 }):=
 Meets.of_wp fun prog w A R s hs=>by
  obtain ⟨hp,g,d,tk,os⟩:=s
  have f1:=F.conv_sub_bool
  repeat (any_goals (first | assumption | (with_reducible refine wpAny_truthy_list hs.1 hfit ?_) | wp_step))
  all_goals first | exact ⟨_,rfl,hs.2⟩ | exact hs.2 | skip
section
variable {X:Cx}
def aW9 (K:PySem.W.Frag):List V→Hp→VK→Prop:=fun xs H Q=>∃ a ys,xs=[.ref a]∧SqL K H a ys∧Q (.bl (!ys.isEmpty)) H
theorem aM3:X6 X (.type "bool") (aW9 X.K):=by
 intro pins s σ H xs us Q I r h
 obtain ⟨a,ys,rfl,hq,q⟩:=h
 obtain ⟨u,rfl,r1⟩:=ac5 r
 cases r1
 obtain ⟨its,rr,pl,hz⟩:=I.list hq
 have hl:=af1
 have hlen:=rr.length
 refine call_bool_1 (am5 a its.toArray (by simp only [List.size_toArray];omega)) ?_
 exact ⟨pl.isList,rfl,.bl (!ys.isEmpty),H,I.tok _,by rw [af4 rr];rfl,q⟩
end
end L2
set_option maxRecDepth 100000
namespace HT
open PySem PyProof.Rows
end HT
namespace L2
open PySem PySem.Spec PyProof.Rows
end L2
set_option maxRecDepth 100000
namespace PySem
open Sem (wp)
open AutoSeq1 (wpAny_loadPart')
end PySem
namespace L2
open PySem PySem.Spec PyProof.Rows
end L2
set_option maxRecDepth 100000
namespace R
theorem au7 (p:List Rat) (c:Rat) {n i k:Nat} (hk:k<n) (h:i<k):(F5 0 (List.replicate n (0:Rat)) p [c,1] i)[k]? = some 0:=by
 rw [ab9 _ _ _ (by rw [List.getElem?_replicate,if_pos hk])]
 congr 1
 refine X9 i fun i' hi'=>?_
 unfold al7
 rw [if_pos (by omega)]
 have:k - i'=(k - i' - 2)+2:=by omega
 rw [this]
 simp only [List.getElem?_cons_succ,List.getElem?_nil,Option.getD_none]
 grind
theorem aB7 (p:List Rat) (c:Rat) {n i:Nat} (hi:i<n):(F5 0 (List.replicate n (0:Rat)) p [c,1] i)[i]? = some (if i=0 then 0 else (p[i - 1]?).getD 0):=by
 rw [ab9 _ _ _ (by rw [List.getElem?_replicate,if_pos hi])]
 congr 1
 cases i with
 | zero=>rw [t8,if_pos rfl]
 | succ i=>
  rw [t8,X9 i fun i' hi'=>?_,if_neg (by omega)]
  ·unfold al7
   rw [if_pos (by omega),show i+1 - i=1 by omega]
   simp only [List.getElem?_cons_succ,List.getElem?_cons_zero,Option.getD_some,Nat.add_sub_cancel]
   grind
  ·unfold al7
   rw [if_pos (by omega)]
   have:i+1 - i'=(i+1 - i' - 2)+2:=by omega
   rw [this]
   simp only [List.getElem?_cons_succ,List.getElem?_nil,Option.getD_none]
   grind
open PySem L2 PyProof.Rows
structure ClN (W:Nat) (qs:List Rat):Prop where
 l:q8 qs<2 ^ W
 w:∀ v∈m8 (q8 qs) qs,Int.natAbs v<2 ^ W
theorem ClN.den {W:Nat} {qs:List Rat} (h:ClN W qs) {q:Rat} (hq:q∈qs):q.den<2 ^ W:=Nat.lt_of_le_of_lt (Nat.le_of_dvd (U7 qs) (T7 hq)) h.l
theorem ClN.num {W:Nat} {qs:List Rat} (h:ClN W qs) {q:Rat} (hq:q∈qs):q.num.natAbs<2 ^ W:=by
 have h1:=h.w _ (List.mem_map.mpr ⟨q,hq,rfl⟩)
 obtain ⟨e,he⟩:=T7 hq
 have hp:=U7 qs
 have h0:(q.den:Int)≠0:=by have:=q.den_nz;omega
 have e1:(q8 qs:Int).fdiv (q.den:Int)=(e:Int):=by
  rw [he,Int.natCast_mul];exact j7 h0
 rw [e1,Int.natAbs_mul,Int.natAbs_natCast] at h1
 refine Nat.lt_of_le_of_lt (Nat.le_mul_of_pos_right _ ?_) h1
 rcases Nat.eq_zero_or_pos e with z | z
 ·rw [z] at he;omega
 ·exact z
theorem ClN.take {W:Nat} {qs:List Rat} (h:ClN W qs) (i:Nat):q8 (qs.take i)<2 ^ W:=
 Nat.lt_of_le_of_lt (Nat.le_of_dvd (U7 qs) (ar6 fun q hq=>T7 (List.mem_of_mem_take hq))) h.l
theorem aq9 (v:Int) (L:Nat):Rat.divInt 1 L * (v:Rat)=Rat.divInt v L:=by
 have h1:=Rat.num_divInt_den (v:Rat)
 rw [Rat.num_intCast,Rat.den_intCast] at h1
 conv=>lhs;rw [←h1]
 rw [Rat.divInt_mul_divInt]
 simp
theorem as7 (v:Int) {L:Nat} (h:0<L):(Rat.divInt v L).den ∣ L:=by
 have hL:(L:Int)≠0:=by omega
 obtain ⟨_,e2⟩:=aD3 (t:=v) (b:=(L:Int)) (g:=(Int.gcd v L:Int)) hL (by rw [if_neg (by omega)])
 obtain ⟨k,hk⟩:=Int.gcd_dvd_right v (L:Int)
 have hg:=G3 (t:=v) hL
 have e3:(L:Int).fdiv (Int.gcd v L:Int)=k:=by
  conv=>lhs;arg 1;rw [hk]
  exact j7 (by omega)
 rw [e3] at e2
 have:((Rat.divInt v L).den:Int) ∣ (L:Int):=⟨_,by rw [Int.mul_comm,←e2];exact hk⟩
 exact Int.natCast_dvd_natCast.mp this
theorem aD8 (v:Int) {L:Nat} (h:0<L):(Rat.divInt v L).num * L=v * ((Rat.divInt v L).den:Int):=by
 have hL:(L:Int)≠0:=by omega
 have hd:((Rat.divInt v L).den:Int)≠0:=by have:=(Rat.divInt v L).den_nz;omega
 exact (Rat.divInt_eq_divInt_iff hd hL).mp (Rat.num_divInt_den _)
theorem aT2 {L W:Nat} {vs:List Int} (hL0:0<L) (hL:L<2 ^ W) (hv:∀ v∈vs,Int.natAbs v<2 ^ W):ClN W (scl (Rat.divInt 1 L) vs):=by
 have hd:q8 (scl (Rat.divInt 1 L) vs) ∣ L:=ar6 fun q hq=>by
  obtain ⟨v,_,rfl⟩:=List.mem_map.mp hq
  rw [aq9]
  exact as7 v hL0
 have hle:=Nat.le_of_dvd hL0 hd
 refine ⟨Nat.lt_of_le_of_lt hle hL,fun u hu=>?_⟩
 obtain ⟨q,hq,rfl⟩:=List.mem_map.mp hu
 obtain ⟨e,he⟩:=T7 hq
 have h0:(q.den:Int)≠0:=by have:=q.den_nz;omega
 have e1:(q8 (scl (Rat.divInt 1 L) vs):Int).fdiv (q.den:Int)=(e:Int):=by
  rw [he,Int.natCast_mul];exact j7 h0
 obtain ⟨v,hvm,hvq⟩:=List.mem_map.mp hq
 rw [aq9] at hvq
 have hc:=aD8 v hL0
 rw [hvq] at hc
 have hc':q.num.natAbs * L=v.natAbs * q.den:=by
  have:=congrArg Int.natAbs hc
  rwa [Int.natAbs_mul,Int.natAbs_mul,Int.natAbs_natCast,Int.natAbs_natCast] at this
 rw [e1,Int.natAbs_mul,Int.natAbs_natCast]
 refine Nat.lt_of_le_of_lt ?_ (hv v hvm)
 have h2:(q.num.natAbs * e) * L≤v.natAbs * L:=by
  calc (q.num.natAbs * e) * L=(q.num.natAbs * L) * e:=by rw [Nat.mul_right_comm]
   _=v.natAbs * (q.den * e):=by rw [hc',Nat.mul_assoc]
   _≤v.natAbs * L:=Nat.mul_le_mul_left _ (by rw [←he];exact hle)
 exact Nat.le_of_mul_le_mul_right h2 hL0
open PySem L2 PyProof.Rows
structure bo1 (H:Hp) (p:Addr) (qs:List Rat):Prop where
 ex:∃ xs,H p=some (.lst xs)∧A1 H xs qs
 bd:∀ q∈qs,q.den<2 ^ 6000
 len:qs.length<900
 tl:V6 qs qs.length
inductive bc0 (H:Hp):List Addr→List (List Rat)→Prop where
 | nil:bc0 H [] []
 | cons {p:Addr} {ps:List Addr} {L:List Rat} {Ls:List (List Rat)} (h:bo1 H p L) (t:bc0 H ps Ls):bc0 H (p :: ps) (L :: Ls)
open PySem L2 PyProof.Rows
theorem aI0 (xs:List V) {n:Nat} (h:n≤xs.length):af5 xs (some (n:Int)) none=xs.drop n:=by
 unfold af5
 have e1:HT.sIx xs.length 0 (some (n:Int))=n:=by
  simp only [HT.sIx]
  rw [if_neg (by omega)];omega
 have e2:HT.sIx xs.length xs.length none=xs.length:=rfl
 rw [e1,e2,List.take_of_length_le (by rw [List.length_drop];omega)]
theorem aD9 (xs:List V):af5 xs (some 1) none=xs.drop 1:=by
 cases xs with
 | nil=>exact List.eq_nil_of_length_eq_zero (by have:=al6 [] (some 1) none;simpa using this)
 | cons x xs=>exact aI0 (x :: xs) (n:=1) (by simp)
theorem v4 {α:Type} {l:List α} {i:Nat} {x : α} (h:l[i]? = some x):l.take (i+1)=l.take i++[x]:=by rw [List.take_succ,h];rfl
theorem ap2 {qs:List Rat} (h:∀ x,qs[qs.length - 1]? = some x→x≠0):V6 qs qs.length:=
 ⟨Nat.le_refl _,fun i q hi e=>(by rw [List.getElem?_eq_none hi] at e;cases e),fun _ q e=>h q e⟩
theorem v7.seq {K:PySem.W.Frag} {u:Addr} {H H':Hp} {b:Addr} {xs:List V} (s:v7 u H H') (hu:H u=none) (h:SqL K H b xs):SqL K H' b xs:=by
 rcases h with h | h
 ·rcases h with h | ⟨o,h⟩
  ·exact .inl (.inl (s _ _ h (j4 h hu)))
  ·exact .inl (.inr ⟨o,s _ _ h (j4 h hu)⟩)
 ·exact .inr h
def aN0 (K:PySem.W.Frag):Sp:=fun vs H Q _=>∃ (a:Addr) (ns:List Int),vs=[.ref a]∧SqL K H a (ns.map V.int)∧ns.length≤63∧∀ H',Q (.bl true) H'
structure ExT (K:PySem.W.Frag) (mg:Str→Option Value) (x:Str) (C:Addr):Prop where
 m:mg x=some (.ref C)
 ox:bg6 K C [.type "ValueError",.type "Exception",.type "BaseException",.type "object"] "ValueError.__new__"
 ec:D4 K C
structure CAd where
 c_NoFraction:Addr
 c_NoPolynomial:Addr
 c_NoStretch:Addr
 c_NoRow:Addr
 c_NoPair:Addr
 c_NoBack:Addr
 c_NoForm:Addr
 c_NoParts:Addr
 c_NoDegree:Addr
 c_NoSteps:Addr
 c_NoBox:Addr
 c_NoGain:Addr
 c_NoText:Addr
 c_NoLine:Addr
 c_NoName:Addr
 c_NoDeed:Addr
 c_RestError:Addr
structure XTx (K:PySem.W.Frag) (mg:Str→Option Value) (a:CAd):Prop where
 x_NoFraction:ExT K mg "NoFraction" a.c_NoFraction
 x_NoPolynomial:ExT K mg "NoPolynomial" a.c_NoPolynomial
 x_NoStretch:ExT K mg "NoStretch" a.c_NoStretch
 x_NoRow:ExT K mg "NoRow" a.c_NoRow
 x_NoPair:ExT K mg "NoPair" a.c_NoPair
 x_NoBack:ExT K mg "NoBack" a.c_NoBack
 x_NoForm:ExT K mg "NoForm" a.c_NoForm
 x_NoParts:ExT K mg "NoParts" a.c_NoParts
 x_NoDegree:ExT K mg "NoDegree" a.c_NoDegree
 x_NoSteps:ExT K mg "NoSteps" a.c_NoSteps
 x_NoBox:ExT K mg "NoBox" a.c_NoBox
 x_NoGain:ExT K mg "NoGain" a.c_NoGain
 x_NoText:ExT K mg "NoText" a.c_NoText
 x_NoLine:ExT K mg "NoLine" a.c_NoLine
 x_NoName:ExT K mg "NoName" a.c_NoName
 x_NoDeed:ExT K mg "NoDeed" a.c_NoDeed
structure bo4 (K:PySem.W.Frag) (a:CAd) (C:Addr) (j:Nat):Prop where
 k_NoFraction:PySem.W.kitOne K (.ref C) (.ref a.c_NoFraction)=some (decide (j=0))
 k_NoPolynomial:PySem.W.kitOne K (.ref C) (.ref a.c_NoPolynomial)=some (decide (j=1))
 k_NoStretch:PySem.W.kitOne K (.ref C) (.ref a.c_NoStretch)=some (decide (j=2))
 k_NoRow:PySem.W.kitOne K (.ref C) (.ref a.c_NoRow)=some (decide (j=3))
 k_NoPair:PySem.W.kitOne K (.ref C) (.ref a.c_NoPair)=some (decide (j=4))
 k_NoBack:PySem.W.kitOne K (.ref C) (.ref a.c_NoBack)=some (decide (j=5))
 k_NoForm:PySem.W.kitOne K (.ref C) (.ref a.c_NoForm)=some (decide (j=6))
 k_NoParts:PySem.W.kitOne K (.ref C) (.ref a.c_NoParts)=some (decide (j=7))
 k_NoDegree:PySem.W.kitOne K (.ref C) (.ref a.c_NoDegree)=some (decide (j=8))
 k_NoSteps:PySem.W.kitOne K (.ref C) (.ref a.c_NoSteps)=some (decide (j=9))
 k_NoBox:PySem.W.kitOne K (.ref C) (.ref a.c_NoBox)=some (decide (j=10))
 k_NoGain:PySem.W.kitOne K (.ref C) (.ref a.c_NoGain)=some (decide (j=11))
 k_NoText:PySem.W.kitOne K (.ref C) (.ref a.c_NoText)=some (decide (j=12))
 k_NoLine:PySem.W.kitOne K (.ref C) (.ref a.c_NoLine)=some (decide (j=13))
 k_NoName:PySem.W.kitOne K (.ref C) (.ref a.c_NoName)=some (decide (j=14))
 k_NoDeed:PySem.W.kitOne K (.ref C) (.ref a.c_NoDeed)=some (decide (j=15))
 kV:PySem.W.kitOne K (.ref C) (.type "ValueError")=some true
 ec:D4 K C
 ex:PySem.W.exmOne K (.ref C) (.ref a.c_RestError)=some true
def aL1 (j:Nat):Str:=[("fraction" : Str),"polynomial","stretch","row","pair","back","form","parts","degree","steps","box","gain","text","line","name","deed"].getD j ""
def az6 (K:PySem.W.Frag) (a:CAd):Sp:=fun vs H Q _=>∃ e C j,vs=[.ref e]∧bo4 K a C j∧j<16∧H e=some (Exc (.ref C) e)∧∀ H',d5 H H'→Q (.str (aL1 j)) H'
def aU6 (j:Nat):List V:=[V.bl (decide (j=0)),V.bl (decide (j=1)),V.bl (decide (j=2)),V.bl (decide (j=3))]++[V.bl (decide (j=4)),V.bl (decide (j=5)),V.bl (decide (j=6)),V.bl (decide (j=7))]++[V.bl (decide (j=8)),V.bl (decide (j=9)),V.bl (decide (j=10)),V.bl (decide (j=11))]++[V.bl (decide (j=12)),V.bl (decide (j=13)),V.bl (decide (j=14)),V.bl (decide (j=15))]
theorem aI8:∀ j,j<16→(aU6 j).countP (fun z=>eqV z (V.bl true))=1:=by decide
theorem aU5:∀ j,j<16→(aU6 j).findIdx? (fun z=>eqV z (V.bl true))=some j:=by decide
theorem aw3:∀ j,j<16→(aU6 j).all U9=true:=by decide
theorem ak7:ab8 "fraction polynomial stretch row pair back form parts degree steps box gain text line name deed" " " = [("fraction" : Str),"polynomial","stretch","row","pair","back","form","parts","degree","steps","box","gain","text","line","name","deed"]:=by decide +kernel
theorem bf0 {j:Nat} (hj:j<16):atI ((ab8 "fraction polynomial stretch row pair back form parts degree steps box gain text line name deed" " ").map V.str) (j:Int)=some (.str (aL1 j)):=by
 rw [ak7]
 refine C9 ?_
 have:∀ j,j<16→((["fraction","polynomial","stretch","row","pair","back","form","parts","degree","steps","box","gain","text","line","name","deed"]:List Str).map V.str)[j]? = some (.str (aL1 j)):=by decide
 exact this j hj
theorem ar9 {ws:List Int} {i:Nat} {x:V} (h:(ws.map V.int)[i]? = some x):∃ v,ws[i]? = some v∧x = .int v:=by
 rw [List.getElem?_map] at h
 cases hw:ws[i]? with
 | none=>rw [hw] at h;cases h
 | some v=>rw [hw] at h;cases h;exact ⟨v,rfl,rfl⟩
open PySem L2 PyProof.Rows
def top (i:Nat):Stmt:=PySem.Challenge.pw_restward_k51_room_of_boxes.main.body.getD i (.Pass ⟨0,0,0,0⟩)
end R
set_option maxRecDepth 100000
local macro_rules | `(tactic| simp! [$ls,*])=>`(tactic| simp only [L2.aJ1,L2.aE5,L2.ap5,L2.bm4,L2.bj4,L2.tSl,L2.bi5,L2.aU8,L2.az4,L2.bj3,L2.bj5,L2.aB0,L2.aO4,L2.O1,List.map_cons,List.map_nil,Option.bind_none,Option.bind_some,Option.join_some,L2.bc4,L2.bi8,L2.bj0,L2.tOr,L2.bi7,L2.aM8,L2.tB,L2.tOp,L2.tUn,L2.bi9,L2.tBM,L2.az3,L2.tC,L2.tCB,L2.bc5,L2.aV2,L2.v3,L2.bm8,L2.R9,L2.v8,L2.S8,L2.n9,L2.V9,L2.bc6,L2.ad8,L2.aQ0,L2.aV3,L2.bi6,L2.aU9,L2.bc7,L2.az5,L2.aV1,L2.aV0,L2.aJ0,L2.aI9,L2.rI,L2.rI0,L2.rU,L2.aA9,L2.aW8,L2.aJ5,L2.aW7,L2.rEq,L2.rNe,L2.aJ7,L2.aJ6,L2.aJ4,L2.bj6,L2.bj7,L2.aZ8,L2.aO3,L2.bm5,L2.am7,L2.cxR,L2.cxX,L2.Cx.nox,L2.Cx.wish,L2.Cx.body,L2.Cx.suite,List.getElem?_cons_zero,List.getElem?_cons_succ,List.set_cons_zero,List.set_cons_succ,Option.some.injEq,L2.V.int.injEq,L2.V.bl.injEq,L2.V.ref.injEq,L2.V.str.injEq,exists_eq_left',exists_eq_left,exists_and_left,true_and,and_true,List.cons.injEq,reduceCtorEq,Bool.false_eq_true,if_false,if_true,exists_const,↓reduceIte,L2.tyV,List.length_cons,List.length_nil,exists_eq,List.append_nil,List.cons_append,List.nil_append,decide_eq_true_eq,not_true_eq_false,not_false_eq_true,Bool.not_eq_true',decide_eq_false_iff_not,Bool.not_true,Bool.not_false,and_assoc,false_and,false_or,or_false,$ls,*])
local macro_rules | `(tactic| subst_eqs)=>`(tactic| simp! [])
local macro_rules | `(tactic| and_intros)=>`(tactic| exact ⟨rfl,rfl,rfl,by decide +kernel,rfl,by decide +kernel,by decide +kernel⟩)
namespace R
open PySem L2 PyProof.Rows
section
variable {P:Program} {w:World} {K:PySem.W.Frag} {mg:Str→Option Value} {base:Heap}
abbrev M5:Stmt:=top 55
theorem Q5:i9 ["_law_top","_law_bottom","_law_one","_law_other_here"] ["_law_top","_law_bottom"] (d3 M5):=by and_intros
theorem aG8 {f:Addr} (d:Df K mg "_law_low" M5 ["_law_top","_law_bottom"] f) (n_abs:mg "abs" = none):Def P w K mg base CX0 1 "_law_low" f ["_law_top","_law_bottom"] ak5:=by
 refine d.ok (N:=["_law_top","_law_bottom","_law_one","_law_other_here"]) Q5 (fun vs H Q E ⟨a,b,h,_⟩=>by rw [h];rfl) (fun cdv A outer s H vs Q E hr h=>?_)
 obtain ⟨t,b,rfl,hb0,hb,k⟩:=h
 refine ⟨_,(d4 (j8 (i:=2) Q5.nd rfl (Or.inl rfl) (d8 W9 rfl n_abs (by decide +kernel) (b6 (pv 0) b7)))
   (d4 (j8 (i:=3) Q5.nd rfl (Or.inl rfl) (d8 W9 rfl n_abs (by decide +kernel) (b6 (pv 1) b7)))
   (d4 (Z9 PassesOwn.never (p6 ag5 (pv 3) b9 (o0 _)) (d6 (aa0 (i:=2) (j:=3) rfl Q5.nd rfl rfl (by decide) rfl rfl (b6 (pv 3) (b6 (d9 P6 (pv 2) (pv 3)) b7)) rfl)))
   (d4 (A5 (p6 ad1 (pv 1) b9 (o0 _)) (d6 (j8 (i:=2) Q5.nd rfl (Or.inl rfl) (d9 M7 b9 (pv 2)))) p8)
   (d6 (h9 (m6 (b6 (d9 B4 (pv 0) (pv 2)) (b6 (d9 B4 (pv 1) (pv 2)) b7))))))))),?_⟩
 rw [show start ["_law_top","_law_bottom","_law_one","_law_other_here"] [.int t,.int b]=[some (.int t),some (.int b),none,none] from rfl]
 subst_eqs
 refine aE4 (fun σ H1=>H1=H∧∃ x y:Int,σ=[some (.int t),some (.int b),some (.int x),some (.int y)]∧0≤x∧0≤y∧Int.gcd x y=Int.gcd t b) (fun σ _=>match σ with | [_,_,_,some (.int y)]=>y.natAbs | _=>0)
  ⟨rfl,_,_,rfl,by split <;> omega,by split <;> omega,?_⟩ ?_ ?_
 ·have e1:(if t<0 then -t else t)=(t.natAbs:Int):=by split <;> omega
  have e2:(if b<0 then -b else b)=(b.natAbs:Int):=by split <;> omega
  rw [e1,e2,Int.gcd_eq_natAbs_gcd_natAbs,Int.gcd_eq_natAbs_gcd_natAbs];simp
 ·rintro σ H1 ⟨rfl,x,y,rfl,hx,hy,hg⟩
  subst_eqs
  split
  ·rename_i hy0
   exact ⟨by omega,hy,Int.fmod_nonneg_of_pos x hy0,by rw [aH4];exact hg,aa3 x (by omega)⟩
  ·rename_i hy0
   have hy':y=0:=by omega
   subst hy'
   have ex:x=(Int.gcd t b:Int):=by
    rw [Int.gcd_zero_right] at hg
    omega
   have gp:=G3 (t:=t) hb0
   have gl:=aj4 (a:=t) hb0 hb
   by_cases hs:b<0
   ·rw [if_pos hs]
    obtain ⟨e1,e2⟩:=aD3 (t:=t) (g:=0 - x) hb0 (by rw [if_pos hs,ex];omega)
    have dv:∀ i,ah8 i (0 - x):=fun i=>W7 (by omega) (by rw [show 0 - x = -x by omega,Int.natAbs_neg,ex];exact D8 gl)
    refine ⟨dv _,dv _,v5,fun r hr'=>?_⟩
    exact k r _ (d5.new hr' _) (by rw [b8];unfold p9;rw [e1,e2])
   ·rw [if_neg hs]
    obtain ⟨e1,e2⟩:=aD3 (t:=t) (g:=x) hb0 (by rw [if_neg hs,ex])
    have dv:∀ i,ah8 i x:=fun i=>W7 (by omega) (by rw [ex];exact D8 gl)
    refine ⟨dv _,dv _,v5,fun r hr'=>?_⟩
    exact k r _ (d5.new hr' _) (by rw [b8];unfold p9;rw [e1,e2])
 ·intro σ H1 Q1 Q2 hQ h
  simp only [aJ1,aE5,ap5,bm4,bj4,tSl,bi5,aU8,az4,bj3,bj5,aB0,aO4,O1,List.map_cons,List.map_nil,Option.bind_none,Option.bind_some,Option.join_some,bc4,bi8,bj0,tOr,bi7,aM8,tB,tOp,tUn,bi9,tBM,az3,tC,tCB,bc5,aV2,v3,bm8,R9,v8,S8,n9,V9,bc6,ad8,aQ0,aV3,bi6,aU9,bc7,az5,aV1,aV0,aJ0,aI9,rI,rI0,rU,aA9,aW8,aJ5,aW7,rEq,rNe,aJ7,aJ6,aJ4,bj6,bj7,aZ8,aO3,bm5,am7,cxR,cxX,Cx.nox,Cx.wish,Cx.body,Cx.suite,List.getElem?_cons_zero,List.getElem?_cons_succ,List.set_cons_zero,List.set_cons_succ,Option.some.injEq,V.int.injEq,V.bl.injEq,V.ref.injEq,V.str.injEq,exists_eq_left',exists_eq_left,exists_and_left,true_and,and_true,List.cons.injEq,reduceCtorEq,Bool.false_eq_true,if_false,if_true,exists_const,↓reduceIte,tyV,List.length_cons,List.length_nil,exists_eq,List.append_nil,List.cons_append,List.nil_append,decide_eq_true_eq,not_true_eq_false,not_false_eq_true,Bool.not_eq_true',decide_eq_false_iff_not,Bool.not_true,Bool.not_false,and_assoc,false_and,false_or,or_false] at h ⊢
  obtain ⟨v,e1,i,e2,e3⟩:=h
  exact ⟨v,e1,i,e2,hQ _ _ e3⟩
abbrev M4:Stmt:=top 53
theorem M9:i9 ["_law_script","_law_at","_law_cell","_law_prime","_law_great"] ["_law_script","_law_at"] (d3 M4):=by and_intros
set_option maxHeartbeats 0 in
theorem aG7 {f:Addr} (d:Df K mg "_law_urn" M4 ["_law_script","_law_at"] f) (n_len:mg "len" = none) (n_abs:mg "abs" = none):Def P w K mg base CX0 1 "_law_urn" f ["_law_script","_law_at"] (bh1 K):=by
 refine d.ok (N:=["_law_script","_law_at","_law_cell","_law_prime","_law_great"]) M9 (fun vs H Q E ⟨x,y,p,h,_⟩=>by rw [h];rfl) (fun cdv A outer s H vs Q E hr h=>?_)
 obtain ⟨a,ns,i,rfl,hS,h0,h64,k⟩:=h
 refine ⟨_,(d4 (j8 (i:=2) M9.nd rfl (Or.inl rfl) b9)
   (d4 (A5 (p6 ad1 (pv 1) (d8 m5 rfl n_len (by decide +kernel) (b6 (pv 0) b7)) (o0 _)) (d6 (j8 (i:=2) M9.nd rfl (Or.inl rfl) (i6 t4 (pv 0) (pv 1) (fun _ _=>rfl)))) p8)
   (d4 (j8 (i:=3) M9.nd rfl (Or.inl rfl) (i6 j6 (m6 (b6 b9 (b6 b9 (b6 b9 (b6 b9 (b6 b9 (b6 b9 (b6 b9 (b6 b9 b7))))))))) (d9 P6 (pv 1) b9) (fun _ _=>rfl)))
   (d4 (j8 (i:=4) M9.nd rfl (Or.inl rfl) b9)
   (d4 (A5 (p6 bp6 (d8 W9 rfl n_abs (by decide +kernel) (b6 (pv 2) b7)) (d9 aa1 b9 b9) (o0 _)) (d6 (j8 (i:=4) M9.nd rfl (Or.inl rfl) (d8 W9 rfl n_abs (by decide +kernel) (b6 (pv 2) b7)))) p8)
   (d6 (h9 (v9 (b6 (pv 4) (b6 (d9 P6 (d9 aa1 (d9 N7 (d9 N7 (d9 P6 (pv 2) (pv 3)) (d9 t9 b9 (pv 1))) b9) b9) (pv 3)) (b6 (pv 3) b7))))))))))),?_⟩
 rw [show start ["_law_script","_law_at","_law_cell","_law_prime","_law_great"] [.ref a,.int i]=[some (.ref a),some (.int i),none,none,none] from rfl]
 refine i8 (fun σ H1=>H1=H∧σ=[some (.ref a),some (.int i),some (.int 0),none,none]) (fun N hN=>?_) ?_
 ·subst_eqs
  exact hN _ _ ⟨rfl,rfl⟩
 rintro σ H1 ⟨rfl,rfl⟩
 refine i8 (fun σ H2=>H2=H1∧∃ c:Int,σ=[some (.ref a),some (.int i),some (.int c),none,none]) (fun N hN=>?_) ?_
 ·subst_eqs
  refine ⟨_,.inl hS,v6 (fun hl=>?_) (fun _=>hN _ _ ⟨rfl,_,rfl⟩)⟩
  obtain ⟨c,hc⟩:=aT7 (ns:=ns) h0 (by simpa using hl)
  exact ⟨_,hS,_,hc,hN _ _ ⟨rfl,c,rfl⟩⟩
 rintro σ H2 ⟨rfl,c,rfl⟩
 obtain ⟨pr,hpr,p1,p2⟩:=aX5 h0
 refine i8 (fun σ H3=>d5 H2 H3∧σ=[some (.ref a),some (.int i),some (.int c),some (.int pr),none]) (fun N hN=>?_) ?_
 ·subst_eqs
  exact ⟨by decide,fun p hp=>⟨by decide,_,SqT.of b8,_,hpr,hN _ _ ⟨d5.new hp _,rfl⟩⟩⟩
 rintro σ H3 ⟨s1,rfl⟩
 refine i8 (fun σ H4=>H4=H3∧σ=[some (.ref a),some (.int i),some (.int c),some (.int pr),some (.int 0)]) (fun N hN=>?_) ?_
 ·subst_eqs
  exact hN _ _ ⟨rfl,rfl⟩
 rintro σ H4 ⟨rfl,rfl⟩
 refine i8 (fun σ H5=>H5=H4∧∃ g:Int,0≤g∧σ=[some (.ref a),some (.int i),some (.int c),some (.int pr),some (.int g)]) (fun N hN=>?_) ?_
 ·subst_eqs
  exact ⟨⟨by decide,by decide,by decide⟩,v6 (fun _=>hN _ _ ⟨rfl,_,by split <;> omega,rfl⟩) (fun _=>hN _ _ ⟨rfl,_,Int.le_refl _,rfl⟩)⟩
 rintro σ H5 ⟨rfl,g,hg,rfl⟩
 subst_eqs
 have m0:=Int.fmod_nonneg_of_pos c (show 0<pr by omega)
 have m1:=Int.fmod_lt_of_pos c (show 0<pr by omega)
 refine ⟨by omega,bp7 (by decide),⟨by decide,by decide,by omega⟩,by omega,by decide,fun r hr'=>?_⟩
 refine k r _ (s1.trans (d5.new hr' _)) (s1.free hr') ⟨g,_,pr,b8,hg,Int.fmod_nonneg_of_pos _ (by omega),?_,by omega,by omega⟩
 have:=Int.fmod_lt_of_pos ((c.fmod pr+65537 * i+101) ^ (3:Int).toNat) (show 0<pr by omega)
 omega
abbrev J4:Stmt:=top 54
theorem ag2:i9 ["_law_urn_here","_law_many","_law_drawn"] ["_law_urn_here","_law_many"] (d3 J4):=by and_intros
set_option maxHeartbeats 0 in
theorem aC9 {f:Addr} (d:Df K mg "_law_draw" J4 ["_law_urn_here","_law_many"] f):Def P w K mg base CX0 1 "_law_draw" f ["_law_urn_here","_law_many"] G4:=by
 refine d.ok (N:=["_law_urn_here","_law_many","_law_drawn"]) ag2 (fun vs H Q E ⟨x,y,h,_⟩=>by rw [h];rfl) (fun cdv A outer s H vs Q E hr h=>?_)
 obtain ⟨u,n,rfl,⟨g,m,p,hu,g0,m0,m1,p0,p1⟩,n0,n1,k⟩:=h
 refine ⟨_,(d4 (A5 (p6 ag5 (i6 t4 (pv 0) b9 (fun _ _=>rfl)) b9 (o0 _)) (d4 (j8 (i:=2) ag2.nd rfl (Or.inl rfl) (d9 P6 (i6 t4 (pv 0) b9 (fun _ _=>rfl)) (pv 1)))
   (d4 (K8 (d9 B4 (i6 t4 (pv 0) b9 (fun _ _=>rfl)) (pv 1)) (aK1 (pv 0) b9 aq1))
   (d6 (h9 (pv 2))))) p8)
   (d4 (K8 (d9 P6 (d9 N7 (d9 t9 (i6 t4 (pv 0) b9 (fun _ _=>rfl)) b9) b9) (i6 t4 (pv 0) b9 (fun _ _=>rfl))) (aK1 (pv 0) b9 aq1))
   (d6 (h9 (d9 P6 (d9 B4 (d9 P6 (d9 aa1 (d9 B4 (i6 t4 (pv 0) b9 (fun _ _=>rfl)) b9) b9) b9) b9) (pv 1)))))),?_⟩
 rw [show start ["_law_urn_here","_law_many","_law_drawn"] [.ref u,.int n]=[some (.ref u),some (.int n),none] from rfl]
 have L1:SqL K H u [.int g,.int m,.int p]:=SqL.of hu
 have x0:∀ g m p:Int,atI [V.int g,.int m,.int p] 0=some (.int g):=fun _ _ _=>rfl
 have x1:∀ g m p:Int,atI [V.int g,.int m,.int p] 1=some (.int m):=fun _ _ _=>rfl
 have x2:∀ g m p:Int,atI [V.int g,.int m,.int p] 2=some (.int p):=fun _ _ _=>rfl
 subst_eqs
 have dn:∀ i,ah8 i n:=fun i=>W7 (by omega) (Nat.lt_of_lt_of_le (show n.natAbs<2 ^ 40 by omega) (i3 (by decide)))
 refine ⟨_,L1,_,x0 g m p,_,rfl,v6 (fun hg=>?_) (fun hg=>?_)⟩
 ·refine ⟨_,L1,_,x0 g m p,_,rfl,by omega,_,L1,_,x0 g m p,_,rfl,dn _,_,hu,0,rfl,?_⟩
  exact k _ _ (Int.fmod_nonneg_of_pos _ n0) (Int.fmod_lt_of_pos _ n0) (v7.upd _ _ _) ⟨g.fdiv n,m,p,b8,Int.fdiv_nonneg g0 (by omega),m0,m1,p0,p1⟩
 ·have q0:=Int.fmod_nonneg_of_pos (m * 60013+12289) p0
  have q1:=Int.fmod_lt_of_pos (m * 60013+12289) p0
  have z:SqL K (upd H u (.lst [.int g,.int ((m * 60013+12289).fmod p),.int p])) u [.int g,.int ((m * 60013+12289).fmod p),.int p]:=SqL.of b8
  have d16:0≤((m * 60013+12289).fmod p).fdiv 16∧((m * 60013+12289).fmod p).fdiv 16<2 ^ 40:=by
   rw [Int.fdiv_eq_ediv_of_nonneg _ (by decide)]
   omega
  refine ⟨_,L1,_,x1 g m p,_,rfl,ar4 (by decide),_,L1,_,x2 g m p,_,rfl,by omega,_,hu,1,rfl,_,z,_,x1 _ _ _,_,rfl,W7 (by decide) (Nat.lt_of_lt_of_le (show (16:Int).natAbs<2 ^ 40 by decide) (i3 (by decide))),⟨by decide,by decide,by omega⟩,by decide,W7 (by decide) (Nat.lt_of_lt_of_le (show (8:Int).natAbs<2 ^ 40 by decide) (i3 (by decide))),by omega,?_⟩
  exact k _ _ (Int.fmod_nonneg_of_pos _ n0) (Int.fmod_lt_of_pos _ n0) (v7.upd _ _ _) ⟨g,_,p,b8,g0,q0,by omega,p0,p1⟩
abbrev D0:Stmt:=top 62
theorem Z7:i9 ["_law_urn_here","_law_kind","_law_top"] ["_law_urn_here","_law_kind"] (d3 D0):=by and_intros
abbrev E8:Stmt:=top 67
theorem au4:i9 ["_law_thing"] ["_law_thing"] (d3 E8):=by and_intros
abbrev A9:Stmt:=top 68
theorem ag1:i9 ["_law_thing"] ["_law_thing"] (d3 A9):=by and_intros
end
section
variable {P:Program} {w:World} {K:PySem.W.Frag} {mg:Str→Option Value} {base:Heap}
def spOther:Sp:=fun vs H Q _=>∃ u kd,vs=[.ref u,.int kd]∧x6 H u∧∀ r q H',Sm q→q≠0→v7 u H H'→x6 H' u→H' r=some (.tup (p9 q))→Q (.ref r) H'
abbrev F2:Stmt:=top 63
theorem ac7:i9 ["_law_urn_here","_law_kind","_law_found"] ["_law_urn_here","_law_kind"] (d3 F2):=by and_intros
def aV5 (K:PySem.W.Frag):Sp:=fun vs H Q _=>∃ a xs qs,vs=[.ref a]∧SqL K H a xs∧A1 H xs qs∧∀ m r H',V6 qs m→d5 H H'→H r=none→H' r=some (.lst (xs.take m))→Q (.ref r) H'
abbrev G7:Stmt:=top 65
theorem ag0:i9 ["_law_numbers","_law_found"] ["_law_numbers"] (d3 G7):=by and_intros
theorem bf4 {α:Type} {xs:List α} {x : α} (h:xs[xs.length - 1]? = some x):atI xs (-1)=some x:=by
 have hp:xs.length - 1<xs.length:=(List.getElem?_eq_some_iff.mp h).1
 have e:ixN xs.length (-1)=some (xs.length - 1):=by
  unfold ixN
  rw [if_neg (by decide)]
  rw [if_pos (by omega)]
  congr 1
  omega
 unfold atI
 rw [e]
 exact h
set_option maxHeartbeats 0 in
theorem aC3 {f:Addr} (d:Df K mg "_law_trim" G7 ["_law_numbers"] f) (n_list:mg "list" = none):Def P w K mg base CX0 1 "_law_trim" f ["_law_numbers"] (aV5 K):=by
 refine d.ok (N:=["_law_numbers","_law_found"]) ag0 (fun vs H Q E ⟨a,xs,qs,h,_⟩=>by rw [h];rfl) (fun cdv A outer s H vs Q E hr h=>?_)
 obtain ⟨a,xs,qs,rfl,hS,hN,k⟩:=h
 have hu:=hr.units
 refine ⟨_,(d4 (j8 (i:=1) ag0.nd rfl (Or.inl rfl) (N1 Z3 rfl n_list (by decide +kernel) (b6 (pv 0) b7)))
   (d4 (Z9 PassesOwn.never (PW.pt (aJ8 (p6 (aB8 hu) (pv 1) (v9 b7) (o0 _)) (aB1 (p6 ak9 (i6 j6 (i6 t4 (pv 1) (N5 E5 b9) (fun _ _=>rfl)) b9 (fun _ _=>rfl)) b9 (o0 _))))) (d6 (ao3 (aK2 PySem.F.plainAttrs_list PySem.F.slot_list_pop PySem.F.type_list_pop bl4 (pv 1)))))
   (d6 (h9 (pv 1))))),?_⟩
 rw [show start ["_law_numbers","_law_found"] [.ref a]=[some (.ref a),none] from rfl]
 subst_eqs
 refine ⟨_,.inl hS,fun l hl=>?_⟩
 refine ap1 (fun σ H1=>σ=[some (.ref a),some (.ref l)]∧∃ m,m≤qs.length∧(∀ (i:Nat) (q:Rat),m≤i→qs[i]? = some q→q=0)∧d5 H H1∧H1 l=some (.lst (xs.take m))) (fun σ H1=>match H1 l with | some (.lst ys)=>ys.length | _=>0)
  ⟨rfl,qs.length,Nat.le_refl _,fun i q hi e=>?_,d5.new hl _,?_⟩ ?_
 ·rw [List.getElem?_eq_none hi] at e;cases e
 ·rw [b8,←hN.length,List.take_length]
 ·rintro σ H1 ⟨rfl,m,hm,hz,sm,e1⟩
  have hml:(xs.take m).length=m:=by rw [List.length_take,hN.length];omega
  subst_eqs
  refine ⟨by decide,fun p hp=>?_⟩
  have n1:A1 H1 (xs.take m) (qs.take m):=(hN.mono sm.tups).take m
  have pl:p≠l:=(j4 e1 hp).symm
  have e2:upd H1 p (.lst []) l=some (.lst (xs.take m)):=by rw [j3 pl.symm];exact e1
  have n2:A1 (upd H1 p (.lst [])) (xs.take m) (qs.take m):=n1.mono (L8.new hp)
  refine ⟨N3 (qs.take m),N3 [],rfl,Q9 (SqL.of e2) n2,Q9 (SqL.of b8) .nil,ag8 _ _,Nat.le_trans (ao8 _) (by decide),?_⟩
  rw [as4]
  by_cases h0:m=0
  ·subst h0
   simp only [List.take_zero,decide_true,Bool.not_true,Bool.false_eq_true,if_false]
   refine ⟨false,rfl,v6 (fun h=>absurd h (by decide)) fun _=>k 0 l _ ⟨Nat.zero_le _,hz,fun h=>absurd rfl h⟩ (sm.trans (d5.new hp _)) hl ?_⟩
   rw [e2]
  ·have hlt:m - 1<qs.length:=by omega
   have hne:qs.take m≠[]:=fun z=>by
    have:=congrArg List.length z
    rw [List.length_take,List.length_nil] at this
    omega
   simp only [hne,decide_false,Bool.not_false]
   obtain ⟨pv,hv,hpv⟩:=n2.get (i:=m - 1) (q:=qs[m - 1]) (by rw [List.getElem?_take_of_lt (by omega)];exact List.getElem?_eq_getElem hlt)
   refine ⟨true,rfl,v6 (fun _=>?_) (fun h=>absurd rfl h)⟩
   refine ⟨_,SqL.of e2,_,bf4 (by rw [hml];exact hv),_,rfl,_,SqT.of hpv,_,at0 _,rfl,?_⟩
   refine v6 (fun hn=>?_) (fun hn=>?_)
   ·have hn':qs[m - 1].num=0:=V.int.inj hn
    refine WhB.mk ?_
    subst_eqs
    refine ⟨.inl ⟨_,SqL.of e2⟩,_,e2,_,by rw [hml];exact hv,WhN.mk ⟨rfl,m - 1,by omega,fun i q hi e=>?_,(sm.trans (d5.new hp _)).over hl _,?_⟩ ?_⟩
    ·by_cases hi':i=m - 1
     ·subst hi'
      rw [List.getElem?_eq_getElem hlt] at e
      cases e
      exact W3.mp hn'
     ·exact hz i q (by omega) e
    ·rw [b8,List.dropLast_eq_take,hml,List.take_take,Nat.min_eq_left (by omega)]
    ·rw [b8]
     simp only [e1,List.length_dropLast]
     omega
   ·have hn':qs[m - 1]≠0:=fun z=>hn (by rw [z];rfl)
    exact k m l _ ⟨hm,hz,fun _ q e=>by rw [List.getElem?_eq_getElem hlt] at e;cases e;exact hn'⟩ (sm.trans (d5.new hp _)) hl e2
end
structure BtN (k:Nat) (q:Rat):Prop where
 n:q.num.natAbs<2 ^ 20000
 d:q.den<2 ^ k
theorem BtN.d' {n:Nat} {q:Rat} (b:BtN n q):(q.den:Int).natAbs<2 ^ n:=by rw [Int.natAbs_natCast];exact b.d
theorem BtN.zero {n:Nat} (h:1≤n):BtN n 0:=⟨Nat.two_pow_pos _,Nat.lt_of_lt_of_le (show 1<2 ^ 1 by decide) (i3 h)⟩
theorem BdN.t {n:Nat} {q:Rat} (b:BdN n q) (h:n≤20000):BtN n q:=⟨Nat.lt_of_lt_of_le b.n (i3 h),b.d⟩
theorem A1.set {H:Hp}:∀ {vs:List V} {qs:List Rat} (k:Nat) {p:Addr} {q:Rat},A1 H vs qs→H p=some (.tup (p9 q))→A1 H (vs.set k (.ref p)) (qs.set k q)
 | _,_,_,_,_,.nil,_=>.nil
 | _,_,0,_,_,.cons _ t,h=>.cons h t
 | _,_,k+1,_,_,.cons h' t,h=>.cons h' (t.set k h)
theorem A1.rep {H:Hp} {p:Addr} {q:Rat} (h:H p=some (.tup (p9 q))):∀ n,A1 H (List.replicate n (.ref p)) (List.replicate n q)
 | 0=>.nil
 | n+1=>.cons h (A1.rep h n)
section
variable {P:Program} {w:World} {K:PySem.W.Frag} {mg:Str→Option Value} {base:Heap}
def R6 (K:PySem.W.Frag) (op:Rat→Rat→Rat):Sp:=fun vs H Q _=>∃ (x y:V) (p q:Rat) (m n:Nat),vs=[x,y]∧Num K H x p∧Num K H y q∧BtN m p∧BtN n q∧m+n≤6000∧at9 H Q (op p q)
theorem bn4 {p q:Rat} {m n:Nat} (bp:BtN m p) (bq:BtN n q) (h:m+n≤6000):((p.den:Int) * q.den).natAbs<2 ^ 6000:=by
 rw [Int.natAbs_mul]
 have:=Nat.mul_lt_mul'' bp.d' bq.d'
 rw [←Nat.pow_add] at this
 exact Nat.lt_of_lt_of_le this (i3 h)
theorem ap0 (p q:Rat):(p.den:Int) * q.den≠0:=Int.ne_of_gt (Int.mul_pos (t7 p) (t7 q))
abbrev J1:Stmt:=top 56
theorem aA6:i9 ["_law_one","_law_other_here"] ["_law_one","_law_other_here"] (d3 J1):=by and_intros
theorem aC6 {f fl:Addr} (d:Df K mg "_law_plus" J1 ["_law_one","_law_other_here"] f) (G__law_low:Def P w K mg base CX0 1 "_law_low" fl ["_law_top","_law_bottom"] ak5):Def P w K mg base CX0 2 "_law_plus" f ["_law_one","_law_other_here"] (R6 K (· + ·)):=by
 refine d.ok (N:=["_law_one","_law_other_here"]) aA6 (by rintro vs H Q E ⟨x,y,p,q,m,n,h,_⟩;rw [h];rfl) (fun cdv A outer s H vs Q E hr h=>?_)
 obtain ⟨x,y,p,q,m,n,rfl,⟨ap,rfl,hp⟩,⟨aq,rfl,hq⟩,bp,bq,hmn,k⟩:=h
 refine ⟨_,(d6 (h9 (d7 G__law_low hr (b6 (d9 N7 (d9 t9 (i6 j6 (pv 0) b9 (fun _ _=>rfl)) (i6 j6 (pv 1) b9 (fun _ _=>rfl))) (d9 t9 (i6 j6 (pv 1) b9 (fun _ _=>rfl)) (i6 j6 (pv 0) b9 (fun _ _=>rfl)))) (b6 (d9 t9 (i6 j6 (pv 0) b9 (fun _ _=>rfl)) (i6 j6 (pv 1) b9 (fun _ _=>rfl))) b7)) i0))),?_⟩
 rw [show start ["_law_one","_law_other_here"] [.ref ap,.ref aq]=[some (.ref ap),some (.ref aq)] from rfl]
 subst_eqs
 refine ⟨_,hp,_,at0 p,_,hq,_,at1 q,_,rfl,_,rfl,K1 bp.n bq.d' (by omega),_,hq,_,at0 q,_,hp,_,at1 p,_,rfl,_,rfl,K1 bq.n bp.d' (by omega),_,hp,_,at1 p,_,hq,_,at1 q,_,rfl,_,rfl,K1 bp.d' bq.d' (by omega),?_⟩
 refine ⟨_,_,rfl,ap0 p q,bn4 bp bq hmn,?_⟩
 rw [←af6]
 exact k
abbrev F1:Stmt:=top 58
theorem au5:i9 ["_law_one","_law_other_here"] ["_law_one","_law_other_here"] (d3 F1):=by and_intros
theorem av3 {f fl:Addr} (d:Df K mg "_law_times" F1 ["_law_one","_law_other_here"] f) (G__law_low:Def P w K mg base CX0 1 "_law_low" fl ["_law_top","_law_bottom"] ak5):Def P w K mg base CX0 2 "_law_times" f ["_law_one","_law_other_here"] (R6 K (· * ·)):=by
 refine d.ok (N:=["_law_one","_law_other_here"]) au5 (by rintro vs H Q E ⟨x,y,p,q,m,n,h,_⟩;rw [h];rfl) (fun cdv A outer s H vs Q E hr h=>?_)
 obtain ⟨x,y,p,q,m,n,rfl,⟨ap,rfl,hp⟩,⟨aq,rfl,hq⟩,bp,bq,hmn,k⟩:=h
 refine ⟨_,(d6 (h9 (d7 G__law_low hr (b6 (d9 t9 (i6 j6 (pv 0) b9 (fun _ _=>rfl)) (i6 j6 (pv 1) b9 (fun _ _=>rfl))) (b6 (d9 t9 (i6 j6 (pv 0) b9 (fun _ _=>rfl)) (i6 j6 (pv 1) b9 (fun _ _=>rfl))) b7)) i0))),?_⟩
 rw [show start ["_law_one","_law_other_here"] [.ref ap,.ref aq]=[some (.ref ap),some (.ref aq)] from rfl]
 subst_eqs
 refine ⟨_,hp,_,at0 p,_,hq,_,at0 q,_,rfl,_,rfl,K1 bp.n bq.n (by omega),_,hp,_,at1 p,_,hq,_,at1 q,_,rfl,_,rfl,K1 bp.d' bq.d' (by omega),?_⟩
 refine ⟨_,_,rfl,ap0 p q,bn4 bp bq hmn,?_⟩
 rw [←Y8]
 exact k
end
theorem bl3 (p q:Rat):(p * q).num.natAbs≤p.num.natAbs * q.num.natAbs∧(p * q).den≤p.den * q.den:=by
 have h:=N2 (t:=p.num * q.num) (b:=(p.den:Int) * q.den) (ap0 p q)
 rw [←Y8] at h
 rw [Int.natAbs_mul,Int.natAbs_mul,Int.natAbs_natCast,Int.natAbs_natCast] at h
 exact h
section
variable {P:Program} {w:World} {K:PySem.W.Frag} {mg:Str→Option Value} {base:Heap}
def aN3 (K:PySem.W.Frag):Sp:=fun vs H Q _=>∃ (a b:Addr) (xs ys:List V) (ps:List Rat) (c:Rat) (D C:Nat),vs=[.ref a,.ref b]∧SqL K H a xs∧SqL K H b ys∧A1 H xs ps∧A1 H ys [c,1]∧(∀ q∈ps,q.num.natAbs<2 ^ 9000∧q.den<2 ^ D)∧BdN C c∧2 * D+C≤6000∧1≤D∧1≤C∧ps.length≤100 ∧
 ∀ m r zs H',V6 (ae9 ps [c,1]) m→d5 H H'→H r=none→H' r=some (.lst zs)→A1 H' zs ((ae9 ps [c,1]).take m)→Q (.ref r) H'
abbrev A0:Stmt:=top 66
theorem A7:i9 ["_law_p","_law_q","_law_found","_law_i","_law_one","_law_j","_law_other_here"] ["_law_p","_law_q"] (d3 A0):=by and_intros
set_option maxHeartbeats 0 in
theorem ae7 {f fp f1 f2:Addr} (d:Df K mg "_law_poly_times" A0 ["_law_p","_law_q"] f) (G__law_plus:Def P w K mg base CX0 2 "_law_plus" fp ["_law_one","_law_other_here"] (R6 K (· + ·))) (G__law_times:Def P w K mg base CX0 2 "_law_times" f1 ["_law_one","_law_other_here"] (R6 K (· * ·))) (G__law_trim:Def P w K mg base CX0 1 "_law_trim" f2 ["_law_numbers"] (aV5 K)) (n_len:mg "len" = none) (n_enumerate:mg "enumerate" = none):Def P w K mg base CX0 3 "_law_poly_times" f ["_law_p","_law_q"] (aN3 K):=by
 refine d.ok (N:=["_law_p","_law_q","_law_found","_law_i","_law_one","_law_j","_law_other_here"]) A7 (by rintro vs H Q E ⟨_,_,_,_,_,_,_,_,h,_⟩;rw [h];rfl) (fun cdv A outer s H vs Q E hr h=>?_)
 obtain ⟨a,b,xs,ys,ps,c0,D,C,rfl,hS,hS',hN,hN',hs,hs',hDC,hD1,hC1,hl,k⟩:=h
 obtain ⟨qs,hqs⟩:∃ qs:List Rat,qs=[c0,1]:=⟨_,rfl⟩
 rw [←hqs] at hN' k
 have hl':qs.length=2:=by rw [hqs];rfl
 have hu:=hr.units
 refine ⟨_,(d4 (A5 (PW.pt (G2 (p6 (aB9 hu) (pv 0) (v9 b7) (o0 _)) (M6 (p6 (aB9 hu) (pv 1) (v9 b7) (o0 _))))) (d6 (h9 (v9 b7))) p8)
   (d4 (j8 (i:=2) A7.nd rfl (Or.inl rfl) (d9 aK4 (v9 (b6 (m6 (b6 b9 (b6 b9 b7))) b7)) (d9 M7 (d9 N7 (d8 m5 rfl n_len (by decide +kernel) (b6 (pv 0) b7)) (d8 m5 rfl n_len (by decide +kernel) (b6 (pv 1) b7))) b9)))
   (d4 (U5 PassesOwn.never rfl (ao4 rfl n_enumerate (b6 (pv 0) b7)) (show PG _ _ (R9 K 2 (v8 (v3 3) (v8 (v3 4) S8))) from by (refine C2 (n:=2) ?_ ?_ ?_ ?_;rfl;(refine j0 ?_ ?_ ?_;(exact (g8 (i:=3) A7.nd rfl (Or.inl rfl)));(refine j0 ?_ ?_ ?_;(exact (g8 (i:=4) A7.nd rfl (Or.inl rfl)));(exact A4);rfl);rfl);rfl;rfl)) (d6 (U5 PassesOwn.never rfl (ao4 rfl n_enumerate (b6 (pv 1) b7)) (show PG _ _ (R9 K 2 (v8 (v3 5) (v8 (v3 6) S8))) from by (refine C2 (n:=2) ?_ ?_ ?_ ?_;rfl;(refine j0 ?_ ?_ ?_;(exact (g8 (i:=5) A7.nd rfl (Or.inl rfl)));(refine j0 ?_ ?_ ?_;(exact (g8 (i:=6) A7.nd rfl (Or.inl rfl)));(exact A4);rfl);rfl);rfl;rfl)) (d6 (K8 (d7 G__law_plus hr (b6 (i6 t4 (pv 2) (d9 N7 (pv 3) (pv 5)) (fun _ _=>rfl)) (b6 (d7 G__law_times hr (b6 (pv 4) (b6 (pv 6) b7)) i0) b7)) i0) (aK1 (pv 2) (d9 N7 (pv 3) (pv 5)) aq1))))))
   (d6 (h9 (d7 G__law_trim hr (b6 (pv 2) b7) i0)))))),?_⟩
 rw [show start ["_law_p","_law_q","_law_found","_law_i","_law_one","_law_j","_law_other_here"] [.ref a,.ref b]=[some (.ref a),some (.ref b),none,none,none,none,none] from rfl]
 subst_eqs
 have tl0:V6 ([]:List Rat) 0:=⟨Nat.le_refl _,fun i q _ e=>by simp at e,fun h=>absurd rfl h⟩
 refine ⟨by decide,fun p hp=>?_⟩
 have S1:=d5.new hp (.lst [])
 refine ⟨N3 ps,N3 [],rfl,Q9 (S1.seq hS) (hN.mono S1.tups),Q9 (SqL.of b8) .nil,ag8 _ _,Nat.le_trans (ao8 _) (by decide),?_⟩
 rw [as4]
 refine ⟨_,rfl,v6 (fun h=>⟨by decide,fun r hr'=>?_⟩) (fun h=>?_)⟩
 ·have e:ae9 ps qs=[]:=by rw [ae9,if_pos (.inl (by simpa using h))]
  rw [e] at k
  exact k 0 r [] _ tl0 (S1.trans (d5.new hr' _)) (S1.free hr') b8 .nil
 have np:ps≠[]:=fun z=>h (by simp [z])
 refine ⟨by decide,fun p2 hp2=>?_⟩
 have S2:=S1.trans (d5.new hp2 (.lst []))
 refine ⟨N3 qs,N3 [],rfl,Q9 (S2.seq hS') (hN'.mono S2.tups),Q9 (SqL.of b8) .nil,ag8 _ _,Nat.le_trans (ao8 _) (by decide),?_⟩
 rw [as4]
 refine ⟨_,rfl,v6 (fun h=>⟨by decide,fun r hr'=>?_⟩) (fun h=>?_)⟩
 ·have e:ae9 ps qs=[]:=by rw [ae9,if_pos (.inr (by simpa using h))]
  rw [e] at k
  exact k 0 r [] _ tl0 (S2.trans (d5.new hr' _)) (S2.free hr') b8 .nil
 have nq:qs≠[]:=fun z=>h (by simp [z])
 have lx:=hN.length
 have ly:=hN'.length
 have lp:0<ps.length:=List.length_pos_iff.mpr np
 have lq:0<qs.length:=List.length_pos_iff.mpr nq
 refine ⟨v5,fun p3 hp3=>⟨ai4,fun p4 hp4=>?_⟩⟩
 have S3:=S2.trans (d5.new hp3 (.tup [.int 0,.int 1]))
 have S4:=S3.trans (d5.new hp4 (.lst [.ref p3]))
 refine ⟨_,.inl (S4.seq hS),_,.inl (S4.seq hS'),_,b8,by omega,by omega,?_,fun l hl0=>?_⟩
 ·simp only [List.length_cons,List.length_nil]
  exact Nat.le_trans (show _≤200 by omega) (by decide)
 have hz:(List.replicate ((xs.length:Int)+(ys.length:Int) - 1).toNat [V.ref p3]).flatten=List.replicate (ps.length+qs.length - 1) (V.ref p3):=by
  have e:((xs.length:Int)+(ys.length:Int) - 1).toNat=ps.length+qs.length - 1:=by omega
  rw [e,List.flatten_replicate_singleton]
 rw [hz]
 have S5:=S4.trans (d5.new hl0 (.lst (List.replicate (ps.length+qs.length - 1) (.ref p3))))
 have hlH:H l=none:=S4.free hl0
 have ez:(upd (upd (upd (upd (upd H p (.lst [])) p2 (.lst [])) p3 (.tup [.int 0,.int 1])) p4 (.lst [.ref p3])) l (.lst (List.replicate (ps.length+qs.length - 1) (.ref p3)))) p3=some (.tup (p9 0)):=d5.new hl0 _ _ _ (d5.new hp4 _ _ _ b8)
 refine ⟨_,rfl,a,rfl,⟨_,S5.seq hS⟩,aH5 xs (fun i σ H2=>∃ o3 o4 o5 o6,σ=[some (.ref a),some (.ref b),some (.ref l),o3,o4,o5,o6]∧d5 H H2∧∃ zs,H2 l=some (.lst zs)∧A1 H2 zs (F5 0 (List.replicate (ps.length+qs.length - 1) (0:Rat)) ps qs i))
  ⟨_,_,_,_,rfl,S5,_,b8,A1.rep ez _⟩ (by rintro i σ H2 ⟨_,_,_,_,_,s2,_⟩;exact s2.seq hS) ?_ ?_⟩
 ·rintro i x σ H2 r hx ⟨o3,o4,o5,o6,rfl,s2,zs,e2,n2⟩ hr'
  obtain ⟨px,q,rfl,hq,hpx⟩:=hN.getV hx
  have hi:=(List.getElem?_eq_some_iff.mp hq).1
  have sr:=d5.new hr' (.tup [.int i,.ref px])
  refine ⟨_,_,rfl,SqT.of b8,rfl,_,_,rfl,_,_,rfl,rfl,?_⟩
  refine ⟨_,rfl,b,rfl,⟨_,(s2.trans sr).seq hS'⟩,aH5 ys (fun j σ H4=>∃ o5 o6,σ=[some (.ref a),some (.ref b),some (.ref l),some (.int i),some (.ref px),o5,o6]∧d5 H H4∧∃ zs,H4 l=some (.lst zs)∧A1 H4 zs (F6 0 (F5 0 (List.replicate (ps.length+qs.length - 1) (0:Rat)) ps qs i) i q qs j))
   ⟨_,_,rfl,s2.trans sr,_,sr _ _ e2,n2.mono sr.tups⟩ (by rintro i σ H2 ⟨_,_,_,s2,_⟩;exact s2.seq hS') ?_ ?_⟩
  ·rintro j y σ H4 t hy ⟨o5,o6,rfl,s4,zs4,e4,n4⟩ ht
   obtain ⟨py,q',rfl,hq',hpy⟩:=hN'.getV hy
   have hj:=(List.getElem?_eq_some_iff.mp hq').1
   have st:=d5.new ht (.tup [.int j,.ref py])
   have e5:=st _ _ e4
   have hF:i+j<(F6 0 (F5 0 (List.replicate (ps.length+qs.length - 1) (0:Rat)) ps qs i) i q qs j).length:=by
    rw [aj3,ai9,List.length_replicate];omega
   have eg:=List.getElem?_eq_getElem hF
   obtain ⟨pv,hv,hpv⟩:=(n4.mono st.tups).get eg
   have ec:(i:Int)+(j:Int)=((i+j:Nat):Int):=by omega
   subst_eqs
   have sq:BtN D q:=⟨Nat.lt_of_lt_of_le (hs q (List.mem_of_getElem? hq)).1 (i3 (by decide)),(hs q (List.mem_of_getElem? hq)).2⟩
   have sq':BdN C q':=by
    have:=List.mem_of_getElem? hq'
    rw [hqs] at this
    rcases (by simpa using this:q'=c0∨q'=1) with z | z
    ·rw [z];exact hs'
    ·rw [z];exact ⟨Nat.lt_of_lt_of_le (show (1:Rat).num.natAbs<2 ^ 1 by decide) (i3 hC1),Nat.lt_of_lt_of_le (show (1:Rat).den<2 ^ 1 by decide) (i3 hC1)⟩
   have pqb:BtN (D+C) (q * q'):=by
    obtain ⟨n1,n2⟩:=bl3 q q'
    refine ⟨Nat.lt_of_le_of_lt n1 ?_,Nat.lt_of_le_of_lt n2 ?_⟩
    ·have:=Nat.mul_lt_mul'' (hs q (List.mem_of_getElem? hq)).1 sq'.n
     rw [←Nat.pow_add] at this
     exact Nat.lt_of_lt_of_le this (i3 (by omega))
    ·rw [Nat.pow_add];exact Nat.mul_lt_mul'' sq.d sq'.d
   have bold:BtN D ((F6 0 (F5 0 (List.replicate (ps.length+qs.length - 1) (0:Rat)) ps qs i) i q qs j)[i+j]):=by
    have key:∃ y,(F6 0 (F5 0 (List.replicate (ps.length+qs.length - 1) (0:Rat)) ps qs i) i q qs j)[i+j]? = some y∧BtN D y:=by
     have hj2:j=0∨j=1:=by omega
     rcases hj2 with z | z
     ·subst z
      rw [F6,hqs]
      refine ⟨_,aB7 ps c0 (by simp only [List.length_cons,List.length_nil];omega),?_⟩
      split
      ·exact BtN.zero hD1
      ·cases e:ps[i - 1]? with
       | none=>exact BtN.zero hD1
       | some u=>exact ⟨Nat.lt_of_lt_of_le (hs u (List.mem_of_getElem? e)).1 (i3 (by decide)),(hs u (List.mem_of_getElem? e)).2⟩
     ·subst z
      refine ⟨0,?_,BtN.zero hD1⟩
      rw [F6,aa9 _ _ _ _ (by omega),F6,hqs]
      exact au7 ps c0 (by simp only [List.length_cons,List.length_nil];omega) (by omega)
    obtain ⟨y,hy1,hy2⟩:=key
    rw [eg] at hy1
    cases hy1
    exact hy2
   refine ⟨_,SqT.of b8,rfl,_,_,rfl,_,_,rfl,rfl,_,rfl,_,SqL.of e5,_,(by rw [ec];exact C9 hv),?_⟩
   refine ⟨_,_,q,q',D,C,rfl,⟨px,rfl,SqT.of (st _ _ (s4 _ _ hpx))⟩,⟨py,rfl,SqT.of (st _ _ (s4 _ _ hpy))⟩,sq,sq'.t (by omega),by omega,fun r1 H5 s5 er1=>?_⟩
   refine ⟨_,_,_,_,D,D+C,rfl,⟨pv,rfl,SqT.of (s5 _ _ hpv)⟩,⟨r1,rfl,SqT.of er1⟩,bold,pqb,by omega,fun r2 H6 s6 er2=>?_⟩
   have e6:=s6 _ _ (s5 _ _ e5)
   have lz:zs4.length=(F6 0 (F5 0 (List.replicate (ps.length+qs.length - 1) (0:Rat)) ps qs i) i q qs j).length:=n4.length
   have n6:A1 H6 zs4 (F6 0 (F5 0 (List.replicate (ps.length+qs.length - 1) (0:Rat)) ps qs i) i q qs j):=((n4.mono st.tups).mono s5.tups).mono s6.tups
   have estep:F6 0 (F5 0 (List.replicate (ps.length+qs.length - 1) (0:Rat)) ps qs i) i q qs (j+1)=ab0 (F6 0 (F5 0 (List.replicate (ps.length+qs.length - 1) (0:Rat)) ps qs i) i q qs j) (i+j) (q * q'):=by
    rw [F6,hq'];rfl
   refine ⟨_,rfl,_,e6,i+j,?_,(s4.trans (st.trans (s5.trans s6))).over hlH _,_,b8,?_⟩
   ·rw [ec]
    unfold ixN
    rw [if_pos (by omega),if_pos (by rw [lz];omega)]
    rfl
   ·rw [estep,←ay8 _ _ _ _ eg]
    exact (n6.set (i+j) er2).mono (L8.lst e6)
  ·rintro σ H4 ⟨o5,o6,rfl,s4,zs4,e4,n4⟩
   refine ⟨_,_,_,_,rfl,s4,zs4,e4,?_⟩
   rw [ly] at n4
   rw [F5,hq];exact n4
 ·rintro σ H2 ⟨o3,o4,o5,o6,rfl,s2,zs,e2,n2⟩
  rw [lx] at n2
  have em:ae9 ps qs=F5 0 (List.replicate (ps.length+qs.length - 1) 0) ps qs ps.length:=by rw [ae9,if_neg (by simp [np,nq])]
  rw [←em] at n2
  refine ⟨_,rfl,l,zs,_,rfl,SqL.of e2,n2,fun m r H3 tl s3 hr' e3=>?_⟩
  exact k m r _ _ tl (s2.trans s3) (s2.free hr') e3 ((n2.take m).mono s3.tups)
end
def tyD:D→Value
 | .v .non=>.type "NoneType"
 | .v (.bl _)=>.type "bool"
 | .v (.int _)=>.type "int"
 | .v (.str _)=>.type "str"
 | .v _=>.type "object"
 | .tup _=>.type "tuple"
 | .lst _=>.type "list"
theorem _root_.L2.IsD.ty {K:PySem.W.Frag} {H:Hp} {v:V} {d:D} (h:IsD K H v d):TyX K H v (tyD d):=by
 cases h with
 | v f=>
  cases v with
  | non=>exact .of .non
  | bl b=>exact .of (.bl b)
  | int i=>exact .of (.int i)
  | str s=>exact .of (.str s)
  | _=>cases f
 | tup h t=>exact .sqt h
 | lst h t=>exact .sql h
def bm1:D→Bool
 | .tup _=>true
 | _=>false
def bm2:D→Bool
 | .lst _=>true
 | _=>false
def af3:D→Bool
 | .v (.int _)=>true
 | .v (.bl _)=>true
 | _=>false
def aZ6:D→Bool
 | .v (.bl _)=>true
 | _=>false
section
variable {K:PySem.W.Frag}
theorem Q8 {H:Hp} {v:V} {d:D} (h:IsD K H v d):PySem.W.kitOne K (tyD d) (.type "tuple")=some (bm1 d):=by
 cases h with
 | v f=>
  cases v with
  | non=>kernel_rfl
  | bl b=>kernel_rfl
  | int i=>kernel_rfl
  | str s=>kernel_rfl
  | _=>cases f
 | tup h t=>kernel_rfl
 | lst h t=>kernel_rfl
theorem ar7 {H:Hp} {v:V} {d:D} (h:IsD K H v d):PySem.W.kitOne K (tyD d) (.type "list")=some (bm2 d):=by
 cases h with
 | v f=>
  cases v with
  | non=>kernel_rfl
  | bl b=>kernel_rfl
  | int i=>kernel_rfl
  | str s=>kernel_rfl
  | _=>cases f
 | tup h t=>kernel_rfl
 | lst h t=>kernel_rfl
theorem ax2 {H:Hp} {v:V} {d:D} (h:IsD K H v d):PySem.W.kitOne K (tyD d) (.type "int")=some (af3 d):=by
 cases h with
 | v f=>
  cases v with
  | non=>kernel_rfl
  | bl b=>kernel_rfl
  | int i=>kernel_rfl
  | str s=>kernel_rfl
  | _=>cases f
 | tup h t=>kernel_rfl
 | lst h t=>kernel_rfl
theorem ar8 {H:Hp} {v:V} {d:D} (h:IsD K H v d):PySem.W.kitOne K (tyD d) (.type "bool")=some (aZ6 d):=by
 cases h with
 | v f=>
  cases v with
  | non=>kernel_rfl
  | bl b=>kernel_rfl
  | int i=>kernel_rfl
  | str s=>kernel_rfl
  | _=>cases f
 | tup h t=>kernel_rfl
 | lst h t=>kernel_rfl
end
def ad4:D→Bool
 | .v (.int _)=>true
 | _=>false
theorem X7 {d:D} (h:ad4 d=true):∃ i,d = .v (.int i):=by
 unfold ad4 at h
 split at h
 ·exact ⟨_,rfl⟩
 ·cases h
def O9:D→Bool
 | .tup [.v (.int t),.v (.int b)]=>decide (1≤b) && decide (Int.gcd t b=1)
 | _=>false
theorem ac0 {d:D} (h:O9 d=true):∃ q:Rat,d=x5 q:=by
 unfold O9 at h
 split at h
 ·rename_i t b
  simp only [Bool.and_eq_true,decide_eq_true_eq] at h
  obtain ⟨h1,h2⟩:=U6 (n:=t) (d:=b) (by omega) h.2
  exact ⟨Rat.divInt t b,by unfold x5;rw [h1,h2]⟩
 ·cases h
theorem ag9 (q:Rat):O9 (x5 q)=true:=by
 have:=t7 q
 have:=ab6 q
 simp only [x5,O9,Bool.and_eq_true,decide_eq_true_eq]
 omega
def bi3 (d:D):Prop:=∀ t b:Int,d = .tup [.v (.int t),.v (.int b)]→t.natAbs<2 ^ 6000∨b.natAbs<2 ^ 6000
end R
namespace L2
open PySem PyProof.Rows
mutual
theorem IsD.same {K:PySem.W.Frag} {H H':Hp} (s:d5 H H'):∀ {v:V} {d:D},IsD K H v d→IsD K H' v d
 | _,_,.v f=>.v f
 | _,_,.tup h t=>.tup (s.tup h) (t.same s)
 | _,_,.lst h t=>.lst (s.seq h) (t.same s)
theorem T9.same {K:PySem.W.Frag} {H H':Hp} (s:d5 H H'):∀ {vs:List V} {ds:List D},T9 K H vs ds→T9 K H' vs ds
 | _,_,.nil=>.nil
 | _,_,.cons h t=>.cons (h.same s) (t.same s)
end
theorem T9.get {K:PySem.W.Frag} {H:Hp}:∀ {vs:List V} {ds:List D} {i:Nat} {v:V},T9 K H vs ds→vs[i]? = some v→∃ d,ds[i]? = some d∧IsD K H v d
 | _,_,_,_,.nil,e=>by simp at e
 | _,_,0,_,.cons h _,e=>by cases e;exact ⟨_,rfl,h⟩
 | _,_,i+1,_,.cons _ t,e=>t.get (i:=i) (by simpa using e)
end L2
set_option maxRecDepth 100000
namespace R
open PySem L2 PyProof.Rows
mutual
def noU:D→Bool
 | .v _=>true
 | .tup ds=>bl0 ds
 | .lst ds=>(ds.length != 3) && bl0 ds
def bl0:List D→Bool
 | []=>true
 | d :: ds=>noU d && bl0 ds
end
end R
set_option maxRecDepth 100000
namespace L2
open PySem PyProof.Rows
end L2
namespace R
open PySem L2 PyProof.Rows
inductive Rws (H:Hp):List Addr→List (List Rat)→Prop where
 | nil:Rws H [] []
 | cons {p:Addr} {xs:List V} {ps:List Addr} {L:List Rat} {Ls:List (List Rat)} (h:H p=some (.lst xs)) (n:A1 H xs L) (t:Rws H ps Ls):Rws H (p :: ps) (L :: Ls)
theorem Rws.length {H:Hp}:∀ {ts:List Addr} {M:List (List Rat)},Rws H ts M→ts.length=M.length
 | _,_,.nil=>rfl
 | _,_,.cons _ _ t=>congrArg (· + 1) t.length
theorem Rws.same {H H':Hp} (s:d5 H H'):∀ {ts:List Addr} {M:List (List Rat)},Rws H ts M→Rws H' ts M
 | _,_,.nil=>.nil
 | _,_,.cons h n t=>.cons (s _ _ h) (n.mono s.tups) (t.same s)
theorem Rws.over {H:Hp} {l:Addr} {xs:List V} {o:HO} (hl:H l=some (.lst xs)):∀ {ts:List Addr} {M:List (List Rat)},l ∉ ts→Rws H ts M→Rws (upd H l o) ts M
 | _,_,_,.nil=>.nil
 | _,_,hn,.cons h n t=>.cons (by rw [j3 (fun z=>hn (by rw [←z];exact List.mem_cons_self))];exact h) (n.mono (L8.lst hl)) (t.over hl fun z=>hn (List.mem_cons_of_mem _ z))
theorem Rws.append {H:Hp}:∀ {ts us:List Addr} {M N:List (List Rat)},Rws H ts M→Rws H us N→Rws H (ts++us) (M++N)
 | _,_,_,_,.nil,h=>h
 | _,_,_,_,.cons h n t,k=>.cons h n (t.append k)
theorem Rws.get {H:Hp}:∀ {ts:List Addr} {M:List (List Rat)} {i:Nat} {p:Addr},Rws H ts M→ts[i]? = some p→∃ xs L,M[i]? = some L∧H p=some (.lst xs)∧A1 H xs L
 | _,_,_,_,.nil,e=>by simp at e
 | _,_,0,_,.cons h n _,e=>by cases e;exact ⟨_,_,rfl,h,n⟩
 | _,_,i+1,_,.cons _ _ t,e=>t.get (i:=i) (by simpa using e)
def aM5 (H:Hp) (Q:VK) (M:List (List Rat)):Prop:=∀ (r:Addr) (ts:List Addr) (H':Hp),d5 H H'→H r=none→(∀ t∈ts,H t=none∧t≠r)→ts.Nodup→H' r=some (.lst (ts.map V.ref))→Rws H' ts M→Q (.ref r) H'
structure T2 (H:Hp) (D:Addr) (M:List (List Rat)) (H2:Hp):Prop where
 same:d5 H H2
 at':∃ ts:List Addr,H2 D=some (.lst (ts.map V.ref))∧(∀ t∈ts,H t=none∧t≠D)∧ts.Nodup∧Rws H2 ts M
structure ad3 (H:Hp) (D:Addr) (L:List Rat) (H2:Hp):Prop where
 same:d5 H H2
 at':∃ xs:List V,H2 D=some (.lst xs)∧A1 H2 xs L
theorem T2.start {H:Hp} {D:Addr} (h:H D=none):T2 H D [] (upd H D (.lst [])):=⟨d5.new h _,[],b8,by simp,.nil,.nil⟩
theorem ad3.start {H:Hp} {D:Addr} (h:H D=none):ad3 H D [] (upd H D (.lst [])):=⟨d5.new h _,[],b8,.nil⟩
theorem T2.res {H H2:Hp} {D:Addr} {M:List (List Rat)} {Q:VK} (k:aM5 H Q M) (h:H D=none) (t:T2 H D M H2):Q (.ref D) H2:=
 let ⟨s,ts,e,hn,nd,r⟩:=t;k D ts H2 s h hn nd e r
theorem ad3.add {H H2 H3:Hp} {D p:Addr} {L:List Rat} {q:Rat} (t:ad3 H D L H2) (h:H D=none) (s:d5 H2 H3) (e:H3 p=some (.tup (p9 q))) :
  ∃ ys,H3 D=some (.lst ys)∧ys.length=L.length∧ad3 H D (L++[q]) (upd H3 D (.lst (ys++[.ref p]))):=by
 obtain ⟨s2,xs,e2,n2⟩:=t
 have eD:=s _ _ e2
 exact ⟨xs,eD,n2.length,(s2.trans s).over h _,_,b8,((n2.mono s.tups).append (.cons e .nil)).mono (L8.lst eD)⟩
theorem T2.add {H H2 H3:Hp} {D D2:Addr} {M:List (List Rat)} {L:List Rat} (t:T2 H D M H2) (h:H D=none) (h2:H2 D2=none) (r:ad3 H2 D2 L H3) :
  ∃ ys,H3 D=some (.lst ys)∧ys.length=M.length∧T2 H D (M++[L]) (upd H3 D (.lst (ys++[.ref D2]))):=by
 obtain ⟨s2,ts,e2,hn,nd,n2⟩:=t
 obtain ⟨s,xs,e3,n3⟩:=r
 have eD:=s _ _ e2
 have hD2:D2≠D:=(j4 e2 h2).symm
 have hnt:D2 ∉ ts:=fun z=>by
  obtain ⟨i,hi⟩:=List.mem_iff_getElem?.mp z
  obtain ⟨_,_,_,e,_⟩:=n2.get hi
  rw [h2] at e;cases e
 refine ⟨_,eD,by rw [List.length_map,n2.length],(s2.trans s).over h _,ts++[D2],by rw [b8,List.map_append];rfl,?_,?_,?_⟩
 ·intro t ht
  rcases List.mem_append.mp ht with z | z
  ·exact hn t z
  ·rw [List.mem_singleton.mp z]
   refine ⟨?_,hD2⟩
   cases q:H D2 with
   | none=>rfl
   | some o=>rw [s2 _ _ q] at h2;cases h2
 ·rw [List.nodup_append]
  refine ⟨nd,by simp,fun a ha b hb=>?_⟩
  rw [List.mem_singleton.mp hb]
  rintro rfl
  exact hnt ha
 ·refine ((n2.same s).append (.cons e3 n3 .nil)).over eD fun z=>?_
  rcases List.mem_append.mp z with z | z
  ·exact (hn D z).2 rfl
  ·exact hD2 (List.mem_singleton.mp z).symm
def NmC (K:PySem.W.Frag) (H:Hp) (p:Addr) (q:Rat):Prop:=H p=some (.tup (p9 q))∨∀ H',SqT K H' p (p9 q)
theorem NmC.sqt {K:PySem.W.Frag} {H:Hp} {p:Addr} {q:Rat}:NmC K H p q→SqT K H p (p9 q)
 | .inl h=>SqT.of h
 | .inr h=>h H
theorem NmC.mono {K:PySem.W.Frag} {H H':Hp} {p:Addr} {q:Rat} (e:L8 H H'):NmC K H p q→NmC K H' p q
 | .inl h=>.inl (e _ _ h)
 | .inr h=>.inr h
inductive O3 (K:PySem.W.Frag) (H:Hp):List V→List Rat→Prop where
 | nil:O3 K H [] []
 | cons {p:Addr} {q:Rat} {vs:List V} {qs:List Rat} (h:NmC K H p q) (t:O3 K H vs qs):O3 K H (.ref p :: vs) (q :: qs)
theorem O3.mono {K:PySem.W.Frag} {H H':Hp} (e:L8 H H'):∀ {vs:List V} {qs:List Rat},O3 K H vs qs→O3 K H' vs qs
 | _,_,.nil=>.nil
 | _,_,.cons h t=>.cons (h.mono e) (t.mono e)
theorem O3.length {K:PySem.W.Frag} {H:Hp}:∀ {vs:List V} {qs:List Rat},O3 K H vs qs→vs.length=qs.length
 | _,_,.nil=>rfl
 | _,_,.cons _ t=>congrArg (· + 1) t.length
theorem O3.getV {K:PySem.W.Frag} {H:Hp}:∀ {vs:List V} {qs:List Rat} {i:Nat} {v:V},O3 K H vs qs→vs[i]? = some v→∃ p q,v = .ref p∧qs[i]? = some q∧NmC K H p q
 | _,_,_,_,.nil,e=>by simp at e
 | _,_,0,_,.cons h t,e=>by cases e;exact ⟨_,_,rfl,rfl,h⟩
 | _,_,i+1,_,.cons _ t,e=>t.getV (i:=i) (by simpa using e)
theorem A1.toC {K:PySem.W.Frag} {H:Hp}:∀ {vs:List V} {qs:List Rat},A1 H vs qs→O3 K H vs qs
 | _,_,.nil=>.nil
 | _,_,.cons h t=>.cons (.inl h) t.toC
inductive bg4 (K:PySem.W.Frag) (H:Hp):List Addr→List (List Rat)→Prop where
 | nil:bg4 K H [] []
 | cons {p:Addr} {xs:List V} {ps:List Addr} {L:List Rat} {Ls:List (List Rat)} (h:H p=some (.lst xs)) (n:O3 K H xs L) (t:bg4 K H ps Ls):bg4 K H (p :: ps) (L :: Ls)
structure TabC (K:PySem.W.Frag) (H:Hp) (D:Addr) (M:List (List Rat)) (H2:Hp):Prop where
 same:d5 H H2
 at':∃ ts:List Addr,H2 D=some (.lst (ts.map V.ref))∧(∀ t∈ts,H t=none∧t≠D)∧ts.Nodup∧bg4 K H2 ts M
structure RowC (K:PySem.W.Frag) (H:Hp) (D:Addr) (L:List Rat) (H2:Hp):Prop where
 same:d5 H H2
 at':∃ xs:List V,H2 D=some (.lst xs)∧O3 K H2 xs L
theorem T2.to {H H2 H3:Hp} {D:Addr} {M:List (List Rat)} (t:T2 H D M H2) (s:d5 H2 H3):T2 H D M H3:=
 let ⟨s2,ts,e,hn,nd,r⟩:=t;⟨s2.trans s,ts,s _ _ e,hn,nd,r.same s⟩
theorem V8 {α:Type} {l:List α} {n:Nat} (h:l.length≤n):l.take n=l:=List.take_of_length_le h
theorem C1 {n:Nat} (h:n≤100):n<sizeLine:=Nat.lt_of_le_of_lt h (by decide)
def ClA (D:Addr) (H:Hp) (v:V) (p:List Rat):Prop:=∃ r l,v = .ref r∧H r=some (.tup [.ref l,.int (q8 p)])∧H l=some (.lst ((m8 (q8 p) p).map V.int))∧l≠D
inductive ClL (D:Addr) (H:Hp):List V→List (List Rat)→Prop where
 | nil:ClL D H [] []
 | cons {v:V} {p:List Rat} {vs:List V} {ps:List (List Rat)} (h:ClA D H v p) (t:ClL D H vs ps):ClL D H (v :: vs) (p :: ps)
structure ClR (H:Hp) (D:Addr) (M:List (List Rat)) (H2:Hp):Prop where
 same:d5 H H2
 at':∃ vs:List V,H2 D=some (.lst vs)∧ClL D H2 vs M
def ap4:List D→Bool
 | [.v (.int _),.v (.int _),.v (.int _)]=>true
 | _=>false
mutual
def noW:D→Bool
 | .v _=>true
 | .tup ds=>am4 ds
 | .lst ds=>!ap4 ds && am4 ds
def am4:List D→Bool
 | []=>true
 | d :: ds=>noW d && am4 ds
end
theorem aa2:∀ ds:List D,am4 ds=true↔∀ d∈ds,noW d=true
 | []=>by simp [am4]
 | d :: ds=>by rw [am4,Bool.and_eq_true,aa2 ds];simp
theorem ap3 {ds:List D} (h:∀ d∈ds,∀ i,d≠.v (.int i)):ap4 ds=false:=by
 unfold ap4
 split
 ·exact absurd rfl (h _ List.mem_cons_self _)
 ·rfl
mutual
def smD (m:Nat):D→Prop
 | .v (.int i)=>i.natAbs<2 ^ m
 | .v _=>True
 | .tup ds=>U1 m ds
 | .lst ds=>U1 m ds
def U1 (m:Nat):List D→Prop
 | []=>True
 | d :: ds=>smD m d∧U1 m ds
end
theorem Q3 {m:Nat}:∀ ds:List D,U1 m ds↔∀ d∈ds,smD m d
 | []=>by simp [U1]
 | d :: ds=>by rw [U1,Q3 ds];simp
theorem aF6 {d:D} (h:smD 6000 d):bi3 d:=by
 intro t b e
 subst e
 simp only [smD,U1] at h
 exact .inl h.1
theorem ab4 {m:Nat} {q:Rat} (h:BdN m q):smD m (x5 q):=by
 simp only [x5,smD,U1,and_true]
 exact ⟨h.n,by rw [Int.natAbs_natCast];exact h.d⟩
def R0 (p q:Rat):Bool:=decide (p.num * (q.den:Int)<q.num * (p.den:Int))
theorem O0 (p q:Rat):R0 p q=decide (p<q):=by
 unfold R0
 rw [decide_eq_decide]
 exact (Rat.lt_iff p q).symm
def aW5:D→Rat
 | .tup [.v (.int t),.v (.int b)]=>Rat.divInt t b
 | _=>0
theorem D7 (q:Rat):aW5 (x5 q)=q:=by simp only [x5,aW5];exact Rat.num_divInt_den q
def K9:D→Bool
 | .tup [l,h]=>O9 l && (O9 h && !R0 (aW5 h) (aW5 l))
 | _=>false
def aZ1:D→Rat
 | .tup [l,_]=>aW5 l
 | _=>0
def ac4:D→Bool
 | .lst ds=>decide (2≤ds.length) && (decide (ds.length≤8) && (ds.all K9 && match ds.getLast? with
  | some d=>R0 0 (aZ1 d)
  | none=>false))
 | _=>false
def u0 (s:Rat × Rat):D:=.tup [x5 s.1,x5 s.2]
def L5 (B:List (Rat × Rat)):D:=.lst (B.map u0)
structure R5 (B:List (Rat × Rat)):Prop where
 l2:2≤B.length
 l8:B.length≤8
 le:∀ s∈B,s.1≤s.2
 last:∀ s,B[B.length - 1]? = some s→0<s.1
theorem ap6 {d:D} (h:K9 d=true):∃ s:Rat × Rat,d=u0 s∧s.1≤s.2:=by
 unfold K9 at h
 split at h
 ·rename_i l r
  simp only [Bool.and_eq_true,Bool.not_eq_true'] at h
  obtain ⟨h1,h2,h3⟩:=h
  obtain ⟨p,rfl⟩:=ac0 h1
  obtain ⟨q,rfl⟩:=ac0 h2
  refine ⟨(p,q),rfl,?_⟩
  rw [D7,D7,O0,decide_eq_false_iff_not] at h3
  exact Rat.not_lt.mp h3
 ·cases h
theorem aJ3 {s:Rat × Rat} (h:s.1≤s.2):K9 (u0 s)=true:=by
 simp only [u0,K9,ag9,Bool.true_and,Bool.not_eq_true',D7,O0,decide_eq_false_iff_not]
 exact Rat.not_lt.mpr h
theorem aP4 {d:D} (h:ac4 d=true):∃ B,d=L5 B∧R5 B:=by
 unfold ac4 at h
 split at h
 ·rename_i ds
  simp only [Bool.and_eq_true,decide_eq_true_eq,List.all_eq_true] at h
  obtain ⟨h1,h2,h3,h4⟩:=h
  have ex:∀ ds:List D,(∀ d∈ds,K9 d=true)→∃ B:List (Rat × Rat),ds=B.map u0∧∀ s∈B,s.1≤s.2:=by
   intro ds
   induction ds with
   | nil=>intro _;exact ⟨[],rfl,by simp⟩
   | cons d ds ih=>
    intro h
    obtain ⟨B,e,hB⟩:=ih fun d' hd'=>h d' (List.mem_cons_of_mem _ hd')
    obtain ⟨s,e1,hs⟩:=ap6 (h d List.mem_cons_self)
    refine ⟨s :: B,by rw [e1,e];rfl,fun t ht=>?_⟩
    rcases List.mem_cons.mp ht with z | z
    ·rw [z];exact hs
    ·exact hB t z
  obtain ⟨B,rfl,hB⟩:=ex ds h3
  refine ⟨B,rfl,?_⟩
  rw [List.length_map] at h1 h2
  refine ⟨h1,h2,hB,fun s hs=>?_⟩
  rw [List.getLast?_eq_getElem?,List.length_map,List.getElem?_map,hs] at h4
  simp only [Option.map_some,u0,aZ1,D7,O0,decide_eq_true_eq] at h4
  exact h4
 ·cases h
theorem at5 {B:List (Rat × Rat)} (h:R5 B):ac4 (L5 B)=true:=by
 simp only [L5,ac4,Bool.and_eq_true,decide_eq_true_eq,List.all_eq_true,List.length_map]
 refine ⟨h.l2,h.l8,fun d hd=>?_,?_⟩
 ·obtain ⟨s,hs,rfl⟩:=List.mem_map.mp hd
  exact aJ3 (h.le s hs)
 ·have hl:B.length - 1<B.length:=by have:=h.l2;omega
  have e:=List.getElem?_eq_getElem hl
  rw [List.getLast?_eq_getElem?,List.length_map,List.getElem?_map,e]
  simp only [Option.map_some,u0,aZ1,D7,O0,decide_eq_true_eq]
  exact h.last _ e
def zs (t b a:Int):List Int→List Int
 | []=>[b * a]
 | x :: r=>(b * a+t * x) :: zs t b x r
structure MidN (n:Nat) (R:List Rat):Prop where
 ex:∃ (B:Nat) (ws:List Int),0<B∧B<2 ^ (40 * n+1)∧R=scl (Rat.divInt 1 B) ws∧∀ v∈ws,Int.natAbs v<2 ^ (41 * n+1)
 len:R.length=n+1
 last:R[n]? = some 1
theorem BdN.neg {m:Nat} {q:Rat} (b:BdN m q):BdN m (-q):=⟨by rw [Rat.neg_num,Int.natAbs_neg];exact b.n,by rw [Rat.neg_den];exact b.d⟩
theorem BdN.sub {m n:Nat} {p q:Rat} (a:BdN m p) (b:BdN n q):BdN (m+n+1) (p - q):=by
 rw [Rat.sub_eq_add_neg];exact a.add b.neg
theorem aP2 (xs:List V):af5 xs none (some (-1))=xs.take (xs.length - 1):=by
 unfold af5
 have e1:HT.sIx xs.length 0 none=0:=by simp [HT.sIx]
 have e2:HT.sIx xs.length xs.length (some (-1))=xs.length - 1:=by
  simp only [HT.sIx]
  split <;> omega
 rw [e1,e2,List.drop_zero,Nat.sub_zero]
inductive x8 (H:Hp):List V→List (Rat × Rat)→Prop where
 | nil:x8 H [] []
 | cons {p a b:Addr} {s:Rat × Rat} {vs:List V} {B:List (Rat × Rat)} (h:H p=some (.tup [.ref a,.ref b])) (ha:H a=some (.tup (p9 s.1))) (hb:H b=some (.tup (p9 s.2))) (t:x8 H vs B):x8 H (.ref p :: vs) (s :: B)
theorem x8.mono {H H':Hp} (e:L8 H H'):∀ {vs:List V} {B:List (Rat × Rat)},x8 H vs B→x8 H' vs B
 | _,_,.nil=>.nil
 | _,_,.cons h ha hb t=>.cons (e _ _ h) (e _ _ ha) (e _ _ hb) (t.mono e)
theorem x8.length {H:Hp}:∀ {vs:List V} {B:List (Rat × Rat)},x8 H vs B→vs.length=B.length
 | _,_,.nil=>rfl
 | _,_,.cons _ _ _ t=>congrArg (· + 1) t.length
theorem x8.append {H:Hp}:∀ {vs ws:List V} {B C:List (Rat × Rat)},x8 H vs B→x8 H ws C→x8 H (vs++ws) (B++C)
 | _,_,_,_,.nil,k=>k
 | _,_,_,_,.cons h ha hb t,k=>.cons h ha hb (t.append k)
theorem x8.take {H:Hp}:∀ {vs:List V} {B:List (Rat × Rat)} (m:Nat),x8 H vs B→x8 H (vs.take m) (B.take m)
 | _,_,_,.nil=>by simp;exact .nil
 | _,_,0,.cons _ _ _ _=>.nil
 | _,_,m+1,.cons h ha hb t=>.cons h ha hb (t.take m)
theorem x8.get {H:Hp}:∀ {vs:List V} {B:List (Rat × Rat)} {i:Nat} {v:V},x8 H vs B→vs[i]? = some v→∃ p a b s,v = .ref p∧B[i]? = some s∧H p=some (.tup [.ref a,.ref b])∧H a=some (.tup (p9 s.1))∧H b=some (.tup (p9 s.2))
 | _,_,_,_,.nil,e=>by simp at e
 | _,_,0,_,.cons h ha hb _,e=>by cases e;exact ⟨_,_,_,_,rfl,rfl,h,ha,hb⟩
 | _,_,i+1,_,.cons _ _ _ t,e=>t.get (i:=i) (by simpa using e)
theorem x8.isDs {K:PySem.W.Frag} {H:Hp}:∀ {vs:List V} {B:List (Rat × Rat)},x8 H vs B→T9 K H vs (B.map u0)
 | _,_,.nil=>.nil
 | _,_,.cons h ha hb t=>.cons (.tup (SqT.of h) (.cons (P8 (SqT.of ha)) (.cons (P8 (SqT.of hb)) .nil))) t.isDs
theorem x8.isD {K:PySem.W.Frag} {H:Hp} {a:Addr} {vs:List V} {B:List (Rat × Rat)} (h:x8 H vs B) (e:H a=some (.lst vs)):IsD K H (.ref a) (L5 B):=.lst (SqL.of e) h.isDs
theorem aO1 (q:Rat):noW (x5 q)=true:=by simp [x5,noW,am4]
theorem aH0 (s:Rat × Rat):noW (u0 s)=true:=by simp [u0,noW,am4,aO1]
theorem be9 (B:List (Rat × Rat)):noW (L5 B)=true:=by
 simp only [L5,noW,Bool.and_eq_true,Bool.not_eq_true']
 refine ⟨ap3 fun d hd i z=>?_,(aa2 _).mpr fun d hd=>?_⟩
 ·obtain ⟨s,_,rfl⟩:=List.mem_map.mp hd
  cases z
 ·obtain ⟨s,_,rfl⟩:=List.mem_map.mp hd
  exact aH0 s
theorem aF5 {m:Nat} {B:List (Rat × Rat)} (h:∀ s∈B,BdN m s.1∧BdN m s.2):smD m (L5 B):=by
 simp only [L5,smD]
 refine (Q3 _).mpr fun d hd=>?_
 obtain ⟨s,hs,rfl⟩:=List.mem_map.mp hd
 simp only [u0,smD,U1,and_true]
 exact ⟨ab4 (h s hs).1,ab4 (h s hs).2⟩
section
variable {P:Program} {w:World} {K:PySem.W.Frag} {mg:Str→Option Value} {base:Heap}
def ae0:Sp:=fun vs H Q _=>∃ a b:Int,vs=[.int a,.int b]∧(a.natAbs<2 ^ 6000∨b.natAbs<2 ^ 6000)∧Q (.int (Int.gcd a b)) H
abbrev A8:Stmt:=top 25
theorem V1:i9 ["one","other"] ["one","other"] (d3 A8):=by and_intros
theorem ag6 {f:Addr} (d:Df K mg "common_divisor" A8 ["one","other"] f) (c_SHORT:∃ t,mg "SHORT" = some (.int 6000 t)) (n_abs:mg "abs" = none):Def P w K mg base CX0 1 "common_divisor" f ["one","other"] ae0:=by
 obtain ⟨tS,c_SHORT⟩:=c_SHORT
 refine d.ok (N:=["one","other"]) V1 (fun vs H Q E ⟨a,b,h,_⟩=>by rw [h];rfl) (fun cdv A outer s H vs Q E hr h=>?_)
 obtain ⟨a,b,rfl,hab,q⟩:=h
 refine ⟨_,(d4 (A5 (PW.pt (aJ8 (p6 ag5 (aK2 PySem.F.plainAttrs_int PySem.F.slot_int_bit_length PySem.F.type_int_bit_length ax1 (pv 1)) (z9 (v:=.int 6000) rfl c_SHORT ⟨_,rfl⟩) (o0 _)) (aB1 (p6 ag5 (aK2 PySem.F.plainAttrs_int PySem.F.slot_int_bit_length PySem.F.type_int_bit_length ax1 (pv 0)) (z9 (v:=.int 6000) rfl c_SHORT ⟨_,rfl⟩) (o0 _))))) (d6 aX4) p8)
   (d4 (Z9 PassesOwn.never (aq5 (pv 1) (fun _=>rfl)) (d6 (aa0 (i:=0) (j:=1) rfl V1.nd rfl rfl (by decide) rfl rfl (b6 (pv 1) (b6 (d9 P6 (pv 0) (pv 1)) b7)) rfl)))
   (d6 (h9 (d8 W9 rfl n_abs (by decide +kernel) (b6 (pv 0) b7)))))),?_⟩
 rw [show start ["one","other"] [.int a,.int b]=[some (.int a),some (.int b)] from rfl]
 have hno : ¬ ((6000:Int)<Builtin.Int.intBits b∧(6000:Int)<Builtin.Int.intBits a):=by
  rintro ⟨h1,h2⟩
  rcases hab with z | z
  ·have:=P1 z;omega
  ·have:=P1 z;omega
 have main:∀ {D:ab2} ,(∀ x:Int,∀ y:Int,y=0→Int.gcd x y=Int.gcd a b→D.nx [some (.int x),some (.int y)] H)→ad7 (fun σ H_1 Q=>az3 1 σ H_1 fun x H'=>∃ k,aI4 K x H' k∧Q k H')
   (bc6 0 1 (n9 (az3 1) (n9 (tOp (rI (fun x j=>j≠0) fun i j=>V.int (i.fmod j)) (az3 0) (az3 1)) V9))) D [some (.int a),some (.int b)] H:=by
  intro D hD
  refine aE4 (fun σ H1=>H1=H∧∃ x y:Int,σ=[some (.int x),some (.int y)]∧Int.gcd x y=Int.gcd a b) (fun σ _=>match σ with | [_,some (.int y)]=>y.natAbs | _=>0) ⟨rfl,a,b,rfl,rfl⟩ ?_ ?_
  ·rintro σ H1 ⟨rfl,x,y,rfl,hg⟩
   simp! [aI4]
   split
   ·rename_i hy
    have hy':y≠0:=by simpa using hy
    exact ⟨hy',by rw [aH4];exact hg,aa3 x hy'⟩
   ·rename_i hy
    have hy':y=0:=by simpa using hy
    exact hD x y hy' hg
  ·intro σ H1 Q Q' hQ h
   obtain ⟨v,e1,k,e2,e3⟩:=h
   exact ⟨v,e1,k,e2,hQ _ _ e3⟩
 have fin:∀ x y:Int,y=0→Int.gcd x y=Int.gcd a b→Q (.int (if x<0 then -x else x)) H:=fun x y hy hg=>by
  subst hy
  have e:(if x<0 then -x else x)=(Int.gcd a b:Int):=by
   rw [←hg,Int.gcd_zero_right]
   split <;> omega
  rw [e];exact q
 have nxt:∀ x y:Int,y=0→Int.gcd x y=Int.gcd a b→(bc5 (tCB (fun xs H Q=>∃ i,xs=[V.int i]∧Q (V.int (if i<0 then -i else i)) H) (n9 (az3 0) V9)) { nx:=fun x H'=>Q V.non H',rt:=Q }) [some (.int x),some (.int y)] H:=fun x y hy hg=>by
  subst_eqs
  exact fin x y hy hg
 subst_eqs
 split
 ·split
  ·exact hno ⟨‹_›,‹_›⟩
  ·exact main nxt
 ·exact main nxt
def af9 (K:PySem.W.Frag) (op:Rat→Rat→Rat):Sp:=fun vs H Q _=>∃ (x y:V) (p q:Rat),vs=[x,y]∧Num K H x p∧Num K H y q∧Bd6 p∧Bd6 q∧at9 H Q (op p q)
abbrev ae2:Stmt:=top 28
theorem T5:i9 ["one","other","shared","rest","top","again","one_top","one_bottom","other_top","other_bottom"] ["one","other"] (d3 ae2):=by and_intros
theorem be3 {f fc:Addr} (d:Df K mg "plus" ae2 ["one","other"] f) (G_common_divisor:Def P w K mg base CX0 1 "common_divisor" fc ["one","other"] ae0):Def P w K mg base CX0 2 "plus" f ["one","other"] (af9 K (· + ·)):=by
 refine d.ok (N:=["one","other","shared","rest","top","again","one_top","one_bottom","other_top","other_bottom"]) T5 (fun vs H Q E ⟨x,y,p,q,h,_⟩=>by rw [h];rfl) (fun cdv A outer s H vs Q E hr h=>?_)
 obtain ⟨x,y,p,q,rfl,⟨ap,rfl,hp⟩,⟨aq,rfl,hq⟩,bp,bq,k⟩:=h
 refine ⟨_,(d4 (K8 (pv 0) (show PG _ _ (R9 K 2 (v8 (v3 6) (v8 (v3 7) S8))) from by (refine C2 (n:=2) ?_ ?_ ?_ ?_;rfl;(refine j0 ?_ ?_ ?_;(exact (g8 (i:=6) T5.nd rfl (Or.inl rfl)));(refine j0 ?_ ?_ ?_;(exact (g8 (i:=7) T5.nd rfl (Or.inl rfl)));(exact A4);rfl);rfl);rfl;rfl)))
   (d4 (K8 (pv 1) (show PG _ _ (R9 K 2 (v8 (v3 8) (v8 (v3 9) S8))) from by (refine C2 (n:=2) ?_ ?_ ?_ ?_;rfl;(refine j0 ?_ ?_ ?_;(exact (g8 (i:=8) T5.nd rfl (Or.inl rfl)));(refine j0 ?_ ?_ ?_;(exact (g8 (i:=9) T5.nd rfl (Or.inl rfl)));(exact A4);rfl);rfl);rfl;rfl)))
   (d4 (j8 (i:=2) T5.nd rfl (Or.inl rfl) (d7 G_common_divisor hr (b6 (pv 7) (b6 (pv 9) b7)) i0))
   (d4 (j8 (i:=3) T5.nd rfl (Or.inl rfl) (d9 B4 (pv 7) (pv 2)))
   (d4 (j8 (i:=4) T5.nd rfl (Or.inl rfl) (d9 N7 (d9 t9 (pv 6) (d9 B4 (pv 9) (pv 2))) (d9 t9 (pv 8) (pv 3))))
   (d4 (j8 (i:=5) T5.nd rfl (Or.inl rfl) (d7 G_common_divisor hr (b6 (pv 4) (b6 (pv 2) b7)) i0))
   (d6 (h9 (m6 (b6 (d9 B4 (pv 4) (pv 5)) (b6 (d9 t9 (pv 3) (d9 B4 (pv 9) (pv 5))) b7))))))))))),?_⟩
 rw [show start ["one","other","shared","rest","top","again","one_top","one_bottom","other_top","other_bottom"] [.ref ap,.ref aq]=[some (.ref ap),some (.ref aq),none,none,none,none,none,none,none,none] from rfl]
 simp! [ae0]
 refine ⟨_,hp,rfl,?_⟩
 simp! [p9,ae0]
 refine ⟨_,hq,rfl,?_⟩
 simp! [p9,ae0]
 have dp:=t7 p
 have dq:=t7 q
 have gp:=G3 (t:=(p.den:Int)) (b:=(q.den:Int)) (by omega)
 have bdp:((p.den:Int)).natAbs<2 ^ 6000:=by rw [Int.natAbs_natCast];exact bp.d
 have bdq:((q.den:Int)).natAbs<2 ^ 6000:=by rw [Int.natAbs_natCast];exact bq.d
 have gl:(((Int.gcd p.den q.den:Nat):Int)).natAbs<2 ^ 6000:=aj4 (by omega) bdq
 have gd1:((Int.gcd p.den q.den:Nat):Int) ∣ p.den:=Int.gcd_dvd_left _ _
 have gd2:((Int.gcd p.den q.den:Nat):Int) ∣ q.den:=Int.gcd_dvd_right _ _
 have f1:=P9 (by omega) gd1
 have f2:=P9 (by omega) gd2
 have dv1:∀ i,ah8 i ((Int.gcd p.den q.den:Nat):Int):=fun i=>W7 (by omega) (D8 gl)
 have R:=bd9 (a:=p.num) (b:=p.den) (c:=q.num) (d:=q.den) dp dq (ab6 p) (ab6 q) rfl rfl rfl
 obtain ⟨t,ht⟩:∃ t,t=p.num * (q.den:Int).fdiv ((Int.gcd p.den q.den:Nat):Int)+q.num * (p.den:Int).fdiv ((Int.gcd p.den q.den:Nat):Int):=⟨_,rfl⟩
 rw [←ht] at R ⊢
 have hp0:=G3 (t:=t) (b:=((Int.gcd p.den q.den:Nat):Int)) (by omega)
 have hl:=aj4 (a:=t) (b:=((Int.gcd p.den q.den:Nat):Int)) (by omega) gl
 have dv2:∀ i,ah8 i ((Int.gcd t ((Int.gcd p.den q.den:Nat):Int):Nat):Int):=fun i=>W7 (by omega) (D8 hl)
 have hd2:((Int.gcd t ((Int.gcd p.den q.den:Nat):Int):Nat):Int) ∣ q.den:=Int.dvd_trans (Int.gcd_dvd_right _ _) gd2
 have f3:=P9 (by omega) hd2
 have m1:IntMulOk p.num ((q.den:Int).fdiv ((Int.gcd p.den q.den:Nat):Int)):=K1 bp.n (Nat.lt_of_le_of_lt f2 bdq)
 have m2:IntMulOk q.num ((p.den:Int).fdiv ((Int.gcd p.den q.den:Nat):Int)):=K1 bq.n (Nat.lt_of_le_of_lt f1 bdp)
 have m3:IntMulOk ((p.den:Int).fdiv ((Int.gcd p.den q.den:Nat):Int)) ((q.den:Int).fdiv ((Int.gcd t ((Int.gcd p.den q.den:Nat):Int):Nat):Int)):=K1 (Nat.lt_of_le_of_lt f1 bdp) (Nat.lt_of_le_of_lt f3 bdq)
 refine ⟨.inl (D8 bdp),dv1 _,dv1 _,m1,m2,.inr (D8 gl),dv2 _,dv2 _,m3,v5,fun r hr'=>?_⟩
 obtain ⟨e1,e2⟩:=T6 R.1 R.2.1 (show (p.den:Int) * q.den≠0 from Int.ne_of_gt (Int.mul_pos dp dq)) R.2.2
 rw [←af6] at e1 e2
 exact k r _ (d5.new hr' _) (by rw [b8];unfold p9;rw [e1,e2])
abbrev ae3:Stmt:=top 29
theorem aA2:i9 ["one","other","top","bottom"] ["one","other"] (d3 ae3):=by and_intros
theorem be4 {f fp:Addr} (d:Df K mg "less" ae3 ["one","other"] f) (G_plus:Def P w K mg base CX0 2 "plus" fp ["one","other"] (af9 K (· + ·))):Def P w K mg base CX0 3 "less" f ["one","other"] (af9 K (· - ·)):=by
 refine d.ok (N:=["one","other","top","bottom"]) aA2 (fun vs H Q E ⟨x,y,p,q,h,_⟩=>by rw [h];rfl) (fun cdv A outer s H vs Q E hr h=>?_)
 obtain ⟨x,y,p,q,rfl,⟨ap,rfl,hp⟩,⟨aq,rfl,hq⟩,bp,bq,k⟩:=h
 refine ⟨_,(d4 (K8 (pv 1) (show PG _ _ (R9 K 2 (v8 (v3 2) (v8 (v3 3) S8))) from by (refine C2 (n:=2) ?_ ?_ ?_ ?_;rfl;(refine j0 ?_ ?_ ?_;(exact (g8 (i:=2) aA2.nd rfl (Or.inl rfl)));(refine j0 ?_ ?_ ?_;(exact (g8 (i:=3) aA2.nd rfl (Or.inl rfl)));(exact A4);rfl);rfl);rfl;rfl)))
   (d6 (h9 (d7 G_plus hr (b6 (pv 0) (b6 (m6 (b6 (N5 E5 (pv 2)) (b6 (pv 3) b7))) b7)) i0)))),?_⟩
 rw [show start ["one","other","top","bottom"] [.ref ap,.ref aq]=[some (.ref ap),some (.ref aq),none,none] from rfl]
 subst_eqs
 refine ⟨_,hq,rfl,?_⟩
 simp! [p9]
 refine ⟨v5,fun r hr'=>?_⟩
 refine ⟨.ref ap,.ref r,p,-q,rfl,⟨ap,rfl,(d5.new hr' _).tup hp⟩,⟨r,rfl,SqT.of (by rw [b8];rfl)⟩,bp,⟨by rw [Rat.neg_num,Int.natAbs_neg];exact bq.n,bq.d⟩,fun r2 H2 s2 h2=>?_⟩
 have e:p + -q=p - q:=by grind
 have h3:H2 r2=some (.tup (p9 (p - q))):=by rw [←e];exact h2
 exact k r2 H2 ((d5.new hr' _).trans s2) h3
abbrev Y5:Stmt:=top 30
theorem Q4:i9 ["one","other","first","second","top","one_top","one_bottom","other_top","other_bottom"] ["one","other"] (d3 Y5):=by and_intros
theorem aX9 {f fc:Addr} (d:Df K mg "times" Y5 ["one","other"] f) (G_common_divisor:Def P w K mg base CX0 1 "common_divisor" fc ["one","other"] ae0):Def P w K mg base CX0 2 "times" f ["one","other"] (af9 K (· * ·)):=by
 refine d.ok (N:=["one","other","first","second","top","one_top","one_bottom","other_top","other_bottom"]) Q4 (fun vs H Q E ⟨x,y,p,q,h,_⟩=>by rw [h];rfl) (fun cdv A outer s H vs Q E hr h=>?_)
 obtain ⟨x,y,p,q,rfl,⟨ap,rfl,hp⟩,⟨aq,rfl,hq⟩,bp,bq,k⟩:=h
 refine ⟨_,(d4 (K8 (pv 0) (show PG _ _ (R9 K 2 (v8 (v3 5) (v8 (v3 6) S8))) from by (refine C2 (n:=2) ?_ ?_ ?_ ?_;rfl;(refine j0 ?_ ?_ ?_;(exact (g8 (i:=5) Q4.nd rfl (Or.inl rfl)));(refine j0 ?_ ?_ ?_;(exact (g8 (i:=6) Q4.nd rfl (Or.inl rfl)));(exact A4);rfl);rfl);rfl;rfl)))
   (d4 (K8 (pv 1) (show PG _ _ (R9 K 2 (v8 (v3 7) (v8 (v3 8) S8))) from by (refine C2 (n:=2) ?_ ?_ ?_ ?_;rfl;(refine j0 ?_ ?_ ?_;(exact (g8 (i:=7) Q4.nd rfl (Or.inl rfl)));(refine j0 ?_ ?_ ?_;(exact (g8 (i:=8) Q4.nd rfl (Or.inl rfl)));(exact A4);rfl);rfl);rfl;rfl)))
   (d4 (j8 (i:=2) Q4.nd rfl (Or.inl rfl) (d7 G_common_divisor hr (b6 (pv 5) (b6 (pv 8) b7)) i0))
   (d4 (j8 (i:=3) Q4.nd rfl (Or.inl rfl) (d7 G_common_divisor hr (b6 (pv 7) (b6 (pv 6) b7)) i0))
   (d4 (j8 (i:=4) Q4.nd rfl (Or.inl rfl) (d9 t9 (d9 B4 (pv 5) (pv 2)) (d9 B4 (pv 7) (pv 3))))
   (d6 (h9 (m6 (b6 (pv 4) (b6 (d9 t9 (d9 B4 (pv 6) (pv 3)) (d9 B4 (pv 8) (pv 2))) b7)))))))))),?_⟩
 rw [show start ["one","other","first","second","top","one_top","one_bottom","other_top","other_bottom"] [.ref ap,.ref aq]=[some (.ref ap),some (.ref aq),none,none,none,none,none,none,none] from rfl]
 simp! [ae0]
 refine ⟨_,hp,rfl,?_⟩
 simp! [p9,ae0]
 refine ⟨_,hq,rfl,?_⟩
 simp! [p9,ae0]
 have dp:=t7 p
 have dq:=t7 q
 have bdp:((p.den:Int)).natAbs<2 ^ 6000:=by rw [Int.natAbs_natCast];exact bp.d
 have bdq:((q.den:Int)).natAbs<2 ^ 6000:=by rw [Int.natAbs_natCast];exact bq.d
 have p1:=G3 (t:=p.num) (b:=(q.den:Int)) (by omega)
 have p2:=G3 (t:=q.num) (b:=(p.den:Int)) (by omega)
 have l1:((Int.gcd p.num q.den:Nat):Int).natAbs<2 ^ 6000:=aj4 (by omega) bdq
 have l2:((Int.gcd q.num p.den:Nat):Int).natAbs<2 ^ 6000:=aj4 (by omega) bdp
 have v1:∀ i,ah8 i ((Int.gcd p.num q.den:Nat):Int):=fun i=>W7 (by omega) (D8 l1)
 have v2:∀ i,ah8 i ((Int.gcd q.num p.den:Nat):Int):=fun i=>W7 (by omega) (D8 l2)
 have f1:=P9 (a:=p.num) (g:=((Int.gcd p.num q.den:Nat):Int)) (by omega) (Int.gcd_dvd_left _ _)
 have f2:=P9 (a:=q.num) (g:=((Int.gcd q.num p.den:Nat):Int)) (by omega) (Int.gcd_dvd_left _ _)
 have f3:=P9 (a:=p.den) (g:=((Int.gcd q.num p.den:Nat):Int)) (by omega) (Int.gcd_dvd_right _ _)
 have f4:=P9 (a:=q.den) (g:=((Int.gcd p.num q.den:Nat):Int)) (by omega) (Int.gcd_dvd_right _ _)
 have R:=aU7 (a:=p.num) (b:=p.den) (c:=q.num) (d:=q.den) dp dq (ab6 p) (ab6 q) rfl rfl
 refine ⟨.inr (D8 bdq),.inr (D8 bdp),v1 _,v2 _,K1 (Nat.lt_of_le_of_lt f1 bp.n) (Nat.lt_of_le_of_lt f2 bq.n),v2 _,v1 _,K1 (Nat.lt_of_le_of_lt f3 bdp) (Nat.lt_of_le_of_lt f4 bdq),v5,fun r hr'=>?_⟩
 obtain ⟨e1,e2⟩:=T6 R.1 R.2.1 (show (p.den:Int) * q.den≠0 from Int.ne_of_gt (Int.mul_pos dp dq)) R.2.2
 rw [←Y8] at e1 e2
 exact k r _ (d5.new hr' _) (by rw [b8];unfold p9;rw [e1,e2])
end
section
variable {P:Program} {w:World} {K:PySem.W.Frag} {mg:Str→Option Value} {base:Heap}
def W0 (K:PySem.W.Frag):Sp:=fun vs H Q _=>∃ v d,vs=[v]∧IsD K H v d∧Q (.bl (ad4 d)) H
abbrev M2:Stmt:=top 26
theorem aF7:i9 ["thing"] ["thing"] (d3 M2):=by and_intros
theorem aG5 {f:Addr} (d:Df K mg "is_whole" M2 ["thing"] f) (n_isinstance:mg "isinstance" = none) (n_int:mg "int" = none) (n_bool:mg "bool" = none):Def P w K mg base CX0 1 "is_whole" f ["thing"] (W0 K):=by
 refine d.ok (N:=["thing"]) aF7 (by rintro vs H Q E ⟨a,b,h,_⟩;rw [h];rfl) (fun cdv A outer s H vs Q E hr h=>?_)
 obtain ⟨v,dd,rfl,hd,k⟩:=h
 refine ⟨_,(d6 (h9 (ae6 (d8 j5 rfl n_isinstance (by decide +kernel) (b6 (pv 0) (b6 (M1 (v:=.ty "int") rfl n_int (by decide +kernel) rfl) b7))) (ae5 (aq8 (d8 j5 rfl n_isinstance (by decide +kernel) (b6 (pv 0) (b6 (M1 (v:=.ty "bool") rfl n_bool (by decide +kernel) rfl) b7)))))))),?_⟩
 rw [show start ["thing"] [v]=[some (v)] from rfl]
 subst_eqs
 refine ⟨trivial,_,hd.ty,_,ax2 hd,v6 (fun h=>⟨trivial,_,hd.ty,_,ar8 hd,?_⟩) (fun h=>?_)⟩
 ·have e:(!aZ6 dd)=ad4 dd:=by
   cases dd with
   | v x=>cases x <;> first | rfl | (exact absurd h (by simp [af3]))
   | tup l=>exact absurd h (by simp [af3])
   | lst l=>exact absurd h (by simp [af3])
  rw [e];exact k
 ·have e:ad4 dd=false:=by
   cases dd with
   | v x=>cases x <;> first | rfl | (exact absurd rfl h)
   | tup l=>rfl
   | lst l=>rfl
  rw [e] at k;exact k
def aF0 (K:PySem.W.Frag):Sp:=fun vs H Q _=>∃ v d,vs=[v]∧IsD K H v d∧bi3 d∧Q (.bl (O9 d)) H
abbrev G5:Stmt:=top 27
theorem Y2:i9 ["thing","top","bottom"] ["thing"] (d3 G5):=by and_intros
theorem aC0 {f f1 f2:Addr} (d:Df K mg "is_number" G5 ["thing"] f) (G_is_whole:Def P w K mg base CX0 1 "is_whole" f1 ["thing"] (W0 K)) (G_common_divisor:Def P w K mg base CX0 1 "common_divisor" f2 ["one","other"] ae0) (n_isinstance:mg "isinstance" = none) (n_tuple:mg "tuple" = none) (n_len:mg "len" = none):Def P w K mg base CX0 2 "is_number" f ["thing"] (aF0 K):=by
 refine d.ok (N:=["thing","top","bottom"]) Y2 (by rintro vs H Q E ⟨a,b,h,_⟩;rw [h];rfl) (fun cdv A outer s H vs Q E hr h=>?_)
 obtain ⟨v,dd,rfl,hd,hb,k⟩:=h
 refine ⟨_,(d4 (A5 (PW.pt (G2 (B6 (B0 (d8 j5 rfl n_isinstance (by decide +kernel) (b6 (pv 0) (b6 (M1 (v:=.ty "tuple") rfl n_tuple (by decide +kernel) rfl) b7))))) (M6 (p6 ak8 (d8 m5 rfl n_len (by decide +kernel) (b6 (pv 0) b7)) b9 (o0 _))))) (d6 (h9 G0)) p8)
   (d4 (K8 (pv 0) (show PG _ _ (R9 K 2 (v8 (v3 1) (v8 (v3 2) S8))) from by (refine C2 (n:=2) ?_ ?_ ?_ ?_;rfl;(refine j0 ?_ ?_ ?_;(exact (g8 (i:=1) Y2.nd rfl (Or.inl rfl)));(refine j0 ?_ ?_ ?_;(exact (g8 (i:=2) Y2.nd rfl (Or.inl rfl)));(exact A4);rfl);rfl);rfl;rfl)))
   (d4 (A5 (PW.pt (G2 (B6 (B0 (d7 G_is_whole hr (b6 (pv 1) b7) i0))) (G2 (B6 (B0 (d7 G_is_whole hr (b6 (pv 2) b7) i0))) (M6 (p6 ad1 (pv 2) b9 (o0 _)))))) (d6 (h9 G0)) p8)
   (d6 (h9 (P5 ak9 (d7 G_common_divisor hr (b6 (pv 1) (b6 (pv 2) b7)) i0) b9 (o0 _))))))),?_⟩
 rw [show start ["thing","top","bottom"] [v]=[some (v),none,none] from rfl]
 simp! [W0]
 have no:O9 dd=false→Q (.bl false) H:=fun e=>by rw [e] at k;exact k
 refine ⟨trivial,_,hd.ty,_,Q8 hd,v6 (fun h=>no ?_) (fun h=>?_)⟩
 ·cases dd with
  | v x=>rfl
  | tup l=>cases h
  | lst l=>rfl
 cases hd with
 | v f=>exact absurd rfl h
 | lst hS ht=>exact absurd rfl h
 | @tup p xs ds hS ht=>
  have hl:=ht.length
  refine ⟨p,rfl,xs,.inr hS,rfl,v6 (fun h2=>no ?_) (fun h2=>?_)⟩
  ·unfold O9
   split
   ·rename_i e
    injection e with e
    rw [e] at hl
    exact absurd (by rw [hl];rfl) h2
   ·rfl
  have h2':xs.length=2:=by
   have:(xs.length:Int)=2:=Classical.byContradiction fun z=>h2 z
   omega
  cases ht with
  | nil=>simp at h2'
  | @cons x xs d1 ds h1 ht=>
   cases ht with
   | nil=>simp at h2'
   | @cons y ys d2 ds h3 ht=>
    cases ht with
    | cons _ _=>simp at h2'
    | nil=>
     refine ⟨p,rfl,_,hS,rfl,_,_,rfl,_,_,rfl,rfl,d1,h1,v6 (fun hw=>no ?_) (fun hw=>⟨d2,h3,v6 (fun hw2=>no ?_) (fun hw2=>?_)⟩)⟩
     ·unfold O9
      split
      ·rename_i e;injection e with e;injection e with e1 _;rw [e1] at hw;cases hw
      ·rfl
     ·unfold O9
      split
      ·rename_i e;injection e with e;injection e with _ e2;injection e2 with e2 _;rw [e2] at hw2;cases hw2
      ·rfl
     obtain ⟨t,rfl⟩:=X7 (by simpa using hw)
     obtain ⟨b,rfl⟩:=X7 (by simpa using hw2)
     cases h1
     cases h3
     refine ⟨b,rfl,v6 (fun hb1=>no ?_) (fun hb1=>?_)⟩
     ·simp only [O9]
      rw [decide_eq_false (by omega)];rfl
     ·refine ⟨t,b,rfl,hb t b rfl,rfl,?_⟩
      have e:O9 (.tup [.v (.int t),.v (.int b)])=decide (V.int ((Int.gcd t b:Nat):Int)=V.int 1):=by
       simp only [O9]
       rw [decide_eq_true (show 1≤b by omega),Bool.true_and,decide_eq_decide]
       constructor
       ·intro z;rw [z];rfl
       ·intro z;injection z with z;omega
      rw [e] at k
      exact k
end
section
variable {P:Program} {w:World} {K:PySem.W.Frag} {mg:Str→Option Value} {base:Heap}
theorem ar2 {f:Addr} (d:Df K mg "_law_whole" E8 ["_law_thing"] f) (n_isinstance:mg "isinstance" = none) (n_int:mg "int" = none) (n_bool:mg "bool" = none):Def P w K mg base CX0 1 "_law_whole" f ["_law_thing"] (W0 K):=by
 refine d.ok (N:=["_law_thing"]) au4 (by rintro vs H Q E ⟨a,b,h,_⟩;rw [h];rfl) (fun cdv A outer s H vs Q E hr h=>?_)
 obtain ⟨v,dd,rfl,hd,k⟩:=h
 refine ⟨_,(d6 (h9 (ae6 (d8 j5 rfl n_isinstance (by decide +kernel) (b6 (pv 0) (b6 (M1 (v:=.ty "int") rfl n_int (by decide +kernel) rfl) b7))) (ae5 (aq8 (d8 j5 rfl n_isinstance (by decide +kernel) (b6 (pv 0) (b6 (M1 (v:=.ty "bool") rfl n_bool (by decide +kernel) rfl) b7)))))))),?_⟩
 rw [show start ["_law_thing"] [v]=[some (v)] from rfl]
 subst_eqs
 refine ⟨trivial,_,hd.ty,_,ax2 hd,v6 (fun h=>⟨trivial,_,hd.ty,_,ar8 hd,?_⟩) (fun h=>?_)⟩
 ·have e:(!aZ6 dd)=ad4 dd:=by
   cases dd with
   | v x=>cases x <;> first | rfl | (exact absurd h (by simp [af3]))
   | tup l=>exact absurd h (by simp [af3])
   | lst l=>exact absurd h (by simp [af3])
  rw [e];exact k
 ·have e:ad4 dd=false:=by
   cases dd with
   | v x=>cases x <;> first | rfl | (exact absurd rfl h)
   | tup l=>rfl
   | lst l=>rfl
  rw [e] at k;exact k
def az7 (K:PySem.W.Frag):Sp:=fun vs H Q _=>∃ v d,vs=[v]∧IsD K H v d∧smD 6000 d∧∀ H',d5 H H'→Q (.bl (O9 d)) H'
set_option maxHeartbeats 0 in
theorem ae8 {f fw fl:Addr} (d:Df K mg "_law_is_number" A9 ["_law_thing"] f) (GD__law_whole:Def P w K mg base CX0 1 "_law_whole" fw ["_law_thing"] (W0 K)) (G__law_low:Def P w K mg base CX0 1 "_law_low" fl ["_law_top","_law_bottom"] ak5) (n_isinstance:mg "isinstance" = none) (n_tuple:mg "tuple" = none) (n_len:mg "len" = none) :
  Def P w K mg base CX0 2 "_law_is_number" f ["_law_thing"] (az7 K):=by
 have G__law_whole:=GD__law_whole
 refine d.ok (N:=["_law_thing"]) ag1 (by rintro vs H Q E ⟨a,b,h,_⟩;rw [h];rfl) (fun cdv A outer s H vs Q E hr h=>?_)
 obtain ⟨v,dd,rfl,hd,hb,k⟩:=h
 have hu:=hr.units
 refine ⟨_,(d4 (A5 (PW.pt (G2 (B6 (B0 (d8 j5 rfl n_isinstance (by decide +kernel) (b6 (pv 0) (b6 (M1 (v:=.ty "tuple") rfl n_tuple (by decide +kernel) rfl) b7))))) (G2 (p6 ak8 (d8 m5 rfl n_len (by decide +kernel) (b6 (pv 0) b7)) b9 (o0 _)) (G2 (B6 (B0 (d7 G__law_whole hr (b6 (i6 j6 (pv 0) b9 (fun _ _=>rfl)) b7) i0))) (M6 (B6 (B0 (d7 G__law_whole hr (b6 (i6 j6 (pv 0) b9 (fun _ _=>rfl)) b7) i0)))))))) (d6 (h9 G0)) p8)
   (d6 (h9 (ae6 (P5 ag5 (i6 j6 (pv 0) b9 (fun _ _=>rfl)) b9 (o0 _)) (ae5 (P5 (aB9 hu) (d7 G__law_low hr (b6 (i6 j6 (pv 0) b9 (fun _ _=>rfl)) (b6 (i6 j6 (pv 0) b9 (fun _ _=>rfl)) b7)) i0) (pv 0) (o0 _))))))),?_⟩
 rw [show start ["_law_thing"] [v]=[some (v)] from rfl]
 simp! [W0,bd0]
 have no:O9 dd=false→Q (.bl false) H:=fun e=>by have:=k H (fun _ _ h=>h);rw [e] at this;exact this
 refine ⟨trivial,_,hd.ty,_,Q8 hd,v6 (fun h=>no ?_) (fun h=>?_)⟩
 ·cases dd with
  | v x=>rfl
  | tup l=>cases h
  | lst l=>rfl
 cases hd with
 | v f=>exact absurd rfl h
 | lst hS ht=>exact absurd rfl h
 | @tup p xs ds hS ht=>
  have hl:=ht.length
  refine ⟨p,rfl,xs,.inr hS,v6 (fun h2=>no ?_) (fun h2=>?_)⟩
  ·unfold O9
   split
   ·rename_i e
    injection e with e
    rw [e] at hl
    exact absurd (by rw [hl];rfl) h2
   ·rfl
  have h2':xs.length=2:=by
   have:(xs.length:Int)=2:=Classical.byContradiction fun z=>h2 z
   omega
  cases ht with
  | nil=>simp at h2'
  | @cons x xs d1 ds h1 ht=>
   cases ht with
   | nil=>simp at h2'
   | @cons y ys d2 ds h3 ht=>
    cases ht with
    | cons _ _=>simp at h2'
    | nil=>
     refine ⟨p,rfl,_,hS,x,rfl,d1,h1,v6 (fun hw=>no ?_) (fun hw=>⟨p,rfl,_,hS,y,rfl,d2,h3,v6 (fun hw2=>no ?_) (fun hw2=>?_)⟩)⟩
     ·unfold O9
      split
      ·rename_i e;injection e with e;injection e with e1 _;rw [e1] at hw;cases hw
      ·rfl
     ·unfold O9
      split
      ·rename_i e;injection e with e;injection e with _ e2;injection e2 with e2 _;rw [e2] at hw2;cases hw2
      ·rfl
     obtain ⟨t,rfl⟩:=X7 (by simpa using hw)
     obtain ⟨b,rfl⟩:=X7 (by simpa using hw2)
     cases h1
     cases h3
     simp only [smD,U1] at hb
     refine ⟨p,rfl,_,hS,_,rfl,b,rfl,v6 (fun hb1=>?_) (fun hb1=>no ?_)⟩
     ·refine ⟨p,rfl,_,hS,_,rfl,p,rfl,_,hS,_,rfl,t,b,rfl,by omega,hb.2.1,fun r H' s' e'=>?_⟩
      refine ⟨x5 (Rat.divInt t b),.tup [.v (.int t),.v (.int b)],rfl,P8 (SqT.of e'),.tup (s'.tup hS) (.cons (.v rfl) (.cons (.v rfl) .nil)),by simp [okD,Z5,x5],by simp [dpD,ac2,x5],?_⟩
      have e:eqD (x5 (Rat.divInt t b)) (.tup [.v (.int t),.v (.int b)])=O9 (.tup [.v (.int t),.v (.int b)]):=by
       simp only [O9]
       rw [decide_eq_true (show 1≤b by omega),Bool.true_and]
       simp only [x5,eqD,K4,eqV,Bool.and_true]
       by_cases g:Int.gcd t b=1
       ·obtain ⟨z1,z2⟩:=U6 hb1 g
        rw [z1,z2];simp [g]
       ·rw [decide_eq_false g]
        simp only [Bool.and_eq_false_iff,decide_eq_false_iff_not]
        apply Classical.byContradiction
        intro z
        apply g
        have z1:(Rat.divInt t b).num=t:=Classical.byContradiction fun y=>z (.inl (by simpa using y))
        have z2:((Rat.divInt t b).den:Int)=b:=Classical.byContradiction fun y=>z (.inr (by simpa using y))
        have:=ab6 (Rat.divInt t b)
        rw [z1,z2] at this
        exact this
      rw [e]
      exact k H' s'
     ·simp only [O9]
      rw [decide_eq_false (by omega)];rfl
end
section
variable {P:Program} {w:World} {K:PySem.W.Frag} {mg:Str→Option Value} {base:Heap}
def ac6 (j i:Nat):List V:=[V.bl (decide (j=i)),V.bl (decide (j=i+1)),V.bl (decide (j=i+2)),V.bl (decide (j=i+3))]
abbrev E9:Stmt:=top 69
theorem G1:i9 ["_law_e","_law_told","_law_names"] ["_law_e"] (d3 E9):=by and_intros
set_option maxHeartbeats 0 in
theorem av2 {a:CAd} {f:Addr} (d:Df K mg "_law_which" E9 ["_law_e"] f) (X:XTx K mg a) (n_isinstance:mg "isinstance" = none) (n_ValueError:mg "ValueError" = none):bg7 P w K mg base 1 "_law_which" f ["_law_e"] (az6 K a):=by
 obtain ⟨x_NoFraction,x_NoPolynomial,x_NoStretch,x_NoRow,x_NoPair,x_NoBack,x_NoForm,x_NoParts,x_NoDegree,x_NoSteps,x_NoBox,x_NoGain,x_NoText,x_NoLine,x_NoName,x_NoDeed⟩:=X
 refine d.okX (N:=["_law_e","_law_told","_law_names"]) G1 (fun vs H Q E ⟨u,q,j,h,_⟩=>by rw [h];rfl) (fun cdv A outer s H vs Q E hr h=>?_)
 obtain ⟨e,C,j,rfl,kt,hj,he,k⟩:=h
 refine ⟨_,(d4 (j8 (i:=1) G1.nd rfl (Or.inl rfl) (v9 (b6 (d8 j5 rfl n_isinstance (by decide +kernel) (b6 (pv 0) (b6 (z9 (v:=.ref _) rfl x_NoFraction.m rfl) b7))) (b6 (d8 j5 rfl n_isinstance (by decide +kernel) (b6 (pv 0) (b6 (z9 (v:=.ref _) rfl x_NoPolynomial.m rfl) b7))) (b6 (d8 j5 rfl n_isinstance (by decide +kernel) (b6 (pv 0) (b6 (z9 (v:=.ref _) rfl x_NoStretch.m rfl) b7))) (b6 (d8 j5 rfl n_isinstance (by decide +kernel) (b6 (pv 0) (b6 (z9 (v:=.ref _) rfl x_NoRow.m rfl) b7))) b7))))))
   (d4 (j8 (i:=1) G1.nd rfl (Or.inl rfl) (d9 O8 (pv 1) (v9 (b6 (d8 j5 rfl n_isinstance (by decide +kernel) (b6 (pv 0) (b6 (z9 (v:=.ref _) rfl x_NoPair.m rfl) b7))) (b6 (d8 j5 rfl n_isinstance (by decide +kernel) (b6 (pv 0) (b6 (z9 (v:=.ref _) rfl x_NoBack.m rfl) b7))) (b6 (d8 j5 rfl n_isinstance (by decide +kernel) (b6 (pv 0) (b6 (z9 (v:=.ref _) rfl x_NoForm.m rfl) b7))) (b6 (d8 j5 rfl n_isinstance (by decide +kernel) (b6 (pv 0) (b6 (z9 (v:=.ref _) rfl x_NoParts.m rfl) b7))) b7)))))))
   (d4 (j8 (i:=1) G1.nd rfl (Or.inl rfl) (d9 O8 (pv 1) (v9 (b6 (d8 j5 rfl n_isinstance (by decide +kernel) (b6 (pv 0) (b6 (z9 (v:=.ref _) rfl x_NoDegree.m rfl) b7))) (b6 (d8 j5 rfl n_isinstance (by decide +kernel) (b6 (pv 0) (b6 (z9 (v:=.ref _) rfl x_NoSteps.m rfl) b7))) (b6 (d8 j5 rfl n_isinstance (by decide +kernel) (b6 (pv 0) (b6 (z9 (v:=.ref _) rfl x_NoBox.m rfl) b7))) (b6 (d8 j5 rfl n_isinstance (by decide +kernel) (b6 (pv 0) (b6 (z9 (v:=.ref _) rfl x_NoGain.m rfl) b7))) b7)))))))
   (d4 (j8 (i:=1) G1.nd rfl (Or.inl rfl) (d9 O8 (pv 1) (v9 (b6 (d8 j5 rfl n_isinstance (by decide +kernel) (b6 (pv 0) (b6 (z9 (v:=.ref _) rfl x_NoText.m rfl) b7))) (b6 (d8 j5 rfl n_isinstance (by decide +kernel) (b6 (pv 0) (b6 (z9 (v:=.ref _) rfl x_NoLine.m rfl) b7))) (b6 (d8 j5 rfl n_isinstance (by decide +kernel) (b6 (pv 0) (b6 (z9 (v:=.ref _) rfl x_NoName.m rfl) b7))) (b6 (d8 j5 rfl n_isinstance (by decide +kernel) (b6 (pv 0) (b6 (z9 (v:=.ref _) rfl x_NoDeed.m rfl) b7))) b7)))))))
   (d4 (j8 (i:=2) G1.nd rfl (Or.inl rfl) R8)
   (d4 (A5 (PW.pt (G2 (p6 ak8 (aG3 PySem.F.plainAttrs_list PySem.F.slot_list_count PySem.F.type_list_count aY9 (pv 1) (b6 G0 b7)) b9 (o0 _)) (M6 (B6 (B0 (d8 j5 rfl n_isinstance (by decide +kernel) (b6 (pv 0) (b6 (M1 (v:=.ty "ValueError") rfl n_ValueError (by decide +kernel) rfl) b7)))))))) (d6 (h9 R8)) p8)
   (d6 (h9 (i6 t4 (aG3 PySem.F.plainAttrs_str PySem.F.slot_str_split PySem.F.type_str_split aY7 (pv 2) (b6 R8 b7)) (aG3 PySem.F.plainAttrs_list PySem.F.slot_list_index PySem.F.type_list_index aY8 (pv 1) (b6 G0 b7)) (fun _ _=>rfl)))))))))),?_⟩
 rw [show start ["_law_e","_law_told","_law_names"] [.ref e]=[some (.ref e),none,none] from rfl]
 have ty:∀ {H':Hp},d5 H H'→TyX K H' (.ref e) (.ref C):=fun sm=>.exc (sm _ _ he) kt.ec
 refine i8 (fun σ H1=>∃ l,σ=[some (.ref e),some (.ref l),none]∧d5 H H1∧H1 l=some (.lst (ac6 j 0))) (fun N hN=>?_) ?_
 ·subst_eqs
  exact ⟨trivial,_,ty (d5.refl _),_,kt.k_NoFraction,trivial,_,ty (d5.refl _),_,kt.k_NoPolynomial,trivial,_,ty (d5.refl _),_,kt.k_NoStretch,trivial,_,ty (d5.refl _),_,kt.k_NoRow,by decide,fun l h=>hN _ _ ⟨l,rfl,d5.new h _,b8⟩⟩
 rintro σ H1 ⟨l1,rfl,sA1,eA1⟩
 refine i8 (fun σ H2=>∃ l,σ=[some (.ref e),some (.ref l),none]∧d5 H H2∧H2 l=some (.lst (ac6 j 0++ac6 j 4))) (fun N hN=>?_) ?_
 ·subst_eqs
  exact ⟨trivial,_,ty sA1,_,kt.k_NoPair,trivial,_,ty sA1,_,kt.k_NoBack,trivial,_,ty sA1,_,kt.k_NoForm,trivial,_,ty sA1,_,kt.k_NoParts,by decide,fun p hp=>⟨_,(j3 (j4 eA1 hp)).trans eA1,_,b8,(show (8:Nat)≤sizeLine from by decide),fun l h=>hN _ _ ⟨l,rfl,(sA1.trans (d5.new hp _)).trans (d5.new h _),b8⟩⟩⟩
 rintro σ H2 ⟨l2,rfl,sA2,eA2⟩
 refine i8 (fun σ H2=>∃ l,σ=[some (.ref e),some (.ref l),none]∧d5 H H2∧H2 l=some (.lst (ac6 j 0++ac6 j 4++ac6 j 8))) (fun N hN=>?_) ?_
 ·subst_eqs
  exact ⟨trivial,_,ty sA2,_,kt.k_NoDegree,trivial,_,ty sA2,_,kt.k_NoSteps,trivial,_,ty sA2,_,kt.k_NoBox,trivial,_,ty sA2,_,kt.k_NoGain,by decide,fun p hp=>⟨_,(j3 (j4 eA2 hp)).trans eA2,_,b8,(show (12:Nat)≤sizeLine from by decide),fun l h=>hN _ _ ⟨l,rfl,(sA2.trans (d5.new hp _)).trans (d5.new h _),b8⟩⟩⟩
 rintro σ H3 ⟨l3,rfl,sA3,eA3⟩
 refine i8 (fun σ H2=>∃ l,σ=[some (.ref e),some (.ref l),none]∧d5 H H2∧H2 l=some (.lst (ac6 j 0++ac6 j 4++ac6 j 8++ac6 j 12))) (fun N hN=>?_) ?_
 ·subst_eqs
  exact ⟨trivial,_,ty sA3,_,kt.k_NoText,trivial,_,ty sA3,_,kt.k_NoLine,trivial,_,ty sA3,_,kt.k_NoName,trivial,_,ty sA3,_,kt.k_NoDeed,by decide,fun p hp=>⟨_,(j3 (j4 eA3 hp)).trans eA3,_,b8,(show (16:Nat)≤sizeLine from by decide),fun l h=>hN _ _ ⟨l,rfl,(sA3.trans (d5.new hp _)).trans (d5.new h _),b8⟩⟩⟩
 rintro σ H4 ⟨l4,rfl,sA4,eA4⟩
 have eT:H4 l4=some (.lst (aU6 j)):=eA4
 clear eA4
 subst_eqs
 refine ⟨.inl ⟨_,SqL.of eT⟩,_,eT,rfl,aw3 j hj,rfl,?_⟩
 rw [aI8 j hj]
 refine v6 (fun hh=>absurd rfl hh) (fun _=>?_)
 refine ⟨trivial,_,ty sA4,_,kt.kV,?_⟩
 refine v6 (fun hh=>absurd hh (by decide)) (fun _=>?_)
 refine ⟨by decide +kernel,by decide +kernel,by decide +kernel,by decide +kernel,by rw [ak7];decide,fun l hl=>?_⟩
 have eT':(upd H4 l (.lst ((ab8 "fraction polynomial stretch row pair back form parts degree steps box gain text line name deed" " ").map V.str))) l4=some (.lst (aU6 j)):=(j3 (j4 eT hl)).trans eT
 refine ⟨.inl ⟨_,SqL.of eT'⟩,_,eT',rfl,aw3 j hj,_,aU5 j hj,_,SqL.of b8,_,bf0 hj,?_⟩
 exact k _ (sA4.trans (d5.new hl _))
end
theorem aa5 {α:Type} {xs:List α} {x : α} (h:xs[xs.length - 1]? = some x):atI xs (-1)=some x:=by
 have hl:0<xs.length:=by
  rcases Nat.eq_zero_or_pos xs.length with z | z
  ·rw [List.eq_nil_of_length_eq_zero z] at h;cases h
  ·exact z
 have e:xs=xs.take (xs.length - 1)++[x]:=by rw [←v4 h,show xs.length - 1+1=xs.length by omega,List.take_length]
 rw [e]
 exact bb8 _ _
section
variable {P:Program} {w:World} {K:PySem.W.Frag} {mg:Str→Option Value} {base:Heap}
def Y0 (K:PySem.W.Frag):Sp:=fun vs H Q _=>∃ x y p q,vs=[x,y]∧Num K H x p∧Num K H y q∧BdN 6000 p∧BdN 6000 q∧Q (.bl (R0 p q)) H
theorem BdN.dI {n:Nat} {q:Rat} (b:BdN n q):(q.den:Int).natAbs<2 ^ n:=by rw [Int.natAbs_natCast];exact b.d
abbrev M3:Stmt:=top 32
theorem aF8:i9 ["one","other"] ["one","other"] (d3 M3):=by and_intros
theorem aG6 {f:Addr} (d:Df K mg "is_below" M3 ["one","other"] f):Def P w K mg base CX0 1 "is_below" f ["one","other"] (Y0 K):=by
 refine d.ok (N:=["one","other"]) aF8 (fun vs H Q E ⟨x,y,p,q,h,_⟩=>by rw [h];rfl) (fun cdv A outer s H vs Q E hr h=>?_)
 obtain ⟨x,y,p,q,rfl,⟨ap,rfl,hp⟩,⟨aq,rfl,hq⟩,bp,bq,k⟩:=h
 refine ⟨_,(d6 (h9 (P5 ad1 (d9 t9 (i6 j6 (pv 0) b9 (fun _ _=>rfl)) (i6 j6 (pv 1) b9 (fun _ _=>rfl))) (d9 t9 (i6 j6 (pv 1) b9 (fun _ _=>rfl)) (i6 j6 (pv 0) b9 (fun _ _=>rfl))) (o0 _)))),?_⟩
 rw [show start ["one","other"] [.ref ap,.ref aq]=[some (.ref ap),some (.ref aq)] from rfl]
 subst_eqs
 exact ⟨_,hp,_,at0 p,_,hq,_,at1 q,_,rfl,_,rfl,K1 bp.n bq.dI,_,hq,_,at0 q,_,hp,_,at1 p,_,rfl,_,rfl,K1 bq.n bp.dI,k⟩
abbrev F3:Stmt:=top 61
theorem au6:i9 ["_law_one","_law_other_here"] ["_law_one","_law_other_here"] (d3 F3):=by and_intros
theorem av4 {f:Addr} (d:Df K mg "_law_below" F3 ["_law_one","_law_other_here"] f):Def P w K mg base CX0 1 "_law_below" f ["_law_one","_law_other_here"] (Y0 K):=by
 refine d.ok (N:=["_law_one","_law_other_here"]) au6 (fun vs H Q E ⟨x,y,p,q,h,_⟩=>by rw [h];rfl) (fun cdv A outer s H vs Q E hr h=>?_)
 obtain ⟨x,y,p,q,rfl,⟨ap,rfl,hp⟩,⟨aq,rfl,hq⟩,bp,bq,k⟩:=h
 refine ⟨_,(d6 (h9 (P5 ad1 (d9 t9 (i6 j6 (pv 0) b9 (fun _ _=>rfl)) (i6 j6 (pv 1) b9 (fun _ _=>rfl))) (d9 t9 (i6 j6 (pv 1) b9 (fun _ _=>rfl)) (i6 j6 (pv 0) b9 (fun _ _=>rfl))) (o0 _)))),?_⟩
 rw [show start ["_law_one","_law_other_here"] [.ref ap,.ref aq]=[some (.ref ap),some (.ref aq)] from rfl]
 subst_eqs
 exact ⟨_,hp,_,at0 p,_,hq,_,at1 q,_,rfl,_,rfl,K1 bp.n bq.dI,_,hq,_,at0 q,_,hp,_,at1 p,_,rfl,_,rfl,K1 bq.n bp.dI,k⟩
theorem aq0 {q:Rat} (h:smD 6000 (x5 q)):BdN 6000 q:=by
 simp only [x5,smD,U1,and_true] at h
 exact ⟨h.1,by have:=h.2;rwa [Int.natAbs_natCast] at this⟩
theorem K2 {H:Hp} {v:V} {q:Rat} (h:IsD K H v (x5 q)):Num K H v q:=by
 unfold x5 at h
 cases h with
 | @tup p xs _ hS t=>
  cases t with
  | cons h1 t=>cases t with
   | cons h2 t=>cases t with
    | nil=>cases h1;cases h2;exact ⟨p,rfl,hS⟩
def aE8 (K:PySem.W.Frag):Sp:=fun vs H Q _=>∃ v d,vs=[v]∧IsD K H v d∧smD 6000 d∧Q (.bl (K9 d)) H
abbrev O6:Stmt:=top 45
theorem ae1:i9 ["thing","low","high"] ["thing"] (d3 O6):=by and_intros
set_option maxHeartbeats 0 in
theorem aK6 {f f1 f2:Addr} (d:Df K mg "is_span" O6 ["thing"] f) (G_is_number:Def P w K mg base CX0 2 "is_number" f1 ["thing"] (aF0 K)) (G_is_below:Def P w K mg base CX0 1 "is_below" f2 ["one","other"] (Y0 K)) (n_isinstance:mg "isinstance" = none) (n_tuple:mg "tuple" = none) (n_len:mg "len" = none):Def P w K mg base CX0 3 "is_span" f ["thing"] (aE8 K):=by
 refine d.ok (N:=["thing","low","high"]) ae1 (by rintro vs H Q E ⟨a,b,h,_⟩;rw [h];rfl) (fun cdv A outer s H vs Q E hr h=>?_)
 obtain ⟨v,dd,rfl,hd,hb,k⟩:=h
 refine ⟨_,(d4 (A5 (PW.pt (G2 (B6 (B0 (d8 j5 rfl n_isinstance (by decide +kernel) (b6 (pv 0) (b6 (M1 (v:=.ty "tuple") rfl n_tuple (by decide +kernel) rfl) b7))))) (M6 (p6 ak8 (d8 m5 rfl n_len (by decide +kernel) (b6 (pv 0) b7)) b9 (o0 _))))) (d6 (h9 G0)) p8)
   (d4 (K8 (pv 0) (show PG _ _ (R9 K 2 (v8 (v3 1) (v8 (v3 2) S8))) from by (refine C2 (n:=2) ?_ ?_ ?_ ?_;rfl;(refine j0 ?_ ?_ ?_;(exact (g8 (i:=1) ae1.nd rfl (Or.inl rfl)));(refine j0 ?_ ?_ ?_;(exact (g8 (i:=2) ae1.nd rfl (Or.inl rfl)));(exact A4);rfl);rfl);rfl;rfl)))
   (d6 (h9 (ae6 (d7 G_is_number hr (b6 (pv 1) b7) i0) (ae6 (d7 G_is_number hr (b6 (pv 2) b7) i0) (ae5 (aq8 (d7 G_is_below hr (b6 (pv 2) (b6 (pv 1) b7)) i0))))))))),?_⟩
 rw [show start ["thing","low","high"] [v]=[some (v),none,none] from rfl]
 subst_eqs
 have no:K9 dd=false→Q (.bl false) H:=fun e=>by rw [e] at k;exact k
 refine ⟨trivial,_,hd.ty,_,Q8 hd,v6 (fun h=>no ?_) (fun h=>?_)⟩
 ·cases dd with
  | v x=>rfl
  | tup l=>cases h
  | lst l=>rfl
 cases hd with
 | v f=>exact absurd rfl h
 | lst hS ht=>exact absurd rfl h
 | @tup p xs ds hS ht=>
  have hl:=ht.length
  refine ⟨p,rfl,xs,.inr hS,rfl,v6 (fun h2=>no ?_) (fun h2=>?_)⟩
  ·unfold K9
   split
   ·rename_i e
    injection e with e
    rw [e] at hl
    exact absurd (by rw [hl];rfl) h2
   ·rfl
  have h2':xs.length=2:=by
   have:(xs.length:Int)=2:=Classical.byContradiction fun z=>h2 z
   omega
  cases ht with
  | nil=>simp at h2'
  | @cons x xs d1 ds h1 ht=>
   cases ht with
   | nil=>simp at h2'
   | @cons y ys d2 ds h3 ht=>
    cases ht with
    | cons _ _=>simp at h2'
    | nil=>
     simp only [smD,U1,and_true] at hb
     simp only [K9] at k no
     refine ⟨p,rfl,_,hS,rfl,_,_,rfl,_,_,rfl,rfl,?_⟩
     refine ⟨x,d1,rfl,h1,aF6 hb.1,_,rfl,v6 (fun n1=>?_) (fun n1=>no (by rw [Bool.eq_false_iff.mpr n1];rfl))⟩
     refine ⟨y,d2,rfl,h3,aF6 hb.2,_,rfl,v6 (fun n2=>?_) (fun n2=>no (by rw [n1,Bool.eq_false_iff.mpr n2];rfl))⟩
     obtain ⟨q1,rfl⟩:=ac0 n1
     obtain ⟨q2,rfl⟩:=ac0 n2
     refine ⟨y,x,q2,q1,rfl,K2 h3,K2 h1,aq0 hb.2,aq0 hb.1,_,rfl,?_⟩
     rw [n1,n2,D7,D7] at k
     exact k
def aF1 (K:PySem.W.Frag):Sp:=fun vs H Q _=>∃ v d,vs=[v]∧IsD K H v d∧smD 6000 d∧∀ H',d5 H H'→Q (.bl (ac4 d)) H'
abbrev Q6:Stmt:=top 46
theorem aQ6:i9 ["thing"] ["thing"] (d3 Q6):=by and_intros
set_option maxHeartbeats 0 in
theorem aR5 {f f1 f2 aN:Addr} (d:Df K mg "is_box" Q6 ["thing"] f) (G_is_span:Def P w K mg base CX0 3 "is_span" f1 ["thing"] (aE8 K)) (G_is_below:Def P w K mg base CX0 1 "is_below" f2 ["one","other"] (Y0 K)) (c_LEAST:∃ t,mg "LEAST" = some (.int 2 t)) (c_MOST:∃ t,mg "MOST" = some (.int 8 t)) (c_NOUGHT:mg "NOUGHT" = some (.ref aN)) (tN:∀ H,SqT K H aN (p9 0)) (n_isinstance:mg "isinstance" = none) (n_list:mg "list" = none) (n_len:mg "len" = none) (n_all:mg "all" = none):Def P w K mg base CX0 4 "is_box" f ["thing"] (aF1 K):=by
 obtain ⟨tL,c_LEAST⟩:=c_LEAST
 obtain ⟨tM,c_MOST⟩:=c_MOST
 refine d.ok (N:=["thing"]) aQ6 (by rintro vs H Q E ⟨a,b,h,_⟩;rw [h];rfl) (fun cdv A outer s H vs Q E hr h=>?_)
 obtain ⟨v,dd,rfl,hd,hb,k⟩:=h
 refine ⟨_,(d4 (A5 (PW.pt (G2 (B6 (B0 (d8 j5 rfl n_isinstance (by decide +kernel) (b6 (pv 0) (b6 (M1 (v:=.ty "list") rfl n_list (by decide +kernel) rfl) b7))))) (G2 (p6 ad1 (d8 m5 rfl n_len (by decide +kernel) (b6 (pv 0) b7)) (z9 (v:=.int 2) rfl c_LEAST ⟨_,rfl⟩) (o0 _)) (M6 (p6 ag5 (d8 m5 rfl n_len (by decide +kernel) (b6 (pv 0) b7)) (z9 (v:=.int 8) rfl c_MOST ⟨_,rfl⟩) (o0 _)))))) (d6 (h9 G0)) p8)
   (d6 (h9 (ae6 (d8 (ah7 rfl) rfl n_all (by decide +kernel) (b6 (N6 (Nc:=["span"]) (caps:=[none]) rfl (X5.of (osc:=d3 Q6) (N:=["thing"]) (ks:=[]) rfl rfl rfl rfl C3 (by decide +kernel)) (K7 (pv 0)) (fun C s₂ H₂ fp pins=>(g8 (i:=0) (show List.Nodup (["span"]:List Str) by decide +kernel) rfl (Or.inl rfl) (Or.inr rfl))) (fun C s₂ H₂ fp pins=>(d7 G_is_span hr (b6 (pv 0) b7) i0))) b7)) (ae5 (d7 G_is_below hr (b6 (z9 (v:=.ref _) rfl c_NOUGHT rfl) (b6 (i6 j6 (i6 t4 (pv 0) (N5 E5 b9) (fun _ _=>rfl)) b9 (fun _ _=>rfl)) b7)) i0)))))),?_⟩
 rw [show start ["thing"] [v]=[some (v)] from rfl]
 subst_eqs
 have no:ac4 dd=false→∀ H',d5 H H'→Q (.bl false) H':=fun e H' s'=>by have:=k H' s';rwa [e] at this
 refine ⟨trivial,_,hd.ty,_,ar7 hd,v6 (fun h=>no ?_ H (d5.refl _)) (fun h=>?_)⟩
 ·cases dd with
  | v x=>rfl
  | tup l=>rfl
  | lst l=>cases h
 cases hd with
 | v f=>exact absurd rfl h
 | tup hS ht=>exact absurd rfl h
 | @lst p xs ds hS ht=>
  have hl:=ht.length
  simp only [smD] at hb
  have hbd:=(Q3 ds).mp hb
  simp only [ac4] at k no
  refine ⟨p,rfl,xs,.inl hS,v6 (fun h2=>no (by rw [decide_eq_false (by omega)];rfl) H (d5.refl _)) (fun h2=>?_)⟩
  refine ⟨p,rfl,xs,.inl hS,v6 (fun h8=>no (by rw [decide_eq_false (show ¬ ds.length≤8 by omega),Bool.false_and,Bool.and_false]) H (d5.refl _)) (fun h8=>?_)⟩
  rw [decide_eq_true (show 2≤ds.length by omega),decide_eq_true (show ds.length≤8 by omega),Bool.true_and,Bool.true_and] at k no
  refine ⟨p,rfl,⟨_,hS⟩,fun D hD=>?_⟩
  refine Z1 xs (fun j σ H3=>∃ o,σ=[o]∧d5 H H3∧H3 D=some (.lst (((ds.take j).map K9).map V.bl))) ⟨_,rfl,d5.new hD _,b8⟩ (fun j σ H3 _ ⟨o,_,s3,_⟩=>s3.seq hS) ?_ ?_
  ·rintro j x σ H3 hx ⟨o,rfl,s3,e3⟩
   have hj:j<xs.length:=(List.getElem?_eq_some_iff.mp hx).1
   obtain ⟨dj,hdj,hxj⟩:=ht.get hx
   subst_eqs
   refine ⟨x,dj,rfl,hxj.same s3,hbd dj (List.mem_of_getElem? hdj),?_⟩
   refine D5.mk hj e3 (by rw [List.length_map,List.length_map,List.length_take];exact C1 (by omega)) ⟨_,rfl,s3.over hD _,?_⟩
   rw [b8,v4 hdj,List.map_append,List.map_append]
   rfl
  ·rintro σ H3 ⟨o,rfl,s3,e3⟩
   rw [hl,List.take_length] at e3
   have ea:(ds.map K9).all id=ds.all K9:=by rw [List.all_map];rfl
   refine ⟨D,rfl,ds.map K9,SqL.of e3,v6 (fun ha=>?_) (fun ha=>no (by rw [←ea,Bool.eq_false_iff.mpr ha];rfl) _ s3)⟩
   rw [ea] at ha
   have hlt:ds.length - 1<ds.length:=by omega
   have el:=List.getElem?_eq_getElem hlt
   generalize ds[ds.length - 1]=dl at el
   have hxl:xs.length - 1<xs.length:=by omega
   have exl:=List.getElem?_eq_getElem hxl
   generalize xs[xs.length - 1]=xl at exl
   obtain ⟨dl',hdl,hxd⟩:=ht.get exl
   rw [hl,el] at hdl
   cases hdl
   have hsp:=List.all_eq_true.mp ha dl (List.mem_of_getElem? el)
   obtain ⟨sp,rfl,_⟩:=ap6 hsp
   have hbl:=hbd _ (List.mem_of_getElem? el)
   simp only [u0,smD,U1] at hbl
   unfold u0 at hxd
   cases hxd with
   | @tup pl ys _ hSl tl=>
    cases tl with
    | cons h1 tl=>cases tl with
     | cons h2' tl=>cases tl with
      | nil=>
       refine ⟨p,rfl,xs,s3.seq hS,_,aa5 exl,pl,rfl,_,s3.tup hSl,_,rfl,.ref aN,_,0,sp.1,rfl,⟨aN,rfl,tN _⟩,(K2 h1).same s3,BdN.zero (by decide),aq0 hbl.1,?_⟩
       have:=k _ s3
       rw [ha,List.getLast?_eq_getElem?,el] at this
       simp only [u0,aZ1,D7,Bool.true_and] at this
       exact this
def ap9 (K:PySem.W.Frag) (C:Addr):Sp:=fun vs H Q E=>∃ v d,vs=[v]∧IsD K H v d∧smD 6000 d∧(ac4 d=true→∀ H',d5 H H'→Q .non H')∧(ac4 d=false→∀ H',d5 H H'→E (.ref C) none H')
abbrev G6:Stmt:=top 47
theorem aA3:i9 ["thing"] ["thing"] (d3 G6):=by and_intros
theorem aC1 {f f1 C:Addr} (d:Df K mg "check_box" G6 ["thing"] f) (G_is_box:Def P w K mg base CX0 4 "is_box" f1 ["thing"] (aF1 K)) (x_NoBox:ExT K mg "NoBox" C):Def P w K mg base (CXR P w) 5 "check_box" f ["thing"] (ap9 K C):=by
 refine d.okR (N:=["thing"]) aA3 (by rintro vs H Q E ⟨a,b,h,_⟩;rw [h];rfl) (fun cdv A outer s H vs Q E hr h=>?_)
 obtain ⟨v,dd,rfl,hd,hb,k1,k2⟩:=h
 refine ⟨_,(d6 (A5 (B6 (B0 (d7 G_is_box hr (b6 (pv 0) b7) i0))) (d6 (aX3 x_NoBox.ox PySem.F.excBase_ValueError rfl rfl x_NoBox.m aQ7 (b6 R8 b7))) p8)),?_⟩
 rw [show start ["thing"] [v]=[some (v)] from rfl]
 subst_eqs
 refine ⟨v,dd,rfl,hd,hb,fun H1 s1=>⟨_,rfl,v6 (fun h=>⟨by decide,k2 h H1 s1⟩) (fun h=>k1 (by simpa using h) H1 s1)⟩⟩
theorem ah2 {H:Hp} {v:V} {s:Rat × Rat} (h:IsD K H v (u0 s)):∃ p x y,v = .ref p∧SqT K H p [x,y]∧Num K H x s.1∧Num K H y s.2:=by
 unfold u0 at h
 cases h with
 | @tup p xs _ hS t=>
  cases t with
  | cons h1 t=>cases t with
   | cons h2 t=>cases t with
    | nil=>exact ⟨p,_,_,rfl,hS,K2 h1,K2 h2⟩
end
theorem be8:p9 (1 / 100)=[.int 1,.int 100]:=by
 unfold p9
 rw [show ((1:Rat) / 100).num=1 by decide +kernel,show ((1:Rat) / 100).den=100 by decide +kernel];rfl
theorem bk9:p9 (1 / 10)=[.int 1,.int 10]:=by
 unfold p9
 rw [show ((1:Rat) / 10).num=1 by decide +kernel,show ((1:Rat) / 10).den=10 by decide +kernel];rfl
theorem bh6:p9 (1 / 2)=[.int 1,.int 2]:=by
 unfold p9
 rw [show ((1:Rat) / 2).num=1 by decide +kernel,show ((1:Rat) / 2).den=2 by decide +kernel];rfl
theorem aN8 {q:Rat}:0<q↔0<q.num:=by rw [Rat.lt_iff];simp
section
variable {P:Program} {w:World} {K:PySem.W.Frag} {mg:Str→Option Value} {base:Heap}
def ap7 (K:PySem.W.Frag):Sp:=fun vs H Q _=>∃ v d,vs=[v]∧IsD K H v d∧smD 6000 d∧∀ H',d5 H H'→Q (.bl (ac4 d)) H'
abbrev B8:Stmt:=top 71
theorem Z8:i9 ["_law_thing","_law_side"] ["_law_thing"] (d3 B8):=by and_intros
set_option maxHeartbeats 0 in
theorem ar0 {f f1 f2:Addr} (d:Df K mg "_law_is_box" B8 ["_law_thing"] f) (GD__law_is_number:Def P w K mg base CX0 2 "_law_is_number" f1 ["_law_thing"] (az7 K)) (G__law_below:Def P w K mg base CX0 1 "_law_below" f2 ["_law_one","_law_other_here"] (Y0 K)) (n_isinstance:mg "isinstance" = none) (n_list:mg "list" = none) (n_len:mg "len" = none) (n_tuple:mg "tuple" = none) (n_all:mg "all" = none):Def P w K mg base CX0 3 "_law_is_box" f ["_law_thing"] (ap7 K):=by
  have G__law_is_number:=GD__law_is_number
  refine d.ok (N:=["_law_thing","_law_side"]) Z8 (by rintro vs H Q E ⟨a,b,h,_⟩;rw [h];rfl) (fun cdv A outer s H vs Q E hr h=>?_)
  obtain ⟨v,dd,rfl,hd,hb,k⟩:=h
  refine ⟨_,(d4 (A5 (PW.pt (G2 (B6 (B0 (d8 j5 rfl n_isinstance (by decide +kernel) (b6 (pv 0) (b6 (M1 (v:=.ty "list") rfl n_list (by decide +kernel) rfl) b7))))) (M6 (B6 (aX2 aG4 aG4 b9 (d8 m5 rfl n_len (by decide +kernel) (b6 (pv 0) b7)) b9))))) (d6 (h9 G0)) p8)
      (d4 (U5 PassesOwn.never rfl (K7 (pv 0)) (g8 (i:=1) Z8.nd rfl (Or.inl rfl)) (d4 (A5 (PW.pt (G2 (B6 (B0 (d8 j5 rfl n_isinstance (by decide +kernel) (b6 (pv 1) (b6 (M1 (v:=.ty "tuple") rfl n_tuple (by decide +kernel) rfl) b7))))) (G2 (p6 ak8 (d8 m5 rfl n_len (by decide +kernel) (b6 (pv 1) b7)) b9 (o0 _)) (M6 (B6 (B0 (d8 (ah7 rfl) rfl n_all (by decide +kernel) (b6 (N6 (Nc:=["_law_end"]) (caps:=[none]) rfl (X5.of (osc:=d3 B8) (N:=["_law_thing","_law_side"]) (ks:=[]) rfl rfl rfl rfl C3 (by decide +kernel)) (aK0 (pv 1)) (fun C s₂ H₂ fp pins=>(g8 (i:=0) (show List.Nodup (["_law_end"]:List Str) by decide +kernel) rfl (Or.inl rfl) (Or.inr rfl))) (fun C s₂ H₂ fp pins=>(d7 G__law_is_number hr (b6 (pv 0) b7) i0))) b7)))))))) (d6 (h9 G0)) p8)
      (d6 (A5 (B0 (d7 G__law_below hr (b6 (i6 j6 (pv 1) b9 (fun _ _=>rfl)) (b6 (i6 j6 (pv 1) b9 (fun _ _=>rfl)) b7)) i0)) (d6 (h9 G0)) p8))))
      (d6 (h9 (P5 ag5 (i6 j6 (i6 j6 (i6 t4 (pv 0) (N5 E5 b9) (fun _ _=>rfl)) b9 (fun _ _=>rfl)) b9 (fun _ _=>rfl)) b9 (o0 _)))))),?_⟩
  rw [show start ["_law_thing","_law_side"] [v]=[some (v),none] from rfl]
  subst_eqs
  have no:ac4 dd=false→∀ H',d5 H H'→Q (.bl false) H':=fun e H' s'=>by have:=k H' s';rwa [e] at this
  refine ⟨trivial,_,hd.ty,_,ar7 hd,v6 (fun h=>no ?_ H (d5.refl _)) (fun h=>?_)⟩
  · cases dd with
    | v x=>rfl
    | tup l=>rfl
    | lst l=>cases h
  cases hd with
  | v f=>exact absurd rfl h
  | tup hS ht=>exact absurd rfl h
  | @lst p xs ds hS ht=>
    have hl:=ht.length
    simp only [smD] at hb
    have hbd:=(Q3 ds).mp hb
    simp only [ac4] at k no
    refine ⟨p,rfl,xs,.inl hS,v6 (fun h2=>v6 (fun h8=>?_) (fun h8=>?_)) (fun h2=>no (by rw [decide_eq_false (by omega)];rfl) H (d5.refl _))⟩
    · exact no (by rw [decide_eq_false (show ¬ ds.length≤8 by omega),Bool.false_and,Bool.and_false]) H (d5.refl _)
    have h8':ds.length≤8:=by
      have:(xs.length:Int)≤8:=Classical.byContradiction fun z=>h8 z
      omega
    rw [decide_eq_true (show 2≤ds.length by omega),decide_eq_true h8',Bool.true_and,Bool.true_and] at k no
    obtain ⟨I,hI⟩:∃ I:Nat→L2.St→Hp→Prop,∀ i σ H1,I i σ H1↔∃ o,σ=[some (.ref p),o]∧d5 H H1∧∀ d∈ds.take i,K9 d=true:=⟨_,fun _ _ _=>Iff.rfl⟩
    refine ⟨_,rfl,p,rfl,⟨_,hS⟩,W6 (xs:=xs) I ((hI _ _ _).mpr ⟨_,rfl,d5.refl _,by simp⟩) (by intro i σ H1 _ h;obtain ⟨_,_,s1,_⟩:=(hI _ _ _).mp h;exact s1.seq hS) ?_ ?_⟩
    · intro i x σ H1 hx h1
      obtain ⟨o,rfl,s1,hsp⟩:=(hI _ _ _).mp h1
      obtain ⟨dj,hdj,hxj⟩:=ht.get hx
      have bad:K9 dj=false→∀ H',d5 H H'→Q (.bl false) H':=fun e=>no (by
        have:ds.all K9=false:=by
          rw [Bool.eq_false_iff]
          intro z
          have:=List.all_eq_true.mp z dj (List.mem_of_getElem? hdj)
          rw [e] at this;cases this
        rw [this];rfl)
      have bj:=hbd dj (List.mem_of_getElem? hdj)
      have hx1:=hxj.same s1
      subst_eqs
      refine ⟨trivial,_,hx1.ty,_,Q8 hx1,v6 (fun h=>bad ?_ H1 s1) (fun h=>?_)⟩
      · cases dj with
        | v x=>rfl
        | tup l=>cases h
        | lst l=>rfl
      cases hx1 with
      | v f=>exact absurd rfl h
      | lst hS' ht'=>exact absurd rfl h
      | @tup px ys es hSx htx=>
        have hlx:=htx.length
        refine ⟨px,rfl,ys,.inr hSx,rfl,v6 (fun h2=>bad ?_ H1 s1) (fun h2=>?_)⟩
        · unfold K9
          split
          · rename_i e
            injection e with e
            rw [e] at hlx
            exact absurd (by rw [hlx];rfl) h2
          · rfl
        have h2':ys.length=2:=by
          have:(ys.length:Int)=2:=Classical.byContradiction fun z=>h2 z
          omega
        cases htx with
        | nil=>simp at h2'
        | @cons y1 ys d1 es i1 htx=>
          cases htx with
          | nil=>simp at h2'
          | @cons y2 ys d2 es i2 htx=>
            cases htx with
            | cons _ _=>simp at h2'
            | nil=>
              simp only [smD,U1,and_true] at bj
              refine ⟨px,rfl,⟨_,hSx⟩,fun D hD=>?_⟩
              refine aM1 [y1,y2] (fun j σ H3=>∃ o,σ=[o]∧d5 H1 H3∧H3 D=some (.lst ((([d1,d2].take j).map O9).map V.bl))) ⟨_,rfl,d5.new hD _,b8⟩ (fun j σ H3 _ ⟨o,_,s3,_⟩=>s3.tup hSx) ?_ ?_
              · rintro j z σ H3 hz ⟨o,rfl,s3,e3⟩
                have hz2:∃ dz,[d1,d2][j]? = some dz∧IsD K H1 z dz∧smD 6000 dz:=by
                  match j,hz with
                  | 0,hz=>cases hz;exact ⟨d1,rfl,i1,bj.1⟩
                  | 1,hz=>cases hz;exact ⟨d2,rfl,i2,bj.2⟩
                  | j+2,hz=>simp at hz
                obtain ⟨dz,hdz,iz,bz⟩:=hz2
                subst_eqs
                refine ⟨z,dz,rfl,iz.same s3,bz,fun H4 s4=>?_⟩
                have hj:j<[d1,d2].length:=(List.getElem?_eq_some_iff.mp hdz).1
                refine D5.mk hj (s4 _ _ e3) (by rw [List.length_map,List.length_map,List.length_take];exact C1 (by simp at hj ⊢;omega)) ⟨_,rfl,(s3.trans s4).over hD _,?_⟩
                rw [b8,v4 hdz,List.map_append,List.map_append]
                rfl
              · rintro σ H3 ⟨o,rfl,s3,e3⟩
                have e3':H3 D=some (.lst ([O9 d1,O9 d2].map V.bl)):=e3
                refine ⟨D,rfl,_,SqL.of e3',v6 (fun ha=>bad ?_ _ (s1.trans s3)) (fun ha=>?_)⟩
                · simp only [List.all_cons,List.all_nil,Bool.and_true,id] at ha
                  simp only [K9]
                  rw [←Bool.and_assoc,ha];rfl
                · have ha':O9 d1=true∧O9 d2=true:=by
                    simp only [List.all_cons,List.all_nil,Bool.and_true,id,Bool.and_eq_false_imp] at ha
                    simpa using ha
                  obtain ⟨q1,rfl⟩:=ac0 ha'.1
                  obtain ⟨q2,rfl⟩:=ac0 ha'.2
                  refine ⟨px,rfl,_,s3.tup hSx,_,rfl,px,rfl,_,s3.tup hSx,_,rfl,?_⟩
                  refine ⟨_,_,q2,q1,rfl,(K2 i2).same s3,(K2 i1).same s3,aq0 bj.2,aq0 bj.1,_,rfl,v6 (fun hw=>bad ?_ _ (s1.trans s3)) (fun hw=>?_)⟩
                  · simp only [K9,ag9,D7,hw,Bool.true_and];rfl
                  · refine (hI _ _ _).mpr ⟨_,rfl,s1.trans s3,fun d hd=>?_⟩
                    rw [v4 hdj] at hd
                    rcases List.mem_append.mp hd with z | z
                    · exact hsp d z
                    · rw [List.mem_singleton.mp z]
                      simp only [K9,ag9,D7,Bool.eq_false_iff.mpr hw,Bool.true_and];rfl
    · intro σ H1 h1
      obtain ⟨o,rfl,s1,hsp⟩:=(hI _ _ _).mp h1
      rw [hl,List.take_length] at hsp
      have ha:=List.all_eq_true.mpr hsp
      have hlt:ds.length - 1<ds.length:=by omega
      have el:=List.getElem?_eq_getElem hlt
      generalize ds[ds.length - 1]=dl at el
      have hxl:xs.length - 1<xs.length:=by omega
      have exl:=List.getElem?_eq_getElem hxl
      generalize xs[xs.length - 1]=xl at exl
      obtain ⟨dl',hdl,hxd⟩:=ht.get exl
      rw [hl,el] at hdl
      cases hdl
      obtain ⟨sp,rfl,_⟩:=ap6 (hsp dl (List.mem_of_getElem? el))
      obtain ⟨pl,y1,y2,rfl,hSl,⟨p1,rfl,n1⟩,n2⟩:=ah2 hxd
      subst_eqs
      refine ⟨xs,s1.seq hS,_,aa5 exl,pl,rfl,_,s1.tup hSl,_,rfl,p1,rfl,_,s1.tup n1,_,at0 _,_,rfl,?_⟩
      have:=k _ s1
      rw [ha,List.getLast?_eq_getElem?,el] at this
      simp only [u0,aZ1,D7,Bool.true_and,O0] at this
      rw [show decide (0<sp.1.num)=decide (0<sp.1) from decide_eq_decide.mpr aN8.symm]
      exact this
end
def aa7 (a b:Str):D:=.tup [.v (.str a),.v (.str b)]
theorem ba3 (a b:Str):eqD (aa7 a b) (aa7 a b)=true:=by simp [aa7,eqD,K4,eqV]
theorem aY1 (a b c d:Str):okD (aa7 a b) (aa7 c d)=true:=by simp [aa7,okD,Z5]
theorem bf9 (a b:Str):dpD (aa7 a b)≤60:=by simp [aa7,dpD,ac2]
theorem aH3 {K:PySem.W.Frag} {H:Hp} {p:Addr} {a b:Str} (h:SqT K H p [.str a,.str b]):IsD K H (.ref p) (aa7 a b):=.tup h (.cons (.v rfl) (.cons (.v rfl) .nil))
mutual
theorem ar1:∀ d:D,okD d d=true
 | .v _=>by rw [okD]
 | .tup ds=>by rw [okD];exact aj0 ds
 | .lst ds=>by rw [okD];exact aj0 ds
theorem aj0:∀ ds:List D,Z5 ds ds=true
 | []=>by simp [Z5]
 | d :: ds=>by rw [Z5,ar1 d,aj0 ds];rfl
end
theorem ba4 (s:Rat × Rat):eqD (u0 s) (u0 s)=true:=by
 unfold u0
 rw [eqD,K4,K4,K4,ao7,ao7];rfl
theorem as1:∀ B:List (Rat × Rat),K4 (B.map u0) (B.map u0)=true
 | []=>by simp [K4]
 | s :: B=>by rw [List.map_cons,K4,ba4,as1 B];rfl
theorem bf7 (B:List (Rat × Rat)):eqD (L5 B) (L5 B)=true:=by unfold L5;rw [eqD,as1]
theorem aH8:∀ B:List (Rat × Rat),ac2 (B.map u0)≤2
 | []=>by simp [ac2]
 | s :: B=>by
  rw [List.map_cons,ac2]
  have:=aH8 B
  have h:dpD (u0 s)≤2:=by simp [u0,dpD,ac2,x5]
  omega
theorem bn3 (B:List (Rat × Rat)):dpD (L5 B)≤60:=by unfold L5;rw [dpD];have:=aH8 B;omega
theorem aH9 {p q:Rat} (h:x5 p=x5 q):p=q:=by rw [←D7 p,h,D7]
theorem aT0 {s t:Rat × Rat} (h:u0 s=u0 t):s=t:=by
 unfold u0 at h
 injection h with h
 injection h with h1 h2
 injection h2 with h2 _
 exact Prod.ext (aH9 h1) (aH9 h2)
theorem at2 {B C:List (Rat × Rat)} (h:L5 B=L5 C):B=C:=by
 unfold L5 at h
 injection h with h
 induction B generalizing C with
 | nil=>cases C with
  | nil=>rfl
  | cons _ _=>cases h
 | cons s B ih=>cases C with
  | nil=>cases h
  | cons t C=>
   rw [List.map_cons,List.map_cons] at h
   injection h with h1 h2
   rw [aT0 h1,ih h2]
mutual
theorem aF4 {m n:Nat} (h:m≤n):∀ {d:D},smD m d→smD n d
 | .v x,s=>by
  cases x with
  | int i=>simp only [smD] at s ⊢;exact D8 s h
  | _=>simp only [smD] at s ⊢
 | .tup ds,s=>by simp only [smD] at s ⊢;exact ai5 h s
 | .lst ds,s=>by simp only [smD] at s ⊢;exact ai5 h s
theorem ai5 {m n:Nat} (h:m≤n):∀ {ds:List D},U1 m ds→U1 n ds
 | [],_=>by simp only [U1]
 | d :: ds,s=>by simp only [U1] at s ⊢;exact ⟨aF4 h s.1,ai5 h s.2⟩
end
mutual
inductive HD (H:Hp):V→D→Prop where
 | v {x:V} (f:U9 x=true):HD H x (.v x)
 | tup {p:Addr} {xs:List V} {ds:List D} (h:H p=some (.tup xs)) (t:HDs H xs ds):HD H (.ref p) (.tup ds)
 | lst {p:Addr} {xs:List V} {ds:List D} (h:H p=some (.lst xs)) (t:HDs H xs ds):HD H (.ref p) (.lst ds)
inductive HDs (H:Hp):List V→List D→Prop where
 | nil:HDs H [] []
 | cons {x:V} {xs:List V} {d:D} {ds:List D} (h:HD H x d) (t:HDs H xs ds):HDs H (x :: xs) (d :: ds)
end
mutual
theorem HD.isD {K:PySem.W.Frag} {H:Hp}:∀ {v:V} {d:D},HD H v d→IsD K H v d
 | _,_,.v f=>.v f
 | _,_,.tup h t=>.tup (SqT.of h) t.isDs
 | _,_,.lst h t=>.lst (SqL.of h) t.isDs
theorem HDs.isDs {K:PySem.W.Frag} {H:Hp}:∀ {vs:List V} {ds:List D},HDs H vs ds→T9 K H vs ds
 | _,_,.nil=>.nil
 | _,_,.cons h t=>.cons h.isD t.isDs
end
mutual
theorem HD.same {H H':Hp} (s:d5 H H'):∀ {v:V} {d:D},HD H v d→HD H' v d
 | _,_,.v f=>.v f
 | _,_,.tup h t=>.tup (s _ _ h) (HDs.same s t)
 | _,_,.lst h t=>.lst (s _ _ h) (HDs.same s t)
theorem HDs.same {H H':Hp} (s:d5 H H'):∀ {vs:List V} {ds:List D},HDs H vs ds→HDs H' vs ds
 | _,_,.nil=>.nil
 | _,_,.cons h t=>.cons (HD.same s h) (HDs.same s t)
end
theorem HDs.length {H:Hp}:∀ {xs:List V} {ds:List D},HDs H xs ds→xs.length=ds.length
 | _,_,.nil=>rfl
 | _,_,.cons _ t=>congrArg (· + 1) t.length
theorem HDs.get {H:Hp}:∀ {vs:List V} {ds:List D} {i:Nat} {v:V},HDs H vs ds→vs[i]? = some v→∃ d,ds[i]? = some d∧HD H v d
 | _,_,_,_,.nil,e=>by simp at e
 | _,_,0,_,.cons h _,e=>by cases e;exact ⟨_,rfl,h⟩
 | _,_,i+1,_,.cons _ t,e=>t.get (i:=i) (by simpa using e)
theorem HDs.append {H:Hp}:∀ {vs ws:List V} {ds es:List D},HDs H vs ds→HDs H ws es→HDs H (vs++ws) (ds++es)
 | _,_,_,_,.nil,k=>k
 | _,_,_,_,.cons h t,k=>.cons h (t.append k)
theorem HDs.take {H:Hp}:∀ {vs:List V} {ds:List D} (m:Nat),HDs H vs ds→HDs H (vs.take m) (ds.take m)
 | _,_,_,.nil=>by simp;exact .nil
 | _,_,0,.cons _ _=>.nil
 | _,_,m+1,.cons h t=>.cons h (t.take m)
theorem HDs.drop {H:Hp}:∀ {vs:List V} {ds:List D} (m:Nat),HDs H vs ds→HDs H (vs.drop m) (ds.drop m)
 | _,_,_,.nil=>by simp;exact .nil
 | _,_,0,.cons h t=>.cons h t
 | _,_,m+1,.cons _ t=>t.drop m
theorem HD.int_inv {H:Hp} {i:Int} {d:D} (h:HD H (.int i) d):d = .v (.int i):=by cases h;rfl
mutual
theorem bi1 {u:Addr} {H H':Hp} (s:v7 u H H') (hu:x6 H u):∀ {v:V} {d:D},noW d=true→HD H v d→HD H' v d
 | _,_,_,.v f=>.v f
 | _,_,n,.tup h t=>.tup (s.tups hu _ _ h) (aL5 s hu (by simpa only [noW] using n) t)
 | _,_,n,.lst (p:=p) (xs:=xs) h t=>by
  simp only [noW,Bool.and_eq_true,Bool.not_eq_true'] at n
  refine .lst (s _ _ h fun z=>?_) (aL5 s hu n.2 t)
  obtain ⟨g,m,r,hl',_⟩:=hu
  rw [z,hl'] at h
  cases h
  cases t with
   | cons h1 t=>cases t with
    | cons h2 t=>cases t with
     | cons h3 t=>cases t with
      | nil=>
       rw [HD.int_inv h1,HD.int_inv h2,HD.int_inv h3] at n
       cases n.1
theorem aL5 {u:Addr} {H H':Hp} (s:v7 u H H') (hu:x6 H u):∀ {vs:List V} {ds:List D},am4 ds=true→HDs H vs ds→HDs H' vs ds
 | _,_,_,.nil=>.nil
 | _,_,n,.cons h t=>by
  simp only [am4,Bool.and_eq_true] at n
  exact .cons (bi1 s hu n.1 h) (aL5 s hu n.2 t)
end
theorem K3 {H:Hp} {a:Addr} {q:Rat} (h:H a=some (.tup (p9 q))):HD H (.ref a) (x5 q):=.tup h (.cons (.v rfl) (.cons (.v rfl) .nil))
theorem as0 {H:Hp} {v:V} {q:Rat} (h:HD H v (x5 q)):∃ p,v = .ref p∧H p=some (.tup (p9 q)):=by
 unfold x5 at h
 cases h with
 | @tup p xs _ hS t=>
  cases t with
  | cons h1 t=>cases t with
   | cons h2 t=>cases t with
    | nil=>cases h1;cases h2;exact ⟨p,rfl,hS⟩
theorem x8.hds {H:Hp}:∀ {vs:List V} {B:List (Rat × Rat)},x8 H vs B→HDs H vs (B.map u0)
 | _,_,.nil=>.nil
 | _,_,.cons h ha hb t=>.cons (.tup h (.cons (K3 ha) (.cons (K3 hb) .nil))) t.hds
theorem ax5 {H:Hp}:∀ {B:List (Rat × Rat)} {vs:List V},HDs H vs (B.map u0)→x8 H vs B
 | [],_,h=>by cases h;exact .nil
 | s :: B,_,h=>by
  rw [List.map_cons] at h
  cases h with
  | cons h t=>
   unfold u0 at h
   cases h with
   | @tup p xs _ hS u=>
    cases u with
    | cons h1 u=>cases u with
     | cons h2 u=>cases u with
      | nil=>
       obtain ⟨a,rfl,ea⟩:=as0 h1
       obtain ⟨b,rfl,eb⟩:=as0 h2
       exact .cons hS ea eb (ax5 t)
theorem bm7 {H:Hp} {v:V} {B:List (Rat × Rat)} (h:HD H v (L5 B)):∃ a vs,v = .ref a∧H a=some (.lst vs)∧x8 H vs B:=by
 unfold L5 at h
 cases h with
 | @lst p xs _ hS t=>exact ⟨p,xs,rfl,hS,ax5 t⟩
def dI (t b:Int):D:=.tup [.v (.int t),.v (.int b)]
def aA0 (l h:Rat):List D:=[.tup [x5 h,x5 l],.lst [x5 l,x5 h],.tup [x5 l],.tup [x5 l,x5 h,x5 h],.tup [x5 l,.v .non],.v .non,.v (.int 3),.tup [x5 l,dI h.num (0 - (h.den:Int))]]
def az9 (l h:Rat):List D:=[.tup [dI (l.num * 3) ((l.den:Int) * 3),x5 h],.tup [.tup [.v (.bl true),.v (.int 1)],x5 h],.tup [x5 l,.lst [.v (.int h.num),.v (.int (h.den:Int))]],.tup [.v (.str "1"),x5 h],.tup [],.v (.str "0/1")]
theorem aW0 {l h:Rat} (hl:BdN 1000 l) (hh:BdN 1000 h):∀ d∈aA0 l h++az9 l h,smD 2000 d∧noW d=true:=by
 have a1:=D8 (n:=2000) hl.n (by decide)
 have a2:=D8 (n:=2000) hl.d (by decide)
 have b1:=D8 (n:=2000) hh.n (by decide)
 have b2:=D8 (n:=2000) hh.d (by decide)
 have a2':((l.den:Int)).natAbs<2 ^ 2000:=by rw [Int.natAbs_natCast];exact a2
 have b2':((h.den:Int)).natAbs<2 ^ 2000:=by rw [Int.natAbs_natCast];exact b2
 have c1:(0 - (h.den:Int)).natAbs<2 ^ 2000:=by rw [show (0 - (h.den:Int)).natAbs=h.den by omega];exact b2
 have t3:∀ x:Int,x.natAbs<2 ^ 1000→(x * 3).natAbs<2 ^ 2000:=fun x hx=>by
  have:(x * 3).natAbs<2 ^ 1002:=by rw [Int.natAbs_mul,show 2 ^ 1002=2 ^ 1000 * 4 from Nat.pow_add 2 1000 2];show x.natAbs * 3<_;omega
  exact D8 this (by decide)
 have d1:=t3 _ hl.n
 have d2:((l.den:Int) * 3).natAbs<2 ^ 2000:=t3 _ (by rw [Int.natAbs_natCast];exact hl.d)
 have g1:(1:Int).natAbs<2 ^ 2000:=D8 (m:=3) (by decide) (by decide)
 have g3:(3:Int).natAbs<2 ^ 2000:=D8 (m:=3) (by decide) (by decide)
 intro d hd
 simp only [aA0,az9,List.cons_append,List.nil_append,List.mem_cons,List.not_mem_nil,or_false] at hd
 rcases hd with rfl | rfl | rfl | rfl | rfl | rfl | rfl | rfl | rfl | rfl | rfl | rfl | rfl | rfl <;>
  simp only [smD,U1,x5,dI,noW,am4,ap4,and_true,Bool.and_true,Bool.not_false,and_self] <;> first | trivial | (refine ⟨?_,rfl⟩;simp only [a1,a2',b1,b2',c1,d1,d2,g1,g3,and_true,and_self]) | simp only [a1,a2',b1,b2',c1,d1,d2,g1,g3,and_true,and_self]
theorem ao5 {ds:List D} (h:∀ d∈ds,noW d=true) (x:∃ d∈ds,∀ i,d≠.v (.int i)):noW (.lst ds)=true:=by
 simp only [noW,Bool.and_eq_true,Bool.not_eq_true']
 refine ⟨?_,(aa2 _).mpr h⟩
 unfold ap4
 split
 ·rename_i a b c
  obtain ⟨d,hd,hn⟩:=x
  simp only [List.mem_cons,List.not_mem_nil,or_false] at hd
  rcases hd with rfl | rfl | rfl <;> exact absurd rfl (hn _)
 ·rfl
theorem bb5 (vs:List V) (m:Nat):af5 vs none (some (m:Int))=vs.take m:=by
 by_cases h:m≤vs.length
 ·exact at3 vs h
 ·unfold af5
  have e1:HT.sIx vs.length 0 none=0:=by simp [HT.sIx]
  have e2:HT.sIx vs.length vs.length (some (m:Int))=vs.length:=by
   simp only [HT.sIx]
   split <;> omega
  rw [e1,e2,List.drop_zero,Nat.sub_zero,List.take_length,List.take_of_length_le (by omega)]
section
variable {P:Program} {w:World} {K:PySem.W.Frag} {mg:Str→Option Value} {base:Heap}
def aV9 (K:PySem.W.Frag):Sp:=fun vs H Q _=>∃ u a ts B,vs=[.ref u,.ref a]∧x6 H u∧a≠u∧H a=some (.lst ts)∧x8 H ts B∧2≤B.length∧B.length≤8∧(∀ s∈B,BdN 1000 s.1∧BdN 1000 s.2)∧∀ v d H',v7 u H H'→x6 H' u→HD H' v d→smD 2000 d→noW d=true→Q v H'
abbrev K0:Stmt:=top 72
theorem E6:i9 ["_law_urn_here","_law_box","_law_place","_law_way","_law_some","_law_low_here","_law_high"] ["_law_urn_here","_law_box"] (d3 K0):=by and_intros
set_option maxHeartbeats 0 in
theorem aD1 {f f1:Addr} (d:Df K mg "_law_bent" K0 ["_law_urn_here","_law_box"] f) (G__law_draw:Def P w K mg base CX0 1 "_law_draw" f1 ["_law_urn_here","_law_many"] G4) (n_len:mg "len" = none) (n_list:mg "list" = none) (n_tuple:mg "tuple" = none):Def P w K mg base CX0 2 "_law_bent" f ["_law_urn_here","_law_box"] (aV9 K):=by
 refine d.ok (N:=["_law_urn_here","_law_box","_law_place","_law_way","_law_some","_law_low_here","_law_high"]) E6 (by rintro vs H Q E ⟨_,_,_,_,h,_⟩;rw [h];rfl) (fun cdv A outer s H vs Q E hr h=>?_)
 obtain ⟨u,a,ts,B,rfl,hU,au,ha,sp,l1,l8,hB,k⟩:=h
 refine ⟨_,(d4 (j8 (i:=2) E6.nd rfl (Or.inl rfl) (d7 G__law_draw hr (b6 (pv 0) (b6 (d8 m5 rfl n_len (by decide +kernel) (b6 (pv 1) b7)) b7)) i0))
   (d4 (j8 (i:=3) E6.nd rfl (Or.inl rfl) (d7 G__law_draw hr (b6 (pv 0) (b6 b9 b7)) i0))
   (d4 (K8 (i6 t4 (pv 1) (pv 2) (fun _ _=>rfl)) (show PG _ _ (R9 K 2 (v8 (v3 5) (v8 (v3 6) S8))) from by (refine C2 (n:=2) ?_ ?_ ?_ ?_;rfl;(refine j0 ?_ ?_ ?_;(exact (g8 (i:=5) E6.nd rfl (Or.inl rfl)));(refine j0 ?_ ?_ ?_;(exact (g8 (i:=6) E6.nd rfl (Or.inl rfl)));(exact A4);rfl);rfl);rfl;rfl)))
   (d4 (j8 (i:=4) E6.nd rfl (Or.inl rfl) (v9 (b6 (m6 (b6 (pv 6) (b6 (pv 5) b7))) (b6 (v9 (b6 (pv 5) (b6 (pv 6) b7))) (b6 (m6 (b6 (pv 5) b7)) (b6 (m6 (b6 (pv 5) (b6 (pv 6) (b6 (pv 6) b7)))) (b6 (m6 (b6 (pv 5) (b6 ai8 b7))) (b6 ai8 (b6 b9 (b6 (m6 (b6 (pv 5) (b6 (m6 (b6 (i6 j6 (pv 6) b9 (fun _ _=>rfl)) (b6 (d9 M7 b9 (i6 j6 (pv 6) b9 (fun _ _=>rfl))) b7))) b7))) b7))))))))))
   (d4 (j8 (i:=4) E6.nd rfl (Or.inl rfl) (d9 O8 (pv 4) (v9 (b6 (m6 (b6 (m6 (b6 (d9 t9 (i6 j6 (pv 5) b9 (fun _ _=>rfl)) b9) (b6 (d9 t9 (i6 j6 (pv 5) b9 (fun _ _=>rfl)) b9) b7))) (b6 (pv 6) b7))) (b6 (m6 (b6 (m6 (b6 G0 (b6 b9 b7))) (b6 (pv 6) b7))) (b6 (m6 (b6 (pv 5) (b6 (N1 Z3 rfl n_list (by decide +kernel) (b6 (pv 6) b7)) b7))) (b6 (m6 (b6 R8 (b6 (pv 6) b7))) (b6 (m6 b7) (b6 R8 b7)))))))))
   (d4 (A5 (p6 ad1 (pv 3) b9 (o0 _)) (d6 (h9 (d9 O8 (d9 O8 (L4 P2 (pv 1) K6 (K5 (pv 2))) (v9 (b6 (i6 t4 (pv 4) (pv 3) (fun _ _=>rfl)) b7))) (L4 P2 (pv 1) (K5 (d9 N7 (pv 2) b9)) K6)))) p8)
   (d4 (A5 (p6 ak9 (pv 3) b9 (o0 _)) (d6 (h9 (d9 O8 (L4 P2 (pv 1) K6 (K5 (N5 E5 b9))) (v9 (b6 (m6 (b6 (m6 (b6 (d9 M7 b9 (pv 2)) (b6 b9 b7))) (b6 (i6 j6 (i6 t4 (pv 1) (N5 E5 b9) (fun _ _=>rfl)) b9 (fun _ _=>rfl)) b7))) b7))))) p8)
   (d6 (h9 (i6 t4 (v9 (b6 (N1 av8 rfl n_tuple (by decide +kernel) (b6 (pv 1) b7)) (b6 (L4 P2 (pv 1) K6 (K5 b9)) (b6 (v9 b7) (b6 (L4 P2 (d9 O8 (d9 O8 (pv 1) (pv 1)) (pv 1)) K6 (K5 b9)) (b6 (d9 O8 (pv 1) (v9 (b6 ai8 b7))) (b6 ai8 (b6 R8 (b6 (v9 (b6 (pv 1) b7)) (b6 G0 b7)))))))))) (d7 G__law_draw hr (b6 (pv 0) (b6 b9 b7)) i0) (fun _ _=>rfl))))))))))),?_⟩
 rw [show start ["_law_urn_here","_law_box","_law_place","_law_way","_law_some","_law_low_here","_law_high"] [.ref u,.ref a]=[some (.ref u),some (.ref a),none,none,none,none,none] from rfl]
 have lts:=sp.length
 refine i8 (fun σ H1=>∃ pl:Nat,σ=[some (.ref u),some (.ref a),some (.int (pl:Int)),none,none,none,none]∧v7 u H H1∧x6 H1 u∧pl<ts.length) (fun N hN=>?_) ?_
 ·simp! [G4]
  refine ⟨_,.inl (SqL.of ha),hU,by omega,by omega,fun r H1 r0 r1 s1 u1=>?_⟩
  obtain ⟨m,rfl⟩:∃ m:Nat,r=(m:Int):=⟨r.toNat,by omega⟩
  exact hN _ _ ⟨m,rfl,s1,u1,by omega⟩
 rintro σ H1 ⟨pl,rfl,s1,u1,hpl⟩
 refine i8 (fun σ H2=>∃ way:Nat,σ=[some (.ref u),some (.ref a),some (.int (pl:Int)),some (.int (way:Int)),none,none,none]∧v7 u H H2∧x6 H2 u∧way<16) (fun N hN=>?_) ?_
 ·simp! [G4]
  refine ⟨u1,by decide,by decide,fun r H2 r0 r1 s2 u2=>?_⟩
  obtain ⟨m,rfl⟩:∃ m:Nat,r=(m:Int):=⟨r.toNat,by omega⟩
  exact hN _ _ ⟨m,rfl,s1.trans s2,u2,by omega⟩
 clear s1 u1
 rintro σ H2 ⟨way,rfl,s2,u2,hw⟩
 have et:=List.getElem?_eq_getElem hpl
 generalize ts[pl]=tl at et
 have sp2:=sp.mono (s2.tups hU)
 have ha2:=s2 _ _ ha au
 obtain ⟨pp,la,lb,sl,rfl,eB,epp,ela,elb⟩:=sp2.get et
 have hsl:=hB sl (List.mem_of_getElem? eB)
 refine i8 (fun σ H3=>σ=[some (.ref u),some (.ref a),some (.int (pl:Int)),some (.int (way:Int)),none,some (.ref la),some (.ref lb)]∧H3=H2) (fun N hN=>?_) ?_
 ·subst_eqs
  exact ⟨ts,SqL.of ha2,_,C9 et,pp,rfl,_,SqT.of epp,rfl,_,_,rfl,_,_,rfl,rfl,hN _ _ ⟨rfl,rfl⟩⟩
 rintro σ H3 ⟨rfl,rfl⟩
 refine i8 (fun σ H4=>∃ aw vs,σ=[some (.ref u),some (.ref a),some (.int (pl:Int)),some (.int (way:Int)),some (.ref aw),some (.ref la),some (.ref lb)]∧d5 H3 H4∧H4 aw=some (.lst vs)∧HDs H4 vs (aA0 sl.1 sl.2)) (fun N hN=>?_) ?_
 ·subst_eqs
  refine ⟨(by decide),fun z0 hz0=>?_⟩
  have sz0:=d5.new hz0 (.tup [.ref lb,.ref la])
  have ez0:(upd H3 z0 (.tup [.ref lb,.ref la])) z0=some (.tup [.ref lb,.ref la]):=b8
  have fz0:=hz0
  generalize upd H3 z0 (.tup [.ref lb,.ref la])=Gz0 at sz0 ez0 ⊢
  refine ⟨(by decide),fun z1 hz1=>?_⟩
  have sz1:=d5.new hz1 (.lst [.ref la,.ref lb])
  have ez1:(upd Gz0 z1 (.lst [.ref la,.ref lb])) z1=some (.lst [.ref la,.ref lb]):=b8
  have fz1:=hz1
  generalize upd Gz0 z1 (.lst [.ref la,.ref lb])=Gz1 at sz1 ez1 ⊢
  refine ⟨(by decide),fun z2 hz2=>?_⟩
  have sz2:=d5.new hz2 (.tup [.ref la])
  have ez2:(upd Gz1 z2 (.tup [.ref la])) z2=some (.tup [.ref la]):=b8
  have fz2:=hz2
  generalize upd Gz1 z2 (.tup [.ref la])=Gz2 at sz2 ez2 ⊢
  refine ⟨(by decide),fun z3 hz3=>?_⟩
  have sz3:=d5.new hz3 (.tup [.ref la,.ref lb,.ref lb])
  have ez3:(upd Gz2 z3 (.tup [.ref la,.ref lb,.ref lb])) z3=some (.tup [.ref la,.ref lb,.ref lb]):=b8
  have fz3:=hz3
  generalize upd Gz2 z3 (.tup [.ref la,.ref lb,.ref lb])=Gz3 at sz3 ez3 ⊢
  refine ⟨(by decide),fun z4 hz4=>?_⟩
  have sz4:=d5.new hz4 (.tup [.ref la,.non])
  have ez4:(upd Gz3 z4 (.tup [.ref la,.non])) z4=some (.tup [.ref la,.non]):=b8
  have fz4:=hz4
  generalize upd Gz3 z4 (.tup [.ref la,.non])=Gz4 at sz4 ez4 ⊢
  refine ⟨_,SqT.of (sz4 _ _ (sz3 _ _ (sz2 _ _ (sz1 _ _ (sz0 _ _ elb))))),_,at0 _,_,SqT.of (sz4 _ _ (sz3 _ _ (sz2 _ _ (sz1 _ _ (sz0 _ _ elb))))),_,at1 _,_,rfl,(by decide),fun z5 hz5=>?_⟩
  have sz5:=d5.new hz5 (.tup [.int sl.2.num,.int (0 - (sl.2.den:Int))])
  have ez5:(upd Gz4 z5 (.tup [.int sl.2.num,.int (0 - (sl.2.den:Int))])) z5=some (.tup [.int sl.2.num,.int (0 - (sl.2.den:Int))]):=b8
  have fz5:=hz5
  generalize upd Gz4 z5 (.tup [.int sl.2.num,.int (0 - (sl.2.den:Int))])=Gz5 at sz5 ez5 ⊢
  refine ⟨(by decide),fun z6 hz6=>?_⟩
  have sz6:=d5.new hz6 (.tup [.ref la,.ref z5])
  have ez6:(upd Gz5 z6 (.tup [.ref la,.ref z5])) z6=some (.tup [.ref la,.ref z5]):=b8
  have fz6:=hz6
  generalize upd Gz5 z6 (.tup [.ref la,.ref z5])=Gz6 at sz6 ez6 ⊢
  refine ⟨(by decide),fun z7 hz7=>?_⟩
  have sz7:=d5.new hz7 (.lst [.ref z0,.ref z1,.ref z2,.ref z3,.ref z4,.non,.int 3,.ref z6])
  have ez7:(upd Gz6 z7 (.lst [.ref z0,.ref z1,.ref z2,.ref z3,.ref z4,.non,.int 3,.ref z6])) z7=some (.lst [.ref z0,.ref z1,.ref z2,.ref z3,.ref z4,.non,.int 3,.ref z6]):=b8
  have fz7:=hz7
  generalize upd Gz6 z7 (.lst [.ref z0,.ref z1,.ref z2,.ref z3,.ref z4,.non,.int 3,.ref z6])=Gz7 at sz7 ez7 ⊢
  have tz6:=sz7
  have tz5:=sz6.trans tz6
  have tz4:=sz5.trans tz5
  have tz3:=sz4.trans tz4
  have tz2:=sz3.trans tz3
  have tz1:=sz2.trans tz2
  have tz0:=sz1.trans tz1
  have tzA:=sz0.trans tz0
  exact hN _ _ ⟨z7,_,rfl,tzA,ez7,(.cons (.tup (id (tz0 _ _ ez0)) (.cons (K3 (id (tzA _ _ elb))) (.cons (K3 (id (tzA _ _ ela))) .nil))) (.cons (.lst (id (tz1 _ _ ez1)) (.cons (K3 (id (tzA _ _ ela))) (.cons (K3 (id (tzA _ _ elb))) .nil))) (.cons (.tup (id (tz2 _ _ ez2)) (.cons (K3 (id (tzA _ _ ela))) .nil)) (.cons (.tup (id (tz3 _ _ ez3)) (.cons (K3 (id (tzA _ _ ela))) (.cons (K3 (id (tzA _ _ elb))) (.cons (K3 (id (tzA _ _ elb))) .nil)))) (.cons (.tup (id (tz4 _ _ ez4)) (.cons (K3 (id (tzA _ _ ela))) (.cons (.v rfl) .nil))) (.cons (.v rfl) (.cons (.v rfl) (.cons (.tup (id (tz6 _ _ ez6)) (.cons (K3 (id (tzA _ _ ela))) (.cons (.tup (id (tz5 _ _ ez5)) (.cons (.v rfl) (.cons (.v rfl) .nil))) .nil))) .nil))))))))⟩
 rintro σ H4 ⟨aw,vs,rfl,s4,e4,i4⟩
 refine i8 (fun σ H5=>∃ aw vs,σ=[some (.ref u),some (.ref a),some (.int (pl:Int)),some (.int (way:Int)),some (.ref aw),some (.ref la),some (.ref lb)]∧d5 H3 H5∧H5 aw=some (.lst vs)∧HDs H5 vs (aA0 sl.1 sl.2++az9 sl.1 sl.2)) (fun N hN=>?_) ?_
 ·subst_eqs
  refine ⟨_,SqT.of (s4 _ _ ela),_,at0 _,_,rfl,ar4 (by decide),_,SqT.of (s4 _ _ ela),_,at1 _,_,rfl,ar4 (by decide),(by decide),fun y0 hy0=>?_⟩
  have sy0:=d5.new hy0 (.tup [.int (sl.1.num * 3),.int ((sl.1.den:Int) * 3)])
  have ey0:(upd H4 y0 (.tup [.int (sl.1.num * 3),.int ((sl.1.den:Int) * 3)])) y0=some (.tup [.int (sl.1.num * 3),.int ((sl.1.den:Int) * 3)]):=b8
  have fy0:=hy0
  generalize upd H4 y0 (.tup [.int (sl.1.num * 3),.int ((sl.1.den:Int) * 3)])=Gy0 at sy0 ey0 ⊢
  refine ⟨(by decide),fun y1 hy1=>?_⟩
  have sy1:=d5.new hy1 (.tup [.ref y0,.ref lb])
  have ey1:(upd Gy0 y1 (.tup [.ref y0,.ref lb])) y1=some (.tup [.ref y0,.ref lb]):=b8
  have fy1:=hy1
  generalize upd Gy0 y1 (.tup [.ref y0,.ref lb])=Gy1 at sy1 ey1 ⊢
  refine ⟨(by decide),fun y2 hy2=>?_⟩
  have sy2:=d5.new hy2 (.tup [.bl true,.int 1])
  have ey2:(upd Gy1 y2 (.tup [.bl true,.int 1])) y2=some (.tup [.bl true,.int 1]):=b8
  have fy2:=hy2
  generalize upd Gy1 y2 (.tup [.bl true,.int 1])=Gy2 at sy2 ey2 ⊢
  refine ⟨(by decide),fun y3 hy3=>?_⟩
  have sy3:=d5.new hy3 (.tup [.ref y2,.ref lb])
  have ey3:(upd Gy2 y3 (.tup [.ref y2,.ref lb])) y3=some (.tup [.ref y2,.ref lb]):=b8
  have fy3:=hy3
  generalize upd Gy2 y3 (.tup [.ref y2,.ref lb])=Gy3 at sy3 ey3 ⊢
  refine ⟨_,.inr (SqT.of (sy3 _ _ (sy2 _ _ (sy1 _ _ (sy0 _ _ (s4 _ _ elb)))))),fun y4 hy4=>?_⟩
  have sy4:=d5.new hy4 (.lst (p9 sl.2))
  have ey4:(upd Gy3 y4 (.lst (p9 sl.2))) y4=some (.lst (p9 sl.2)):=b8
  have fy4:=hy4
  generalize upd Gy3 y4 (.lst (p9 sl.2))=Gy4 at sy4 ey4 ⊢
  refine ⟨(by decide),fun y5 hy5=>?_⟩
  have sy5:=d5.new hy5 (.tup [.ref la,.ref y4])
  have ey5:(upd Gy4 y5 (.tup [.ref la,.ref y4])) y5=some (.tup [.ref la,.ref y4]):=b8
  have fy5:=hy5
  generalize upd Gy4 y5 (.tup [.ref la,.ref y4])=Gy5 at sy5 ey5 ⊢
  refine ⟨(by decide),fun y6 hy6=>?_⟩
  have sy6:=d5.new hy6 (.tup [.str "1",.ref lb])
  have ey6:(upd Gy5 y6 (.tup [.str "1",.ref lb])) y6=some (.tup [.str "1",.ref lb]):=b8
  have fy6:=hy6
  generalize upd Gy5 y6 (.tup [.str "1",.ref lb])=Gy6 at sy6 ey6 ⊢
  refine ⟨(by decide),fun y7 hy7=>?_⟩
  have sy7:=d5.new hy7 (.tup [])
  have ey7:(upd Gy6 y7 (.tup [])) y7=some (.tup []):=b8
  have fy7:=hy7
  generalize upd Gy6 y7 (.tup [])=Gy7 at sy7 ey7 ⊢
  refine ⟨(by decide),fun y8 hy8=>?_⟩
  have sy8:=d5.new hy8 (.lst [.ref y1,.ref y3,.ref y5,.ref y6,.ref y7,.str "0/1"])
  have ey8:(upd Gy7 y8 (.lst [.ref y1,.ref y3,.ref y5,.ref y6,.ref y7,.str "0/1"])) y8=some (.lst [.ref y1,.ref y3,.ref y5,.ref y6,.ref y7,.str "0/1"]):=b8
  have fy8:=hy8
  generalize upd Gy7 y8 (.lst [.ref y1,.ref y3,.ref y5,.ref y6,.ref y7,.str "0/1"])=Gy8 at sy8 ey8 ⊢
  have ty7:=sy8
  have ty6:=sy7.trans ty7
  have ty5:=sy6.trans ty6
  have ty4:=sy5.trans ty5
  have ty3:=sy4.trans ty4
  have ty2:=sy3.trans ty3
  have ty1:=sy2.trans ty2
  have ty0:=sy1.trans ty1
  have tyA:=sy0.trans ty0
  have i4':=(HDs.same tyA i4)
  have i2:HDs Gy8 [.ref y1,.ref y3,.ref y5,.ref y6,.ref y7,.str "0/1"] (az9 sl.1 sl.2):=(.cons (.tup (id (ty1 _ _ ey1)) (.cons (.tup (id (ty0 _ _ ey0)) (.cons (.v rfl) (.cons (.v rfl) .nil))) (.cons (K3 (id (tyA _ _ (s4 _ _ elb)))) .nil))) (.cons (.tup (id (ty3 _ _ ey3)) (.cons (.tup (id (ty2 _ _ ey2)) (.cons (.v rfl) (.cons (.v rfl) .nil))) (.cons (K3 (id (tyA _ _ (s4 _ _ elb)))) .nil))) (.cons (.tup (id (ty5 _ _ ey5)) (.cons (K3 (id (tyA _ _ (s4 _ _ ela)))) (.cons (.lst (id (ty4 _ _ ey4)) (.cons (.v rfl) (.cons (.v rfl) .nil))) .nil))) (.cons (.tup (id (ty6 _ _ ey6)) (.cons (.v rfl) (.cons (K3 (id (tyA _ _ (s4 _ _ elb)))) .nil))) (.cons (.tup (id (ty7 _ _ ey7)) .nil) (.cons (.v rfl) .nil))))))
  have lv:=i4.length
  have lv:vs.length=8:=i4.length
  refine ⟨vs,tyA _ _ e4,_,ey8,Nat.le_of_lt (C1 (by rw [lv];simp)),fun y9 hy9=>?_⟩
  have sy9:=d5.new hy9 (.lst (vs++[.ref y1,.ref y3,.ref y5,.ref y6,.ref y7,.str "0/1"]))
  exact hN _ _ ⟨y9,_,rfl,s4.trans (tyA.trans sy9),b8,(HDs.append i4' i2).same sy9⟩
 rintro σ H5 ⟨aw',vs',rfl,s5,e5,i5⟩
 simp! [G4]
 have sx5:v7 u H H5:=s2.trans (d5.x s5 u)
 have u5:=d5.urn s5 u2
 have a5:=s5 _ _ ha2
 have sp5:=sp2.mono s5.tups
 have hok:=aW0 hsl.1 hsl.2
 have lv:vs'.length=14:=i5.length
 have fsp:∀ d∈B.map u0,smD 2000 d∧noW d=true:=fun d hd=>by
  obtain ⟨s,hs,rfl⟩:=List.mem_map.mp hd
  refine ⟨?_,aH0 s⟩
  simp only [u0,smD,U1,and_true]
  exact ⟨ab4 ((hB s hs).1.mono (by decide)),ab4 ((hB s hs).2.mono (by decide))⟩
 have isB:∀ H',d5 H5 H'→HDs H' ts (B.map u0):=fun H' s'=>(sp5.mono s'.tups).hds
 refine v6 (fun h14=>?_) (fun h14=>⟨rfl,v6 (fun e14=>?_) (fun e14=>?_)⟩)
 ·have hwl:way<vs'.length:=by omega
  have ew:=List.getElem?_eq_getElem hwl
  generalize vs'[way]=xw at ew
  obtain ⟨dw,hdw,iw⟩:=i5.get ew
  have okw:=hok dw (List.mem_of_getElem? hdw)
  refine ⟨ts,SqL.of a5,fun p0 hp0=>?_⟩
  rw [at3 ts (by omega)]
  have S0:=d5.new hp0 (.lst (ts.take pl))
  refine ⟨vs',SqL.of (S0 _ _ e5),xw,C9 ew,ai4,fun p1 hp1=>?_⟩
  have S1:=d5.new hp1 (.lst [xw])
  refine ⟨_,S1 _ _ b8,_,b8,Nat.le_of_lt (C1 (by rw [List.length_take,List.length_singleton];omega)),fun p2 hp2=>?_⟩
  have S2:=d5.new hp2 (.lst (ts.take pl++[xw]))
  refine ⟨ts,SqL.of (S2 _ _ (S1 _ _ (S0 _ _ a5))),fun p3 hp3=>?_⟩
  rw [show (pl:Int)+1=((pl+1:Nat):Int) by omega,aI0 ts (by omega)]
  have S3:=d5.new hp3 (.lst (ts.drop (pl+1)))
  refine ⟨_,S3 _ _ b8,_,b8,Nat.le_of_lt (C1 (by rw [List.length_append,List.length_take,List.length_drop,List.length_singleton];omega)),fun p4 hp4=>?_⟩
  have S4:=d5.new hp4 (.lst (ts.take pl++[xw]++ts.drop (pl+1)))
  have S:=S0.trans (S1.trans (S2.trans (S3.trans S4)))
  have ib:=isB _ S
  have iD:=((ib.take pl).append (.cons (iw.same S) .nil)).append (ib.drop (pl+1))
  refine k (.ref p4) (.lst ((B.map u0).take pl++[dw]++(B.map u0).drop (pl+1))) _ (sx5.trans (d5.x S u)) (d5.urn S u5) (.lst (id b8) iD) ?_ ?_
  ·rw [smD,Q3]
   intro d hd
   rcases List.mem_append.mp hd with z | z
   ·rcases List.mem_append.mp z with z | z
    ·exact (fsp d (List.mem_of_mem_take z)).1
    ·rw [List.mem_singleton.mp z];exact okw.1
   ·exact (fsp d (List.mem_of_mem_drop z)).1
  ·refine ao5 ?_ ?_
   ·intro d hd
    rcases List.mem_append.mp hd with z | z
    ·rcases List.mem_append.mp z with z | z
     ·exact (fsp d (List.mem_of_mem_take z)).2
     ·rw [List.mem_singleton.mp z];exact okw.2
    ·exact (fsp d (List.mem_of_mem_drop z)).2
   ·by_cases h0:pl=0
    ·have h1:1<B.length:=by omega
     refine ⟨u0 B[1],List.mem_append_right _ ?_,fun i z=>by cases z⟩
     rw [List.mem_iff_getElem?]
     exact ⟨0,by rw [List.getElem?_drop,h0,List.getElem?_map,List.getElem?_eq_getElem h1];rfl⟩
    ·have h1:0<B.length:=by omega
     refine ⟨u0 B[0],List.mem_append_left _ (List.mem_append_left _ ?_),fun i z=>by cases z⟩
     rw [List.mem_iff_getElem?]
     exact ⟨0,by rw [List.getElem?_take,if_pos (by omega),List.getElem?_map,List.getElem?_eq_getElem h1];rfl⟩
 ·have hl1:ts.length - 1<ts.length:=by omega
  have exl:=List.getElem?_eq_getElem hl1
  generalize ts[ts.length - 1]=xl at exl
  obtain ⟨q1,q2,q3,sq,rfl,eBq,eq1,eq2,eq3⟩:=sp5.get exl
  refine ⟨ts,SqL.of a5,fun p0 hp0=>⟨v5,fun p1 hp1=>?_⟩⟩
  rw [aP2] at *
  have S0:=d5.new hp0 (.lst (ts.take (ts.length - 1)))
  have S1:=d5.new hp1 (.tup [.int (0 - (pl:Int)),.int 1])
  refine ⟨ts,SqL.of (S1 _ _ (S0 _ _ a5)),_,aa5 exl,q1,rfl,_,SqT.of (S1 _ _ (S0 _ _ eq1)),_,rfl,v5,fun p2 hp2=>⟨ai4,fun p3 hp3=>?_⟩⟩
  have S2:=d5.new hp2 (.tup [.ref p1,.ref q3])
  have S3:=d5.new hp3 (.lst [.ref p2])
  refine ⟨_,S3 _ _ (S2 _ _ (S1 _ _ b8)),_,b8,Nat.le_of_lt (C1 (by rw [List.length_take,List.length_singleton];omega)),fun p4 hp4=>?_⟩
  have S4:=d5.new hp4 (.lst (ts.take (ts.length - 1)++[.ref p2]))
  have S34:=S3.trans S4
  have S:=S0.trans (S1.trans (S2.trans S34))
  have hbq:=(hB sq (List.mem_of_getElem? eBq)).2
  have e1:=S34 _ _ (S2 _ _ (show upd (upd H5 p0 (.lst (ts.take (ts.length - 1)))) p1 (.tup [.int (0 - (pl:Int)),.int 1]) p1=some (.tup [.int (0 - (pl:Int)),.int 1]) from b8))
  have e2:=S34 _ _ (show upd (upd (upd H5 p0 (.lst (ts.take (ts.length - 1)))) p1 (.tup [.int (0 - (pl:Int)),.int 1])) p2 (.tup [.ref p1,.ref q3]) p2=some (.tup [.ref p1,.ref q3]) from b8)
  refine k (.ref p4) (.lst ((B.map u0).take (ts.length - 1)++[.tup [dI (0 - (pl:Int)) 1,x5 sq.2]])) _ (sx5.trans (d5.x S u)) (d5.urn S u5) (.lst (id b8) (((isB _ S).take _).append (.cons (.tup (id e2) (.cons (.tup (id e1) (.cons (.v rfl) (.cons (.v rfl) .nil))) (.cons (K3 (id (S _ _ eq3))) .nil))) .nil))) ?_ ?_
  ·rw [smD,Q3]
   intro d hd
   rcases List.mem_append.mp hd with z | z
   ·exact (fsp d (List.mem_of_mem_take z)).1
   ·rw [List.mem_singleton.mp z]
    simp only [smD,U1,dI,and_true]
    exact ⟨⟨D8 (m:=10) (by omega) (by decide),D8 (m:=10) (by decide) (by decide)⟩,ab4 (hbq.mono (by decide))⟩
  ·refine ao5 ?_ ⟨_,List.mem_append_right _ List.mem_cons_self,fun i z=>by cases z⟩
   intro d hd
   rcases List.mem_append.mp hd with z | z
   ·exact (fsp d (List.mem_of_mem_take z)).2
   ·rw [List.mem_singleton.mp z]
    simp [noW,am4,dI,aO1]
 ·refine ⟨ts,.inl ⟨SqL.of a5,fun w0 hw0=>?_⟩⟩
  have sw0:=d5.new hw0 (.tup ts)
  have ew0:(upd H5 w0 (.tup ts)) w0=some (.tup ts):=b8
  have fw0:=hw0
  generalize upd H5 w0 (.tup ts)=Gw0 at sw0 ew0 ⊢
  refine ⟨ts,SqL.of (sw0 _ _ a5),fun w1 hw1=>?_⟩
  rw [show af5 ts none (some 1)=ts.take 1 from at3 ts (m:=1) (by omega)]
  have sw1:=d5.new hw1 (.lst (ts.take 1))
  have ew1:(upd Gw0 w1 (.lst (ts.take 1))) w1=some (.lst (ts.take 1)):=b8
  have fw1:=hw1
  generalize upd Gw0 w1 (.lst (ts.take 1))=Gw1 at sw1 ew1 ⊢
  refine ⟨by decide,fun w2 hw2=>?_⟩
  have sw2:=d5.new hw2 (.lst [])
  have ew2:(upd Gw1 w2 (.lst [])) w2=some (.lst []):=b8
  have fw2:=hw2
  generalize upd Gw1 w2 (.lst [])=Gw2 at sw2 ew2 ⊢
  refine ⟨ts,(sw2 _ _ (sw1 _ _ (sw0 _ _ a5))),ts,(sw2 _ _ (sw1 _ _ (sw0 _ _ a5))),Nat.le_of_lt (C1 (by (try simp only [List.length_append,List.length_cons,List.length_nil]);omega)),fun w3 hw3=>?_⟩
  have sw3:=d5.new hw3 (.lst (ts++ts))
  have ew3:(upd Gw2 w3 (.lst (ts++ts))) w3=some (.lst (ts++ts)):=b8
  have fw3:=hw3
  generalize upd Gw2 w3 (.lst (ts++ts))=Gw3 at sw3 ew3 ⊢
  refine ⟨_,ew3,ts,(sw3 _ _ (sw2 _ _ (sw1 _ _ (sw0 _ _ a5)))),Nat.le_of_lt (C1 (by (try simp only [List.length_append,List.length_cons,List.length_nil]);omega)),fun w4 hw4=>?_⟩
  have sw4:=d5.new hw4 (.lst (ts++ts++ts))
  have ew4:(upd Gw3 w4 (.lst (ts++ts++ts))) w4=some (.lst (ts++ts++ts)):=b8
  have fw4:=hw4
  generalize upd Gw3 w4 (.lst (ts++ts++ts))=Gw4 at sw4 ew4 ⊢
  refine ⟨_,SqL.of ew4,fun w5 hw5=>?_⟩
  rw [show af5 (ts++ts++ts) none (some 9)=(ts++ts++ts).take 9 from bb5 _ 9]
  have sw5:=d5.new hw5 (.lst ((ts++ts++ts).take 9))
  have ew5:(upd Gw4 w5 (.lst ((ts++ts++ts).take 9))) w5=some (.lst ((ts++ts++ts).take 9)):=b8
  have fw5:=hw5
  generalize upd Gw4 w5 (.lst ((ts++ts++ts).take 9))=Gw5 at sw5 ew5 ⊢
  refine ⟨by decide,fun w6 hw6=>?_⟩
  have sw6:=d5.new hw6 (.lst [.non])
  have ew6:(upd Gw5 w6 (.lst [.non])) w6=some (.lst [.non]):=b8
  have fw6:=hw6
  generalize upd Gw5 w6 (.lst [.non])=Gw6 at sw6 ew6 ⊢
  refine ⟨ts,(sw6 _ _ (sw5 _ _ (sw4 _ _ (sw3 _ _ (sw2 _ _ (sw1 _ _ (sw0 _ _ a5))))))),_,ew6,Nat.le_of_lt (C1 (by (try simp only [List.length_append,List.length_cons,List.length_nil]);omega)),fun w7 hw7=>?_⟩
  have sw7:=d5.new hw7 (.lst (ts++[.non]))
  have ew7:(upd Gw6 w7 (.lst (ts++[.non]))) w7=some (.lst (ts++[.non])):=b8
  have fw7:=hw7
  generalize upd Gw6 w7 (.lst (ts++[.non]))=Gw7 at sw7 ew7 ⊢
  refine ⟨by decide,fun w8 hw8=>?_⟩
  have sw8:=d5.new hw8 (.lst [.ref a])
  have ew8:(upd Gw7 w8 (.lst [.ref a])) w8=some (.lst [.ref a]):=b8
  have fw8:=hw8
  generalize upd Gw7 w8 (.lst [.ref a])=Gw8 at sw8 ew8 ⊢
  refine ⟨by decide,fun w9 hw9=>?_⟩
  have sw9:=d5.new hw9 (.lst [.ref w0,.ref w1,.ref w2,.ref w5,.ref w7,.non,.str "box",.ref w8,.bl true])
  have ew9:(upd Gw8 w9 (.lst [.ref w0,.ref w1,.ref w2,.ref w5,.ref w7,.non,.str "box",.ref w8,.bl true])) w9=some (.lst [.ref w0,.ref w1,.ref w2,.ref w5,.ref w7,.non,.str "box",.ref w8,.bl true]):=b8
  have fw9:=hw9
  generalize upd Gw8 w9 (.lst [.ref w0,.ref w1,.ref w2,.ref w5,.ref w7,.non,.str "box",.ref w8,.bl true])=Gw9 at sw9 ew9 ⊢
  have tw8:=sw9
  have tw7:=sw8.trans tw8
  have tw6:=sw7.trans tw7
  have tw5:=sw6.trans tw6
  have tw4:=sw5.trans tw5
  have tw3:=sw4.trans tw4
  have tw2:=sw3.trans tw3
  have tw1:=sw2.trans tw2
  have tw0:=sw1.trans tw1
  have twA:=sw0.trans tw0
  have uw:=d5.urn twA u5
  have w9u:w9≠u:=U0 (d5.urn (sw0.trans (sw1.trans (sw2.trans (sw3.trans (sw4.trans (sw5.trans (sw6.trans (sw7.trans sw8)))))))) u5) fw9
  refine ⟨uw,by decide,by decide,fun r HZ r0 r9 sZ uZ=>⟨_,SqL.of (sZ _ _ ew9 w9u),?_⟩⟩
  have ib:=isB _ twA
  have sxZ:=(sx5.trans (d5.x twA u)).trans sZ
  have fin:∀ (v:V) (d:D),atI [V.ref w0,V.ref w1,V.ref w2,V.ref w5,V.ref w7,V.non,V.str "box",V.ref w8,V.bl true] r=some v→HD Gw9 v d→smD 2000 d→noW d=true→∃ x,atI [V.ref w0,V.ref w1,V.ref w2,V.ref w5,V.ref w7,V.non,V.str "box",V.ref w8,V.bl true] r=some x∧Q x HZ:=fun v d ea iv sv nv=>⟨v,ea,k v d HZ sxZ uZ (bi1 sZ uw nv iv) sv nv⟩
  have smB:∀ ds:List D,(∀ d∈ds,d∈B.map u0)→U1 2000 ds:=fun ds h=>(Q3 _).mpr fun d hd=>(fsp d (h d hd)).1
  have nwB:∀ ds:List D,(∀ d∈ds,d∈B.map u0)→noW (.lst ds)=true:=fun ds h=>by
   simp only [noW,Bool.and_eq_true,Bool.not_eq_true']
   refine ⟨ap3 fun d hd i z=>?_,(aa2 _).mpr fun d hd=>(fsp d (h d hd)).2⟩
   obtain ⟨s,_,rfl⟩:=List.mem_map.mp (h d hd)
   cases z
  have:r=0∨r=1∨r=2∨r=3∨r=4∨r=5∨r=6∨r=7∨r=8:=by omega
  rcases this with rfl | rfl | rfl | rfl | rfl | rfl | rfl | rfl | rfl
  ·exact fin (.ref w0) (.tup (B.map u0)) rfl (.tup (id (tw0 _ _ ew0)) ib) (smB _ fun _ h=>h) (by rw [noW];exact (aa2 _).mpr fun d hd=>(fsp d hd).2)
  ·exact fin (.ref w1) (.lst ((B.map u0).take 1)) rfl (.lst (id (tw1 _ _ ew1)) (ib.take 1)) (smB _ fun _ h=>List.mem_of_mem_take h) (nwB _ fun _ h=>List.mem_of_mem_take h)
  ·exact fin (.ref w2) (.lst []) rfl (.lst (id (tw2 _ _ ew2)) .nil) trivial rfl
  ·have m3:∀ d∈(B.map u0++B.map u0++B.map u0).take 9,d∈B.map u0:=fun d h=>by
    have:=List.mem_of_mem_take h
    simp only [List.mem_append,or_self] at this
    exact this
   exact fin (.ref w5) (.lst ((B.map u0++B.map u0++B.map u0).take 9)) rfl (.lst (id (tw5 _ _ ew5)) (((ib.append ib).append ib).take 9)) (smB _ m3) (nwB _ m3)
  ·refine fin (.ref w7) (.lst (B.map u0++[.v .non])) rfl (.lst (id (tw7 _ _ ew7)) (ib.append (.cons (.v rfl) .nil))) ?_ (ao5 ?_ ⟨_,List.mem_append_right _ List.mem_cons_self,fun i z=>by cases z⟩)
   ·rw [smD,Q3]
    intro d hd
    rcases List.mem_append.mp hd with z | z
    ·exact (fsp d z).1
    ·rw [List.mem_singleton.mp z];trivial
   ·intro d hd
    rcases List.mem_append.mp hd with z | z
    ·exact (fsp d z).2
    ·rw [List.mem_singleton.mp z];rfl
  ·exact fin .non (.v .non) rfl (.v rfl) trivial rfl
  ·exact fin (.str "box") (.v (.str "box")) rfl (.v rfl) trivial rfl
  ·exact fin (.ref w8) (.lst [L5 B]) rfl (.lst (id (tw8 _ _ ew8)) (.cons (.lst (id (twA _ _ a5)) ib) .nil)) (by rw [smD,U1];exact ⟨smB _ fun _ h=>h,trivial⟩) (ao5 (fun d hd=>by rw [List.mem_singleton.mp hd];exact be9 B) ⟨_,List.mem_cons_self,fun i z=>by cases z⟩)
  ·exact fin (.bl true) (.v (.bl true)) rfl (.v rfl) trivial rfl
end
section
variable {P:Program} {w:World} {K:PySem.W.Frag} {mg:Str→Option Value} {base:Heap}
abbrev J3:Stmt:=top 57
theorem aA8:i9 ["_law_one","_law_other_here"] ["_law_one","_law_other_here"] (d3 J3):=by and_intros
theorem aC8 {f fl:Addr} (d:Df K mg "_law_less" J3 ["_law_one","_law_other_here"] f) (G__law_low:Def P w K mg base CX0 1 "_law_low" fl ["_law_top","_law_bottom"] ak5):Def P w K mg base CX0 2 "_law_less" f ["_law_one","_law_other_here"] (R6 K (· - ·)):=by
 refine d.ok (N:=["_law_one","_law_other_here"]) aA8 (by rintro vs H Q E ⟨x,y,p,q,m,n,h,_⟩;rw [h];rfl) (fun cdv A outer s H vs Q E hr h=>?_)
 obtain ⟨x,y,p,q,m,n,rfl,⟨ap,rfl,hp⟩,⟨aq,rfl,hq⟩,bp,bq,hmn,k⟩:=h
 refine ⟨_,(d6 (h9 (d7 G__law_low hr (b6 (d9 M7 (d9 t9 (i6 j6 (pv 0) b9 (fun _ _=>rfl)) (i6 j6 (pv 1) b9 (fun _ _=>rfl))) (d9 t9 (i6 j6 (pv 1) b9 (fun _ _=>rfl)) (i6 j6 (pv 0) b9 (fun _ _=>rfl)))) (b6 (d9 t9 (i6 j6 (pv 0) b9 (fun _ _=>rfl)) (i6 j6 (pv 1) b9 (fun _ _=>rfl))) b7)) i0))),?_⟩
 rw [show start ["_law_one","_law_other_here"] [.ref ap,.ref aq]=[some (.ref ap),some (.ref aq)] from rfl]
 subst_eqs
 refine ⟨_,hp,_,at0 p,_,hq,_,at1 q,_,rfl,_,rfl,K1 bp.n bq.d' (by omega),_,hq,_,at0 q,_,hp,_,at1 p,_,rfl,_,rfl,K1 bq.n bp.d' (by omega),_,hp,_,at1 p,_,hq,_,at1 q,_,rfl,_,rfl,K1 bp.d' bq.d' (by omega),?_⟩
 refine ⟨_,_,rfl,ap0 p q,bn4 bp bq hmn,?_⟩
 rw [←aJ2]
 exact k
end
def hc (a:Nat→Rat) (i j:Nat):Rat:=if (i+j) % 2=1 then a i * a j else 0
def hf (a:Nat→Rat):Nat→Nat→Rat
 | 0,j=>hc a 0 (j+1)
 | i+1,j=>hc a (i+1) (j+1) - hf a i (j+1)
def pw (x:Rat):Nat→Rat
 | 0=>1
 | i+1=>pw x i * x
theorem ah9 (c:Rat) (f:Nat→Rat):∀ n,c * t8 f n=t8 (fun i=>c * f i) n
 | 0=>by simp [t8]
 | n+1=>by rw [t8,t8,←ah9 c f n];grind
theorem ai0 (f g:Nat→Rat):∀ n,t8 f n+t8 g n=t8 (fun i=>f i+g i) n
 | 0=>by simp [t8];grind
 | n+1=>by rw [t8,t8,t8,←ai0 f g n];grind
def hR (a:Nat→Rat) (n i:Nat) (y:Rat):Rat:=t8 (fun j=>hf a i j * pw y j) n
def hC (a:Nat→Rat) (n i:Nat) (y:Rat):Rat:=t8 (fun j=>hc a i j * pw y j) (n+1)
def sg (i:Nat):Rat:=if i % 2=0 then 1 else -1
def OvB (B W:Nat) (q:Rat):Prop:=∃ v:Int,q=Rat.divInt v B∧v.natAbs<2 ^ W
theorem OvB.mono {B V W:Nat} {q:Rat} (h:OvB B V q) (l:V≤W):OvB B W q:=let ⟨v,e,b⟩:=h;⟨v,e,Nat.lt_of_lt_of_le b (i3 l)⟩
theorem OvB.zero (B W:Nat):OvB B W 0:=⟨0,by rw [Rat.zero_divInt],Nat.two_pow_pos _⟩
theorem OvB.mul {B C V W:Nat} {p q:Rat} (h:OvB B V p) (k:OvB C W q):OvB (B * C) (V+W) (p * q):=by
 obtain ⟨v,rfl,b⟩:=h
 obtain ⟨u,rfl,c⟩:=k
 refine ⟨v * u,by rw [Rat.divInt_mul_divInt,Int.natCast_mul],?_⟩
 rw [Int.natAbs_mul,Nat.pow_add]
 exact Nat.mul_lt_mul'' b c
theorem OvB.neg {B W:Nat} {q:Rat} (h:OvB B W q):OvB B W (-q):=by
 obtain ⟨v,rfl,b⟩:=h
 exact ⟨-v,by rw [Rat.neg_divInt],by rw [Int.natAbs_neg];exact b⟩
theorem OvB.add {B W:Nat} (hB:0<B) {p q:Rat} (h:OvB B W p) (k:OvB B W q):OvB B (W+1) (p+q):=by
 obtain ⟨v,rfl,b⟩:=h
 obtain ⟨u,rfl,c⟩:=k
 refine ⟨v+u,?_,?_⟩
 ·have hz:(B:Int)≠0:=by omega
  rw [Rat.divInt_add_divInt _ _ hz hz]
  refine (Rat.divInt_eq_divInt_iff (Int.mul_ne_zero hz hz) hz).mpr ?_
  grind
 ·have:=Int.natAbs_add_le v u
  rw [Nat.pow_succ];omega
theorem OvB.sub {B W:Nat} (hB:0<B) {p q:Rat} (h:OvB B W p) (k:OvB B W q):OvB B (W+1) (p - q):=by
 rw [show p - q=p + -q by grind]
 exact h.add hB k.neg
theorem OvB.bdN {B W:Nat} (hB:0<B) (hW:B<2 ^ W) {q:Rat} (h:OvB B W q):BdN W q:=by
 obtain ⟨v,rfl,b⟩:=h
 have:=N2 (t:=v) (b:=(B:Int)) (by omega)
 rw [Int.natAbs_natCast] at this
 exact ⟨Nat.lt_of_le_of_lt this.1 b,Nat.lt_of_le_of_lt this.2 hW⟩
theorem bl6 {α:Type} {xs:List α} {x : α} (h:xs[xs.length - 1]? = some x):atI xs (-1)=some x:=by
 have hp:xs.length - 1<xs.length:=(List.getElem?_eq_some_iff.mp h).1
 have e:ixN xs.length (-1)=some (xs.length - 1):=by
  unfold ixN
  rw [if_neg (by decide)]
  rw [if_pos (by omega)]
  congr 1
  omega
 unfold atI
 rw [e]
 exact h
def aQ (qs:List Rat) (k:Nat):Rat:=(qs[k]?).getD 0
def aZ (ws:List Int) (k:Nat):Int:=(ws[k]?).getD 0
theorem at7 {ws:List Int} {W:Nat} (h:∀ v∈ws,Int.natAbs v<2 ^ W):∀ k,(aZ ws k).natAbs<2 ^ W:=fun k=>by
 unfold aZ
 cases q:ws[k]? with
 | none=>exact Nat.two_pow_pos _
 | some v=>exact h v (List.mem_of_getElem? q)
def NK (kd:Int) (q:Rat):Prop:=if kd=2 then BdN 40 q else if kd=0 then OvB 60 10 q else OvB 1 4 q
theorem bp5 {t d:Int} (h1:1≤d) (h6:d≤6) (h:t.natAbs≤9):OvB 60 10 (Rat.divInt t d):=by
 have h0:d=1∨d=2∨d=3∨d=4∨d=5∨d=6:=by omega
 rcases h0 with rfl | rfl | rfl | rfl | rfl | rfl
 ·exact ⟨t * 60,(Rat.divInt_eq_divInt_iff (by decide) (by decide)).mpr (by omega),by omega⟩
 ·exact ⟨t * 30,(Rat.divInt_eq_divInt_iff (by decide) (by decide)).mpr (by omega),by omega⟩
 ·exact ⟨t * 20,(Rat.divInt_eq_divInt_iff (by decide) (by decide)).mpr (by omega),by omega⟩
 ·exact ⟨t * 15,(Rat.divInt_eq_divInt_iff (by decide) (by decide)).mpr (by omega),by omega⟩
 ·exact ⟨t * 12,(Rat.divInt_eq_divInt_iff (by decide) (by decide)).mpr (by omega),by omega⟩
 ·exact ⟨t * 10,(Rat.divInt_eq_divInt_iff (by decide) (by decide)).mpr (by omega),by omega⟩
theorem ov1 {t:Int} (h:t.natAbs≤9):OvB 1 4 (Rat.divInt t 1):=⟨t,rfl,by omega⟩
theorem NK.ovb1 {q:Rat} (h:NK 1 q):OvB 1 4 q:=by unfold NK at h;rw [if_neg (by decide),if_neg (by decide)] at h;exact h
theorem bq4 {t b:Int} (hb:b≠0) (h1:t.natAbs≤9) (h2:b.natAbs≤7):BdN 4 (Rat.divInt t b):=by
 have:=N2 (t:=t) hb
 exact ⟨Nat.lt_of_le_of_lt this.1 (by omega),Nat.lt_of_le_of_lt this.2 (by omega)⟩
section
variable {P:Program} {w:World} {K:PySem.W.Frag} {mg:Str→Option Value} {base:Heap}
def ai1:Sp:=fun vs H Q _=>∃ u kd,vs=[.ref u,.int kd]∧x6 H u∧∀ r q H',NK kd q→v7 u H H'→x6 H' u→H' r=some (.tup (p9 q))→Q (.ref r) H'
set_option maxHeartbeats 0 in
theorem am3 {f fd fl:Addr} (d:Df K mg "_law_number" D0 ["_law_urn_here","_law_kind"] f) (G__law_draw:Def P w K mg base CX0 1 "_law_draw" fd ["_law_urn_here","_law_many"] G4) (G__law_low:Def P w K mg base CX0 1 "_law_low" fl ["_law_top","_law_bottom"] ak5) (n_int:mg "int" = none):Def P w K mg base CX0 2 "_law_number" f ["_law_urn_here","_law_kind"] ai1:=by
 refine d.ok (N:=["_law_urn_here","_law_kind","_law_top"]) Z7 (fun vs H Q E ⟨u,kd,h,_⟩=>by rw [h];rfl) (fun cdv A outer s H vs Q E hr h=>?_)
 obtain ⟨u,kd,rfl,hu,k⟩:=h
 refine ⟨_,(d4 (A5 (p6 ak9 (pv 1) b9 (o0 _)) (d4 (j8 (i:=2) Z7.nd rfl (Or.inl rfl) (d9 N7 (d9 t9 (d7 G__law_draw hr (b6 (pv 0) (b6 (d9 aa1 b9 b9) b7)) i0) (d9 aa1 b9 b9)) (d7 G__law_draw hr (b6 (pv 0) (b6 (d9 aa1 b9 b9) b7)) i0)))
   (d6 (h9 (d7 G__law_low hr (b6 (d9 t9 (pv 2) (i6 t4 (v9 (b6 b9 (b6 (N5 E5 b9) b7))) (d7 G__law_draw hr (b6 (pv 0) (b6 b9 b7)) i0) (fun _ _=>rfl))) (b6 (d9 N7 b9 (d9 t9 (d7 G__law_draw hr (b6 (pv 0) (b6 (d9 aa1 b9 b9) b7)) i0) (d9 aa1 b9 b9))) b7)) i0)))) p8)
   (d6 (h9 (d7 G__law_low hr (b6 (d9 M7 (d7 G__law_draw hr (b6 (pv 0) (b6 b9 b7)) i0) b9) (b6 (d9 N7 b9 (d9 t9 (d7 G__law_draw hr (b6 (pv 0) (b6 b9 b7)) i0) (N1 ak1 rfl n_int (by decide +kernel) (b6 (P5 ak9 (pv 1) b9 (o0 _)) b7)))) b7)) i0)))),?_⟩
 rw [show start ["_law_urn_here","_law_kind","_law_top"] [.ref u,.int kd]=[some (.ref u),some (.int kd),none] from rfl]
 have e10:(10:Int) ^ Int.toNat 6=1000000:=by decide
 simp! [G4,bd0]
 refine v6 (fun hk2=>?_) (fun hk2=>?_)
 ·refine ⟨⟨by decide,by decide,by decide⟩,hu,by decide,by decide,fun r2 H2 a2 b2 s2 u2=>?_⟩
  refine ⟨⟨by decide,by decide,by decide⟩,ar4 (by decide),⟨by decide,by decide,by decide⟩,u2,by decide,by decide,fun r3 H3 a3 b3 s3 u3=>?_⟩
  refine ⟨by decide,fun l hl=>⟨X8 u3 hl,by decide,by decide,fun r4 H4 a4 b4 s4 u4=>?_⟩⟩
  have e:=s4 l _ b8 (U0 u3 hl)
  have b2':r2<1000000:=b2
  have b3':r3<1000000:=b3
  have sx:v7 u H H4:=s2.trans (s3.trans (v7.trans (d5.x (d5.new hl _) u) s4))
  have fin:∀ sg:Int,sg=1∨sg = -1→(bo7 10 6∧x6 H4 u∧0<(10:Int) ^ Int.toNat 6∧(10:Int) ^ Int.toNat 6<2 ^ 40∧∀ (r:Int) (H':Hp),0≤r→r<10 ^ Int.toNat 6→v7 u H4 H'→x6 H' u →
    bo7 10 6∧IntMulOk r (10 ^ Int.toNat 6)∧ak5 [V.int ((r2 * 10 ^ Int.toNat 6+r3) * sg),V.int (1+r * 10 ^ Int.toNat 6)] H' Q E0):=by
   intro sg hsg
   refine ⟨⟨by decide,by decide,by decide⟩,u4,by decide,by decide,fun r5 H5 a5 b5 s5 u5=>⟨⟨by decide,by decide,by decide⟩,ar4 (by decide),?_⟩⟩
   rw [e10] at b5 ⊢
   refine ⟨_,_,rfl,by omega,Nat.lt_of_lt_of_le (show (1+r5 * 1000000).natAbs<2 ^ 64 by omega) (i3 (by decide)),fun r H' sm hr'=>?_⟩
   refine k r _ H' (by unfold NK;rw [if_pos hk2];refine (bp0 (by omega) ?_ (by omega)).bdN;rcases hsg with h | h <;> subst h <;> omega) (sx.trans (s5.trans (d5.x sm u))) (d5.urn sm u5) hr'
  have h3:r4=0∨r4=1:=by omega
  rcases h3 with h | h <;> subst h
  ·exact ⟨_,SqL.of e,_,rfl,_,rfl,ar4 (by decide),fin 1 (.inl rfl)⟩
  ·exact ⟨_,SqL.of e,_,rfl,_,rfl,ar4 (by decide),fin (-1) (.inr rfl)⟩
 ·refine ⟨hu,by decide,by decide,fun r2 H2 a2 b2 s2 u2=>⟨u2,by decide,by decide,fun r3 H3 a3 b3 s3 u3=>⟨bp7 (by omega),?_⟩⟩⟩
  have hz:∃ z:Int,z=r3 * (if kd=0 then 1 else 0)∧0≤z∧z≤5∧(kd≠0→z=0):=by
   refine ⟨_,rfl,?_,?_,?_⟩
   ·split <;> omega
   ·split <;> omega
   ·intro h;rw [if_neg h,Int.mul_zero]
  obtain ⟨z,ez,z0,z6,zk⟩:=hz
  rw [←ez]
  refine ⟨_,_,rfl,by omega,Nat.lt_of_lt_of_le (show (1+z).natAbs<2 ^ 64 by omega) (i3 (by decide)),fun r H' sm hr'=>?_⟩
  exact k r _ H' (by
   unfold NK
   rw [if_neg hk2]
   by_cases h0:kd=0
   ·rw [if_pos h0];exact bp5 (by omega) (by omega) (by omega)
   ·rw [if_neg h0,zk h0];exact ov1 (by omega)) (s2.trans (s3.trans (d5.x sm u))) (d5.urn sm u3) hr'
def aE7:Sp:=fun vs H Q _=>∃ u kd,vs=[.ref u,.int kd]∧x6 H u∧∀ r q H',NK kd q→q≠0→v7 u H H'→x6 H' u→H' r=some (.tup (p9 q))→Q (.ref r) H'
set_option maxHeartbeats 0 in
theorem ar3 {f fd fl:Addr} (d:Df K mg "_law_other" F2 ["_law_urn_here","_law_kind"] f) (G__law_draw:Def P w K mg base CX0 1 "_law_draw" fd ["_law_urn_here","_law_many"] G4) (GD__law_number:Def P w K mg base CX0 2 "_law_number" fl ["_law_urn_here","_law_kind"] ai1):Def P w K mg base CX0 3 "_law_other" f ["_law_urn_here","_law_kind"] aE7:=by
 refine d.ok (N:=["_law_urn_here","_law_kind","_law_found"]) ac7 (fun vs H Q E ⟨u,kd,h,_⟩=>by rw [h];rfl) (fun cdv A outer s H vs Q E hr h=>?_)
 obtain ⟨u,kd,rfl,hu,k⟩:=h
 have G__law_number:=GD__law_number
 refine ⟨_,(d4 (j8 (i:=2) ac7.nd rfl (Or.inl rfl) (d7 G__law_number hr (b6 (pv 0) (b6 (pv 1) b7)) i0))
   (d4 (A5 (p6 ak9 (i6 j6 (pv 2) b9 (fun _ _=>rfl)) b9 (o0 _)) (d6 (h9 (m6 (b6 (d9 N7 b9 (d7 G__law_draw hr (b6 (pv 0) (b6 b9 b7)) i0)) (b6 b9 b7))))) p8)
   (d6 (h9 (pv 2))))),?_⟩
 rw [show start ["_law_urn_here","_law_kind","_law_found"] [.ref u,.int kd]=[some (.ref u),some (.int kd),none] from rfl]
 simp! [G4]
 refine ⟨u,kd,rfl,hu,fun r q H1 sm s1 u1 e1=>?_⟩
 refine ⟨r,rfl,_,SqT.of e1,_,at0 q,rfl,v6 (fun _=>?_) (fun hn=>?_)⟩
 ·refine ⟨u1,by decide,by decide,fun r2 H2 a2 b2 s2 u2=>⟨v5,fun l hl=>?_⟩⟩
  have hd:=U6 (n:=1+r2) (d:=1) (by decide) (by simp)
  refine k l (Rat.divInt (1+r2) 1) _ (by
   unfold NK
   split
   ·exact (bq4 (by decide) (by omega) (by decide)).mono (by decide)
   ·split
    ·exact bp5 (by decide) (by decide) (by omega)
    ·exact ov1 (by omega)) ?_ (s1.trans (s2.trans (d5.x (d5.new hl _) u))) (X8 u2 hl) ?_
  ·intro z
   rw [z] at hd
   have:(0:Rat).num=0:=rfl
   omega
  ·rw [b8]
   unfold p9
   rw [hd.1,hd.2]
 ·refine k r q H1 sm (fun z=>hn ?_) s1 u1 e1
  rw [z];rfl
end
theorem aq4 {q:Rat} (h:0<q.num):0<q:=(Rat.lt_iff 0 q).mpr (by
 show (0:Int) * (q.den:Int)<q.num * ((1:Nat):Int)
 rw [Int.zero_mul];simpa using h)
theorem NK.neg {kd:Int} {q:Rat} (h:NK kd q):NK kd (-q):=by
 unfold NK at h ⊢
 split at h
 ·rename_i z
  rw [if_pos z]
  exact ⟨by show (-q.num).natAbs<_;rw [Int.natAbs_neg];exact h.n,h.d⟩
 ·rename_i z
  rw [if_neg z]
  split at h
  ·rename_i y;rw [if_pos y];exact h.neg
  ·rename_i y;rw [if_neg y];exact h.neg
theorem bl1 {kd:Int} {q:Rat} (h:NK kd q) (q0:q≠0):∃ q',[V.int (if q.num<0 then -q.num else q.num),V.int q.den]=p9 q'∧NK kd q'∧0<q':=by
 have n0:q.num≠0:=fun z=>q0 (Rat.num_eq_zero.mp z)
 by_cases z:q.num<0
 ·refine ⟨-q,?_,h.neg,aq4 (by show 0 < -q.num;omega)⟩
  show _=[V.int (-q.num),V.int q.den]
  rw [if_pos z]
 ·refine ⟨q,?_,h,aq4 (by omega)⟩
  show _=[V.int q.num,V.int q.den]
  rw [if_neg z]
section
variable {P:Program} {w:World} {K:PySem.W.Frag} {mg:Str→Option Value} {base:Heap}
def aN6:Sp:=fun vs H Q _=>∃ u kd,vs=[.ref u,.int kd]∧x6 H u∧∀ r q H',NK kd q→0<q→v7 u H H'→x6 H' u→H' r=some (.tup (p9 q))→Q (.ref r) H'
abbrev F4:Stmt:=top 64
theorem ac8:i9 ["_law_urn_here","_law_kind","_law_found"] ["_law_urn_here","_law_kind"] (d3 F4):=by and_intros
set_option maxHeartbeats 0 in
theorem av5 {f f1:Addr} (d:Df K mg "_law_above" F4 ["_law_urn_here","_law_kind"] f) (GD__law_other:Def P w K mg base CX0 3 "_law_other" f1 ["_law_urn_here","_law_kind"] aE7) (n_abs:mg "abs" = none):Def P w K mg base CX0 4 "_law_above" f ["_law_urn_here","_law_kind"] aN6:=by
 refine d.ok (N:=["_law_urn_here","_law_kind","_law_found"]) ac8 (by rintro vs H Q E ⟨_,_,h,_⟩;rw [h];rfl) (fun cdv A outer s H vs Q E hr h=>?_)
 obtain ⟨u,kd,rfl,hu,k⟩:=h
 have G__law_other:=GD__law_other
 refine ⟨_,(d4 (j8 (i:=2) ac8.nd rfl (Or.inl rfl) (d7 G__law_other hr (b6 (pv 0) (b6 (pv 1) b7)) i0))
   (d6 (h9 (m6 (b6 (d8 W9 rfl n_abs (by decide +kernel) (b6 (i6 j6 (pv 2) b9 (fun _ _=>rfl)) b7)) (b6 (i6 j6 (pv 2) b9 (fun _ _=>rfl)) b7)))))),?_⟩
 rw [show start ["_law_urn_here","_law_kind","_law_found"] [.ref u,.int kd]=[some (.ref u),some (.int kd),none] from rfl]
 subst_eqs
 refine ⟨u,kd,rfl,hu,fun r q H1 nk q0 s1 u1 e1=>?_⟩
 obtain ⟨q',e',n',p'⟩:=bl1 nk q0
 refine ⟨r,rfl,_,SqT.of e1,_,at0 q,_,rfl,r,rfl,_,SqT.of e1,_,at1 q,v5,fun p hp=>?_⟩
 refine k p q' _ n' p' (s1.trans (d5.x (d5.new hp _) u)) (X8 u1 hp) ?_
 rw [b8,e']
end
structure TbX (u:Addr) (H:Hp) (a:Addr) (ts:List Addr) (M:List (List Rat)):Prop where
 au:a≠u
 tu:∀ t∈ts,t≠u
 at':H a=some (.lst (ts.map V.ref))
 rws:Rws H ts M
structure LsX (u:Addr) (H:Hp) (a:Addr) (xs:List V) (qs:List Rat):Prop where
 au:a≠u
 at':H a=some (.lst xs)
 nums:A1 H xs qs
def cv (f g:Nat→Rat) (k:Nat):Rat:=t8 (fun i=>f i * g (k - i)) (k+1)
theorem T3 (g:Nat→Rat) (t:Nat):∀ n,t8 (fun i=>if i=t then g i else 0) n=if t<n then g t else 0
 | 0=>by rw [if_neg (by omega)];rfl
 | n+1=>by
  rw [t8,T3 g t n]
  by_cases h:t<n
  ·rw [if_pos h,if_neg (by omega),if_pos (by omega)];grind
  ·by_cases h2:n=t
   ·rw [if_neg h,if_pos h2,if_pos (by omega),h2];grind
   ·rw [if_neg h,if_neg h2,if_neg (by omega)];grind
def zc (ws:List Int) (k:Nat):Rat:=(aZ ws k:Rat)
structure au0 (ws:List Int) (m:Nat):Prop where
 le:m≤ws.length
 zero:∀ i v,m≤i→ws[i]? = some v→v=0
 last:m≠0→∀ v,ws[m - 1]? = some v→v≠0
def Dv (one other Q R:List Int) (many:Int):Prop:=∀ k,(many:Rat) * zc one k=cv (zc Q) (zc other) k+zc R k
theorem OvB.up {B W:Nat} {q:Rat} (h:OvB B W q) (hB:0<B) {C c:Nat} (hC:0<C) (hc:C<2 ^ c):OvB (B * C) (W+c) q:=by
 obtain ⟨v,rfl,b⟩:=h
 refine ⟨v * C,?_,?_⟩
 ·rw [Int.natCast_mul]
  refine (Rat.divInt_eq_divInt_iff (by omega) (Int.mul_ne_zero (by omega) (by omega))).mpr ?_
  grind
 ·rw [Int.natAbs_mul,Int.natAbs_natCast,Nat.pow_add]
  exact Nat.mul_lt_mul'' b hc
theorem aT3 {B W:Nat} (hB:0<B) (hW:B<2 ^ W) {qs:List Rat} (h:∀ x∈qs,OvB B W x):ClN W qs:=by
 have:∃ vs:List Int,qs=scl (Rat.divInt 1 B) vs∧∀ v∈vs,Int.natAbs v<2 ^ W:=by
  induction qs with
  | nil=>exact ⟨[],rfl,by simp⟩
  | cons q qs ih=>
   obtain ⟨vs,e,hv⟩:=ih fun x hx=>h x (List.mem_cons_of_mem _ hx)
   obtain ⟨v,e2,b⟩:=h q List.mem_cons_self
   refine ⟨v :: vs,?_,fun u hu=>?_⟩
   ·rw [e]
    show q :: _=(Rat.divInt 1 B * (v:Rat)) :: _
    rw [aq9,←e2];rfl
   ·rcases List.mem_cons.mp hu with z | z
    ·rw [z];exact b
    ·exact hv u z
 obtain ⟨vs,rfl,hv⟩:=this
 exact aT2 hB hW hv
theorem bn8 {qs:List Rat} {P:Rat→Prop} (h0:P 0) (h:∀ x∈qs,P x) (k:Nat):P (aQ qs k):=by
 unfold aQ
 cases e:qs[k]? with
 | none=>exact h0
 | some v=>exact h v (List.mem_of_getElem? e)
def bq6 (u:Addr) (H:Hp) (v:V) (ps qs:List Rat):Prop:=v = .non∨∃ td l1 l2 zs1 zs2 g0 g1,v = .ref td∧td≠u∧H td=some (.tup [.ref l1,.ref l2])∧LsX u H l1 zs1 g0∧LsX u H l2 zs2 g1∧V6 g0 g0.length∧V6 g1 g1.length∧g1.length<qs.length∧∀ k,aQ ps k=cv (aQ qs) (aQ g0) k+aQ g1 k
structure PairOk (u:Addr) (H:Hp) (ap aq:Addr) (due:V) (xs ys:List V) (ps qs:List Rat) (S W1 W2:Nat):Prop where
 lp:LsX u H ap xs ps
 lq:LsX u H aq ys qs
 tp:V6 ps ps.length
 tq:V6 qs qs.length
 q0:qs≠[]
 c1:ClN W1 ps
 c2:ClN W2 qs
 w1:1≤W1
 w2:1≤W2
 w3:W2≤690
 t:W1+S * (W2+1)+W2≤2300
 s:ps.length+1≤qs.length+S
 pl:ps.length≤16
 ql:qs.length≤16
 due:bq6 u H due ps qs
theorem NK.o100 {q:Rat} (h:NK 1 q):OvB 100 11 q:=h.ovb1.up (C:=100) (c:=7) (by decide) (by decide) (by decide)
theorem aW4 {c:Rat} {W:Nat} (hc:OvB 1 4 c):∀ (R:List Rat) (a:Rat),OvB 1 W a→(∀ q∈R,OvB 1 W q)→∀ q∈sad c a R,OvB 1 (W+5) q
 | [],a,ha,_,q,hq=>by
  rw [sad] at hq
  rw [List.mem_singleton.mp hq];exact ha.mono (by omega)
 | x :: r,a,ha,hR,q,hq=>by
  have hx:=hR x List.mem_cons_self
  rw [sad] at hq
  rcases List.mem_cons.mp hq with z | z
  ·rw [z]
   have h1:OvB 1 (W+4) (c * x):=by have:=hc.mul hx;exact this.mono (by omega)
   have h2:=OvB.add (by decide) (ha.mono (show W≤W+4 by omega)) h1
   exact h2
  ·exact aW4 hc r x hx (fun v hv=>hR v (List.mem_cons_of_mem _ hv)) q z
structure aE3 (n:Nat) (R:List Rat):Prop where
 ov:∀ q∈R,OvB 1 (5 * n+1) q
 len:R.length=n+1
 last:R[n]? = some 1
theorem aE3.one:aE3 0 [1]:=⟨fun q hq=>by rw [List.mem_singleton.mp hq];exact ⟨1,by decide +kernel,by decide⟩,rfl,rfl⟩
theorem aE3.step {n:Nat} {R:List Rat} {c:Rat} (h:aE3 n R) (hc:OvB 1 4 c):aE3 (n+1) (sad c 0 R):=by
 refine ⟨fun q hq=>?_,by rw [ag3,h.len],?_⟩
 ·exact (aW4 hc R 0 (OvB.zero _ _) h.ov q hq).mono (by omega)
 ·have:=aF9 c R 0 1 (by rw [h.len];exact h.last)
  rw [ag3,h.len] at this
  exact this
theorem aE3.o100 {n:Nat} {R:List Rat} (h:aE3 n R) (hn:n≤7):∀ q∈R,OvB 100 43 q:=fun q hq=>by
 have:=(h.ov q hq).up (C:=100) (c:=7) (by decide) (by decide) (by decide)
 exact this.mono (by omega)
theorem OvB.bdn {W:Nat} {q:Rat} (h:OvB 100 W q) (hW:7≤W):BdN W q:=h.bdN (by decide) (Nat.lt_of_lt_of_le (show 100<2 ^ 7 by decide) (i3 hW))
section
variable {P:Program} {w:World} {K:PySem.W.Frag} {mg:Str→Option Value} {base:Heap}
def aV8 (K:PySem.W.Frag):Sp:=fun vs H Q _=>∃ u ms,vs=[.ref u,.int 1,.int ms]∧x6 H u∧(ms=5∨ms=8)∧∀ r ts B H',v7 u H H'→x6 H' u→H r=none→r≠u→H' r=some (.lst ts)→x8 H' ts B→R5 B→(∀ s∈B,OvB 100 50 s.1∧OvB 100 50 s.2)→Q (.ref r) H'
abbrev z8:Stmt:=top 70
theorem j9:i9 ["_law_urn_here","_law_kind","_law_most","_law_way","_law_many","_law_middle","_law_found","_law_number_here","_law_i","_law_wide_here","_law_low_here","_law_high"] ["_law_urn_here","_law_kind","_law_most"] (d3 z8):=by and_intros
set_option maxHeartbeats 0 in
theorem ag7 {f g1 g2 g3 g4 g5 g6:Addr} (d:Df K mg "_law_drawn_box" z8 ["_law_urn_here","_law_kind","_law_most"] f) (G__law_draw:Def P w K mg base CX0 1 "_law_draw" g1 ["_law_urn_here","_law_many"] G4) (GD__law_number:Def P w K mg base CX0 2 "_law_number" g2 ["_law_urn_here","_law_kind"] ai1) (G__law_above:Def P w K mg base CX0 4 "_law_above" g3 ["_law_urn_here","_law_kind"] aN6) (G__law_poly_times:Def P w K mg base CX0 3 "_law_poly_times" g4 ["_law_p","_law_q"] (aN3 K)) (G__law_less:Def P w K mg base CX0 2 "_law_less" g5 ["_law_one","_law_other_here"] (R6 K (· - ·))) (G__law_plus:Def P w K mg base CX0 2 "_law_plus" g6 ["_law_one","_law_other_here"] (R6 K (· + ·))) (n_range:mg "range" = none):Def P w K mg base CX0 5 "_law_drawn_box" f ["_law_urn_here","_law_kind","_law_most"] (aV8 K):=by
 refine d.ok (N:=["_law_urn_here","_law_kind","_law_most","_law_way","_law_many","_law_middle","_law_found","_law_number_here","_law_i","_law_wide_here","_law_low_here","_law_high"]) j9 (by rintro vs H Q E ⟨_,_,h,_⟩;rw [h];rfl) (fun cdv A outer s H vs Q E hr h=>?_)
 have G__law_number:=GD__law_number
 obtain ⟨u,ms,rfl,hU,hms,k⟩:=h
 refine ⟨_,(d4 (j8 (i:=3) j9.nd rfl (Or.inl rfl) (d7 G__law_draw hr (b6 (pv 0) (b6 b9 b7)) i0))
   (d4 (j8 (i:=4) j9.nd rfl (Or.inl rfl) (d9 N7 b9 (d7 G__law_draw hr (b6 (pv 0) (b6 (d9 M7 (pv 2) b9) b7)) i0)))
   (d4 (U4 (i₀:=5) j9.nd rfl (Or.inl rfl) (Nc:=["_law_urn_here","_law_kind","_law_i"]) (caps:=[some 0,some 1,none]) rfl (X5.of (osc:=d3 z8) (N:=["_law_urn_here","_law_kind","_law_most","_law_way","_law_many","_law_middle","_law_found","_law_number_here","_law_i","_law_wide_here","_law_low_here","_law_high"]) (ks:=["_law_urn_here","_law_kind"]) rfl rfl rfl rfl (C0 rfl (C0 rfl C3)) (by decide +kernel)) (ab7 rfl n_range (b6 (pv 4) b7)) (fun C s₂ H₂ fp pins=>(g8 (i:=2) (show List.Nodup (["_law_urn_here","_law_kind","_law_i"]:List Str) by decide +kernel) rfl (Or.inl rfl) (Or.inr rfl))) (fun C s₂ H₂ fp pins=>(d7 G__law_number hr (b6 (pv 0) (b6 (pv 1) b7)) i0)))
   (d4 (A5 (p6 ag5 (pv 3) b9 (o0 _)) (d4 (j8 (i:=5) j9.nd rfl (Or.inl rfl) (v9 (b6 (m6 (b6 b9 (b6 b9 b7))) b7)))
   (d6 (U5 PassesOwn.never rfl (ab7 rfl n_range (b6 (d9 M7 (pv 4) b9) b7)) (g8 (i:=8) j9.nd rfl (Or.inl rfl)) (d6 (j8 (i:=5) j9.nd rfl (Or.inl rfl) (d7 G__law_poly_times hr (b6 (pv 5) (b6 (v9 (b6 (d7 G__law_above hr (b6 (pv 0) (b6 (pv 1) b7)) i0) (b6 (m6 (b6 b9 (b6 b9 b7))) b7))) b7)) i0)))))) p8)
   (d4 (j8 (i:=6) j9.nd rfl (Or.inl rfl) (v9 b7))
   (d4 (U5 PassesOwn.never rfl (K7 (pv 5)) (g8 (i:=7) j9.nd rfl (Or.inl rfl)) (d4 (j8 (i:=9) j9.nd rfl (Or.inl rfl) (i6 t4 (v9 (b6 (m6 (b6 b9 (b6 b9 b7))) (b6 (m6 (b6 b9 (b6 b9 b7))) (b6 (m6 (b6 b9 (b6 b9 b7))) (b6 (d7 G__law_above hr (b6 (pv 0) (b6 (pv 1) b7)) i0) b7))))) (d7 G__law_draw hr (b6 (pv 0) (b6 b9 b7)) i0) (fun _ _=>rfl)))
   (d6 (ao3 (aG3 PySem.F.plainAttrs_list PySem.F.slot_list_append PySem.F.type_list_append W4 (pv 6) (b6 (m6 (b6 (d7 G__law_less hr (b6 (pv 7) (b6 (pv 9) b7)) i0) (b6 (d7 G__law_plus hr (b6 (pv 7) (b6 (pv 9) b7)) i0) b7))) b7))))))
   (d4 (K8 (i6 t4 (pv 6) (N5 E5 b9) (fun _ _=>rfl)) (show PG _ _ (R9 K 2 (v8 (v3 10) (v8 (v3 11) S8))) from by (refine C2 (n:=2) ?_ ?_ ?_ ?_;rfl;(refine j0 ?_ ?_ ?_;(exact (g8 (i:=10) j9.nd rfl (Or.inl rfl)));(refine j0 ?_ ?_ ?_;(exact (g8 (i:=11) j9.nd rfl (Or.inl rfl)));(exact A4);rfl);rfl);rfl;rfl)))
   (d4 (A5 (p6 aG4 (i6 j6 (pv 10) b9 (fun _ _=>rfl)) b9 (o0 _)) (d4 (j8 (i:=10) j9.nd rfl (Or.inl rfl) (d7 G__law_above hr (b6 (pv 0) (b6 (pv 1) b7)) i0))
   (d6 (j8 (i:=11) j9.nd rfl (Or.inl rfl) (d7 G__law_plus hr (b6 (pv 10) (b6 (i6 t4 (v9 (b6 (m6 (b6 b9 (b6 b9 b7))) (b6 (m6 (b6 b9 (b6 b9 b7))) b7))) (d7 G__law_draw hr (b6 (pv 0) (b6 b9 b7)) i0) (fun _ _=>rfl)) b7)) i0)))) p8)
   (d6 (h9 (d9 O8 (L4 P2 (pv 6) K6 (K5 (N5 E5 b9))) (v9 (b6 (m6 (b6 (pv 10) (b6 (pv 11) b7))) b7))))))))))))),?_⟩
 rw [show start ["_law_urn_here","_law_kind","_law_most","_law_way","_law_many","_law_middle","_law_found","_law_number_here","_law_i","_law_wide_here","_law_low_here","_law_high"] [.ref u,.int 1,.int ms]=[some (.ref u),some (.int 1),some (.int ms),none,none,none,none,none,none,none,none,none] from rfl]
 refine i8 (fun σ H1=>∃ way:Int,σ=[some (.ref u),some (.int 1),some (.int ms),some (.int way),none,none,none,none,none,none,none,none]∧v7 u H H1∧x6 H1 u) (fun N hN=>?_) ?_
 ·simp! [G4]
  exact ⟨hU,by decide,by decide,fun r H1 a1 b1 s1 u1=>hN _ _ ⟨r,rfl,s1,u1⟩⟩
 rintro σ H1 ⟨way,rfl,s1,u1⟩
 refine i8 (fun σ H2=>∃ n:Nat,σ=[some (.ref u),some (.int 1),some (.int ms),some (.int way),some (.int ((n+1:Nat):Int)),none,none,none,none,none,none,none]∧v7 u H H2∧x6 H2 u∧1≤n∧n≤7) (fun N hN=>?_) ?_
 ·simp! [G4]
  refine ⟨u1,by omega,by omega,fun r H2 a2 b2 s2 u2=>?_⟩
  obtain ⟨m,rfl⟩:∃ m:Nat,r=(m:Int):=⟨r.toNat,by omega⟩
  refine hN _ _ ⟨m+1,?_,s1.trans s2,u2,by omega,by omega⟩
  rw [show (2:Int)+(m:Int)=((m+1+1:Nat):Int) by omega]
 clear s1 u1
 rintro σ H2 ⟨n,rfl,s2,u2,n1,n7⟩
 refine i8 (fun σ H3=>∃ am xs R,σ=[some (.ref u),some (.int 1),some (.int ms),some (.int way),some (.int ((n+1:Nat):Int)),some (.ref am),none,none,none,none,none,none]∧v7 u H H3∧x6 H3 u∧H am=none∧am≠u∧H3 am=some (.lst xs)∧A1 H3 xs R∧R.length=n+1∧∀ q∈R,OvB 100 43 q) (fun N hN=>?_) ?_
 ·subst_eqs
  refine ⟨by omega,by omega,fun D hD=>?_⟩
  have hDu:D≠u:=U0 u2 hD
  have hDH:H D=none:=s2.free u2 hD
  refine bb3 (fun j σ H6=>∃ o,σ=[some (.ref u),some (.int 1),o]∧v7 u H H6∧x6 H6 u∧∃ xs qs,H6 D=some (.lst xs)∧A1 H6 xs qs∧qs.length=j∧∀ p∈qs,OvB 100 43 p)
   ⟨_,rfl,s2.trans (d5.x (d5.new hD _) u),X8 u2 hD,[],[],b8,.nil,rfl,by simp⟩ ?_ ?_
  ·rintro j σ H6 hj ⟨o,rfl,s6,u6,xs,qs,e,n6,hl,hs⟩
   subst_eqs
   refine ⟨u,1,rfl,u6,fun rn q H7 nq s7 u7 e7=>?_⟩
   have e8:=s7 D _ e hDu
   refine D5.mk hj e8 (by rw [n6.length,hl];exact Nat.lt_of_lt_of_le (show j<1000 by omega) (by decide)) ?_
   refine ⟨_,rfl,(s6.trans s7).over hDH _,u7.other hDu,_,b8,qs++[q],((n6.mono (s7.tups u6)).append (.cons e7 .nil)).mono (L8.lst e8),by simp [hl],fun p hp=>?_⟩
   rcases List.mem_append.mp hp with z | z
   ·exact hs p z
   ·rw [List.mem_singleton.mp z];exact (nq.o100).mono (by decide)
  ·rintro σ H6 ⟨o,rfl,s6,u6,xs,qs,e,n6,hl,hs⟩
   exact hN _ _ ⟨D,xs,qs,rfl,s6,u6,hDH,hDu,e,n6,by omega,hs⟩
 clear s2 u2
 rintro σ H3 ⟨am,xs,R,rfl,s3,u3,fm,mu,em,nm,lR,bR⟩
 refine i8 (fun σ H4=>∃ am xs R o8,σ=[some (.ref u),some (.int 1),some (.int ms),some (.int way),some (.int ((n+1:Nat):Int)),some (.ref am),none,none,o8,none,none,none]∧v7 u H H4∧x6 H4 u∧H am=none∧am≠u∧H4 am=some (.lst xs)∧A1 H4 xs R∧R.length=n+1∧∀ q∈R,OvB 100 43 q) (fun N hN=>?_) ?_
 ·subst_eqs
  refine v6 (fun hw=>?_) (fun hw=>hN _ _ ⟨am,xs,R,_,rfl,s3,u3,fm,mu,em,nm,lR,bR⟩)
  refine ⟨v5,fun p0 hp0=>⟨ai4,fun p1 hp1=>?_⟩⟩
  have S0:=d5.new hp0 (.tup [.int 1,.int 1])
  have S1:=d5.new hp1 (.lst [.ref p0])
  have e1:=S1 _ _ (show upd H3 p0 (.tup [.int 1,.int 1]) p0=some (.tup (p9 1)) from b8)
  have hn:((((n+1:Nat):Int) - 1).toNat)=n:=by omega
  refine ⟨_,rfl,_,_,rfl,rfl,_,rfl,by omega,by omega,?_⟩
  rw [hn]
  obtain ⟨I,hI⟩:∃ I:Nat→L2.St→Hp→Prop,∀ i σ H4,I i σ H4↔∃ am xs R o8,σ=[some (.ref u),some (.int 1),some (.int ms),some (.int way),some (.int ((n+1:Nat):Int)),some (.ref am),none,none,o8,none,none,none]∧v7 u H H4∧x6 H4 u∧H am=none∧am≠u∧H4 am=some (.lst xs)∧A1 H4 xs R∧aE3 i R:=⟨_,fun _ _ _=>Iff.rfl⟩
  refine aj5 I ((hI _ _ _).mpr ⟨p1,_,_,_,rfl,s3.trans (d5.x (S0.trans S1) u),d5.urn (S0.trans S1) u3,s3.free u3 (S0.free hp1),U0 u3 (S0.free hp1),b8,.cons e1 .nil,aE3.one⟩) ?_ ?_
  ·intro i σ H4 hi hI4
   obtain ⟨am,xs,R,o8,rfl,s4,u4,fm,mu,em,nm,mR⟩:=(hI _ _ _).mp hI4
   subst_eqs
   refine ⟨u,1,rfl,u4,fun rc c H5 sc c0 s5 u5 e5=>⟨v5,fun p2 hp2=>⟨v5,fun p3 hp3=>?_⟩⟩⟩
   have S2:=d5.new hp2 (.tup [.int 1,.int 1])
   have S3:=d5.new hp3 (.lst [.ref rc,.ref p2])
   have S:=S2.trans S3
   have em5:=S _ _ (s5 _ _ em mu)
   have nm5:=(nm.mono (s5.tups u4)).mono S.tups
   have e2:=S3 _ _ (show upd H5 p2 (.tup [.int 1,.int 1]) p2=some (.tup (p9 1)) from b8)
   have i7:i≤7:=by omega
   have bdR:=mR.o100 i7
   have lenR:=mR.len
   have neR:R≠[]:=fun z=>by rw [z] at lenR;cases lenR
   refine ⟨am,p3,xs,_,R,c,43,11,rfl,SqL.of em5,SqL.of b8,nm5,.cons (S _ _ e5) (.cons e2 .nil),fun q hq=>?_,sc.o100.bdn (by decide),by decide,by decide,by decide,by omega,fun m r zs H6 t6 s6 f6 e6 n6=>?_⟩
   ·have:=(bdR q hq).bdn (by decide)
    exact ⟨D8 this.n (by omega),D8 this.d (by omega)⟩
   ·rw [bf1 neR] at t6 n6
    have mS:=mR.step (c:=c) sc.ovb1
    have tl:V6 (sad c 0 R) (sad c 0 R).length:=ap2 fun x hx=>by
     have:=mS.last
     rw [show (sad c 0 R).length - 1=i+1 by rw [mS.len];omega,this] at hx
     cases hx;decide
    rw [t6.uniq tl,List.take_length] at n6
    have SS:=S.trans s6
    exact (hI _ _ _).mpr ⟨r,zs,_,_,rfl,s4.trans (s5.trans (d5.x SS u)),d5.urn SS u5,s4.free u4 (s5.free u5 (S.free f6)),U0 (d5.urn S u5) f6,e6,n6,mS⟩
  ·intro σ H4 hI4
   obtain ⟨am,xs,R,o8,rfl,s4,u4,fm,mu,em,nm,mR⟩:=(hI _ _ _).mp hI4
   exact hN _ _ ⟨am,xs,R,_,rfl,s4,u4,fm,mu,em,nm,mR.len,mR.o100 n7⟩
 clear s3 u3 fm mu em nm lR bR am xs R
 rintro σ H4 ⟨am,xs,R,o8,rfl,s4,u4,fm,mu,em,nm,lR,bR⟩
 refine i8 (fun σ H5=>∃ af,σ=[some (.ref u),some (.int 1),some (.int ms),some (.int way),some (.int ((n+1:Nat):Int)),some (.ref am),some (.ref af),none,o8,none,none,none]∧d5 H4 H5∧H4 af=none∧H5 af=some (.lst [])) (fun N hN=>?_) ?_
 ·subst_eqs
  exact ⟨by decide,fun p hp=>hN _ _ ⟨p,rfl,d5.new hp _,hp,b8⟩⟩
 rintro σ H5 ⟨af,rfl,s5,ff,ef⟩
 have u5:=d5.urn s5 u4
 have em5:=s5 _ _ em
 have nm5:=nm.mono s5.tups
 have sx5:=s4.trans (d5.x s5 u)
 have afu:af≠u:=U0 u4 ff
 have amf:am≠af:=j4 em ff
 have fH:H af=none:=s4.free u4 ff
 clear s4 u4 em nm ff s5
 have lx:=nm5.length
 refine i8 (fun σ H6=>∃ o7 o9 ts B,σ=[some (.ref u),some (.int 1),some (.int ms),some (.int way),some (.int ((n+1:Nat):Int)),some (.ref am),some (.ref af),o7,o8,o9,none,none]∧v7 u H H6∧x6 H6 u∧H6 af=some (.lst ts)∧x8 H6 ts B∧B.length=n+1∧∀ s∈B,s.1≤s.2∧OvB 100 48 s.1∧OvB 100 48 s.2) (fun N hN=>?_) ?_
 ·obtain ⟨I,hI⟩:∃ I:Nat→L2.St→Hp→Prop,∀ i σ H6,I i σ H6↔∃ o7 o9 ts B,σ=[some (.ref u),some (.int 1),some (.int ms),some (.int way),some (.int ((n+1:Nat):Int)),some (.ref am),some (.ref af),o7,o8,o9,none,none]∧v7 u H H6∧x6 H6 u∧H6 am=some (.lst xs)∧A1 H6 xs R∧H6 af=some (.lst ts)∧x8 H6 ts B∧B.length=i∧∀ s∈B,s.1≤s.2∧OvB 100 48 s.1∧OvB 100 48 s.2:=⟨_,fun _ _ _=>Iff.rfl⟩
  refine ⟨_,rfl,am,rfl,⟨_,SqL.of em5⟩,W6 (xs:=xs) I ((hI _ _ _).mpr ⟨_,_,[],[],rfl,sx5,u5,em5,nm5,ef,.nil,rfl,by simp⟩) (by intro i σ H6 _ h;obtain ⟨_,_,_,_,_,_,_,e,_⟩:=(hI _ _ _).mp h;exact SqL.of e) ?_ ?_⟩
  ·intro i x σ H6 hx hI6
   obtain ⟨o7,o9,ts,B,rfl,s6,u6,em6,nm6,ef6,sp6,lB,hB⟩:=(hI _ _ _).mp hI6
   obtain ⟨px,q,rfl,hq,hpx⟩:=nm6.getV hx
   have hi:=(List.getElem?_eq_some_iff.mp hx).1
   simp! [G4]
   refine ⟨v5,fun p0 hp0=>⟨v5,fun p1 hp1=>⟨v5,fun p2 hp2=>?_⟩⟩⟩
   have S0:=d5.new hp0 (.tup [.int 0,.int 1])
   have S1:=d5.new hp1 (.tup [.int 1,.int 100])
   have S2:=d5.new hp2 (.tup [.int 1,.int 10])
   have S:=S0.trans (S1.trans S2)
   have e0:=S2 _ _ (S1 _ _ (show upd H6 p0 (.tup [.int 0,.int 1]) p0=some (.tup (p9 0)) from b8))
   have e1:=S2 _ _ (show upd (upd H6 p0 (.tup [.int 0,.int 1])) p1 (.tup [.int 1,.int 100]) p1=some (.tup (p9 (1 / 100))) from by rw [be8];exact b8)
   have e2:(upd (upd (upd H6 p0 (.tup [.int 0,.int 1])) p1 (.tup [.int 1,.int 100])) p2 (.tup [.int 1,.int 10])) p2=some (.tup (p9 (1 / 10))):=by rw [bk9];exact b8
   have u7:=d5.urn S u6
   generalize upd (upd (upd H6 p0 (.tup [.int 0,.int 1])) p1 (.tup [.int 1,.int 100])) p2 (.tup [.int 1,.int 10])=H7 at S e0 e1 e2 u7 ⊢
   refine ⟨u,1,rfl,u7,fun rc c H8 sc c0 s8 u8 e8=>⟨by decide,fun p3 hp3=>?_⟩⟩
   have S3:=d5.new hp3 (.lst [.ref p0,.ref p1,.ref p2,.ref rc])
   refine ⟨d5.urn S3 u8,by decide,by decide,fun r H9 r0 r4 s9 u9=>?_⟩
   have p3u:p3≠u:=U0 u8 hp3
   have t79:L8 H7 H9:=((s8.tups u7).trans S3.tups).trans (s9.tups (d5.urn S3 u8))
   have sx9:v7 u H6 H9:=(d5.x S u).trans (s8.trans ((d5.x S3 u).trans s9))
   refine ⟨_,SqL.of (s9 _ _ b8 p3u),?_⟩
   have ew:∃ (wv:Addr) (wd:Rat),atI [V.ref p0,V.ref p1,V.ref p2,V.ref rc] r=some (.ref wv)∧H9 wv=some (.tup (p9 wd))∧0≤wd∧OvB 100 11 wd:=by
    have:r=0∨r=1∨r=2∨r=3:=by omega
    rcases this with rfl | rfl | rfl | rfl
    ·exact ⟨p0,0,rfl,t79 _ _ e0,by decide,OvB.zero _ _⟩
    ·exact ⟨p1,1 / 100,rfl,t79 _ _ e1,by decide +kernel,⟨1,by decide +kernel,by decide⟩⟩
    ·exact ⟨p2,1 / 10,rfl,t79 _ _ e2,by decide +kernel,⟨10,by decide +kernel,by decide⟩⟩
    ·exact ⟨rc,c,rfl,s9.tups (d5.urn S3 u8) _ _ (S3 _ _ e8),Rat.le_of_lt c0,sc.o100⟩
   obtain ⟨wv,wd,ea,ewv,w0,bw⟩:=ew
   have bq:=bR q (List.mem_of_getElem? hq)
   have ef9:=sx9 _ _ ef6 afu
   have hq9:=sx9.tups u6 _ _ hpx
   refine ⟨_,ea,.inl ⟨_,SqL.of ef9⟩,?_⟩
   refine ⟨_,_,q,wd,43,11,rfl,⟨px,rfl,SqT.of hq9⟩,⟨wv,rfl,SqT.of ewv⟩,(bq.bdn (by decide)).t (by decide),(bw.bdn (by decide)).t (by decide),by decide,fun ra HA sA eA=>?_⟩
   refine ⟨_,_,q,wd,43,11,rfl,⟨px,rfl,SqT.of (sA _ _ hq9)⟩,⟨wv,rfl,SqT.of (sA _ _ ewv)⟩,(bq.bdn (by decide)).t (by decide),(bw.bdn (by decide)).t (by decide),by decide,fun rb HB sB eB=>⟨v5,fun pt hpt=>?_⟩⟩
   have ST:=d5.new hpt (.tup [.ref ra,.ref rb])
   have SB:=sA.trans (sB.trans ST)
   have efB:=SB _ _ ef9
   refine ⟨ts,efB,C1 (by rw [sp6.length];omega),?_⟩
   have sxB:v7 u H6 (upd HB pt (.tup [.ref ra,.ref rb])):=sx9.trans (d5.x SB u)
   refine (hI _ _ _).mpr ⟨_,_,ts++[.ref pt],B++[(q - wd,q+wd)],rfl,(s6.trans sxB).over fH _,(d5.urn SB u9).other afu,?_,((nm6.mono (sxB.tups u6)).mono (L8.lst efB)),b8,?_,by simp [lB],?_⟩
   ·rw [j3 amf];exact sxB _ _ em6 mu
   ·exact ((sp6.mono (sxB.tups u6)).append (.cons b8 (ST _ _ (sB _ _ eA)) (ST _ _ eB) .nil)).mono (L8.lst efB)
   ·intro s hs
    rcases List.mem_append.mp hs with z | z
    ·exact hB s z
    ·rw [List.mem_singleton.mp z]
     exact ⟨by show q - wd≤q+wd;grind,(OvB.sub (by decide) bq (bw.mono (by decide))).mono (by decide),(OvB.add (by decide) bq (bw.mono (by decide))).mono (by decide)⟩
  ·intro σ H6 hI6
   obtain ⟨o7,o9,ts,B,rfl,s6,u6,em6,nm6,ef6,sp6,lB,hB⟩:=(hI _ _ _).mp hI6
   exact hN _ _ ⟨_,_,ts,B,rfl,s6,u6,ef6,sp6,by omega,hB⟩
 clear sx5 u5 em5 nm5 ef
 rintro σ H6 ⟨o7,o9,ts,B,rfl,s6,u6,ef,sp,lB,hB⟩
 have lts:=sp.length
 have hlt:n<ts.length:=by omega
 have et:=List.getElem?_eq_getElem hlt
 generalize ts[n]=tl at et
 obtain ⟨pl,la,lb,sl,rfl,eB,epl,ela,elb⟩:=sp.get et
 have hsl:=hB sl (List.mem_of_getElem? eB)
 refine i8 (fun σ H7=>σ=[some (.ref u),some (.int 1),some (.int ms),some (.int way),some (.int ((n+1:Nat):Int)),some (.ref am),some (.ref af),o7,o8,o9,some (.ref la),some (.ref lb)]∧H7=H6) (fun N hN=>?_) ?_
 ·subst_eqs
  exact ⟨ts,SqL.of ef,_,aa5 (by rw [show ts.length - 1=n by omega];exact et),pl,rfl,_,SqT.of epl,rfl,_,_,rfl,_,_,rfl,rfl,hN _ _ ⟨rfl,rfl⟩⟩
 rintro σ H7 ⟨rfl,rfl⟩
 refine i8 (fun σ H8=>∃ (la lb:Addr) (sl:Rat × Rat),σ=[some (.ref u),some (.int 1),some (.int ms),some (.int way),some (.int ((n+1:Nat):Int)),some (.ref am),some (.ref af),o7,o8,o9,some (.ref la),some (.ref lb)]∧v7 u H7 H8∧x6 H8 u∧H8 la=some (.tup (p9 sl.1))∧H8 lb=some (.tup (p9 sl.2))∧sl.1≤sl.2∧0<sl.1∧OvB 100 48 sl.1∧OvB 100 48 sl.2) (fun N hN=>?_) ?_
 ·simp! [G4]
  refine ⟨_,SqT.of ela,_,at0 _,_,rfl,v6 (fun hle=>?_) (fun hle=>hN _ _ ⟨la,lb,sl,rfl,fun _ _ h _=>h,u6,ela,elb,hsl.1,aN8.mpr (by omega),hsl.2⟩)⟩
  refine ⟨u,1,rfl,u6,fun rc c H8 sc c0 s8 u8 e8=>⟨v5,fun p0 hp0=>⟨v5,fun p1 hp1=>⟨v5,fun p2 hp2=>?_⟩⟩⟩⟩
  have S0:=d5.new hp0 (.tup [.int 0,.int 1])
  have S1:=d5.new hp1 (.tup [.int 1,.int 2])
  have S2:=d5.new hp2 (.lst [.ref p0,.ref p1])
  have S:=S0.trans (S1.trans S2)
  have e0:=S2 _ _ (S1 _ _ (show upd H8 p0 (.tup [.int 0,.int 1]) p0=some (.tup (p9 0)) from b8))
  have e1:=S2 _ _ (show upd (upd H8 p0 (.tup [.int 0,.int 1])) p1 (.tup [.int 1,.int 2]) p1=some (.tup (p9 (1 / 2))) from by rw [bh6];exact b8)
  have e2:(upd (upd (upd H8 p0 (.tup [.int 0,.int 1])) p1 (.tup [.int 1,.int 2])) p2 (.lst [.ref p0,.ref p1])) p2=some (.lst [.ref p0,.ref p1]):=b8
  have u9:=d5.urn S u8
  have p2u:p2≠u:=U0 (d5.urn (S0.trans S1) u8) hp2
  have ec:=S _ _ e8
  generalize upd (upd (upd H8 p0 (.tup [.int 0,.int 1])) p1 (.tup [.int 1,.int 2])) p2 (.lst [.ref p0,.ref p1])=H9 at S e0 e1 e2 u9 ec ⊢
  refine ⟨u9,by decide,by decide,fun r HA r0 r2 sA uA=>?_⟩
  refine ⟨_,SqL.of (sA _ _ e2 p2u),?_⟩
  have tA:=sA.tups u9
  have ew:∃ (wv:Addr) (wd:Rat),atI [V.ref p0,V.ref p1] r=some (.ref wv)∧HA wv=some (.tup (p9 wd))∧0≤wd∧OvB 100 11 wd:=by
   have:r=0∨r=1:=by omega
   rcases this with rfl | rfl
   ·exact ⟨p0,0,rfl,tA _ _ e0,by decide,OvB.zero _ _⟩
   ·exact ⟨p1,1 / 2,rfl,tA _ _ e1,by decide +kernel,⟨50,by decide +kernel,by decide⟩⟩
  obtain ⟨wv,wd,ea,ewv,w0,bw⟩:=ew
  refine ⟨_,ea,_,_,c,wd,11,11,rfl,⟨rc,rfl,SqT.of (tA _ _ ec)⟩,⟨wv,rfl,SqT.of ewv⟩,(sc.o100.bdn (by decide)).t (by decide),(bw.bdn (by decide)).t (by decide),by decide,fun rb HB sB eB=>?_⟩
  exact hN _ _ ⟨rc,rb,(c,c+wd),rfl,s8.trans ((d5.x S u).trans (sA.trans (d5.x sB u))),d5.urn sB uA,sB _ _ (tA _ _ ec),eB,by show c≤c+wd;grind,c0,sc.o100.mono (by decide),(OvB.add (by decide) sc.o100 bw).mono (by decide)⟩
 rintro σ H8 ⟨la',lb',sl',rfl,s8,u8,ela',elb',hle,h0,hbd⟩
 have ef8:=s8 _ _ ef afu
 have sp8:=sp.mono (s8.tups u6)
 subst_eqs
 refine ⟨ts,SqL.of ef8,fun p0 hp0=>?_⟩
 rw [aP2,show ts.length - 1=n by omega]
 refine ⟨v5,fun p1 hp1=>⟨ai4,fun p2 hp2=>?_⟩⟩
 have S0:=d5.new hp0 (.lst (ts.take n))
 have S1:=d5.new hp1 (.tup [.ref la',.ref lb'])
 have S2:=d5.new hp2 (.lst [.ref p1])
 refine ⟨_,S2 _ _ (S1 _ _ b8),_,b8,Nat.le_of_lt (C1 (by rw [List.length_take,List.length_singleton];omega)),fun p3 hp3=>?_⟩
 have S3:=d5.new hp3 (.lst (ts.take n++[.ref p1]))
 have S:=S0.trans (S1.trans (S2.trans S3))
 have e1:=S3 _ _ (S2 _ _ (show upd (upd H8 p0 (.lst (ts.take n))) p1 (.tup [.ref la',.ref lb']) p1=some (.tup [.ref la',.ref lb']) from b8))
 have fr:H8 p3=none:=(S0.trans (S1.trans S2)).free hp3
 refine k p3 (ts.take n++[.ref p1]) (B.take n++[sl']) _ ((s6.trans s8).trans (d5.x S u)) (d5.urn S u8) (s6.free u6 (s8.free u8 fr)) (U0 u8 fr) b8 (((sp8.take n).mono S.tups).append (.cons e1 (S _ _ ela') (S _ _ elb') .nil)) ?_ ?_
 ·refine ⟨by rw [List.length_append,List.length_take,List.length_singleton];omega,by rw [List.length_append,List.length_take,List.length_singleton];omega,fun s hs=>?_,fun s hs=>?_⟩
  ·rcases List.mem_append.mp hs with z | z
   ·exact (hB s (List.mem_of_mem_take z)).1
   ·rw [List.mem_singleton.mp z];exact hle
  ·have ll:(B.take n++[sl']).length - 1=(B.take n).length:=by rw [List.length_append,List.length_singleton];omega
   rw [ll,List.getElem?_append_right (Nat.le_refl _),Nat.sub_self] at hs
   cases hs;exact h0
 ·intro s hs
  rcases List.mem_append.mp hs with z | z
  ·have:=(hB s (List.mem_of_mem_take z)).2
   exact ⟨this.1.mono (by decide),this.2.mono (by decide)⟩
  ·rw [List.mem_singleton.mp z];exact ⟨hbd.1.mono (by decide),hbd.2.mono (by decide)⟩
end
def A6 (n:Rat) (B:List (Rat × Rat)):List (Rat × Rat):=B.map fun s=>(s.1 - n,s.2+n)
theorem O4 (n:Rat) (B:List (Rat × Rat)):(A6 n B).length=B.length:=by simp [A6]
section
variable {P:Program} {w:World} {K:PySem.W.Frag} {mg:Str→Option Value} {base:Heap}
def aN5 (K:PySem.W.Frag):Sp:=fun vs H Q _=>∃ b ys B x n,vs=[.ref b,x]∧SqL K H b ys∧T9 K H ys (B.map u0)∧Num K H x n∧(∀ s∈B,BdN 2500 s.1∧BdN 2500 s.2)∧BdN 2500 n∧B.length≤8∧∀ r ts H',d5 H H'→H r=none→H' r=some (.lst ts)→x8 H' ts (A6 n B)→Q (.ref r) H'
abbrev V2:Stmt:=top 49
theorem aW3:i9 ["box","number"] ["box","number"] (d3 V2):=by and_intros
set_option maxHeartbeats 0 in
theorem aY0 {f f1 f2:Addr} (d:Df K mg "grown" V2 ["box","number"] f) (G_less:Def P w K mg base CX0 3 "less" f1 ["one","other"] (af9 K (· - ·))) (G_plus:Def P w K mg base CX0 2 "plus" f2 ["one","other"] (af9 K (· + ·))):Def P w K mg base CX0 4 "grown" f ["box","number"] (aN5 K):=by
 refine d.ok (N:=["box","number"]) aW3 (by rintro vs H Q E ⟨_,_,_,_,_,h,_⟩;rw [h];rfl) (fun cdv A outer s H vs Q E hr h=>?_)
 obtain ⟨b,ys,B,x,n,rfl,hS,ht,hx,hB,hn,l8,k⟩:=h
 refine ⟨_,(d6 (h9 (N6 (Nc:=["number","low","high"]) (caps:=[some 1,none,none]) rfl (X5.of (osc:=d3 V2) (N:=["box","number"]) (ks:=["number"]) rfl rfl rfl rfl (C0 rfl C3) (by decide +kernel)) (K7 (pv 0)) (fun C s₂ H₂ fp pins=>(show PG _ _ (R9 K 2 (v8 (v3 1) (v8 (v3 2) S8))) from by (refine C2 (n:=2) ?_ ?_ ?_ ?_;rfl;(refine j0 ?_ ?_ ?_;(exact (g8 (i:=1) (show List.Nodup (["number","low","high"]:List Str) by decide +kernel) rfl (Or.inl rfl) (Or.inr rfl)));(refine j0 ?_ ?_ ?_;(exact (g8 (i:=2) (show List.Nodup (["number","low","high"]:List Str) by decide +kernel) rfl (Or.inl rfl) (Or.inr rfl)));(exact A4);rfl);rfl);rfl;rfl))) (fun C s₂ H₂ fp pins=>(m6 (b6 (d7 G_less hr (b6 (pv 1) (b6 (pv 0) b7)) i0) (b6 (d7 G_plus hr (b6 (pv 2) (b6 (pv 0) b7)) i0) b7))))))),?_⟩
 rw [show start ["box","number"] [.ref b,x]=[some (.ref b),some (x)] from rfl]
 subst_eqs
 refine ⟨⟨_,hS⟩,fun D hD=>?_⟩
 refine Z1 ys (fun i σ H2=>∃ o1 o2,σ=[some x,o1,o2]∧d5 H H2∧∃ ts,H2 D=some (.lst ts)∧x8 H2 ts ((A6 n B).take i)) ⟨_,_,rfl,d5.new hD _,[],b8,.nil⟩ (by rintro i σ H2 _ ⟨_,_,_,s2,_⟩;exact s2.seq ((d5.refl H).seq hS)) ?_ ?_
 ·rintro i y σ H2 hy ⟨o1,o2,rfl,s2,ts,e2,sp2⟩
  obtain ⟨d1,hd1,iy⟩:=ht.get hy
  rw [List.getElem?_map] at hd1
  have hi:=(List.getElem?_eq_some_iff.mp hy).1
  cases hs:B[i]? with
  | none=>rw [hs] at hd1;cases hd1
  | some sp=>
   rw [hs] at hd1
   cases hd1
   obtain ⟨py,lo,hi',rfl,hpy,nlo,nhi⟩:=ah2 iy
   have S2:=(d5.refl H).trans s2
   have bsp:=hB sp (List.mem_of_getElem? hs)
   subst_eqs
   refine ⟨_,S2.tup hpy,rfl,_,_,rfl,_,_,rfl,rfl,?_⟩
   refine ⟨_,_,sp.1,n,rfl,nlo.same S2,hx.same S2,bsp.1.bd6 (by decide),hn.bd6 (by decide),fun r1 H3 s3 e3=>?_⟩
   have S3:=S2.trans s3
   refine ⟨_,_,sp.2,n,rfl,nhi.same S3,hx.same S3,bsp.2.bd6 (by decide),hn.bd6 (by decide),fun r2 H4 s4 e4=>⟨v5,fun p hp=>?_⟩⟩
   have Sp:=d5.new hp (.tup [.ref r1,.ref r2])
   have S4:=s3.trans (s4.trans Sp)
   have eD:=S4 _ _ e2
   refine D5.mk hi eD (by rw [sp2.length,List.length_take,O4];exact C1 (by omega)) ⟨_,_,rfl,(s2.trans S4).over hD _,ts++[.ref p],b8,?_⟩
   have ew:(A6 n B)[i]? = some (sp.1 - n,sp.2+n):=by unfold A6;rw [List.getElem?_map,hs];rfl
   rw [v4 ew]
   exact ((sp2.mono S4.tups).append (.cons b8 (Sp _ _ (s4 _ _ e3)) (Sp _ _ e4) .nil)).mono (L8.lst eD)
 ·rintro σ H2 ⟨o1,o2,rfl,s2,ts,e2,sp2⟩
  have lt:=ht.length
  rw [List.length_map] at lt
  rw [V8 (by unfold A6;rw [List.length_map];omega)] at sp2
  exact k D ts H2 s2 hD e2 sp2
end
def ai6:List (List Nat):=[[0,0,1,1],[1,1,0,0],[0,1,1,0],[1,0,0,1]]
def aL9 (k:Nat) (s:Rat × Rat):Rat:=if k=0 then s.1 else s.2
def ah5 (B:List (Rat × Rat)) (sd:List Nat):List Rat:=B.mapIdx fun i s=>aL9 ((sd[i % 4]?).getD 0) s
def D9 (B:List (Rat × Rat)):List (List Rat):=ai6.map (ah5 B)
theorem ah4 {B:List (Rat × Rat)} {sd:List Nat} {i:Nat} {s:Rat × Rat} (h:B[i]? = some s):(ah5 B sd)[i]? = some (aL9 ((sd[i % 4]?).getD 0) s):=by
 unfold ah5
 rw [List.getElem?_mapIdx,h];rfl
theorem W8 (B:List (Rat × Rat)) (sd:List Nat):(ah5 B sd).length=B.length:=by simp [ah5]
section
variable {P:Program} {w:World} {K:PySem.W.Frag} {mg:Str→Option Value} {base:Heap}
def ak6 (K:PySem.W.Frag):Sp:=fun vs H Q _=>∃ b ys B,vs=[.ref b]∧H b=some (.lst ys)∧x8 H ys B∧B.length≤8∧aM5 H Q (D9 B)
abbrev C7:Stmt:=top 48
theorem au3:i9 ["box"] ["box"] (d3 C7):=by and_intros
set_option maxHeartbeats 0 in
theorem av0 {f aS a0 a1 a2 a3:Addr} (d:Df K mg "corners_of" C7 ["box"] f) (c_SIDES:mg "SIDES" = some (.ref aS)) (t_SIDES:∀ H:Hp,SqT K H aS [.ref a0,.ref a1,.ref a2,.ref a3]) (t0_SIDES:∀ H:Hp,SqT K H a0 [.int 0,.int 0,.int 1,.int 1]) (t1_SIDES:∀ H:Hp,SqT K H a1 [.int 1,.int 1,.int 0,.int 0]) (t2_SIDES:∀ H:Hp,SqT K H a2 [.int 0,.int 1,.int 1,.int 0]) (t3_SIDES:∀ H:Hp,SqT K H a3 [.int 1,.int 0,.int 0,.int 1]) (n_enumerate:mg "enumerate" = none):Def P w K mg base CX0 1 "corners_of" f ["box"] (ak6 K):=by
 refine d.ok (N:=["box"]) au3 (by rintro vs H Q E ⟨_,_,_,h,_⟩;rw [h];rfl) (fun cdv A outer s H vs Q E hr h=>?_)
 obtain ⟨b,ys,B,rfl,hb,sp,l8,k⟩:=h
 refine ⟨_,(d6 (h9 (aX7 (Nc:=["box","sides"]) (caps:=[some 0,none]) rfl (aP7.of (osc:=d3 C7) (N:=["box"]) (ks:=["box"]) rfl rfl rfl rfl (C0 rfl C3) (by decide +kernel)) (aK0 (z9 (v:=.ref _) rfl c_SIDES rfl)) (fun C s₂ H₂ fp pins=>(g8 (i:=1) (show List.Nodup (["box","sides"]:List Str) by decide +kernel) rfl (Or.inr rfl) (Or.inl rfl))) (fun C s₂ H₂ fp pins=>(N6 (Nc:=["sides","place","span"]) (caps:=[some 1,none,none]) rfl (X5.of (osc:=_) (N:=["box","sides"]) (ks:=["sides"]) rfl rfl rfl rfl (C0 rfl C3) (by kernel_rfl)) (show PI _ _ _ (aO4 K _) from by exact (ao4 rfl n_enumerate (b6 (pv 0) b7))) (fun C s₂ H₂ fp pins=>(show PG _ _ (R9 K 2 (v8 (v3 1) (v8 (v3 2) S8))) from by (refine C2 (n:=2) ?_ ?_ ?_ ?_;rfl;(refine j0 ?_ ?_ ?_;(exact (g8 (i:=1) (show List.Nodup (["sides","place","span"]:List Str) by decide +kernel) rfl (Or.inl rfl) (Or.inr rfl)));(refine j0 ?_ ?_ ?_;(exact (g8 (i:=2) (show List.Nodup (["sides","place","span"]:List Str) by decide +kernel) rfl (Or.inl rfl) (Or.inr rfl)));(exact A4);rfl);rfl);rfl;rfl))) (fun C s₂ H₂ fp pins=>(i6 (by exact j6:IxR _ (aJ5 K)) (pv 2) (i6 (by exact j6:IxR _ (aJ5 K)) (pv 0) (d9 bk6 (pv 1) b9) (fun _ _=>rfl)) (fun _ _=>rfl)))))))),?_⟩
 rw [show start ["box"] [.ref b]=[some (.ref b)] from rfl]
 subst_eqs
 have ly:=sp.length
 refine ⟨⟨_,t_SIDES H⟩,fun D hD=>?_⟩
 refine aM1 [.ref a0,.ref a1,.ref a2,.ref a3] (fun i σ H2=>∃ o,σ=[some (.ref b),o]∧T2 H D ((D9 B).take i) H2) ⟨_,rfl,T2.start hD⟩ (fun i σ H2 _ _=>t_SIDES H2) ?_ ?_
 ·rintro m x σ H2 hx ⟨o,rfl,T⟩
  have hsd:∃ am sd,x = .ref am∧ai6[m]? = some sd∧sd.length=4∧(∀ k∈sd,k<2)∧∀ H,SqT K H am (sd.map fun k:Nat=>V.int (k:Int)):=by
   match m,hx with
   | 0,hx=>cases hx;exact ⟨a0,_,rfl,rfl,rfl,by decide,t0_SIDES⟩
   | 1,hx=>cases hx;exact ⟨a1,_,rfl,rfl,rfl,by decide,t1_SIDES⟩
   | 2,hx=>cases hx;exact ⟨a2,_,rfl,rfl,rfl,by decide,t2_SIDES⟩
   | 3,hx=>cases hx;exact ⟨a3,_,rfl,rfl,rfl,by decide,t3_SIDES⟩
   | m+4,hx=>simp at hx
  obtain ⟨am,sd,rfl,hsd,lsd,bsd,tsd⟩:=hsd
  have hm:m<4:=(List.getElem?_eq_some_iff.mp hx).1
  subst_eqs
  have hb2:=T.same _ _ hb
  have sp2:=sp.mono T.same.tups
  refine ⟨⟨_,SqL.of hb2⟩,fun D2 hD2=>?_⟩
  refine aP1 ys (fun j σ H3=>∃ o1 o2,σ=[some (.ref am),o1,o2]∧ad3 H2 D2 ((ah5 B sd).take j) H3) ⟨_,_,rfl,ad3.start hD2⟩ (by rintro j σ H3 ⟨_,_,_,R⟩;exact SqL.of (R.same _ _ hb2)) ?_ ?_
  ·rintro j y σ H3 p hy ⟨o1,o2,rfl,R⟩ hp
   obtain ⟨pp,la,lb,sl,rfl,eB,epp,ela,elb⟩:=sp2.get hy
   have hj:=(List.getElem?_eq_some_iff.mp hy).1
   subst_eqs
   have Sp:=d5.new hp (.tup [.int (j:Int),.ref pp])
   have S:=R.same.trans Sp
   have e4:Builtin.bitAnd (j:Int) 3=((j % 4:Nat):Int):=by
    have:j=0∨j=1∨j=2∨j=3∨j=4∨j=5∨j=6∨j=7:=by omega
    rcases this with rfl | rfl | rfl | rfl | rfl | rfl | rfl | rfl <;> decide +kernel
   have h4:j % 4<sd.length:=by omega
   have ek:=List.getElem?_eq_getElem h4
   generalize sd[j % 4]=k4 at ek
   have k2:=bsd k4 (List.mem_of_getElem? ek)
   refine ⟨_,SqT.of b8,rfl,_,_,rfl,_,_,rfl,rfl,?_⟩
   refine ⟨_,rfl,_,tsd _,.int (k4:Int),?_,?_⟩
   ·rw [e4];exact C9 (by rw [List.getElem?_map,ek];rfl)
   have ek2:∃ c,atI [V.ref la,V.ref lb] (k4:Int)=some (.ref c)∧H2 c=some (.tup (p9 (aL9 k4 sl))):=by
    have:k4=0∨k4=1:=by omega
    rcases this with rfl | rfl
    ·exact ⟨la,rfl,ela⟩
    ·exact ⟨lb,rfl,elb⟩
   obtain ⟨c,ec,hc⟩:=ek2
   refine ⟨pp,rfl,_,_,rfl,SqT.of (S _ _ epp),_,ec,?_⟩
   obtain ⟨zs,eD,zl,R'⟩:=R.add hD2 Sp (S _ _ hc)
   refine D5.mk hj eD (C1 (by rw [zl,List.length_take,W8];omega)) ⟨_,_,rfl,?_⟩
   rw [v4 (ah4 eB),ek]
   exact R'
  ·rintro σ H3 ⟨o1,o2,rfl,R⟩
   rw [V8 (by rw [W8];omega)] at R
   obtain ⟨zs,eD,zl,T'⟩:=T.add hD hD2 R
   refine D5.mk hm eD (C1 (by rw [zl,List.length_take];omega)) ⟨_,rfl,?_⟩
   rw [v4 (l:=D9 B) (x:=ah5 B sd) (by unfold D9;rw [List.getElem?_map,hsd];rfl)]
   exact T'
 ·rintro σ H2 ⟨o,rfl,T⟩
  rw [V8 (by simp [D9,ai6])] at T
  exact T.res k hD
def ap8 (K:PySem.W.Frag):Sp:=fun vs H Q _=>∃ b ys B,vs=[.ref b]∧H b=some (.lst ys)∧x8 H ys B∧B.length≤8∧aM5 H Q (D9 B)
abbrev v0:Stmt:=top 73
theorem R7:i9 ["_law_box","_law_found","_law_first"] ["_law_box"] (d3 v0):=by and_intros
def cb0:Stmt:=(g9 v0).getD 0 (.Pass ⟨0,0,0,0⟩)
def cb1:Stmt:=(g9 v0).getD 1 (.Pass ⟨0,0,0,0⟩)
def cb2:Stmt:=(g9 v0).getD 2 (.Pass ⟨0,0,0,0⟩)
theorem bq3:g9 v0=[cb0,cb1,cb2]:=rfl
def aH6:Stmt→Expr
 | .For _ i _ _ _=>i
 | _=>.Constant .none 0 ⟨0,0,0,0⟩
def fTg:Stmt→Expr
 | .For g _ _ _ _=>g
 | _=>.Constant .none 0 ⟨0,0,0,0⟩
def ba1:Stmt→List Stmt
 | .For _ _ b _ _=>b
 | _=>[]
def bp9:Stmt→Pos
 | .For _ _ _ _ p=>p
 | _=>⟨0,0,0,0⟩
theorem bn5:cb1 = .For (fTg cb1) (aH6 cb1) (ba1 cb1) [] (bp9 cb1):=rfl
def lE:Expr→List Expr
 | .List es _=>es
 | _=>[]
def br1:Expr→Pos
 | .List _ p=>p
 | _=>⟨0,0,0,0⟩
def ce (k:Nat):Expr:=(lE (aH6 cb1)).getD k (.Constant .none 0 ⟨0,0,0,0⟩)
theorem ce0 (X:Cx):PE X (ce 0) (ad8 (n9 (tC (.int 0)) (n9 (tC (.int 0)) (n9 (tC (.int 1)) (n9 (tC (.int 1)) V9))))):=m6 (b6 b9 (b6 b9 (b6 b9 (b6 b9 b7))))
theorem ce1 (X:Cx):PE X (ce 1) (ad8 (n9 (tC (.int 1)) (n9 (tC (.int 1)) (n9 (tC (.int 0)) (n9 (tC (.int 0)) V9))))):=m6 (b6 b9 (b6 b9 (b6 b9 (b6 b9 b7))))
theorem ce2 (X:Cx):PE X (ce 2) (ad8 (n9 (tC (.int 0)) (n9 (tC (.int 1)) (n9 (tC (.int 1)) (n9 (tC (.int 0)) V9))))):=m6 (b6 b9 (b6 b9 (b6 b9 (b6 b9 b7))))
theorem ce3 (X:Cx):PE X (ce 3) (ad8 (n9 (tC (.int 1)) (n9 (tC (.int 0)) (n9 (tC (.int 0)) (n9 (tC (.int 1)) V9))))):=m6 (b6 b9 (b6 b9 (b6 b9 (b6 b9 b7))))
theorem T4 {e:Expr} {es:List Expr} {env:Env} (ht:∃ xs x p,e = .Tuple xs x p):starEach (e :: es) env=(false,eval e env) :: starEach es env:=by
 obtain ⟨xs,x,p,rfl⟩:=ht
 rfl
theorem pl4 {X:Cx} {a b c d:Expr} {ta tb tc td:TE} {pos:Pos} (ha:PE X a ta) (hb:PE X b tb) (hc:PE X c tc) (hd:PE X d td) (sa:∃ xs x p,a = .Tuple xs x p) (sb:∃ xs x p,b = .Tuple xs x p) (sc:∃ xs x p,c = .Tuple xs x p) (sd:∃ xs x p,d = .Tuple xs x p):PE X (.List [a,b,c,d] pos) (aQ0 (n9 ta (n9 tb (n9 tc (n9 td V9))))):=
 v9 (b6 ha (b6 hb (b6 hc (b6 hd b7 (T4 sd)) (T4 sc)) (T4 sb)) (T4 sa))
theorem ct (k:Nat) (h:k<4):∃ xs x p,ce k = .Tuple xs x p:=by
 have:k=0∨k=1∨k=2∨k=3:=by omega
 rcases this with rfl | rfl | rfl | rfl <;> exact ⟨_,_,_,rfl⟩
theorem cit (X:Cx):PE X (aH6 cb1) (aQ0 (n9 (ad8 (n9 (tC (.int 0)) (n9 (tC (.int 0)) (n9 (tC (.int 1)) (n9 (tC (.int 1)) V9))))) (n9 (ad8 (n9 (tC (.int 1)) (n9 (tC (.int 1)) (n9 (tC (.int 0)) (n9 (tC (.int 0)) V9))))) (n9 (ad8 (n9 (tC (.int 0)) (n9 (tC (.int 1)) (n9 (tC (.int 1)) (n9 (tC (.int 0)) V9))))) (n9 (ad8 (n9 (tC (.int 1)) (n9 (tC (.int 0)) (n9 (tC (.int 0)) (n9 (tC (.int 1)) V9))))) V9))))):=@pl4 X (ce 0) (ce 1) (ce 2) (ce 3) _ _ _ _ (br1 (aH6 cb1)) (@ce0 X) (@ce1 X) (@ce2 X) (@ce3 X) (ct 0 (by decide)) (ct 1 (by decide)) (ct 2 (by decide)) (ct 3 (by decide))
theorem br3 (X:Cx) (g:TG) (tb:TS) (hp:PassesOwn (model X.prog X.w) X.A X.env X.xe) (hc:X.calm=true) (hg:PG X (fTg cb1) g) (hb:PSs X (ba1 cb1) tb):PS X cb1 (bo9 (aO3 X.K (aQ0 (n9 (ad8 (n9 (tC (.int 0)) (n9 (tC (.int 0)) (n9 (tC (.int 1)) (n9 (tC (.int 1)) V9))))) (n9 (ad8 (n9 (tC (.int 1)) (n9 (tC (.int 1)) (n9 (tC (.int 0)) (n9 (tC (.int 0)) V9))))) (n9 (ad8 (n9 (tC (.int 0)) (n9 (tC (.int 1)) (n9 (tC (.int 1)) (n9 (tC (.int 0)) V9))))) (n9 (ad8 (n9 (tC (.int 1)) (n9 (tC (.int 0)) (n9 (tC (.int 0)) (n9 (tC (.int 1)) V9))))) V9)))))) g tb):=
 bn5 ▸ @U5 X (fTg cb1) (aH6 cb1) (ba1 cb1) _ g tb (bp9 cb1) hp hc (@K7 X _ _ _ (@cit X)) hg hb (fun _=>rfl)
set_option maxHeartbeats 0 in
theorem am1 {f:Addr} (d:Df K mg "_law_corners" v0 ["_law_box"] f) (n_enumerate:mg "enumerate" = none):Def P w K mg base CX0 1 "_law_corners" f ["_law_box"] (ap8 K):=by
 refine d.ok (N:=["_law_box","_law_found","_law_first"]) R7 (by rintro vs H Q E ⟨_,_,_,h,_⟩;rw [h];rfl) (fun cdv A outer s H vs Q E hr h=>?_)
 obtain ⟨b,ys,B,rfl,hb,sp,l8,k⟩:=h
 rw [bq3]
 refine ⟨_,@d4 _ cb0 _ _ _ (j8 (i:=1) R7.nd rfl (Or.inl rfl) (v9 b7)) (@d4 _ cb1 _ _ _ (@br3 _ _ _ PassesOwn.never rfl (g8 (i:=2) R7.nd rfl (Or.inr rfl)) (d6 (ao3 (aG3 PySem.F.plainAttrs_list PySem.F.slot_list_append PySem.F.type_list_append W4 (pv 1) (b6 (N6 (Nc:=["_law_first","_law_place","_law_side"]) (caps:=[some 2,none,none]) rfl (X5.of (osc:=d3 v0) (N:=["_law_box","_law_found","_law_first"]) (ks:=["_law_first"]) rfl rfl rfl rfl (C0 rfl C3) (by decide +kernel)) (ao4 rfl n_enumerate (b6 (pv 0) b7)) (fun C s₂ H₂ fp pins=>(show PG _ _ (R9 K 2 (v8 (v3 1) (v8 (v3 2) S8))) from by (refine C2 (n:=2) ?_ ?_ ?_ ?_;rfl;(refine j0 ?_ ?_ ?_;(exact (g8 (i:=1) (show List.Nodup (["_law_first","_law_place","_law_side"]:List Str) by decide +kernel) rfl (Or.inl rfl) (Or.inr rfl)));(refine j0 ?_ ?_ ?_;(exact (g8 (i:=2) (show List.Nodup (["_law_first","_law_place","_law_side"]:List Str) by decide +kernel) rfl (Or.inl rfl) (Or.inr rfl)));(exact A4);rfl);rfl);rfl;rfl))) (fun C s₂ H₂ fp pins=>(i6 (by exact j6:IxR _ (aJ5 K)) (pv 2) (i6 (by exact j6:IxR _ (aJ5 K)) (pv 0) (d9 P6 (pv 1) b9) (fun _ _=>rfl)) (fun _ _=>rfl)))) b7))))) (d6 (h9 (pv 1)))),?_⟩
 rw [show start ["_law_box","_law_found","_law_first"] [.ref b]=[some (.ref b),none,none] from rfl]
 have ly:=sp.length
 refine i8 (fun σ H1=>∃ D,σ=[some (.ref b),some (.ref D),none]∧H D=none∧T2 H D [] H1) (fun N hN=>?_) ?_
 ·subst_eqs
  exact ⟨by decide,fun p hp=>hN _ _ ⟨p,rfl,hp,T2.start hp⟩⟩
 rintro σ H1 ⟨D,rfl,hD,T0⟩
 refine i8 (fun σ H2=>∃ o,σ=[some (.ref b),some (.ref D),o]∧T2 H D (D9 B) H2) (fun N hN=>?_) ?_
 ·refine ⟨by decide,fun p0 hp0=>⟨by decide,fun p1 hp1=>⟨by decide,fun p2 hp2=>⟨by decide,fun p3 hp3=>⟨show 4≤sizeLine by decide,fun p4 hp4=>?_⟩⟩⟩⟩⟩
  have S0:=d5.new hp0 (.tup [.int 0,.int 0,.int 1,.int 1])
  have S1:=d5.new hp1 (.tup [.int 1,.int 1,.int 0,.int 0])
  have S2:=d5.new hp2 (.tup [.int 0,.int 1,.int 1,.int 0])
  have S3:=d5.new hp3 (.tup [.int 1,.int 0,.int 0,.int 1])
  have S4:=d5.new hp4 (.lst [.ref p0,.ref p1,.ref p2,.ref p3])
  have e0:=S4 _ _ (S3 _ _ (S2 _ _ (S1 _ _ (show upd H1 p0 (.tup [.int 0,.int 0,.int 1,.int 1]) p0=_ from b8))))
  have e1:=S4 _ _ (S3 _ _ (S2 _ _ (show upd (upd H1 p0 (.tup [.int 0,.int 0,.int 1,.int 1])) p1 (.tup [.int 1,.int 1,.int 0,.int 0]) p1=_ from b8)))
  have e2:=S4 _ _ (S3 _ _ (show upd (upd (upd H1 p0 (.tup [.int 0,.int 0,.int 1,.int 1])) p1 (.tup [.int 1,.int 1,.int 0,.int 0])) p2 (.tup [.int 0,.int 1,.int 1,.int 0]) p2=_ from b8))
  have e3:=S4 _ _ (show upd (upd (upd (upd H1 p0 (.tup [.int 0,.int 0,.int 1,.int 1])) p1 (.tup [.int 1,.int 1,.int 0,.int 0])) p2 (.tup [.int 0,.int 1,.int 1,.int 0])) p3 (.tup [.int 1,.int 0,.int 0,.int 1]) p3=_ from b8)
  have e4:(upd (upd (upd (upd (upd H1 p0 (.tup [.int 0,.int 0,.int 1,.int 1])) p1 (.tup [.int 1,.int 1,.int 0,.int 0])) p2 (.tup [.int 0,.int 1,.int 1,.int 0])) p3 (.tup [.int 1,.int 0,.int 0,.int 1])) p4 (.lst [.ref p0,.ref p1,.ref p2,.ref p3])) p4=some (.lst [.ref p0,.ref p1,.ref p2,.ref p3]):=b8
  have T1:=T0.to (S0.trans (S1.trans (S2.trans (S3.trans S4))))
  have hp4D:D≠p4:=fun z=>by
   obtain ⟨_,_,eD,_⟩:=T0.to (S0.trans (S1.trans (S2.trans S3)))
   rw [z,hp4] at eD;cases eD
  generalize upd (upd (upd (upd (upd H1 p0 (.tup [.int 0,.int 0,.int 1,.int 1])) p1 (.tup [.int 1,.int 1,.int 0,.int 0])) p2 (.tup [.int 0,.int 1,.int 1,.int 0])) p3 (.tup [.int 1,.int 0,.int 0,.int 1])) p4 (.lst [.ref p0,.ref p1,.ref p2,.ref p3])=HA at e0 e1 e2 e3 e4 T1 ⊢
  obtain ⟨I,hI⟩:∃ I:Nat→L2.St→Hp→Prop,∀ i σ H2,I i σ H2↔∃ o,σ=[some (.ref b),some (.ref D),o]∧T2 H D ((D9 B).take i) H2∧L8 HA H2∧H2 p4=some (.lst [.ref p0,.ref p1,.ref p2,.ref p3]):=⟨_,fun _ _ _=>Iff.rfl⟩
  refine ⟨p4,rfl,⟨_,SqL.of e4⟩,W6 (xs:=[.ref p0,.ref p1,.ref p2,.ref p3]) I ((hI _ _ _).mpr ⟨_,rfl,T1,L8.refl _,e4⟩) (by intro i σ H2 _ h;obtain ⟨_,_,_,_,e⟩:=(hI _ _ _).mp h;exact SqL.of e) ?_ ?_⟩
  ·intro m x σ H2 hx h2
   obtain ⟨o,rfl,T,tA,e5⟩:=(hI _ _ _).mp h2
   have hsd:∃ am sd,x = .ref am∧ai6[m]? = some sd∧sd.length=4∧(∀ k∈sd,k<2)∧H2 am=some (.tup (sd.map fun k:Nat=>V.int (k:Int))):=by
    match m,hx with
    | 0,hx=>cases hx;exact ⟨p0,_,rfl,rfl,rfl,by decide,tA _ _ e0⟩
    | 1,hx=>cases hx;exact ⟨p1,_,rfl,rfl,rfl,by decide,tA _ _ e1⟩
    | 2,hx=>cases hx;exact ⟨p2,_,rfl,rfl,rfl,by decide,tA _ _ e2⟩
    | 3,hx=>cases hx;exact ⟨p3,_,rfl,rfl,rfl,by decide,tA _ _ e3⟩
    | m+4,hx=>simp at hx
   obtain ⟨am,sd,rfl,hsd,lsd,bsd,tsd⟩:=hsd
   have hm:m<4:=(List.getElem?_eq_some_iff.mp hx).1
   subst_eqs
   have hb2:=T.same _ _ hb
   have sp2:=sp.mono T.same.tups
   obtain ⟨ys0,eys⟩:∃ ys0,H2 D=some (.lst ys0):=by obtain ⟨_,_,eD,_⟩:=T;exact ⟨_,eD⟩
   refine ⟨.inl ⟨_,SqL.of eys⟩,⟨_,SqL.of hb2⟩,fun D2 hD2=>?_⟩
   refine aP1 ys (fun j σ H3=>∃ o1 o2,σ=[some (.ref am),o1,o2]∧ad3 H2 D2 ((ah5 B sd).take j) H3) ⟨_,_,rfl,ad3.start hD2⟩ (by rintro j σ H3 ⟨_,_,_,R⟩;exact SqL.of (R.same _ _ hb2)) ?_ ?_
   ·rintro j y σ H3 p hy ⟨o1,o2,rfl,R⟩ hp
    obtain ⟨pp,la,lb,sl,rfl,eB,epp,ela,elb⟩:=sp2.get hy
    have hj:=(List.getElem?_eq_some_iff.mp hy).1
    subst_eqs
    have Sp:=d5.new hp (.tup [.int (j:Int),.ref pp])
    have S:=R.same.trans Sp
    have e4:Int.fmod (j:Int) 4=((j % 4:Nat):Int):=by rw [Int.fmod_eq_emod_of_nonneg _ (by decide)];omega
    have h4:j % 4<sd.length:=by omega
    have ek:=List.getElem?_eq_getElem h4
    generalize sd[j % 4]=k4 at ek
    have k2:=bsd k4 (List.mem_of_getElem? ek)
    have ek2:∃ c,atI [V.ref la,V.ref lb] (k4:Int)=some (.ref c)∧H2 c=some (.tup (p9 (aL9 k4 sl))):=by
     have:k4=0∨k4=1:=by omega
     rcases this with rfl | rfl
     ·exact ⟨la,rfl,ela⟩
     ·exact ⟨lb,rfl,elb⟩
    obtain ⟨c,ec,hc⟩:=ek2
    refine ⟨_,SqT.of b8,rfl,_,_,rfl,_,_,rfl,rfl,?_⟩
    refine ⟨_,rfl,by decide,_,SqT.of (S _ _ tsd),.int (k4:Int),?_,pp,rfl,_,_,rfl,SqT.of (S _ _ epp),_,ec,?_⟩
    ·rw [e4];exact C9 (by rw [List.getElem?_map,ek];rfl)
    obtain ⟨zs,eD,zl,R'⟩:=R.add hD2 Sp (S _ _ hc)
    refine D5.mk hj eD (C1 (by rw [zl,List.length_take,W8];omega)) ⟨_,_,rfl,?_⟩
    rw [v4 (ah4 eB),ek]
    exact R'
   ·rintro σ H3 ⟨o1,o2,rfl,R⟩
    rw [V8 (by rw [W8];omega)] at R
    have sR:=R.same
    obtain ⟨zs,eD,zl,T'⟩:=T.add hD hD2 R
    refine ⟨zs,eD,C1 (by rw [zl,List.length_take];omega),?_⟩
    refine (hI _ _ _).mpr ⟨_,rfl,?_,(tA.trans sR.tups).trans (L8.lst eD),by rw [j3 hp4D.symm];exact sR _ _ e5⟩
    rw [v4 (l:=D9 B) (x:=ah5 B sd) (by unfold D9;rw [List.getElem?_map,hsd];rfl)]
    exact T'
  ·intro σ H2 h2
   obtain ⟨o,rfl,T,_⟩:=(hI _ _ _).mp h2
   rw [V8 (by simp [D9,ai6])] at T
   exact hN _ _ ⟨_,rfl,T⟩
 rintro σ H2 ⟨o,rfl,T⟩
 subst_eqs
 exact T.res k hD
end
def mA (a b:Rat) (f:Nat→Rat):Nat→Rat
 | 0=>a * f 0
 | k+1=>a * f (k+1)+b * f k
def dl:Nat→Rat:=fun k=>if k=0 then 1 else 0
def sZ (f:Nat→Int):Nat→Int
 | 0=>0
 | n+1=>sZ f n+f n
def Dg (f:Nat→Rat) (n:Nat):Prop:=∀ k,n≤k→f k=0
structure Eu (p q A B:Nat→Rat) (lp lq la lb:Nat):Prop where
 inv:∀ m,m<la→∀ u v,Dg u (lq - m)→Dg v (lp - m)→Dg (fun k=>cv u p k+cv v q k) m →
  ∃ a b,(∀ k,cv u p k+cv v q k=cv a A k+cv b B k)∧Dg a (lb - m)∧Dg b (la - m)∧((∀ k,a k=0)→(∀ k,b k=0)→∀ k,u k=0∧v k=0)
 le:la≤max lp lq
def sgd (i:Nat):Rat:=if i % 2=0 then 1 else -1
theorem aW1 (i:Nat):sgd (i+1) = - sgd i:=by
 unfold sgd
 rcases Nat.mod_two_eq_zero_or_one i with h | h
 ·rw [if_pos h,if_neg (by omega)]
 ·rw [if_pos (show (i+1) % 2=0 by omega),if_neg (show ¬ i % 2=0 by omega)];grind
abbrev Mt:=Nat→Nat→Rat
def mn (M:Mt) (i:Nat):Mt:=fun r c=>M (if r<i then r else r+1) (c+1)
def dt:Nat→Mt→Rat
 | 0,_=>1
 | n+1,M=>t8 (fun i=>sgd i * M i 0 * dt n (mn M i)) (n+1)
theorem N8 (n:Nat) (M:Mt):dt (n+1) M=t8 (fun i=>sgd i * M i 0 * dt n (mn M i)) (n+1):=rfl
theorem aH7:∀ {n:Nat} {M N:Mt},(∀ r,r<n→∀ c,c<n→M r c=N r c)→dt n M=dt n N
 | 0,_,_,_=>rfl
 | n+1,M,N,h=>by
  rw [N8,N8]
  refine M8 fun i hi=>?_
  rw [h i hi 0 (by omega),aH7 (n:=n) (M:=mn M i) (N:=mn N i) fun r hr c hc=>h _ (by split <;> omega) _ (by omega)]
def B5 (M:Mt) (r:Nat) (v:Nat→Rat):Mt:=fun i c=>if i=r then v c else M i c
theorem ai7 (M:Mt) (r:Nat):B5 M r (M r)=M:=by
 funext i c
 unfold B5
 split
 ·rename_i h;rw [h]
 ·rfl
theorem aa4 (M:Mt) (r:Nat) (v:Nat→Rat):mn (B5 M r v) r=mn M r:=by
 funext i c
 unfold mn B5
 rw [if_neg (by split <;> omega)]
theorem aj1 (M:Mt) {r i:Nat} (v:Nat→Rat) (h:r<i):mn (B5 M r v) i=B5 (mn M i) r (fun c=>v (c+1)):=by
 funext a c
 unfold mn B5
 by_cases z:a=r
 ·rw [if_pos z,if_pos (by rw [z,if_pos h])]
 ·rw [if_neg z,if_neg (by split <;> omega)]
theorem aj2 (M:Mt) {r i:Nat} (v:Nat→Rat) (h:i<r):mn (B5 M r v) i=B5 (mn M i) (r - 1) (fun c=>v (c+1)):=by
 funext a c
 unfold mn B5
 by_cases z:a=r - 1
 ·rw [if_pos z,if_pos (by rw [z,if_neg (by omega)];omega)]
 ·rw [if_neg z,if_neg (by split <;> omega)]
theorem aD6:∀ {n:Nat} (M:Mt) {r:Nat} (a b:Rat) (v w:Nat→Rat),r<n→dt n (B5 M r fun c=>a * v c+b * w c)=a * dt n (B5 M r v)+b * dt n (B5 M r w)
 | 0,_,_,_,_,_,_,h=>by omega
 | n+1,M,r,a,b,v,w,h=>by
  rw [N8,N8,N8,ah9,ah9,ai0]
  refine M8 fun i hi=>?_
  rcases Nat.lt_trichotomy r i with z | z | z
  ·rw [aj1 M _ z,aj1 M _ z,aj1 M _ z,aD6 (mn M i) a b _ _ (by omega)]
   have:∀ u:Nat→Rat,B5 M r u i 0=M i 0:=fun u=>if_neg (by omega)
   rw [this,this,this];grind
  ·subst z
   rw [aa4,aa4,aa4]
   have:∀ u:Nat→Rat,B5 M r u r 0=u 0:=fun u=>if_pos rfl
   rw [this,this,this];grind
  ·rw [aj2 M _ z,aj2 M _ z,aj2 M _ z,aD6 (mn M i) a b _ _ (by omega)]
   have:∀ u:Nat→Rat,B5 M r u i 0=M i 0:=fun u=>if_neg (by omega)
   rw [this,this,this];grind
theorem bc9 {f:Nat→Rat} {n r:Nat} (hr:r+1<n) (h:∀ i,i<n→i≠r→i≠r+1→f i=0):t8 f n=f r+f (r+1):=by
 have:t8 f n=t8 (fun i=>(if i=r then f r else 0)+(if i=r+1 then f (r+1) else 0)) n:=M8 fun i hi=>by
  by_cases z:i=r
  ·rw [if_pos z,if_neg (by omega),z];grind
  ·by_cases y:i=r+1
   ·rw [if_neg z,if_pos y,y];grind
   ·rw [if_neg z,if_neg y,h i hi z y];grind
 rw [this,←ai0,T3 (fun _=>f r),T3 (fun _=>f (r+1)),if_pos (by omega),if_pos hr]
theorem aD7:∀ {n:Nat} {M:Mt} {r:Nat},r+1<n→(∀ c,M r c=M (r+1) c)→dt n M=0
 | 0,_,_,h,_=>by omega
 | n+1,M,r,h,e=>by
  rw [N8]
  rw [bc9 h fun i hi h1 h2=>?_]
  ·have:mn M r=mn M (r+1):=by
    funext a c
    unfold mn
    by_cases z:a=r
    ·rw [if_neg (by omega),if_pos (by omega),z,e]
    ·by_cases y:a<r
     ·rw [if_pos y,if_pos (by omega)]
     ·rw [if_neg y,if_neg (by omega)]
   rw [this,aW1,e 0];grind
  ·have:dt n (mn M i)=0:=by
    by_cases z:i<r
    ·refine aD7 (r:=r - 1) (by omega) fun c=>?_
     unfold mn
     rw [if_neg (by omega),if_neg (by omega),show r - 1+1=r by omega];exact e _
    ·refine aD7 (r:=r) (by omega) fun c=>?_
     unfold mn
     rw [if_pos (by omega),if_pos (by omega)];exact e _
   rw [this];grind
def swR (M:Mt) (r s:Nat):Mt:=fun i c=>M (if i=r then s else if i=s then r else i) c
theorem set_comm (M:Mt) {r s:Nat} (h:r≠s) (v w:Nat→Rat):B5 (B5 M r v) s w=B5 (B5 M s w) r v:=by
 funext i c
 unfold B5
 by_cases z:i=s
 ·rw [if_pos z,if_neg (by omega),if_pos z]
 ·rw [if_neg z]
  by_cases y:i=r
  ·rw [if_pos y,if_pos y]
  ·rw [if_neg y,if_neg y,if_neg z]
theorem ba8 {n:Nat} (M:Mt) {r:Nat} (v w:Nat→Rat) (h:r<n):dt n (B5 M r fun c=>v c+w c)=dt n (B5 M r v)+dt n (B5 M r w):=by
 have:=aD6 M 1 1 v w h
 rw [show (fun c=>v c+w c)=fun c=>1 * v c+1 * w c by funext c;grind,this];grind
theorem bf8 {n:Nat} {M:Mt} {r:Nat} (h:r+1<n):dt n (swR M r (r+1)) = - dt n M:=by
 have e0:∀ v:Nat→Rat,dt n (B5 (B5 M r v) (r+1) v)=0:=fun v=>aD7 h fun c=>by
  unfold B5
  rw [if_neg (by omega),if_pos rfl,if_pos rfl]
 have e1:=e0 fun c=>M r c+M (r+1) c
 have x1:∀ w:Nat→Rat,dt n (B5 (B5 M r fun c=>M r c+M (r+1) c) (r+1) w)=dt n (B5 (B5 M (r+1) w) r (M r))+dt n (B5 (B5 M (r+1) w) r (M (r+1))):=fun w=>by
  rw [set_comm _ (by omega),ba8 _ _ _ (by omega)]
 rw [ba8 _ _ _ h,x1,x1] at e1
 rw [show B5 (B5 M (r+1) (M r)) r (M r)=B5 (B5 M r (M r)) (r+1) (M r) from set_comm _ (by omega) _ _,e0] at e1
 rw [show B5 (B5 M (r+1) (M (r+1))) r (M (r+1))=B5 (B5 M r (M (r+1))) (r+1) (M (r+1)) from set_comm _ (by omega) _ _,e0] at e1
 have s1:B5 (B5 M (r+1) (M (r+1))) r (M r)=M:=by rw [ai7,ai7]
 have s2:B5 (B5 M (r+1) (M r)) r (M (r+1))=swR M r (r+1):=by
  funext i c
  unfold B5 swR
  by_cases z:i=r
  ·rw [if_pos z,if_pos z]
  ·rw [if_neg z,if_neg z]
   by_cases y:i=r+1
   ·rw [if_pos y,if_pos y]
   ·rw [if_neg y,if_neg y]
 rw [s1,s2] at e1
 grind
theorem as6 {n:Nat}:∀ (d:Nat) {M:Mt} {r:Nat},r+d+1<n→(∀ c,M r c=M (r+d+1) c)→dt n M=0
 | 0,_,_,h,e=>aD7 h e
 | d+1,M,r,h,e=>by
  have h1:=bf8 (M:=M) (r:=r+d+1) (n:=n) (by omega)
  have h2:dt n (swR M (r+d+1) (r+d+1+1))=0:=as6 d (r:=r) (by omega) fun c=>by
   unfold swR
   rw [if_neg (by omega),if_neg (by omega),if_pos rfl];exact e c
  rw [h2] at h1
  grind
theorem aS9 {n:Nat} {M:Mt} {r s:Nat} (hr:r<n) (hs:s<n) (hn:r≠s) (e:∀ c,M r c=M s c):dt n M=0:=by
 rcases Nat.lt_or_ge r s with z | z
 ·exact as6 (s - r - 1) (r:=r) (by omega) fun c=>by rw [show r+(s - r - 1)+1=s by omega];exact e c
 ·exact as6 (r - s - 1) (r:=s) (by omega) fun c=>by rw [show s+(r - s - 1)+1=r by omega];exact (e c).symm
theorem bn2 {n:Nat} {M:Mt} {r s:Nat} (a b:Rat) (hr:r<n) (hs:s<n) (hn:r≠s):dt n (B5 M r fun c=>a * M r c+b * M s c)=a * dt n M:=by
 rw [aD6 M a b (M r) (M s) hr,ai7,aS9 (M:=B5 M r (M s)) hr hs hn fun c=>by
  unfold B5
  rw [if_pos rfl,if_neg (by omega)]]
 grind
theorem ba7 {n:Nat} {M:Mt} (h:∀ i,0<i→i<n+1→M i 0=0):dt (n+1) M=M 0 0 * dt n (mn M 0):=by
 rw [N8]
 have:t8 (fun i=>sgd i * M i 0 * dt n (mn M i)) (n+1)=t8 (fun i=>if i=0 then M 0 0 * dt n (mn M 0) else 0) (n+1):=M8 fun i hi=>by
  by_cases z:i=0
  ·rw [if_pos z,z]
   show sgd 0 * _ * _=_
   unfold sgd
   rw [if_pos (by decide)];grind
  ·rw [if_neg z,h i (by omega) hi];grind
 rw [this,T3 (fun _=>M 0 0 * dt n (mn M 0)),if_pos (by omega)]
def IsI (q:Rat):Prop:=∃ z:Int,q=(z:Rat)
def hz (A B:Nat→Rat):Mt:=fun i c=>if c<i / 2 then 0 else if i % 2=0 then B (c - i / 2) else A (c - i / 2)
def T8 (k j c:Nat):Nat:=if c+1=k then c+j else c
def tau (A B:Nat→Rat) (k j:Nat):Rat:=if k=0 then A j else dt k fun i c=>hz A B i (T8 k j c)
def A3 (A B:Nat→Rat):Nat→Rat:=fun j=>B 0 * A (j+1) - A 0 * B (j+1)
theorem V7 (A B:Nat→Rat) (j:Nat):tau A B 0 j=A j:=if_pos rfl
theorem L9 (A B:Nat→Rat) (j:Nat):tau A B 1 j=B j:=by
 unfold tau
 rw [if_neg (by decide),N8]
 show (0:Rat)+sgd 0 * hz A B 0 (T8 1 j 0) * 1=_
 have h1:sgd 0=1:=if_pos (by decide)
 have h2:T8 1 j 0=j:=by unfold T8;rw [if_pos rfl];omega
 have h3:hz A B 0 j=B j:=by unfold hz;rw [if_neg (by omega),if_pos (by decide)];rfl
 rw [h1,h2,h3];grind
def hm (A B:Nat→Rat) (m:Nat):Mt:=fun i c=>if i % 2=1∧i<m then B 0 * hz A B i c - A 0 * hz A B (i - 1) c else hz A B i c
theorem aD4 (A B:Nat→Rat) {k:Nat} (f:Nat→Nat):∀ m,m≤k→dt k (fun i c=>hm A B m i (f c))=B 0 ^ (m / 2) * dt k (fun i c=>hz A B i (f c))
 | 0,_=>by
  have:(fun i c=>hm A B 0 i (f c))=fun i c=>hz A B i (f c):=by
   funext i c
   unfold hm
   rw [if_neg (fun h=>absurd h.2 (Nat.not_lt_zero _))]
  rw [this,show 0 / 2=0 from rfl,Rat.pow_zero];grind
 | m+1,h=>by
  have ih:=aD4 A B (k:=k) f m (by omega)
  by_cases z:m % 2=1
  ·have e:(fun i c=>hm A B (m+1) i (f c))=B5 (fun i c=>hm A B m i (f c)) m fun c=>B 0 * (fun i c=>hm A B m i (f c)) m c+(- A 0) * (fun i c=>hm A B m i (f c)) (m - 1) c:=by
    funext i c
    unfold B5
    by_cases y:i=m
    ·rw [if_pos y,y]
     show hm A B (m+1) m (f c)=B 0 * hm A B m m (f c) + - A 0 * hm A B m (m - 1) (f c)
     unfold hm
     rw [if_pos ⟨z,by omega⟩,if_neg (by omega),if_neg (by omega)];grind
    ·rw [if_neg y]
     show hm A B (m+1) i (f c)=hm A B m i (f c)
     unfold hm
     by_cases x:i % 2=1∧i<m
     ·rw [if_pos x,if_pos ⟨x.1,by omega⟩]
     ·rw [if_neg x,if_neg (by omega)]
   rw [e,bn2 _ _ (by omega) (by omega) (by omega),ih,show (m+1) / 2=m / 2+1 by omega,Rat.pow_succ];grind
  ·have e:(fun i c=>hm A B (m+1) i (f c))=fun i c=>hm A B m i (f c):=by
    funext i c
    unfold hm
    by_cases x:i % 2=1∧i<m
    ·rw [if_pos x,if_pos ⟨x.1,by omega⟩]
    ·rw [if_neg x,if_neg (by omega)]
   rw [e,ih,show (m+1) / 2=m / 2 by omega]
theorem af7 (A B:Nat→Rat) (k j:Nat) (hk:1≤k):B 0 ^ ((k+1) / 2) * tau A B (k+1) j=B 0 * tau B (A3 A B) k j:=by
 have h1:=aD4 A B (k:=k+1) (T8 (k+1) j) (k+1) (Nat.le_refl _)
 unfold tau
 rw [if_neg (by omega),if_neg (by omega),←h1]
 have c0:T8 (k+1) j 0=0:=by unfold T8;rw [if_neg (by omega)]
 rw [ba7 fun i h0 hi=>?_]
 ·congr 1
  ·show hm A B (k+1) 0 (T8 (k+1) j 0)=B 0
   rw [c0]
   unfold hm hz
   rw [if_neg (by omega),if_neg (by omega),if_pos (by decide)]
  ·refine aH7 fun i hi c hc=>?_
   show hm A B (k+1) (if i<0 then i else i+1) (T8 (k+1) j (c+1))=hz B (A3 A B) i (T8 k j c)
   rw [if_neg (by omega)]
   have cc:T8 (k+1) j (c+1)=T8 k j c+1:=by
    unfold T8
    by_cases z:c+1=k
    ·rw [if_pos z,if_pos (by omega)];omega
    ·rw [if_neg z,if_neg (by omega)]
   rw [cc]
   generalize T8 k j c=d
   unfold hm hz A3
   rcases Nat.mod_two_eq_zero_or_one i with z | z
   ·rw [if_pos ⟨by omega,by omega⟩,show i+1 - 1=i from rfl]
    rw [show (i+1) / 2=i / 2 by omega,if_neg (show ¬ (i+1) % 2=0 by omega),if_pos z,if_pos z]
    by_cases y:d+1<i / 2
    ·rw [if_pos y,if_pos y,if_pos (by omega)];grind
    ·rw [if_neg y,if_neg y]
     by_cases x:d<i / 2
     ·rw [if_pos x,show d+1 - i / 2=0 by omega];grind
     ·rw [if_neg x,show d+1 - i / 2=d - i / 2+1 by omega]
   ·rw [if_neg (by omega),if_pos (show (i+1) % 2=0 by omega),if_neg (show ¬ i % 2=0 by omega),show (i+1) / 2=i / 2+1 by omega]
    by_cases y:d<i / 2
    ·rw [if_pos (by omega),if_pos y]
    ·rw [if_neg (by omega),if_neg y,show d+1 - (i / 2+1)=d - i / 2 by omega]
 ·show hm A B (k+1) i (T8 (k+1) j 0)=0
  rw [c0]
  unfold hm hz
  rcases Nat.mod_two_eq_zero_or_one i with z | z
  ·rw [if_neg (by omega),if_pos (by omega)]
  ·rw [if_pos ⟨z,hi⟩]
   by_cases y:i=1
   ·subst y
    show B 0 * (if 0<1 / 2 then 0 else if 1 % 2=0 then B (0 - 1 / 2) else A (0 - 1 / 2)) - A 0 * (if 0<0 / 2 then 0 else if 0 % 2=0 then B (0 - 0 / 2) else A (0 - 0 / 2))=0
    rw [if_neg (by decide),if_neg (by decide),if_neg (by decide),if_pos (by decide)];grind
   ·rw [if_pos (by omega),if_pos (by omega)];grind
theorem ao1 {b:Rat} (h:b≠0):∀ n:Nat,b ^ n≠0
 | 0=>by rw [Rat.pow_zero];decide
 | n+1=>by
  rw [Rat.pow_succ]
  intro z
  rcases Rat.mul_eq_zero.mp z with y | y
  ·exact ao1 h n y
  ·exact h y
theorem Y7 {b x y:Rat} (h:b≠0) (e:b * x=b * y):x=y:=by
 have:=Rat.mul_inv_cancel _ h
 generalize b⁻¹=u at this
 grind
theorem aq3 (b:Rat) (m:Nat):∀ n:Nat,b ^ (m+n)=b ^ m * b ^ n
 | 0=>by rw [Nat.add_zero,Rat.pow_zero];grind
 | n+1=>by rw [←Nat.add_assoc,Rat.pow_succ,aq3 b m n,Rat.pow_succ];grind
theorem ad5 (A B:Nat→Rat) (h:B 0≠0) (k j:Nat) (hk:1≤k):tau B (A3 A B) k j=B 0 ^ ((k+1) / 2 - 1) * tau A B (k+1) j:=by
 refine Y7 h ?_
 rw [←af7 A B k j hk]
 obtain ⟨e,he⟩:∃ e,(k+1) / 2=e+1:=⟨(k+1) / 2 - 1,by omega⟩
 rw [he,Rat.pow_succ,Nat.add_sub_cancel];grind
def dlt (A B:Nat→Rat) (k:Nat):Rat:=if k≤2 then 1 else tau A B (k - 2) 0
theorem az2:∀ (k:Nat) (A B:Nat→Rat),1≤k→(∀ i,1≤i→i<k→tau A B i 0≠0)→(k=1→B 0≠0)→∀ j,tau A B (k+1) j * dlt A B k=tau A B k 0 * tau A B (k - 1) (j+1) - tau A B (k - 1) 0 * tau A B k (j+1)
 | 0,_,_,h,_,_,_=>by omega
 | 1,A,B,_,_,hb,j=>by
  have h1:=af7 A B 1 j (by decide)
  rw [L9] at h1
  have:=Y7 (hb rfl) (x:=tau A B 2 j) (y:=A3 A B j) (by rw [←h1];show _=B 0 ^ (1) * _;rw [Rat.pow_succ,Rat.pow_zero];grind)
  unfold dlt
  rw [if_pos (by decide),show 1+1=2 from rfl,this,show 1 - 1=0 from rfl,L9,V7,V7,L9]
  unfold A3
  grind
 | k+2,A,B,_,hn,_,j=>by
  have b0:B 0≠0:=by
   have:=hn 1 (by decide) (by omega)
   rwa [L9] at this
  have s0:∀ i,tau B (A3 A B) 0 i=tau A B 1 i:=fun i=>by rw [V7,L9]
  cases k with
  | zero=>
   have h2:=af7 A B 2 j (by decide)
   have e2:∀ i,tau A B 2 i=A3 A B i:=fun i=>by
    have h1:=af7 A B 1 i (by decide)
    rw [L9] at h1
    exact Y7 b0 (x:=tau A B 2 i) (y:=A3 A B i) (by rw [←h1];show _=B 0 ^ (1) * _;rw [Rat.pow_succ,Rat.pow_zero];grind)
   have e3:tau A B 3 j=tau B (A3 A B) 2 j:=Y7 b0 (by rw [←h2];show _=B 0 ^ (1) * _;rw [Rat.pow_succ,Rat.pow_zero];grind)
   have hm1:=aD4 B (A3 A B) (k:=2) (T8 2 j) 2 (Nat.le_refl _)
   have e4:tau B (A3 A B) 2 j=A3 A B 0 * B (j+1) - B 0 * A3 A B (j+1):=by
    unfold tau
    rw [if_neg (by decide),N8]
    show (0:Rat)+sgd 0 * hz B (A3 A B) 0 0 * dt 1 (mn (fun i c=>hz B (A3 A B) i (T8 2 j c)) 0)+sgd 1 * hz B (A3 A B) 1 0 * dt 1 (mn (fun i c=>hz B (A3 A B) i (T8 2 j c)) 1)=_
    have d1:∀ M:Mt,dt 1 M=M 0 0:=fun M=>by
     rw [N8]
     show (0:Rat)+sgd 0 * M 0 0 * 1=_
     rw [show sgd 0=1 from if_pos (by decide)];grind
    rw [d1,d1]
    show (0:Rat)+sgd 0 * hz B (A3 A B) 0 0 * hz B (A3 A B) 1 (T8 2 j 1)+sgd 1 * hz B (A3 A B) 1 0 * hz B (A3 A B) 0 (T8 2 j 1)=_
    have h2:T8 2 j 1=j+1:=by unfold T8;rw [if_pos rfl];omega
    rw [h2,show sgd 0=1 from if_pos (by decide),show sgd 1 = -1 from if_neg (by decide)]
    have a1:∀ d,hz B (A3 A B) 0 d=A3 A B d:=fun d=>by unfold hz;rw [if_neg (by omega),if_pos (by decide)];rfl
    have a2:∀ d,hz B (A3 A B) 1 d=B d:=fun d=>by unfold hz;rw [if_neg (by omega),if_neg (by decide)];rfl
    rw [a1,a1,a2,a2];grind
   unfold dlt
   rw [if_pos (by decide)]
   show tau A B 3 j * 1=tau A B 2 0 * tau A B 1 (j+1) - tau A B 1 0 * tau A B 2 (j+1)
   rw [e3,e4,e2,e2,L9,L9];grind
  | succ k=>
   have ih:=az2 (k+2) B (A3 A B) (by omega) (fun i h1 h2=>by
    rw [ad5 A B b0 i 0 h1]
    intro z
    rcases Rat.mul_eq_zero.mp z with y | y
    ·exact ao1 b0 _ y
    ·exact hn (i+1) (by omega) (by omega) y) (fun h=>by omega) j
   rw [ad5 A B b0 (k+2+1) j (by omega),ad5 A B b0 (k+2) 0 (by omega),ad5 A B b0 (k+2) (j+1) (by omega),show k+2 - 1=k+1 from rfl,ad5 A B b0 (k+1) 0 (by omega),ad5 A B b0 (k+1) (j+1) (by omega)] at ih
   have ed:dlt A B (k+1+2)=tau A B (k+1) 0:=by unfold dlt;rw [if_neg (by omega)];rfl
   rw [ed,show k+1+2 - 1=k+2 from rfl]
   cases k with
   | zero=>
    have e1:dlt B (A3 A B) (0+2)=1:=if_pos (by decide)
    rw [e1] at ih
    have p1:(B 0) ^ ((0+2+1+1) / 2 - 1)=B 0:=by
     show B 0 ^ (0+1)=B 0
     rw [Rat.pow_succ,Rat.pow_zero];grind
    have p2:(B 0) ^ ((0+2+1) / 2 - 1)=1:=Rat.pow_zero _
    have p3:(B 0) ^ ((0+1+1) / 2 - 1)=1:=Rat.pow_zero _
    rw [p1,p2] at ih
    show tau A B 4 j * tau A B 1 0=tau A B 3 0 * tau A B 2 (j+1) - tau A B 2 0 * tau A B 3 (j+1)
    have ih':B 0 * tau A B 4 j * 1=1 * tau A B 3 0 * (1 * tau A B 2 (j+1)) - 1 * tau A B 2 0 * (1 * tau A B 3 (j+1)):=ih
    rw [L9];grind
   | succ k=>
    have e1:dlt B (A3 A B) (k+1+2)=B 0 ^ ((k+1+1) / 2 - 1) * tau A B (k+1+1) 0:=by
     unfold dlt
     rw [if_neg (by omega),show k+1+2 - 2=k+1 from rfl,ad5 A B b0 (k+1) 0 (by omega)]
    rw [e1] at ih
    have pe:B 0 ^ ((k+1+2+1+1) / 2 - 1) * B 0 ^ ((k+1+1) / 2 - 1)=B 0 ^ ((k+1+2+1) / 2 - 1) * B 0 ^ ((k+1+1+1) / 2 - 1):=by
     rw [←aq3,←aq3]
     congr 1
     omega
    have n2:=ao1 b0 ((k+1+2+1) / 2 - 1)
    have n3:=ao1 b0 ((k+1+1+1) / 2 - 1)
    refine Y7 n2 (Y7 n3 ?_)
    show _ * (_ * (tau A B (k+1+2+1+1) j * tau A B (k+1+1) 0))=_ * (_ * (tau A B (k+1+2+1) 0 * tau A B (k+1+1+1) (j+1) - tau A B (k+1+1+1) 0 * tau A B (k+1+2+1) (j+1)))
    generalize B 0 ^ ((k+1+2+1+1) / 2 - 1)=q1 at *
    generalize B 0 ^ ((k+1+1) / 2 - 1)=q2 at *
    generalize B 0 ^ ((k+1+2+1) / 2 - 1)=q3 at *
    generalize B 0 ^ ((k+1+1+1) / 2 - 1)=q4 at *
    grind
structure Pos (n:Nat) (g:Nat→Nat→Rat):Prop where
 p:∀ i,i≤n→0<g i 0
 s:∀ i,1≤i→i<n→∀ j,g i 0 * g (i - 1) j=g i 0 * g (i+1) (j+1) - g (i+1) 0 * g i (j+1)
 l:1≤n→∀ j,g 0 0 * g 1 (j+1) - g 1 0 * g 0 (j+1)=0
 z:∀ i j,i≤n→i<2 * j→g i j=0
theorem Y6 {x:Rat} (h:0<x):x≠0:=fun z=>by rw [z] at h;exact absurd h (by decide)
theorem aO7 {W:Nat}:∀ {n:Nat} {M:Mt},n≤16→(∀ r c,∃ z:Int,M r c=(z:Rat)∧z.natAbs<2 ^ W)→∃ z:Int,dt n M=(z:Rat)∧z.natAbs≤2 ^ ((W+4) * n)
 | 0,_,_,_=>⟨1,rfl,by simp⟩
 | n+1,M,hn,h=>by
  have key:∀ m,m≤n+1→∃ z:Int,t8 (fun i=>sgd i * M i 0 * dt n (mn M i)) m=(z:Rat)∧z.natAbs≤m * (2 ^ W * 2 ^ ((W+4) * n)):=by
   intro m
   induction m with
   | zero=>intro _;exact ⟨0,rfl,by simp⟩
   | succ m ih=>
    intro hm
    obtain ⟨z,e,b⟩:=ih (by omega)
    obtain ⟨x,ex,bx⟩:=h m 0
    obtain ⟨y,ey,by'⟩:=aO7 (n:=n) (M:=mn M m) (by omega) fun r c=>h _ _
    obtain ⟨s,es,bs⟩:∃ s:Int,sgd m=(s:Rat)∧s.natAbs=1:=by
     unfold sgd
     split
     ·exact ⟨1,rfl,rfl⟩
     ·exact ⟨-1,by rw [Rat.intCast_neg];rfl,rfl⟩
    refine ⟨z+s * x * y,?_,?_⟩
    ·rw [t8,e,ex,ey,es,Rat.intCast_add,Rat.intCast_mul,Rat.intCast_mul]
    ·have h1:(s * x * y).natAbs≤2 ^ W * 2 ^ ((W+4) * n):=by
      rw [Int.natAbs_mul,Int.natAbs_mul,bs,Nat.one_mul]
      exact Nat.mul_le_mul (Nat.le_of_lt bx) by'
     have h2:=Int.natAbs_add_le z (s * x * y)
     rw [Nat.succ_mul];omega
  obtain ⟨z,e,b⟩:=key (n+1) (Nat.le_refl _)
  refine ⟨z,by rw [N8];exact e,Nat.le_trans b ?_⟩
  have:(n+1) * (2 ^ W * 2 ^ ((W+4) * n))≤2 ^ 4 * (2 ^ W * 2 ^ ((W+4) * n)):=Nat.mul_le_mul_right _ (by omega)
  refine Nat.le_trans this ?_
  rw [←Nat.pow_add,←Nat.pow_add]
  exact Nat.pow_le_pow_right (by decide) (by rw [Nat.mul_succ];omega)
theorem af8 {W m:Nat} {A B:Nat→Rat} (hA:∀ j,∃ z:Int,A j=(z:Rat)∧z.natAbs<2 ^ W) (hB:∀ j,∃ z:Int,B j=(z:Rat)∧z.natAbs<2 ^ W) {k:Nat} (hk:k≤m) (m1:1≤m) (hm:m≤16) (j:Nat):∃ z:Int,tau A B k j=(z:Rat)∧z.natAbs≤2 ^ ((W+4) * m):=by
 unfold tau
 split
 ·obtain ⟨z,e,b⟩:=hA j
  exact ⟨z,e,Nat.le_trans (Nat.le_of_lt b) (Nat.pow_le_pow_right (by decide) (Nat.le_trans (show W≤(W+4) * 1 by omega) (Nat.mul_le_mul_left _ m1)))⟩
 ·obtain ⟨z,e,b⟩:=aO7 (W:=W) (n:=k) (M:=fun i c=>hz A B i (T8 k j c)) (by omega) fun r c=>by
   show ∃ z:Int,hz A B r (T8 k j c)=_∧_
   unfold hz
   split
   ·exact ⟨0,rfl,Nat.two_pow_pos _⟩
   ·split
    ·exact hB _
    ·exact hA _
  exact ⟨z,e,Nat.le_trans b (Nat.pow_le_pow_right (by decide) (Nat.mul_le_mul_left _ hk))⟩
instance {K:PySem.W.Frag} {H:Hp} {vs:List V} {qs:List Rat}:Coe (A1 H vs qs) (O3 K H vs qs):=⟨A1.toC⟩
section
variable {P:Program} {w:World} {K:PySem.W.Frag} {mg:Str→Option Value} {base:Heap}
def ai2 (K:PySem.W.Frag):Sp:=fun vs H Q _=>∃ a ws,vs=[.ref a]∧SqL K H a (ws.map V.int)∧(∀ w∈ws,Int.natAbs w<2 ^ 6000)∧Q (.int (D6 ws)) H
abbrev E7:Stmt:=top 34
theorem P4:i9 ["wholes","content","whole"] ["wholes"] (d3 E7):=by and_intros
set_option maxHeartbeats 0 in
theorem av1 {f fc:Addr} (d:Df K mg "content_of" E7 ["wholes"] f) (G_common_divisor:Def P w K mg base CX0 1 "common_divisor" fc ["one","other"] ae0):Def P w K mg base CX0 2 "content_of" f ["wholes"] (ai2 K):=by
 refine d.ok (N:=["wholes","content","whole"]) P4 (by rintro vs H Q E ⟨a,b,h,_⟩;rw [h];rfl) (fun cdv A outer s H vs Q E hr h=>?_)
 obtain ⟨a,ws,rfl,hS,hb,k⟩:=h
 refine ⟨_,(d4 (j8 (i:=1) P4.nd rfl (Or.inl rfl) b9)
   (d4 (U5 PassesOwn.never rfl (K7 (pv 0)) (g8 (i:=2) P4.nd rfl (Or.inl rfl)) (d4 (j8 (i:=1) P4.nd rfl (Or.inl rfl) (d7 G_common_divisor hr (b6 (pv 2) (b6 (pv 1) b7)) i0))
   (d6 (A5 (p6 ak9 (pv 1) b9 (o0 _)) (d6 (h9 b9)) p8))))
   (d6 (h9 (pv 1))))),?_⟩
 rw [show start ["wholes","content","whole"] [.ref a]=[some (.ref a),none,none] from rfl]
 subst_eqs
 refine ⟨_,rfl,a,rfl,⟨_,hS⟩,W6 (xs:=ws.map V.int) (fun i σ H1=>H1=H∧∃ o,σ=[some (.ref a),some (.int (D6 (ws.take i):Nat)),o]) ⟨rfl,_,rfl⟩ (fun i σ H1 _ ⟨e,_⟩=>e ▸ hS) ?_ ?_⟩
 ·rintro i x σ H1 hx ⟨rfl,o,rfl⟩
  rw [List.getElem?_map] at hx
  cases hw:ws[i]? with
  | none=>rw [hw] at hx;cases hx
  | some v=>
   rw [hw] at hx
   cases hx
   have hm:=List.mem_of_getElem? hw
   simp! [ae0]
   have es:ws.take (i+1)=ws.take i++[v]:=by rw [List.take_succ,hw];rfl
   have eg:Int.gcd v (D6 (ws.take i):Int)=D6 (ws.take (i+1)):=by rw [es,aS4]
   refine ⟨.inl (Nat.lt_of_lt_of_le (hb v hm) (i3 (by decide))),?_⟩
   rw [eg]
   refine ⟨rfl,v6 (fun h1=>?_) (fun _=>?_)⟩
   ·have:D6 (ws.take (i+1))=1:=by omega
    have e1:=ba0 _ this
    rw [e1] at k
    exact k
   ·exact ⟨rfl,_,rfl⟩
 ·rintro σ H1 ⟨rfl,o,rfl⟩
  rw [List.length_map,List.take_length]
  exact ⟨_,rfl,k⟩
def ai3 (K:PySem.W.Frag):Sp:=fun vs H Q _=>∃ a xs qs,vs=[.ref a]∧SqL K H a xs∧O3 K H xs qs∧(∃ W:Nat,ClN W qs∧W≤6000)∧qs.length≤100 ∧
 ∀ r l H',d5 H H'→H l=none→H' r=some (.tup [.ref l,.int (q8 qs)])→H' l=some (.lst ((m8 (q8 qs) qs).map V.int))→Q (.ref r) H'
abbrev N0:Stmt:=top 35
theorem Y3:i9 ["numbers","bottom","number"] ["numbers"] (d3 N0):=by and_intros
set_option maxHeartbeats 0 in
theorem aK7 {f fc:Addr} (d:Df K mg "cleared" N0 ["numbers"] f) (G_common_divisor:Def P w K mg base CX0 1 "common_divisor" fc ["one","other"] ae0):Def P w K mg base CX0 2 "cleared" f ["numbers"] (ai3 K):=by
 refine d.ok (N:=["numbers","bottom","number"]) Y3 (by rintro vs H Q E ⟨a,b,c,h,_⟩;rw [h];rfl) (fun cdv A outer s H vs Q E hr h=>?_)
 obtain ⟨a,xs,qs,rfl,hS,hN,⟨W,hs,hm⟩,hl,k⟩:=h
 refine ⟨_,(d4 (j8 (i:=1) Y3.nd rfl (Or.inr rfl) b9)
   (d4 (U5 PassesOwn.never rfl (K7 (pv 0)) (g8 (i:=2) Y3.nd rfl (Or.inl rfl)) (d6 (j8 (i:=1) Y3.nd rfl (Or.inr rfl) (d9 t9 (d9 B4 (pv 1) (d7 G_common_divisor hr (b6 (pv 1) (b6 (i6 j6 (pv 2) b9 (fun _ _=>rfl)) b7)) i0)) (i6 j6 (pv 2) b9 (fun _ _=>rfl))))))
   (d6 (h9 (m6 (b6 (N6 (Nc:=["bottom","top","under"]) (caps:=[some 1,none,none]) rfl (X5.of (osc:=d3 N0) (N:=["numbers","bottom","number"]) (ks:=["bottom"]) rfl rfl rfl rfl (C0 rfl C3) (by decide +kernel)) (K7 (pv 0)) (fun C s₂ H₂ fp pins=>(show PG _ _ (R9 K 2 (v8 (v3 1) (v8 (v3 2) S8))) from by (refine C2 (n:=2) ?_ ?_ ?_ ?_;rfl;(refine j0 ?_ ?_ ?_;(exact (g8 (i:=1) (show List.Nodup (["bottom","top","under"]:List Str) by decide +kernel) rfl (Or.inl rfl) (Or.inr rfl)));(refine j0 ?_ ?_ ?_;(exact (g8 (i:=2) (show List.Nodup (["bottom","top","under"]:List Str) by decide +kernel) rfl (Or.inl rfl) (Or.inr rfl)));(exact A4);rfl);rfl);rfl;rfl))) (fun C s₂ H₂ fp pins=>(d9 t9 (pv 1) (d9 B4 (pv 0) (pv 2))))) (b6 (pv 1) b7))))))),?_⟩
 rw [show start ["numbers","bottom","number"] [.ref a]=[some (.ref a),none,none] from rfl]
 subst_eqs
 have small:∀ q∈qs,q.den<2 ^ 6000:=fun q hq=>Nat.lt_of_lt_of_le (hs.den hq) (i3 hm)
 have hB:∀ i,0<q8 (qs.take i)∧q8 (qs.take i)<2 ^ 6000:=fun i=>by
  exact ⟨U7 _,Nat.lt_of_lt_of_le (hs.take i) (i3 hm)⟩
 refine ⟨_,rfl,a,rfl,⟨_,hS⟩,W6 (xs:=xs) (fun i σ H1=>H1=H∧∃ o,σ=[some (.ref a),some (.int (q8 (qs.take i):Nat)),o]) ⟨rfl,_,rfl⟩ (fun i σ H1 _ ⟨e,_⟩=>e ▸ hS) ?_ ?_⟩
 ·rintro i x σ H1 hx ⟨rfl,o,rfl⟩
  obtain ⟨p,q,rfl,hq,hp⟩:=hN.getV hx
  obtain ⟨b1,b2⟩:=hB i
  have hd:=small q (List.mem_of_getElem? hq)
  have hd0:=t7 q
  have es:qs.take (i+1)=qs.take i++[q]:=by rw [List.take_succ,hq];rfl
  have gp:(0:Int)<(Int.gcd (q8 (qs.take i):Int) (q.den:Int):Nat):=by
   have:=G3 (t:=(q8 (qs.take i):Int)) (b:=(q.den:Int)) (by omega);omega
  have el:(q8 (qs.take i):Int).fdiv (Int.gcd (q8 (qs.take i):Int) (q.den:Int):Nat) * (q.den:Int)=(q8 (qs.take (i+1)):Nat):=by
   rw [es,aS0]
   obtain ⟨e,he⟩:=Int.gcd_dvd_left (q8 (qs.take i):Int) (q.den:Int)
   have hg:Int.gcd (q8 (qs.take i):Int) (q.den:Int)=Nat.gcd (q8 (qs.take i)) q.den:=by simp [Int.gcd]
   have h1:(q8 (qs.take i):Int).fdiv (Int.gcd (q8 (qs.take i):Int) (q.den:Int):Nat)=e:=by
    conv=>lhs;arg 1;rw [he]
    exact j7 (by omega)
   rw [h1]
   have h2:Nat.gcd (q8 (qs.take i)) q.den * Nat.lcm (q8 (qs.take i)) q.den=q8 (qs.take i) * q.den:=Nat.gcd_mul_lcm _ _
   have h3:((Nat.gcd (q8 (qs.take i)) q.den:Nat):Int) * (Nat.lcm (q8 (qs.take i)) q.den:Nat)=(q8 (qs.take i):Int) * (q.den:Int):=by
    rw [←Int.natCast_mul,h2,Int.natCast_mul]
   rw [←hg] at h3
   have h4:((Int.gcd (q8 (qs.take i):Int) (q.den:Int):Nat):Int) * (e * q.den)=((Int.gcd (q8 (qs.take i):Int) (q.den:Int):Nat):Int) * (Nat.lcm (q8 (qs.take i)) q.den:Nat):=by
    rw [h3,←Int.mul_assoc,←he]
   exact Int.eq_of_mul_eq_mul_left (by omega) h4
  simp! [ae0]
  have hd9:(q.den:Int).natAbs<2 ^ 6000:=by rw [Int.natAbs_natCast];exact hd
  exact ⟨_,hp.sqt,_,at1 q,_,rfl,.inr (D8 hd9),W7 (by omega) (aj4 (by omega) (D8 hd9)),_,hp.sqt,_,at1 q,_,rfl,K1 (m:=6000) (n:=6000) (Nat.lt_of_le_of_lt (P9 (by omega) (Int.gcd_dvd_left _ _)) (by rw [Int.natAbs_natCast];exact b2)) hd9,el,_,rfl⟩
 ·rintro σ H1 ⟨rfl,o,rfl⟩
  rw [←hN.length] at hl
  have e1:qs.take xs.length=qs:=by rw [hN.length,List.take_length]
  rw [e1]
  simp! [ae0]
  refine ⟨⟨_,hS⟩,fun D hD=>?_⟩
  refine Z1 xs (fun i σ H2=>∃ o1 o2,σ=[some (.int (q8 qs)),o1,o2]∧d5 H1 H2∧H2 D=some (.lst ((m8 (q8 qs) (qs.take i)).map V.int))) ⟨_,_,rfl,d5.new hD _,b8⟩ (fun i σ H2 _ ⟨_,_,_,s2,_⟩=>s2.seq hS) ?_ ?_
  ·rintro i x σ H2 hx ⟨o1,o2,rfl,s2,e2⟩
   have hi:=(List.getElem?_eq_some_iff.mp hx).1
   obtain ⟨p,q,rfl,hq,hp⟩:=hN.getV hx
   have hd:=small q (List.mem_of_getElem? hq)
   have hd0:=t7 q
   have hd9:(q.den:Int).natAbs<2 ^ 6000:=by rw [Int.natAbs_natCast];exact hd
   have hn9:=hs.num (List.mem_of_getElem? hq)
   have es:qs.take (i+1)=qs.take i++[q]:=by rw [List.take_succ,hq];rfl
   subst_eqs
   refine ⟨_,s2.tup hp.sqt,rfl,_,_,rfl,_,_,rfl,rfl,?_⟩
   refine ⟨_,rfl,W7 (by omega) (D8 hd9),_,rfl,K1 (m:=6000) (n:=6000) (Nat.lt_of_lt_of_le hn9 (i3 (by omega))) (Nat.lt_of_le_of_lt (P9 (by omega) (Int.natCast_dvd_natCast.mpr (T7 (List.mem_of_getElem? hq)))) (by rw [Int.natAbs_natCast];have:=(hB qs.length).2;rwa [List.take_length] at this)),?_⟩
   refine D5.mk hi e2 ?_ ⟨_,_,rfl,(s2.trans (d5.refl _)).over hD _,?_⟩
   ·simp only [List.length_map,m8,List.length_take]
    exact Nat.lt_of_le_of_lt (show _≤100 by omega) (by decide)
   ·rw [b8,es]
    simp [m8]
  ·rintro σ H2 ⟨o1,o2,rfl,s2,e2⟩
   rw [e1] at e2
   refine ⟨v5,fun p hp=>k p D _ (s2.trans (d5.new hp _)) hD b8 ?_⟩
   rw [j3 (j4 e2 hp)];exact e2
end
theorem bf2 {qs:List Rat} (hc:D6 (m8 (q8 qs) qs)≠0) :
  let c:Int:=D6 (m8 (q8 qs) qs)
  (Rat.divInt c (q8 qs)).num=c∧((Rat.divInt c (q8 qs)).den:Int)=q8 qs∧qs=scl (Rat.divInt c (q8 qs)) ((m8 (q8 qs) qs).map fun v=>v.fdiv c):=by
 intro c
 have hB:=U7 qs
 obtain ⟨h1,h2⟩:=U6 (n:=c) (d:=(q8 qs:Int)) (by omega) (aE1 qs)
 refine ⟨h1,h2,?_⟩
 unfold scl m8
 rw [List.map_map,List.map_map]
 conv=>lhs;rw [←List.map_id qs]
 refine List.map_congr_left fun q hq=>?_
 show q=Rat.divInt c (q8 qs) * (((q.num * (q8 qs:Int).fdiv (q.den:Int)).fdiv c:Int):Rat)
 obtain ⟨e,he⟩:=U8 (ws:=m8 (q8 qs) qs) (List.mem_map.mpr ⟨q,hq,rfl⟩)
 have hc':c≠0:=by show ((D6 (m8 (q8 qs) qs):Nat):Int)≠0;omega
 have e1:(q.num * (q8 qs:Int).fdiv (q.den:Int)).fdiv c=e:=by
  conv=>lhs;arg 1;rw [he]
  exact j7 hc'
 rw [e1]
 conv=>lhs;rw [aU1 hB (T7 hq)]
 rw [he]
 have e2:(e:Rat)=Rat.divInt e 1:=by
  have:=Rat.num_divInt_den (e:Rat)
  rw [Rat.num_intCast,Rat.den_intCast] at this
  exact this.symm
 rw [e2,Rat.divInt_mul_divInt,Int.mul_one]
theorem bf6 {ws:List Int} {v:Int} (h:v∈ws) (hv:v≠0):D6 ws≠0:=fun z=>by
 obtain ⟨e,he⟩:=U8 h
 rw [z] at he
 simp at he
 exact hv he
theorem aL6 {a g:Int} {n:Nat} (hg:0<g) (hd:g ∣ a) (h:a.natAbs<n):(a.fdiv g).natAbs<n:=Nat.lt_of_le_of_lt (P9 hg hd) h
section
variable {P:Program} {w:World} {K:PySem.W.Frag} {mg:Str→Option Value} {base:Heap}
theorem ax8 {d:Nat}:∀ (ws:List Int) (c:Nat),d ∣ c→(∀ w∈ws,(d:Int) ∣ w)→d ∣ ws.foldl (fun c w=>Int.gcd w c) c
 | [],c,h,_=>h
 | w :: r,c,h,hw=>ax8 r _ (Int.dvd_gcd (hw w List.mem_cons_self) (Int.natCast_dvd_natCast.mpr h)) fun x hx=>hw x (List.mem_cons_of_mem _ hx)
theorem aS5 {ws:List Int} (hc:D6 ws≠0):D6 (ws.map fun v=>v.fdiv ((D6 ws:Nat):Int))=1:=by
 obtain ⟨g,hg⟩:∃ g,g=D6 ws:=⟨_,rfl⟩
 obtain ⟨e,he⟩:∃ e,e=D6 (ws.map fun v=>v.fdiv ((D6 ws:Nat):Int)):=⟨_,rfl⟩
 have hd:(g * e) ∣ D6 ws:=ax8 ws 0 (Nat.dvd_zero _) fun w hw=>by
  obtain ⟨y,hy⟩:=U8 hw
  have h1:w.fdiv ((D6 ws:Nat):Int)=y:=by
   conv=>lhs;arg 1;rw [hy]
   exact j7 (by omega)
  obtain ⟨z,hz⟩:=U8 (List.mem_map.mpr ⟨w,hw,rfl⟩:w.fdiv ((D6 ws:Nat):Int)∈ws.map fun v=>v.fdiv ((D6 ws:Nat):Int))
  rw [h1,←he] at hz
  exact ⟨z,by rw [hy,←hg,hz,Int.natCast_mul,Int.mul_assoc]⟩
 rw [←hg] at hd
 obtain ⟨z,hz⟩:=hd
 have h2:g * 1=g * (e * z):=by rw [Nat.mul_one,←Nat.mul_assoc];exact hz
 have h3:=Nat.eq_of_mul_eq_mul_left (show 0<g by omega) h2
 rw [←he]
 exact Nat.dvd_one.mp ⟨z,h3⟩
def aw4 (K:PySem.W.Frag):Sp:=fun vs H Q _=>∃ a xs qs,vs=[.ref a]∧SqL K H a xs∧O3 K H xs qs∧∃ W:Nat,ClN W qs∧W≤6000∧1≤W∧qs.length≤100∧V6 qs qs.length ∧
 ∀ r rs l s ws H',d5 H H'→H l=none→H' r=some (.tup [.ref rs,.ref l])→SqT K H' rs (p9 s)→H' l=some (.lst (ws.map V.int))→BdN W s→s≠0→(∀ v∈ws,Int.natAbs v<2 ^ W)→ws.length=qs.length→qs=scl s ws→(ws≠[]→D6 ws=1)→Q (.ref r) H'
def aQ2 (K:PySem.W.Frag):Sp:=fun vs H Q _=>∃ a xs qs,vs=[.ref a]∧SqL K H a xs∧O3 K H xs qs∧∃ W:Nat,ClN W qs∧W≤6000∧1≤W∧qs.length≤100∧V6 qs qs.length ∧
 ∀ r rs l s ws H',d5 H H'→H l=none→H' r=some (.tup [.ref rs,.ref l])→SqT K H' rs (p9 s)→H' l=some (.lst (ws.map V.int))→BdN W s→s≠0→(∀ v∈ws,Int.natAbs v<2 ^ W)→ws.length=qs.length→qs=scl s ws→(ws≠[]→D6 ws=1)→0<s→Q (.ref r) H'
abbrev N4:Stmt:=top 36
theorem ab5:i9 ["p","content","wholes","bottom"] ["p"] (d3 N4):=by and_intros
set_option maxHeartbeats 0 in
theorem aK9 {f fc fk aN:Addr} (d:Df K mg "lifted" N4 ["p"] f) (G_cleared:Def P w K mg base CX0 2 "cleared" fc ["numbers"] (ai3 K)) (G_content_of:Def P w K mg base CX0 2 "content_of" fk ["wholes"] (ai2 K)) (c_ONE:mg "ONE" = some (.ref aN)) (tN:∀ H,SqT K H aN (p9 1)):Def P w K mg base CX0 3 "lifted" f ["p"] (aQ2 K):=by
 refine d.ok (N:=["p","content","wholes","bottom"]) ab5 (by rintro vs H Q E ⟨a,b,c,h,_⟩;rw [h];rfl) (fun cdv A outer s H vs Q E hr h=>?_)
 obtain ⟨a,xs,qs,rfl,hS,hN,m,hs,hm,hm1,hl,ht,k⟩:=h
 refine ⟨_,(d4 (K8 (d7 G_cleared hr (b6 (pv 0) b7) i0) (show PG _ _ (R9 K 2 (v8 (v3 2) (v8 (v3 3) S8))) from by (refine C2 (n:=2) ?_ ?_ ?_ ?_;rfl;(refine j0 ?_ ?_ ?_;(exact (g8 (i:=2) ab5.nd rfl (Or.inl rfl)));(refine j0 ?_ ?_ ?_;(exact (g8 (i:=3) ab5.nd rfl (Or.inl rfl)));(exact A4);rfl);rfl);rfl;rfl)))
   (d4 (A5 (B6 (aq5 (pv 2) (fun _=>rfl))) (d6 (h9 (m6 (b6 (z9 (v:=.ref _) rfl c_ONE rfl) (b6 (v9 b7) b7))))) p8)
   (d4 (j8 (i:=1) ab5.nd rfl (Or.inr rfl) (d7 G_content_of hr (b6 (pv 2) b7) i0))
   (d6 (h9 (m6 (b6 (m6 (b6 (pv 1) (b6 (pv 3) b7))) (b6 (N6 (Nc:=["content","whole"]) (caps:=[some 1,none]) rfl (X5.of (osc:=d3 N4) (N:=["p","content","wholes","bottom"]) (ks:=["content"]) rfl rfl rfl rfl (C0 rfl C3) (by decide +kernel)) (K7 (pv 2)) (fun C s₂ H₂ fp pins=>(g8 (i:=1) (show List.Nodup (["content","whole"]:List Str) by decide +kernel) rfl (Or.inl rfl) (Or.inr rfl))) (fun C s₂ H₂ fp pins=>(d9 B4 (pv 1) (pv 0)))) b7)))))))),?_⟩
 rw [show start ["p","content","wholes","bottom"] [.ref a]=[some (.ref a),none,none,none] from rfl]
 simp! [aI4]
 refine ⟨a,xs,qs,rfl,hS,hN,⟨m,hs,hm⟩,hl,fun r l H1 s1 hl1 er el=>?_⟩
 have hB:=U7 qs
 have hB1:=hs.l
 have wl:=hs.w
 refine ⟨r,rfl,_,SqT.of er,rfl,_,_,rfl,_,_,rfl,rfl,_,.inl ⟨_,SqL.of el,rfl⟩,v6 (fun h0=>?_) (fun h0=>?_)⟩
 ·have hq:qs=[]:=by
   cases qs with
   | nil=>rfl
   | cons q r=>simp [m8] at h0
  subst hq
  refine ⟨by decide,fun p hp=>⟨v5,fun p1 hp1=>?_⟩⟩
  refine k p1 aN p 1 [] _ (s1.trans ((d5.new hp _).trans (d5.new hp1 _))) (s1.free hp) b8 (tN _) (by rw [j3 (bl2 hp1).symm];exact b8) ⟨Nat.lt_of_lt_of_le (show _<2 ^ 1 by decide) (i3 (by omega)),Nat.lt_of_lt_of_le (show _<2 ^ 1 by decide) (i3 (by omega))⟩ (by decide) (by simp) (by simp) rfl (fun z=>absurd rfl z) (by decide)
 ·have hq:qs≠[]:=fun z=>h0 (by rw [z];rfl)
  have lp:0<qs.length:=List.length_pos_iff.mpr hq
  have hlast:qs.length - 1<qs.length:=by omega
  have hne:qs[qs.length - 1]≠0:=ht.last (by omega) _ (List.getElem?_eq_getElem hlast)
  have hmem:qs[qs.length - 1]∈qs:=List.getElem_mem hlast
  have hc:D6 (m8 (q8 qs) qs)≠0:=by
   refine bf6 (List.mem_map.mpr ⟨_,hmem,rfl⟩) ?_
   obtain ⟨e,he⟩:=T7 hmem
   have h0:(qs[qs.length - 1].den:Int)≠0:=by have:=qs[qs.length - 1].den_nz;omega
   have e1:(q8 qs:Int).fdiv (qs[qs.length - 1].den:Int)=(e:Int):=by
    rw [he,Int.natCast_mul];exact j7 h0
   rw [e1]
   refine Int.mul_ne_zero (fun z=>hne (W3.mp z)) ?_
   intro z
   have:e=0:=by omega
   rw [this] at he;omega
  obtain ⟨f1,f2,f3⟩:=bf2 hc
  have cpos:(0:Int)<(D6 (m8 (q8 qs) qs):Nat):=by omega
  have cle:D6 (m8 (q8 qs) qs)<2 ^ m:=by
   have hm:qs[qs.length - 1].num * (q8 qs:Int).fdiv (qs[qs.length - 1].den:Int)∈m8 (q8 qs) qs:=List.mem_map.mpr ⟨_,hmem,rfl⟩
   obtain ⟨e,he⟩:=U8 hm
   have w1:=wl _ hm
   rw [he,Int.natAbs_mul,Int.natAbs_natCast] at w1
   have e0:e.natAbs≠0:=fun z=>by
    have hz:e=0:=by omega
    rw [hz,Int.mul_zero] at he
    rcases Int.mul_eq_zero.mp he with q1 | q1
    ·exact hne (W3.mp q1)
    ·obtain ⟨e',he'⟩:=T7 hmem
     have h0:(qs[qs.length - 1].den:Int)≠0:=by have:=qs[qs.length - 1].den_nz;omega
     have e1:(q8 qs:Int).fdiv (qs[qs.length - 1].den:Int)=(e':Int):=by
      rw [he',Int.natCast_mul];exact j7 h0
     rw [e1] at q1
     have:e'=0:=by omega
     rw [this] at he';omega
   exact Nat.lt_of_le_of_lt (Nat.le_mul_of_pos_right _ (by omega)) w1
  refine ⟨l,_,rfl,SqL.of el,fun v hv=>Nat.lt_of_lt_of_le (wl v hv) (i3 hm),v5,fun p hp=>⟨l,rfl,⟨_,SqL.of (d5.new hp _ _ _ el)⟩,fun D hD=>?_⟩⟩
  have sp:=d5.new hp (.tup [.int (D6 (m8 (q8 qs) qs):Nat),.int (q8 qs)])
  refine Z1 ((m8 (q8 qs) qs).map V.int) (fun i σ H2=>∃ o,σ=[some (.int (D6 (m8 (q8 qs) qs):Nat)),o]∧d5 (upd H1 p (.tup [.int (D6 (m8 (q8 qs) qs):Nat),.int (q8 qs)])) H2∧H2 D=some (.lst ((((m8 (q8 qs) qs).take i).map fun v=>v.fdiv (D6 (m8 (q8 qs) qs):Nat)).map V.int)))
   ⟨_,rfl,d5.new hD _,b8⟩ (fun i σ H2 _ ⟨_,_,s2,_⟩=>SqL.of (s2 _ _ (sp _ _ el))) ?_ ?_
  ·rintro i x σ H2 hx ⟨o,rfl,s2,e2⟩
   have hi:=(List.getElem?_eq_some_iff.mp hx).1
   rw [List.getElem?_map] at hx
   cases hw:(m8 (q8 qs) qs)[i]? with
   | none=>rw [hw] at hx;cases hx
   | some v=>
    rw [hw] at hx
    cases hx
    subst_eqs
    refine ⟨W7 (by omega) (by rw [Int.natAbs_natCast];exact D8 cle (by omega)),D5.mk hi e2 ?_ ⟨_,rfl,s2.over hD _,?_⟩⟩
    ·simp only [List.length_map,List.length_take,m8]
     exact Nat.lt_of_le_of_lt (show _≤100 by omega) (by decide)
    ·rw [b8,List.take_succ,hw]
     simp
  ·rintro σ H2 ⟨o,rfl,s2,e2⟩
   rw [List.length_map,List.take_length] at e2
   refine ⟨v5,fun p1 hp1=>?_⟩
   have S:=(s1.trans sp).trans (s2.trans (d5.new hp1 (.tup [.ref p,.ref D])))
   have ep:SqT K (upd H2 p1 (.tup [.ref p,.ref D])) p (p9 (Rat.divInt (D6 (m8 (q8 qs) qs):Nat) (q8 qs))):=by
    refine SqT.of ?_
    rw [j3 (j4 (s2 _ _ b8) hp1),s2 _ _ b8]
    unfold p9
    rw [f1,f2]
   refine k p1 p D _ ((m8 (q8 qs) qs).map fun v=>v.fdiv (D6 (m8 (q8 qs) qs):Nat)) _ S (s1.free (aY4 hD)) b8 ep (by rw [j3 (j4 e2 hp1)];exact e2) ⟨?_,?_⟩ ?_ ?_ ?_ f3 (fun _=>aS5 hc) ?_
   ·rw [f1,Int.natAbs_natCast];exact cle
   ·have:(Rat.divInt (D6 (m8 (q8 qs) qs):Nat) (q8 qs)).den=q8 qs:=by omega
    rw [this];exact hB1
   ·intro z
    rw [z] at f1
    have:(0:Rat).num=0:=rfl
    omega
   ·intro v hv
    obtain ⟨v',hv',rfl⟩:=List.mem_map.mp hv
    exact aL6 cpos (U8 hv') (wl v' hv')
   ·simp only [List.length_map,m8]
   ·exact aq4 (by rw [f1];exact cpos)
theorem aL0 {f fc fk aN:Addr} (d:Df K mg "lifted" N4 ["p"] f) (G_cleared:Def P w K mg base CX0 2 "cleared" fc ["numbers"] (ai3 K)) (G_content_of:Def P w K mg base CX0 2 "content_of" fk ["wholes"] (ai2 K)) (c_ONE:mg "ONE" = some (.ref aN)) (tN:∀ H,SqT K H aN (p9 1)):Def P w K mg base CX0 3 "lifted" f ["p"] (aw4 K):=
 (aK9 d G_cleared G_content_of c_ONE tN).imp (by
  rintro vs H Q E ⟨a,xs,qs,h1,h2,h3,W,h4,h5,h6,h7,h8,k⟩
  exact ⟨a,xs,qs,h1,h2,h3,W,h4,h5,h6,h7,h8,fun r rs l s ws H' a1 a2 a3 a4 a5 a6 a7 a8 a9 b1 b2 _=>k r rs l s ws H' a1 a2 a3 a4 a5 a6 a7 a8 a9 b1 b2⟩)
end
section
variable {P:Program} {w:World} {K:PySem.W.Frag} {mg:Str→Option Value} {base:Heap}
def aF2 (K:PySem.W.Frag):Sp:=fun vs H Q _=>∃ (a b:Addr) (R F:List Int) (dv:Int) (W:Nat),vs=[.ref a,.ref b,.int dv]∧SqL K H a (R.map V.int)∧SqL K H b (F.map V.int)∧F≠[]∧F.length≤R.length∧R.length≤20∧dv≠0∧dv.natAbs<2 ^ W∧(∀ v∈R,Int.natAbs v<2 ^ W)∧(∀ v∈F,Int.natAbs v<2 ^ W)∧W≤8900 ∧
 ∀ r T H',d5 H H'→H r=none→H' r=some (.lst (T.map V.int))→T.length=R.length - 1→(∀ j,j<T.length→aZ T j=(aZ F 0 * aZ R (j+1) - aZ R 0 * aZ F (j+1)).fdiv dv)→Q (.ref r) H'
abbrev C6:Stmt:=top 38
theorem P3:i9 ["row","further","divisor","beside","lead","own"] ["row","further","divisor"] (d3 C6):=by and_intros
set_option maxHeartbeats 0 in
theorem au9 {f:Addr} (d:Df K mg "row_behind" C6 ["row","further","divisor"] f) (n_len:mg "len" = none) (n_zip:mg "zip" = none):Def P w K mg base CX0 1 "row_behind" f ["row","further","divisor"] (aF2 K):=by
 refine d.ok (N:=["row","further","divisor","beside","lead","own"]) P3 (by rintro vs H Q E ⟨_,_,_,_,_,_,h,_⟩;rw [h];rfl) (fun cdv A outer s H vs Q E hr h=>?_)
 obtain ⟨a,b,R,F,dv,W,rfl,hR,hF,fn,lF,l20,d0,db,wR,wF,hW,k⟩:=h
 refine ⟨_,(d4 (K8 (m6 (b6 (i6 t4 (pv 1) b9 (fun _ _=>rfl)) (b6 (i6 t4 (pv 0) b9 (fun _ _=>rfl)) b7))) (show PG _ _ (R9 K 2 (v8 (v3 4) (v8 (v3 5) S8))) from by (refine C2 (n:=2) ?_ ?_ ?_ ?_;rfl;(refine j0 ?_ ?_ ?_;(exact (g8 (i:=4) P3.nd rfl (Or.inr rfl)));(refine j0 ?_ ?_ ?_;(exact (g8 (i:=5) P3.nd rfl (Or.inr rfl)));(exact A4);rfl);rfl);rfl;rfl)))
   (d4 (j8 (i:=3) P3.nd rfl (Or.inl rfl) (d9 O8 (L4 P2 (pv 1) (K5 b9) K6) (d9 aK4 (v9 (b6 b9 b7)) (d9 M7 (d8 m5 rfl n_len (by decide +kernel) (b6 (pv 0) b7)) (d8 m5 rfl n_len (by decide +kernel) (b6 (pv 1) b7))))))
   (d6 (h9 (N6 (Nc:=["own","lead","divisor","whole","other"]) (caps:=[some 5,some 4,some 2,none,none]) rfl (X5.of (osc:=d3 C6) (N:=["row","further","divisor","beside","lead","own"]) (ks:=["own","lead","divisor"]) rfl rfl rfl rfl (C0 rfl (C0 rfl (C0 rfl C3))) (by decide +kernel)) (aX6 rfl n_zip (b6 (L4 P2 (pv 0) (K5 b9) K6) (b6 (pv 3) b7))) (fun C s₂ H₂ fp pins=>(show PG _ _ (R9 K 2 (v8 (v3 3) (v8 (v3 4) S8))) from by (refine C2 (n:=2) ?_ ?_ ?_ ?_;rfl;(refine j0 ?_ ?_ ?_;(exact (g8 (i:=3) (show List.Nodup (["own","lead","divisor","whole","other"]:List Str) by decide +kernel) rfl (Or.inl rfl) (Or.inr rfl)));(refine j0 ?_ ?_ ?_;(exact (g8 (i:=4) (show List.Nodup (["own","lead","divisor","whole","other"]:List Str) by decide +kernel) rfl (Or.inl rfl) (Or.inr rfl)));(exact A4);rfl);rfl);rfl;rfl))) (fun C s₂ H₂ fp pins=>(d9 B4 (d9 M7 (d9 t9 (pv 1) (pv 3)) (d9 t9 (pv 0) (pv 4))) (pv 2)))))))),?_⟩
 rw [show start ["row","further","divisor","beside","lead","own"] [.ref a,.ref b,.int dv]=[some (.ref a),some (.ref b),some (.int dv),none,none,none] from rfl]
 have fp:=List.length_pos_iff.mpr fn
 have hf0:(F.map V.int)[0]? = some (.int (aZ F 0)):=by
  rw [List.getElem?_map,List.getElem?_eq_getElem (by omega)]
  unfold aZ
  rw [List.getElem?_eq_getElem (by omega)];rfl
 have hr0:(R.map V.int)[0]? = some (.int (aZ R 0)):=by
  rw [List.getElem?_map,List.getElem?_eq_getElem (by omega)]
  unfold aZ
  rw [List.getElem?_eq_getElem (by omega)];rfl
 refine i8 (fun σ H1=>σ=[some (.ref a),some (.ref b),some (.int dv),none,some (.int (aZ F 0)),some (.int (aZ R 0))]∧d5 H H1) (fun N hN=>?_) ?_
 ·subst_eqs
  refine ⟨_,hF,_,C9 (j:=0) hf0,_,hR,_,C9 (j:=0) hr0,v5,fun p hp=>?_⟩
  exact ⟨_,SqT.of b8,rfl,_,_,rfl,_,_,rfl,rfl,hN _ _ ⟨rfl,d5.new hp _⟩⟩
 rintro σ H1 ⟨rfl,S1⟩
 refine i8 (fun σ H2=>∃ be,σ=[some (.ref a),some (.ref b),some (.int dv),some (.ref be),some (.int (aZ F 0)),some (.int (aZ R 0))]∧d5 H1 H2∧H2 be=some (.lst ((F.drop 1++List.replicate (R.length - F.length) 0).map V.int))) (fun N hN=>?_) ?_
 ·subst_eqs
  simp only [aD9]
  have lx:(((R.map V.int).length:Int) - ((F.map V.int).length:Int)).toNat=R.length - F.length:=by rw [List.length_map,List.length_map];omega
  refine ⟨_,S1.seq hF,fun p hp=>⟨by decide,fun p1 hp1=>?_⟩⟩
  have X1:=d5.new hp (.lst ((F.map V.int).drop 1))
  have X2:=d5.new hp1 (.lst [.int 0])
  have X:=X1.trans X2
  refine ⟨_,.inl ((S1.trans X).seq hR),_,.inl ((S1.trans X).seq hF),_,b8,by rw [List.length_map,List.length_map];omega,by rw [List.length_map,List.length_map];omega,?_,fun p2 hp2=>?_⟩
  ·rw [lx]
   exact Nat.le_trans (show _≤100 by simp;omega) (by decide)
  rw [lx,List.flatten_replicate_singleton]
  have X3:=d5.new hp2 (.lst (List.replicate (R.length - F.length) (V.int 0)))
  refine ⟨_,X3 _ _ (X2 _ _ b8),_,b8,?_,fun p3 hp3=>?_⟩
  ·rw [List.length_drop,List.length_map,List.length_replicate]
   exact Nat.le_trans (show _≤100 by omega) (by decide)
  have X4:=d5.new hp3 (.lst ((F.map V.int).drop 1++List.replicate (R.length - F.length) (V.int 0)))
  exact hN _ _ ⟨p3,rfl,X.trans (X3.trans X4),by rw [b8,List.map_append,List.map_drop,List.map_replicate]⟩
 rintro σ H2 ⟨be,rfl,S2,ebe⟩
 subst_eqs
 simp only [aD9]
 obtain ⟨bs,hbs⟩:∃ bs,bs=F.drop 1++List.replicate (R.length - F.length) 0:=⟨_,rfl⟩
 have lbs:bs.length=R.length - 1:=by rw [hbs,List.length_append,List.length_drop,List.length_replicate];omega
 have bsg:∀ j v,bs[j]? = some v→v=aZ F (j+1):=fun j v h=>by
  rw [hbs] at h
  unfold aZ
  rcases Nat.lt_or_ge j (F.drop 1).length with z | z
  ·rw [List.getElem?_append_left z,List.getElem?_drop,Nat.add_comm] at h
   rw [h];rfl
  ·rw [List.getElem?_append_right z] at h
   have h0:=(List.mem_replicate.mp (List.mem_of_getElem? h)).2
   rw [List.length_drop] at z
   rw [List.getElem?_eq_none (by omega),h0];rfl
 rw [←hbs] at ebe
 obtain ⟨tf,htf⟩:∃ tf:Nat→Int,∀ j,tf j=(aZ F 0 * aZ R (j+1) - aZ R 0 * aZ F (j+1)).fdiv dv:=⟨_,fun _=>rfl⟩
 have S12:=S1.trans S2
 refine ⟨_,S12.seq hR,fun p hp=>?_⟩
 have X:=d5.new hp (.lst ((R.map V.int).drop 1))
 have ep:(upd H2 p (.lst ((R.map V.int).drop 1))) p=some (.lst ((R.drop 1).map V.int)):=by rw [b8,List.map_drop]
 have eb2:=X _ _ ebe
 refine ⟨⟨_,SqL.of ep⟩,⟨_,SqL.of eb2⟩,fun D hD=>?_⟩
 generalize upd H2 p (.lst ((R.map V.int).drop 1))=H3 at *
 have lr1:((R.drop 1).map V.int).length=R.length - 1:=by rw [List.length_map,List.length_drop]
 have lb1:(bs.map V.int).length=R.length - 1:=by rw [List.length_map,lbs]
 have mb:min ((R.drop 1).map V.int).length (bs.map V.int).length=R.length - 1:=by rw [lr1,lb1,Nat.min_self]
 refine bb2 ((R.drop 1).map V.int) (bs.map V.int) (fun i σ H4=>∃ o1 o2,σ=[some (V.int (aZ R 0)),some (V.int (aZ F 0)),some (V.int dv),o1,o2]∧d5 H3 H4∧H4 D=some (.lst (((List.range i).map tf).map V.int))) ⟨_,_,rfl,d5.new hD _,b8⟩ (by rintro i σ H4 ⟨_,_,_,s4,_⟩;exact ⟨SqL.of (s4 _ _ ep),SqL.of (s4 _ _ eb2)⟩) ?_ ?_
 ·rintro i x y σ H4 q hx hy ⟨o1,o2,rfl,s4,e4⟩ hq
  have hi:=(List.getElem?_eq_some_iff.mp hy).1
  obtain ⟨x',hx',rfl⟩:=ar9 hx
  obtain ⟨y',hy',rfl⟩:=ar9 hy
  have ex:x'=aZ R (i+1):=by
   rw [List.getElem?_drop,Nat.add_comm] at hx'
   unfold aZ;rw [hx'];rfl
  have ey:=bsg i y' hy'
  subst ex ey
  have T:=d5.new hq (.tup [.int (aZ R (i+1)),.int (aZ F (i+1))])
  have eT:=T _ _ e4
  subst_eqs
  refine ⟨_,SqT.of b8,rfl,_,_,rfl,_,_,rfl,rfl,?_⟩
  refine ⟨_,rfl,K1 (at7 wF 0) (at7 wR _) (by omega),_,rfl,K1 (at7 wR 0) (at7 wF _) (by omega),W7 d0 (D8 db (by omega)),?_⟩
  rw [mb]
  rw [lb1] at hi
  refine D5.mk hi eT ?_ ⟨_,_,rfl,(s4.trans T).over hD _,?_⟩
  ·rw [List.length_map,List.length_map,List.length_range]
   exact Nat.lt_of_lt_of_le (show i<100 by omega) (by decide)
  ·rw [b8,List.range_succ,List.map_append,List.map_append,←htf];rfl
 ·rintro σ H4 ⟨o1,o2,rfl,s4,e4⟩
  rw [mb] at e4
  refine k D ((List.range (R.length - 1)).map tf) H4 ?_ ?_ e4 (by rw [List.length_map,List.length_range]) fun j hj=>?_
  ·exact (S12.trans X).trans s4
  ·exact (S12.trans X).free hD
  ·rw [List.length_map,List.length_range] at hj
   rw [←htf]
   unfold aZ
   rw [List.getElem?_map,List.getElem?_range hj];rfl
end
def bF (c x:Nat):Nat:=(c+1) * (x * (x+1))
structure SgS (c d0 L K:Nat) (P0 Q0:List Int) (s t:Rat) (A B:List Int):Prop where
 tA:au0 A A.length
 tB:au0 B B.length
 lA:A.length≤L
 lB:B.length<A.length
 gB:B≠[]→D6 B=1
 eu:Eu (zc P0) (zc Q0) (zc A) (zc B) P0.length Q0.length A.length B.length
 s0:s≠0
 t0:t≠0
 wA:∀ k,(aZ A k).natAbs<2 ^ (c * (2 * (L - A.length)+1))
 wB:∀ k,(aZ B k).natAbs<2 ^ (c * (2 * (L - A.length)+1))
 sd:s.den<2 ^ (d0+bF c (L - A.length - 1))
 sn:s.num.natAbs<2 ^ (d0+2 * bF c (L - A.length - 1))
 td:t.den<2 ^ (d0+bF c (L - A.length))
 tn:t.num.natAbs<2 ^ (d0+2 * bF c (L - A.length))
def FmX (K:PySem.W.Frag) (D:Addr) (H:Hp) (r:Addr) (s:Rat) (ws:List Int):Prop:=∃ rs l,SqT K H r [.ref rs,.ref l]∧SqT K H rs (p9 s)∧H l=some (.lst (ws.map V.int))∧l≠D
inductive Fms (K:PySem.W.Frag) (D:Addr) (H:Hp):List V→List (Rat × List Int)→Prop where
 | nil:Fms K D H [] []
 | cons {r:Addr} {s:Rat} {ws:List Int} {xs:List V} {fs:List (Rat × List Int)} (h:FmX K D H r s ws) (t:Fms K D H xs fs):Fms K D H (.ref r :: xs) ((s,ws) :: fs)
structure Pf where
 f:Nat→Rat
def al9 (c:Rat):Pf:=⟨fun k=>if k=0 then c else 0⟩
def aR1 (a b:Pf):Pf:=⟨cv a.f b.f⟩
def bp4 (a:Pf):Nat→Pf
 | 0=>al9 1
 | n+1=>aR1 (bp4 a n) a
def zp (ws:List Int):Pf:=⟨zc ws⟩
def ExZ (one other:List Int):Prop:=∃ (V:Nat→Int) (n:Nat),(∀ k,n≤k→V k=0)∧∀ k,zc one k=cv (fun i=>(V i:Rat)) (zc other) k
section
variable {P:Program} {w:World} {K:PySem.W.Frag} {mg:Str→Option Value} {base:Heap}
structure WDD (H:Hp) (one other:List Int) (n W1 W2 kst:Nat) (lq lr:Addr) (many:Int) (Qz Rz:List Int) (H3:Hp):Prop where
 same:d5 H H3
 fq:H lq=none
 fr:H lr=none
 nqr:lq≠lr
 eq:H3 lq=some (.lst (Qz.map V.int))
 er:H3 lr=some (.lst (Rz.map V.int))
 m1:1≤many
 mb:many.natAbs<2 ^ (kst * W2+1)
 qb:∀ v∈Qz,Int.natAbs v<2 ^ (W1+kst * (W2+1))
 rb:∀ v∈Rz,Int.natAbs v<2 ^ (W1+kst * (W2+1))
 kl:kst+Rz.length≤one.length
 ks:kst=0∨kst+n≤one.length
 k0:kst=0→Rz.length=one.length
 rt:au0 Rz Rz.length
 ql:Qz.length=one.length - n
 qz:∀ i,i+n<Rz.length→aZ Qz i=0
 qlast:kst≠0→∀ v,Qz[Qz.length - 1]? = some v→v≠0
 dv:Dv one other Qz Rz many
 ex:ExZ one other→many=1
def Z4 (k:Nat) (σ:L2.St) (H:Hp):Nat:=match σ[k]? with
 | some (some (.ref r))=>(match H r with
  | some (.lst xs)=>xs.length
  | _=>0)
 | _=>0
theorem ah0 {k:Nat} {σ:L2.St} {H:Hp} {r:Addr} {xs:List V} (h:σ[k]? = some (some (.ref r))) (e:H r=some (.lst xs)):Z4 k σ H=xs.length:=by
 unfold Z4;rw [h];simp only [e]
end
def sh (C:Nat→Rat):Nat→Rat
 | 0=>0
 | j+1=>C j
theorem am8 (C:Nat→Rat):sh C 0=0:=rfl
theorem am9 (C:Nat→Rat) (j:Nat):sh C (j+1)=C j:=rfl
inductive Hs:Nat→(Nat→Rat)→(Nat→Rat)→Prop where
 | base {A B:Nat→Rat} (h0:A 0≠0) (hA:∀ j,A (j+1)=0) (hB:∀ j,B j=0):Hs 0 A B
 | step {n:Nat} {A B C:Nat→Rat} {a:Rat} (ha:0<a) (hA:∀ j,A j=a * B j+sh C j) (h:Hs n B C):Hs (n+1) A B
theorem rsq (x:Rat):0≤x * x:=by
 rcases Rat.le_total (a:=0) (b:=x) with h | h
 ·exact Rat.mul_nonneg h h
 ·have:x * x=(-x) * (-x):=by grind
  rw [this]
  exact Rat.mul_nonneg (by grind) (by grind)
theorem ao0 {x:Rat} (h:x≠0):0<x * x:=by
 have h1:=rsq x
 have h2:x * x≠0:=fun z=>by rcases Rat.mul_eq_zero.mp z with y | y <;> exact h y
 grind
theorem Hs.lead {n:Nat} {A B:Nat→Rat} (h:Hs n A B):A 0≠0:=by
 induction h with
 | base h0 _ _=>exact h0
 | @step n A B C a ha hA h ih=>
  rw [hA 0,am8]
  intro z
  have:a * B 0=0:=by grind
  rcases Rat.mul_eq_zero.mp this with y | y
  ·rw [y] at ha;exact absurd ha (by decide)
  ·exact ih y
theorem Hs.supp {n:Nat} {A B:Nat→Rat} (h:Hs n A B):(∀ j,n<2 * j→A j=0)∧∀ j,n<2 * j+1→B j=0:=by
 induction h with
 | base h0 hA hB=>exact ⟨fun j hj=>by obtain ⟨m,rfl⟩:∃ m,j=m+1:=⟨j - 1,by omega⟩;exact hA m,fun j _=>hB j⟩
 | @step n A B C a ha hA h ih=>
  refine ⟨fun j hj=>?_,fun j hj=>ih.1 j (by omega)⟩
  obtain ⟨m,rfl⟩:∃ m,j=m+1:=⟨j - 1,by omega⟩
  rw [hA,ih.1 (m+1) (by omega),am9,ih.2 m (by omega)];grind
theorem Hs.pos {n:Nat} {A B:Nat→Rat} (h:Hs n A B):∃ c:Rat,c≠0∧0<c * A 0∧(∀ j,2 * j≤n→0<c * A j)∧∀ j,2 * j+1≤n→0<c * B j:=by
 induction h with
 | @base A B h0 hA hB=>
  have sq:0<A 0 * A 0:=ao0 h0
  refine ⟨A 0,h0,sq,fun j hj=>?_,fun j hj=>by omega⟩
  have:j=0:=by omega
  subst this
  exact sq
 | @step n A B C a ha hA h ih=>
  obtain ⟨c,c0,cl,pB,pC⟩:=ih
  have pA:∀ j,2 * j≤n+1→0<c * A j:=fun j hj=>by
   rw [hA]
   cases j with
   | zero=>
    rw [am8]
    have:=Rat.mul_pos ha cl
    grind
   | succ j=>
    rw [am9]
    have h2:=pC j (by omega)
    by_cases hb:2 * (j+1)≤n
    ·have:=Rat.mul_pos ha (pB (j+1) hb)
     grind
    ·rw [h.supp.1 (j+1) (by omega)]
     grind
  exact ⟨c,c0,pA 0 (by omega),pA,fun j hj=>pB j (by omega)⟩
def ac3:Nat→(Nat→Rat)→(Nat→Rat)→Bool
 | 0,_,_=>true
 | n+1,A,B=>decide (0<A 0 * B 0) && ac3 n B (fun j=>A (j+1) - A 0 / B 0 * B (j+1))
theorem bg1 {n:Nat} {A B:Nat→Rat} (h:Hs n A B):ac3 n A B=true:=by
 induction h with
 | base _ _ _=>rfl
 | @step n A B C a ha hA h ih=>
  have b0:=h.lead
  have e0:A 0=a * B 0:=by rw [hA,am8];grind
  have ea:A 0 / B 0=a:=by
   rw [e0,Rat.div_def]
   have:=Rat.mul_inv_cancel _ b0
   generalize (B 0)⁻¹=bi at this ⊢
   grind
  have eC:(fun j=>A (j+1) - A 0 / B 0 * B (j+1))=C:=by
   funext j
   rw [ea,hA,am9];grind
  have sq:0<A 0 * B 0:=by
   obtain ⟨c,c0,cl,pB,_⟩:=h.pos
   rw [e0]
   have h1:=Rat.mul_pos (pB 0 (by omega)) cl
   have h3:0<B 0 * B 0:=ao0 b0
   have:=Rat.mul_pos ha h3
   grind
  unfold ac3
  rw [eC,ih,decide_eq_true sq];rfl
theorem bi0:∀ {n:Nat} {A B:Nat→Rat},A 0≠0→(∀ j,n<2 * j→A j=0)→(∀ j,n<2 * j+1→B j=0)→ac3 n A B=true→Hs n A B
 | 0,A,B,a0,sA,sB,_=>.base a0 (fun j=>sA (j+1) (by omega)) (fun j=>sB j (by omega))
 | n+1,A,B,a0,sA,sB,h=>by
  unfold ac3 at h
  rw [Bool.and_eq_true,decide_eq_true_eq] at h
  have b0:B 0≠0:=fun z=>by have:=h.1;rw [z] at this;grind
  have bi:=Rat.mul_inv_cancel _ b0
  have ea:A 0 / B 0=A 0 * (B 0)⁻¹:=Rat.div_def ..
  have pa:0<A 0 / B 0:=by
   have h3:0<B 0 * B 0:=ao0 b0
   have h4:=Rat.mul_pos h.1 (Rat.inv_pos.mpr h3)
   have h5:=Rat.mul_inv_cancel _ (Y6 h3)
   rw [ea]
   generalize (B 0)⁻¹=x at bi ⊢
   generalize (B 0 * B 0)⁻¹=y at h4 h5
   have:A 0 * x=A 0 * B 0 * y:=by grind
   rw [this];exact h4
  refine .step (a:=A 0 / B 0) (C:=fun j=>A (j+1) - A 0 / B 0 * B (j+1)) pa (fun j=>?_) (bi0 b0 (fun j hj=>sB j (by omega)) (fun j hj=>?_) h.2)
  ·cases j with
   | zero=>
    rw [am8,ea]
    generalize (B 0)⁻¹=x at bi ⊢
    grind
   | succ j=>rw [am9];grind
  ·show A (j+1) - A 0 / B 0 * B (j+1)=0
   rw [sA (j+1) (by omega),sB (j+1) (by omega)];grind
def Lr (A B:Nat→Rat):Nat→Nat→Rat
 | 0=>A
 | 1=>B
 | k+2=>fun j=>Lr A B k (j+1) - Lr A B k 0 / Lr A B (k+1) 0 * Lr A B (k+1) (j+1)
def Pl (A B:Nat→Rat):Nat→Rat
 | 0=>1
 | 1=>1
 | k+2=>Pl A B (k+1) * Lr A B (k+1) 0
theorem aN9 {A B:Nat→Rat}:∀ k,(∀ i,1≤i→i<k→Lr A B i 0≠0)→Pl A B k≠0
 | 0,_=>by unfold Pl;decide
 | 1,_=>by unfold Pl;decide
 | k+2,h=>by
  unfold Pl
  intro z
  rcases Rat.mul_eq_zero.mp z with y | y
  ·exact aN9 (k+1) (fun i h1 h2=>h i h1 (by omega)) y
  ·exact h (k+1) (by omega) (by omega) y
theorem ad6 {A B:Nat→Rat}:∀ k,(∀ i,1≤i→i<k→Lr A B i 0≠0)→(∀ j,tau A B k j=Pl A B k * Lr A B k j)∧(0<k→∀ j,tau A B (k - 1) j=Pl A B (k - 1) * Lr A B (k - 1) j)
 | 0,_=>⟨fun j=>by rw [V7];unfold Pl Lr;grind,fun h=>by omega⟩
 | 1,_=>⟨fun j=>by rw [L9];unfold Pl Lr;grind,fun _ j=>by show tau A B 0 j=_;rw [V7];unfold Pl Lr;grind⟩
 | k+2,h=>by
  obtain ⟨i1,i2⟩:=ad6 (k+1) fun i h1 h2=>h i h1 (by omega)
  have i2:=i2 (by omega)
  rw [Nat.add_sub_cancel] at i2
  have l1:=h (k+1) (by omega) (by omega)
  have tn:∀ i,1≤i→i<k+1→tau A B i 0≠0:=fun i h1 h2=>by
   rw [(ad6 i fun i' h1' h2'=>h i' h1' (by omega)).1 0]
   intro z
   rcases Rat.mul_eq_zero.mp z with y | y
   ·exact aN9 i (fun i' h1' h2'=>h i' h1' (by omega)) y
   ·exact h i h1 (by omega) y
  refine ⟨fun j=>?_,fun _=>i1⟩
  have r:=az2 (k+1) A B (by omega) tn (fun hk=>by
   have:k=0:=by omega
   subst this
   exact l1) j
  rw [Nat.add_sub_cancel,i1,i1,i2,i2] at r
  have dl:dlt A B (k+1)=Pl A B k:=by
   unfold dlt
   split
   ·have:k=0∨k=1:=by omega
    rcases this with rfl | rfl <;> rfl
   ·obtain ⟨m,rfl⟩:∃ m,k=m+2:=⟨k - 2,by omega⟩
    rw [show m+2+1 - 2=m+1 by omega,(ad6 (m+1) fun i' h1' h2'=>h i' h1' (by omega)).1 0];rfl
  rw [dl] at r
  have pk:=aN9 k fun i h1 h2=>h i h1 (by omega)
  have eL:Lr A B (k+2) j=Lr A B k (j+1) - Lr A B k 0 / Lr A B (k+1) 0 * Lr A B (k+1) (j+1):=rfl
  have eP:Pl A B (k+2)=Pl A B (k+1) * Lr A B (k+1) 0:=rfl
  refine Y7 pk ?_
  rw [eL,eP,Rat.div_def]
  have li:=Rat.mul_inv_cancel _ l1
  generalize (Lr A B (k+1) 0)⁻¹=x at li ⊢
  grind
theorem ao9:∀ {n:Nat} {A B:Nat→Rat},0<A 0→(ac3 n A B=true↔∀ k,1≤k→k≤n→0<Lr A B k 0)
 | 0,A,B,_=>⟨fun _ k h1 h2=>by omega,fun _=>rfl⟩
 | n+1,A,B,a0=>by
  have hB:∀ k,Lr B (fun j=>A (j+1) - A 0 / B 0 * B (j+1)) k=Lr A B (k+1):=fun k=>by
   have two:∀ k,Lr B (fun j=>A (j+1) - A 0 / B 0 * B (j+1)) k=Lr A B (k+1)∧Lr B (fun j=>A (j+1) - A 0 / B 0 * B (j+1)) (k+1)=Lr A B (k+2):=fun k=>by
    induction k with
    | zero=>exact ⟨rfl,rfl⟩
    | succ k ih=>
     refine ⟨ih.2,?_⟩
     show (fun j=>Lr B _ k (j+1) - Lr B _ k 0 / Lr B _ (k+1) 0 * Lr B _ (k+1) (j+1))=_
     rw [ih.1,ih.2];rfl
   exact (two k).1
  unfold ac3
  rw [Bool.and_eq_true,decide_eq_true_eq]
  constructor
  ·rintro ⟨h1,h2⟩ k k1 kn
   have b0:0<B 0:=by
    refine Classical.byContradiction fun z=>?_
    have z':0≤-(B 0):=by grind
    have:=Rat.mul_nonneg (Rat.le_of_lt a0) z'
    grind
   obtain ⟨m,rfl⟩:∃ m,k=m+1:=⟨k - 1,by omega⟩
   cases m with
   | zero=>exact b0
   | succ m=>
    have:=(ao9 (n:=n) (A:=B) (B:=fun j=>A (j+1) - A 0 / B 0 * B (j+1)) b0).mp h2 (m+1) (by omega) (by omega)
    rw [hB] at this
    exact this
  ·intro h
   have b0:=h 1 (by omega) (by omega)
   have b0':0<B 0:=b0
   refine ⟨Rat.mul_pos a0 b0',(ao9 b0').mpr fun k k1 kn=>?_⟩
   rw [hB]
   exact h (k+1) (by omega) (by omega)
theorem aJ9 {A B:Nat→Rat}:∀ k,(∀ i,1≤i→i<k→0<Lr A B i 0)→0<Pl A B k
 | 0,_=>by unfold Pl;decide
 | 1,_=>by unfold Pl;decide
 | k+2,h=>Rat.mul_pos (aJ9 (k+1) fun i h1 h2=>h i h1 (by omega)) (h (k+1) (by omega) (by omega))
theorem aM7 {n:Nat} {A B:Nat→Rat}:(∀ k,1≤k→k≤n→0<tau A B k 0)↔∀ k,1≤k→k≤n→0<Lr A B k 0:=by
 constructor
 ·intro h k
  induction k using Nat.strongRecOn with
  | _ k ih=>
   intro k1 kn
   have lp:∀ i,1≤i→i<k→0<Lr A B i 0:=fun i h1 h2=>ih i h2 h1 (by omega)
   have:=h k k1 kn
   rw [(ad6 k fun i h1 h2=>Y6 (lp i h1 h2)).1 0] at this
   have pp:=aJ9 k lp
   refine Classical.byContradiction fun z=>?_
   have z':0≤-(Lr A B k 0):=by grind
   have:=Rat.mul_nonneg (Rat.le_of_lt pp) z'
   grind
 ·intro h k k1 kn
  have lp:∀ i,1≤i→i<k→0<Lr A B i 0:=fun i h1 h2=>h i h1 (by omega)
  rw [(ad6 k fun i h1 h2=>Y6 (lp i h1 h2)).1 0]
  exact Rat.mul_pos (aJ9 k lp) (h k k1 kn)
def fz (v:Nat→Int):Pf:=⟨fun k=>(v k:Rat)⟩
def wL (c L la:Nat):Nat:=c * (2 * (L+1 - la))
structure LC (P0 Q0:List Int) (K c L:Nat):Prop where
 tP:au0 P0 P0.length
 tQ:au0 Q0 Q0.length
 lp:P0.length≤L
 lq:Q0.length≤L
 kP:∀ k,(aZ P0 k).natAbs≤K
 kQ:∀ k,(aZ Q0 k).natAbs≤K
 k1:1≤K
 l1:1≤L
 hc:4 * L * K≤2 ^ c
def qp (l:List Rat):Pf:=⟨aQ l⟩
def evZ (qs:List Rat):Bool:=(evs qs).all fun q=>decide (q=0)
def odZ (qs:List Rat):Bool:=(ods qs).all fun q=>decide (q=0)
def cOk (c T:Nat):Prop:=(c=10∧T≤14)∨(c=40∧T≤5)
structure RowQ (c:Nat) (M:List (List Rat)) (last:List Rat):Prop where
 m:∀ L∈M,V6 L L.length∧2≤L.length∧evZ L=true∧∀ x∈L,BdN c x
 t:V6 last last.length
 n:last≠[]
 p:evZ last=true∨odZ last=true
 o:∀ x∈last,BdN c x
 z:cOk c (last.length - 1+(M.map fun L=>L.length - 1).sum)
def bq0 (M:List (List Rat)):Nat→Nat
 | 0=>0
 | n+1=>bq0 M n+(((M[M.length - 1 - n]?).getD []).length - 1)
def dn (M:List (List Rat)) (last:List Rat) (n:Nat):Nat:=last.length - 1+bq0 M n
structure Prt (M:List (List Rat)) (last:List Rat) (l:Rat):Prop where
 m:∀ L∈M,∃ a:Rat,0<a∧L=[0,a]
 e:last=[l]
 n:l≠0
def at' (g:Pf) (d k:Nat):Rat:=if d≤k then g.f (k - d) else 0
def rwA (p:Nat→Rat) (n:Nat):Nat→Rat:=fun j=>if 2 * j≤n then p (n - 2 * j) else 0
def rwB (p:Nat→Rat) (n:Nat):Nat→Rat:=fun j=>if 2 * j+1≤n then p (n - 1 - 2 * j) else 0
theorem aG1 (p:Nat→Rat) (n:Nat):∀ j,n<2 * j→rwA p n j=0:=fun j hj=>by unfold rwA;rw [if_neg (by omega)]
theorem aG0 (p:Nat→Rat) (n:Nat):∀ j,n<2 * j+1→rwB p n j=0:=fun j hj=>by unfold rwB;rw [if_neg (by omega)]
def Hp' (p:Pf) (n:Nat):Prop:=Hs n (rwA p.f n) (rwB p.f n)
def aj7 (p:Nat→Rat) (n:Nat):Bool:=ac3 n (rwA p n) (rwB p n)
theorem as9 {c:Rat} (hc:c≠0):∀ {n:Nat} {A B A' B':Nat→Rat},(∀ j,A' j=c * A j)→(∀ j,B' j=c * B j)→ac3 n A' B'=ac3 n A B
 | 0,_,_,_,_,_,_=>rfl
 | n+1,A,B,A',B',eA,eB=>by
  unfold ac3
  have h2:=ao0 hc
  have e1:decide (0<A' 0 * B' 0)=decide (0<A 0 * B 0):=by
   rw [decide_eq_decide,eA,eB]
   constructor
   ·intro h
    refine Classical.byContradiction fun z=>?_
    have z':0≤-(A 0 * B 0):=by grind
    have:=Rat.mul_nonneg (Rat.le_of_lt h2) z'
    grind
   ·intro h
    have:=Rat.mul_pos h2 h
    grind
  by_cases hb:0<A 0 * B 0
  ·have b0:B 0≠0:=fun z=>by rw [z] at hb;grind
   rw [e1,as9 hc eB (A:=B) (B:=fun j=>A (j+1) - A 0 / B 0 * B (j+1)) fun j=>?_]
   have bi:=Rat.mul_inv_cancel _ b0
   have ci:=Rat.mul_inv_cancel _ hc
   have cb:c * B 0≠0:=fun z=>by rcases Rat.mul_eq_zero.mp z with y | y;exact hc y;exact b0 y
   have cbi:=Rat.mul_inv_cancel _ cb
   show A' (j+1) - A' 0 / B' 0 * B' (j+1)=c * (A (j+1) - A 0 / B 0 * B (j+1))
   have q:A' 0 / B' 0=A 0 / B 0:=by
    rw [eA,eB,Rat.div_def,Rat.div_def]
    generalize (c * B 0)⁻¹=x at cbi ⊢
    generalize (B 0)⁻¹=y at bi ⊢
    have:c * A 0 * x=A 0 * y * (c * B 0 * x):=by grind
    rw [this,cbi];grind
   rw [q,eA,eB];grind
  ·rw [e1,decide_eq_false hb];rfl
theorem as8 {c:Rat} (hc:c≠0) {p p':Nat→Rat} (h:∀ k,p' k=c * p k) (n:Nat):aj7 p' n=aj7 p n:=by
 refine as9 hc (fun j=>?_) fun j=>?_
 ·unfold rwA;split
  ·exact h _
  ·grind
 ·unfold rwB;split
  ·exact h _
  ·grind
theorem bg0 {p:Nat→Rat} {n:Nat} (h:p n≠0):aj7 p n=true↔Hs n (rwA p n) (rwB p n):=
 ⟨fun z=>bi0 (by unfold rwA;rw [if_pos (by omega)];exact h) (aG1 p n) (aG0 p n) z,bg1⟩
theorem ba9 {p:Nat→Rat} {n:Nat} (h:0<p n) (d:aj7 p n=true):∀ k,k≤n→0<p k:=by
 have hs:=(bg0 (Y6 h)).mp d
 obtain ⟨c,c0,cl,pA,pB⟩:=hs.pos
 have a0:rwA p n 0=p n:=by unfold rwA;rw [if_pos (by omega)];rfl
 rw [a0] at cl
 have cp:0<c:=by
  refine Classical.byContradiction fun z=>?_
  have z':0≤-c:=by grind
  have:=Rat.mul_nonneg z' (Rat.le_of_lt h)
  grind
 have fin:∀ x,0<c * x→0<x:=fun x hx=>by
  refine Classical.byContradiction fun z=>?_
  have z':0≤-x:=by grind
  have:=Rat.mul_nonneg (Rat.le_of_lt cp) z'
  grind
 intro k hk
 by_cases z:(n - k) % 2=0
 ·have:=fin _ (pA ((n - k) / 2) (by omega))
  unfold rwA at this
  rw [if_pos (by omega),show n - 2 * ((n - k) / 2)=k by omega] at this
  exact this
 ·have:=fin _ (pB ((n - k) / 2) (by omega))
  unfold rwB at this
  rw [if_pos (by omega),show n - 1 - 2 * ((n - k) / 2)=k by omega] at this
  exact this
theorem bk3:∀ m,m≤15→sliceRange (sliceBounds none none (some (-2)) m).1 (sliceBounds none none (some (-2)) m).2.1 (sliceBounds none none (some (-2)) m).2.2=(List.range ((m+1) / 2)).map fun j=>m - 1 - 2 * j:=by decide +kernel
theorem bk2:∀ m,m≤15→sliceRange (sliceBounds (some (-2)) none (some (-2)) m).1 (sliceBounds (some (-2)) none (some (-2)) m).2.1 (sliceBounds (some (-2)) none (some (-2)) m).2.2=(List.range (m / 2)).map fun j=>m - 2 - 2 * j:=by decide +kernel
def S9 (ws:List Int) (s k:Nat):List Int:=(List.range k).map fun j=>aZ ws (s - 2 * j)
theorem aq6 {ws:List Int} {s:Nat}:∀ k,(∀ j,j<k→s - 2 * j<ws.length)→((List.range k).map fun j=>s - 2 * j).filterMap ((ws.map V.int)[·]?)=(S9 ws s k).map V.int
 | 0,_=>rfl
 | k+1,h=>by
  unfold S9
  rw [List.range_succ,List.map_append,List.filterMap_append,aq6 k fun j hj=>h j (by omega),List.map_append,List.map_append]
  congr 1
  have hk:=h k (by omega)
  have:(ws.map V.int)[s - 2 * k]? = some (V.int (aZ ws (s - 2 * k))):=by
   rw [List.getElem?_map,List.getElem?_eq_getElem hk]
   unfold aZ
   rw [List.getElem?_eq_getElem hk];rfl
  show [s - 2 * k].filterMap _=_
  rw [List.filterMap_cons,this];rfl
theorem bp2 {ws:List Int} (h:ws.length≤15):aq7 (ws.map V.int) none none (some (-2))=(S9 ws (ws.length - 1) ((ws.length+1) / 2)).map V.int:=by
 unfold aq7
 rw [List.length_map,bk3 _ h]
 exact aq6 _ fun j hj=>by omega
theorem bp1 {ws:List Int} (h:ws.length≤15):aq7 (ws.map V.int) (some (-2)) none (some (-2))=(S9 ws (ws.length - 2) (ws.length / 2)).map V.int:=by
 unfold aq7
 rw [List.length_map,bk2 _ h]
 exact aq6 _ fun j hj=>by omega
theorem ay6 (ws:List Int) (s k:Nat):(S9 ws s k).length=k:=by unfold S9;rw [List.length_map,List.length_range]
theorem ay7 (ws:List Int) (s k j:Nat):aZ (S9 ws s k) j=if j<k then aZ ws (s - 2 * j) else 0:=by
 unfold S9
 by_cases h:j<k
 ·rw [if_pos h]
  show (((List.range k).map _)[j]?).getD 0=_
  rw [List.getElem?_map,List.getElem?_range h];rfl
 ·rw [if_neg h]
  show (((List.range k).map _)[j]?).getD 0=_
  rw [List.getElem?_eq_none (by rw [List.length_map,List.length_range];omega)];rfl
structure WG (n:Nat) (ws:List Int) (W:Nat):Prop where
 len:ws.length=n+1
 n14:n≤14
 ld:0<aZ ws n
 w:∀ v∈ws,Int.natAbs v<2 ^ W
 b:(W+4) * (n+1)≤8800
def zr (ws:List Int):Nat→Rat:=fun k=>((aZ ws k:Int):Rat)
abbrev gA (ws:List Int) (n:Nat):=rwA (zr ws) n
abbrev gB (ws:List Int) (n:Nat):=rwB (zr ws) n
def Lk (n k:Nat):Nat:=if k≤n then (n - k) / 2+1 else 0
structure Tg (n:Nat) (ws:List Int) (W k:Nat) (T:List Int):Prop where
 l:T.length=Lk n k
 e:∀ j,((aZ T j:Int):Rat)=tau (gA ws n) (gB ws n) k j
 b:∀ v∈T,Int.natAbs v<2 ^ ((W+4) * (n+1)+1)
section
variable {n:Nat} {ws:List Int} {W:Nat}
theorem WG.ints (h:WG n ws W):(∀ j,∃ z:Int,gA ws n j=(z:Rat)∧z.natAbs<2 ^ W)∧∀ j,∃ z:Int,gB ws n j=(z:Rat)∧z.natAbs<2 ^ W:=by
 refine ⟨fun j=>?_,fun j=>?_⟩
 ·by_cases z:2 * j≤n
  ·exact ⟨aZ ws (n - 2 * j),by unfold gA rwA;rw [if_pos z];rfl,at7 h.w _⟩
  ·exact ⟨0,by unfold gA rwA;rw [if_neg z];rfl,Nat.two_pow_pos _⟩
 ·by_cases z:2 * j+1≤n
  ·exact ⟨aZ ws (n - 1 - 2 * j),by unfold gB rwB;rw [if_pos z];rfl,at7 h.w _⟩
  ·exact ⟨0,by unfold gB rwB;rw [if_neg z];rfl,Nat.two_pow_pos _⟩
theorem az1 (h:WG n ws W) (hn:1≤n) {k:Nat} (hk:k≤n+1) {T:List Int} (e:∀ j,((aZ T j:Int):Rat)=tau (gA ws n) (gB ws n) k j):∀ v∈T,Int.natAbs v<2 ^ ((W+4) * (n+1)+1):=by
 obtain ⟨i1,i2⟩:=h.ints
 have n14:=h.n14
 have key:∀ j,(aZ T j).natAbs<2 ^ ((W+4) * (n+1)+1):=fun j=>by
  obtain ⟨z,ez,bz⟩:=af8 (m:=n+1) i1 i2 hk (by omega) (by omega) j
  have:aZ T j=z:=Rat.intCast_inj.mp (by rw [e j,ez])
  rw [this]
  refine Nat.lt_of_le_of_lt bz ?_
  rw [Nat.pow_succ]
  have:=Nat.two_pow_pos ((W+4) * (n+1))
  omega
 intro v hv
 obtain ⟨k,hk,ek⟩:=List.getElem_of_mem hv
 have h2:aZ T k=v:=by unfold aZ;rw [List.getElem?_eq_getElem hk,ek];rfl
 rw [←h2];exact key k
theorem WG.start (h:WG n ws W) (hn:1≤n):Tg n ws W 0 (S9 ws (ws.length - 1) ((ws.length+1) / 2))∧Tg n ws W 1 (S9 ws (ws.length - 2) (ws.length / 2)):=by
 have hl:=h.len
 have e0:∀ j,((aZ (S9 ws (ws.length - 1) ((ws.length+1) / 2)) j:Int):Rat)=tau (gA ws n) (gB ws n) 0 j:=fun j=>by
  rw [V7,ay7]
  unfold gA rwA
  by_cases z:2 * j≤n
  ·rw [if_pos (by omega),if_pos z,hl,Nat.add_sub_cancel];rfl
  ·rw [if_neg (by omega),if_neg z];rfl
 have e1:∀ j,((aZ (S9 ws (ws.length - 2) (ws.length / 2)) j:Int):Rat)=tau (gA ws n) (gB ws n) 1 j:=fun j=>by
  rw [L9,ay7]
  unfold gB rwB
  by_cases z:2 * j+1≤n
  ·rw [if_pos (by omega),if_pos z,hl,show n+1 - 2=n - 1 by omega];rfl
  ·rw [if_neg (by omega),if_neg z];rfl
 refine ⟨⟨?_,e0,az1 h hn (by omega) e0⟩,⟨?_,e1,az1 h hn (by omega) e1⟩⟩
 ·rw [ay6];unfold Lk;rw [if_pos (by omega)];omega
 ·rw [ay6];unfold Lk;rw [if_pos (by omega)];omega
theorem WG.next (h:WG n ws W) (hn:1≤n) {k:Nat} (k1:1≤k) (kn:k≤n) (lead:∀ i,1≤i→i≤k→0<tau (gA ws n) (gB ws n) i 0) {R F T:List Int} {dv:Int} (d0:dv≠0) (tR:Tg n ws W (k - 1) R) (tF:Tg n ws W k F) (ed:((dv:Int):Rat)=dlt (gA ws n) (gB ws n) k) (lT:T.length=R.length - 1) (eT:∀ j,j<T.length→aZ T j=(aZ F 0 * aZ R (j+1) - aZ R 0 * aZ F (j+1)).fdiv dv):Tg n ws W (k+1) T:=by
 have rc:=az2 k (gA ws n) (gB ws n) k1 (fun i h1 hi=>Y6 (lead i h1 (by omega))) (fun hk=>by
  have:=lead 1 (by omega) (by omega)
  rw [L9] at this
  exact Y6 this)
 obtain ⟨i1,i2⟩:=h.ints
 have n14:=h.n14
 have lR:=tR.l
 have lL:T.length=Lk n (k+1):=by
  rw [lT,lR]
  unfold Lk
  rw [if_pos (by omega)]
  split <;> omega
 have e:∀ j,((aZ T j:Int):Rat)=tau (gA ws n) (gB ws n) (k+1) j:=fun j=>by
  obtain ⟨z,ez,_⟩:=af8 (m:=n+1) i1 i2 (k:=k+1) (by omega) (by omega) (by omega) j
  have r:=rc j
  rw [ez,←ed,←tF.e,←tF.e,←tR.e,←tR.e] at r
  have ri:z * dv=aZ F 0 * aZ R (j+1) - aZ R 0 * aZ F (j+1):=Rat.intCast_inj.mp (by
   rw [Rat.intCast_mul,Rat.intCast_sub,Rat.intCast_mul,Rat.intCast_mul];exact r)
  rcases Nat.lt_or_ge j T.length with y | y
  ·rw [ez,eT j y,←ri]
   congr 1
   rw [Int.mul_comm];exact j7 d0
  ·have t0:aZ T j=0:=by unfold aZ;rw [List.getElem?_eq_none y];rfl
   rw [t0,ez]
   congr 1
   have f1:aZ R (j+1)=0:=by unfold aZ;rw [List.getElem?_eq_none (by omega)];rfl
   have lF:=tF.l
   have f2:aZ F (j+1)=0:=by
    unfold aZ
    rw [List.getElem?_eq_none];rfl
    rw [lF]
    unfold Lk at lR ⊢
    rw [if_pos (by omega)] at lR ⊢
    omega
   rw [f1,f2,Int.mul_zero,Int.mul_zero,Int.sub_zero] at ri
   rcases Int.mul_eq_zero.mp ri with x | x
   ·exact x.symm
   ·exact absurd x d0
 exact ⟨lL,e,az1 h hn (by omega) e⟩
theorem WG.a0 (h:WG n ws W):0<gA ws n 0:=by
 unfold gA rwA zr
 rw [if_pos (by omega)]
 exact Rat.intCast_pos.mpr h.ld
theorem WG.no (h:WG n ws W) {k:Nat} (k1:1≤k) (kn:k≤n) (z : ¬ 0<tau (gA ws n) (gB ws n) k 0):aj7 (zr ws) n=false:=by
 refine Bool.eq_false_iff.mpr fun d=>z ?_
 exact aM7.mpr ((ao9 h.a0).mp d) k k1 kn
theorem WG.yes (h:WG n ws W) (z:∀ k,1≤k→k≤n→0<tau (gA ws n) (gB ws n) k 0):aj7 (zr ws) n=true:=(ao9 h.a0).mpr (aM7.mp z)
end
section
variable {P:Program} {w:World} {K:PySem.W.Frag} {mg:Str→Option Value} {base:Heap}
def aV4 (K:PySem.W.Frag):Sp:=fun vs H Q _=>∃ (a:Addr) (ws:List Int) (n W:Nat),vs=[.ref a]∧SqL K H a (ws.map V.int)∧ws.length=n+1∧n≤14∧aZ ws n≠0∧(∀ v∈ws,Int.natAbs v<2 ^ W)∧(W+4) * (n+1)≤8800∧∀ H',d5 H H'→Q (.bl (aj7 (zr ws) n)) H'
abbrev C5:Stmt:=top 39
theorem B7:i9 ["wholes","divisor","ahead","row","further","lead"] ["wholes"] (d3 C5):=by and_intros
set_option maxHeartbeats 0 in
theorem au8 {f f1:Addr} (d:Df K mg "whole_dies" C5 ["wholes"] f) (G_row_behind:Def P w K mg base CX0 1 "row_behind" f1 ["row","further","divisor"] (aF2 K)) (n_min:mg "min" = none):Def P w K mg base CX0 2 "whole_dies" f ["wholes"] (aV4 K):=by
 refine d.ok (N:=["wholes","divisor","ahead","row","further","lead"]) B7 (by rintro vs H Q E ⟨_,_,_,_,h,_⟩;rw [h];rfl) (fun cdv A outer s H vs Q E hr h=>?_)
 obtain ⟨a,ws,n,W,rfl,hS,hl,n14,ld0,bw,hb,k⟩:=h
 refine ⟨_,(d4 (A5 (p6 ad1 (i6 t4 (pv 0) (N5 E5 b9) (fun _ _=>rfl)) b9 (o0 _)) (d6 (U4 (i₀:=0) B7.nd rfl (Or.inl rfl) (Nc:=["whole"]) (caps:=[none]) rfl (X5.of (osc:=d3 C5) (N:=["wholes","divisor","ahead","row","further","lead"]) (ks:=[]) rfl rfl rfl rfl C3 (by decide +kernel)) (K7 (pv 0)) (fun C s₂ H₂ fp pins=>(g8 (i:=0) (show List.Nodup (["whole"]:List Str) by decide +kernel) rfl (Or.inl rfl) (Or.inr rfl))) (fun C s₂ H₂ fp pins=>(N5 E5 (pv 0))))) p8)
   (d4 (A5 (p6 aG4 (d8 (aT4 rfl) rfl n_min (by decide +kernel) (b6 (pv 0) b7)) b9 (o0 _)) (d6 (h9 G0)) p8)
   (d4 (aa0 (i:=3) (j:=4) rfl B7.nd rfl rfl (by decide) rfl rfl (b6 (aw9 (pv 0) K6 K6 (K5 (N5 E5 b9))) (b6 (aw9 (pv 0) (K5 (N5 E5 b9)) K6 (K5 (N5 E5 b9))) b7)) rfl)
   (d4 (bd8 b9 (g8 (i:=1) B7.nd rfl (Or.inl rfl)) (g8 (i:=2) B7.nd rfl (Or.inl rfl)))
   (d4 (Z9 PassesOwn.never (aq5 (pv 4) (fun _=>rfl)) (d4 (j8 (i:=5) B7.nd rfl (Or.inl rfl) (i6 t4 (pv 4) b9 (fun _ _=>rfl)))
   (d4 (A5 (p6 aG4 (pv 5) b9 (o0 _)) (d6 (h9 G0)) p8)
   (d4 (aa0 (i:=3) (j:=4) rfl B7.nd rfl rfl (by decide) rfl rfl (b6 (pv 4) (b6 (d7 G_row_behind hr (b6 (pv 3) (b6 (pv 4) (b6 (pv 1) b7))) i0) b7)) rfl)
   (d6 (aa0 (i:=1) (j:=2) rfl B7.nd rfl rfl (by decide) rfl rfl (b6 (pv 2) (b6 (pv 5) b7)) rfl))))))
   (d6 (h9 G0))))))),?_⟩
 rw [show start ["wholes","divisor","ahead","row","further","lead"] [.ref a]=[some (.ref a),none,none,none,none,none] from rfl]
 refine i8 (fun σ H1=>∃ a ws',σ=[some (.ref a),none,none,none,none,none]∧d5 H H1∧SqL K H1 a (ws'.map V.int)∧WG n ws' W∧aj7 (zr ws') n=aj7 (zr ws) n) (fun N hN=>?_) ?_
 ·subst_eqs
  have lastv:(ws.map V.int)[(ws.map V.int).length - 1]? = some (.int (aZ ws n)):=by
   rw [List.length_map,hl,Nat.add_sub_cancel,List.getElem?_map,List.getElem?_eq_getElem (by omega)]
   unfold aZ
   rw [List.getElem?_eq_getElem (by omega)];rfl
  refine ⟨_,hS,_,bl6 lastv,_,rfl,v6 (fun hneg=>?_) (fun hpos=>?_)⟩
  ·have az:∀ k,aZ (ws.map fun v=>-v) k = - aZ ws k:=fun k=>by
    unfold aZ
    rw [List.getElem?_map]
    cases ws[k]? <;> rfl
   have G:WG n (ws.map fun v=>-v) W:=⟨by rw [List.length_map];exact hl,n14,by rw [az];omega,fun v hv=>by
    obtain ⟨w,hw,rfl⟩:=List.mem_map.mp hv
    rw [Int.natAbs_neg];exact bw w hw,hb⟩
   refine ⟨⟨_,hS⟩,fun D1 hD1=>?_⟩
   refine Z1 (ws.map V.int) (fun j σ H3=>∃ o,σ=[o]∧d5 H H3∧H3 D1=some (.lst (((ws.take j).map fun v=>-v).map V.int))) ⟨_,rfl,d5.new hD1 _,b8⟩ (by rintro j σ H3 _ ⟨_,_,s3,_⟩;exact s3.seq hS) ?_ ?_
   ·rintro j x σ H3 hx ⟨o,rfl,s3,e3⟩
    have hj:=(List.getElem?_eq_some_iff.mp hx).1
    obtain ⟨v,hv,rfl⟩:=ar9 hx
    subst_eqs
    refine D5.mk hj e3 ?_ ⟨_,rfl,s3.over hD1 _,?_⟩
    ·rw [List.length_map,List.length_map,List.length_take]
     rw [List.length_map] at hj
     exact Nat.lt_of_le_of_lt (show _≤100 by omega) (by decide)
    ·rw [b8,List.take_succ,hv,List.map_append,List.map_append];rfl
   ·rintro σ H3 ⟨o,rfl,s3,e3⟩
    rw [List.length_map,List.take_length] at e3
    refine hN _ _ ⟨D1,_,rfl,s3,SqL.of e3,G,as8 (c:=-1) (by decide) (fun k=>?_) n⟩
    show ((aZ (ws.map fun v=>-v) k:Int):Rat) = -1 * ((aZ ws k:Int):Rat)
    rw [az,Rat.intCast_neg];grind
  ·exact hN _ _ ⟨a,ws,rfl,d5.refl _,hS,⟨hl,n14,by omega,bw,hb⟩,rfl⟩
 rintro σ H1 ⟨a,ws',rfl,S1,hS,D,eD⟩
 rw [←eD] at k
 clear hl ld0 bw eD
 obtain ⟨ws,rfl⟩:∃ ws,ws=ws':=⟨_,rfl⟩
 have hl:=D.len
 refine i8 (fun σ H2=>σ=[some (.ref a),none,none,none,none,none]∧H2=H1) (fun N hN=>?_) ?_
 ·simp! [bh4]
  refine ⟨ws,hS,fun z=>by rw [z] at hl;simp at hl,fun i hi=>v6 (fun h0=>?_) (fun _=>hN _ _ ⟨rfl,rfl⟩)⟩
  have e:aj7 (zr ws) n=false:=Bool.eq_false_iff.mpr fun d=>by
   obtain ⟨kk,hk,ek⟩:=List.getElem_of_mem hi
   have h2:aZ ws kk=i:=by unfold aZ;rw [List.getElem?_eq_getElem hk,ek];rfl
   have:=ba9 (p:=zr ws) (Rat.intCast_pos.mpr D.ld) d kk (by omega)
   have:=Rat.intCast_pos.mp this
   omega
  rw [e] at k
  exact k H1 S1
 rintro σ H2 ⟨rfl,rfl⟩
 refine i8 (fun σ H3=>∃ r f,σ=[some (.ref a),none,none,some (.ref r),some (.ref f),none]∧d5 H2 H3∧H3 r=some (.lst ((S9 ws (ws.length - 1) ((ws.length+1) / 2)).map V.int))∧H3 f=some (.lst ((S9 ws (ws.length - 2) (ws.length / 2)).map V.int))) (fun N hN=>?_) ?_
 ·subst_eqs
  refine ⟨_,hS,by decide,fun p hp=>?_⟩
  rw [bp2 (by omega)]
  have X1:=d5.new hp (.lst ((S9 ws (ws.length - 1) ((ws.length+1) / 2)).map V.int))
  refine ⟨_,X1.seq hS,by decide,fun p1 hp1=>?_⟩
  rw [bp1 (by omega)]
  have X2:=d5.new hp1 (.lst ((S9 ws (ws.length - 2) (ws.length / 2)).map V.int))
  exact hN _ _ ⟨p,p1,rfl,X1.trans X2,X2 _ _ b8,b8⟩
 rintro σ H3 ⟨r,f,rfl,S3,er,ef⟩
 refine i8 (fun σ H4=>σ=[some (.ref a),some (.int 1),some (.int 1),some (.ref r),some (.ref f),none]∧H4=H3) (fun N hN=>?_) ?_
 ·simp! [bh0]
  exact hN _ _ ⟨rfl,rfl⟩
 rintro σ H4 ⟨rfl,rfl⟩
 have S14:=S1.trans S3
 refine i8 (fun σ H5=>d5 H H5∧aj7 (zr ws) n=true) (fun N hN=>?_) ?_
 ·show ad7 _ _ _ _ _
  rcases Nat.eq_zero_or_pos n with n0 | n1
  ·have e0:ws.length / 2=0:=by omega
   rw [e0] at ef
   refine ap1 (fun σ H5=>σ=[some (.ref a),some (.int 1),some (.int 1),some (.ref r),some (.ref f),none]∧H5=H4) (fun _ _=>0) ⟨rfl,rfl⟩ ?_
   rintro σ H5 ⟨rfl,rfl⟩
   simp! [aI4]
   exact ⟨_,.inl ⟨_,SqL.of ef,rfl⟩,v6 (fun h=>by cases h) (fun _=>hN _ _ ⟨S14,by rw [n0];rfl⟩)⟩
  obtain ⟨t0,t1⟩:=D.start n1
  refine ap1 (fun σ H5=>∃ k r f R F dv ah o,σ=[some (.ref a),some (.int dv),some (.int ah),some (.ref r),some (.ref f),o]∧d5 H H5∧H5 r=some (.lst (R.map V.int))∧H5 f=some (.lst (F.map V.int))∧1≤k∧(k≤n+1∧∀ i,1≤i→i<k→0<tau (gA ws n) (gB ws n) i 0)∧Tg n ws W (k - 1) R∧Tg n ws W k F∧(((dv:Int):Rat)=dlt (gA ws n) (gB ws n) k∧dv.natAbs<2 ^ ((W+4) * (n+1)+1))∧((ah:Int):Rat)=(if k=1 then 1 else tau (gA ws n) (gB ws n) (k - 1) 0)∧ah.natAbs<2 ^ ((W+4) * (n+1)+1)) (fun σ H5=>Z4 3 σ H5+Z4 4 σ H5) ⟨1,r,f,_,_,1,1,none,rfl,S14,er,ef,Nat.le_refl _,⟨by omega,fun i h1 h2=>by omega⟩,t0,t1,⟨by unfold dlt;rw [if_pos (by decide)];rfl,?_⟩,by rw [if_pos rfl];rfl,?_⟩ ?_
  ·exact Nat.lt_of_lt_of_le (show 1<2 ^ 1 by decide) (i3 (by omega))
  ·exact Nat.lt_of_lt_of_le (show 1<2 ^ 1 by decide) (i3 (by omega))
  rintro σ H5 ⟨k',r,f,R,F,dv,ah,o,rfl,S5,er,ef,k1,⟨kn,lead⟩,tR,tF,⟨ed,bd⟩,ea,ba⟩
  simp! [aI4]
  refine ⟨_,.inl ⟨_,SqL.of ef,rfl⟩,v6 (fun hF=>WhB.mk ?_) (fun hF=>hN _ _ ⟨S5,D.yes fun i h1 h2=>lead i h1 ?_⟩)⟩
  rotate_left
  ·have lF:=tF.l
   have F0:F=[]:=by
    cases F with
    | nil=>rfl
    | cons x F=>exact absurd rfl hF
   rw [F0] at lF
   unfold Lk at lF
   split at lF
   ·simp at lF
   ·omega
  have Fn:F≠[]:=fun z=>by rw [z] at hF;simp at hF
  have Fp:=List.length_pos_iff.mpr Fn
  have lF:=tF.l
  have lR:=tR.l
  have kn':k'≤n:=by
   rcases Nat.lt_or_ge n k' with z | z
   ·rw [lF] at Fp
    unfold Lk at Fp
    rw [if_neg (by omega)] at Fp
    omega
   ·exact z
  have hf0:(F.map V.int)[0]? = some (.int (aZ F 0)):=by
   rw [List.getElem?_map,List.getElem?_eq_getElem Fp]
   unfold aZ
   rw [List.getElem?_eq_getElem Fp];rfl
  have d0:dv≠0:=fun z=>by
   have dn:dlt (gA ws n) (gB ws n) k'≠0:=by
    unfold dlt
    split
    ·decide
    ·exact Y6 (lead _ (by omega) (by omega))
   exact dn (by rw [←ed,z];rfl)
  subst_eqs
  refine ⟨_,SqL.of ef,_,C9 (j:=0) hf0,_,rfl,v6 (fun h=>?_) (fun hl0=>?_)⟩
  ·have e:aj7 (zr ws) n=false:=D.no k1 kn' fun z=>by
    rw [←tF.e 0] at z
    have:=Rat.intCast_pos.mp z
    omega
   rw [e] at k
   exact k H5 S5
  have lead':∀ i,1≤i→i≤k'→0<tau (gA ws n) (gB ws n) i 0:=fun i h1 h2=>by
   rcases Nat.eq_or_lt_of_le h2 with z | z
   ·rw [z,←tF.e 0];exact Rat.intCast_pos.mpr (by omega)
   ·exact lead i h1 z
  have lFR:F.length≤R.length:=by
   rw [lF,lR]
   unfold Lk
   rw [if_pos kn',if_pos (by omega)];omega
  have lR20:R.length≤20:=by
   rw [lR]
   unfold Lk
   split <;> omega
  have hb:=D.b
  refine ⟨r,f,R,F,dv,_,rfl,SqL.of er,SqL.of ef,Fn,lFR,lR20,d0,bd,tR.b,tF.b,by omega,fun r' T H6 S6 fr er' lT eT=>?_⟩
  have tT:=D.next n1 k1 kn' lead' d0 tR tF ed lT eT
  have e3:Z4 3 [some (V.ref a),some (V.int ah),some (V.int (aZ F 0)),some (V.ref f),some (V.ref r'),some (V.int (aZ F 0))] H6=F.length:=by
   rw [ah0 (k:=3) rfl (S6 _ _ ef),List.length_map]
  have e4:Z4 4 [some (V.ref a),some (V.int ah),some (V.int (aZ F 0)),some (V.ref f),some (V.ref r'),some (V.int (aZ F 0))] H6=T.length:=by
   rw [ah0 (k:=4) rfl er',List.length_map]
  have e5:Z4 3 [some (V.ref a),some (V.int dv),some (V.int ah),some (V.ref r),some (V.ref f),o] H5=R.length:=by
   rw [ah0 (k:=3) rfl er,List.length_map]
  have e6:Z4 4 [some (V.ref a),some (V.int dv),some (V.int ah),some (V.ref r),some (V.ref f),o] H5=F.length:=by
   rw [ah0 (k:=4) rfl ef,List.length_map]
  refine WhN.mk ⟨k'+1,f,r',F,T,ah,aZ F 0,_,rfl,S5.trans S6,S6 _ _ ef,er',by omega,by omega,fun i h1 h2=>lead' i h1 (by omega),by rw [Nat.add_sub_cancel];exact tF,tT,?_,ba,?_,at7 tF.b 0⟩ ?_
  ·rw [ea]
   unfold dlt
   rcases Nat.lt_or_ge k' 2 with z | z
   ·rw [if_pos (by omega),if_pos (by omega)]
   ·rw [if_neg (by omega),if_neg (by omega),show k'+1 - 2=k' - 1 by omega]
  ·rw [if_neg (by omega),Nat.add_sub_cancel];exact tF.e 0
  ·show Z4 3 _ _+Z4 4 _ _<Z4 3 _ _+Z4 4 _ _
   rw [e3,e4,e5,e6]
   omega
 rintro σ H5 ⟨S5,e5⟩
 subst_eqs
 rw [e5] at k
 exact k _ S5
def av7 (qs:List Rat):Bool:=if qs=[] then false else aj7 (aQ qs) (qs.length - 1)
def aV7 (K:PySem.W.Frag):Sp:=fun vs H Q _=>∃ (a:Addr) (xs:List V) (qs:List Rat) (W:Nat),vs=[.ref a]∧SqL K H a xs∧O3 K H xs qs∧V6 qs qs.length∧ClN W qs∧1≤W∧qs.length≤15∧(W+4) * qs.length≤8800∧W≤6000∧∀ H',d5 H H'→Q (.bl (av7 qs)) H'
abbrev ae4:Stmt:=top 40
theorem bd2:i9 ["p"] ["p"] (d3 ae4):=by and_intros
set_option maxHeartbeats 0 in
theorem be5 {f f1 f2:Addr} (d:Df K mg "dies" ae4 ["p"] f) (GD_lifted:Def P w K mg base CX0 3 "lifted" f1 ["p"] (aw4 K)) (G_whole_dies:Def P w K mg base CX0 2 "whole_dies" f2 ["wholes"] (aV4 K)) (n_bool:mg "bool" = none):Def P w K mg base CX0 4 "dies" f ["p"] (aV7 K):=by
 have G_lifted:=GD_lifted
 refine d.ok (N:=["p"]) bd2 (by rintro vs H Q E ⟨_,_,_,_,h,_⟩;rw [h];rfl) (fun cdv A outer s H vs Q E hr h=>?_)
 obtain ⟨a,xs,qs,W,rfl,hS,hN,tl,cl,w1,l15,hb,w6,k⟩:=h
 refine ⟨_,(d6 (h9 (ae6 (N1 aM3 rfl n_bool (by decide +kernel) (b6 (pv 0) b7)) (ae5 (d7 G_whole_dies hr (b6 (i6 j6 (d7 G_lifted hr (b6 (pv 0) b7) i0) b9 (fun _ _=>rfl)) b7) i0))))),?_⟩
 rw [show start ["p"] [.ref a]=[some (.ref a)] from rfl]
 simp! [aI4,aW9]
 have lx:=hN.length
 refine ⟨xs,hS,v6 (fun h0=>?_) (fun h0=>?_)⟩
 ·refine ⟨a,xs,qs,rfl,hS,hN,W,cl,w6,w1,by omega,tl,fun r rs l' s' ws H1 S1 fl er ers el bs s0 wb wl e g=>?_⟩
  have q0:qs≠[]:=fun z=>by
   cases xs with
   | nil=>cases h0
   | cons=>rw [z] at lx;simp at lx
  have ql:=List.length_pos_iff.mpr q0
  have eq:∀ k,aQ qs k=s' * zr ws k:=fun k=>by
   rw [e]
   unfold aQ zr aZ scl
   rw [List.getElem?_map]
   cases ws[k]? with
   | none=>show (0:Rat)=s' * ((0:Int):Rat);rw [show ((0:Int):Rat)=0 from rfl];grind
   | some v=>rfl
  have ld:aQ qs (qs.length - 1)≠0:=by
   have h1:qs[qs.length - 1]? = some (qs[qs.length - 1]'(by omega)):=List.getElem?_eq_getElem (by omega)
   unfold aQ
   rw [h1]
   exact tl.last (by omega) _ h1
  refine ⟨r,rfl,_,SqT.of er,_,rfl,l',ws,qs.length - 1,W,rfl,SqL.of el,by omega,by omega,fun z=>ld ?_,wb,by rw [show qs.length - 1+1=qs.length by omega];exact hb,fun H2 S2=>?_⟩
  ·rw [eq];unfold zr;rw [z,show ((0:Int):Rat)=0 from rfl];grind
  ·have:=k H2 (S1.trans S2)
   unfold av7 at this
   rw [if_neg q0,as8 s0 eq] at this
   exact this
 ·have q0:qs=[]:=by
   cases xs with
   | nil=>exact List.eq_nil_of_length_eq_zero lx.symm
   | cons=>exact absurd rfl h0
  have:=k H (d5.refl _)
  unfold av7 at this
  rw [if_pos q0] at this
  exact this
end
def WgN (J:Nat→L2.St→Hp→Prop) (m:Nat):L2.St→Hp→Prop:=fun σ' H'=>∃ m',m'<m∧J m' σ' H'
def WhG (tb:TS) (D:ab2) (J:Nat→L2.St→Hp→Prop) (m:Nat) (σ:L2.St) (H1:Hp):Prop:=
 ∃ N:L2.St→Hp→Prop,(∀ σ' H',N σ' H'→∃ m',m'<m∧J m' σ' H')∧tb { D with nx:=N,ct:=N,bk:=D.nx } σ H1
theorem WhG.mk {tb:TS} {D:ab2} {J:Nat→L2.St→Hp→Prop} {m:Nat} {σ:L2.St} {H1:Hp} (h:tb { D with nx:=WgN J m,ct:=WgN J m,bk:=D.nx } σ H1):WhG tb D J m σ H1:=⟨_,fun _ _ n=>n,h⟩
theorem WgN.mk {J:Nat→L2.St→Hp→Prop} {m m':Nat} {σ:L2.St} {H:Hp} (l:m'<m) (h:J m' σ H):WgN J m σ H:=⟨_,l,h⟩
theorem bc3 {c:TT} {tb:TS} {D:ab2} {σ:L2.St} {H:Hp} (J:Nat→L2.St→Hp→Prop) (m0:Nat) (h0:J m0 σ H)
  (hs:∀ m σ H,J m σ H→c σ H fun b H1=>if b=true then WhG tb D J m σ H1 else D.nx σ H1):ad7 c tb D σ H:=⟨J,⟨_,h0⟩,hs⟩
def E1 (B:List (Rat × Rat)):Bool:=(D9 B).all av7
structure BxW (Bt W:Nat) (B:List (Rat × Rat)):Prop where
 bx:R5 B
 ov:∀ s∈B,OvB Bt W s.1∧OvB Bt W s.2
 b0:0<Bt
 bw:Bt<2 ^ W
theorem bn1 {P:Rat→Prop} {s:Rat × Rat} (h:P s.1∧P s.2) (k:Nat):P (aL9 k s):=by
 unfold aL9
 split
 ·exact h.1
 ·exact h.2
theorem aI2 {P:Rat→Prop} {B:List (Rat × Rat)} (h:∀ s∈B,P s.1∧P s.2) {L:List Rat} (hL:L∈D9 B):∀ q∈L,P q:=fun q hq=>by
 obtain ⟨sd,_,rfl⟩:=List.mem_map.mp hL
 obtain ⟨i,hi⟩:=List.mem_iff_getElem?.mp hq
 have hl:=(List.getElem?_eq_some_iff.mp hi).1
 rw [W8] at hl
 have e:=ah4 (sd:=sd) (List.getElem?_eq_getElem hl)
 rw [hi] at e
 cases e
 exact bn1 (h _ (List.getElem_mem hl)) _
theorem aj8 {B:List (Rat × Rat)} {L:List Rat} (hL:L∈D9 B):L.length=B.length:=by
 obtain ⟨sd,_,rfl⟩:=List.mem_map.mp hL
 exact W8 B sd
theorem aI1 {B:List (Rat × Rat)} (hB:R5 B) {L:List Rat} (hL:L∈D9 B):∃ x,L[B.length - 1]? = some x∧0<x:=by
 obtain ⟨sd,_,rfl⟩:=List.mem_map.mp hL
 have l2:=hB.l2
 have hl:B.length - 1<B.length:=by omega
 have e:=List.getElem?_eq_getElem hl
 have p:=hB.last _ e
 have le:=hB.le _ (List.getElem_mem hl)
 refine ⟨_,ah4 e,?_⟩
 unfold aL9
 split
 ·exact p
 ·grind
theorem bg2 {B:List (Rat × Rat)} (hB:R5 B) {L:List Rat} (hL:L∈D9 B):V6 L L.length:=by
 obtain ⟨x,e,p⟩:=aI1 hB hL
 refine ap2 fun y hy=>?_
 rw [aj8 hL,e] at hy
 cases hy
 exact fun z=>by rw [z] at p;exact absurd p (by decide)
def pt (L:Rat) (k j:Nat):Rat:=L * Rat.divInt (j:Int) ((2 ^ k:Nat):Int)
def rm (B:List (Rat × Rat)) (hair L:Rat):Nat→Nat→Nat→Nat × Nat
 | 0,k,j=>(k,j)
 | f+1,k,j=>if hair<pt L k (j+1) - pt L k j then (if E1 (A6 (pt L (k+1) (2 * j+1)) B)=true then rm B hair L f (k+1) (2 * j+1) else rm B hair L f (k+1) (2 * j)) else (k,j)
theorem bd4 (B:List (Rat × Rat)) (hair L:Rat) (f k j:Nat):rm B hair L (f+1) k j=if hair<pt L k (j+1) - pt L k j then (if E1 (A6 (pt L (k+1) (2 * j+1)) B)=true then rm B hair L f (k+1) (2 * j+1) else rm B hair L f (k+1) (2 * j)) else (k,j):=rfl
theorem bd5 {B:List (Rat × Rat)} {hair L:Rat} {k j:Nat} (h : ¬ hair<pt L k (j+1) - pt L k j):∀ f,rm B hair L f k j=(k,j)
 | 0=>rfl
 | f+1=>by unfold rm;rw [if_neg h]
theorem dvp {j:Int} {m:Nat} (hm:0<m):Rat.divInt j (m:Int)=(j:Rat) * ((m:Int):Rat)⁻¹:=by rw [Rat.divInt_eq_div,Rat.div_def]
theorem bh5 (k:Nat):(((2 ^ k:Nat):Int):Rat)≠0:=fun z=>by
 have h:=(Rat.intCast_inj (a:=((2 ^ k:Nat):Int)) (b:=0)).mp z
 have:=Nat.two_pow_pos k
 omega
theorem aK3 (k:Nat):(0:Rat)<(((2 ^ k:Nat):Int):Rat):=Rat.intCast_pos.mpr (by have:=Nat.two_pow_pos k;omega)
theorem ao2 (L:Rat) (k:Nat):pt L k 0=0:=by unfold pt;rw [show ((0:Nat):Int)=0 from rfl,Rat.zero_divInt,Rat.mul_zero]
theorem aB4 (L:Rat) (k:Nat):pt L k (2 ^ k)=L:=by
 unfold pt
 rw [dvp (Nat.two_pow_pos k),Rat.mul_inv_cancel _ (bh5 k),Rat.mul_one]
theorem aB3 (L:Rat) (k j:Nat):pt L k (j+1) - pt L k j=L * (((2 ^ k:Nat):Int):Rat)⁻¹:=by
 unfold pt
 rw [dvp (Nat.two_pow_pos k),dvp (Nat.two_pow_pos k),show ((j+1:Nat):Int)=(j:Int)+1 by omega,Rat.intCast_add]
 generalize (((2 ^ k:Nat):Int):Rat)⁻¹=x
 rw [show ((1:Int):Rat)=1 from rfl];grind
theorem aB2 (L:Rat) (k j:Nat):pt L (k+1) (2 * j)=pt L k j:=by
 unfold pt
 congr 1
 rw [Rat.divInt_eq_divInt_iff (by have:=Nat.two_pow_pos (k+1);omega) (by have:=Nat.two_pow_pos k;omega),Nat.pow_succ,Int.natCast_mul,Int.natCast_mul]
 grind
theorem bj8 (L:Rat) (k j:Nat):(pt L k j+pt L k (j+1)) * (1 / 2)=pt L (k+1) (2 * j+1):=by
 have h1:=aB3 L (k+1) (2 * j)
 have h2:=aB3 L (k+1) (2 * j+1)
 rw [aB2] at h1
 have h3:=aB2 L k (j+1)
 rw [show 2 * (j+1)=2 * j+1+1 by omega] at h3
 rw [h3] at h2
 have h4:((1:Rat) / 2) * 2=1:=by decide +kernel
 generalize (1:Rat) / 2=y at h4 ⊢
 grind
theorem aX1 {L:Rat} (h:0<L) {k i j:Nat} (hij:i≤j):pt L k i≤pt L k j:=by
 unfold pt
 rw [dvp (Nat.two_pow_pos k),dvp (Nat.two_pow_pos k)]
 have hx:=Rat.inv_pos.mpr (aK3 k)
 have hy:=Rat.mul_pos h hx
 have hd:(0:Rat)≤((j:Int):Rat) - ((i:Int):Rat):=by
  have:((i:Int):Rat)≤((j:Int):Rat):=Rat.intCast_le_intCast.mpr (by omega)
  grind
 have:=Rat.mul_nonneg (Rat.le_of_lt hy) hd
 generalize (((2 ^ k:Nat):Int):Rat)⁻¹=x at *
 grind
theorem aX0 {L:Rat} (h:0<L) {k i j:Nat} (hij:i<j):pt L k i<pt L k j:=by
 have h1:=aX1 (L:=L) h (k:=k) (show i+1≤j by omega)
 have h2:=aB3 L k i
 have h3:=Rat.mul_pos h (Rat.inv_pos.mpr (aK3 k))
 grind
theorem aG2 {L:Rat} (h:OvB 100 50 L) {k j:Nat} (hj:j≤2 ^ k):OvB (100 * 2 ^ k) (50+k) (pt L k j):=by
 obtain ⟨t,e,b⟩:=h
 refine ⟨t * j,?_,?_⟩
 ·unfold pt
  rw [e,Rat.divInt_mul_divInt];rfl
 ·rw [Int.natAbs_mul,Int.natAbs_natCast,Nat.pow_add]
  exact Nat.lt_of_le_of_lt (Nat.mul_le_mul_left _ hj) (Nat.mul_lt_mul_of_pos_right b (Nat.two_pow_pos _))
theorem br0 {L hair:Rat} (h:OvB 100 50 L) {k j:Nat} (hh:1≤hair * 1000000) (hl:hair<pt L k (j+1) - pt L k j):k<64:=by
 obtain ⟨t,e,b⟩:=h
 refine Classical.byContradiction fun z=>?_
 rw [aB3,e,dvp (by decide)] at hl
 have hp:=aK3 k
 have h1:=Rat.mul_inv_cancel _ (bh5 k)
 have h100:(((100:Nat):Int):Rat)⁻¹ * 100=1:=by decide +kernel
 have h2:=Rat.mul_lt_mul_of_pos_right hl hp
 have b':(t:Rat)<(((2 ^ 50:Nat):Int):Rat):=Rat.intCast_lt_intCast.mpr (by omega)
 have k64:(((2 ^ 64:Nat):Int):Rat)≤(((2 ^ k:Nat):Int):Rat):=Rat.intCast_le_intCast.mpr (by
  have:2 ^ 64≤2 ^ k:=Nat.pow_le_pow_right (by decide) (by omega)
  exact_mod_cast this)
 generalize (((2 ^ k:Nat):Int):Rat)=x at *
 generalize (((100:Nat):Int):Rat)⁻¹=y at *
 generalize x⁻¹=xi at *
 have e1:(t:Rat) * y * xi * x=(t:Rat) * y:=by grind
 rw [e1] at h2
 have h3:hair * x * 100<(t:Rat):=by
  have:(t:Rat) * y * 100=t:=by grind
  grind
 have h4:=Rat.mul_le_mul_of_nonneg_right hh (Rat.le_of_lt hp)
 rw [show (((2 ^ 50:Nat):Int):Rat)=1125899906842624 by decide +kernel] at b'
 rw [show (((2 ^ 64:Nat):Int):Rat)=18446744073709551616 by decide +kernel] at k64
 grind
theorem aw0 {B:List (Rat × Rat)} {n:Rat} (hB:R5 B) (n0:0≤n) (hn:∀ s,B[B.length - 1]? = some s→n<s.1):R5 (A6 n B):=by
 refine ⟨by rw [O4];exact hB.l2,by rw [O4];exact hB.l8,fun s hs=>?_,fun s hs=>?_⟩
 ·obtain ⟨t,ht,rfl⟩:=List.mem_map.mp hs
  have:=hB.le t ht
  show t.1 - n≤t.2+n
  grind
 ·rw [O4] at hs
  unfold A6 at hs
  rw [List.getElem?_map] at hs
  cases e:B[B.length - 1]? with
  | none=>rw [e] at hs;cases hs
  | some t=>
   rw [e] at hs
   cases hs
   have:=hn t e
   show 0<t.1 - n
   grind
theorem az0 {B:List (Rat × Rat)} {n:Rat} {k:Nat} (hB:∀ s∈B,OvB 100 50 s.1∧OvB 100 50 s.2) (hn:OvB (100 * 2 ^ k) (50+k) n) (hk:k≤64):∀ s∈A6 n B,OvB (100 * 2 ^ k) 130 s.1∧OvB (100 * 2 ^ k) 130 s.2:=fun s hs=>by
 obtain ⟨t,ht,rfl⟩:=List.mem_map.mp hs
 have pb:0<100 * 2 ^ k:=Nat.mul_pos (by decide) (Nat.two_pow_pos _)
 have lk:2 ^ k<2 ^ (k+1):=by rw [Nat.pow_succ];have:=Nat.two_pow_pos k;omega
 have a1:=(hB t ht).1.up (by decide) (Nat.two_pow_pos k) lk
 have a2:=(hB t ht).2.up (by decide) (Nat.two_pow_pos k) lk
 have hn':=hn.mono (show 50+k≤50+(k+1) by omega)
 exact ⟨(OvB.sub pb a1 hn').mono (by omega),(OvB.add pb a2 hn').mono (by omega)⟩
theorem at4 {k:Nat} (hk:k≤64):100 * 2 ^ k<2 ^ 130:=by
 have:2 ^ k≤2 ^ 64:=Nat.pow_le_pow_right (by decide) hk
 have:100 * 2 ^ 64<2 ^ 130:=by decide
 omega
structure at8 (B:List (Rat × Rat)) (hair L:Rat) (k j:Nat):Prop where
 jk:j<2 ^ k
 k64:k≤64
 lo:E1 (A6 (pt L k j) B)=true
 hi:j+1=2 ^ k∨E1 (A6 (pt L k (j+1)) B)=false
theorem bc2 (B:List (Rat × Rat)):A6 0 B=B:=by
 unfold A6
 have:(fun s:Rat × Rat=>(s.1 - 0,s.2+0))=id:=by
  funext s
  show (s.1 - 0,s.2+0)=s
  rw [show s.1 - 0=s.1 by grind,show s.2+0=s.2 by grind]
 rw [this,List.map_id]
section
variable {P:Program} {w:World} {K:PySem.W.Frag} {mg:Str→Option Value} {base:Heap}
def bh3 (K:PySem.W.Frag):Sp:=fun vs H Q _=>∃ x y p q,vs=[x,y]∧Num K H x p∧Num K H y q∧BdN 2000 p∧BdN 2000 q∧at9 H Q ((p+q) * (1 / 2))
abbrev U3:Stmt:=top 31
theorem aQ5:i9 ["one","other"] ["one","other"] (d3 U3):=by and_intros
set_option maxHeartbeats 0 in
theorem aR4 {f f1 f2:Addr} (d:Df K mg "middle" U3 ["one","other"] f) (G_times:Def P w K mg base CX0 2 "times" f1 ["one","other"] (af9 K (· * ·))) (G_plus:Def P w K mg base CX0 2 "plus" f2 ["one","other"] (af9 K (· + ·))):Def P w K mg base CX0 3 "middle" f ["one","other"] (bh3 K):=by
 refine d.ok (N:=["one","other"]) aQ5 (by rintro vs H Q E ⟨_,_,_,_,h,_⟩;rw [h];rfl) (fun cdv A outer s H vs Q E hr h=>?_)
 obtain ⟨x,y,p,q,rfl,hx,hy,bp,bq,k⟩:=h
 refine ⟨_,(d6 (h9 (d7 G_times hr (b6 (d7 G_plus hr (b6 (pv 0) (b6 (pv 1) b7)) i0) (b6 (m6 (b6 b9 (b6 b9 b7))) b7)) i0))),?_⟩
 rw [show start ["one","other"] [x,y]=[some (x),some (y)] from rfl]
 subst_eqs
 refine ⟨_,_,p,q,rfl,hx,hy,bp.bd6 (by decide),bq.bd6 (by decide),fun r1 H1 s1 e1=>⟨v5,fun p2 hp2=>?_⟩⟩
 have S:=d5.new hp2 (.tup [.int 1,.int 2])
 have e2:upd H1 p2 (.tup [.int 1,.int 2]) p2=some (.tup (p9 (1 / 2))):=by rw [bh6];exact b8
 exact ⟨_,_,p+q,1 / 2,rfl,⟨r1,rfl,SqT.of (S _ _ e1)⟩,⟨p2,rfl,SqT.of e2⟩,(bp.add bq).bd6 (by decide),⟨by decide +kernel,by decide +kernel⟩,fun r3 H3 s3 e3=>k r3 H3 (s1.trans (S.trans s3)) e3⟩
def aF3 (K:PySem.W.Frag):Sp:=fun vs H Q _=>∃ b ys B Bt W,vs=[.ref b]∧H b=some (.lst ys)∧x8 H ys B∧BxW Bt W B∧1≤W∧W≤200∧∀ H',d5 H H'→Q (.bl (E1 B)) H'
abbrev O7:Stmt:=top 50
theorem aq2:i9 ["box","corner"] ["box"] (d3 O7):=by and_intros
set_option maxHeartbeats 0 in
theorem aK8 {f f1 f2:Addr} (d:Df K mg "all_die" O7 ["box"] f) (G_corners_of:Def P w K mg base CX0 1 "corners_of" f1 ["box"] (ak6 K)) (G_dies:Def P w K mg base CX0 4 "dies" f2 ["p"] (aV7 K)):Def P w K mg base CX0 5 "all_die" f ["box"] (aF3 K):=by
 refine d.ok (N:=["box","corner"]) aq2 (by rintro vs H Q E ⟨_,_,_,_,_,h,_⟩;rw [h];rfl) (fun cdv A outer s H vs Q E hr h=>?_)
 obtain ⟨b,ys,B,Bt,W,rfl,hb,sp,X,w1,w2,k⟩:=h
 refine ⟨_,(d4 (U5 PassesOwn.never rfl (K7 (d7 G_corners_of hr (b6 (pv 0) b7) i0)) (g8 (i:=1) aq2.nd rfl (Or.inl rfl)) (d6 (A5 (B6 (B0 (d7 G_dies hr (b6 (pv 1) b7) i0))) (d6 (h9 G0)) p8)))
   (d6 (h9 G0))),?_⟩
 rw [show start ["box","corner"] [.ref b]=[some (.ref b),none] from rfl]
 have l8:=X.bx.l8
 refine i8 (fun σ H1=>d5 H H1∧E1 B=true) (fun N hN=>?_) ?_
 ·refine ⟨_,rfl,b,ys,B,rfl,hb,sp,l8,fun r ts H1 s1 fr ft nd e1 R1=>⟨r,rfl,⟨_,SqL.of e1⟩,?_⟩⟩
  have lR:=R1.length
  obtain ⟨I,hI⟩:∃ I:Nat→L2.St→Hp→Prop,∀ i σ H2,I i σ H2↔∃ o,σ=[some (.ref b),o]∧d5 H1 H2∧∀ L∈(D9 B).take i,av7 L=true:=⟨_,fun _ _ _=>Iff.rfl⟩
  refine W6 (xs:=ts.map V.ref) I ((hI _ _ _).mpr ⟨_,rfl,d5.refl _,by simp⟩) (fun i σ H2 _ h=>?_) (fun i x σ H2 hx h=>?_) (fun σ H2 h=>?_)
  ·obtain ⟨_,_,s2,_⟩:=(hI _ _ _).mp h
   exact SqL.of (s2 _ _ e1)
  ·obtain ⟨o,rfl,s2,hd⟩:=(hI _ _ _).mp h
   rw [List.getElem?_map] at hx
   cases ht:ts[i]? with
   | none=>rw [ht] at hx;cases hx
   | some t=>
    rw [ht] at hx
    cases hx
    obtain ⟨xs,L,hL,et,nL⟩:=R1.get ht
    have mL:=List.mem_of_getElem? hL
    subst_eqs
    have lL:=aj8 mL
    refine ⟨t,xs,L,W,rfl,SqL.of (s2 _ _ et),(nL.mono s2.tups).toC,bg2 X.bx mL,aT3 X.b0 X.bw (aI2 X.ov mL),w1,by omega,Nat.le_trans (Nat.mul_le_mul (show W+4≤204 by omega) (show L.length≤8 by omega)) (by decide),by omega,fun H3 s3=>⟨_,rfl,v6 (fun hf=>?_) (fun hf=>?_)⟩⟩
    ·have e:E1 B=false:=by
      unfold E1
      rw [List.all_eq_false]
      exact ⟨L,mL,by rw [hf];decide⟩
     rw [e] at k
     exact k H3 (s1.trans (s2.trans s3))
    ·refine (hI _ _ _).mpr ⟨_,rfl,s2.trans s3,fun M hM=>?_⟩
     rw [v4 hL] at hM
     rcases List.mem_append.mp hM with z | z
     ·exact hd M z
     ·rw [List.mem_singleton.mp z];simpa using hf
  ·obtain ⟨o,rfl,s2,hd⟩:=(hI _ _ _).mp h
   rw [List.length_map,lR,List.take_length] at hd
   exact hN _ _ ⟨s1.trans s2,List.all_eq_true.mpr hd⟩
 rintro σ H1 ⟨S1,e1⟩
 subst_eqs
 rw [e1] at k
 exact k H1 S1
def aV6 (K:PySem.W.Frag) (C:Addr):Sp:=fun vs H Q E=>∃ v d x hair,vs=[v,x]∧HD H v d∧smD 6000 d∧Num K H x hair∧BdN 100 hair∧1≤hair * 1000000∧(∀ B,d=L5 B→R5 B→∀ s∈B,OvB 100 50 s.1∧OvB 100 50 s.2)∧(ac4 d=false→∀ H',d5 H H'→E (.ref C) none H')∧(∀ B sl,d=L5 B→R5 B→B[B.length - 1]? = some sl→(E1 B=false→∀ H',d5 H H'→Q .non H')∧(E1 B=true→∀ k j r lo hi H',rm B hair sl.1 70 0 0=(k,j)→at8 B hair sl.1 k j→¬ hair<pt sl.1 k (j+1) - pt sl.1 k j→d5 H H'→H' r=some (.tup [.ref lo,.ref hi])→SqT K H' lo (p9 (pt sl.1 k j))→SqT K H' hi (p9 (pt sl.1 k (j+1)))→Q (.ref r) H'))
abbrev O5:Stmt:=top 51
theorem U2:i9 ["box","hair","low","high","point"] ["box","hair"] (d3 O5):=by and_intros
set_option maxHeartbeats 0 in
theorem aK5 {f f1 f2 f3 f4 f5 f6 C aN:Addr} (d:Df K mg "room_of" O5 ["box","hair"] f) (G_check_box:Def P w K mg base (CXR P w) 5 "check_box" f1 ["thing"] (ap9 K C)) (G_all_die:Def P w K mg base CX0 5 "all_die" f2 ["box"] (aF3 K)) (G_is_below:Def P w K mg base CX0 1 "is_below" f3 ["one","other"] (Y0 K)) (G_less:Def P w K mg base CX0 3 "less" f4 ["one","other"] (af9 K (· - ·))) (G_middle:Def P w K mg base CX0 3 "middle" f5 ["one","other"] (bh3 K)) (G_grown:Def P w K mg base CX0 4 "grown" f6 ["box","number"] (aN5 K)) (c_NOUGHT:mg "NOUGHT" = some (.ref aN)) (tN:∀ H,SqT K H aN (p9 0)):Def P w K mg base (CXR P w) 6 "room_of" f ["box","hair"] (aV6 K C):=by
 refine d.okR (N:=["box","hair","low","high","point"]) U2 (by rintro vs H Q E ⟨_,_,_,_,h,_⟩;rw [h];rfl) (fun cdv A outer s H vs Q E hr h=>?_)
 obtain ⟨v,dd,x,hair,rfl,hd,hb,hx,bh,h6,hov,k2,k1⟩:=h
 refine ⟨_,(d4 (ao3 (d7 G_check_box hr (b6 (pv 0) b7) (aR0 fun _ _ h=>h)))
   (d4 (A5 (B6 (B0 (d7 G_all_die hr (b6 (pv 0) b7) i0))) (d6 (h9 ai8)) p8)
   (d4 (aa0 (i:=2) (j:=3) rfl U2.nd rfl rfl (by decide) rfl rfl (b6 (z9 (v:=.ref _) rfl c_NOUGHT rfl) (b6 (i6 j6 (i6 t4 (pv 0) (N5 E5 b9) (fun _ _=>rfl)) b9 (fun _ _=>rfl)) b7)) rfl)
   (d4 (PS.nox (Z9 PassesOwn.never (B0 (d7 G_is_below hr (b6 (pv 1) (b6 (d7 G_less hr (b6 (pv 3) (b6 (pv 2) b7)) i0) b7)) i0)) (d4 (j8 (i:=4) U2.nd rfl (Or.inl rfl) (d7 G_middle hr (b6 (pv 2) (b6 (pv 3) b7)) i0))
   (d6 (A5 (B0 (d7 G_all_die hr (b6 (d7 G_grown hr (b6 (pv 0) (b6 (pv 4) b7)) i0) b7) i0)) (d6 (j8 (i:=2) U2.nd rfl (Or.inl rfl) (pv 4))) (d6 (j8 (i:=3) U2.nd rfl (Or.inl rfl) (pv 4))))))))
   (d6 (h9 (m6 (b6 (pv 2) (b6 (pv 3) b7))))))))),?_⟩
 rw [show start ["box","hair","low","high","point"] [v,x]=[some (v),some (x),none,none,none] from rfl]
 refine i8 (fun σ H1=>σ=[some v,some x,none,none,none]∧d5 H H1∧ac4 dd=true) (fun N hN=>?_) ?_
 ·subst_eqs
  exact ⟨v,dd,rfl,hd.isD,hb,fun hB H1 s1=>hN _ _ ⟨rfl,s1,hB⟩,k2⟩
 rintro σ H1 ⟨rfl,S1,hB⟩
 obtain ⟨B,rfl,hBB⟩:=aP4 hB
 obtain ⟨b,ys,rfl,eb,sp⟩:=bm7 hd
 have ov:=hov B rfl hBB
 have l2:=hBB.l2
 have l8:=hBB.l8
 have ly:=sp.length
 have hlt:B.length - 1<B.length:=by omega
 have eB:=List.getElem?_eq_getElem hlt
 generalize B[B.length - 1]=sl at eB
 have oL:=(ov sl (List.mem_of_getElem? eB)).1
 have pL:=hBB.last sl eB
 obtain ⟨ka,kb⟩:=k1 B sl rfl hBB eB
 have yl:ys.length - 1<ys.length:=by omega
 have ey:=List.getElem?_eq_getElem yl
 generalize ys[ys.length - 1]=yv at ey
 obtain ⟨pl,la,lb,sl',rfl,eB',epl,ela,elb⟩:=sp.get ey
 rw [ly,eB] at eB'
 cases eB'
 refine i8 (fun σ H2=>σ=[some (.ref b),some x,none,none,none]∧d5 H H2∧E1 B=true) (fun N hN=>?_) ?_
 ·subst_eqs
  exact ⟨b,ys,B,100,50,rfl,S1 _ _ eb,sp.mono S1.tups,⟨hBB,ov,by decide,by decide⟩,by decide,by decide,fun H2 s2=>⟨_,rfl,v6 (fun hf=>ka hf H2 (S1.trans s2)) (fun hf=>hN _ _ ⟨rfl,S1.trans s2,by simpa using hf⟩)⟩⟩
 rintro σ H2 ⟨rfl,S2,hA⟩
 refine i8 (fun σ H3=>σ=[some (.ref b),some x,some (.ref aN),some (.ref la),none]∧H3=H2) (fun N hN=>?_) ?_
 ·subst_eqs
  exact ⟨ys,SqL.of (S2 _ _ eb),_,aa5 ey,pl,rfl,_,SqT.of (S2 _ _ epl),_,rfl,hN _ _ ⟨rfl,rfl⟩⟩
 rintro σ H3 ⟨rfl,rfl⟩
 have kb:=kb hA
 have bdp:∀ {k j:Nat},k≤64→j≤2 ^ k→BdN 130 (pt sl.1 k j):=fun {k j} hk hj=>((aG2 oL hj).mono (by omega)).bdN (Nat.mul_pos (by decide) (Nat.two_pow_pos _)) (at4 hk)
 refine i8 (fun σ H4=>∃ lo hi o k j,σ=[some (.ref b),some x,some (.ref lo),some (.ref hi),o]∧d5 H H4∧SqT K H4 lo (p9 (pt sl.1 k j))∧SqT K H4 hi (p9 (pt sl.1 k (j+1)))∧at8 B hair sl.1 k j∧rm B hair sl.1 70 0 0=(k,j)∧¬ hair<pt sl.1 k (j+1) - pt sl.1 k j) (fun N hN=>?_) ?_
 ·show ad7 _ _ _ _ _
  obtain ⟨J,hJ⟩:∃ J:Nat→L2.St→Hp→Prop,∀ m σ H4,J m σ H4↔∃ lo hi o k j,σ=[some (.ref b),some x,some (.ref lo),some (.ref hi),o]∧d5 H H4∧SqT K H4 lo (p9 (pt sl.1 k j))∧SqT K H4 hi (p9 (pt sl.1 k (j+1)))∧at8 B hair sl.1 k j∧rm B hair sl.1 (70 - k) k j=rm B hair sl.1 70 0 0∧m=70 - k:=⟨_,fun _ _ _=>Iff.rfl⟩
  refine bc3 J 70 ((hJ _ _ _).mpr ⟨aN,la,none,0,0,rfl,S2,by rw [ao2];exact tN _,?_,⟨by decide,by decide,by rw [ao2,bc2];exact hA,.inl rfl⟩,rfl,rfl⟩) ?_
  ·have:=aB4 sl.1 0
   rw [show 2 ^ 0=0+1 from rfl] at this
   rw [this]
   exact SqT.of (S2 _ _ ela)
  intro m σ H4 hm
  obtain ⟨lo,hi,o,k,j,rfl,S4,elo,ehi,RO,er,rfl⟩:=(hJ _ _ _).mp hm
  have jk:=RO.jk
  have k64:=RO.k64
  have bl:=bdp k64 (Nat.le_of_lt jk)
  have bhh:=bdp k64 (show j+1≤2 ^ k by omega)
  subst_eqs
  refine ⟨_,_,_,_,rfl,⟨hi,rfl,ehi⟩,⟨lo,rfl,elo⟩,bhh.bd6 (by decide),bl.bd6 (by decide),fun r5 H5 s5 e5=>?_⟩
  have S5:=S4.trans s5
  refine ⟨_,_,hair,_,rfl,hx.same S5,⟨r5,rfl,SqT.of e5⟩,bh.mono (by decide),(bhh.sub bl).mono (by decide),_,rfl,v6 (fun hl=>WhG.mk ?_) (fun hl=>?_)⟩
  ·rw [O0,decide_eq_true_eq] at hl
   have kk:=br0 oL h6 hl
   have e70:70 - k=(69 - k)+1:=by omega
   rw [e70,bd4,if_pos hl] at er
   have j1:2 * j+1≤2 ^ (k+1):=by rw [Nat.pow_succ];omega
   have p2:=Nat.pow_succ (n:=2) (m:=k)
   have npt:pt sl.1 (k+1) (2 * j+1)<sl.1:=by
    have:=aX0 pL (k:=k+1) (show 2 * j+1<2 ^ (k+1) by rw [Nat.pow_succ];omega)
    rwa [aB4] at this
   have n0:0≤pt sl.1 (k+1) (2 * j+1):=by
    have:=aX1 pL (k:=k+1) (Nat.zero_le (2 * j+1))
    rwa [ao2] at this
   have oP:=aG2 oL j1
   have bP:=bdp (show k+1≤64 by omega) j1
   have X:BxW (100 * 2 ^ (k+1)) 130 (A6 (pt sl.1 (k+1) (2 * j+1)) B):=⟨aw0 hBB n0 fun s hs=>by rw [eB] at hs;cases hs;exact npt,az0 ov oP (by omega),Nat.mul_pos (by decide) (Nat.two_pow_pos _),at4 (by omega)⟩
   subst_eqs
   refine ⟨_,_,_,_,rfl,⟨lo,rfl,s5.tup elo⟩,⟨hi,rfl,s5.tup ehi⟩,bl.mono (by decide),bhh.mono (by decide),fun r6 H6 s6 e6=>?_⟩
   rw [bj8] at e6
   have S6:=S5.trans s6
   have e2:=aB2 sl.1 k j
   have e3:=aB2 sl.1 k (j+1)
   rw [show 2 * (j+1)=2 * j+1+1 by omega] at e3
   refine ⟨b,ys,B,.ref r6,_,rfl,SqL.of (S6 _ _ eb),(sp.mono S6.tups).isDs,⟨r6,rfl,SqT.of e6⟩,fun s hs=>⟨((ov s hs).1.bdn (by decide)).mono (by decide),((ov s hs).2.bdn (by decide)).mono (by decide)⟩,bP.mono (by decide),l8,fun r7 ts H7 s7 f7 e7 sp7=>?_⟩
   refine ⟨r7,ts,_,_,130,rfl,e7,sp7,X,by decide,by decide,fun H8 s8=>⟨_,rfl,v6 (fun hd=>?_) (fun hd=>?_)⟩⟩
   ·rw [if_pos hd] at er
    refine WgN.mk (m':=70 - (k+1)) (by omega) ((hJ _ _ _).mpr ⟨r6,hi,_,k+1,2 * j+1,rfl,S6.trans (s7.trans s8),SqT.of (s8 _ _ (s7 _ _ e6)),?_,⟨by omega,by omega,hd,?_⟩,?_,rfl⟩)
    ·rw [e3];exact s8.tup (s7.tup (s6.tup (s5.tup ehi)))
    ·rw [e3]
     rcases RO.hi with z | z
     ·left;omega
     ·exact .inr z
    ·rw [←er,show 70 - (k+1)=69 - k by omega]
   ·rw [if_neg hd] at er
    refine WgN.mk (m':=70 - (k+1)) (by omega) ((hJ _ _ _).mpr ⟨lo,r6,_,k+1,2 * j,rfl,S6.trans (s7.trans s8),?_,SqT.of (s8 _ _ (s7 _ _ e6)),⟨by omega,by omega,?_,.inr (Bool.eq_false_iff.mpr hd)⟩,?_,rfl⟩)
    ·rw [e2];exact s8.tup (s7.tup (s6.tup (s5.tup elo)))
    ·rw [e2];exact RO.lo
    ·rw [←er,show 70 - (k+1)=69 - k by omega]
  ·rw [O0,decide_eq_true_eq] at hl
   rw [bd5 hl] at er
   exact hN _ _ ⟨lo,hi,o,k,j,rfl,S5,s5.tup elo,s5.tup ehi,RO,er.symm,hl⟩
 rintro σ H4 ⟨lo,hi,o,k,j,rfl,S4,elo,ehi,RO,er,hl⟩
 subst_eqs
 refine ⟨v5,fun p hp=>?_⟩
 have S:=d5.new hp (.tup [.ref lo,.ref hi])
 exact kb k j p lo hi _ er RO hl (S4.trans S) b8 (S.tup elo) (S.tup ehi)
end
section
variable {P:Program} {w:World} {K:PySem.W.Frag} {mg:Str→Option Value} {base:Heap}
def aN2 (K:PySem.W.Frag):Sp:=fun vs H Q _=>∃ (x y:V) (p q:Rat) (m n:Nat),vs=[x,y]∧Num K H x p∧Num K H y q∧BtN m p∧q≠0∧q.num.natAbs<2 ^ n∧q.den<2 ^ 20000∧m+n≤6000∧at9 H Q (p / q)
abbrev J2:Stmt:=top 59
theorem aA7:i9 ["_law_one","_law_other_here"] ["_law_one","_law_other_here"] (d3 J2):=by and_intros
theorem aC7 {f fl:Addr} (d:Df K mg "_law_over" J2 ["_law_one","_law_other_here"] f) (G__law_low:Def P w K mg base CX0 1 "_law_low" fl ["_law_top","_law_bottom"] ak5):Def P w K mg base CX0 2 "_law_over" f ["_law_one","_law_other_here"] (aN2 K):=by
 refine d.ok (N:=["_law_one","_law_other_here"]) aA7 (by rintro vs H Q E ⟨x,y,p,q,m,n,h,_⟩;rw [h];rfl) (fun cdv A outer s H vs Q E hr h=>?_)
 obtain ⟨x,y,p,q,m,n,rfl,⟨ap,rfl,hp⟩,⟨aq,rfl,hq⟩,bp,q0,bq,bd,hmn,k⟩:=h
 refine ⟨_,(d6 (h9 (d7 G__law_low hr (b6 (d9 t9 (i6 j6 (pv 0) b9 (fun _ _=>rfl)) (i6 j6 (pv 1) b9 (fun _ _=>rfl))) (b6 (d9 t9 (i6 j6 (pv 0) b9 (fun _ _=>rfl)) (i6 j6 (pv 1) b9 (fun _ _=>rfl))) b7)) i0))),?_⟩
 rw [show start ["_law_one","_law_other_here"] [.ref ap,.ref aq]=[some (.ref ap),some (.ref aq)] from rfl]
 have bd':(q.den:Int).natAbs<2 ^ 20000:=by rw [Int.natAbs_natCast];exact bd
 subst_eqs
 refine ⟨_,hp,_,at0 p,_,hq,_,at1 q,_,rfl,_,rfl,K1 bp.n bd' (by omega),_,hp,_,at1 p,_,hq,_,at0 q,_,rfl,_,rfl,K1 bp.d' bq (by omega),?_⟩
 refine ⟨_,_,rfl,Int.mul_ne_zero (Int.ne_of_gt (t7 p)) (fun z=>q0 (W3.mp z)),?_,?_⟩
 ·rw [Int.natAbs_mul]
  have:=Nat.mul_lt_mul'' bp.d' bq
  rw [←Nat.pow_add] at this
  exact Nat.lt_of_lt_of_le this (i3 hmn)
 ·rw [←aM0]
  exact k
end
def sgQ (q:Rat):Int:=if 0<q then 1 else if q<0 then -1 else 0
theorem bj1 (q:Rat):(if q.num > 0 then (1:Int) else 0) - (if q.num<0 then 1 else 0)=sgQ q:=by
 unfold sgQ
 have h1:(0<q)↔q.num > 0:=by
  rw [Rat.lt_iff]
  show (0:Int) * (q.den:Int)<q.num * ((1:Nat):Int)↔_
  rw [Int.zero_mul];simp
 have h2:(q<0)↔q.num<0:=by
  rw [Rat.lt_iff]
  show q.num * ((1:Nat):Int)<(0:Int) * (q.den:Int)↔_
  rw [Int.zero_mul];simp
 by_cases a:q.num > 0
 ·rw [if_pos a,if_neg (by omega),if_pos (h1.mpr a)];rfl
 ·rw [if_neg a,if_neg (fun z=>a (h1.mp z))]
  by_cases b:q.num<0
  ·rw [if_pos b,if_pos (h2.mpr b)];rfl
  ·rw [if_neg b,if_neg (fun z=>b (h2.mp z))];rfl
section
variable {P:Program} {w:World} {K:PySem.W.Frag} {mg:Str→Option Value} {base:Heap}
def bh2 (K:PySem.W.Frag):Sp:=fun vs H Q _=>∃ x q,vs=[x]∧Num K H x q∧Q (.int (sgQ q)) H
abbrev G8:Stmt:=top 60
theorem aA5:i9 ["_law_number_here"] ["_law_number_here"] (d3 G8):=by and_intros
set_option maxHeartbeats 0 in
theorem aC4 {f:Addr} (d:Df K mg "_law_sign" G8 ["_law_number_here"] f) (n_int:mg "int" = none):Def P w K mg base CX0 1 "_law_sign" f ["_law_number_here"] (bh2 K):=by
 refine d.ok (N:=["_law_number_here"]) aA5 (by rintro vs H Q E ⟨_,_,h,_⟩;rw [h];rfl) (fun cdv A outer s H vs Q E hr h=>?_)
 obtain ⟨x,q,rfl,⟨a,rfl,ha⟩,k⟩:=h
 refine ⟨_,(d6 (h9 (d9 M7 (N1 ak1 rfl n_int (by decide +kernel) (b6 (P5 ag5 (i6 j6 (pv 0) b9 (fun _ _=>rfl)) b9 (o0 _)) b7)) (N1 ak1 rfl n_int (by decide +kernel) (b6 (P5 ad1 (i6 j6 (pv 0) b9 (fun _ _=>rfl)) b9 (o0 _)) b7))))),?_⟩
 rw [show start ["_law_number_here"] [.ref a]=[some (.ref a)] from rfl]
 subst_eqs
 refine ⟨_,ha,_,at0 q,_,rfl,_,ha,_,at0 q,_,rfl,?_⟩
 rw [←bj1] at k
 exact k
end
theorem aQ8 {c:Rat} (hc:c≠0) (a b:Rat):c * a / (c * b)=a / b:=by
 rw [Rat.div_def,Rat.div_def]
 by_cases hb:b=0
 ·subst hb
  rw [Rat.mul_zero]
  show _ * (0:Rat)⁻¹=_ * (0:Rat)⁻¹
  rw [show (0:Rat)⁻¹=0 from by decide +kernel];grind
 ·have bi:=Rat.mul_inv_cancel _ hb
  have cb:c * b≠0:=fun z=>by rcases Rat.mul_eq_zero.mp z with y | y;exact hc y;exact hb y
  have cbi:=Rat.mul_inv_cancel _ cb
  generalize (c * b)⁻¹=x at cbi ⊢
  generalize b⁻¹=y at bi ⊢
  have:c * a * x=a * y * (c * b * x):=by grind
  rw [this,cbi];grind
theorem aH2 {c:Rat} (hc:c≠0) {A B A' B':Nat→Rat} (hA:∀ j,A' j=c * A j) (hB:∀ j,B' j=c * B j):∀ k,(∀ j,Lr A' B' k j=c * Lr A B k j)∧∀ j,Lr A' B' (k+1) j=c * Lr A B (k+1) j
 | 0=>⟨hA,hB⟩
 | k+1=>by
  obtain ⟨i1,i2⟩:=aH2 hc hA hB k
  refine ⟨i2,fun j=>?_⟩
  show Lr A' B' k (j+1) - Lr A' B' k 0 / Lr A' B' (k+1) 0 * Lr A' B' (k+1) (j+1)=c * (Lr A B k (j+1) - Lr A B k 0 / Lr A B (k+1) 0 * Lr A B (k+1) (j+1))
  rw [i1,i1,i2,i2,aQ8 hc];grind
theorem bk1 {A B:Nat→Rat} {k:Nat} (h:∀ i,1≤i→i<k+2→Lr A B i 0≠0):Pl A B (k+2)=tau A B (k+1) 0:=((ad6 (k+1) fun i h1 h2=>h i h1 (by omega)).1 0).symm
theorem bl5 {A B:Nat→Rat} {n W k:Nat} (hA:∀ j,∃ z:Int,A j=(z:Rat)∧z.natAbs<2 ^ W) (hB:∀ j,∃ z:Int,B j=(z:Rat)∧z.natAbs<2 ^ W) (hk:k≤n+1) (n14:n≤14) (lead:∀ i,1≤i→i<k→Lr A B i 0≠0) (j:Nat):∃ z1 z2:Int,z2≠0∧Lr A B k j=Rat.divInt z1 z2∧z1.natAbs≤2 ^ ((W+4) * (n+1))∧z2.natAbs≤2 ^ ((W+4) * (n+1)):=by
 obtain ⟨z1,e1,b1⟩:=af8 (m:=n+1) hA hB hk (by omega) (by omega) j
 have hp:=aN9 k lead
 have et:=(ad6 k lead).1 j
 have key:∃ z2:Int,Pl A B k=(z2:Rat)∧z2.natAbs≤2 ^ ((W+4) * (n+1)):=by
  match k,hk,lead with
  | 0,_,_=>exact ⟨1,rfl,Nat.one_le_two_pow⟩
  | 1,_,_=>exact ⟨1,rfl,Nat.one_le_two_pow⟩
  | k+2,hk,lead=>
   obtain ⟨z2,e2,b2⟩:=af8 (m:=n+1) hA hB (k:=k+1) (by omega) (by omega) (by omega) 0
   exact ⟨z2,by rw [bk1 lead];exact e2,b2⟩
 obtain ⟨z2,e2,b2⟩:=key
 have z0:z2≠0:=fun z=>hp (by rw [e2,z];rfl)
 refine ⟨z1,z2,z0,?_,b1,b2⟩
 rw [e1,e2] at et
 have z0':(z2:Rat)≠0:=by rw [←e2];exact hp
 rw [Rat.divInt_eq_div,Rat.div_def,et]
 have:=Rat.mul_inv_cancel _ z0'
 generalize ((z2:Rat))⁻¹=x at this ⊢
 grind
theorem bm3 {z1 z2 B:Int} (z0:z2≠0) (Bn:(B:Rat)≠0):(B:Rat)⁻¹ * Rat.divInt z1 z2=Rat.divInt z1 (z2 * B):=by
 rw [Rat.divInt_eq_div,Rat.divInt_eq_div,Rat.div_def,Rat.div_def,Rat.intCast_mul]
 have z0':(z2:Rat)≠0:=fun z=>z0 ((Rat.intCast_inj (a:=z2) (b:=0)).mp z)
 have nn:(z2:Rat) * (B:Rat)≠0:=fun z=>by rcases Rat.mul_eq_zero.mp z with y | y;exact z0' y;exact Bn y
 have h1:=Rat.mul_inv_cancel _ z0'
 have h2:=Rat.mul_inv_cancel _ Bn
 have h3:=Rat.mul_inv_cancel _ nn
 generalize ((z2:Rat))⁻¹=x at *
 generalize ((B:Rat))⁻¹=y at *
 generalize ((z2:Rat) * (B:Rat))⁻¹=t at *
 have:t=x * y:=by
  have:t=t * ((z2:Rat) * x) * ((B:Rat) * y):=by rw [h1,h2];grind
  grind
 rw [this];grind
theorem bp8 {qs:List Rat} {n W Bt k:Nat} (n14:n≤14) (ov:∀ q∈qs,OvB Bt W q) (b0:0<Bt) (bw:Bt<2 ^ W) (hk:k≤n+1) (lead:∀ i,1≤i→i<k→Lr (rwA (aQ qs) n) (rwB (aQ qs) n) i 0≠0) (j:Nat):BdN ((W+4) * (n+1)+W+1) (Lr (rwA (aQ qs) n) (rwB (aQ qs) n) k j):=by
 have ex:∀ m,∃ z:Int,aQ qs m=((Bt:Int):Rat)⁻¹ * (z:Rat)∧z.natAbs<2 ^ W:=fun m=>by
  obtain ⟨v,e,b⟩:=bn8 (P:=OvB Bt W) (OvB.zero _ _) ov m
  refine ⟨v,?_,b⟩
  rw [e,Rat.divInt_eq_div,Rat.div_def];grind
 have Bn:((Bt:Int):Rat)≠0:=fun z=>by
  have:=(Rat.intCast_inj (a:=(Bt:Int)) (b:=0)).mp z
  omega
 have hc:((Bt:Int):Rat)⁻¹≠0:=fun z=>by
  have:=Rat.mul_inv_cancel _ Bn
  rw [z] at this;grind
 let zz:Nat→Int:=fun m=>Classical.choose (ex m)
 have hz:∀ m,aQ qs m=((Bt:Int):Rat)⁻¹ * (zz m:Rat)∧(zz m).natAbs<2 ^ W:=fun m=>Classical.choose_spec (ex m)
 have hA:∀ j,rwA (aQ qs) n j=((Bt:Int):Rat)⁻¹ * rwA (fun m=>(zz m:Rat)) n j:=fun j=>by
  unfold rwA
  split
  ·exact (hz _).1
  ·grind
 have hB:∀ j,rwB (aQ qs) n j=((Bt:Int):Rat)⁻¹ * rwB (fun m=>(zz m:Rat)) n j:=fun j=>by
  unfold rwB
  split
  ·exact (hz _).1
  ·grind
 have sc:=fun k=>(aH2 hc hA hB k).1
 have iA:∀ j,∃ z:Int,rwA (fun m=>(zz m:Rat)) n j=(z:Rat)∧z.natAbs<2 ^ W:=fun j=>by
  unfold rwA
  split
  ·exact ⟨_,rfl,(hz _).2⟩
  ·exact ⟨0,rfl,Nat.two_pow_pos _⟩
 have iB:∀ j,∃ z:Int,rwB (fun m=>(zz m:Rat)) n j=(z:Rat)∧z.natAbs<2 ^ W:=fun j=>by
  unfold rwB
  split
  ·exact ⟨_,rfl,(hz _).2⟩
  ·exact ⟨0,rfl,Nat.two_pow_pos _⟩
 obtain ⟨z1,z2,z0,e,b1,b2⟩:=bl5 iA iB hk n14 (fun i h1 h2 z=>lead i h1 h2 (by rw [sc i,z];grind)) j
 have eq:Lr (rwA (aQ qs) n) (rwB (aQ qs) n) k j=Rat.divInt z1 (z2 * (Bt:Int)):=by
  rw [sc k,e];exact bm3 z0 Bn
 rw [eq]
 have nz:z2 * (Bt:Int)≠0:=Int.mul_ne_zero z0 (by omega)
 have d:=N2 (t:=z1) nz
 refine ⟨Nat.lt_of_le_of_lt (Nat.le_trans d.1 b1) (Nat.pow_lt_pow_right (by decide) (by omega)),Nat.lt_of_le_of_lt d.2 ?_⟩
 rw [Int.natAbs_mul,Int.natAbs_natCast,Nat.pow_succ,Nat.pow_add]
 have h1:z2.natAbs * Bt≤2 ^ ((W+4) * (n+1)) * 2 ^ W:=Nat.mul_le_mul b2 (Nat.le_of_lt bw)
 have h2:=Nat.mul_pos (Nat.two_pow_pos ((W+4) * (n+1))) (Nat.two_pow_pos W)
 omega
theorem ay0 {n:Nat} {A B:Nat→Rat} {t:Nat} (h:t<n):ac3 (n - t) (Lr A B t) (Lr A B (t+1))=(decide (0<Lr A B t 0 * Lr A B (t+1) 0) && ac3 (n - (t+1)) (Lr A B (t+1)) (Lr A B (t+2))):=by
 rw [show n - t=(n - (t+1))+1 by omega];rfl
end R
set_option maxRecDepth 100000
namespace L2
open PySem PySem.Spec PyProof.Rows
def bo5 (hi:Int) (n:Nat):It:=⟨fun i _=>i<n,fun i H x H'=>H'=H∧x = .int (hi - 2 * i),fun i _=>n≤i⟩
theorem aU4 {P:Program} {w:World} {K:PySem.W.Frag} {tg:Expr} (it:Addr) (lo:Int) (n:Nat):aM4 P w K tg (bo5 lo n) [it] it (fun i h=>IsRangeIter h it (lo+(i:Nat) * -2) ((n:Int) - (i:Nat)) (-2)) where
 mem:=by simp
 obj:=fun i h st b hb=>by
  have e:b=it:=by simpa using hb
  subst e
  exact ⟨_,st,fun v z=>by
   have z':Data.fields _=Data.cell v:=z
   cases z'⟩
 keep:=fun i h h' st k=>k it (by simp) _ st
 item:=by
  intro X hP hw hK hc i pins s σ H E I hf st hg
  subst hP hw hK
  obtain ⟨f0,f1,f2,f3,f4,f5⟩:=hf it (by simp)
  have W:=Walks.range (prog:=X.prog) (w:=X.w) (I.ok.hd hc) it lo (-2) n
  refine W.item i s _ _ hg st fun v h' tk hv st' kk=>?_
  obtain ⟨t,rfl⟩:=hv
  have I1:Inv X pins σ H { s with heap:=h',toks:=tk }:=I.turned (fun b o hb e=>kk b o (by simpa using hb) e) f0 f1 f3 f4 f5
  refine ⟨_,rfl,aO5 (s:={ s with heap:=h',toks:=tk }) (n:="range_iterator") st' rfl rfl (by decide) ⟨.int (lo - 2 * i),H,I1,⟨t,?_⟩,⟨rfl,rfl⟩,st',fun b hb=>(hf b hb).1⟩⟩
  rw [show lo+(i:Int) * -2=lo - 2 * i by omega]
 done:=by
  intro X hP hw hK hc i pins s σ H E I hf st hg
  subst hP hw hK
  obtain ⟨f0,f1,f2,f3,f4,f5⟩:=hf it (by simp)
  exact wpAny_pyNext_range_end (I.ok.hd hc) st (by have:n≤i:=hg;omega) fun h' eb=>⟨rfl,I.turned (t':=s.toks) (fun b o hb e=>eb b o hb e) f0 f1 f3 f4 f5⟩
 self:=fun _ _ _ _ _ st h=>wpAny_pyIter_rangeiter st h
theorem ad0 (a b:Int):Builtin.Range.rangeSize a b (-2)=(((a - b+1).toNat / 2:Nat):Int):=by
 unfold Builtin.Range.rangeSize
 simp only [show ¬ ((-2:Int) > 0) by decide,if_false,show (- -2:Int)=2 from rfl]
 split <;> omega
theorem aQ3 {a b:Int} (ha : -(2 ^ 62)≤a) (ha':a<2 ^ 60) (hb : -(2 ^ 62)≤b) (hb':b<2 ^ 60):Builtin.Range.small a b (-2)=true:=by
 unfold Builtin.Range.small
 rw [ad0]
 simp only [Builtin.Range.rangeFitsLong,Bool.and_eq_true,Bool.or_eq_true,decide_eq_true_eq,beq_iff_eq,show ¬ ((-2:Int) > 0) by decide,if_false]
 omega
section
variable {X:Cx} {tg:Expr}
def aZ7 (ta:TA):TI:=fun σ H R=>ta σ H fun vs H1=>∃ i j:Int,vs=[.int i,.int j,.int (-2)]∧(-(2 ^ 62)≤i∧i<2 ^ 60∧-(2 ^ 62)≤j∧j<2 ^ 60)∧R (bo5 i ((i - j+1).toNat / 2)) H1
theorem aw8 {a b c:Expr} {ta:TA} {p pos:Pos} (hg:Gl X "range") (hm:X.mg "range" = none) (ha:PA X [a,b,c] ta) (hs:starEach [a,b,c] X.env=[(false,eval a X.env),(false,eval b X.env),(false,eval c X.env)]:=by rfl) (hs2:starEach [b,c] X.env=[(false,eval b X.env),(false,eval c X.env)]:=by rfl) :
  PI X tg (.Call (.Name "range" p) [a,b,c] [] pos) (aZ7 ta):=by
 intro pins s σ H R I h
 refine Call_ (af2 I hg hm boot_range (PyProof.Rows.callWith_type1 (thn (ha pos pins s σ H _ I h) fun us s1 ⟨vs,H1,I1,r1,q1⟩=>?_) (by rw [hs,hs2]) (by rw [hs2];rfl)))
 obtain ⟨lo,hi,e,⟨q1,q2,q3,q4⟩,q⟩:=q1
 subst e
 cases r1 with
 | cons r rr=>
  cases rr with
  | cons r' rr=>
   cases rr with
   | cons r'' rr=>
    cases rr
    obtain ⟨t,rfl⟩:=r
    obtain ⟨u,rfl⟩:=r'
    obtain ⟨v,rfl⟩:=r''
    refine call_range_3 (by decide) ?_ (.inl (PyProof.noPylong_of_log2 (by decide +kernel)))
    refine wpAny_pyIter_range (IsRange.new ..) (aQ3 q1 q2 q3 q4) ?_
    have I2:Inv X pins σ H1 { s1 with heap:=s1.heap.push { cls:=.type "range",data:=.fields #[.int lo t,.int hi u,.int (-2) v] },toks:=s1.toks }:=I1.kept fun b o e=>Heap.get?_push_of_some _ e
    refine ⟨(s1.heap.push { cls:=.type "range",data:=.fields #[.int lo t,.int hi u,.int (-2) v] }).objs.size,[(s1.heap.push { cls:=.type "range",data:=.fields #[.int lo t,.int hi u,.int (-2) v] }).objs.size],_,_,H1,rfl,
     I2.kept (t':=s1.toks) fun b o e=>Heap.get?_push_of_some _ e,aU4 _ lo ((lo - hi+1).toNat / 2),?_,fun b hb=>?_,q⟩
    ·have e1:lo+((0:Nat):Int) * -2=lo:=by simp
     have e2:((((lo - hi+1).toNat / 2):Nat):Int) - ((0:Nat):Int)=Builtin.Range.rangeSize lo hi (-2):=by rw [ad0];omega
     show IsRangeIter _ _ (lo+((0:Nat):Int) * -2) (((((lo - hi+1).toNat / 2):Nat):Int) - ((0:Nat):Int)) (-2)
     rw [e1,e2]
     exact Heap.get?_push_size _ rfl
    ·have e:b=(s1.heap.push { cls:=.type "range",data:=.fields #[.int lo t,.int hi u,.int (-2) v] }).objs.size:=by simpa using hb
     subst e
     exact I2.fpOk (Nat.le_refl _) (I2.hok.fresh (Nat.le_refl _))
end
end L2
set_option maxRecDepth 100000
namespace R
open PySem L2 PyProof.Rows
theorem bb4 {D:Addr} {g:TG} {te:TE} {σ0:L2.St} {H0:Hp} {Q:VK} {lo:Int} {n:Nat} (Pv:Nat→L2.St→Hp→Prop) (h0:Pv 0 σ0 H0)
  (hs:∀ i σ H,i<n→Pv i σ H→g (.int (lo - 2 * i)) σ H fun σ4 H4=>te σ4 H4 fun y H5=>D5 D n Pv i σ4 y H5) (hd:∀ σ H,Pv n σ H→Q (.ref D) H):au1 (bo5 lo n) D σ0 H0 g te Q:=by
 refine ⟨fun i m σ H=>m=n - i∧i≤n∧Pv i σ H,⟨n,by simp,Nat.zero_le _,h0⟩,?_⟩
 rintro i m σ H ⟨rfl,hi,p⟩
 by_cases hlt:i<n
 ·refine .inr ⟨hlt,fun x H' y=>?_⟩
  obtain ⟨e,y⟩:=y
  subst e y
  exact hs i σ _ hlt p
 ·have e:i=n:=by omega
  subst e
  exact .inl ⟨Nat.le_refl _,hd σ H p⟩
def bnd (B:Mt) (k i j:Nat):Mt:=fun r c=>B (if r=k then i else r) (if c=k then j else c)
def mi (B:Mt) (k i j:Nat):Rat:=dt (k+1) (bnd B k i j)
inductive RwZ (H:Hp):List Addr→List (List Int)→Prop where
 | nil:RwZ H [] []
 | cons {p:Addr} {ps:List Addr} {L:List Int} {Ls:List (List Int)} (h:H p=some (.lst (L.map V.int))) (t:RwZ H ps Ls):RwZ H (p :: ps) (L :: Ls)
def zz (M:List (List Int)) (i j:Nat):Int:=aZ ((M[i]?).getD []) j
structure Eb (n:Nat) (A B:Mt) (at':Nat) (M:List (List Int)) (dv:Int):Prop where
 len:M.length=n
 row:∀ L∈M,L.length=n
 ent:∀ i j,at'≤i→i<n→at'≤j→j<n→((zz M i j:Int):Rat)=mi B at' i j
 zer:∀ i j,at'≤i→i<n→j<at'→zz M i j=0
 int:∀ r c,IsI (B r c)
 det:dt n B=dt n A
 led:∀ m,1≤m→m≤at'→dt m B≠0
 div:((dv:Int):Rat)=dt at' B
def Sc (W:Nat) (B:Mt):Prop:=∃ b:Nat→Int,∀ r,0<b r∧(b r).natAbs<2 ^ W∧∀ c,∃ z:Int,((b r:Int):Rat) * B r c=(z:Rat)∧z.natAbs<2 ^ W
theorem aR3 {x:Rat} {d m:Int} (e:x * ((d:Int):Rat)=((m:Int):Rat)) (hd:d≠0):x.num.natAbs≤m.natAbs∧x.den≤d.natAbs:=by
 have d0:((d:Int):Rat)≠0:=fun z=>hd (Rat.intCast_inj.mp z)
 have:x=Rat.divInt m d:=by
  rw [Rat.divInt_eq_div,←e,Rat.mul_div_cancel d0]
 rw [this]
 exact N2 hd
def qq (M:List (List Rat)) (i j:Nat):Rat:=aQ ((M[i]?).getD []) j
structure Ld (W n:Nat) (A B:Mt) (sg:Rat) (k:Nat) (M:List (List Rat)) (fd:Rat):Prop where
 len:M.length=n
 row:∀ L∈M,L.length=n
 ent:∀ i j,k≤i→i<n→k≤j→j<n→qq M i j * dt k B=mi B k i j
 zer:∀ i j,k≤i→i<n→j<k→qq M i j=0
 sc:Sc W B
 sgn:sg=1∨sg = -1
 det:dt n A=sg * dt n B
 led:∀ m,1≤m→m≤k→dt m B≠0
 fnd:fd=sg * dt k B
end R
set_option maxRecDepth 100000
namespace L2
open PySem PySem.Spec PyProof.Rows
end L2
namespace R
open PySem L2 PyProof.Rows
theorem BdN.inv {m:Nat} {q:Rat} (h0:q≠0) (h:BdN m q):BdN m q⁻¹:=by
 have hn:q.num≠0:=fun z=>h0 (Rat.num_eq_zero.mp z)
 have e:q⁻¹=Rat.divInt q.den q.num:=by rw [Rat.inv_def]
 have b:=aR3 (x:=q⁻¹) (d:=q.num) (m:=(q.den:Int)) (by
  rw [e,Rat.divInt_eq_div]
  exact Rat.div_mul_cancel fun y=>hn (Rat.intCast_inj.mp y)) hn
 exact ⟨Nat.lt_of_le_of_lt b.1 (by rw [Int.natAbs_natCast];exact h.d),Nat.lt_of_le_of_lt b.2 h.n⟩
theorem aW2 {a b:Rat} (ha:a≠0) (hb:b≠0):sgQ a=sgQ b↔0<a * b:=by
 unfold sgQ
 by_cases h1:0<a
 ·rw [if_pos h1]
  by_cases h2:0<b
  ·rw [if_pos h2];exact ⟨fun _=>Rat.mul_pos h1 h2,fun _=>rfl⟩
  ·rw [if_neg h2,if_pos (by grind)]
   refine ⟨fun z=>absurd z (by decide),fun z=>?_⟩
   have:=Rat.mul_pos h1 (show 0 < -b by grind)
   grind
 ·rw [if_neg h1,if_pos (by grind)]
  by_cases h2:0<b
  ·rw [if_pos h2]
   refine ⟨fun z=>absurd z (by decide),fun z=>?_⟩
   have:=Rat.mul_pos (show 0 < -a by grind) h2
   grind
  ·rw [if_neg h2,if_pos (by grind)]
   refine ⟨fun _=>?_,fun _=>rfl⟩
   have:=Rat.mul_pos (show 0 < -a by grind) (show 0 < -b by grind)
   grind
theorem aB5 {qs:List Rat} {F:Nat→Rat} {n:Nat} (l:qs.length=n) (h:∀ j,j<n→aQ qs j=F j) (z:∀ j,n≤j→F j=0) (j:Nat):aQ qs j=F j:=by
 rcases Nat.lt_or_ge j n with y | y
 ·exact h j y
 ·rw [z j y]
  unfold aQ
  rw [List.getElem?_eq_none (by omega)];rfl
theorem aZ2 {n k:Nat}:Lk n (k+2)=Lk n k - 1:=by
 unfold Lk
 split <;> split <;> omega
theorem aZ3 {n k:Nat} (h:k≤n):0<Lk n k:=by unfold Lk;rw [if_pos h];omega
theorem bh8 {n k:Nat}:Lk n (k+1)≤Lk n k:=by unfold Lk;split <;> split <;> omega
structure RwH (H:Hp) (l:Addr) (xs:List V) (qs:List Rat) (m:Nat) (F:Nat→Rat):Prop where
 e:H l=some (.lst xs)
 n:A1 H xs qs
 len:qs.length=m
 f:∀ j,aQ qs j=F j
theorem RwH.same {H H':Hp} {l:Addr} {xs:List V} {qs:List Rat} {m:Nat} {F:Nat→Rat} (h:RwH H l xs qs m F) (s:d5 H H'):RwH H' l xs qs m F:=⟨s _ _ h.e,h.n.mono s.tups,h.len,h.f⟩
theorem RwH.at0 {H:Hp} {l:Addr} {xs:List V} {qs:List Rat} {m:Nat} {F:Nat→Rat} (h:RwH H l xs qs m F) {j:Nat} (hj:j<m):∃ p,xs[j]? = some (.ref p)∧H p=some (.tup (p9 (F j))):=by
 have hl:j<qs.length:=by rw [h.len];exact hj
 have eq:qs[j]? = some (F j):=by
  rw [←h.f j]
  unfold aQ
  rw [List.getElem?_eq_getElem hl];rfl
 exact h.n.get eq
section
variable {P:Program} {w:World} {K:PySem.W.Frag} {mg:Str→Option Value} {base:Heap}
def aN4 (K:PySem.W.Frag):Sp:=fun vs H Q _=>∃ (a:Addr) (xs:List V) (qs:List Rat) (n Bt W:Nat),vs=[.ref a]∧SqL K H a xs∧A1 H xs qs∧qs.length=n+1∧n≤14∧aQ qs n≠0∧(∀ q∈qs,OvB Bt W q)∧0<Bt∧Bt<2 ^ W∧4 * ((W+4) * (n+1)+W+2)≤5900∧∀ H',d5 H H'→Q (.bl (av7 qs)) H'
abbrev B9:Stmt:=top 74
theorem C4:i9 ["_law_p","_law_first","_law_second","_law_turn","_law_often","_law_beside","_law_left"] ["_law_p"] (d3 B9):=by and_intros
set_option maxHeartbeats 0 in
theorem aD0 {f f1 f2 f3 f4:Addr} (d:Df K mg "_law_dies" B9 ["_law_p"] f) (G__law_sign:Def P w K mg base CX0 1 "_law_sign" f1 ["_law_number_here"] (bh2 K)) (G__law_over:Def P w K mg base CX0 2 "_law_over" f2 ["_law_one","_law_other_here"] (aN2 K)) (G__law_less:Def P w K mg base CX0 2 "_law_less" f3 ["_law_one","_law_other_here"] (R6 K (· - ·))) (G__law_times:Def P w K mg base CX0 2 "_law_times" f4 ["_law_one","_law_other_here"] (R6 K (· * ·))) (n_range:mg "range" = none) (n_len:mg "len" = none) (n_zip:mg "zip" = none):Def P w K mg base CX0 3 "_law_dies" f ["_law_p"] (aN4 K):=by
 refine d.ok (N:=["_law_p","_law_first","_law_second","_law_turn","_law_often","_law_beside","_law_left"]) C4 (by rintro vs H Q E ⟨_,_,_,_,_,_,h,_⟩;rw [h];rfl) (fun cdv A outer s H vs Q E hr h=>?_)
 obtain ⟨a,xs,qs,n,Bt,W,rfl,hS,hN,lq,n14,ld,ov,b0,bw,hX,k⟩:=h
 have hu:=hr.units
 refine ⟨_,(d4 (U4 (i₀:=1) C4.nd rfl (Or.inl rfl) (Nc:=["_law_p","_law_i"]) (caps:=[some 0,none]) rfl (X5.of (osc:=d3 B9) (N:=["_law_p","_law_first","_law_second","_law_turn","_law_often","_law_beside","_law_left"]) (ks:=["_law_p"]) rfl rfl rfl rfl (C0 rfl C3) (by decide +kernel)) (aw8 rfl n_range (b6 (d9 M7 (d8 m5 rfl n_len (by decide +kernel) (b6 (pv 0) b7)) b9) (b6 (N5 E5 b9) (b6 (N5 E5 b9) b7)))) (fun C s₂ H₂ fp pins=>(g8 (i:=1) (show List.Nodup (["_law_p","_law_i"]:List Str) by decide +kernel) rfl (Or.inl rfl) (Or.inr rfl))) (fun C s₂ H₂ fp pins=>(i6 (by exact t4:IxR _ (aW8 K)) (pv 0) (pv 1) (fun _ _=>rfl))))
   (d4 (U4 (i₀:=2) C4.nd rfl (Or.inl rfl) (Nc:=["_law_p","_law_i"]) (caps:=[some 0,none]) rfl (X5.of (osc:=d3 B9) (N:=["_law_p","_law_first","_law_second","_law_turn","_law_often","_law_beside","_law_left"]) (ks:=["_law_p"]) rfl rfl rfl rfl (C0 rfl C3) (by decide +kernel)) (aw8 rfl n_range (b6 (d9 M7 (d8 m5 rfl n_len (by decide +kernel) (b6 (pv 0) b7)) b9) (b6 (N5 E5 b9) (b6 (N5 E5 b9) b7)))) (fun C s₂ H₂ fp pins=>(g8 (i:=1) (show List.Nodup (["_law_p","_law_i"]:List Str) by decide +kernel) rfl (Or.inl rfl) (Or.inr rfl))) (fun C s₂ H₂ fp pins=>(i6 (by exact t4:IxR _ (aW8 K)) (pv 0) (pv 1) (fun _ _=>rfl))))
   (d4 (U5 PassesOwn.never rfl (ab7 rfl n_range (b6 (d9 M7 (d8 m5 rfl n_len (by decide +kernel) (b6 (pv 0) b7)) b9) b7)) (g8 (i:=3) C4.nd rfl (Or.inl rfl)) (d4 (A5 (PW.pt (G2 (p6 (aB9 hu) (pv 2) (v9 b7) (o0 _)) (G2 (p6 ak9 (i6 j6 (i6 t4 (pv 2) b9 (fun _ _=>rfl)) b9 (fun _ _=>rfl)) b9 (o0 _)) (M6 (p6 ak8 (d7 G__law_sign hr (b6 (i6 t4 (pv 1) b9 (fun _ _=>rfl)) b7) i0) (d7 G__law_sign hr (b6 (i6 t4 (pv 2) b9 (fun _ _=>rfl)) b7) i0) (o0 _)))))) (d6 (h9 G0)) p8)
   (d4 (j8 (i:=4) C4.nd rfl (Or.inr rfl) (d7 G__law_over hr (b6 (i6 t4 (pv 1) b9 (fun _ _=>rfl)) (b6 (i6 t4 (pv 2) b9 (fun _ _=>rfl)) b7)) i0))
   (d4 (j8 (i:=5) C4.nd rfl (Or.inl rfl) (d9 O8 (pv 2) (d9 aK4 (v9 (b6 (m6 (b6 b9 (b6 b9 b7))) b7)) (d9 M7 (d8 m5 rfl n_len (by decide +kernel) (b6 (pv 1) b7)) (d8 m5 rfl n_len (by decide +kernel) (b6 (pv 2) b7))))))
   (d4 (U4 (i₀:=6) C4.nd rfl (Or.inl rfl) (Nc:=["_law_often","_law_a","_law_b"]) (caps:=[some 4,none,none]) rfl (X5.of (osc:=d3 B9) (N:=["_law_p","_law_first","_law_second","_law_turn","_law_often","_law_beside","_law_left"]) (ks:=["_law_often"]) rfl rfl rfl rfl (C0 rfl C3) (by decide +kernel)) (aX6 rfl n_zip (b6 (L4 P2 (pv 1) (K5 b9) K6) (b6 (L4 P2 (pv 5) (K5 b9) K6) b7))) (fun C s₂ H₂ fp pins=>(show PG _ _ (R9 K 2 (v8 (v3 1) (v8 (v3 2) S8))) from by (refine C2 (n:=2) ?_ ?_ ?_ ?_;rfl;(refine j0 ?_ ?_ ?_;(exact (g8 (i:=1) (show List.Nodup (["_law_often","_law_a","_law_b"]:List Str) by decide +kernel) rfl (Or.inl rfl) (Or.inr rfl)));(refine j0 ?_ ?_ ?_;(exact (g8 (i:=2) (show List.Nodup (["_law_often","_law_a","_law_b"]:List Str) by decide +kernel) rfl (Or.inl rfl) (Or.inr rfl)));(exact A4);rfl);rfl);rfl;rfl))) (fun C s₂ H₂ fp pins=>(d7 G__law_less hr (b6 (pv 1) (b6 (d7 G__law_times hr (b6 (pv 0) (b6 (pv 2) b7)) i0) b7)) i0)))
   (d6 (aa0 (i:=1) (j:=2) rfl C4.nd rfl rfl (by decide) rfl rfl (b6 (pv 2) (b6 (pv 6) b7)) rfl)))))))
   (d6 (h9 G0))))),?_⟩
 rw [show start ["_law_p","_law_first","_law_second","_law_turn","_law_often","_law_beside","_law_left"] [.ref a]=[some (.ref a),none,none,none,none,none,none] from rfl]
 have lx:=hN.length
 have ed:av7 qs=ac3 n (rwA (aQ qs) n) (rwB (aQ qs) n):=by
  unfold av7
  rw [if_neg (fun z=>by rw [z] at lq;cases lq),lq,Nat.add_sub_cancel];rfl
 rw [ed] at k
 have gp:∀ m,m≤n→∃ p,xs[m]? = some (.ref p)∧H p=some (.tup (p9 (aQ qs m))):=fun m hm=>by
  have hl:m<qs.length:=by omega
  have eq:qs[m]? = some (aQ qs m):=by
   unfold aQ
   rw [List.getElem?_eq_getElem hl];rfl
  exact hN.get eq
 obtain ⟨X,hX'⟩:∃ X,X=(W+4) * (n+1)+W+1:=⟨_,rfl⟩
 have hX2:4 * X+4≤5900:=by omega
 have bits:∀ k,k≤n+1→(∀ i,i<k→Lr (rwA (aQ qs) n) (rwB (aQ qs) n) i 0≠0)→∀ j,BdN X (Lr (rwA (aQ qs) n) (rwB (aQ qs) n) k j):=fun k hk h j=>by
  rw [hX'];exact bp8 n14 ov b0 bw hk (fun i _ h2=>h i h2) j
 clear hX hX'
 have lsup:∀ j,Lk n 0≤j→rwA (aQ qs) n j=0:=fun j hj=>aG1 _ _ j (by unfold Lk at hj;rw [if_pos (by omega)] at hj;omega)
 have lsup1:∀ j,Lk n 1≤j→rwB (aQ qs) n j=0:=fun j hj=>aG0 _ _ j (by
  unfold Lk at hj
  split at hj <;> omega)
 refine i8 (fun σ H1=>∃ l1 xs1 qs1,σ=[some (.ref a),some (.ref l1),none,none,none,none,none]∧d5 H H1∧RwH H1 l1 xs1 qs1 (Lk n 0) (rwA (aQ qs) n)) (fun N hN=>?_) ?_
 ·simp! [aZ7]
  refine ⟨_,.inl hS,by omega,by omega,by omega,by omega,fun D hD=>?_⟩
  have cnt:(((xs.length:Int) - 1) - -1+1).toNat / 2=n / 2+1:=by omega
  rw [cnt]
  refine bb4 (fun j σ H2=>∃ o,σ=[some (.ref a),o]∧d5 H H2∧∃ ys rs,H2 D=some (.lst ys)∧A1 H2 ys rs∧rs.length=j∧∀ i,i<j→aQ rs i=rwA (aQ qs) n i) ⟨_,rfl,d5.new hD _,[],[],b8,.nil,rfl,fun i hi=>by omega⟩ ?_ ?_
  ·rintro j σ H2 hj ⟨o,rfl,s2,ys,rs,e2,n2,l2,f2⟩
   subst_eqs
   obtain ⟨m,hm⟩:∃ m:Nat,((xs.length:Int) - 1) - 2 * (j:Int)=(m:Int):=⟨(((xs.length:Int) - 1) - 2 * (j:Int)).toNat,by omega⟩
   have mn:m≤n:=by omega
   obtain ⟨p,ep,hp⟩:=gp m mn
   rw [hm]
   have hp2:=s2 _ _ (id hp)
   refine ⟨xs,s2.seq (hS),_,C9 ep,D5.mk hj e2 (C1 (by rw [n2.length,l2];omega)) ⟨_,rfl,s2.over hD _,ys++[.ref p],b8,rs++[aQ qs m],(n2.append (.cons hp2 .nil)).mono (L8.lst e2),by rw [List.length_append,l2];rfl,fun i hi=>?_⟩⟩
   rcases Nat.lt_or_ge i j with z | z
   ·rw [←f2 i z]
    unfold aQ
    rw [List.getElem?_append_left (by omega)]
   ·have:i=j:=by omega
    subst this
    show ((rs++[aQ qs m])[i]?).getD 0=_
    rw [List.getElem?_append_right (by omega),l2,Nat.sub_self]
    unfold rwA
    rw [if_pos (by omega)]
    show aQ qs m=_
    congr 1
    omega
  ·rintro σ H2 ⟨o,rfl,s2,ys,rs,e2,n2,l2,f2⟩
   have lk:Lk n 0=n / 2+1:=by unfold Lk;rw [if_pos (by omega)];omega
   exact hN _ _ ⟨D,ys,rs,rfl,s2,e2,n2,by omega,fun j=>aB5 (n:=Lk n 0) (by omega) (fun j hj=>f2 j (by omega)) lsup j⟩
 rintro σ H1 ⟨l1,xs1,qs1,rfl,S1,R1⟩
 refine i8 (fun σ H2=>∃ l2 xs2 qs2,σ=[some (.ref a),some (.ref l1),some (.ref l2),none,none,none,none]∧d5 H1 H2∧RwH H2 l2 xs2 qs2 (Lk n 1) (rwB (aQ qs) n)) (fun N hN=>?_) ?_
 ·simp! [aZ7]
  refine ⟨_,.inl (S1.seq hS),by omega,by omega,by omega,by omega,fun D hD=>?_⟩
  have cnt:(((xs.length:Int) - 2) - -1+1).toNat / 2=(n+1) / 2:=by omega
  rw [cnt]
  refine bb4 (fun j σ H2=>∃ o,σ=[some (.ref a),o]∧d5 H1 H2∧∃ ys rs,H2 D=some (.lst ys)∧A1 H2 ys rs∧rs.length=j∧∀ i,i<j→aQ rs i=rwB (aQ qs) n i) ⟨_,rfl,d5.new hD _,[],[],b8,.nil,rfl,fun i hi=>by omega⟩ ?_ ?_
  ·rintro j σ H2 hj ⟨o,rfl,s2,ys,rs,e2,n2,l2,f2⟩
   subst_eqs
   obtain ⟨m,hm⟩:∃ m:Nat,((xs.length:Int) - 2) - 2 * (j:Int)=(m:Int):=⟨(((xs.length:Int) - 2) - 2 * (j:Int)).toNat,by omega⟩
   have mn:m≤n:=by omega
   obtain ⟨p,ep,hp⟩:=gp m mn
   rw [hm]
   have hp2:=s2 _ _ (S1 _ _ hp)
   refine ⟨xs,s2.seq (S1.seq hS),_,C9 ep,D5.mk hj e2 (C1 (by rw [n2.length,l2];omega)) ⟨_,rfl,s2.over hD _,ys++[.ref p],b8,rs++[aQ qs m],(n2.append (.cons hp2 .nil)).mono (L8.lst e2),by rw [List.length_append,l2];rfl,fun i hi=>?_⟩⟩
   rcases Nat.lt_or_ge i j with z | z
   ·rw [←f2 i z]
    unfold aQ
    rw [List.getElem?_append_left (by omega)]
   ·have:i=j:=by omega
    subst this
    show ((rs++[aQ qs m])[i]?).getD 0=_
    rw [List.getElem?_append_right (by omega),l2,Nat.sub_self]
    unfold rwB
    rw [if_pos (by omega)]
    show aQ qs m=_
    congr 1
    omega
  ·rintro σ H2 ⟨o,rfl,s2,ys,rs,e2,n2,l2,f2⟩
   have lk:Lk n 1=(n+1) / 2:=by unfold Lk;split <;> omega
   exact hN _ _ ⟨D,ys,rs,rfl,s2,e2,n2,by omega,fun j=>aB5 (n:=Lk n 1) (by omega) (fun j hj=>f2 j (by omega)) lsup1 j⟩
 rintro σ H2 ⟨l2,xs2,qs2,rfl,S2,R2⟩
 have S02:=S1.trans S2
 have a0:rwA (aQ qs) n 0≠0:=by unfold rwA;rw [if_pos (by omega)];exact ld
 obtain ⟨A,hA⟩:∃ A,A=rwA (aQ qs) n:=⟨_,rfl⟩
 obtain ⟨B,hB⟩:∃ B,B=rwB (aQ qs) n:=⟨_,rfl⟩
 rw [←hA] at R1 bits k lsup a0
 rw [←hB] at R2 bits k lsup1
 have sup:∀ t,(∀ j,Lk n t≤j→Lr A B t j=0)∧∀ j,Lk n (t+1)≤j→Lr A B (t+1) j=0:=fun t=>by
  induction t with
  | zero=>exact ⟨lsup,lsup1⟩
  | succ t ih=>
   refine ⟨ih.2,fun j hj=>?_⟩
   show Lr A B t (j+1) - Lr A B t 0 / Lr A B (t+1) 0 * Lr A B (t+1) (j+1)=0
   rw [show t+1+1=t+2 from rfl,aZ2] at hj
   rw [ih.1 (j+1) (by omega),ih.2 (j+1) (Nat.le_trans bh8 (by omega))];grind
 obtain ⟨I,hI⟩:∃ I:Nat→L2.St→Hp→Prop,∀ t σ H3,I t σ H3↔∃ l1 xs1 qs1 l2 xs2 qs2 o3 o4 o5 o6,σ=[some (.ref a),some (.ref l1),some (.ref l2),o3,o4,o5,o6]∧d5 H H3∧RwH H3 l1 xs1 qs1 (Lk n t) (Lr A B t)∧RwH H3 l2 xs2 qs2 (Lk n (t+1)) (Lr A B (t+1))∧(∀ i,i≤t→Lr A B i 0≠0)∧ac3 n A B=ac3 (n - t) (Lr A B t) (Lr A B (t+1)):=⟨_,fun _ _ _=>Iff.rfl⟩
 refine i8 (fun σ H3=>∃ t,t=n∧I t σ H3) (fun N hN=>?_) ?_
 ·have cnt:((xs.length:Int) - 1).toNat=n:=by omega
  refine ⟨_,rfl,a,_,rfl,.inl (S02.seq hS),_,_,rfl,rfl,_,rfl,by omega,by omega,?_⟩
  rw [cnt]
  refine aj5 I ((hI _ _ _).mpr ⟨l1,xs1,qs1,l2,xs2,qs2,none,none,none,none,rfl,S02,R1.same S2,R2,fun i hi=>by rw [show i=0 by omega];exact a0,rfl⟩) ?_ (fun σ H3 h=>hN _ _ ⟨n,rfl,h⟩)
  intro t σ H3 ht h
  obtain ⟨l1,xs1,qs1,l2,xs2,qs2,o3,o4,o5,o6,rfl,S3,R1,R2,nz,e3⟩:=(hI _ _ _).mp h
  have p1:=aZ3 (show t≤n by omega)
  have p2:=aZ3 (show t+1≤n by omega)
  have ll:=bh8 (n:=n) (k:=t)
  have lk8:Lk n t≤8:=by unfold Lk;split <;> omega
  have nz1:=nz t (Nat.le_refl _)
  obtain ⟨pf,epf,hpf⟩:=R1.at0 p1
  obtain ⟨ps,eps,hps⟩:=R2.at0 p2
  have b1:=bits t (by omega) (fun i hi=>nz i (by omega)) 0
  simp only [v3,List.set_cons_zero,List.set_cons_succ]
  refine i8 (fun σ H4=>σ=[some (.ref a),some (.ref l1),some (.ref l2),some (.int (0+(t:Int))),o4,o5,o6]∧d5 H3 H4∧Lr A B (t+1) 0≠0∧0<Lr A B t 0 * Lr A B (t+1) 0) (fun N hN=>?_) ?_
  ·subst_eqs
   refine ⟨by decide,fun p hp=>?_⟩
   have S4:=d5.new hp (.lst [])
   refine ⟨N3 qs2,N3 [],rfl,Q9 (S4.seq (SqL.of R2.e)) (R2.n.mono S4.tups),Q9 (SqL.of b8) .nil,ag8 _ _,Nat.le_trans (ao8 _) (by decide),_,rfl,?_⟩
   have ne:eqD (N3 qs2) (N3 [])=false:=by
    have l2:=R2.len
    cases qs2 with
    | nil=>simp at l2;omega
    | cons x r=>simp [N3,eqD,K4]
   rw [ne]
   refine v6 (fun z=>by cases z) (fun _=>?_)
   have no:∀ H',d5 H H'→¬ 0<Lr A B t 0 * Lr A B (t+1) 0→Q (.bl false) H':=fun H' s' z=>by
    have:=k H' s'
    rw [e3,ay0 ht,decide_eq_false z] at this
    exact this
   refine ⟨_,SqL.of (S4 _ _ R2.e),_,C9 (j:=0) eps,ps,rfl,_,SqT.of (S4 _ _ hps),_,at0 _,rfl,v6 (fun z=>no _ (S3.trans S4) ?_) (fun z0=>?_)⟩
   ·have:Lr A B (t+1) 0=0:=W3.mp (V.int.inj z)
    rw [this];grind
   have nz2:Lr A B (t+1) 0≠0:=fun y=>z0 (by rw [W3.mpr y])
   refine ⟨_,SqL.of (S4 _ _ R1.e),_,C9 (j:=0) epf,_,_,rfl,⟨pf,rfl,SqT.of (S4 _ _ hpf)⟩,_,SqL.of (S4 _ _ R2.e),_,C9 (j:=0) eps,_,_,rfl,⟨ps,rfl,SqT.of (S4 _ _ hps)⟩,rfl,v6 (fun z=>no _ (S3.trans S4) fun y=>z ?_) (fun z=>hN _ _ ⟨rfl,S4,nz2,?_⟩)⟩
   ·rw [(aW2 nz1 nz2).mpr y]
   ·have z:=Classical.byContradiction fun y=>z y
    exact (aW2 nz1 nz2).mp (V.int.inj z)
  rintro σ H4 ⟨rfl,S4,nz2,pos⟩
  have b2:∀ j,BdN X (Lr A B (t+1) j):=bits (t+1) (by omega) (fun i hi=>nz i (by omega))
  have bj:∀ j,BdN X (Lr A B t j):=bits t (by omega) (fun i hi=>nz i (by omega))
  obtain ⟨og,hog⟩:∃ og,og=Lr A B t 0 / Lr A B (t+1) 0:=⟨_,rfl⟩
  have bog:BdN (2 * X) og:=by
   rw [hog,Rat.div_def]
   exact (b1.mul ((b2 0).inv nz2)).mono (by omega)
  refine i8 (fun σ H5=>∃ ao,σ=[some (.ref a),some (.ref l1),some (.ref l2),some (.int (0+(t:Int))),some (.ref ao),o5,o6]∧d5 H3 H5∧H5 ao=some (.tup (p9 og))) (fun N hN=>?_) ?_
  ·subst_eqs
   refine ⟨_,SqL.of (S4 _ _ R1.e),_,C9 (j:=0) epf,_,SqL.of (S4 _ _ R2.e),_,C9 (j:=0) eps,?_⟩
   refine ⟨_,_,_,_,X,X,rfl,⟨pf,rfl,SqT.of (S4 _ _ hpf)⟩,⟨ps,rfl,SqT.of (S4 _ _ hps)⟩,b1.t (by omega),nz2,(b2 0).n,Nat.lt_of_lt_of_le (b2 0).d (i3 (by omega)),by omega,fun r H5 s5 e5=>hN _ _ ⟨r,rfl,S4.trans s5,by rw [hog];exact e5⟩⟩
  rintro σ H5 ⟨ao,rfl,S5,eo⟩
  refine i8 (fun σ H6=>∃ be ys bs,σ=[some (.ref a),some (.ref l1),some (.ref l2),some (.int (0+(t:Int))),some (.ref ao),some (.ref be),o6]∧d5 H3 H6∧H6 ao=some (.tup (p9 og))∧RwH H6 be ys bs (Lk n t) (Lr A B (t+1))) (fun N hN=>?_) ?_
  ·subst_eqs
   have lx1:=R1.n.length
   have lx2:=R2.n.length
   have l1':=R1.len
   have l2':=R2.len
   refine ⟨v5,fun p0 h0=>⟨ai4,fun p1 h1=>?_⟩⟩
   have X0:=d5.new h0 (.tup [.int 0,.int 1])
   have X1:=d5.new h1 (.lst [.ref p0])
   have X01:=X0.trans X1
   have S6:=S5.trans X01
   have cn:((xs1.length:Int) - (xs2.length:Int)).toNat=Lk n t - Lk n (t+1):=by omega
   refine ⟨_,.inl (SqL.of (S6 _ _ R1.e)),_,.inl (SqL.of (S6 _ _ R2.e)),_,b8,by omega,by omega,?_,fun p2 h2=>?_⟩
   ·rw [cn];exact Nat.le_trans (show _≤100 by simp;omega) (by decide)
   rw [cn,List.flatten_replicate_singleton]
   have X2:=d5.new h2 (.lst (List.replicate (Lk n t - Lk n (t+1)) (V.ref p0)))
   refine ⟨_,X2 _ _ (S6 _ _ R2.e),_,b8,Nat.le_of_lt (C1 (by rw [List.length_replicate];omega)),fun p3 h3=>?_⟩
   have X3:=d5.new h3 (.lst (xs2++List.replicate (Lk n t - Lk n (t+1)) (V.ref p0)))
   have XA:=X1.trans (X2.trans X3)
   have S7:=S5.trans (X0.trans XA)
   have e0:=XA _ _ (show upd H5 p0 (.tup [.int 0,.int 1]) p0=some (.tup (p9 0)) from b8)
   refine hN _ _ ⟨p3,_,qs2++List.replicate (Lk n t - Lk n (t+1)) 0,rfl,S7,(X0.trans XA) _ _ eo,b8,(R2.n.mono S7.tups).append (A1.rep e0 _),by rw [List.length_append,List.length_replicate];omega,fun j=>?_⟩
   rw [←R2.f j]
   unfold aQ
   rcases Nat.lt_or_ge j qs2.length with y | y
   ·rw [List.getElem?_append_left y]
   ·rw [List.getElem?_append_right y,List.getElem?_eq_none y]
    rcases Nat.lt_or_ge (j - qs2.length) (Lk n t - Lk n (t+1)) with x | x
    ·rw [List.getElem?_replicate,if_pos x];rfl
    ·rw [List.getElem?_replicate,if_neg (by omega)]
  rintro σ H6 ⟨be,ys,bs,rfl,S6,eo6,R3⟩
  have R1':=R1.same S6
  have R2':=R2.same S6
  refine i8 (fun σ H7=>∃ le zs rs,σ=[some (.ref a),some (.ref l1),some (.ref l2),some (.int (0+(t:Int))),some (.ref ao),some (.ref be),some (.ref le)]∧d5 H3 H7∧RwH H7 le zs rs (Lk n (t+2)) (Lr A B (t+2))) (fun N hN=>?_) ?_
  ·subst_eqs
   simp only [aD9]
   have lx1:=R1'.n.length
   have lx3:=R3.n.length
   have l1':=R1'.len
   have l3':=R3.len
   refine ⟨_,SqL.of R1'.e,fun p0 h0=>?_⟩
   have X0:=d5.new h0 (.lst (xs1.drop 1))
   refine ⟨_,SqL.of (X0 _ _ R3.e),fun p1 h1=>?_⟩
   have X1:=d5.new h1 (.lst (ys.drop 1))
   have g0:=X1 _ _ (show upd H6 p0 (.lst (xs1.drop 1)) p0=_ from b8)
   have g1:upd (upd H6 p0 (.lst (xs1.drop 1))) p1 (.lst (ys.drop 1)) p1=some (.lst (ys.drop 1)):=b8
   have X01:=X0.trans X1
   generalize upd (upd H6 p0 (.lst (xs1.drop 1))) p1 (.lst (ys.drop 1))=HA at g0 g1 X01 ⊢
   refine ⟨⟨_,SqL.of g0⟩,⟨_,SqL.of g1⟩,fun D hD=>?_⟩
   have eoA:=X01 _ _ eo6
   refine bb2 (xs1.drop 1) (ys.drop 1) (fun j σ H8=>∃ o1 o2,σ=[some (.ref ao),o1,o2]∧d5 HA H8∧∃ zs,H8 D=some (.lst zs)∧∃ rs,A1 H8 zs rs∧rs.length=j∧∀ i,i<j→aQ rs i=Lr A B (t+2) i) ⟨_,_,rfl,d5.new hD _,[],b8,[],.nil,rfl,fun i hi=>by omega⟩ (by rintro j σ H8 ⟨_,_,_,s8,_⟩;exact ⟨SqL.of (s8 _ _ g0),SqL.of (s8 _ _ g1)⟩) ?_ ?_
   ·rintro j x y σ H8 pt hx hy ⟨o1,o2,rfl,s8,zs,e8,rs,n8,l8,f8⟩ hpt
    have hj:=(List.getElem?_eq_some_iff.mp hx).1
    have hj':=(List.getElem?_eq_some_iff.mp hy).1
    rw [List.length_drop] at hj hj'
    rw [List.getElem?_drop,Nat.add_comm] at hx hy
    obtain ⟨px,ex,hpx⟩:=R1'.at0 (j:=j+1) (by omega)
    obtain ⟨py,ey,hpy⟩:=R3.at0 (j:=j+1) (by omega)
    rw [hx] at ex
    rw [hy] at ey
    cases ex
    cases ey
    have st:=d5.new hpt (.tup [.ref px,.ref py])
    have SA:=X01.trans (s8.trans st)
    subst_eqs
    refine ⟨_,SqT.of b8,rfl,_,_,rfl,_,_,rfl,rfl,?_⟩
    have bb:=b2 (j+1)
    have bo:=bog.mul bb
    refine ⟨_,_,og,_,2 * X,X,rfl,⟨ao,rfl,SqT.of (SA _ _ eo6)⟩,⟨py,rfl,SqT.of (SA _ _ hpy)⟩,bog.t (by omega),bb.t (by omega),by omega,fun r1 H9 s9 e9=>?_⟩
    refine ⟨_,_,_,_,X,2 * X+X,rfl,⟨px,rfl,SqT.of (s9 _ _ (SA _ _ hpx))⟩,⟨r1,rfl,SqT.of e9⟩,(bj (j+1)).t (by omega),bo.t (by omega),by omega,fun r2 H10 s10 e10=>?_⟩
    have ST:=st.trans (s9.trans s10)
    have e8':=ST _ _ e8
    refine D5.mk (by rw [List.length_drop,List.length_drop];omega) e8' (C1 (by rw [n8.length,l8];omega)) ⟨_,_,rfl,(s8.trans ST).over hD _,zs++[.ref r2],b8,rs++[Lr A B (t+2) j],((n8.mono ST.tups).append (.cons ?_ .nil)).mono (L8.lst e8'),by rw [List.length_append,l8];rfl,fun i hi=>?_⟩
    ·rw [e10,hog];rfl
    ·rcases Nat.lt_or_ge i j with z | z
     ·rw [←f8 i z]
      unfold aQ
      rw [List.getElem?_append_left (by omega)]
     ·have:i=j:=by omega
      subst this
      show ((rs++[Lr A B (t+2) i])[i]?).getD 0=_
      rw [List.getElem?_append_right (by omega),l8,Nat.sub_self];rfl
   ·rintro σ H8 ⟨o1,o2,rfl,s8,zs,e8,rs,n8,l8,f8⟩
    rw [List.length_drop,List.length_drop] at l8 f8
    have lk2:=aZ2 (n:=n) (k:=t)
    exact hN _ _ ⟨D,zs,rs,rfl,S6.trans (X01.trans s8),e8,n8,by omega,fun j=>aB5 (n:=Lk n (t+2)) (by omega) (fun j hj=>f8 j (by omega)) (sup (t+1)).2 j⟩
  rintro σ H7 ⟨le,zs,rs,rfl,S7,R4⟩
  subst_eqs
  refine (hI _ _ _).mpr ⟨l2,xs2,qs2,le,zs,rs,_,_,_,_,rfl,S3.trans S7,R2.same S7,R4,fun i hi=>?_,?_⟩
  ·rcases Nat.lt_or_ge i (t+1) with z | z
   ·exact nz i (by omega)
   ·rw [show i=t+1 by omega];exact nz2
  ·rw [e3,ay0 ht,decide_eq_true pos,Bool.true_and]
 rintro σ H3 ⟨t,rfl,h⟩
 obtain ⟨l1,xs1,qs1,l2,xs2,qs2,o3,o4,o5,o6,rfl,S3,_,_,_,e3⟩:=(hI _ _ _).mp h
 subst_eqs
 rw [e3,Nat.sub_self] at k
 exact k H3 S3
end
section
variable {P:Program} {w:World} {K:PySem.W.Frag} {mg:Str→Option Value} {base:Heap}
def aw5 (K:PySem.W.Frag):Sp:=fun vs H Q _=>∃ b ys B Bt W,vs=[.ref b]∧H b=some (.lst ys)∧x8 H ys B∧BxW Bt W B∧1≤W∧W≤130∧∀ H',d5 H H'→Q (.bl (E1 B)) H'
abbrev B3:Stmt:=top 75
theorem al8:i9 ["_law_box"] ["_law_box"] (d3 B3):=by and_intros
set_option maxHeartbeats 0 in
theorem am2 {f f1 f2:Addr} (d:Df K mg "_law_all_die" B3 ["_law_box"] f) (G__law_corners:Def P w K mg base CX0 1 "_law_corners" f1 ["_law_box"] (ap8 K)) (G__law_dies:Def P w K mg base CX0 3 "_law_dies" f2 ["_law_p"] (aN4 K)) (n_all:mg "all" = none):Def P w K mg base CX0 4 "_law_all_die" f ["_law_box"] (aw5 K):=by
 refine d.ok (N:=["_law_box"]) al8 (by rintro vs H Q E ⟨_,_,_,_,_,h,_⟩;rw [h];rfl) (fun cdv A outer s H vs Q E hr h=>?_)
 obtain ⟨b,ys,B,Bt,W,rfl,hb,sp,X,w1,w2,k⟩:=h
 refine ⟨_,(d6 (h9 (d8 (ah7 rfl) rfl n_all (by decide +kernel) (b6 (N6 (Nc:=["_law_p"]) (caps:=[none]) rfl (X5.of (osc:=d3 B3) (N:=["_law_box"]) (ks:=[]) rfl rfl rfl rfl C3 (by decide +kernel)) (K7 (d7 G__law_corners hr (b6 (pv 0) b7) i0)) (fun C s₂ H₂ fp pins=>(g8 (i:=0) (show List.Nodup (["_law_p"]:List Str) by decide +kernel) rfl (Or.inl rfl) (Or.inr rfl))) (fun C s₂ H₂ fp pins=>(d7 G__law_dies hr (b6 (pv 0) b7) i0))) b7)))),?_⟩
 rw [show start ["_law_box"] [.ref b]=[some (.ref b)] from rfl]
 have l8:=X.bx.l8
 have l2:=X.bx.l2
 subst_eqs
 refine ⟨b,ys,B,rfl,hb,sp,l8,fun r ts H1 s1 fr ft nd e1 R1=>⟨r,rfl,⟨_,SqL.of e1⟩,fun D hD=>?_⟩⟩
 have lR:=R1.length
 refine Z1 (ts.map V.ref) (fun j σ H2=>∃ o,σ=[o]∧d5 H1 H2∧H2 D=some (.lst ((((D9 B).take j).map av7).map V.bl))) ⟨_,rfl,d5.new hD _,b8⟩ (fun j σ H2 _ ⟨o,_,s2,_⟩=>SqL.of (s2 _ _ e1)) ?_ ?_
 ·rintro j x σ H2 hx ⟨o,rfl,s2,e2⟩
  have hj:=(List.getElem?_eq_some_iff.mp hx).1
  rw [List.getElem?_map] at hx
  cases ht:ts[j]? with
  | none=>rw [ht] at hx;cases hx
  | some t=>
   rw [ht] at hx
   cases hx
   obtain ⟨xs,L,hL,et,nL⟩:=R1.get ht
   have mL:=List.mem_of_getElem? hL
   have lL:=aj8 mL
   obtain ⟨lx,elx,plx⟩:=aI1 X.bx mL
   subst_eqs
   have hw:4 * ((W+4) * (B.length - 1+1)+W+2)≤5900:=by
    have:(W+4) * (B.length - 1+1)≤134 * 8:=Nat.mul_le_mul (by omega) (by omega)
    omega
   refine ⟨t,xs,L,B.length - 1,Bt,W,rfl,SqL.of (s2 _ _ et),nL.mono s2.tups,by omega,by omega,?_,aI2 X.ov mL,X.b0,X.bw,hw,fun H3 s3=>?_⟩
   ·unfold aQ
    rw [elx]
    exact fun z=>by rw [show lx=0 from z] at plx;exact absurd plx (by decide)
   ·refine D5.mk hj (s3 _ _ e2) (C1 (by rw [List.length_map,List.length_map,List.length_take];simp [D9,ai6];omega)) ⟨_,rfl,(s2.trans s3).over hD _,?_⟩
    rw [b8,v4 hL,List.map_append,List.map_append];rfl
 ·rintro σ H2 ⟨o,rfl,s2,e2⟩
  rw [List.length_map,lR,List.take_length] at e2
  have ea:((D9 B).map av7).all id=E1 B:=by rw [List.all_map];rfl
  refine ⟨D,rfl,_,SqL.of e2,?_⟩
  rw [ea]
  exact k H2 (s1.trans s2)
def aN1 (K:PySem.W.Frag):Sp:=fun vs H Q _=>∃ b ys B x n,vs=[.ref b,x]∧H b=some (.lst ys)∧x8 H ys B∧Num K H x n∧(∀ s∈B,BdN 1000 s.1∧BdN 1000 s.2)∧BdN 1000 n∧B.length≤8∧∀ r ts H',d5 H H'→H r=none→H' r=some (.lst ts)→x8 H' ts (A6 n B)→Q (.ref r) H'
abbrev E3:Stmt:=top 76
theorem aA4:i9 ["_law_box","_law_number_here"] ["_law_box","_law_number_here"] (d3 E3):=by and_intros
set_option maxHeartbeats 0 in
theorem aC2 {f f1 f2:Addr} (d:Df K mg "_law_wide" E3 ["_law_box","_law_number_here"] f) (G__law_less:Def P w K mg base CX0 2 "_law_less" f1 ["_law_one","_law_other_here"] (R6 K (· - ·))) (G__law_plus:Def P w K mg base CX0 2 "_law_plus" f2 ["_law_one","_law_other_here"] (R6 K (· + ·))):Def P w K mg base CX0 3 "_law_wide" f ["_law_box","_law_number_here"] (aN1 K):=by
 refine d.ok (N:=["_law_box","_law_number_here"]) aA4 (by rintro vs H Q E ⟨_,_,_,_,_,h,_⟩;rw [h];rfl) (fun cdv A outer s H vs Q E hr h=>?_)
 obtain ⟨b,ys,B,x,n,rfl,hb,sp,hx,hB,hn,l8,k⟩:=h
 refine ⟨_,(d6 (h9 (N6 (Nc:=["_law_number_here","_law_low_here","_law_high"]) (caps:=[some 1,none,none]) rfl (X5.of (osc:=d3 E3) (N:=["_law_box","_law_number_here"]) (ks:=["_law_number_here"]) rfl rfl rfl rfl (C0 rfl C3) (by decide +kernel)) (K7 (pv 0)) (fun C s₂ H₂ fp pins=>(show PG _ _ (R9 K 2 (v8 (v3 1) (v8 (v3 2) S8))) from by (refine C2 (n:=2) ?_ ?_ ?_ ?_;rfl;(refine j0 ?_ ?_ ?_;(exact (g8 (i:=1) (show List.Nodup (["_law_number_here","_law_low_here","_law_high"]:List Str) by decide +kernel) rfl (Or.inl rfl) (Or.inr rfl)));(refine j0 ?_ ?_ ?_;(exact (g8 (i:=2) (show List.Nodup (["_law_number_here","_law_low_here","_law_high"]:List Str) by decide +kernel) rfl (Or.inl rfl) (Or.inr rfl)));(exact A4);rfl);rfl);rfl;rfl))) (fun C s₂ H₂ fp pins=>(m6 (b6 (d7 G__law_less hr (b6 (pv 1) (b6 (pv 0) b7)) i0) (b6 (d7 G__law_plus hr (b6 (pv 2) (b6 (pv 0) b7)) i0) b7))))))),?_⟩
 rw [show start ["_law_box","_law_number_here"] [.ref b,x]=[some (.ref b),some (x)] from rfl]
 subst_eqs
 have ly:=sp.length
 refine ⟨⟨_,SqL.of hb⟩,fun D hD=>?_⟩
 refine Z1 ys (fun i σ H2=>∃ o1 o2,σ=[some x,o1,o2]∧d5 H H2∧∃ ts,H2 D=some (.lst ts)∧x8 H2 ts ((A6 n B).take i)) ⟨_,_,rfl,d5.new hD _,[],b8,.nil⟩ (by rintro i σ H2 _ ⟨_,_,_,s2,_⟩;exact SqL.of (s2 _ _ hb)) ?_ ?_
 ·rintro i y σ H2 hy ⟨o1,o2,rfl,s2,ts,e2,sp2⟩
  have hi:=(List.getElem?_eq_some_iff.mp hy).1
  obtain ⟨pp,la,lb,sl,rfl,eB,epp,ela,elb⟩:=sp.get hy
  have bsp:=hB sl (List.mem_of_getElem? eB)
  subst_eqs
  refine ⟨_,SqT.of (s2 _ _ epp),rfl,_,_,rfl,_,_,rfl,rfl,?_⟩
  refine ⟨_,_,sl.1,n,1000,1000,rfl,⟨la,rfl,SqT.of (s2 _ _ ela)⟩,hx.same s2,bsp.1.t (by decide),hn.t (by decide),by decide,fun r1 H3 s3 e3=>?_⟩
  refine ⟨_,_,sl.2,n,1000,1000,rfl,⟨lb,rfl,SqT.of (s3 _ _ (s2 _ _ elb))⟩,hx.same (s2.trans s3),bsp.2.t (by decide),hn.t (by decide),by decide,fun r2 H4 s4 e4=>⟨v5,fun p hp=>?_⟩⟩
  have Sp:=d5.new hp (.tup [.ref r1,.ref r2])
  have S4:=s3.trans (s4.trans Sp)
  have eD:=S4 _ _ e2
  refine D5.mk hi eD (by rw [sp2.length,List.length_take,O4];exact C1 (by omega)) ⟨_,_,rfl,(s2.trans S4).over hD _,ts++[.ref p],b8,?_⟩
  have ew:(A6 n B)[i]? = some (sl.1 - n,sl.2+n):=by unfold A6;rw [List.getElem?_map,eB];rfl
  rw [v4 ew]
  exact ((sp2.mono S4.tups).append (.cons b8 (Sp _ _ (s4 _ _ e3)) (Sp _ _ e4) .nil)).mono (L8.lst eD)
 ·rintro σ H2 ⟨o1,o2,rfl,s2,ts,e2,sp2⟩
  rw [V8 (by rw [O4];omega)] at sp2
  exact k D ts H2 s2 hD e2 sp2
def az8 (K:PySem.W.Frag):Sp:=fun vs H Q _=>∃ v d x hair,vs=[v,x]∧HD H v d∧smD 6000 d∧Num K H x hair∧BdN 100 hair∧1≤hair * 1000000∧(∀ B,d=L5 B→R5 B→∀ s∈B,OvB 100 50 s.1∧OvB 100 50 s.2)∧(ac4 d=false→∀ r H',d5 H H'→H' r=some (.tup [.str "refused",.str "box"])→Q (.ref r) H')∧(∀ B sl,d=L5 B→R5 B→B[B.length - 1]? = some sl→(E1 B=false→∀ q H',d5 H H'→H' q=some (.tup [.str "told",.non])→Q (.ref q) H')∧(E1 B=true→∀ k j q r lo hi H',rm B hair sl.1 70 0 0=(k,j)→at8 B hair sl.1 k j→¬ hair<pt sl.1 k (j+1) - pt sl.1 k j→d5 H H'→H' q=some (.tup [.str "told",.ref r])→H' r=some (.tup [.ref lo,.ref hi])→SqT K H' lo (p9 (pt sl.1 k j))→SqT K H' hi (p9 (pt sl.1 k (j+1)))→Q (.ref q) H'))
abbrev G9:Stmt:=top 78
theorem Y4:i9 ["_law_box","_law_hair","_law_e","_law_found"] ["_law_box","_law_hair"] (d3 G9):=by and_intros
set_option maxHeartbeats 0 in
theorem aC5 {a:CAd} {f fw fg:Addr} (d:Df K mg "_law_said" G9 ["_law_box","_law_hair"] f) (G_room_of:Def P w K mg base (CXR P w) 6 "room_of" fg ["box","hair"] (aV6 K a.c_NoBox)) (G__law_which:bg7 P w K mg base 1 "_law_which" fw ["_law_e"] (az6 K a)) (x_RestError:ExT K mg "RestError" a.c_RestError) (kt:bo4 K a a.c_NoBox 10):Def P w K mg base CX0 7 "_law_said" f ["_law_box","_law_hair"] (az8 K):=by
 refine d.ok (N:=["_law_box","_law_hair","_law_e","_law_found"]) Y4 (by rintro vs H Q E ⟨_,_,_,_,h,_⟩;rw [h];rfl) (fun cdv A outer s H vs Q E hr h=>?_)
 obtain ⟨v,dd,x,hair,rfl,hd,hb,hx,bh,h6,hov,k2,k1⟩:=h
 refine ⟨_,(d4 (bj9 (i:=2) (C:=a.c_RestError) rfl rfl rfl Y4.nd rfl rfl rfl x_RestError.m (fun E xe pn hx=>(d6 (j8 (i:=3) Y4.nd rfl (Or.inl rfl) (d7 G_room_of hr (b6 (pv 0) (b6 (pv 1) b7)) hx)))) (fun b=>(d6 (h9 (m6 (b6 R8 (b6 (be0 G__law_which (hr.toX.mark _) (b6 (pv 2) b7)) b7)))))))
   (d6 (h9 (m6 (b6 R8 (b6 (pv 3) b7)))))),?_⟩
 rw [show start ["_law_box","_law_hair","_law_e","_law_found"] [v,x]=[some (v),some (x),none,none] from rfl]
 simp! [bo8,az6]
 refine ⟨v,dd,x,hair,rfl,hd,hb,hx,bh,h6,hov,fun hB H1 s1=>⟨kt.ex,fun e he=>⟨_,rfl,e,rfl,_,10,kt,by decide,b8,fun H2 s2=>⟨v5,fun p hp=>k2 hB p _ ((s1.trans (d5.new he _)).trans (s2.trans (d5.new hp _))) b8⟩⟩⟩,fun B sl e hB eB=>⟨fun hA H1 s1=>⟨v5,fun p hp=>(k1 B sl e hB eB).1 hA p _ (s1.trans (d5.new hp _)) b8⟩,fun hA k j r lo hi H1 er RO hl s1 e1 elo ehi=>⟨v5,fun p hp=>?_⟩⟩⟩
 have S:=d5.new hp (.tup [.str "told",.ref r])
 exact (k1 B sl e hB eB).2 hA k j p r lo hi _ er RO hl (s1.trans S) b8 (S _ _ e1) (S.tup elo) (S.tup ehi)
end
def aI5 (K:PySem.W.Frag) (H:Hp) (B:List (Rat × Rat)) (hair L:Rat) (v:V):Prop:=(E1 B=false∧v = .non)∨(E1 B=true∧∃ k j r lo hi,v = .ref r∧rm B hair L 70 0 0=(k,j)∧at8 B hair L k j∧¬ hair<pt L k (j+1) - pt L k j∧H r=some (.tup [.ref lo,.ref hi])∧SqT K H lo (p9 (pt L k j))∧SqT K H hi (p9 (pt L k (j+1))))
theorem aI5.same {K:PySem.W.Frag} {H H':Hp} {B:List (Rat × Rat)} {hair L:Rat} {v:V} (h:aI5 K H B hair L v) (s:d5 H H'):aI5 K H' B hair L v:=by
 rcases h with h | ⟨hA,k,j,r,lo,hi,e,er,RO,hl,e1,e2,e3⟩
 ·exact .inl h
 ·exact .inr ⟨hA,k,j,r,lo,hi,e,er,RO,hl,s _ _ e1,s.tup e2,s.tup e3⟩
section
variable {P:Program} {w:World} {K:PySem.W.Frag} {mg:Str→Option Value} {base:Heap}
def aE9 (K:PySem.W.Frag):Sp:=fun vs H Q _=>∃ b ys B sl x hair fv,vs=[.ref b,x,fv]∧H b=some (.lst ys)∧x8 H ys B∧R5 B∧(∀ s∈B,OvB 100 50 s.1∧OvB 100 50 s.2)∧B[B.length - 1]? = some sl∧Num K H x hair∧BdN 100 hair∧aI5 K H B hair sl.1 fv∧∀ H',d5 H H'→Q (.bl true) H'
abbrev B2:Stmt:=top 77
theorem M0:i9 ["_law_box","_law_hair","_law_found","_law_low_here","_law_high","_law_inner","_law_outer"] ["_law_box","_law_hair","_law_found"] (d3 B2):=by and_intros
set_option maxHeartbeats 0 in
theorem am0 {f f1 f2 f3 f4 f5 f6:Addr} (d:Df K mg "_law_is_room" B2 ["_law_box","_law_hair","_law_found"] f) (G__law_all_die:Def P w K mg base CX0 4 "_law_all_die" f1 ["_law_box"] (aw5 K)) (GD__law_is_number:Def P w K mg base CX0 2 "_law_is_number" f2 ["_law_thing"] (az7 K)) (G__law_below:Def P w K mg base CX0 1 "_law_below" f3 ["_law_one","_law_other_here"] (Y0 K)) (G__law_less:Def P w K mg base CX0 2 "_law_less" f4 ["_law_one","_law_other_here"] (R6 K (· - ·))) (G__law_wide:Def P w K mg base CX0 3 "_law_wide" f5 ["_law_box","_law_number_here"] (aN1 K)) (G__law_is_box:Def P w K mg base CX0 3 "_law_is_box" f6 ["_law_thing"] (ap7 K)) (n_isinstance:mg "isinstance" = none) (n_tuple:mg "tuple" = none) (n_len:mg "len" = none) (n_all:mg "all" = none):Def P w K mg base CX0 5 "_law_is_room" f ["_law_box","_law_hair","_law_found"] (aE9 K):=by
 have G__law_is_number:=GD__law_is_number
 refine d.ok (N:=["_law_box","_law_hair","_law_found","_law_low_here","_law_high","_law_inner","_law_outer"]) M0 (by rintro vs H Q E ⟨_,_,_,_,_,_,_,h,_⟩;rw [h];rfl) (fun cdv A outer s H vs Q E hr h=>?_)
 obtain ⟨b,ys,B,sl,x,hair,fv,rfl,hb,sp,hBB,ov,eB,hx,bh,F,k⟩:=h
 refine ⟨_,(d4 (A5 (B6 (B0 (d7 G__law_all_die hr (b6 (pv 0) b7) i0))) (d6 (h9 (P5 bk5 (pv 2) ai8 (o0 _)))) p8)
   (d4 (A5 (PW.pt (G2 (B6 (B0 (d8 j5 rfl n_isinstance (by decide +kernel) (b6 (pv 2) (b6 (M1 (v:=.ty "tuple") rfl n_tuple (by decide +kernel) rfl) b7))))) (G2 (p6 ak8 (d8 m5 rfl n_len (by decide +kernel) (b6 (pv 2) b7)) b9 (o0 _)) (M6 (B6 (B0 (d8 (ah7 rfl) rfl n_all (by decide +kernel) (b6 (N6 (Nc:=["_law_one"]) (caps:=[none]) rfl (X5.of (osc:=d3 B2) (N:=["_law_box","_law_hair","_law_found","_law_low_here","_law_high","_law_inner","_law_outer"]) (ks:=[]) rfl rfl rfl rfl C3 (by decide +kernel)) (aK0 (pv 2)) (fun C s₂ H₂ fp pins=>(g8 (i:=0) (show List.Nodup (["_law_one"]:List Str) by decide +kernel) rfl (Or.inl rfl) (Or.inr rfl))) (fun C s₂ H₂ fp pins=>(d7 G__law_is_number hr (b6 (pv 0) b7) i0))) b7)))))))) (d6 (h9 G0)) p8)
   (d4 (K8 (pv 2) (show PG _ _ (R9 K 2 (v8 (v3 3) (v8 (v3 4) S8))) from by (refine C2 (n:=2) ?_ ?_ ?_ ?_;rfl;(refine j0 ?_ ?_ ?_;(exact (g8 (i:=3) M0.nd rfl (Or.inl rfl)));(refine j0 ?_ ?_ ?_;(exact (g8 (i:=4) M0.nd rfl (Or.inl rfl)));(exact A4);rfl);rfl);rfl;rfl)))
   (d4 (A5 (PW.pt (G2 (p6 ad1 (i6 j6 (pv 3) b9 (fun _ _=>rfl)) b9 (o0 _)) (G2 (B6 (B0 (d7 G__law_below hr (b6 (pv 3) (b6 (pv 4) b7)) i0))) (M6 (B0 (d7 G__law_below hr (b6 (pv 1) (b6 (d7 G__law_less hr (b6 (pv 4) (b6 (pv 3) b7)) i0) b7)) i0)))))) (d6 (h9 G0)) p8)
   (d4 (aa0 (i:=5) (j:=6) rfl M0.nd rfl rfl (by decide) rfl rfl (b6 (d7 G__law_wide hr (b6 (pv 0) (b6 (pv 3) b7)) i0) (b6 (d7 G__law_wide hr (b6 (pv 0) (b6 (pv 4) b7)) i0) b7)) rfl)
   (d4 (A5 (PW.pt (G2 (B6 (B0 (d7 G__law_is_box hr (b6 (pv 5) b7) i0))) (M6 (B6 (B0 (d7 G__law_all_die hr (b6 (pv 5) b7) i0)))))) (d6 (h9 G0)) p8)
   (d6 (h9 (bp3 (aq8 (d7 G__law_is_box hr (b6 (pv 6) b7) i0)) (ae5 (aq8 (d7 G__law_all_die hr (b6 (pv 6) b7) i0)))))))))))),?_⟩
 rw [show start ["_law_box","_law_hair","_law_found","_law_low_here","_law_high","_law_inner","_law_outer"] [.ref b,x,fv]=[some (.ref b),some (x),some (fv),none,none,none,none] from rfl]
 have l8:=hBB.l8
 have l2:=hBB.l2
 have oL:=(ov sl (List.mem_of_getElem? eB)).1
 have pL:=hBB.last sl eB
 have X0:BxW 100 50 B:=⟨hBB,ov,by decide,by decide⟩
 have bd1:∀ s∈B,BdN 1000 s.1∧BdN 1000 s.2:=fun s hs=>⟨((ov s hs).1.bdn (by decide)).mono (by decide),((ov s hs).2.bdn (by decide)).mono (by decide)⟩
 refine i8 (fun σ H1=>σ=[some (.ref b),some x,some fv,none,none,none,none]∧d5 H H1∧E1 B=true) (fun N hN=>?_) ?_
 ·subst_eqs
  refine ⟨b,ys,B,100,50,rfl,hb,sp,X0,by decide,by decide,fun H1 s1=>⟨_,rfl,v6 (fun hf=>?_) (fun hf=>hN _ _ ⟨rfl,s1,by simpa using hf⟩)⟩⟩
  rcases F with ⟨_,rfl⟩ | ⟨h,_⟩
  ·rw [decide_eq_true rfl];exact k H1 s1
  ·rw [h] at hf;cases hf
 rintro σ H1 ⟨rfl,S1,hA⟩
 rcases F.same S1 with ⟨h,_⟩ | ⟨_,k',j,r,lo,hi,rfl,er,RO,hl,e1,elo,ehi⟩
 ·rw [hA] at h;cases h
 have jk:=RO.jk
 have k64:=RO.k64
 have bdp:∀ {j:Nat},j≤2 ^ k'→BdN 130 (pt sl.1 k' j):=fun {j} hj=>((aG2 oL hj).mono (by omega)).bdN (Nat.mul_pos (by decide) (Nat.two_pow_pos _)) (at4 k64)
 have bl:=bdp (Nat.le_of_lt jk)
 have bhh:=bdp (show j+1≤2 ^ k' by omega)
 refine i8 (fun σ H2=>σ=[some (.ref b),some x,some (.ref r),none,none,none,none]∧d5 H1 H2) (fun N hN=>?_) ?_
 ·subst_eqs
  have idr:IsD K H1 (.ref r) (.tup [x5 (pt sl.1 k' j),x5 (pt sl.1 k' (j+1))]):=.tup (SqT.of e1) (.cons (P8 elo) (.cons (P8 ehi) .nil))
  refine ⟨trivial,_,idr.ty,_,Q8 idr,v6 (fun h=>by cases h) (fun _=>⟨_,.inr (SqT.of e1),rfl,v6 (fun h=>absurd rfl h) (fun _=>⟨⟨_,SqT.of e1⟩,fun D hD=>?_⟩)⟩)⟩
  refine aM1 [.ref lo,.ref hi] (fun i σ H3=>∃ o,σ=[o]∧d5 H1 H3∧H3 D=some (.lst (([true,true].take i).map V.bl))) ⟨_,rfl,d5.new hD _,b8⟩ (fun i σ H3 _ ⟨o,_,s3,_⟩=>SqT.of (s3 _ _ e1)) ?_ ?_
  ·rintro i z σ H3 hz ⟨o,rfl,s3,e3⟩
   have hz2:∃ q,IsD K H1 z (x5 q)∧BdN 130 q∧[true,true][i]? = some true:=by
    match i,hz with
    | 0,hz=>cases hz;exact ⟨_,P8 elo,bl,rfl⟩
    | 1,hz=>cases hz;exact ⟨_,P8 ehi,bhh,rfl⟩
    | i+2,hz=>simp at hz
   obtain ⟨q,iq,bq,ei⟩:=hz2
   have hi2:i<2:=(List.getElem?_eq_some_iff.mp hz).1
   subst_eqs
   refine ⟨z,x5 q,rfl,iq.same s3,ab4 (bq.mono (by decide)),fun H4 s4=>?_⟩
   rw [ag9]
   refine D5.mk hi2 (s4 _ _ e3) (C1 (by rw [List.length_map,List.length_take];simp;omega)) ⟨_,rfl,(s3.trans s4).over hD _,?_⟩
   rw [b8,v4 ei,List.map_append];rfl
  ·rintro σ H3 ⟨o,rfl,s3,e3⟩
   exact ⟨D,rfl,[true,true],SqL.of e3,v6 (fun h=>by cases h) (fun _=>hN _ _ ⟨rfl,s3⟩)⟩
 rintro σ H2 ⟨rfl,S2⟩
 refine i8 (fun σ H3=>σ=[some (.ref b),some x,some (.ref r),some (.ref lo),some (.ref hi),none,none]∧H3=H2) (fun N hN=>?_) ?_
 ·subst_eqs
  exact ⟨_,SqT.of (S2 _ _ e1),rfl,_,_,rfl,_,_,rfl,rfl,hN _ _ ⟨rfl,rfl⟩⟩
 rintro σ H3 ⟨rfl,rfl⟩
 have elo:=S2.tup elo
 have ehi:=S2.tup ehi
 have S12:=S1.trans S2
 have n0:0≤pt sl.1 k' j:=by
  have:=aX1 pL (k:=k') (Nat.zero_le j)
  rwa [ao2] at this
 have nl:pt sl.1 k' j<sl.1:=by
  have:=aX0 pL (k:=k') jk
  rwa [aB4] at this
 have lth:=aX0 pL (k:=k') (show j<j+1 by omega)
 refine i8 (fun σ H4=>σ=[some (.ref b),some x,some (.ref r),some (.ref lo),some (.ref hi),none,none]∧d5 H3 H4) (fun N hN=>?_) ?_
 ·subst_eqs
  refine ⟨_,elo,_,at0 _,_,rfl,v6 (fun z=>?_) (fun _=>?_)⟩
  ·have:=Rat.num_nonneg.mpr n0
   omega
  refine ⟨_,_,_,_,rfl,⟨lo,rfl,elo⟩,⟨hi,rfl,ehi⟩,bl.mono (by decide),bhh.mono (by decide),_,rfl,v6 (fun z=>?_) (fun _=>?_)⟩
  ·rw [O0,decide_eq_true lth] at z;cases z
  refine ⟨_,_,_,_,130,130,rfl,⟨hi,rfl,ehi⟩,⟨lo,rfl,elo⟩,bhh.t (by decide),bl.t (by decide),by decide,fun r4 H4 s4 e4=>?_⟩
  refine ⟨_,_,hair,_,rfl,hx.same (S12.trans s4),⟨r4,rfl,SqT.of e4⟩,bh.mono (by decide),(bhh.sub bl).mono (by decide),_,rfl,v6 (fun z=>?_) (fun _=>hN _ _ ⟨rfl,s4⟩)⟩
  rw [O0,decide_eq_true_eq] at z
  exact absurd z hl
 rintro σ H4 ⟨rfl,S4⟩
 have S14:=S12.trans S4
 refine i8 (fun σ H5=>∃ i1 i2 t1 t2,σ=[some (.ref b),some x,some (.ref r),some (.ref lo),some (.ref hi),some (.ref i1),some (.ref i2)]∧d5 H H5∧H5 i1=some (.lst t1)∧x8 H5 t1 (A6 (pt sl.1 k' j) B)∧H5 i2=some (.lst t2)∧x8 H5 t2 (A6 (pt sl.1 k' (j+1)) B)) (fun N hN=>?_) ?_
 ·subst_eqs
  refine ⟨b,ys,B,.ref lo,_,rfl,S14 _ _ hb,sp.mono S14.tups,⟨lo,rfl,S4.tup elo⟩,bd1,bl.mono (by decide),l8,fun r5 t5 H5 s5 f5 e5 sp5=>?_⟩
  have S15:=S14.trans s5
  refine ⟨b,ys,B,.ref hi,_,rfl,S15 _ _ hb,sp.mono S15.tups,⟨hi,rfl,s5.tup (S4.tup ehi)⟩,bd1,bhh.mono (by decide),l8,fun r6 t6 H6 s6 f6 e6 sp6=>?_⟩
  exact hN _ _ ⟨r5,r6,t5,t6,rfl,S15.trans s6,s6 _ _ e5,sp5.mono s6.tups,e6,sp6⟩
 rintro σ H5 ⟨i1,i2,t1,t2,rfl,S5,g1,sp1,g2,sp2⟩
 have pb:0<100 * 2 ^ k':=Nat.mul_pos (by decide) (Nat.two_pow_pos _)
 have ov1:=az0 ov (aG2 oL (Nat.le_of_lt jk)) k64
 have ov2:=az0 ov (aG2 oL (show j+1≤2 ^ k' by omega)) k64
 have bx1:R5 (A6 (pt sl.1 k' j) B):=aw0 hBB n0 fun s hs=>by rw [eB] at hs;cases hs;exact nl
 have smW:∀ {M:List (Rat × Rat)},(∀ s∈M,OvB (100 * 2 ^ k') 130 s.1∧OvB (100 * 2 ^ k') 130 s.2)→smD 6000 (L5 M):=fun {M} h=>aF5 fun s hs=>⟨((h s hs).1.bdN pb (at4 k64)).mono (by decide),((h s hs).2.bdN pb (at4 k64)).mono (by decide)⟩
 refine i8 (fun σ H6=>σ=[some (.ref b),some x,some (.ref r),some (.ref lo),some (.ref hi),some (.ref i1),some (.ref i2)]∧d5 H5 H6) (fun N hN=>?_) ?_
 ·subst_eqs
  refine ⟨_,_,rfl,sp1.isD g1,smW ov1,fun H6 s6=>⟨_,rfl,v6 (fun z=>?_) (fun _=>?_)⟩⟩
  ·rw [at5 bx1] at z;cases z
  refine ⟨i1,t1,_,_,130,rfl,s6 _ _ g1,sp1.mono s6.tups,⟨bx1,ov1,pb,at4 k64⟩,by decide,by decide,fun H7 s7=>⟨_,rfl,v6 (fun z=>?_) (fun _=>hN _ _ ⟨rfl,s6.trans s7⟩)⟩⟩
  rw [RO.lo] at z;cases z
 rintro σ H6 ⟨rfl,S6⟩
 subst_eqs
 refine ⟨_,_,rfl,(sp2.mono S6.tups).isD (S6 _ _ g2),smW ov2,fun H7 s7=>?_⟩
 refine ⟨_,rfl,v6 (fun _=>k _ (S5.trans (S6.trans s7))) (fun hb'=>?_)⟩
 have hb2:ac4 (L5 (A6 (pt sl.1 k' (j+1)) B))=true:=by simpa using hb'
 obtain ⟨M,eM,bM⟩:=aP4 hb2
 rw [←at2 eM] at bM
 have aF:E1 (A6 (pt sl.1 k' (j+1)) B)=false:=by
  rcases RO.hi with z | z
  ·rw [z,aB4] at bM
   have:=bM.last (sl.1 - sl.1,sl.2+sl.1) (by rw [O4];unfold A6;rw [List.getElem?_map,eB];rfl)
   have h0:sl.1 - sl.1=0:=by grind
   rw [show (sl.1 - sl.1,sl.2+sl.1).1=sl.1 - sl.1 from rfl,h0] at this
   exact absurd this (by decide)
  ·exact z
 refine ⟨i2,t2,_,_,130,rfl,s7 _ _ (S6 _ _ g2),(sp2.mono S6.tups).mono s7.tups,⟨bM,ov2,pb,at4 k64⟩,by decide,by decide,fun H8 s8=>⟨_,rfl,?_⟩⟩
 rw [aF]
 exact k _ (S5.trans (S6.trans (s7.trans s8)))
end
end R
set_option maxRecDepth 100000
local macro_rules | `(tactic| simp_wf)=>`(tactic| first | rfl | decide | exact .inl rfl | (intro _;rfl))
namespace R
open PySem L2 PyProof.Rows
def bb1 (B:List (Rat × Rat)) (hair L:Rat):D:=if E1 B=true then .tup [x5 (pt L (rm B hair L 70 0 0).1 (rm B hair L 70 0 0).2),x5 (pt L (rm B hair L 70 0 0).1 ((rm B hair L 70 0 0).2+1))] else .v .non
def dTF (B:List (Rat × Rat)) (hair L:Rat):D:=.tup [.v (.str "told"),bb1 B hair L]
theorem bm9 (B:List (Rat × Rat)) (hair L:Rat):eqD (dTF B hair L) (dTF B hair L)=true:=by
 unfold dTF bb1
 split <;> simp [eqD,K4,eqV,ao7]
theorem bq1 (B:List (Rat × Rat)) (hair L:Rat):dpD (dTF B hair L)≤60:=by
 unfold dTF bb1
 split <;> simp [dpD,ac2,x5]
theorem aI5.isD {K:PySem.W.Frag} {H:Hp} {B:List (Rat × Rat)} {hair L:Rat} {v:V} (h:aI5 K H B hair L v):IsD K H v (bb1 B hair L):=by
 unfold bb1
 rcases h with ⟨hA,rfl⟩ | ⟨hA,k,j,r,lo,hi,rfl,er,RO,hl,e1,e2,e3⟩
 ·rw [hA,if_neg (by decide)];exact .v rfl
 ·rw [hA,if_pos rfl,er]
  exact .tup (SqT.of e1) (.cons (P8 e2) (.cons (P8 e3) .nil))
theorem aY2 {h:Int} (hh:h=1∨h=10∨h=100∨h=1000∨h=10000∨h=1000000):∃ q:Rat,p9 q=[.int 1,.int h]∧BdN 100 q∧1≤q * 1000000:=by
 rcases hh with rfl | rfl | rfl | rfl | rfl | rfl
 ·exact ⟨Rat.divInt 1 1,by decide +kernel,⟨by decide +kernel,by decide +kernel⟩,by decide +kernel⟩
 ·exact ⟨Rat.divInt 1 10,by decide +kernel,⟨by decide +kernel,by decide +kernel⟩,by decide +kernel⟩
 ·exact ⟨Rat.divInt 1 100,by decide +kernel,⟨by decide +kernel,by decide +kernel⟩,by decide +kernel⟩
 ·exact ⟨Rat.divInt 1 1000,by decide +kernel,⟨by decide +kernel,by decide +kernel⟩,by decide +kernel⟩
 ·exact ⟨Rat.divInt 1 10000,by decide +kernel,⟨by decide +kernel,by decide +kernel⟩,by decide +kernel⟩
 ·exact ⟨Rat.divInt 1 1000000,by decide +kernel,⟨by decide +kernel,by decide +kernel⟩,by decide +kernel⟩
section
variable {P:Program} {w:World} {K:PySem.W.Frag} {mg:Str→Option Value} {base:Heap}
abbrev ac9:Stmt:=top 79
theorem Y1:i9 ["_law_script","_law_at","_law_urn_here","_law_hair","_law_box","_law_bent_here","_law_handed","_law_word","_law_found"] ["_law_script"] (d3 ac9):=by and_intros
set_option maxHeartbeats 0 in
theorem bk8 {f g1 g2 g3 g4 g5 g6 g7:Addr} {fd:FuncData} (F:Fun K "law" "law" ac9 f fd) (G__law_urn:Def P w K mg base CX0 1 "_law_urn" g1 ["_law_script","_law_at"] (bh1 K)) (G__law_draw:Def P w K mg base CX0 1 "_law_draw" g2 ["_law_urn_here","_law_many"] G4) (G__law_drawn_box:Def P w K mg base CX0 5 "_law_drawn_box" g3 ["_law_urn_here","_law_kind","_law_most"] (aV8 K)) (G__law_bent:Def P w K mg base CX0 2 "_law_bent" g4 ["_law_urn_here","_law_box"] (aV9 K)) (G__law_said:Def P w K mg base CX0 7 "_law_said" g5 ["_law_box","_law_hair"] (az8 K)) (G__law_is_room:Def P w K mg base CX0 5 "_law_is_room" g6 ["_law_box","_law_hair","_law_found"] (aE9 K)) (G__law_is_box:Def P w K mg base CX0 3 "_law_is_box" g7 ["_law_thing"] (ap7 K))
  (n_range:mg "range" = none) (n_max:mg "max" = none) (n_min:mg "min" = none) (n_len:mg "len" = none) (n_list:mg "list" = none):ab1 P w K mg base CX0 8 f fd ["_law_script"] (aN0 K):=by
 refine F.ok (N:=["_law_script","_law_at","_law_urn_here","_law_hair","_law_box","_law_bent_here","_law_handed","_law_word","_law_found"]) Y1 (fun vs H Q E ⟨x,y,h,_⟩=>by rw [h];rfl) (fun cdv A outer s H vs Q E hr h=>?_)
 obtain ⟨as,ns,rfl,hS,h63,k⟩:=h
 have hu:=hr.units
 refine ⟨_,(@d4 _ _ _ _ _ (@U5 _ _ _ _ _ _ _ _ PassesOwn.never rfl (@ab7 _ _ _ _ _ _ rfl n_range (@b6 _ _ _ _ _ (@d8 _ _ _ _ _ _ _ _ _ (aT6 rfl) rfl n_max (by decide +kernel) (@b6 _ _ _ _ _ b9 (@b6 _ _ _ _ _ (@d8 _ _ _ _ _ _ _ _ _ (aT5 rfl) rfl n_min (by decide +kernel) (@b6 _ _ _ _ _ b9 (@b6 _ _ _ _ _ (@d8 _ _ _ _ _ _ _ _ _ m5 rfl n_len (by decide +kernel) (@b6 _ _ _ _ _ (pv 0) b7 (by simp_wf)) (by simp_wf) (by simp_wf) (by simp_wf) (by simp_wf)) b7 (by simp_wf)) (by simp_wf)) (by simp_wf) (by simp_wf) (by simp_wf) (by simp_wf)) b7 (by simp_wf)) (by simp_wf)) (by simp_wf) (by simp_wf) (by simp_wf) (by simp_wf)) b7 (by simp_wf)) (by simp_wf)) (g8 (i:=1) Y1.nd rfl (Or.inl rfl)) (@d4 _ _ _ _ _ (@j8 _ _ 2 _ _ _ _ Y1.nd rfl (Or.inl rfl) (@d7 _ _ _ _ _ _ _ _ _ _ _ _ _ _ G__law_urn hr (@b6 _ _ _ _ _ (pv 0) (@b6 _ _ _ _ _ (pv 1) b7 (by simp_wf)) (by simp_wf)) i0 (by simp_wf) (by simp_wf) (by simp_wf) (by simp_wf) (by simp_wf)) (by simp_wf) (by simp_wf)) (@d4 _ _ _ _ _ (@j8 _ _ 3 _ _ _ _ Y1.nd rfl (Or.inl rfl) (@m6 _ _ _ _ _ (@b6 _ _ _ _ _ b9 (@b6 _ _ _ _ _ (@i6 _ _ _ _ _ _ _ t4 (@v9 _ _ _ _ (@b6 _ _ _ _ _ b9 (@b6 _ _ _ _ _ b9 (@b6 _ _ _ _ _ b9 (@b6 _ _ _ _ _ b9 (@b6 _ _ _ _ _ b9 (@b6 _ _ _ _ _ b9 b7 (by simp_wf)) (by simp_wf)) (by simp_wf)) (by simp_wf)) (by simp_wf)) (by simp_wf))) (@d7 _ _ _ _ _ _ _ _ _ _ _ _ _ _ G__law_draw hr (@b6 _ _ _ _ _ (pv 2) (@b6 _ _ _ _ _ b9 b7 (by simp_wf)) (by simp_wf)) i0 (by simp_wf) (by simp_wf) (by simp_wf) (by simp_wf) (by simp_wf)) (fun _ _=>rfl)) b7 (by simp_wf)) (by simp_wf))) (by simp_wf) (by simp_wf)) (@d4 _ _ _ _ _ (@j8 _ _ 4 _ _ _ _ Y1.nd rfl (Or.inl rfl) (@d7 _ _ _ _ _ _ _ _ _ _ _ _ _ _ G__law_drawn_box hr (@b6 _ _ _ _ _ (pv 2) (@b6 _ _ _ _ _ b9 (@b6 _ _ _ _ _ (@i6 _ _ _ _ _ _ _ t4 (@v9 _ _ _ _ (@b6 _ _ _ _ _ b9 (@b6 _ _ _ _ _ b9 (@b6 _ _ _ _ _ b9 (@b6 _ _ _ _ _ b9 b7 (by simp_wf)) (by simp_wf)) (by simp_wf)) (by simp_wf))) (@d7 _ _ _ _ _ _ _ _ _ _ _ _ _ _ G__law_draw hr (@b6 _ _ _ _ _ (pv 2) (@b6 _ _ _ _ _ b9 b7 (by simp_wf)) (by simp_wf)) i0 (by simp_wf) (by simp_wf) (by simp_wf) (by simp_wf) (by simp_wf)) (fun _ _=>rfl)) b7 (by simp_wf)) (by simp_wf)) (by simp_wf)) i0 (by simp_wf) (by simp_wf) (by simp_wf) (by simp_wf) (by simp_wf)) (by simp_wf) (by simp_wf)) (@d4 _ _ _ _ _ (@j8 _ _ 5 _ _ _ _ Y1.nd rfl (Or.inl rfl) (@d7 _ _ _ _ _ _ _ _ _ _ _ _ _ _ G__law_bent hr (@b6 _ _ _ _ _ (pv 2) (@b6 _ _ _ _ _ (pv 4) b7 (by simp_wf)) (by simp_wf)) i0 (by simp_wf) (by simp_wf) (by simp_wf) (by simp_wf) (by simp_wf)) (by simp_wf) (by simp_wf)) (@d4 _ _ _ _ _ (@j8 _ _ 6 _ _ _ _ Y1.nd rfl (Or.inl rfl) (@N1 _ _ _ _ _ _ _ _ _ Z3 rfl n_list (by decide +kernel) (@b6 _ _ _ _ _ (pv 4) b7 (by simp_wf)) (by simp_wf) (by simp_wf) (by simp_wf) (by simp_wf)) (by simp_wf) (by simp_wf)) (@d4 _ _ _ _ _ (@K8 _ _ _ _ _ _ (@d7 _ _ _ _ _ _ _ _ _ _ _ _ _ _ G__law_said hr (@b6 _ _ _ _ _ (pv 6) (@b6 _ _ _ _ _ (pv 3) b7 (by simp_wf)) (by simp_wf)) i0 (by simp_wf) (by simp_wf) (by simp_wf) (by simp_wf) (by simp_wf)) (show PG _ _ (R9 K 2 (v8 (v3 7) (v8 (v3 8) S8))) from by (refine C2 (n:=2) ?_ ?_ ?_ ?_;rfl;(refine j0 ?_ ?_ ?_;(exact (g8 (i:=7) Y1.nd rfl (Or.inl rfl))) ;(refine j0 ?_ ?_ ?_;(exact (g8 (i:=8) Y1.nd rfl (Or.inl rfl))) ;(exact A4) ;rfl) ;rfl) ;rfl;rfl)) (by simp_wf) (by simp_wf) (by simp_wf)) (@d4 _ _ _ _ _ (@A5 _ _ _ _ _ _ _ _ (@PW.pt _ _ _ (@G2 _ _ _ _ _ _ _ (@p6 _ _ _ _ _ _ _ _ ak8 (pv 7) R8 (o0 _)) (@G2 _ _ _ _ _ _ _ (@B6 _ _ _ _ (@B0 _ _ _ (@d7 _ _ _ _ _ _ _ _ _ _ _ _ _ _ G__law_is_room hr (@b6 _ _ _ _ _ (pv 4) (@b6 _ _ _ _ _ (pv 3) (@b6 _ _ _ _ _ (pv 8) b7 (by simp_wf)) (by simp_wf)) (by simp_wf)) i0 (by simp_wf) (by simp_wf) (by simp_wf) (by simp_wf) (by simp_wf)) (by simp_wf))) (@M6 _ _ _ _ (@p6 _ _ _ _ _ _ _ _ (aB8 hu) (@d7 _ _ _ _ _ _ _ _ _ _ _ _ _ _ G__law_said hr (@b6 _ _ _ _ _ (pv 6) (@b6 _ _ _ _ _ (pv 3) b7 (by simp_wf)) (by simp_wf)) i0 (by simp_wf) (by simp_wf) (by simp_wf) (by simp_wf) (by simp_wf)) (@m6 _ _ _ _ _ (@b6 _ _ _ _ _ (pv 7) (@b6 _ _ _ _ _ (pv 8) b7 (by simp_wf)) (by simp_wf))) (o0 _)))))) (@d6 _ _ _ (@h9 _ _ _ _ G0)) p8) (@d6 _ _ _ (@A5 _ _ _ _ _ _ _ _ (@PW.pt _ _ _ (@G2 _ _ _ _ _ _ _ (@p6 _ _ _ _ _ _ _ _ (aB8 hu) (pv 6) (pv 4) (o0 _)) (@M6 _ _ _ _ (@PW.pt _ _ _ (@aJ8 _ _ _ _ _ _ _ (@B6 _ _ _ _ (@B0 _ _ _ (@d7 _ _ _ _ _ _ _ _ _ _ _ _ _ _ G__law_is_box hr (@b6 _ _ _ _ _ (pv 5) b7 (by simp_wf)) i0 (by simp_wf) (by simp_wf) (by simp_wf) (by simp_wf) (by simp_wf)) (by simp_wf))) (@aB1 _ _ _ _ (@p6 _ _ _ _ _ _ _ _ (aB8 hu) (@d7 _ _ _ _ _ _ _ _ _ _ _ _ _ _ G__law_said hr (@b6 _ _ _ _ _ (pv 5) (@b6 _ _ _ _ _ (pv 3) b7 (by simp_wf)) (by simp_wf)) i0 (by simp_wf) (by simp_wf) (by simp_wf) (by simp_wf) (by simp_wf)) (@m6 _ _ _ _ _ (@b6 _ _ _ _ _ R8 (@b6 _ _ _ _ _ R8 b7 (by simp_wf)) (by simp_wf))) (o0 _)))))))) (@d6 _ _ _ (@h9 _ _ _ _ G0)) p8))))))))) (by simp_wf)) (@d6 _ _ _ (@h9 _ _ _ _ G0))),?_⟩
 rw [show start ["_law_script","_law_at","_law_urn_here","_law_hair","_law_box","_law_bent_here","_law_handed","_law_word","_law_found"] [.ref as]=[some (.ref as),none,none,none,none,none,none,none,none] from rfl]
 have hlen:(((ns.map V.int).length:Nat):Int)=(ns.length:Int):=by rw [List.length_map]
 obtain ⟨I,hI⟩:∃ I:Nat→L2.St→Hp→Prop,∀ i σ H1,I i σ H1↔∃ o1 o2 o3 o4 o5 o6 o7 o8,σ=[some (.ref as),o1,o2,o3,o4,o5,o6,o7,o8]∧SqL K H1 as (ns.map V.int):=⟨_,fun _ _ _=>Iff.rfl⟩
 refine ⟨_,rfl,as,_,rfl,.inl hS,3,_,rfl,1,_,rfl,_,rfl,?_,?_,aj5 I ((hI _ _ _).mpr ⟨_,_,_,_,_,_,_,_,rfl,hS⟩) ?_ ?_⟩
 ·rw [hlen];split <;> split <;> omega
 ·rw [hlen];split <;> split <;> omega
 ·intro i σ H1 hi hI1
  obtain ⟨o1,o2,o3,o4,o5,o6,o7,o8,rfl,hS1⟩:=(hI _ _ _).mp hI1
  rw [hlen] at hi
  have hi4:i<4:=by
   revert hi
   split <;> split <;> omega
  simp only [v3,List.set_cons_zero,List.set_cons_succ]
  refine i8 (fun σ H2=>∃ u,σ=[some (.ref as),some (.int (0+(i:Int))),some (.ref u),o3,o4,o5,o6,o7,o8]∧d5 H1 H2∧H1 u=none∧x6 H2 u) (fun N hN=>?_) ?_
  ·subst_eqs
   exact ⟨as,ns,_,rfl,hS1,by omega,by omega,fun u H2 s2 hu0 hu2=>hN _ _ ⟨u,rfl,s2,hu0,hu2⟩⟩
  rintro σ H2 ⟨u,rfl,s2,fu,u2⟩
  have sx2:=d5.x s2 u
  refine i8 (fun σ H3=>∃ ah hair,σ=[some (.ref as),some (.int (0+(i:Int))),some (.ref u),some (.ref ah),o4,o5,o6,o7,o8]∧v7 u H1 H3∧x6 H3 u∧H3 ah=some (.tup (p9 hair))∧BdN 100 hair∧1≤hair * 1000000) (fun N hN=>?_) ?_
  ·simp! [G4]
   refine ⟨by decide,fun p1 hp1=>?_⟩
   have S1:=d5.new hp1 (.lst [.int 1,.int 10,.int 100,.int 1000,.int 10000,.int 1000000])
   have u3:=X8 (o:=.lst [.int 1,.int 10,.int 100,.int 1000,.int 10000,.int 1000000]) u2 hp1
   have pu:=U0 u2 hp1
   refine ⟨u3,by decide,by decide,fun r H3 r0 r6 s3 u3'=>⟨_,SqL.of (s3 _ _ b8 pu),?_⟩⟩
   have eh:∃ h:Int,atI [V.int 1,V.int 10,V.int 100,V.int 1000,V.int 10000,V.int 1000000] r=some (.int h)∧(h=1∨h=10∨h=100∨h=1000∨h=10000∨h=1000000):=by
    have:r=0∨r=1∨r=2∨r=3∨r=4∨r=5:=by omega
    rcases this with rfl | rfl | rfl | rfl | rfl | rfl
    ·exact ⟨1,rfl,by decide⟩
    ·exact ⟨10,rfl,by decide⟩
    ·exact ⟨100,rfl,by decide⟩
    ·exact ⟨1000,rfl,by decide⟩
    ·exact ⟨10000,rfl,by decide⟩
    ·exact ⟨1000000,rfl,by decide⟩
   obtain ⟨h,ea,hh⟩:=eh
   obtain ⟨q,eq,bq,q6⟩:=aY2 hh
   refine ⟨_,ea,v5,fun p2 hp2=>hN _ _ ⟨p2,q,rfl,sx2.trans ((d5.x S1 u).trans (s3.trans (d5.x (d5.new hp2 _) u))),X8 u3' hp2,?_,bq,q6⟩⟩
   rw [b8,eq]
  clear sx2 u2 s2
  rintro σ H3 ⟨ah,hair,rfl,s3,u3,eh3,bh,h6⟩
  refine i8 (fun σ H4=>∃ ab ts B,σ=[some (.ref as),some (.int (0+(i:Int))),some (.ref u),some (.ref ah),some (.ref ab),o5,o6,o7,o8]∧v7 u H1 H4∧x6 H4 u∧H4 ah=some (.tup (p9 hair))∧ab≠u∧H4 ab=some (.lst ts)∧x8 H4 ts B∧R5 B∧(∀ s∈B,OvB 100 50 s.1∧OvB 100 50 s.2)) (fun N hN=>?_) ?_
  ·simp! [G4]
   refine ⟨by decide,fun p1 hp1=>?_⟩
   have S1:=d5.new hp1 (.lst [.int 5,.int 5,.int 5,.int 8])
   have u4:=X8 (o:=.lst [.int 5,.int 5,.int 5,.int 8]) u3 hp1
   have pu:=U0 u3 hp1
   refine ⟨u4,by decide,by decide,fun r H4 r0 r6 s4 u4'=>⟨_,SqL.of (s4 _ _ b8 pu),?_⟩⟩
   have eh:∃ h:Int,atI [V.int 5,V.int 5,V.int 5,V.int 8] r=some (.int h)∧(h=5∨h=8):=by
    have:r=0∨r=1∨r=2∨r=3:=by omega
    rcases this with rfl | rfl | rfl | rfl
    ·exact ⟨5,rfl,by decide⟩
    ·exact ⟨5,rfl,by decide⟩
    ·exact ⟨5,rfl,by decide⟩
    ·exact ⟨8,rfl,by decide⟩
   obtain ⟨h,ea,hh⟩:=eh
   refine ⟨_,ea,u,h,rfl,u4',hh,fun r ts B H5 s5 u5 f5 ru e5 sp5 hB bB=>hN _ _ ⟨r,ts,B,rfl,s3.trans ((d5.x S1 u).trans (s4.trans s5)),u5,s5.tups u4' _ _ (s4.tups u4 _ _ (S1 _ _ eh3)),ru,e5,sp5,hB,bB⟩⟩
  clear s3 u3 eh3
  rintro σ H4 ⟨ab,ts,B,rfl,s4,u4,eh4,abu,eb4,sp4,hB,ov⟩
  have bB:∀ s∈B,BdN 1000 s.1∧BdN 1000 s.2:=fun s hs=>⟨((ov s hs).1.bdn (by decide)).mono (by decide),((ov s hs).2.bdn (by decide)).mono (by decide)⟩
  refine i8 (fun σ H5=>∃ vb db,σ=[some (.ref as),some (.int (0+(i:Int))),some (.ref u),some (.ref ah),some (.ref ab),some vb,o6,o7,o8]∧v7 u H1 H5∧HD H5 vb db∧smD 2000 db∧H5 ah=some (.tup (p9 hair))∧H5 ab=some (.lst ts)∧x8 H5 ts B) (fun N hN=>?_) ?_
  ·subst_eqs
   exact ⟨u,ab,ts,B,rfl,u4,abu,eb4,sp4,hB.l2,hB.l8,bB,fun v d H5 s5 u5 id sd nd=>hN _ _ ⟨v,d,rfl,s4.trans s5,id,sd,s5.tups u4 _ _ eh4,s5 _ _ eb4 abu,sp4.mono (s5.tups u4)⟩⟩
  clear s4 u4 eh4 eb4 sp4
  rintro σ H5 ⟨vb,db,rfl,s5,ib5,sb,eh5,eb5,sp5⟩
  refine i8 (fun σ H6=>∃ ahd,σ=[some (.ref as),some (.int (0+(i:Int))),some (.ref u),some (.ref ah),some (.ref ab),some vb,some (.ref ahd),o7,o8]∧v7 u H1 H6∧HD H6 vb db∧H6 ah=some (.tup (p9 hair))∧H6 ab=some (.lst ts)∧x8 H6 ts B∧H6 ahd=some (.lst ts)) (fun N hN=>?_) ?_
  ·subst_eqs
   refine ⟨ts,.inl (SqL.of eb5),fun p0 hp0=>?_⟩
   have S0:=d5.new hp0 (.lst ts)
   exact hN _ _ ⟨p0,rfl,s5.trans (d5.x S0 u),ib5.same S0,S0 _ _ eh5,S0 _ _ eb5,sp5.mono S0.tups,b8⟩
  clear s5 ib5 eh5 eb5 sp5
  rintro σ H6 ⟨ahd,rfl,s6,ib6,eh6,eb6,sp6,ehd⟩
  have smB:smD 6000 (L5 B):=aF5 fun s hs=>⟨(bB s hs).1.mono (by decide),(bB s hs).2.mono (by decide)⟩
  have sb6:smD 6000 db:=aF4 (by decide) sb
  have l2:=hB.l2
  have hlt:B.length - 1<B.length:=by omega
  have eB:=List.getElem?_eq_getElem hlt
  generalize B[B.length - 1]=sl at eB
  have ovB:∀ B',L5 B=L5 B'→R5 B'→∀ s∈B',OvB 100 50 s.1∧OvB 100 50 s.2:=fun B' e _=>by rw [←at2 e];exact ov
  -- one asking
  have ask:∀ {H7:Hp} {Q':VK} {E':XK},d5 H6 H7→(∀ p fv H8,d5 H7 H8→H8 p=some (.tup [.str "told",fv])→aI5 K H8 B hair sl.1 fv→Q' (.ref p) H8)→az8 K [.ref ahd,.ref ah] H7 Q' E':=fun {H7 Q' E'} s7 kk=>by
   refine ⟨_,L5 B,_,hair,rfl,.lst (s7 _ _ ehd) (sp6.mono s7.tups).hds,smB,⟨ah,rfl,SqT.of (s7 _ _ eh6)⟩,bh,h6,ovB,fun z=>(by rw [at5 hB] at z;cases z),fun B' sl' e hB' eB'=>?_⟩
   have eBB:=at2 e
   subst eBB
   rw [eB] at eB'
   cases eB'
   exact ⟨fun hA q H8 s8 e8=>kk q .non H8 s8 e8 (.inl ⟨hA,rfl⟩),fun hA k j q r lo hi H8 er RO hl s8 e8 e9 elo ehi=>kk q (.ref r) H8 s8 e8 (.inr ⟨hA,k,j,r,lo,hi,rfl,er,RO,hl,e9,elo,ehi⟩)⟩
  refine i8 (fun σ H7=>∃ fv,σ=[some (.ref as),some (.int (0+(i:Int))),some (.ref u),some (.ref ah),some (.ref ab),some vb,some (.ref ahd),some (.str "told"),some fv]∧d5 H6 H7∧aI5 K H7 B hair sl.1 fv) (fun N hN=>?_) ?_
  ·subst_eqs
   exact ask (d5.refl _) fun p fv H8 s8 e8 F8=>⟨p,rfl,_,SqT.of e8,rfl,_,_,rfl,_,_,rfl,rfl,hN _ _ ⟨fv,rfl,s8,F8⟩⟩
  rintro σ H7 ⟨fv,rfl,s7,F7⟩
  refine i8 (fun σ H8=>σ=[some (.ref as),some (.int (0+(i:Int))),some (.ref u),some (.ref ah),some (.ref ab),some vb,some (.ref ahd),some (.str "told"),some fv]∧d5 H6 H8) (fun N hN=>?_) ?_
  ·subst_eqs
   refine ⟨rfl,?_⟩
   refine ⟨ab,ts,B,sl,_,hair,fv,rfl,s7 _ _ eb6,sp6.mono s7.tups,hB,ov,eB,⟨ah,rfl,SqT.of (s7 _ _ eh6)⟩,bh,F7,fun H8 s8=>⟨true,rfl,v6 (fun z=>by cases z) (fun _=>?_)⟩⟩
   refine ask (s7.trans s8) fun p fv' H9 s9 e9 F9=>⟨v5,fun p2 hp2=>?_⟩
   have S2:=d5.new hp2 (.tup [.str "told",fv])
   have S:=s8.trans (s9.trans S2)
   refine ⟨dTF B hair sl.1,dTF B hair sl.1,rfl,.tup (SqT.of (S2 _ _ e9)) (.cons (.v rfl) (.cons (F9.same S2).isD .nil)),.tup (SqT.of b8) (.cons (.v rfl) (.cons (F7.same S).isD .nil)),ar1 _,bq1 _ _ _,?_⟩
   rw [bm9]
   exact ⟨false,rfl,v6 (fun h=>absurd h (by decide)) (fun _=>hN _ _ ⟨rfl,s7.trans S⟩)⟩
  rintro σ H8 ⟨rfl,s8⟩
  have sp8:=sp6.mono s8.tups
  subst_eqs
  refine ⟨L5 B,L5 B,rfl,sp8.isD (s8 _ _ ehd),sp8.isD (s8 _ _ eb6),ar1 _,bn3 _,?_⟩
  rw [bf7]
  refine ⟨false,rfl,v6 (fun h=>absurd h (by decide)) (fun _=>?_)⟩
  have fin:∀ H9,d5 H8 H9→I (i+1) [some (.ref as),some (.int (0+(i:Int))),some (.ref u),some (.ref ah),some (.ref ab),some vb,some (.ref ahd),some (.str "told"),some fv] H9:=fun H9 s9=>(hI _ _ _).mpr ⟨_,_,_,_,_,_,_,_,rfl,(s6.trans (d5.x (s8.trans s9) u)).seq fu hS1⟩
  refine ⟨vb,db,rfl,(ib6.same s8).isD,sb6,fun H9 s9=>⟨_,rfl,?_⟩⟩
  refine v6 (fun hb=>?_) (fun _=>fin _ s9)
  have nb:∀ B',db=L5 B'→R5 B'→False:=fun B' e hB'=>by rw [e,at5 hB'] at hb;cases hb
  refine ⟨vb,db,_,hair,rfl,ib6.same (s8.trans s9),sb6,⟨ah,rfl,SqT.of (s9 _ _ (s8 _ _ eh6))⟩,bh,h6,fun B' e hB'=>(nb B' e hB').elim,fun _ r HA sA eA=>⟨v5,fun p hp=>?_⟩,fun B' sl' e hB' _=>(nb B' e hB').elim⟩
  have Sp:=d5.new hp (.tup [.str "refused",.str "box"])
  refine ⟨aa7 "refused" "box",aa7 "refused" "box",rfl,aH3 (SqT.of (Sp _ _ eA)),aH3 (SqT.of b8),aY1 _ _ _ _,bf9 _ _,?_⟩
  rw [ba3]
  exact ⟨false,rfl,v6 (fun h=>absurd h (by decide)) (fun _=>fin _ (s9.trans (sA.trans Sp)))⟩
 ·intro σ H1 hI1
  obtain ⟨o1,o2,o3,o4,o5,o6,o7,o8,rfl,_⟩:=(hI _ _ _).mp hI1
  subst_eqs
  exact k _
end
end R
set_option maxRecDepth 100000
def PySem.W.Fast.tw17498846603435071764:Unit:=()
def PySem.W.Fast.tw13664613709190806536:Unit:=()
def PySem.W.Fast.tw4009800141658806255:Unit:=()
def PySem.W.Fast.tw9198288007258189500:Unit:=()
def PySem.W.Fast.tw10484608504675341645:Unit:=()
def PySem.W.Fast.tw5752378757533334397:Unit:=()
def PySem.W.Fast.tw9714014353134252879:Unit:=()
def PySem.W.Fast.tw15674638988095168540:Unit:=()
def PySem.W.Fast.tw3593450529059071335:Unit:=()
def PySem.W.Fast.tw8502439704558927029:Unit:=()
def PySem.W.Fast.tw15250468085524247072:Unit:=()
def PySem.W.Fast.tw3314647634643887548:Unit:=()
def PySem.W.Fast.tw944547863653104661:Unit:=()
def PySem.W.Fast.tw8805334361273192039:Unit:=()
def PySem.W.Fast.tw61142813696981450:Unit:=()
def PySem.W.Fast.tw463752023592675992:Unit:=()
def PySem.W.Fast.tw12849290117861718034:Unit:=()
def PySem.W.Fast.tw1184210313494476197:Unit:=()
def PySem.W.Fast.tw10420012476640838496:Unit:=()
def PySem.W.Fast.tw10938985284184789378:Unit:=()
def PySem.W.Fast.tw6905904520134648215:Unit:=()
def PySem.W.Fast.tw4623838301143988639:Unit:=()
def PySem.W.Fast.tw16935370919897206867:Unit:=()
def PySem.W.Fast.tw7256032158113178034:Unit:=()
def PySem.W.Fast.tw12793246753844310391:Unit:=()
def PySem.W.Fast.tw969806259597185958:Unit:=()
def PySem.W.Fast.tw15001727242189300419:Unit:=()
def PySem.W.Fast.tw3932206994752358790:Unit:=()
def PySem.W.Fast.tw13548982159355355126:Unit:=()
def PySem.W.Fast.tw10378711944325325174:Unit:=()
def PySem.W.Fast.tw3208827677568857466:Unit:=()
def PySem.W.Fast.tw4657007005508724461:Unit:=()
def PySem.W.Fast.tw13148585978539698523:Unit:=()
def PySem.W.Fast.tw6993044733215071165:Unit:=()
def PySem.W.Fast.tw17945360968431281713:Unit:=()
def PySem.W.Fast.tw770167446365318884:Unit:=()
def PySem.W.Fast.tw11601072180026423394:Unit:=()
def PySem.W.Fast.tw12060041052302184706:Unit:=()
def PySem.W.Fast.tw6508417532189314975:Unit:=()
def PySem.W.Fast.tw12980378650905589160:Unit:=()
def PySem.W.Fast.tw9282935479430609185:Unit:=()
def PySem.W.Fast.tw9834276374490053443:Unit:=()
def PySem.W.Fast.tw1022113823566163939:Unit:=()
def PySem.W.Fast.tw7642400364337879088:Unit:=()
def PySem.W.Fast.tw15459751056753460068:Unit:=()
def PySem.W.Fast.tw9819212916104072264:Unit:=()
def PySem.W.Fast.tw17712978041684813487:Unit:=()
def PySem.W.Fast.tw5262908441483964202:Unit:=()
def PySem.W.Fast.tw4575789876495300866:Unit:=()
def PySem.W.Fast.tw5744727327623074442:Unit:=()
def PySem.W.Fast.tw5427694306148474172:Unit:=()
def PySem.W.Fast.tw15959346984925329349:Unit:=()
def PySem.W.Fast.tw9354112084814076748:Unit:=()
def PySem.W.Fast.tw10929091541306746392:Unit:=()
def PySem.W.Fast.tw7738619811220898332:Unit:=()
def PySem.W.Fast.tw10076499297030494467:Unit:=()
def PySem.W.Fast.tw7838005030366039425:Unit:=()
def PySem.W.Fast.tw1863240734155933515:Unit:=()
def PySem.W.Fast.tw59943887637091178:Unit:=()
def PySem.W.Fast.tw10413516513884026171:Unit:=()
def PySem.W.Fast.tw12819846315228557163:Unit:=()
def PySem.W.Fast.tw3110168226301007496:Unit:=()
def PySem.W.Fast.tw224733345615381524:Unit:=()
def PySem.W.Fast.tw2428537882669015171:Unit:=()
def PySem.W.Fast.tw17242195415188568192:Unit:=()
def PySem.W.Fast.tw3475899527118386156:Unit:=()
def PySem.W.Fast.tw3150918303480976192:Unit:=()
def PySem.W.Fast.tw18142100308916695921:Unit:=()
def PySem.W.Fast.tw17715173800288447228:Unit:=()
def PySem.W.Fast.tw14437194328269148726:Unit:=()
def PySem.W.Fast.tw3497587410207660807:Unit:=()
def PySem.W.Fast.tw593961145881641265:Unit:=()
def PySem.W.Fast.tw8598119420077627631:Unit:=()
def PySem.W.Fast.tw7423407872425499549:Unit:=()
def PySem.W.Fast.tw8467057777171659797:Unit:=()
def PySem.W.Fast.tw11573962679963833930:Unit:=()
def PySem.W.Fast.tw3763550929015193596:Unit:=()
def PySem.W.Fast.tw1982582753093946965:Unit:=()
def PySem.W.Fast.tw6324688336271431361:Unit:=()
def PySem.W.Fast.tw633708804589610814:Unit:=()
def PySem.W.Fast.tw6442511370085360143:Unit:=()
def PySem.W.Fast.tw17514654604903525034:Unit:=()
def PySem.W.Fast.tw14539524524235231561:Unit:=()
def PySem.W.Fast.tw10699242048931357190:Unit:=()
def PySem.W.Fast.tw5185401263581198377:Unit:=()
def PySem.W.Fast.tw4444289522300007866:Unit:=()
def PySem.W.Fast.tw5437610566723928470:Unit:=()
def PySem.W.Fast.tw7509690792344380229:Unit:=()
def PySem.W.Fast.tw4693656586221312019:Unit:=()
def PySem.W.Fast.tw17751976348944177133:Unit:=()
def PySem.W.Fast.tw7903600616392954879:Unit:=()
def PySem.W.Fast.tw6595556573855121529:Unit:=()
def PySem.W.Fast.tw13734601960286293615:Unit:=()
def PySem.W.Fast.tw14610374397194052264:Unit:=()
def PySem.W.Fast.tw10085384518971856076:Unit:=()
def PySem.W.Fast.tw13252690607095872940:Unit:=()
def PySem.W.Fast.tw2048002345599697538:Unit:=()
def PySem.W.Fast.tw2784784073244486833:Unit:=()
def PySem.W.Fast.tw5344235604398309973:Unit:=()
def PySem.W.Fast.tw14038555647841963480:Unit:=()
def PySem.W.Fast.tw8814358188461270389:Unit:=()
def PySem.W.Fast.tw11057424007944000718:Unit:=()
def PySem.W.Fast.tw15154809934094605770:Unit:=()
def PySem.W.Fast.tw12069561957947482217:Unit:=()
def PySem.W.Fast.tw17241366856025274347:Unit:=()
def PySem.W.Fast.tw14317359337454977434:Unit:=()
def PySem.W.Fast.tw11843307575497135403:Unit:=()
def PySem.W.Fast.tw11801131719092428132:Unit:=()
def PySem.W.Fast.tw9771210942194195707:Unit:=()
def PySem.W.Fast.tw7596824206334596330:Unit:=()
def PySem.W.Fast.tw6962177972832111081:Unit:=()
def PySem.W.Fast.tw12358340646315015083:Unit:=()
def PySem.W.Fast.tw5755022972236783660:Unit:=()
def PySem.W.Fast.tw2363900463957972944:Unit:=()
def PySem.W.Fast.tw13981296415566860609:Unit:=()
def PySem.W.Fast.tw14921839467191275372:Unit:=()
def PySem.W.Fast.tw9794030096181189640:Unit:=()
def PySem.W.Fast.tw10182955729531852508:Unit:=()
def PySem.W.Fast.tw17396849547686613837:Unit:=()
def PySem.W.Fast.tw5358075974089832053:Unit:=()
def PySem.W.Fast.tw6359099746246455098:Unit:=()
def PySem.W.Fast.tw9636195433424841936:Unit:=()
def PySem.W.Fast.tw8172484184292396485:Unit:=()
def PySem.W.Fast.tw7664423073508170265:Unit:=()
def PySem.W.Fast.tw1511952926885966157:Unit:=()
def PySem.W.Fast.tw5420363817951920194:Unit:=()
def PySem.W.Fast.tw13924175703460047100:Unit:=()
def PySem.W.Fast.tw5817378246222526214:Unit:=()
def PySem.W.Fast.tw207035652647905062:Unit:=()
def PySem.W.Fast.tw4699007440405709475:Unit:=()
def PySem.W.Fast.tw4929168306695067264:Unit:=()
def PySem.W.Fast.tw15793968113786757919:Unit:=()
def PySem.W.Fast.tw3476061157128919683:Unit:=()
def PySem.W.Fast.tw4793965359471662401:Unit:=()
def PySem.W.Fast.tw11012724488059056022:Unit:=()
def PySem.W.Fast.tw14610975779774544270:Unit:=()
def PySem.W.Fast.tw3778426632743970114:Unit:=()
def PySem.W.Fast.tw670041560032608448:Unit:=()
def PySem.W.Fast.tw1685578618445157903:Unit:=()
def PySem.W.Fast.tw15160488614526388487:Unit:=()
def PySem.W.Fast.tw17285059263068736553:Unit:=()
def PySem.W.Fast.tw18329330055668232423:Unit:=()
def PySem.W.Fast.tw7128379700326069230:Unit:=()
def PySem.W.Fast.tw8331266632688905590:Unit:=()
def PySem.W.Fast.tw8997928899756851121:Unit:=()
def PySem.W.Fast.tw16597287556509241512:Unit:=()
def PySem.W.Fast.tw11889474329582734004:Unit:=()
def PySem.W.Fast.tw14689836017090577629:Unit:=()
def PySem.W.Fast.tw15270738138619557414:Unit:=()
def PySem.W.Fast.tw8876839247444618347:Unit:=()
def PySem.W.Fast.tw5221141567331148270:Unit:=()
def PySem.W.Fast.tw11547573864397492753:Unit:=()
def PySem.W.Fast.tw11219129133467296416:Unit:=()
def PySem.W.Fast.tw4489081379350940213:Unit:=()
def PySem.W.Fast.tw1728905748142841976:Unit:=()
def PySem.W.Fast.tw13088284094559706619:Unit:=()
def PySem.W.Fast.tw2013744988837161966:Unit:=()
def PySem.W.Fast.tw12393842663772940508:Unit:=()
def PySem.W.Fast.tw6223059255500117023:Unit:=()
def PySem.W.Fast.tw7849165145383515682:Unit:=()
def PySem.W.Fast.tw5801641784180072335:Unit:=()
def PySem.W.Fast.tw6062270586242376091:Unit:=()
def PySem.W.Fast.tw18396504617782534466:Unit:=()
def PySem.W.Fast.tw4169567851989935037:Unit:=()
def PySem.W.Fast.tw15313975466154407653:Unit:=()
def PySem.W.Fast.tw6939130946825181694:Unit:=()
def PySem.W.Fast.tw7577024466784865734:Unit:=()
def PySem.W.Fast.tw14082508456937060695:Unit:=()
def PySem.W.Fast.tw4113362199155642124:Unit:=()
def PySem.W.Fast.tw5073095800081342859:Unit:=()
def PySem.W.Fast.tw10026581289246711651:Unit:=()
def PySem.W.Fast.tw9767720697005509671:Unit:=()
def PySem.W.Fast.tw5259006790777663333:Unit:=()
def PySem.W.Fast.tw15606682040432886914:Unit:=()
def PySem.W.Fast.tw690777348645973209:Unit:=()
def PySem.W.Fast.tw4173701822807479103:Unit:=()
def PySem.W.Fast.tw11242480680432427133:Unit:=()
def PySem.W.Fast.tw15186861319668988500:Unit:=()
def PySem.W.Fast.tw18298573906401634470:Unit:=()
def PySem.W.Fast.tw2523925658309817714:Unit:=()
def PySem.W.Fast.tw16649894221110726213:Unit:=()
def PySem.W.Fast.tw17511811286472845938:Unit:=()
def PySem.W.Fast.tw14873708511209431031:Unit:=()
def PySem.W.Fast.tw7419931113325412907:Unit:=()
def PySem.W.Fast.tw7714655312091061306:Unit:=()
def PySem.W.Fast.tw2315099150657247732:Unit:=()
def PySem.W.Fast.tw1373235088918513468:Unit:=()
def PySem.W.Fast.tw5222113740044892811:Unit:=()
def PySem.W.Fast.tw17141947261344606516:Unit:=()
def PySem.W.Fast.tw13439218080429751826:Unit:=()
def PySem.W.Fast.tw5389582016960118013:Unit:=()
def PySem.W.Fast.tw11189043739233078549:Unit:=()
def PySem.W.Fast.tw12255701048421465058:Unit:=()
def PySem.W.Fast.tw9478921663791629602:Unit:=()
def PySem.W.Fast.tw13408248494559092152:Unit:=()
def PySem.W.Fast.tw6886432715135065835:Unit:=()
def PySem.W.Fast.tw4017662505969434490:Unit:=()
def PySem.W.Fast.tw10143065604215102397:Unit:=()
def PySem.W.Fast.tw14568109850495533211:Unit:=()
def PySem.W.Fast.tw11397619851020367781:Unit:=()
def PySem.W.Fast.tw9180576235308706583:Unit:=()
def PySem.W.Fast.tw9044311003173875499:Unit:=()
def PySem.W.Fast.tw2788206635767820469:Unit:=()
def PySem.W.Fast.tw14905017309638003302:Unit:=()
def PySem.W.Fast.tw10376916906799884276:Unit:=()
def PySem.W.Fast.tw6437074336489357513:Unit:=()
def PySem.W.Fast.tw12397158435035487809:Unit:=()
def PySem.W.Fast.tw569163979110425753:Unit:=()
def PySem.W.Fast.tw11917269307159275992:Unit:=()
def PySem.W.Fast.tw816968944086288473:Unit:=()
def PySem.W.Fast.tw11855619036283795102:Unit:=()
def PySem.W.Fast.tw12557358825847016808:Unit:=()
def PySem.W.Fast.tw12169064015792762605:Unit:=()
def PySem.W.Fast.tw2603536723140727419:Unit:=()
def PySem.W.Fast.tw2635463661409941224:Unit:=()
def PySem.W.Fast.tw122658399539636925:Unit:=()
def PySem.W.Fast.tw12850256813049162763:Unit:=()
def PySem.W.Fast.tw4876951751034448356:Unit:=()
def PySem.W.Fast.tw12352853138390688475:Unit:=()
def PySem.W.Fast.tw6089590691803885901:Unit:=()
def PySem.W.Fast.tw18143185528221697591:Unit:=()
def PySem.W.Fast.tw910232143519027999:Unit:=()
def PySem.W.Fast.tw1639838723522233485:Unit:=()
def PySem.W.Fast.tw14948770704403613617:Unit:=()
def PySem.W.Fast.tw17969807587513064701:Unit:=()
def PySem.W.Fast.tw9070781746929278758:Unit:=()
def PySem.W.Fast.tw14863356210180596465:Unit:=()
def PySem.W.Fast.tw10649554179649051946:Unit:=()
def PySem.W.Fast.tw15362553677391061:Unit:=()
def PySem.W.Fast.tw16133303938783937905:Unit:=()
def PySem.W.Fast.tw8795959547599429669:Unit:=()
def PySem.W.Fast.tw12092472215432223911:Unit:=()
def PySem.W.Fast.tw17171911768302409132:Unit:=()
def PySem.W.Fast.tw1301038988043020262:Unit:=()
def PySem.W.Fast.tw7503432636701696925:Unit:=()
def PySem.W.Fast.tw16768614283235311627:Unit:=()
def PySem.W.Fast.tw6925273173124099407:Unit:=()
def PySem.W.Fast.tw16694725713863681723:Unit:=()
def PySem.W.Fast.tw16999895318689752420:Unit:=()
def PySem.W.Fast.tw14694687048035445910:Unit:=()
def PySem.W.Fast.tw16780229862937818479:Unit:=()
def PySem.W.Fast.tw3145298958152537895:Unit:=()
def PySem.W.Fast.tw2138193758064128854:Unit:=()
def PySem.W.Fast.tw7907014417388871127:Unit:=()
def PySem.W.Fast.tw15354974383482232480:Unit:=()
def PySem.W.Fast.tw5470227639235226604:Unit:=()
def PySem.W.Fast.tw7392428032259862303:Unit:=()
def PySem.W.Fast.tw2614318233072994897:Unit:=()
def PySem.W.Fast.tw9850153863132932701:Unit:=()
def PySem.W.Fast.tw12468988985757926405:Unit:=()
def PySem.W.Fast.tw7973173318568500175:Unit:=()
def PySem.W.Fast.tw14805026152906945206:Unit:=()
def PySem.W.Fast.tw11093635373962181705:Unit:=()
def PySem.W.Fast.tw18271483569827843791:Unit:=()
def PySem.W.Fast.tw15307487017158547572:Unit:=()
def PySem.W.Fast.tw2039535206132628418:Unit:=()
def PySem.W.Fast.tw5220041796634468941:Unit:=()
def PySem.W.Fast.tw13684000586544107849:Unit:=()
def PySem.W.Fast.tw3951622037473621214:Unit:=()
def PySem.W.Fast.tw8934794725904889683:Unit:=()
def PySem.W.Fast.tw13955225136922721604:Unit:=()
def PySem.W.Fast.tw3957390244249186857:Unit:=()
def PySem.W.Fast.tw6984774683237439022:Unit:=()
def PySem.W.Fast.tw18099949726995615827:Unit:=()
def PySem.W.Fast.tw863700934495855655:Unit:=()
def PySem.W.Fast.tw2968674759458501421:Unit:=()
def PySem.W.Fast.tw11778522607063724919:Unit:=()
def PySem.W.Fast.tw2148375542528351586:Unit:=()
def PySem.W.Fast.tw1691248781238277530:Unit:=()
def PySem.W.Fast.tw1524153047444838792:Unit:=()
def PySem.W.Fast.tw8299027424344932581:Unit:=()
def PySem.W.Fast.tw17001250494855768287:Unit:=()
def PySem.W.Fast.tw4625677998557463810:Unit:=()
def PySem.W.Fast.tw9501914632262938243:Unit:=()
def PySem.W.Fast.tw4415650676310631244:Unit:=()
def PySem.W.Fast.tw13085051117128088565:Unit:=()
def PySem.W.Fast.tw715339980661101083:Unit:=()
def PySem.W.Fast.tw3168901939037179426:Unit:=()
def PySem.W.Fast.tw5010605579830837807:Unit:=()
def PySem.W.Fast.tw6574194329048897684:Unit:=()
def PySem.W.Fast.tw4237795380276510166:Unit:=()
def PySem.W.Fast.tw9024596625953359951:Unit:=()
def PySem.W.Fast.tw18099275261469628351:Unit:=()
def PySem.W.Fast.tw6007596589232669221:Unit:=()
def PySem.W.Fast.tw1568456962594163654:Unit:=()
def PySem.W.Fast.tw14077445261683700815:Unit:=()
def PySem.W.Fast.tw4752646200105165670:Unit:=()
def PySem.W.Fast.tw11197910165538417198:Unit:=()
def PySem.W.Fast.tw14823283499037367230:Unit:=()
def PySem.W.Fast.tw8052326451553360440:Unit:=()
def PySem.W.Fast.tw1621334141551991674:Unit:=()
def PySem.W.Fast.tw3624619635673632143:Unit:=()
def PySem.W.Fast.tw15243103737757807425:Unit:=()
def PySem.W.Fast.tw4213282498547828112:Unit:=()
def PySem.W.Fast.tw17180673368123649403:Unit:=()
def PySem.W.Fast.tw11772273884479779416:Unit:=()
def PySem.W.Fast.tw4124639159751707541:Unit:=()
def PySem.W.Fast.tw3757884343505979774:Unit:=()
def PySem.W.Fast.tw12075857203957701937:Unit:=()
def PySem.W.Fast.tw13328072366514188346:Unit:=()
def PySem.W.Fast.tw10214020073747291877:Unit:=()
def PySem.W.Fast.tw12481728218293338609:Unit:=()
def PySem.W.Fast.tw372981047870962488:Unit:=()
def PySem.W.Fast.tw12850163854574683384:Unit:=()
def PySem.W.Fast.tw5889256827090945657:Unit:=()
def PySem.W.Fast.tw5433035641976378035:Unit:=()
def PySem.W.Fast.tw14541903427375334344:Unit:=()
def PySem.W.Fast.tw18343944945309551901:Unit:=()
def PySem.W.Fast.tw16507787677415647736:Unit:=()
def PySem.W.Fast.tw18356164171463292229:Unit:=()
def PySem.W.Fast.tw2338720474979842443:Unit:=()
def PySem.W.Fast.tw2219428226468875126:Unit:=()
def PySem.W.Fast.tw10004649509747970521:Unit:=()
def PySem.W.Fast.tw9988064323730946416:Unit:=()
def PySem.W.Fast.tw14269103183150134220:Unit:=()
def PySem.W.Fast.tw4985468204825264764:Unit:=()
def PySem.W.Fast.tw880190624503612267:Unit:=()
def PySem.W.Fast.tw15391942217378538877:Unit:=()
def PySem.W.Fast.tw14338097096882193643:Unit:=()
def PySem.W.Fast.tw12565331686083863474:Unit:=()
def PySem.W.Fast.tw1097227564964566578:Unit:=()
def PySem.W.Fast.tw11525426871799161983:Unit:=()
def PySem.W.Fast.tw9304841745277437575:Unit:=()
def PySem.W.Fast.tw9802585761785603333:Unit:=()
def PySem.W.Fast.tw12694556517003350568:Unit:=()
def PySem.W.Fast.tw9538206053320133580:Unit:=()
def PySem.W.Fast.tw10574293001337149437:Unit:=()
def PySem.W.Fast.tw11658981011920394712:Unit:=()
def PySem.W.Fast.tw4475600133644614674:Unit:=()
def PySem.W.Fast.tw13685437352377489886:Unit:=()
def PySem.W.Fast.tw4844579416694419232:Unit:=()
def PySem.W.Fast.tw14610910606797410290:Unit:=()
def PySem.W.Fast.tw14382622502927567894:Unit:=()
def PySem.W.Fast.tw869267457358235650:Unit:=()
def PySem.W.Fast.tw13608116584975193885:Unit:=()
def PySem.W.Fast.tw15787006413930477828:Unit:=()
def PySem.W.Fast.tw6043669258534061507:Unit:=()
def PySem.W.Fast.tw18311977961595651117:Unit:=()
def PySem.W.Fast.tw292771910988660810:Unit:=()
def PySem.W.Fast.tw7570931053406950342:Unit:=()
def PySem.W.Fast.tw8833314140212878699:Unit:=()
def PySem.W.Fast.tw4840485787096499475:Unit:=()
def PySem.W.Fast.tw4886888662424357509:Unit:=()
def PySem.W.Fast.tw9881001155376548659:Unit:=()
def PySem.W.Fast.tw13197101594165982850:Unit:=()
def PySem.W.Fast.tw2966588824527193437:Unit:=()
def PySem.W.Fast.tw1359544001848425288:Unit:=()
def PySem.W.Fast.tw1697495690561791139:Unit:=()
def PySem.W.Fast.tw7556262539304445227:Unit:=()
def PySem.W.Fast.tw5168526200856074261:Unit:=()
def PySem.W.Fast.tw973413506260116251:Unit:=()
namespace R
open PySem L2 PyProof.Rows
section
variable {l:PySem.W.OpenLaw} {w:World} {K:PySem.W.Frag} {h:Heap} {mg:Str→Option Value}
set_option maxHeartbeats 0 in
theorem bn7 {fa f0 f1 f2 f3 f4 f5 f6 f7 f8 f9 f10 f11 f12 f13 f14 f15 f16 f17 f18 f19 f20 f21 f22 f23 f24 f25 f26 f27 f28 f29 f30 f31 f32 f33 f34 f35 f36 f37 f38 f39 f40 f41 f42 f43 f44 f45 f46 f47:Addr} {C_NoFraction C_NoPolynomial C_NoStretch C_NoRow C_NoPair C_NoBack C_NoForm C_NoParts C_NoDegree C_NoSteps C_NoBox C_NoGain C_NoText C_NoLine C_NoName C_NoDeed C_RestError:Addr} {od0 an0:Option Addr} {sl0:Array (Option Value)} {oc0 kV0 dc0 pm0 cd0 ct0:Value} {od1 an1:Option Addr} {sl1:Array (Option Value)} {oc1 kV1 dc1 pm1 cd1 ct1:Value} {od2 an2:Option Addr} {sl2:Array (Option Value)} {oc2 kV2 dc2 pm2 cd2 ct2:Value} {od3 an3:Option Addr} {sl3:Array (Option Value)} {oc3 kV3 dc3 pm3 cd3 ct3:Value} {od4 an4:Option Addr} {sl4:Array (Option Value)} {oc4 kV4 dc4 pm4 cd4 ct4:Value} {od5 an5:Option Addr} {sl5:Array (Option Value)} {oc5 kV5 dc5 pm5 cd5 ct5:Value} {od6 an6:Option Addr} {sl6:Array (Option Value)} {oc6 kV6 dc6 pm6 cd6 ct6:Value} {od7 an7:Option Addr} {sl7:Array (Option Value)} {oc7 kV7 dc7 pm7 cd7 ct7:Value} {od8 an8:Option Addr} {sl8:Array (Option Value)} {oc8 kV8 dc8 pm8 cd8 ct8:Value} {od9 an9:Option Addr} {sl9:Array (Option Value)} {oc9 kV9 dc9 pm9 cd9 ct9:Value} {od10 an10:Option Addr} {sl10:Array (Option Value)} {oc10 kV10 dc10 pm10 cd10 ct10:Value} {od11 an11:Option Addr} {sl11:Array (Option Value)} {oc11 kV11 dc11 pm11 cd11 ct11:Value} {od12 an12:Option Addr} {sl12:Array (Option Value)} {oc12 kV12 dc12 pm12 cd12 ct12:Value} {od13 an13:Option Addr} {sl13:Array (Option Value)} {oc13 kV13 dc13 pm13 cd13 ct13:Value} {od14 an14:Option Addr} {sl14:Array (Option Value)} {oc14 kV14 dc14 pm14 cd14 ct14:Value} {od15 an15:Option Addr} {sl15:Array (Option Value)} {oc15 kV15 dc15 pm15 cd15 ct15:Value} {od16 an16:Option Addr} {sl16:Array (Option Value)} {oc16 kV16 dc16 pm16 cd16 ct16:Value} {od17 an17:Option Addr} {sl17:Array (Option Value)} {oc17 kV17 dc17 pm17 cd17 ct17:Value} {od18 an18:Option Addr} {sl18:Array (Option Value)} {oc18 kV18 dc18 pm18 cd18 ct18:Value} {od19 an19:Option Addr} {sl19:Array (Option Value)} {oc19 kV19 dc19 pm19 cd19 ct19:Value} {od20 an20:Option Addr} {sl20:Array (Option Value)} {oc20 kV20 dc20 pm20 cd20 ct20:Value} {od21 an21:Option Addr} {sl21:Array (Option Value)} {oc21 kV21 dc21 pm21 cd21 ct21:Value} {od22 an22:Option Addr} {sl22:Array (Option Value)} {oc22 kV22 dc22 pm22 cd22 ct22:Value} {od23 an23:Option Addr} {sl23:Array (Option Value)} {oc23 kV23 dc23 pm23 cd23 ct23:Value} {od24 an24:Option Addr} {sl24:Array (Option Value)} {oc24 kV24 dc24 pm24 cd24 ct24:Value} {od25 an25:Option Addr} {sl25:Array (Option Value)} {oc25 kV25 dc25 pm25 cd25 ct25:Value} {od26 an26:Option Addr} {sl26:Array (Option Value)} {oc26 kV26 dc26 pm26 cd26 ct26:Value} {od27 an27:Option Addr} {sl27:Array (Option Value)} {oc27 kV27 dc27 pm27 cd27 ct27:Value} {od28 an28:Option Addr} {sl28:Array (Option Value)} {oc28 kV28 dc28 pm28 cd28 ct28:Value} {od29 an29:Option Addr} {sl29:Array (Option Value)} {oc29 kV29 dc29 pm29 cd29 ct29:Value} {od30 an30:Option Addr} {sl30:Array (Option Value)} {oc30 kV30 dc30 pm30 cd30 ct30:Value} {od31 an31:Option Addr} {sl31:Array (Option Value)} {oc31 kV31 dc31 pm31 cd31 ct31:Value} {od32 an32:Option Addr} {sl32:Array (Option Value)} {oc32 kV32 dc32 pm32 cd32 ct32:Value} {od33 an33:Option Addr} {sl33:Array (Option Value)} {oc33 kV33 dc33 pm33 cd33 ct33:Value} {od34 an34:Option Addr} {sl34:Array (Option Value)} {oc34 kV34 dc34 pm34 cd34 ct34:Value} {od35 an35:Option Addr} {sl35:Array (Option Value)} {oc35 kV35 dc35 pm35 cd35 ct35:Value} {od36 an36:Option Addr} {sl36:Array (Option Value)} {oc36 kV36 dc36 pm36 cd36 ct36:Value} {od37 an37:Option Addr} {sl37:Array (Option Value)} {oc37 kV37 dc37 pm37 cd37 ct37:Value} {od38 an38:Option Addr} {sl38:Array (Option Value)} {oc38 kV38 dc38 pm38 cd38 ct38:Value} {od39 an39:Option Addr} {sl39:Array (Option Value)} {oc39 kV39 dc39 pm39 cd39 ct39:Value} {od40 an40:Option Addr} {sl40:Array (Option Value)} {oc40 kV40 dc40 pm40 cd40 ct40:Value} {od41 an41:Option Addr} {sl41:Array (Option Value)} {oc41 kV41 dc41 pm41 cd41 ct41:Value} {od42 an42:Option Addr} {sl42:Array (Option Value)} {oc42 kV42 dc42 pm42 cd42 ct42:Value} {od43 an43:Option Addr} {sl43:Array (Option Value)} {oc43 kV43 dc43 pm43 cd43 ct43:Value} {od44 an44:Option Addr} {sl44:Array (Option Value)} {oc44 kV44 dc44 pm44 cd44 ct44:Value} {od45 an45:Option Addr} {sl45:Array (Option Value)} {oc45 kV45 dc45 pm45 cd45 ct45:Value} {od46 an46:Option Addr} {sl46:Array (Option Value)} {oc46 kV46 dc46 pm46 cd46 ct46:Value} {od47 an47:Option Addr} {sl47:Array (Option Value)} {oc47 kV47 dc47 pm47 cd47 ct47:Value} {t_SHORT:Tok} {t_LEAST:Tok} {t_MOST:Tok} {A_NOUGHT:Addr} {td_NOUGHT:Option Addr} {ts_NOUGHT:Array (Option Value)} {tn_NOUGHT:Nat} {tt0_NOUGHT tt1_NOUGHT:Tok} {A_SIDES:Addr} {td_SIDES:Option Addr} {ts_SIDES:Array (Option Value)} {tn_SIDES:Nat} {A0_SIDES:Addr} {td0_SIDES:Option Addr} {ts0_SIDES:Array (Option Value)} {tn0_SIDES:Nat} {tt0_0_SIDES tt0_1_SIDES tt0_2_SIDES tt0_3_SIDES:Tok} {A1_SIDES:Addr} {td1_SIDES:Option Addr} {ts1_SIDES:Array (Option Value)} {tn1_SIDES:Nat} {tt1_0_SIDES tt1_1_SIDES tt1_2_SIDES tt1_3_SIDES:Tok} {A2_SIDES:Addr} {td2_SIDES:Option Addr} {ts2_SIDES:Array (Option Value)} {tn2_SIDES:Nat} {tt2_0_SIDES tt2_1_SIDES tt2_2_SIDES tt2_3_SIDES:Tok} {A3_SIDES:Addr} {td3_SIDES:Option Addr} {ts3_SIDES:Array (Option Value)} {tn3_SIDES:Nat} {tt3_0_SIDES tt3_1_SIDES tt3_2_SIDES tt3_3_SIDES:Tok} {A_ONE:Addr} {td_ONE:Option Addr} {ts_ONE:Array (Option Value)} {tn_ONE:Nat} {tt0_ONE tt1_ONE:Tok}
  (X:K.In h) (G:h.Ns mainGlobals mg) (hfa:mg "law" = some (.ref fa))
  (a0:PySem.W.nsIn K mainGlobals "_law_low" = some (some (.ref f0)))
  (l0:K.lookup f0=some ⟨oc0,od0,.func (PySem.W.fnOf "_law_low" "_law_low" (j2 M5) (g9 M5) (d3 M5) .none kV0 dc0 pm0 an0 cd0 ct0),sl0⟩)
  (c0:PySem.W.codeIn K cd0 "_law_low" = true) (k0:PySem.W.keepIn K (.ref f0)=true)
  (a1:PySem.W.nsIn K mainGlobals "_law_urn" = some (some (.ref f1)))
  (l1:K.lookup f1=some ⟨oc1,od1,.func (PySem.W.fnOf "_law_urn" "_law_urn" (j2 M4) (g9 M4) (d3 M4) .none kV1 dc1 pm1 an1 cd1 ct1),sl1⟩)
  (c1:PySem.W.codeIn K cd1 "_law_urn" = true) (k1:PySem.W.keepIn K (.ref f1)=true)
  (a2:PySem.W.nsIn K mainGlobals "_law_draw" = some (some (.ref f2)))
  (l2:K.lookup f2=some ⟨oc2,od2,.func (PySem.W.fnOf "_law_draw" "_law_draw" (j2 J4) (g9 J4) (d3 J4) .none kV2 dc2 pm2 an2 cd2 ct2),sl2⟩)
  (c2:PySem.W.codeIn K cd2 "_law_draw" = true) (k2:PySem.W.keepIn K (.ref f2)=true)
  (a3:PySem.W.nsIn K mainGlobals "_law_number" = some (some (.ref f3)))
  (l3:K.lookup f3=some ⟨oc3,od3,.func (PySem.W.fnOf "_law_number" "_law_number" (j2 D0) (g9 D0) (d3 D0) .none kV3 dc3 pm3 an3 cd3 ct3),sl3⟩)
  (c3:PySem.W.codeIn K cd3 "_law_number" = true) (k3:PySem.W.keepIn K (.ref f3)=true)
  (a4:PySem.W.nsIn K mainGlobals "_law_whole" = some (some (.ref f4)))
  (l4:K.lookup f4=some ⟨oc4,od4,.func (PySem.W.fnOf "_law_whole" "_law_whole" (j2 E8) (g9 E8) (d3 E8) .none kV4 dc4 pm4 an4 cd4 ct4),sl4⟩)
  (c4:PySem.W.codeIn K cd4 "_law_whole" = true) (k4:PySem.W.keepIn K (.ref f4)=true)
  (a5:PySem.W.nsIn K mainGlobals "_law_is_number" = some (some (.ref f5)))
  (l5:K.lookup f5=some ⟨oc5,od5,.func (PySem.W.fnOf "_law_is_number" "_law_is_number" (j2 A9) (g9 A9) (d3 A9) .none kV5 dc5 pm5 an5 cd5 ct5),sl5⟩)
  (c5:PySem.W.codeIn K cd5 "_law_is_number" = true) (k5:PySem.W.keepIn K (.ref f5)=true)
  (a6:PySem.W.nsIn K mainGlobals "_law_other" = some (some (.ref f6)))
  (l6:K.lookup f6=some ⟨oc6,od6,.func (PySem.W.fnOf "_law_other" "_law_other" (j2 F2) (g9 F2) (d3 F2) .none kV6 dc6 pm6 an6 cd6 ct6),sl6⟩)
  (c6:PySem.W.codeIn K cd6 "_law_other" = true) (k6:PySem.W.keepIn K (.ref f6)=true)
  (a7:PySem.W.nsIn K mainGlobals "_law_trim" = some (some (.ref f7)))
  (l7:K.lookup f7=some ⟨oc7,od7,.func (PySem.W.fnOf "_law_trim" "_law_trim" (j2 G7) (g9 G7) (d3 G7) .none kV7 dc7 pm7 an7 cd7 ct7),sl7⟩)
  (c7:PySem.W.codeIn K cd7 "_law_trim" = true) (k7:PySem.W.keepIn K (.ref f7)=true)
  (a8:PySem.W.nsIn K mainGlobals "_law_plus" = some (some (.ref f8)))
  (l8:K.lookup f8=some ⟨oc8,od8,.func (PySem.W.fnOf "_law_plus" "_law_plus" (j2 J1) (g9 J1) (d3 J1) .none kV8 dc8 pm8 an8 cd8 ct8),sl8⟩)
  (c8:PySem.W.codeIn K cd8 "_law_plus" = true) (k8:PySem.W.keepIn K (.ref f8)=true)
  (a9:PySem.W.nsIn K mainGlobals "_law_times" = some (some (.ref f9)))
  (l9:K.lookup f9=some ⟨oc9,od9,.func (PySem.W.fnOf "_law_times" "_law_times" (j2 F1) (g9 F1) (d3 F1) .none kV9 dc9 pm9 an9 cd9 ct9),sl9⟩)
  (c9:PySem.W.codeIn K cd9 "_law_times" = true) (k9:PySem.W.keepIn K (.ref f9)=true)
  (a10:PySem.W.nsIn K mainGlobals "_law_poly_times" = some (some (.ref f10)))
  (l10:K.lookup f10=some ⟨oc10,od10,.func (PySem.W.fnOf "_law_poly_times" "_law_poly_times" (j2 A0) (g9 A0) (d3 A0) .none kV10 dc10 pm10 an10 cd10 ct10),sl10⟩)
  (c10:PySem.W.codeIn K cd10 "_law_poly_times" = true) (k10:PySem.W.keepIn K (.ref f10)=true)
  (a11:PySem.W.nsIn K mainGlobals "common_divisor" = some (some (.ref f11)))
  (l11:K.lookup f11=some ⟨oc11,od11,.func (PySem.W.fnOf "common_divisor" "common_divisor" (j2 A8) (g9 A8) (d3 A8) .none kV11 dc11 pm11 an11 cd11 ct11),sl11⟩)
  (c11:PySem.W.codeIn K cd11 "common_divisor" = true) (k11:PySem.W.keepIn K (.ref f11)=true)
  (a12:PySem.W.nsIn K mainGlobals "plus" = some (some (.ref f12)))
  (l12:K.lookup f12=some ⟨oc12,od12,.func (PySem.W.fnOf "plus" "plus" (j2 ae2) (g9 ae2) (d3 ae2) .none kV12 dc12 pm12 an12 cd12 ct12),sl12⟩)
  (c12:PySem.W.codeIn K cd12 "plus" = true) (k12:PySem.W.keepIn K (.ref f12)=true)
  (a13:PySem.W.nsIn K mainGlobals "less" = some (some (.ref f13)))
  (l13:K.lookup f13=some ⟨oc13,od13,.func (PySem.W.fnOf "less" "less" (j2 ae3) (g9 ae3) (d3 ae3) .none kV13 dc13 pm13 an13 cd13 ct13),sl13⟩)
  (c13:PySem.W.codeIn K cd13 "less" = true) (k13:PySem.W.keepIn K (.ref f13)=true)
  (a14:PySem.W.nsIn K mainGlobals "times" = some (some (.ref f14)))
  (l14:K.lookup f14=some ⟨oc14,od14,.func (PySem.W.fnOf "times" "times" (j2 Y5) (g9 Y5) (d3 Y5) .none kV14 dc14 pm14 an14 cd14 ct14),sl14⟩)
  (c14:PySem.W.codeIn K cd14 "times" = true) (k14:PySem.W.keepIn K (.ref f14)=true)
  (a15:PySem.W.nsIn K mainGlobals "is_whole" = some (some (.ref f15)))
  (l15:K.lookup f15=some ⟨oc15,od15,.func (PySem.W.fnOf "is_whole" "is_whole" (j2 M2) (g9 M2) (d3 M2) .none kV15 dc15 pm15 an15 cd15 ct15),sl15⟩)
  (c15:PySem.W.codeIn K cd15 "is_whole" = true) (k15:PySem.W.keepIn K (.ref f15)=true)
  (a16:PySem.W.nsIn K mainGlobals "is_number" = some (some (.ref f16)))
  (l16:K.lookup f16=some ⟨oc16,od16,.func (PySem.W.fnOf "is_number" "is_number" (j2 G5) (g9 G5) (d3 G5) .none kV16 dc16 pm16 an16 cd16 ct16),sl16⟩)
  (c16:PySem.W.codeIn K cd16 "is_number" = true) (k16:PySem.W.keepIn K (.ref f16)=true)
  (a17:PySem.W.nsIn K mainGlobals "_law_which" = some (some (.ref f17)))
  (l17:K.lookup f17=some ⟨oc17,od17,.func (PySem.W.fnOf "_law_which" "_law_which" (j2 E9) (g9 E9) (d3 E9) .none kV17 dc17 pm17 an17 cd17 ct17),sl17⟩)
  (c17:PySem.W.codeIn K cd17 "_law_which" = true) (k17:PySem.W.keepIn K (.ref f17)=true)
  (a18:PySem.W.nsIn K mainGlobals "is_below" = some (some (.ref f18)))
  (l18:K.lookup f18=some ⟨oc18,od18,.func (PySem.W.fnOf "is_below" "is_below" (j2 M3) (g9 M3) (d3 M3) .none kV18 dc18 pm18 an18 cd18 ct18),sl18⟩)
  (c18:PySem.W.codeIn K cd18 "is_below" = true) (k18:PySem.W.keepIn K (.ref f18)=true)
  (a19:PySem.W.nsIn K mainGlobals "_law_below" = some (some (.ref f19)))
  (l19:K.lookup f19=some ⟨oc19,od19,.func (PySem.W.fnOf "_law_below" "_law_below" (j2 F3) (g9 F3) (d3 F3) .none kV19 dc19 pm19 an19 cd19 ct19),sl19⟩)
  (c19:PySem.W.codeIn K cd19 "_law_below" = true) (k19:PySem.W.keepIn K (.ref f19)=true)
  (a20:PySem.W.nsIn K mainGlobals "is_span" = some (some (.ref f20)))
  (l20:K.lookup f20=some ⟨oc20,od20,.func (PySem.W.fnOf "is_span" "is_span" (j2 O6) (g9 O6) (d3 O6) .none kV20 dc20 pm20 an20 cd20 ct20),sl20⟩)
  (c20:PySem.W.codeIn K cd20 "is_span" = true) (k20:PySem.W.keepIn K (.ref f20)=true)
  (a21:PySem.W.nsIn K mainGlobals "is_box" = some (some (.ref f21)))
  (l21:K.lookup f21=some ⟨oc21,od21,.func (PySem.W.fnOf "is_box" "is_box" (j2 Q6) (g9 Q6) (d3 Q6) .none kV21 dc21 pm21 an21 cd21 ct21),sl21⟩)
  (c21:PySem.W.codeIn K cd21 "is_box" = true) (k21:PySem.W.keepIn K (.ref f21)=true)
  (a22:PySem.W.nsIn K mainGlobals "check_box" = some (some (.ref f22)))
  (l22:K.lookup f22=some ⟨oc22,od22,.func (PySem.W.fnOf "check_box" "check_box" (j2 G6) (g9 G6) (d3 G6) .none kV22 dc22 pm22 an22 cd22 ct22),sl22⟩)
  (c22:PySem.W.codeIn K cd22 "check_box" = true) (k22:PySem.W.keepIn K (.ref f22)=true)
  (a23:PySem.W.nsIn K mainGlobals "_law_is_box" = some (some (.ref f23)))
  (l23:K.lookup f23=some ⟨oc23,od23,.func (PySem.W.fnOf "_law_is_box" "_law_is_box" (j2 B8) (g9 B8) (d3 B8) .none kV23 dc23 pm23 an23 cd23 ct23),sl23⟩)
  (c23:PySem.W.codeIn K cd23 "_law_is_box" = true) (k23:PySem.W.keepIn K (.ref f23)=true)
  (a24:PySem.W.nsIn K mainGlobals "_law_bent" = some (some (.ref f24)))
  (l24:K.lookup f24=some ⟨oc24,od24,.func (PySem.W.fnOf "_law_bent" "_law_bent" (j2 K0) (g9 K0) (d3 K0) .none kV24 dc24 pm24 an24 cd24 ct24),sl24⟩)
  (c24:PySem.W.codeIn K cd24 "_law_bent" = true) (k24:PySem.W.keepIn K (.ref f24)=true)
  (a25:PySem.W.nsIn K mainGlobals "_law_less" = some (some (.ref f25)))
  (l25:K.lookup f25=some ⟨oc25,od25,.func (PySem.W.fnOf "_law_less" "_law_less" (j2 J3) (g9 J3) (d3 J3) .none kV25 dc25 pm25 an25 cd25 ct25),sl25⟩)
  (c25:PySem.W.codeIn K cd25 "_law_less" = true) (k25:PySem.W.keepIn K (.ref f25)=true)
  (a26:PySem.W.nsIn K mainGlobals "_law_above" = some (some (.ref f26)))
  (l26:K.lookup f26=some ⟨oc26,od26,.func (PySem.W.fnOf "_law_above" "_law_above" (j2 F4) (g9 F4) (d3 F4) .none kV26 dc26 pm26 an26 cd26 ct26),sl26⟩)
  (c26:PySem.W.codeIn K cd26 "_law_above" = true) (k26:PySem.W.keepIn K (.ref f26)=true)
  (a27:PySem.W.nsIn K mainGlobals "_law_drawn_box" = some (some (.ref f27)))
  (l27:K.lookup f27=some ⟨oc27,od27,.func (PySem.W.fnOf "_law_drawn_box" "_law_drawn_box" (j2 z8) (g9 z8) (d3 z8) .none kV27 dc27 pm27 an27 cd27 ct27),sl27⟩)
  (c27:PySem.W.codeIn K cd27 "_law_drawn_box" = true) (k27:PySem.W.keepIn K (.ref f27)=true)
  (a28:PySem.W.nsIn K mainGlobals "grown" = some (some (.ref f28)))
  (l28:K.lookup f28=some ⟨oc28,od28,.func (PySem.W.fnOf "grown" "grown" (j2 V2) (g9 V2) (d3 V2) .none kV28 dc28 pm28 an28 cd28 ct28),sl28⟩)
  (c28:PySem.W.codeIn K cd28 "grown" = true) (k28:PySem.W.keepIn K (.ref f28)=true)
  (a29:PySem.W.nsIn K mainGlobals "corners_of" = some (some (.ref f29)))
  (l29:K.lookup f29=some ⟨oc29,od29,.func (PySem.W.fnOf "corners_of" "corners_of" (j2 C7) (g9 C7) (d3 C7) .none kV29 dc29 pm29 an29 cd29 ct29),sl29⟩)
  (c29:PySem.W.codeIn K cd29 "corners_of" = true) (k29:PySem.W.keepIn K (.ref f29)=true)
  (a30:PySem.W.nsIn K mainGlobals "_law_corners" = some (some (.ref f30)))
  (l30:K.lookup f30=some ⟨oc30,od30,.func (PySem.W.fnOf "_law_corners" "_law_corners" (j2 v0) (g9 v0) (d3 v0) .none kV30 dc30 pm30 an30 cd30 ct30),sl30⟩)
  (c30:PySem.W.codeIn K cd30 "_law_corners" = true) (k30:PySem.W.keepIn K (.ref f30)=true)
  (a31:PySem.W.nsIn K mainGlobals "content_of" = some (some (.ref f31)))
  (l31:K.lookup f31=some ⟨oc31,od31,.func (PySem.W.fnOf "content_of" "content_of" (j2 E7) (g9 E7) (d3 E7) .none kV31 dc31 pm31 an31 cd31 ct31),sl31⟩)
  (c31:PySem.W.codeIn K cd31 "content_of" = true) (k31:PySem.W.keepIn K (.ref f31)=true)
  (a32:PySem.W.nsIn K mainGlobals "cleared" = some (some (.ref f32)))
  (l32:K.lookup f32=some ⟨oc32,od32,.func (PySem.W.fnOf "cleared" "cleared" (j2 N0) (g9 N0) (d3 N0) .none kV32 dc32 pm32 an32 cd32 ct32),sl32⟩)
  (c32:PySem.W.codeIn K cd32 "cleared" = true) (k32:PySem.W.keepIn K (.ref f32)=true)
  (a33:PySem.W.nsIn K mainGlobals "lifted" = some (some (.ref f33)))
  (l33:K.lookup f33=some ⟨oc33,od33,.func (PySem.W.fnOf "lifted" "lifted" (j2 N4) (g9 N4) (d3 N4) .none kV33 dc33 pm33 an33 cd33 ct33),sl33⟩)
  (c33:PySem.W.codeIn K cd33 "lifted" = true) (k33:PySem.W.keepIn K (.ref f33)=true)
  (a34:PySem.W.nsIn K mainGlobals "row_behind" = some (some (.ref f34)))
  (l34:K.lookup f34=some ⟨oc34,od34,.func (PySem.W.fnOf "row_behind" "row_behind" (j2 C6) (g9 C6) (d3 C6) .none kV34 dc34 pm34 an34 cd34 ct34),sl34⟩)
  (c34:PySem.W.codeIn K cd34 "row_behind" = true) (k34:PySem.W.keepIn K (.ref f34)=true)
  (a35:PySem.W.nsIn K mainGlobals "whole_dies" = some (some (.ref f35)))
  (l35:K.lookup f35=some ⟨oc35,od35,.func (PySem.W.fnOf "whole_dies" "whole_dies" (j2 C5) (g9 C5) (d3 C5) .none kV35 dc35 pm35 an35 cd35 ct35),sl35⟩)
  (c35:PySem.W.codeIn K cd35 "whole_dies" = true) (k35:PySem.W.keepIn K (.ref f35)=true)
  (a36:PySem.W.nsIn K mainGlobals "dies" = some (some (.ref f36)))
  (l36:K.lookup f36=some ⟨oc36,od36,.func (PySem.W.fnOf "dies" "dies" (j2 ae4) (g9 ae4) (d3 ae4) .none kV36 dc36 pm36 an36 cd36 ct36),sl36⟩)
  (c36:PySem.W.codeIn K cd36 "dies" = true) (k36:PySem.W.keepIn K (.ref f36)=true)
  (a37:PySem.W.nsIn K mainGlobals "middle" = some (some (.ref f37)))
  (l37:K.lookup f37=some ⟨oc37,od37,.func (PySem.W.fnOf "middle" "middle" (j2 U3) (g9 U3) (d3 U3) .none kV37 dc37 pm37 an37 cd37 ct37),sl37⟩)
  (c37:PySem.W.codeIn K cd37 "middle" = true) (k37:PySem.W.keepIn K (.ref f37)=true)
  (a38:PySem.W.nsIn K mainGlobals "all_die" = some (some (.ref f38)))
  (l38:K.lookup f38=some ⟨oc38,od38,.func (PySem.W.fnOf "all_die" "all_die" (j2 O7) (g9 O7) (d3 O7) .none kV38 dc38 pm38 an38 cd38 ct38),sl38⟩)
  (c38:PySem.W.codeIn K cd38 "all_die" = true) (k38:PySem.W.keepIn K (.ref f38)=true)
  (a39:PySem.W.nsIn K mainGlobals "room_of" = some (some (.ref f39)))
  (l39:K.lookup f39=some ⟨oc39,od39,.func (PySem.W.fnOf "room_of" "room_of" (j2 O5) (g9 O5) (d3 O5) .none kV39 dc39 pm39 an39 cd39 ct39),sl39⟩)
  (c39:PySem.W.codeIn K cd39 "room_of" = true) (k39:PySem.W.keepIn K (.ref f39)=true)
  (a40:PySem.W.nsIn K mainGlobals "_law_over" = some (some (.ref f40)))
  (l40:K.lookup f40=some ⟨oc40,od40,.func (PySem.W.fnOf "_law_over" "_law_over" (j2 J2) (g9 J2) (d3 J2) .none kV40 dc40 pm40 an40 cd40 ct40),sl40⟩)
  (c40:PySem.W.codeIn K cd40 "_law_over" = true) (k40:PySem.W.keepIn K (.ref f40)=true)
  (a41:PySem.W.nsIn K mainGlobals "_law_sign" = some (some (.ref f41)))
  (l41:K.lookup f41=some ⟨oc41,od41,.func (PySem.W.fnOf "_law_sign" "_law_sign" (j2 G8) (g9 G8) (d3 G8) .none kV41 dc41 pm41 an41 cd41 ct41),sl41⟩)
  (c41:PySem.W.codeIn K cd41 "_law_sign" = true) (k41:PySem.W.keepIn K (.ref f41)=true)
  (a42:PySem.W.nsIn K mainGlobals "_law_dies" = some (some (.ref f42)))
  (l42:K.lookup f42=some ⟨oc42,od42,.func (PySem.W.fnOf "_law_dies" "_law_dies" (j2 B9) (g9 B9) (d3 B9) .none kV42 dc42 pm42 an42 cd42 ct42),sl42⟩)
  (c42:PySem.W.codeIn K cd42 "_law_dies" = true) (k42:PySem.W.keepIn K (.ref f42)=true)
  (a43:PySem.W.nsIn K mainGlobals "_law_all_die" = some (some (.ref f43)))
  (l43:K.lookup f43=some ⟨oc43,od43,.func (PySem.W.fnOf "_law_all_die" "_law_all_die" (j2 B3) (g9 B3) (d3 B3) .none kV43 dc43 pm43 an43 cd43 ct43),sl43⟩)
  (c43:PySem.W.codeIn K cd43 "_law_all_die" = true) (k43:PySem.W.keepIn K (.ref f43)=true)
  (a44:PySem.W.nsIn K mainGlobals "_law_wide" = some (some (.ref f44)))
  (l44:K.lookup f44=some ⟨oc44,od44,.func (PySem.W.fnOf "_law_wide" "_law_wide" (j2 E3) (g9 E3) (d3 E3) .none kV44 dc44 pm44 an44 cd44 ct44),sl44⟩)
  (c44:PySem.W.codeIn K cd44 "_law_wide" = true) (k44:PySem.W.keepIn K (.ref f44)=true)
  (a45:PySem.W.nsIn K mainGlobals "_law_said" = some (some (.ref f45)))
  (l45:K.lookup f45=some ⟨oc45,od45,.func (PySem.W.fnOf "_law_said" "_law_said" (j2 G9) (g9 G9) (d3 G9) .none kV45 dc45 pm45 an45 cd45 ct45),sl45⟩)
  (c45:PySem.W.codeIn K cd45 "_law_said" = true) (k45:PySem.W.keepIn K (.ref f45)=true)
  (a46:PySem.W.nsIn K mainGlobals "_law_is_room" = some (some (.ref f46)))
  (l46:K.lookup f46=some ⟨oc46,od46,.func (PySem.W.fnOf "_law_is_room" "_law_is_room" (j2 B2) (g9 B2) (d3 B2) .none kV46 dc46 pm46 an46 cd46 ct46),sl46⟩)
  (c46:PySem.W.codeIn K cd46 "_law_is_room" = true) (k46:PySem.W.keepIn K (.ref f46)=true)
  (a47:PySem.W.nsIn K mainGlobals "law" = some (some (.ref f47)))
  (l47:K.lookup f47=some ⟨oc47,od47,.func (PySem.W.fnOf "law" "law" (j2 ac9) (g9 ac9) (d3 ac9) .none kV47 dc47 pm47 an47 cd47 ct47),sl47⟩)
  (c47:PySem.W.codeIn K cd47 "law" = true) (k47:PySem.W.keepIn K (.ref f47)=true)
  (z_ValueError:PySem.W.nsIn K mainGlobals "ValueError" = some none)
  (z_abs:PySem.W.nsIn K mainGlobals "abs" = some none)
  (z_all:PySem.W.nsIn K mainGlobals "all" = some none)
  (z_bool:PySem.W.nsIn K mainGlobals "bool" = some none)
  (z_enumerate:PySem.W.nsIn K mainGlobals "enumerate" = some none)
  (z_int:PySem.W.nsIn K mainGlobals "int" = some none)
  (z_isinstance:PySem.W.nsIn K mainGlobals "isinstance" = some none)
  (z_len:PySem.W.nsIn K mainGlobals "len" = some none)
  (z_list:PySem.W.nsIn K mainGlobals "list" = some none)
  (z_max:PySem.W.nsIn K mainGlobals "max" = some none)
  (z_min:PySem.W.nsIn K mainGlobals "min" = some none)
  (z_range:PySem.W.nsIn K mainGlobals "range" = some none)
  (z_tuple:PySem.W.nsIn K mainGlobals "tuple" = some none)
  (z_zip:PySem.W.nsIn K mainGlobals "zip" = some none)
  (y_SHORT:PySem.W.nsIn K mainGlobals "SHORT" = some (some (.int 6000 t_SHORT)))
  (y_LEAST:PySem.W.nsIn K mainGlobals "LEAST" = some (some (.int 2 t_LEAST)))
  (y_MOST:PySem.W.nsIn K mainGlobals "MOST" = some (some (.int 8 t_MOST)))
  (y_NOUGHT:PySem.W.nsIn K mainGlobals "NOUGHT" = some (some (.ref A_NOUGHT)))
  (u_NOUGHT:K.lookup A_NOUGHT=some ⟨.type "tuple",td_NOUGHT,.seq #[.int 0 tt0_NOUGHT,.int 1 tt1_NOUGHT] tn_NOUGHT,ts_NOUGHT⟩)
  (y_SIDES:PySem.W.nsIn K mainGlobals "SIDES" = some (some (.ref A_SIDES)))
  (u_SIDES:K.lookup A_SIDES=some ⟨.type "tuple",td_SIDES,.seq #[.ref A0_SIDES,.ref A1_SIDES,.ref A2_SIDES,.ref A3_SIDES] tn_SIDES,ts_SIDES⟩)
  (u0_SIDES:K.lookup A0_SIDES=some ⟨.type "tuple",td0_SIDES,.seq #[.int 0 tt0_0_SIDES,.int 0 tt0_1_SIDES,.int 1 tt0_2_SIDES,.int 1 tt0_3_SIDES] tn0_SIDES,ts0_SIDES⟩)
  (u1_SIDES:K.lookup A1_SIDES=some ⟨.type "tuple",td1_SIDES,.seq #[.int 1 tt1_0_SIDES,.int 1 tt1_1_SIDES,.int 0 tt1_2_SIDES,.int 0 tt1_3_SIDES] tn1_SIDES,ts1_SIDES⟩)
  (u2_SIDES:K.lookup A2_SIDES=some ⟨.type "tuple",td2_SIDES,.seq #[.int 0 tt2_0_SIDES,.int 1 tt2_1_SIDES,.int 1 tt2_2_SIDES,.int 0 tt2_3_SIDES] tn2_SIDES,ts2_SIDES⟩)
  (u3_SIDES:K.lookup A3_SIDES=some ⟨.type "tuple",td3_SIDES,.seq #[.int 1 tt3_0_SIDES,.int 0 tt3_1_SIDES,.int 0 tt3_2_SIDES,.int 1 tt3_3_SIDES] tn3_SIDES,ts3_SIDES⟩)
  (y_ONE:PySem.W.nsIn K mainGlobals "ONE" = some (some (.ref A_ONE)))
  (u_ONE:K.lookup A_ONE=some ⟨.type "tuple",td_ONE,.seq #[.int 1 tt0_ONE,.int 1 tt1_ONE] tn_ONE,ts_ONE⟩)
  (m_NoFraction:PySem.W.nsIn K mainGlobals "NoFraction" = some (some (.ref C_NoFraction)))
  (x_NoFraction:PySem.W.excIn K C_NoFraction [.type "ValueError",.type "Exception",.type "BaseException",.type "object"] "ValueError.__new__" = true)
  (e_NoFraction:D4 K C_NoFraction)
  (m_NoPolynomial:PySem.W.nsIn K mainGlobals "NoPolynomial" = some (some (.ref C_NoPolynomial)))
  (x_NoPolynomial:PySem.W.excIn K C_NoPolynomial [.type "ValueError",.type "Exception",.type "BaseException",.type "object"] "ValueError.__new__" = true)
  (e_NoPolynomial:D4 K C_NoPolynomial)
  (m_NoStretch:PySem.W.nsIn K mainGlobals "NoStretch" = some (some (.ref C_NoStretch)))
  (x_NoStretch:PySem.W.excIn K C_NoStretch [.type "ValueError",.type "Exception",.type "BaseException",.type "object"] "ValueError.__new__" = true)
  (e_NoStretch:D4 K C_NoStretch)
  (m_NoRow:PySem.W.nsIn K mainGlobals "NoRow" = some (some (.ref C_NoRow)))
  (x_NoRow:PySem.W.excIn K C_NoRow [.type "ValueError",.type "Exception",.type "BaseException",.type "object"] "ValueError.__new__" = true)
  (e_NoRow:D4 K C_NoRow)
  (m_NoPair:PySem.W.nsIn K mainGlobals "NoPair" = some (some (.ref C_NoPair)))
  (x_NoPair:PySem.W.excIn K C_NoPair [.type "ValueError",.type "Exception",.type "BaseException",.type "object"] "ValueError.__new__" = true)
  (e_NoPair:D4 K C_NoPair)
  (m_NoBack:PySem.W.nsIn K mainGlobals "NoBack" = some (some (.ref C_NoBack)))
  (x_NoBack:PySem.W.excIn K C_NoBack [.type "ValueError",.type "Exception",.type "BaseException",.type "object"] "ValueError.__new__" = true)
  (e_NoBack:D4 K C_NoBack)
  (m_NoForm:PySem.W.nsIn K mainGlobals "NoForm" = some (some (.ref C_NoForm)))
  (x_NoForm:PySem.W.excIn K C_NoForm [.type "ValueError",.type "Exception",.type "BaseException",.type "object"] "ValueError.__new__" = true)
  (e_NoForm:D4 K C_NoForm)
  (m_NoParts:PySem.W.nsIn K mainGlobals "NoParts" = some (some (.ref C_NoParts)))
  (x_NoParts:PySem.W.excIn K C_NoParts [.type "ValueError",.type "Exception",.type "BaseException",.type "object"] "ValueError.__new__" = true)
  (e_NoParts:D4 K C_NoParts)
  (m_NoDegree:PySem.W.nsIn K mainGlobals "NoDegree" = some (some (.ref C_NoDegree)))
  (x_NoDegree:PySem.W.excIn K C_NoDegree [.type "ValueError",.type "Exception",.type "BaseException",.type "object"] "ValueError.__new__" = true)
  (e_NoDegree:D4 K C_NoDegree)
  (m_NoSteps:PySem.W.nsIn K mainGlobals "NoSteps" = some (some (.ref C_NoSteps)))
  (x_NoSteps:PySem.W.excIn K C_NoSteps [.type "ValueError",.type "Exception",.type "BaseException",.type "object"] "ValueError.__new__" = true)
  (e_NoSteps:D4 K C_NoSteps)
  (m_NoBox:PySem.W.nsIn K mainGlobals "NoBox" = some (some (.ref C_NoBox)))
  (x_NoBox:PySem.W.excIn K C_NoBox [.type "ValueError",.type "Exception",.type "BaseException",.type "object"] "ValueError.__new__" = true)
  (e_NoBox:D4 K C_NoBox)
  (m_NoGain:PySem.W.nsIn K mainGlobals "NoGain" = some (some (.ref C_NoGain)))
  (x_NoGain:PySem.W.excIn K C_NoGain [.type "ValueError",.type "Exception",.type "BaseException",.type "object"] "ValueError.__new__" = true)
  (e_NoGain:D4 K C_NoGain)
  (m_NoText:PySem.W.nsIn K mainGlobals "NoText" = some (some (.ref C_NoText)))
  (x_NoText:PySem.W.excIn K C_NoText [.type "ValueError",.type "Exception",.type "BaseException",.type "object"] "ValueError.__new__" = true)
  (e_NoText:D4 K C_NoText)
  (m_NoLine:PySem.W.nsIn K mainGlobals "NoLine" = some (some (.ref C_NoLine)))
  (x_NoLine:PySem.W.excIn K C_NoLine [.type "ValueError",.type "Exception",.type "BaseException",.type "object"] "ValueError.__new__" = true)
  (e_NoLine:D4 K C_NoLine)
  (m_NoName:PySem.W.nsIn K mainGlobals "NoName" = some (some (.ref C_NoName)))
  (x_NoName:PySem.W.excIn K C_NoName [.type "ValueError",.type "Exception",.type "BaseException",.type "object"] "ValueError.__new__" = true)
  (e_NoName:D4 K C_NoName)
  (m_NoDeed:PySem.W.nsIn K mainGlobals "NoDeed" = some (some (.ref C_NoDeed)))
  (x_NoDeed:PySem.W.excIn K C_NoDeed [.type "ValueError",.type "Exception",.type "BaseException",.type "object"] "ValueError.__new__" = true)
  (e_NoDeed:D4 K C_NoDeed)
  (m_RestError:PySem.W.nsIn K mainGlobals "RestError" = some (some (.ref C_RestError)))
  (x_RestError:PySem.W.excIn K C_RestError [.type "ValueError",.type "Exception",.type "BaseException",.type "object"] "ValueError.__new__" = true)
  (e_RestError:D4 K C_RestError)
  (kt_NoBox:bo4 K (⟨C_NoFraction,C_NoPolynomial,C_NoStretch,C_NoRow,C_NoPair,C_NoBack,C_NoForm,C_NoParts,C_NoDegree,C_NoSteps,C_NoBox,C_NoGain,C_NoText,C_NoLine,C_NoName,C_NoDeed,C_RestError⟩:CAd) C_NoBox 10) :
  ∃ fd:FuncData,(∀ (s:Shared) (v:Value),BindsTo s fd ⟨[v],[]⟩ [("_law_script",v)])∧∀ base:Heap,K.In base→base.Ns mainGlobals mg→ab1 l.prog w K mg base CX0 8 fa fd ["_law_script"] (aN0 K):=by
 have e:=hfa.symm.trans (PySem.W.mg_of X G a47)
 cases e
 have F__law_low:=p5 (st:=M5) l0 c0 k0
 have b__law_low:=F__law_low.binds (ps:=["_law_top","_law_bottom"]) fun _ _ _ _ _ _ us hl=>match us,hl with | [_,_],_=>rfl
 have d__law_low:Df K mg "_law_low" M5 ["_law_top","_law_bottom"] f0:=⟨⟨_,F__law_low,b__law_low⟩,PySem.W.mg_of X G a0⟩
 have F__law_urn:=p5 (st:=M4) l1 c1 k1
 have b__law_urn:=F__law_urn.binds (ps:=["_law_script","_law_at"]) fun _ _ _ _ _ _ us hl=>match us,hl with | [_,_],_=>rfl
 have d__law_urn:Df K mg "_law_urn" M4 ["_law_script","_law_at"] f1:=⟨⟨_,F__law_urn,b__law_urn⟩,PySem.W.mg_of X G a1⟩
 have F__law_draw:=p5 (st:=J4) l2 c2 k2
 have b__law_draw:=F__law_draw.binds (ps:=["_law_urn_here","_law_many"]) fun _ _ _ _ _ _ us hl=>match us,hl with | [_,_],_=>rfl
 have d__law_draw:Df K mg "_law_draw" J4 ["_law_urn_here","_law_many"] f2:=⟨⟨_,F__law_draw,b__law_draw⟩,PySem.W.mg_of X G a2⟩
 have F__law_number:=p5 (st:=D0) l3 c3 k3
 have b__law_number:=F__law_number.binds (ps:=["_law_urn_here","_law_kind"]) fun _ _ _ _ _ _ us hl=>match us,hl with | [_,_],_=>rfl
 have d__law_number:Df K mg "_law_number" D0 ["_law_urn_here","_law_kind"] f3:=⟨⟨_,F__law_number,b__law_number⟩,PySem.W.mg_of X G a3⟩
 have F__law_whole:=p5 (st:=E8) l4 c4 k4
 have b__law_whole:=F__law_whole.binds (ps:=["_law_thing"]) fun _ _ _ _ _ _ us hl=>match us,hl with | [_],_=>rfl
 have d__law_whole:Df K mg "_law_whole" E8 ["_law_thing"] f4:=⟨⟨_,F__law_whole,b__law_whole⟩,PySem.W.mg_of X G a4⟩
 have F__law_is_number:=p5 (st:=A9) l5 c5 k5
 have b__law_is_number:=F__law_is_number.binds (ps:=["_law_thing"]) fun _ _ _ _ _ _ us hl=>match us,hl with | [_],_=>rfl
 have d__law_is_number:Df K mg "_law_is_number" A9 ["_law_thing"] f5:=⟨⟨_,F__law_is_number,b__law_is_number⟩,PySem.W.mg_of X G a5⟩
 have F__law_other:=p5 (st:=F2) l6 c6 k6
 have b__law_other:=F__law_other.binds (ps:=["_law_urn_here","_law_kind"]) fun _ _ _ _ _ _ us hl=>match us,hl with | [_,_],_=>rfl
 have d__law_other:Df K mg "_law_other" F2 ["_law_urn_here","_law_kind"] f6:=⟨⟨_,F__law_other,b__law_other⟩,PySem.W.mg_of X G a6⟩
 have F__law_trim:=p5 (st:=G7) l7 c7 k7
 have b__law_trim:=F__law_trim.binds (ps:=["_law_numbers"]) fun _ _ _ _ _ _ us hl=>match us,hl with | [_],_=>rfl
 have d__law_trim:Df K mg "_law_trim" G7 ["_law_numbers"] f7:=⟨⟨_,F__law_trim,b__law_trim⟩,PySem.W.mg_of X G a7⟩
 have F__law_plus:=p5 (st:=J1) l8 c8 k8
 have b__law_plus:=F__law_plus.binds (ps:=["_law_one","_law_other_here"]) fun _ _ _ _ _ _ us hl=>match us,hl with | [_,_],_=>rfl
 have d__law_plus:Df K mg "_law_plus" J1 ["_law_one","_law_other_here"] f8:=⟨⟨_,F__law_plus,b__law_plus⟩,PySem.W.mg_of X G a8⟩
 have F__law_times:=p5 (st:=F1) l9 c9 k9
 have b__law_times:=F__law_times.binds (ps:=["_law_one","_law_other_here"]) fun _ _ _ _ _ _ us hl=>match us,hl with | [_,_],_=>rfl
 have d__law_times:Df K mg "_law_times" F1 ["_law_one","_law_other_here"] f9:=⟨⟨_,F__law_times,b__law_times⟩,PySem.W.mg_of X G a9⟩
 have F__law_poly_times:=p5 (st:=A0) l10 c10 k10
 have b__law_poly_times:=F__law_poly_times.binds (ps:=["_law_p","_law_q"]) fun _ _ _ _ _ _ us hl=>match us,hl with | [_,_],_=>rfl
 have d__law_poly_times:Df K mg "_law_poly_times" A0 ["_law_p","_law_q"] f10:=⟨⟨_,F__law_poly_times,b__law_poly_times⟩,PySem.W.mg_of X G a10⟩
 have F_common_divisor:=p5 (st:=A8) l11 c11 k11
 have b_common_divisor:=F_common_divisor.binds (ps:=["one","other"]) fun _ _ _ _ _ _ us hl=>match us,hl with | [_,_],_=>rfl
 have d_common_divisor:Df K mg "common_divisor" A8 ["one","other"] f11:=⟨⟨_,F_common_divisor,b_common_divisor⟩,PySem.W.mg_of X G a11⟩
 have F_plus:=p5 (st:=ae2) l12 c12 k12
 have b_plus:=F_plus.binds (ps:=["one","other"]) fun _ _ _ _ _ _ us hl=>match us,hl with | [_,_],_=>rfl
 have d_plus:Df K mg "plus" ae2 ["one","other"] f12:=⟨⟨_,F_plus,b_plus⟩,PySem.W.mg_of X G a12⟩
 have F_less:=p5 (st:=ae3) l13 c13 k13
 have b_less:=F_less.binds (ps:=["one","other"]) fun _ _ _ _ _ _ us hl=>match us,hl with | [_,_],_=>rfl
 have d_less:Df K mg "less" ae3 ["one","other"] f13:=⟨⟨_,F_less,b_less⟩,PySem.W.mg_of X G a13⟩
 have F_times:=p5 (st:=Y5) l14 c14 k14
 have b_times:=F_times.binds (ps:=["one","other"]) fun _ _ _ _ _ _ us hl=>match us,hl with | [_,_],_=>rfl
 have d_times:Df K mg "times" Y5 ["one","other"] f14:=⟨⟨_,F_times,b_times⟩,PySem.W.mg_of X G a14⟩
 have F_is_whole:=p5 (st:=M2) l15 c15 k15
 have b_is_whole:=F_is_whole.binds (ps:=["thing"]) fun _ _ _ _ _ _ us hl=>match us,hl with | [_],_=>rfl
 have d_is_whole:Df K mg "is_whole" M2 ["thing"] f15:=⟨⟨_,F_is_whole,b_is_whole⟩,PySem.W.mg_of X G a15⟩
 have F_is_number:=p5 (st:=G5) l16 c16 k16
 have b_is_number:=F_is_number.binds (ps:=["thing"]) fun _ _ _ _ _ _ us hl=>match us,hl with | [_],_=>rfl
 have d_is_number:Df K mg "is_number" G5 ["thing"] f16:=⟨⟨_,F_is_number,b_is_number⟩,PySem.W.mg_of X G a16⟩
 have F__law_which:=p5 (st:=E9) l17 c17 k17
 have b__law_which:=F__law_which.binds (ps:=["_law_e"]) fun _ _ _ _ _ _ us hl=>match us,hl with | [_],_=>rfl
 have d__law_which:Df K mg "_law_which" E9 ["_law_e"] f17:=⟨⟨_,F__law_which,b__law_which⟩,PySem.W.mg_of X G a17⟩
 have F_is_below:=p5 (st:=M3) l18 c18 k18
 have b_is_below:=F_is_below.binds (ps:=["one","other"]) fun _ _ _ _ _ _ us hl=>match us,hl with | [_,_],_=>rfl
 have d_is_below:Df K mg "is_below" M3 ["one","other"] f18:=⟨⟨_,F_is_below,b_is_below⟩,PySem.W.mg_of X G a18⟩
 have F__law_below:=p5 (st:=F3) l19 c19 k19
 have b__law_below:=F__law_below.binds (ps:=["_law_one","_law_other_here"]) fun _ _ _ _ _ _ us hl=>match us,hl with | [_,_],_=>rfl
 have d__law_below:Df K mg "_law_below" F3 ["_law_one","_law_other_here"] f19:=⟨⟨_,F__law_below,b__law_below⟩,PySem.W.mg_of X G a19⟩
 have F_is_span:=p5 (st:=O6) l20 c20 k20
 have b_is_span:=F_is_span.binds (ps:=["thing"]) fun _ _ _ _ _ _ us hl=>match us,hl with | [_],_=>rfl
 have d_is_span:Df K mg "is_span" O6 ["thing"] f20:=⟨⟨_,F_is_span,b_is_span⟩,PySem.W.mg_of X G a20⟩
 have F_is_box:=p5 (st:=Q6) l21 c21 k21
 have b_is_box:=F_is_box.binds (ps:=["thing"]) fun _ _ _ _ _ _ us hl=>match us,hl with | [_],_=>rfl
 have d_is_box:Df K mg "is_box" Q6 ["thing"] f21:=⟨⟨_,F_is_box,b_is_box⟩,PySem.W.mg_of X G a21⟩
 have F_check_box:=p5 (st:=G6) l22 c22 k22
 have b_check_box:=F_check_box.binds (ps:=["thing"]) fun _ _ _ _ _ _ us hl=>match us,hl with | [_],_=>rfl
 have d_check_box:Df K mg "check_box" G6 ["thing"] f22:=⟨⟨_,F_check_box,b_check_box⟩,PySem.W.mg_of X G a22⟩
 have F__law_is_box:=p5 (st:=B8) l23 c23 k23
 have b__law_is_box:=F__law_is_box.binds (ps:=["_law_thing"]) fun _ _ _ _ _ _ us hl=>match us,hl with | [_],_=>rfl
 have d__law_is_box:Df K mg "_law_is_box" B8 ["_law_thing"] f23:=⟨⟨_,F__law_is_box,b__law_is_box⟩,PySem.W.mg_of X G a23⟩
 have F__law_bent:=p5 (st:=K0) l24 c24 k24
 have b__law_bent:=F__law_bent.binds (ps:=["_law_urn_here","_law_box"]) fun _ _ _ _ _ _ us hl=>match us,hl with | [_,_],_=>rfl
 have d__law_bent:Df K mg "_law_bent" K0 ["_law_urn_here","_law_box"] f24:=⟨⟨_,F__law_bent,b__law_bent⟩,PySem.W.mg_of X G a24⟩
 have F__law_less:=p5 (st:=J3) l25 c25 k25
 have b__law_less:=F__law_less.binds (ps:=["_law_one","_law_other_here"]) fun _ _ _ _ _ _ us hl=>match us,hl with | [_,_],_=>rfl
 have d__law_less:Df K mg "_law_less" J3 ["_law_one","_law_other_here"] f25:=⟨⟨_,F__law_less,b__law_less⟩,PySem.W.mg_of X G a25⟩
 have F__law_above:=p5 (st:=F4) l26 c26 k26
 have b__law_above:=F__law_above.binds (ps:=["_law_urn_here","_law_kind"]) fun _ _ _ _ _ _ us hl=>match us,hl with | [_,_],_=>rfl
 have d__law_above:Df K mg "_law_above" F4 ["_law_urn_here","_law_kind"] f26:=⟨⟨_,F__law_above,b__law_above⟩,PySem.W.mg_of X G a26⟩
 have F__law_drawn_box:=p5 (st:=z8) l27 c27 k27
 have b__law_drawn_box:=F__law_drawn_box.binds (ps:=["_law_urn_here","_law_kind","_law_most"]) fun _ _ _ _ _ _ us hl=>match us,hl with | [_,_,_],_=>rfl
 have d__law_drawn_box:Df K mg "_law_drawn_box" z8 ["_law_urn_here","_law_kind","_law_most"] f27:=⟨⟨_,F__law_drawn_box,b__law_drawn_box⟩,PySem.W.mg_of X G a27⟩
 have F_grown:=p5 (st:=V2) l28 c28 k28
 have b_grown:=F_grown.binds (ps:=["box","number"]) fun _ _ _ _ _ _ us hl=>match us,hl with | [_,_],_=>rfl
 have d_grown:Df K mg "grown" V2 ["box","number"] f28:=⟨⟨_,F_grown,b_grown⟩,PySem.W.mg_of X G a28⟩
 have F_corners_of:=p5 (st:=C7) l29 c29 k29
 have b_corners_of:=F_corners_of.binds (ps:=["box"]) fun _ _ _ _ _ _ us hl=>match us,hl with | [_],_=>rfl
 have d_corners_of:Df K mg "corners_of" C7 ["box"] f29:=⟨⟨_,F_corners_of,b_corners_of⟩,PySem.W.mg_of X G a29⟩
 have F__law_corners:=p5 (st:=v0) l30 c30 k30
 have b__law_corners:=F__law_corners.binds (ps:=["_law_box"]) fun _ _ _ _ _ _ us hl=>match us,hl with | [_],_=>rfl
 have d__law_corners:Df K mg "_law_corners" v0 ["_law_box"] f30:=⟨⟨_,F__law_corners,b__law_corners⟩,PySem.W.mg_of X G a30⟩
 have F_content_of:=p5 (st:=E7) l31 c31 k31
 have b_content_of:=F_content_of.binds (ps:=["wholes"]) fun _ _ _ _ _ _ us hl=>match us,hl with | [_],_=>rfl
 have d_content_of:Df K mg "content_of" E7 ["wholes"] f31:=⟨⟨_,F_content_of,b_content_of⟩,PySem.W.mg_of X G a31⟩
 have F_cleared:=p5 (st:=N0) l32 c32 k32
 have b_cleared:=F_cleared.binds (ps:=["numbers"]) fun _ _ _ _ _ _ us hl=>match us,hl with | [_],_=>rfl
 have d_cleared:Df K mg "cleared" N0 ["numbers"] f32:=⟨⟨_,F_cleared,b_cleared⟩,PySem.W.mg_of X G a32⟩
 have F_lifted:=p5 (st:=N4) l33 c33 k33
 have b_lifted:=F_lifted.binds (ps:=["p"]) fun _ _ _ _ _ _ us hl=>match us,hl with | [_],_=>rfl
 have d_lifted:Df K mg "lifted" N4 ["p"] f33:=⟨⟨_,F_lifted,b_lifted⟩,PySem.W.mg_of X G a33⟩
 have F_row_behind:=p5 (st:=C6) l34 c34 k34
 have b_row_behind:=F_row_behind.binds (ps:=["row","further","divisor"]) fun _ _ _ _ _ _ us hl=>match us,hl with | [_,_,_],_=>rfl
 have d_row_behind:Df K mg "row_behind" C6 ["row","further","divisor"] f34:=⟨⟨_,F_row_behind,b_row_behind⟩,PySem.W.mg_of X G a34⟩
 have F_whole_dies:=p5 (st:=C5) l35 c35 k35
 have b_whole_dies:=F_whole_dies.binds (ps:=["wholes"]) fun _ _ _ _ _ _ us hl=>match us,hl with | [_],_=>rfl
 have d_whole_dies:Df K mg "whole_dies" C5 ["wholes"] f35:=⟨⟨_,F_whole_dies,b_whole_dies⟩,PySem.W.mg_of X G a35⟩
 have F_dies:=p5 (st:=ae4) l36 c36 k36
 have b_dies:=F_dies.binds (ps:=["p"]) fun _ _ _ _ _ _ us hl=>match us,hl with | [_],_=>rfl
 have d_dies:Df K mg "dies" ae4 ["p"] f36:=⟨⟨_,F_dies,b_dies⟩,PySem.W.mg_of X G a36⟩
 have F_middle:=p5 (st:=U3) l37 c37 k37
 have b_middle:=F_middle.binds (ps:=["one","other"]) fun _ _ _ _ _ _ us hl=>match us,hl with | [_,_],_=>rfl
 have d_middle:Df K mg "middle" U3 ["one","other"] f37:=⟨⟨_,F_middle,b_middle⟩,PySem.W.mg_of X G a37⟩
 have F_all_die:=p5 (st:=O7) l38 c38 k38
 have b_all_die:=F_all_die.binds (ps:=["box"]) fun _ _ _ _ _ _ us hl=>match us,hl with | [_],_=>rfl
 have d_all_die:Df K mg "all_die" O7 ["box"] f38:=⟨⟨_,F_all_die,b_all_die⟩,PySem.W.mg_of X G a38⟩
 have F_room_of:=p5 (st:=O5) l39 c39 k39
 have b_room_of:=F_room_of.binds (ps:=["box","hair"]) fun _ _ _ _ _ _ us hl=>match us,hl with | [_,_],_=>rfl
 have d_room_of:Df K mg "room_of" O5 ["box","hair"] f39:=⟨⟨_,F_room_of,b_room_of⟩,PySem.W.mg_of X G a39⟩
 have F__law_over:=p5 (st:=J2) l40 c40 k40
 have b__law_over:=F__law_over.binds (ps:=["_law_one","_law_other_here"]) fun _ _ _ _ _ _ us hl=>match us,hl with | [_,_],_=>rfl
 have d__law_over:Df K mg "_law_over" J2 ["_law_one","_law_other_here"] f40:=⟨⟨_,F__law_over,b__law_over⟩,PySem.W.mg_of X G a40⟩
 have F__law_sign:=p5 (st:=G8) l41 c41 k41
 have b__law_sign:=F__law_sign.binds (ps:=["_law_number_here"]) fun _ _ _ _ _ _ us hl=>match us,hl with | [_],_=>rfl
 have d__law_sign:Df K mg "_law_sign" G8 ["_law_number_here"] f41:=⟨⟨_,F__law_sign,b__law_sign⟩,PySem.W.mg_of X G a41⟩
 have F__law_dies:=p5 (st:=B9) l42 c42 k42
 have b__law_dies:=F__law_dies.binds (ps:=["_law_p"]) fun _ _ _ _ _ _ us hl=>match us,hl with | [_],_=>rfl
 have d__law_dies:Df K mg "_law_dies" B9 ["_law_p"] f42:=⟨⟨_,F__law_dies,b__law_dies⟩,PySem.W.mg_of X G a42⟩
 have F__law_all_die:=p5 (st:=B3) l43 c43 k43
 have b__law_all_die:=F__law_all_die.binds (ps:=["_law_box"]) fun _ _ _ _ _ _ us hl=>match us,hl with | [_],_=>rfl
 have d__law_all_die:Df K mg "_law_all_die" B3 ["_law_box"] f43:=⟨⟨_,F__law_all_die,b__law_all_die⟩,PySem.W.mg_of X G a43⟩
 have F__law_wide:=p5 (st:=E3) l44 c44 k44
 have b__law_wide:=F__law_wide.binds (ps:=["_law_box","_law_number_here"]) fun _ _ _ _ _ _ us hl=>match us,hl with | [_,_],_=>rfl
 have d__law_wide:Df K mg "_law_wide" E3 ["_law_box","_law_number_here"] f44:=⟨⟨_,F__law_wide,b__law_wide⟩,PySem.W.mg_of X G a44⟩
 have F__law_said:=p5 (st:=G9) l45 c45 k45
 have b__law_said:=F__law_said.binds (ps:=["_law_box","_law_hair"]) fun _ _ _ _ _ _ us hl=>match us,hl with | [_,_],_=>rfl
 have d__law_said:Df K mg "_law_said" G9 ["_law_box","_law_hair"] f45:=⟨⟨_,F__law_said,b__law_said⟩,PySem.W.mg_of X G a45⟩
 have F__law_is_room:=p5 (st:=B2) l46 c46 k46
 have b__law_is_room:=F__law_is_room.binds (ps:=["_law_box","_law_hair","_law_found"]) fun _ _ _ _ _ _ us hl=>match us,hl with | [_,_,_],_=>rfl
 have d__law_is_room:Df K mg "_law_is_room" B2 ["_law_box","_law_hair","_law_found"] f46:=⟨⟨_,F__law_is_room,b__law_is_room⟩,PySem.W.mg_of X G a46⟩
 have F_law:=p5 (st:=ac9) l47 c47 k47
 have b_law:=F_law.binds (ps:=["_law_script"]) fun _ _ _ _ _ _ us hl=>match us,hl with | [_],_=>rfl
 have d_law:Df K mg "law" ac9 ["_law_script"] fa:=⟨⟨_,F_law,b_law⟩,PySem.W.mg_of X G a47⟩
 have n_ValueError:=PySem.W.mg_none_of X G z_ValueError
 have n_abs:=PySem.W.mg_none_of X G z_abs
 have n_all:=PySem.W.mg_none_of X G z_all
 have n_bool:=PySem.W.mg_none_of X G z_bool
 have n_enumerate:=PySem.W.mg_none_of X G z_enumerate
 have n_int:=PySem.W.mg_none_of X G z_int
 have n_isinstance:=PySem.W.mg_none_of X G z_isinstance
 have n_len:=PySem.W.mg_none_of X G z_len
 have n_list:=PySem.W.mg_none_of X G z_list
 have n_max:=PySem.W.mg_none_of X G z_max
 have n_min:=PySem.W.mg_none_of X G z_min
 have n_range:=PySem.W.mg_none_of X G z_range
 have n_tuple:=PySem.W.mg_none_of X G z_tuple
 have n_zip:=PySem.W.mg_none_of X G z_zip
 have c_SHORT:=PySem.W.mg_of X G y_SHORT
 have c_LEAST:=PySem.W.mg_of X G y_LEAST
 have c_MOST:=PySem.W.mg_of X G y_MOST
 have c_NOUGHT:=PySem.W.mg_of X G y_NOUGHT
 have t_NOUGHT:∀ H:Hp,SqT K H A_NOUGHT [.int 0,.int 1]:=fun H=>.inr ⟨_,_,_,u_NOUGHT,rfl,rfl,(show 2≤sizeLine by decide),(.cons ⟨_,rfl⟩ (.cons ⟨_,rfl⟩ .nil))⟩
 have c_SIDES:=PySem.W.mg_of X G y_SIDES
 have t_SIDES:∀ H:Hp,SqT K H A_SIDES [.ref A0_SIDES,.ref A1_SIDES,.ref A2_SIDES,.ref A3_SIDES]:=fun H=>.inr ⟨_,_,_,u_SIDES,rfl,rfl,(show 4≤sizeLine by decide),(.cons rfl (.cons rfl (.cons rfl (.cons rfl .nil))))⟩
 have t0_SIDES:∀ H:Hp,SqT K H A0_SIDES [.int 0,.int 0,.int 1,.int 1]:=fun H=>.inr ⟨_,_,_,u0_SIDES,rfl,rfl,(show 4≤sizeLine by decide),(.cons ⟨_,rfl⟩ (.cons ⟨_,rfl⟩ (.cons ⟨_,rfl⟩ (.cons ⟨_,rfl⟩ .nil))))⟩
 have t1_SIDES:∀ H:Hp,SqT K H A1_SIDES [.int 1,.int 1,.int 0,.int 0]:=fun H=>.inr ⟨_,_,_,u1_SIDES,rfl,rfl,(show 4≤sizeLine by decide),(.cons ⟨_,rfl⟩ (.cons ⟨_,rfl⟩ (.cons ⟨_,rfl⟩ (.cons ⟨_,rfl⟩ .nil))))⟩
 have t2_SIDES:∀ H:Hp,SqT K H A2_SIDES [.int 0,.int 1,.int 1,.int 0]:=fun H=>.inr ⟨_,_,_,u2_SIDES,rfl,rfl,(show 4≤sizeLine by decide),(.cons ⟨_,rfl⟩ (.cons ⟨_,rfl⟩ (.cons ⟨_,rfl⟩ (.cons ⟨_,rfl⟩ .nil))))⟩
 have t3_SIDES:∀ H:Hp,SqT K H A3_SIDES [.int 1,.int 0,.int 0,.int 1]:=fun H=>.inr ⟨_,_,_,u3_SIDES,rfl,rfl,(show 4≤sizeLine by decide),(.cons ⟨_,rfl⟩ (.cons ⟨_,rfl⟩ (.cons ⟨_,rfl⟩ (.cons ⟨_,rfl⟩ .nil))))⟩
 have c_ONE:=PySem.W.mg_of X G y_ONE
 have t_ONE:∀ H:Hp,SqT K H A_ONE [.int 1,.int 1]:=fun H=>.inr ⟨_,_,_,u_ONE,rfl,rfl,(show 2≤sizeLine by decide),(.cons ⟨_,rfl⟩ (.cons ⟨_,rfl⟩ .nil))⟩
 have X_NoFraction:ExT K mg "NoFraction" C_NoFraction:=⟨PySem.W.mg_of X G m_NoFraction,⟨x_NoFraction⟩,e_NoFraction⟩
 have X_NoPolynomial:ExT K mg "NoPolynomial" C_NoPolynomial:=⟨PySem.W.mg_of X G m_NoPolynomial,⟨x_NoPolynomial⟩,e_NoPolynomial⟩
 have X_NoStretch:ExT K mg "NoStretch" C_NoStretch:=⟨PySem.W.mg_of X G m_NoStretch,⟨x_NoStretch⟩,e_NoStretch⟩
 have X_NoRow:ExT K mg "NoRow" C_NoRow:=⟨PySem.W.mg_of X G m_NoRow,⟨x_NoRow⟩,e_NoRow⟩
 have X_NoPair:ExT K mg "NoPair" C_NoPair:=⟨PySem.W.mg_of X G m_NoPair,⟨x_NoPair⟩,e_NoPair⟩
 have X_NoBack:ExT K mg "NoBack" C_NoBack:=⟨PySem.W.mg_of X G m_NoBack,⟨x_NoBack⟩,e_NoBack⟩
 have X_NoForm:ExT K mg "NoForm" C_NoForm:=⟨PySem.W.mg_of X G m_NoForm,⟨x_NoForm⟩,e_NoForm⟩
 have X_NoParts:ExT K mg "NoParts" C_NoParts:=⟨PySem.W.mg_of X G m_NoParts,⟨x_NoParts⟩,e_NoParts⟩
 have X_NoDegree:ExT K mg "NoDegree" C_NoDegree:=⟨PySem.W.mg_of X G m_NoDegree,⟨x_NoDegree⟩,e_NoDegree⟩
 have X_NoSteps:ExT K mg "NoSteps" C_NoSteps:=⟨PySem.W.mg_of X G m_NoSteps,⟨x_NoSteps⟩,e_NoSteps⟩
 have X_NoBox:ExT K mg "NoBox" C_NoBox:=⟨PySem.W.mg_of X G m_NoBox,⟨x_NoBox⟩,e_NoBox⟩
 have X_NoGain:ExT K mg "NoGain" C_NoGain:=⟨PySem.W.mg_of X G m_NoGain,⟨x_NoGain⟩,e_NoGain⟩
 have X_NoText:ExT K mg "NoText" C_NoText:=⟨PySem.W.mg_of X G m_NoText,⟨x_NoText⟩,e_NoText⟩
 have X_NoLine:ExT K mg "NoLine" C_NoLine:=⟨PySem.W.mg_of X G m_NoLine,⟨x_NoLine⟩,e_NoLine⟩
 have X_NoName:ExT K mg "NoName" C_NoName:=⟨PySem.W.mg_of X G m_NoName,⟨x_NoName⟩,e_NoName⟩
 have X_NoDeed:ExT K mg "NoDeed" C_NoDeed:=⟨PySem.W.mg_of X G m_NoDeed,⟨x_NoDeed⟩,e_NoDeed⟩
 have X_RestError:ExT K mg "RestError" C_RestError:=⟨PySem.W.mg_of X G m_RestError,⟨x_RestError⟩,e_RestError⟩
 have XX:XTx K mg (⟨C_NoFraction,C_NoPolynomial,C_NoStretch,C_NoRow,C_NoPair,C_NoBack,C_NoForm,C_NoParts,C_NoDegree,C_NoSteps,C_NoBox,C_NoGain,C_NoText,C_NoLine,C_NoName,C_NoDeed,C_RestError⟩:CAd):=⟨X_NoFraction,X_NoPolynomial,X_NoStretch,X_NoRow,X_NoPair,X_NoBack,X_NoForm,X_NoParts,X_NoDegree,X_NoSteps,X_NoBox,X_NoGain,X_NoText,X_NoLine,X_NoName,X_NoDeed⟩
 refine ⟨PySem.W.fnOf "law" "law" (j2 ac9) (g9 ac9) (d3 ac9) .none kV47 dc47 pm47 an47 cd47 ct47,fun s v=>.of_eq rfl,fun base _ _=>?_⟩
 have G__law_low:=aG8 (P:=l.prog) (w:=w) (base:=base) d__law_low n_abs
 have G__law_urn:=aG7 (P:=l.prog) (w:=w) (base:=base) d__law_urn n_len n_abs
 have G__law_draw:=aC9 (P:=l.prog) (w:=w) (base:=base) d__law_draw
 have G__law_trim:=aC3 (P:=l.prog) (w:=w) (base:=base) d__law_trim n_list
 have G__law_plus:=aC6 (P:=l.prog) (w:=w) (base:=base) d__law_plus G__law_low
 have G__law_times:=av3 (P:=l.prog) (w:=w) (base:=base) d__law_times G__law_low
 have G__law_poly_times:=ae7 (P:=l.prog) (w:=w) (base:=base) d__law_poly_times G__law_plus G__law_times G__law_trim n_len n_enumerate
 have G_common_divisor:=ag6 (P:=l.prog) (w:=w) (base:=base) d_common_divisor ⟨_,c_SHORT⟩ n_abs
 have G_plus:=be3 (P:=l.prog) (w:=w) (base:=base) d_plus G_common_divisor
 have G_less:=be4 (P:=l.prog) (w:=w) (base:=base) d_less G_plus
 have G_times:=aX9 (P:=l.prog) (w:=w) (base:=base) d_times G_common_divisor
 have G_is_whole:=aG5 (P:=l.prog) (w:=w) (base:=base) d_is_whole n_isinstance n_int n_bool
 have G_is_number:=aC0 (P:=l.prog) (w:=w) (base:=base) d_is_number G_is_whole G_common_divisor n_isinstance n_tuple n_len
 have GD__law_whole:=ar2 (P:=l.prog) (w:=w) (base:=base) d__law_whole n_isinstance n_int n_bool
 have GD__law_is_number:=ae8 (P:=l.prog) (w:=w) (base:=base) d__law_is_number GD__law_whole G__law_low n_isinstance n_tuple n_len
 have G__law_which:=av2 (P:=l.prog) (w:=w) (base:=base) d__law_which XX n_isinstance n_ValueError
 have G_is_below:=aG6 (P:=l.prog) (w:=w) (base:=base) d_is_below
 have G__law_below:=av4 (P:=l.prog) (w:=w) (base:=base) d__law_below
 have G_is_span:=aK6 (P:=l.prog) (w:=w) (base:=base) d_is_span G_is_number G_is_below n_isinstance n_tuple n_len
 have G_is_box:=aR5 (P:=l.prog) (w:=w) (base:=base) d_is_box G_is_span G_is_below ⟨_,c_LEAST⟩ ⟨_,c_MOST⟩ c_NOUGHT t_NOUGHT n_isinstance n_list n_len n_all
 have G_check_box:=aC1 (P:=l.prog) (w:=w) (base:=base) d_check_box G_is_box X_NoBox
 have G__law_is_box:=ar0 (P:=l.prog) (w:=w) (base:=base) d__law_is_box GD__law_is_number G__law_below n_isinstance n_list n_len n_tuple n_all
 have G__law_bent:=aD1 (P:=l.prog) (w:=w) (base:=base) d__law_bent G__law_draw n_len n_list n_tuple
 have G__law_less:=aC8 (P:=l.prog) (w:=w) (base:=base) d__law_less G__law_low
 have GD__law_number:=am3 (P:=l.prog) (w:=w) (base:=base) d__law_number G__law_draw G__law_low n_int
 have GD__law_other:=ar3 (P:=l.prog) (w:=w) (base:=base) d__law_other G__law_draw GD__law_number
 have G__law_above:=av5 (P:=l.prog) (w:=w) (base:=base) d__law_above GD__law_other n_abs
 have G__law_drawn_box:=ag7 (P:=l.prog) (w:=w) (base:=base) d__law_drawn_box G__law_draw GD__law_number G__law_above G__law_poly_times G__law_less G__law_plus n_range
 have G_grown:=aY0 (P:=l.prog) (w:=w) (base:=base) d_grown G_less G_plus
 have G_corners_of:=av0 (P:=l.prog) (w:=w) (base:=base) d_corners_of c_SIDES t_SIDES t0_SIDES t1_SIDES t2_SIDES t3_SIDES n_enumerate
 have G__law_corners:=am1 (P:=l.prog) (w:=w) (base:=base) d__law_corners n_enumerate
 have G_content_of:=av1 (P:=l.prog) (w:=w) (base:=base) d_content_of G_common_divisor
 have G_cleared:=aK7 (P:=l.prog) (w:=w) (base:=base) d_cleared G_common_divisor
 have GD_lifted:=aL0 (P:=l.prog) (w:=w) (base:=base) d_lifted G_cleared G_content_of c_ONE t_ONE
 have G_row_behind:=au9 (P:=l.prog) (w:=w) (base:=base) d_row_behind n_len n_zip
 have G_whole_dies:=au8 (P:=l.prog) (w:=w) (base:=base) d_whole_dies G_row_behind n_min
 have G_dies:=be5 (P:=l.prog) (w:=w) (base:=base) d_dies GD_lifted G_whole_dies n_bool
 have G_middle:=aR4 (P:=l.prog) (w:=w) (base:=base) d_middle G_times G_plus
 have G_all_die:=aK8 (P:=l.prog) (w:=w) (base:=base) d_all_die G_corners_of G_dies
 have G_room_of:=aK5 (P:=l.prog) (w:=w) (base:=base) d_room_of G_check_box G_all_die G_is_below G_less G_middle G_grown c_NOUGHT t_NOUGHT
 have G__law_over:=aC7 (P:=l.prog) (w:=w) (base:=base) d__law_over G__law_low
 have G__law_sign:=aC4 (P:=l.prog) (w:=w) (base:=base) d__law_sign n_int
 have G__law_dies:=aD0 (P:=l.prog) (w:=w) (base:=base) d__law_dies G__law_sign G__law_over G__law_less G__law_times n_range n_len n_zip
 have G__law_all_die:=am2 (P:=l.prog) (w:=w) (base:=base) d__law_all_die G__law_corners G__law_dies n_all
 have G__law_wide:=aC2 (P:=l.prog) (w:=w) (base:=base) d__law_wide G__law_less G__law_plus
 have G__law_said:=aC5 (P:=l.prog) (w:=w) (base:=base) d__law_said G_room_of G__law_which X_RestError kt_NoBox
 have G__law_is_room:=am0 (P:=l.prog) (w:=w) (base:=base) d__law_is_room G__law_all_die GD__law_is_number G__law_below G__law_less G__law_wide G__law_is_box n_isinstance n_tuple n_len n_all
 exact bk8 (P:=l.prog) (w:=w) (base:=base) F_law G__law_urn G__law_draw G__law_drawn_box G__law_bent G__law_said G__law_is_room G__law_is_box n_range n_max n_min n_len n_list
end
theorem bq7 {l:PySem.W.OpenLaw} {q:Program} {loose:List Str} {XP:(Str→Option Value)→Heap→Prop} {YP:World→Heap→Prop} {d:DefRec} {K:Params→PySem.W.Frag} (hn:l.most=some 63) (hdf:d.params.defaults=[])
  (hY:∀ (w:World) (h:Heap),YP w h→(K w.params).In h)
  (F:∀ (w:World) (mg:Str→Option Value) (fa:Addr) (h:Heap),(K w.params).In h→h.Ns mainGlobals mg→mg d.name=some (.ref fa) →
   ∃ fd:FuncData,(∀ (s:Shared) (u:Value),BindsTo s fd ⟨[u],[]⟩ [("_law_script",u)])∧∀ base:Heap,(K w.params).In base→base.Ns mainGlobals mg→ab1 l.prog w (K w.params) mg base CX0 8 fa fd ["_law_script"] (aN0 (K w.params))) :
  PySem.W.WalkO q loose XP YP l.row.toRowW d [] (fun f vs=>PySem.call f vs):=
 L2.aM6 (n:=63) (k:=8) (x:="_law_script") (CX:=fun _=>CX0) (sp:=fun w=>aN0 (K w.params)) hn (by decide) hdf ⟨rfl,by decide,by decide⟩ hY F (fun _ _ a ns hl _ hS=>⟨a,ns,rfl,hS,hl,fun _=>rfl⟩) fun _ _ _ _ _ z=>z
end R
open PySem PySem.W PyProof.Rows
set_option maxRecDepth 100000 in
set_option maxHeartbeats 0 in
theorem PySem.Challenge.cw_restward_k51_room_of_boxes_holds : PySem.Challenge.rw_restward_k51_room_of_boxes.Holds := by
 w_on;o_law;k_head;(case hw=>w_witness2)
 k_fill
 refine R.bq7 (l:=PySem.Challenge.rw_restward_k51_room_of_boxes) rfl rfl (fun w h Y=>PySem.W.kIn_of Y) ?F
 case F=>
  intro w mg fa h KX G hmg
  refine' R.bn7 KX G hmg ?a0 ?l0 ?c0 ?k0 ?a1 ?l1 ?c1 ?k1 ?a2 ?l2 ?c2 ?k2 ?a3 ?l3 ?c3 ?k3 ?a4 ?l4 ?c4 ?k4 ?a5 ?l5 ?c5 ?k5 ?a6 ?l6 ?c6 ?k6 ?a7 ?l7 ?c7 ?k7 ?a8 ?l8 ?c8 ?k8 ?a9 ?l9 ?c9 ?k9 ?a10 ?l10 ?c10 ?k10 ?a11 ?l11 ?c11 ?k11 ?a12 ?l12 ?c12 ?k12 ?a13 ?l13 ?c13 ?k13 ?a14 ?l14 ?c14 ?k14 ?a15 ?l15 ?c15 ?k15 ?a16 ?l16 ?c16 ?k16 ?a17 ?l17 ?c17 ?k17 ?a18 ?l18 ?c18 ?k18 ?a19 ?l19 ?c19 ?k19 ?a20 ?l20 ?c20 ?k20 ?a21 ?l21 ?c21 ?k21 ?a22 ?l22 ?c22 ?k22 ?a23 ?l23 ?c23 ?k23 ?a24 ?l24 ?c24 ?k24 ?a25 ?l25 ?c25 ?k25 ?a26 ?l26 ?c26 ?k26 ?a27 ?l27 ?c27 ?k27 ?a28 ?l28 ?c28 ?k28 ?a29 ?l29 ?c29 ?k29 ?a30 ?l30 ?c30 ?k30 ?a31 ?l31 ?c31 ?k31 ?a32 ?l32 ?c32 ?k32 ?a33 ?l33 ?c33 ?k33 ?a34 ?l34 ?c34 ?k34 ?a35 ?l35 ?c35 ?k35 ?a36 ?l36 ?c36 ?k36 ?a37 ?l37 ?c37 ?k37 ?a38 ?l38 ?c38 ?k38 ?a39 ?l39 ?c39 ?k39 ?a40 ?l40 ?c40 ?k40 ?a41 ?l41 ?c41 ?k41 ?a42 ?l42 ?c42 ?k42 ?a43 ?l43 ?c43 ?k43 ?a44 ?l44 ?c44 ?k44 ?a45 ?l45 ?c45 ?k45 ?a46 ?l46 ?c46 ?k46 ?a47 ?l47 ?c47 ?k47 ?z_ValueError ?z_abs ?z_all ?z_bool ?z_enumerate ?z_int ?z_isinstance ?z_len ?z_list ?z_max ?z_min ?z_range ?z_tuple ?z_zip ?y_SHORT ?y_LEAST ?y_MOST ?y_NOUGHT ?u_NOUGHT ?y_SIDES ?u_SIDES ?u0_SIDES ?u1_SIDES ?u2_SIDES ?u3_SIDES ?y_ONE ?u_ONE ?m_NoFraction ?x_NoFraction ?e_NoFraction ?m_NoPolynomial ?x_NoPolynomial ?e_NoPolynomial ?m_NoStretch ?x_NoStretch ?e_NoStretch ?m_NoRow ?x_NoRow ?e_NoRow ?m_NoPair ?x_NoPair ?e_NoPair ?m_NoBack ?x_NoBack ?e_NoBack ?m_NoForm ?x_NoForm ?e_NoForm ?m_NoParts ?x_NoParts ?e_NoParts ?m_NoDegree ?x_NoDegree ?e_NoDegree ?m_NoSteps ?x_NoSteps ?e_NoSteps ?m_NoBox ?x_NoBox ?e_NoBox ?m_NoGain ?x_NoGain ?e_NoGain ?m_NoText ?x_NoText ?e_NoText ?m_NoLine ?x_NoLine ?e_NoLine ?m_NoName ?x_NoName ?e_NoName ?m_NoDeed ?x_NoDeed ?e_NoDeed ?m_RestError ?x_RestError ?e_RestError ?kt_NoBox
  (case a0=>k_is);(case l0=>k_is);(case c0=>k_is);(case k0=>k_is)
  (case a1=>k_is);(case l1=>k_is);(case c1=>k_is);(case k1=>k_is)
  (case a2=>k_is);(case l2=>k_is);(case c2=>k_is);(case k2=>k_is)
  (case a3=>k_is);(case l3=>k_is);(case c3=>k_is);(case k3=>k_is)
  (case a4=>k_is);(case l4=>k_is);(case c4=>k_is);(case k4=>k_is)
  (case a5=>k_is);(case l5=>k_is);(case c5=>k_is);(case k5=>k_is)
  (case a6=>k_is);(case l6=>k_is);(case c6=>k_is);(case k6=>k_is)
  (case a7=>k_is);(case l7=>k_is);(case c7=>k_is);(case k7=>k_is)
  (case a8=>k_is);(case l8=>k_is);(case c8=>k_is);(case k8=>k_is)
  (case a9=>k_is);(case l9=>k_is);(case c9=>k_is);(case k9=>k_is)
  (case a10=>k_is);(case l10=>k_is);(case c10=>k_is);(case k10=>k_is)
  (case a11=>k_is);(case l11=>k_is);(case c11=>k_is);(case k11=>k_is)
  (case a12=>k_is);(case l12=>k_is);(case c12=>k_is);(case k12=>k_is)
  (case a13=>k_is);(case l13=>k_is);(case c13=>k_is);(case k13=>k_is)
  (case a14=>k_is);(case l14=>k_is);(case c14=>k_is);(case k14=>k_is)
  (case a15=>k_is);(case l15=>k_is);(case c15=>k_is);(case k15=>k_is)
  (case a16=>k_is);(case l16=>k_is);(case c16=>k_is);(case k16=>k_is)
  (case a17=>k_is);(case l17=>k_is);(case c17=>k_is);(case k17=>k_is)
  (case a18=>k_is);(case l18=>k_is);(case c18=>k_is);(case k18=>k_is)
  (case a19=>k_is);(case l19=>k_is);(case c19=>k_is);(case k19=>k_is)
  (case a20=>k_is);(case l20=>k_is);(case c20=>k_is);(case k20=>k_is)
  (case a21=>k_is);(case l21=>k_is);(case c21=>k_is);(case k21=>k_is)
  (case a22=>k_is);(case l22=>k_is);(case c22=>k_is);(case k22=>k_is)
  (case a23=>k_is);(case l23=>k_is);(case c23=>k_is);(case k23=>k_is)
  (case a24=>k_is);(case l24=>k_is);(case c24=>k_is);(case k24=>k_is)
  (case a25=>k_is);(case l25=>k_is);(case c25=>k_is);(case k25=>k_is)
  (case a26=>k_is);(case l26=>k_is);(case c26=>k_is);(case k26=>k_is)
  (case a27=>k_is);(case l27=>k_is);(case c27=>k_is);(case k27=>k_is)
  (case a28=>k_is);(case l28=>k_is);(case c28=>k_is);(case k28=>k_is)
  (case a29=>k_is);(case l29=>k_is);(case c29=>k_is);(case k29=>k_is)
  (case a30=>k_is);(case l30=>k_is);(case c30=>k_is);(case k30=>k_is)
  (case a31=>k_is);(case l31=>k_is);(case c31=>k_is);(case k31=>k_is)
  (case a32=>k_is);(case l32=>k_is);(case c32=>k_is);(case k32=>k_is)
  (case a33=>k_is);(case l33=>k_is);(case c33=>k_is);(case k33=>k_is)
  (case a34=>k_is);(case l34=>k_is);(case c34=>k_is);(case k34=>k_is)
  (case a35=>k_is);(case l35=>k_is);(case c35=>k_is);(case k35=>k_is)
  (case a36=>k_is);(case l36=>k_is);(case c36=>k_is);(case k36=>k_is)
  (case a37=>k_is);(case l37=>k_is);(case c37=>k_is);(case k37=>k_is)
  (case a38=>k_is);(case l38=>k_is);(case c38=>k_is);(case k38=>k_is)
  (case a39=>k_is);(case l39=>k_is);(case c39=>k_is);(case k39=>k_is)
  (case a40=>k_is);(case l40=>k_is);(case c40=>k_is);(case k40=>k_is)
  (case a41=>k_is);(case l41=>k_is);(case c41=>k_is);(case k41=>k_is)
  (case a42=>k_is);(case l42=>k_is);(case c42=>k_is);(case k42=>k_is)
  (case a43=>k_is);(case l43=>k_is);(case c43=>k_is);(case k43=>k_is)
  (case a44=>k_is);(case l44=>k_is);(case c44=>k_is);(case k44=>k_is)
  (case a45=>k_is);(case l45=>k_is);(case c45=>k_is);(case k45=>k_is)
  (case a46=>k_is);(case l46=>k_is);(case c46=>k_is);(case k46=>k_is)
  (case a47=>k_is);(case l47=>k_is);(case c47=>k_is);(case k47=>k_is)
  (case z_ValueError=>k_is)
  (case z_abs=>k_is)
  (case z_all=>k_is)
  (case z_bool=>k_is)
  (case z_enumerate=>k_is)
  (case z_int=>k_is)
  (case z_isinstance=>k_is)
  (case z_len=>k_is)
  (case z_list=>k_is)
  (case z_max=>k_is)
  (case z_min=>k_is)
  (case z_range=>k_is)
  (case z_tuple=>k_is)
  (case z_zip=>k_is)
  (case y_SHORT=>k_is)
  (case y_LEAST=>k_is)
  (case y_MOST=>k_is)
  (case y_NOUGHT=>k_is);(case u_NOUGHT=>k_is)
  (case y_SIDES=>k_is);(case u_SIDES=>k_is)
  (case u0_SIDES=>k_is)
  (case u1_SIDES=>k_is)
  (case u2_SIDES=>k_is)
  (case u3_SIDES=>k_is)
  (case y_ONE=>k_is);(case u_ONE=>k_is)
  (case m_NoFraction=>k_is);(case x_NoFraction=>k_exc);(case e_NoFraction=>(refine ⟨?_,?_,?_,?_,?_,?_⟩ <;> first | k_is | kernel_rfl))
  (case m_NoPolynomial=>k_is);(case x_NoPolynomial=>k_exc);(case e_NoPolynomial=>(refine ⟨?_,?_,?_,?_,?_,?_⟩ <;> first | k_is | kernel_rfl))
  (case m_NoStretch=>k_is);(case x_NoStretch=>k_exc);(case e_NoStretch=>(refine ⟨?_,?_,?_,?_,?_,?_⟩ <;> first | k_is | kernel_rfl))
  (case m_NoRow=>k_is);(case x_NoRow=>k_exc);(case e_NoRow=>(refine ⟨?_,?_,?_,?_,?_,?_⟩ <;> first | k_is | kernel_rfl))
  (case m_NoPair=>k_is);(case x_NoPair=>k_exc);(case e_NoPair=>(refine ⟨?_,?_,?_,?_,?_,?_⟩ <;> first | k_is | kernel_rfl))
  (case m_NoBack=>k_is);(case x_NoBack=>k_exc);(case e_NoBack=>(refine ⟨?_,?_,?_,?_,?_,?_⟩ <;> first | k_is | kernel_rfl))
  (case m_NoForm=>k_is);(case x_NoForm=>k_exc);(case e_NoForm=>(refine ⟨?_,?_,?_,?_,?_,?_⟩ <;> first | k_is | kernel_rfl))
  (case m_NoParts=>k_is);(case x_NoParts=>k_exc);(case e_NoParts=>(refine ⟨?_,?_,?_,?_,?_,?_⟩ <;> first | k_is | kernel_rfl))
  (case m_NoDegree=>k_is);(case x_NoDegree=>k_exc);(case e_NoDegree=>(refine ⟨?_,?_,?_,?_,?_,?_⟩ <;> first | k_is | kernel_rfl))
  (case m_NoSteps=>k_is);(case x_NoSteps=>k_exc);(case e_NoSteps=>(refine ⟨?_,?_,?_,?_,?_,?_⟩ <;> first | k_is | kernel_rfl))
  (case m_NoBox=>k_is);(case x_NoBox=>k_exc);(case e_NoBox=>(refine ⟨?_,?_,?_,?_,?_,?_⟩ <;> first | k_is | kernel_rfl))
  (case m_NoGain=>k_is);(case x_NoGain=>k_exc);(case e_NoGain=>(refine ⟨?_,?_,?_,?_,?_,?_⟩ <;> first | k_is | kernel_rfl))
  (case m_NoText=>k_is);(case x_NoText=>k_exc);(case e_NoText=>(refine ⟨?_,?_,?_,?_,?_,?_⟩ <;> first | k_is | kernel_rfl))
  (case m_NoLine=>k_is);(case x_NoLine=>k_exc);(case e_NoLine=>(refine ⟨?_,?_,?_,?_,?_,?_⟩ <;> first | k_is | kernel_rfl))
  (case m_NoName=>k_is);(case x_NoName=>k_exc);(case e_NoName=>(refine ⟨?_,?_,?_,?_,?_,?_⟩ <;> first | k_is | kernel_rfl))
  (case m_NoDeed=>k_is);(case x_NoDeed=>k_exc);(case e_NoDeed=>(refine ⟨?_,?_,?_,?_,?_,?_⟩ <;> first | k_is | kernel_rfl))
  (case m_RestError=>k_is);(case x_RestError=>k_exc);(case e_RestError=>(refine ⟨?_,?_,?_,?_,?_,?_⟩ <;> first | k_is | kernel_rfl))
  (case kt_NoBox=>(refine ⟨?_,?_,?_,?_,?_,?_,?_,?_,?_,?_,?_,?_,?_,?_,?_,?_,?_,?_,?_⟩ <;> first | kernel_rfl | (refine ⟨?_,?_,?_,?_,?_,?_⟩ <;> first | k_is | kernel_rfl)))
