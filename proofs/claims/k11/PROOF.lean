import PyProof.Rows.All
import Wide.All
import OpenK.AllK
import Wide.FinOn
import PyProof.EqAt
import PyProof.EqKinds
import PyProof.TupleCall
import KE.KTryMore
import KE.KIsNot
import PyProof.MeetsStr
import PyProof.Rows.RuleM_int
import PyProof.CompFree
import PyProof.WalksEnum
import PyProof.EnumMake
import PyProof.NeKinds
import PyProof.ConsumeWalk
import PyProof.CompMap
import PyProof.Rows.EqBoolInt
import KE.IntBitsLaws
import PyProof.ZipIter
import PyProof.Rows.ZipGen
import PyProof.MinMaxWalk
import PyProof.WalkInts
import PyProof.Rows.CallKwBuiltin
import PyProof.CompUse
import KE.KRevIter
import PyProof.Rows.Range3
import PyProof.NsDelKeeps
import PyProof.SumAny
import PyProof.TupleIter
import PyProof.WalksMore
import PyProof.ListRange
import PyProof.CollectStr
import PyProof.TupleOfStr
import PySem.Challenge.RW_restward_k11_stretches_told
open PySem.W renaming Frag→q0a,kitOne→z0q,mg_none_of→j0a,nsIn→j0q,kia_one→y0n,keepIn→y0x,fnOf→v0t,hideAll_get→v0w,mg_of→u0k,findIn→g0b,cellsFrom_some→g0h,methodObj→m0r,instObj→q1p,hideAll→q1q,OpenLaw→q1r,lookIn→z1a,codeIn→z1b,excIn→z1r
open List renaming mem_cons_of_mem→q0b,mem_cons_self→q0c,getElem?_eq_getElem→q0d,length_map→q0e,getElem?_eq_some_iff→q0g,mem_append_right→q0h,mem_singleton→q0m,mem_of_getElem?→q0p,getElem?_map→q0r,mem_append→q0t,size_toArray→q0u,mem_map→q0w,mem_cons→z0a,countP_cons→z0c,replicate→z0e,length_append→z0g,getElem?_append_left→z0h,getElem?_eq_none→z0m,length_cons→z0t,map_cons→z0w,length_singleton→z0y,mem_filter→j0h,length_take→j0j,map_append→j0m,length_pos_iff→j0p,nodup_cons→j0r,getElem?_append_right→j0v,countP_append→j0y,filter_cons→y0d,range→y0f,take_length→y0k,getElem_of_mem→y0q,take_succ→y0y,mem_append_left→v0a,eq_nil_of_length_eq_zero→v0e,filterMap_cons→v0g,length_replicate→v0m,Nodup→v0r,getElem_mem→v0u,replicate_succ→v0x,getElem?_replicate→v0y,getElem?_cons_succ→v0z,set_cons_succ→u0b,append_nil→u0s,getLast?_eq_getElem?→u0t,set_cons_zero→u0z,nodup_nil→g0c,getLast?_cons_cons→g0d,flatten_cons→g0e,nodup_append→g0g,sum_cons→g0n,countP_eq_length→g0r,length_filter_le→g0s,of_mem_zip→g0v,mem_of_getLast?→m0a,length_nil→m0b,mem_filterMap→m0k,getElem?_take→m0m,all_cons→m0p,length_range→m0u,getLast?_map→m0v,drop_eq_getElem_cons→m0y,getElem?_take_of_lt→m0z,length_drop→q1a,lookup_cons→q1c,not_mem_nil→q1g,getElem_map→q1h,sum_append→q1u,getElem?_set_self→q1v,range_succ_eq_map→q1x,mem_iff_getElem?→z1e,countP_le_length→z1g,getElem?_set_ne→z1h,mem_of_mem_take→z1j,mem_of_mem_drop→z1n,pairwise_append→z1p,Pairwise→z1q,filter_sublist→z1w,map_congr_left→z1x,map_nil→z1z,map_map→j1f
open Nat renaming lt_of_lt_of_le→q0f,le_refl→q0q,lt_of_le_of_lt→q0v,ne_of_lt→z0b,le_trans→z0v,add_sub_cancel→z0z,mul_le_mul→j0f,zero_le→j0g,mul_pos→j0s,mul_lt_mul''→j0w,pow_add→y0e,two_pow_pos→y0g,mul_le_mul_left→y0m,le_of_lt→y0p,lt_succ_self→y0r,le_mul_of_pos_left→y0u,lt_or_ge→y0v,lt_irrefl→y0w,mul_le_mul_right→v0c,pow_succ→v0j,eq_zero_or_pos→v0k,le_of_dvd→v0n,eq_of_mul_eq_mul_left→v0p,pow_le_pow_right→v0q,le_succ→v0s,dvd_zero→v0v,mul_comm→u0g,mul_lt_mul_of_lt_of_le→u0m,pow_pos→u0p,dvd_one→u0q,pow_le_pow_left→u0r,sub_zero→u0w,sub_self→u0x,lt_succ_of_lt→g0f,Coprime→g0j,pow_mul→g0k,mul_assoc→g0m,le_add_right→g0p,lcm→g0q,one_mul→m0f,mul_add→m0g,add_mul→m0h,dvd_trans→m0q,add_comm→q1b,le_mul_of_pos_right→q1k,add_sub_cancel_left→q1m,eq_zero_of_zero_dvd→q1n,mul_one→q1y,pow_lt_pow_right→z1m,ne_of_gt→z1y,dvd_refl→j1c,zero_add→j1e,log2_lt→j1k
open PySem.Heap renaming lt_size→q0j,get?_push_of_some→q0y,get?_push_size→j0b,SameBut→g0t,size_push→m0e,get?_update_other→q1w,FlyingW→j1a
open Int renaming natAbs_natCast→q0k,natAbs_mul→z0f,gcd→z0r,natAbs→z0s,natCast_mul→j0e,natAbs_dvd_natAbs→j0t,natCast_dvd_natCast→j0x,fmod_nonneg_of_pos→y0t,natAbs_neg→y0z,mul_ne_zero→v0b,mul_le_mul_of_nonneg_right→v0d,fmod_lt_of_pos→v0h,gcd_dvd_right→u0f,gcd_dvd_left→u0j,mul_pos→u0n,mul_comm→u0v,zero_mul→g0y,natAbs_add_le→m0t,pow_succ→q1f,natAbs_zero→q1t,mul_fdiv_add_fmod→z1d,mul_ediv_cancel'→z1k,dvd_trans→z1s,mul_assoc→z1t,ne_of_gt→j1b,le_trans→j1h,mul_one→j1j,pow_pos→j1m
open Rat renaming intCast_mul→q0n,divInt→q0s,intCast_natCast→q0x,mul_nonneg→z0j,intCast_zero→z0k,mul_inv_cancel→z0n,mul_pos→z0p,num_divInt_den→z0u,mul_eq_zero→z0x,intCast_le_intCast→j0c,mul_le_mul_of_nonneg_left→j0d,intCast_inj→j0k,divInt_eq_div→j0n,intCast_pos→j0u,intCast_neg→j0z,divInt_eq_divInt_iff→y0b,le_of_lt→y0c,div_mul_cancel→y0h,div_def→y0j,natCast_mul→y0s,natCast_eq_zero_iff→v0f,natCast_inj→u0c,natCast_add→u0d,divInt_mul_divInt→u0h,le_trans→g0a,intCast_add→g0w,intCast_sub→g0x,mul_le_mul_of_nonneg_right→m0c,intCast_neg_iff→m0d,le_refl→m0j,mul_lt_mul_of_pos_right→m0n,not_lt→m0w,lt_iff→m0x,pow_succ→q1e,ne_of_gt→q1j,num_eq_zero→q1s,inv_pos→q1z,divInt_add_divInt→z1c,mul_assoc→z1u,mul_comm→j1d,pow_zero→j1g
open Bool renaming false_ne_true→q0z,and_eq_true→y0a,or_eq_true→u0a,false_eq_true→u0y,eq_iff_iff→g0u,or_eq_false_iff→g0z,not_eq_true'→m0s,and_eq_false_iff→z1f
open Or renaming inl→z0d,inr→u0e
open Option renaming isSome_iff_exists→u0u,getD_some→q1d
open Array renaming length_toList→z1v
set_option Elab.async false
set_option linter.all false
local macro_rules | `(tactic|trivial) => `(tactic|decide +kernel)
local macro_rules | `(def $i:declId $s:optDeclSig $v:declVal) => `(noncomputable def $i:declId $s:optDeclSig $v:declVal)
local macro_rules | `(abbrev $i:declId $s:optDeclSig $v:declVal) => `(noncomputable abbrev $i:declId $s:optDeclSig $v:declVal)
local macro_rules | `(⋯) => `(by omega)
set_option maxHeartbeats 0
noncomputable section
set_option maxRecDepth 100000
namespace L2
open PySem PySem.Spec PyProof.Rows
abbrev Key:=Sum Int Str
def bz1:Key->Value->Bool
 | .inl k,v=>Value.isInt k v
 | .inr x,v=>Value.isStrOf x v
def bO7 (w:World):Key->Int
 | .inl k=>hashInt k
 | .inr x=>hashStr w x
theorem C1:∀ {k:Key} {v:Value},bz1 k v=true->(∃ i t,k=Sum.inl i/\v=Value.int i t) \/ (∃ x t,k=Sum.inr x/\v=Value.str x t)
 | .inl i,v,h=>by
  obtain ⟨t,e⟩:=Value.isInt_shape (k:=i) (v:=v) h
  exact .inl ⟨i,t,rfl,e⟩
 | .inr x,v,h=>by
  obtain ⟨t,e⟩:=Value.isStrOf_shape (x:=x) (v:=v) h
  exact .inr ⟨x,t,rfl,e⟩
theorem bG5 (a b:Int):decide ((Sum.inl a:Key)=Sum.inl b)=(a == b):=by
 by_cases e:a=b
 ·subst e;simp
 ·have h:¬ (Sum.inl a:Key)=Sum.inl b:=λq=>e (Sum.inl.inj q)
  rw [decide_eq_false h]
  exact (beq_eq_false_iff_ne.mpr e).symm
theorem bG2 (a b:Str):decide ((Sum.inr a:Key)=Sum.inr b)=decide (a=b):=by
 by_cases e:a=b
 ·subst e;simp
 ·have h:¬ (Sum.inr a:Key)=Sum.inr b:=λq=>e (Sum.inr.inj q)
  rw [decide_eq_false h,decide_eq_false e]
theorem bG4 (a:Int) (b:Str):decide ((Sum.inl a:Key)=Sum.inr b)=false:=decide_eq_false (λq=>nomatch q)
theorem bG3 (a:Str) (b:Int):decide ((Sum.inr a:Key)=Sum.inl b)=false:=decide_eq_false (λq=>nomatch q)
def aG6 (prog:Program) (w:World):PySem.KeyKind prog w Key where
 is:=bz1
 hash:=bO7 w
 inj:=λv a b ha hb=>by
  rcases C1 ha with ⟨i,t,rfl,rfl⟩ | ⟨x,t,rfl,rfl⟩
  ·rcases C1 hb with ⟨j,u,rfl,e⟩ | ⟨y,u,rfl,e⟩
   ·injection e with e1 _;rw [e1]
   ·exact nomatch e
  ·rcases C1 hb with ⟨j,u,rfl,e⟩ | ⟨y,u,rfl,e⟩
   ·exact nomatch e
   ·injection e with e1 _;rw [e1]
 byValue:=λk v h=>by
  rcases C1 h with ⟨i,t,rfl,rfl⟩ | ⟨x,t,rfl,rfl⟩ <;> rfl
 pyHash:=λhv h=>by
  rcases C1 hv with ⟨i,t,rfl,rfl⟩ | ⟨x,t,rfl,rfl⟩
  ·exact wpAny_pyHash_int h
  ·exact wpAny_pyHash_str h
 eqBool:=λhu hv h=>by
  rcases C1 hu with ⟨i,t,rfl,rfl⟩ | ⟨x,t,rfl,rfl⟩
  ·rcases C1 hv with ⟨j,u,rfl,rfl⟩ | ⟨y,u,rfl,rfl⟩
   ·rw [bG5] at h;exact wpAny_eqBool_int h
   ·rw [bG4] at h;exact SeqAt.EqAt.int_str i t y u _ _ _ _ h
  ·rcases C1 hv with ⟨j,u,rfl,rfl⟩ | ⟨y,u,rfl,rfl⟩
   ·rw [bG3] at h;exact SeqAt.EqAt.str_int x t j u _ _ _ _ h
   ·rw [bG2] at h;exact wpAny_eqBool_str h
 «strs» := λk x t v h=>by
  rcases C1 h with ⟨i,u,rfl,e⟩ | ⟨y,u,rfl,e⟩
  ·exact nomatch e
  ·injection e with e1 _
   subst e1
   cases v <;> rfl
inductive V where
 | non | bl (b:Bool) | int (i:Int) | str (x:Str) | byt (b:Array UInt8) | flt (b:UInt64) | ref (a:Addr) | ty (n:String)
 deriving DecidableEq
def x8:V->Value->Prop
 | .non,u=>u=Value.none
 | .bl b,u=>u=Value.bool b
 | .int i,u => ∃ t,u=Value.int i t
 | .str x,u => ∃ t,u=Value.str x t
 | .byt b,u => ∃ t,u=Value.bytes b t
 | .flt b,u => ∃ t,u=Value.float b t
 | .ref a,u=>u=Value.ref a
 | .ty n,u=>u=Value.type n
abbrev n5:List V->List Value->Prop:=Paired x8
theorem n5.length {xs:List V} {us:List Value} (r:n5 xs us):xs.length=us.length:=Paired.length r
theorem n5.get:∀ {xs:List V} {us:List Value} {i:Nat} {x:V},n5 xs us->xs[i]? = some x->∃ u,us[i]? = some u/\x8 x u
 | _,_,_,_,.nil,e=>by simp at e
 | _,_,0,_,.cons r _,e=>by simp at e;subst e;exact ⟨_,rfl,r⟩
 | _,_,i+1,x,.cons _ t,e=>by
  obtain ⟨u,h1,h2⟩:=n5.get (i:=i) (x:=x) t (by simpa using e)
  exact ⟨u,by simpa using h1,h2⟩
theorem n5.set {x:V} {u:Value} (r:x8 x u):∀ {xs:List V} {us:List Value} (i:Nat),n5 xs us->n5 (xs.set i x) (us.set i u)
 | _,_,_,.nil=>.nil
 | _,_,0,.cons _ t=>.cons r t
 | _,_,i+1,.cons q t=>.cons q (n5.set r i t)
theorem n5.append:∀ {xs ys:List V} {us ws:List Value},n5 xs us->n5 ys ws->n5 (xs ++ ys) (us ++ ws)
 | _,_,_,_,.nil,s=>s
 | _,_,_,_,.cons r t,s=>.cons r (n5.append t s)
theorem n5.take:∀ {xs:List V} {us:List Value} (n:Nat),n5 xs us->n5 (xs.take n) (us.take n)
 | _,_,0,_=>.nil
 | _,_,_+1,.nil=>.nil
 | _,_,n+1,.cons r t=>.cons r (n5.take n t)
theorem n5.drop:∀ {xs:List V} {us:List Value} (n:Nat),n5 xs us->n5 (xs.drop n) (us.drop n)
 | _,_,0,r=>r
 | _,_,_+1,.nil=>.nil
 | _,_,n+1,.cons _ t=>n5.drop n t
def bJ8:Option V->Option Value->Prop
 | some v,some u=>x8 v u
 | none,none=>True
 | _,_=>False
def KV {κ:Type}:List (κ × V)->List (κ × Value)->Prop:=Paired λ(p:κ × V) (q:κ × Value)=>p.1=q.1/\x8 p.2 q.2
def kV:Key->V
 | .inl i=>.int i
 | .inr x=>.str x
inductive HO where
 /-- a list -/
 | lst (xs:List V)
 /-- a tuple (never changes) -/
 | tup (xs:List V)
 /-- a dict whose keys are ints and texts;one whose keys are tuples of ints and texts (the empty one is both) -/
 | dK (kvs:List (Key × V)) | dT (kvs:List (List Key × V))
 /-- a set of ints: its members,its size -/
 | set (S:Int->Bool) (n:Nat)
 /-- an instance of the class at C,its dict at dx,its attributes -/
 | ins (C dx:Addr) (fs:List (Str × V))
 /-- the dict of the instance at x -/
 | own (x:Addr)
 /-- the dict of an exception -/
 | xd (fs:List (Str × V))
 /-- a bound method,f of x -/
 | met (f x:Addr)
 /-- a range object lo,lo+1,.. P5 hi -/
 | rng (lo hi:Int)
 /-- a thing that is known to the object (the script;a dict while a loop walks it): read,never written while it is so -/
 | frz (o:Obj) (u:HO)
 /-- a code object's table -/
 | tbl (ps:Array Value)
 /-- any other thing,by what is true of its one object (a def of one's own: SetO a S n:=HO.ext λh=>..) -/
 | ext (φ:Heap->Prop)
abbrev Hp:=Addr->Option HO
def upd (H:Hp) (a:Addr) (o:HO):Hp:=λb=>if b=a then some o else H b
theorem c4 {H:Hp} {a:Addr} {o:HO}:upd H a o a=some o:=by unfold upd;rw [if_pos rfl]
theorem g8 {H:Hp} {a b:Addr} {o:HO} (h:b ≠ a):upd H a o b=H b:=by unfold upd;rw [if_neg h]
theorem by7 {H:Hp} {a b:Addr} {o u:HO} (h:H a=some o) (h':H b=some u) (d:o ≠ u):a ≠ b:=by
 intro e;subst e;rw [h] at h';exact d (Option.some.inj h')
theorem g7 {H:Hp} {a b:Addr} {o:HO} (h:H a=some o) (h':H b=none):a ≠ b:=by
 intro e;subst e;rw [h] at h';cases h'
section
variable (P:Program) (w:World)
def E9 (H:Hp) (h:Heap) (a:Addr):HO->Prop
 | .lst xs=>xs.length<=sizeLine/\∃ (its:List Value) (n:Nat),n5 xs its/\h.get? a=some { cls:=.type "list",data:=.seq its.toArray n }
 | .tup xs=>xs.length<=sizeLine/\∃ its:List Value,n5 xs its/\IsTup h a its.toArray
 | .dK kvs=>kvs.length<=sizeLine/\(a == sysModules)=false/\∃ vs,KV kvs vs/\h.DictOf (aG6 P w) a vs
 | .dT kvs=>kvs.length<=sizeLine/\(a == sysModules)=false/\∃ xs:List (List Key × Addr × Value),
   Paired (λ(p:List Key × V) (q:List Key × Addr × Value)=>p.1=q.1/\H q.2.1=some (.tup (p.1.map kV))/\x8 p.2 q.2.2) kvs xs /\
   ∃ o es ep,h.get? a=some o/\o.ExactDict/\o.data=.dict es ep/\es.toList=xs.map (entryOfKey (tupleKind (aG6 P w)))/\(xs.map (·.1)).Nodup
 | .set S n=>h.SetOf (intKind P w) a S n
 | .ins C dx fs=>H dx=some (.own a)/\fs.length<=1000/\dx ≠ a/\h.get? a=some (q1p C dx) /\
   ∃ mA,h.Ns1 dx mA/\(∀ f,bJ8 (fs.lookup f) (mA f))/\PySem.Within mA (fs.map (·.1))
 | .own _ => ∃ o,h.get? a=some o
 | .xd fs => ∃ mA,h.Ns1 a mA/\∀ f,bJ8 (fs.lookup f) (mA f)
 | .rng lo hi => ∃ t u v,h.get? a=some { cls:=.type "range",data:=.fields #[.int lo t,.int hi u,.int 1 v] }
 | .frz o u=>h.get? a=some o/\E9 H h a u
 | .tbl ps=>h.get? a=some { cls:=.none,data:=.fields ps }
 | .met f x=>h.get? a=some (m0r (.ref f) (.ref x))
 | .ext φ=>φ h/\(∃ o,h.get? a=some o)/\∀ h1 h2:Heap,φ h1->(∀ o,h1.get? a=some o->h2.get? a=some o)->φ h2
def HOk (H:Hp) (h:Heap):Prop:=∀ a o,H a=some o->E9 P w H h a o
end
section
variable {P:Program} {w:World} {H H':Hp} {h h':Heap} {a:Addr} {o:HO}
theorem E9.lt (x:E9 P w H h a o):a<h.objs.size:=by
 cases o with
 | lst xs=>obtain ⟨_,_,_,_,e⟩:=x;exact q0j e
 | tup xs=>obtain ⟨_,_,_,p⟩:=x;exact p.lt
 | dK kvs=>obtain ⟨_,_,_,_,o,_,_,e,_⟩:=x;exact q0j e
 | dT kvs=>obtain ⟨_,_,_,_,o,_,_,e,_⟩:=x;exact q0j e
 | set S n=>obtain ⟨o,_,_,_,e,_⟩:=x;exact q0j e
 | ins C dx fs=>obtain ⟨_,_,_,e,_⟩:=x;exact q0j e
 | own y=>obtain ⟨_,e⟩:=x;exact q0j e
 | xd fs=>obtain ⟨_,⟨_,_,_,e,_⟩,_⟩:=x;exact q0j e
 | rng lo hi=>obtain ⟨_,_,_,e⟩:=x;exact q0j e
 | frz ob u=>obtain ⟨e,_⟩:=x;exact q0j e
 | tbl ps=>exact q0j (show h.get? a=some _ from x)
 | met f y=>exact q0j (show h.get? a=some _ from x)
 | ext φ=>obtain ⟨_,⟨_,e⟩,_⟩:=x;exact q0j e
theorem Paired.mapP {α β:Type} {F G:α->β->Prop}:∀ {l₁:List α} {l₂:List β},Paired F l₁ l₂->(∀ a b,F a b->G a b)->Paired G l₁ l₂
 | _,_,.nil,_=>.nil
 | _,_,.cons r t,f=>.cons (f _ _ r) (Paired.mapP t f)
theorem E9.stay (x:E9 P w H h a o) (k:∀ b u,(b=a \/ H b=some (.own a))->h.get? b=some u->h'.get? b=some u)
  (ho:∀ b,H b=some (.own a)->H' b=some (.own a)) (ht:∀ b xs,H b=some (.tup xs)->H' b=some (.tup xs)):E9 P w H' h' a o:=by
 induction o with
 | lst xs=>obtain ⟨z,its,n,r,e⟩:=x;exact ⟨z,its,n,r,k _ _ (.inl rfl) e⟩
 | tup xs=>obtain ⟨z,its,r,ob,e,c⟩:=x;exact ⟨z,its,r,ob,k _ _ (.inl rfl) e,c⟩
 | dK kvs=>obtain ⟨z,y,vs,r,ob,es,ep,e,c⟩:=x;exact ⟨z,y,vs,r,ob,es,ep,k _ _ (.inl rfl) e,c⟩
 | dT kvs =>
  obtain ⟨z,y,xs,r,ob,es,ep,e,c⟩:=x
  exact ⟨z,y,xs,Paired.mapP r λp q z=>⟨z.1,ht _ _ z.2.1,z.2.2⟩,ob,es,ep,k _ _ (.inl rfl) e,c⟩
 | set S n=>obtain ⟨ob,es,ep,t,e,c⟩:=x;exact ⟨ob,es,ep,t,k _ _ (.inl rfl) e,c⟩
 | ins C dx fs =>
  obtain ⟨d,z,ne,e,mA,⟨od,es,ep,e2,c⟩,r⟩:=x
  exact ⟨ho _ d,z,ne,k _ _ (.inl rfl) e,mA,⟨od,es,ep,k _ _ (.inr d) e2,c⟩,r⟩
 | own y=>obtain ⟨ob,e⟩:=x;exact ⟨ob,k _ _ (.inl rfl) e⟩
 | xd fs=>obtain ⟨mA,⟨od,es,ep,e,c⟩,r⟩:=x;exact ⟨mA,⟨od,es,ep,k _ _ (.inl rfl) e,c⟩,r⟩
 | rng lo hi=>obtain ⟨t,u,v,e⟩:=x;exact ⟨t,u,v,k _ _ (.inl rfl) e⟩
 | frz ob u ih=>obtain ⟨e,q⟩:=x;exact ⟨k _ _ (.inl rfl) e,ih q⟩
 | tbl ps =>
  have e:h.get? a=some { cls:=.none,data:=.fields ps }:=x
  show h'.get? a=some { cls:=.none,data:=.fields ps }
  exact k a _ (.inl rfl) e
 | met f y =>
  have e:h.get? a=some (m0r (.ref f) (.ref y)):=x
  show h'.get? a=some (m0r (.ref f) (.ref y))
  exact k a _ (.inl rfl) e
 | ext φ=>obtain ⟨p,⟨o,e⟩,st⟩:=x;exact ⟨st _ _ p λo q=>k _ _ (.inl rfl) q,⟨o,k _ _ (.inl rfl) e⟩,st⟩
theorem HOk.lt (x:HOk P w H h) (e:H a=some o):a<h.objs.size:=(x a o e).lt
theorem HOk.fresh (x:HOk P w H h) (e:h.objs.size<=a):H a=none:=by
 cases q:H a with
 | none=>rfl
 | some u=>exact absurd (q0f (x.lt q) e) (y0w _)
theorem HOk.kept (x:HOk P w H h) (k:∀ b u,h.get? b=some u->h'.get? b=some u):HOk P w H h':=λa o e =>
 (x a o e).stay (λb u _ q=>k b u q) (λ_ q=>q) λ_ _ q=>q
theorem HOk.laid (x:HOk P w H h) (k:∀ b u,h.get? b=some u->h'.get? b=some u) (hp:h.objs.size<=a) (new:E9 P w (upd H a o) h' a o):HOk P w (upd H a o) h':=λb u e=>by
 have hn:=x.fresh hp
 by_cases hb:b=a
 ·subst hb;rw [c4] at e;cases e;exact new
 ·rw [g8 hb] at e
  exact (x b u e).stay (λc v _ q=>k c v q) (λc q=>by rw [g8 (g7 q hn)];exact q) λc xs q=>by rw [g8 (g7 q hn)];exact q
end
def Rd (H:Hp) (a:Addr) (u:HO):Prop:=H a=some u \/ ∃ o,H a=some (.frz o u)
theorem Rd.ok {P:Program} {w:World} {H:Hp} {h:Heap} {a:Addr} {u:HO} (r:Rd H a u) (x:HOk P w H h):E9 P w H h a u:=by
 rcases r with r | ⟨o,r⟩
 ·exact x a u r
 ·obtain ⟨_,q⟩:=x a _ r
  exact q
def Mut:Option HO->Prop
 | some (.lst _)=>True
 | some (.dK _)=>True
 | some (.dT _)=>True
 | some (.set _ _)=>True
 | some (.ins _ _ _)=>True
 | some (.ext _)=>True
 | _=>False
section
variable {P:Program} {w:World} {H:Hp} {h h':Heap} {x e:Addr} {o':HO}
theorem HOk.write (ok:HOk P w H h) (mu:Mut (H x)) (he:e=x \/ H e=some (.own x)) (k:∀ b u,b ≠ e->h.get? b=some u->h'.get? b=some u) (heo:∃ u,h'.get? e=some u)
  (new:E9 P w (upd H x o') h' x o'):HOk P w (upd H x o') h':=λb u q=>by
 have nown:∀ c y,H c=some (.own y)->c ≠ x:=λc y r z=>by subst z;rw [r] at mu;exact mu
 have ntup:∀ c xs,H c=some (.tup xs)->c ≠ x:=λc xs r z=>by subst z;rw [r] at mu;exact mu
 by_cases hb:b=x
 ·subst hb;rw [c4] at q;cases q;exact new
 ·rw [g8 hb] at q
  by_cases hbe:b=e
  ·have q':H b=some (.own x):=by
    rcases he with z | z
    ·exact absurd (hbe.trans z) hb
    ·rw [hbe];exact z
   rw [q] at q';cases q'
   obtain ⟨v,hv⟩:=heo
   exact ⟨v,by rw [hbe];exact hv⟩
  ·refine (ok b u q).stay (λc v hc r=>k c v ?_ r) (λc r=>by rw [g8 (nown c b r)];exact r) λc xs r=>by rw [g8 (ntup c xs r)];exact r
   rcases hc with rfl | hc
   ·exact hbe
   ·rintro rfl
    rcases he with z | z
    ·exact nown c b hc z
    ·rw [hc] at z;cases z;exact hb rfl
end
structure Un (fs ex:List Addr) (H H':Hp) (h h':Heap):Prop where
 keep:∀ b o,h.get? b=some o->H b=none->b ∉ fs->b ∉ ex->h'.get? b=some o
 slot:∀ b o,h.get? b=some o->H b=none->b ∈ fs->b ∉ ex->∃ sl,h'.get? b=some { o with slots:=sl }
 free:∀ b o,h.get? b=some o->H b=none->b ∉ ex->H' b=none
 there:∀ b o,h.get? b=some o->b ∉ ex->∃ o',h'.get? b=some o'
 tups:∀ b xs,H b=some (.tup xs)->H' b=some (.tup xs)
 frzs:∀ b o u,H b=some (.frz o u)->H' b=some (.frz o u)
 tbls:∀ b ps,H b=some (.tbl ps)->∃ more,H' b=some (.tbl (ps ++ more))
section
variable {fs fs' ex ex':List Addr} {H H1 H2:Hp} {h h1 h2 h':Heap} {a x e:Addr} {o:HO}
theorem Un.any (u:Un fs ex H H1 h h1) {b:Addr} {ob:Obj} (q:h.get? b=some ob) (n:H b=none) (hx:b ∉ ex):∃ sl,h1.get? b=some { ob with slots:=sl }:=by
 by_cases hb:b ∈ fs
 ·exact u.slot b ob q n hb hx
 ·exact ⟨ob.slots,u.keep b ob q n hb hx⟩
theorem Un.kept (k:∀ b u,h.get? b=some u->h'.get? b=some u):Un fs ex H H h h' :=
 ⟨λb ob q _ _ _=>k b ob q,λb ob q _ _ _=>⟨ob.slots,k b ob q⟩,λ_ _ _ n _=>n,λb ob q _=>⟨ob,k b ob q⟩,λ_ _ q=>q,λ_ _ _ q=>q,λ_ ps q=>⟨#[],by rw [q];simp⟩⟩
theorem Un.refl:Un fs ex H H h h:=Un.kept λ_ _ q=>q
theorem Un.laid (k:∀ b u,h.get? b=some u->h'.get? b=some u) (hp:h.objs.size<=a) (hn:H a=none):Un fs ex H (upd H a o) h h' where
 keep:=λb u q _ _ _=>k b u q
 slot:=λb u q _ _ _=>⟨u.slots,k b u q⟩
 free:=λb u q n _=>by rw [g8 (z0b (q0f (q0j q) hp))];exact n
 there:=λb u q _=>⟨u,k b u q⟩
 tups:=λb xs q=>by rw [g8 (g7 q hn)];exact q
 frzs:=λb u xs q=>by rw [g8 (g7 q hn)];exact q
 tbls:=λb ps q=>⟨#[],by rw [g8 (g7 q hn),q];simp⟩
theorem Un.write (mu:Mut (H x)) (he:e=x \/ H e=some (.own x)) (k:∀ b u,b ≠ e->h.get? b=some u->h'.get? b=some u) (heo:∃ u,h'.get? e=some u):Un fs ex H (upd H x o) h h':=by
 have hx:∀ b,H b=none->b ≠ x:=λb n z=>by subst z;rw [n] at mu;exact mu
 have hb:∀ b,H b=none->b ≠ e:=λb n z=>by
  subst z
  rcases he with r | r
  ·exact hx b n r
  ·rw [n] at r;cases r
 have hm:∀ b u,H b=some u->¬ Mut (some u)->b ≠ x:=λb u q nm z=>by subst z;rw [q] at mu;exact nm mu
 refine ⟨λb u q n _ _=>k b u (hb b n) q,λb u q n _ _=>⟨u.slots,k b u (hb b n) q⟩,λb u q n _=>by rw [g8 (hx b n)];exact n,λb u q _=>?_,
  λb xs q=>by rw [g8 (hm b _ q λz=>z)];exact q,λb u xs q=>by rw [g8 (hm b _ q λz=>z)];exact q,λb ps q=>⟨#[],by rw [g8 (hm b _ q λz=>z),q];simp⟩⟩
 by_cases hbe:b=e
 ·subst hbe;exact heo
 ·exact ⟨u,k b u hbe q⟩
end
def trk (h:Heap) (H:Hp):List Addr:=(y0f h.objs.size).filter λa=>(H a).isSome
def aH0 (h:Heap) (H:Hp):Heap:=q1q h (trk h H)
theorem bb3 (h:Heap) (H:Hp):(aH0 h H).objs.size=h.objs.size:=PySem.W.hideAll_size _ _
theorem bl9 {h:Heap} {H:Hp} {b:Addr} {o:Obj} (e:h.get? b=some o) (n:H b=none):(aH0 h H).get? b=some o :=
 v0w _ e λhm=>by
  have q:(H b).isSome=true:=(j0h.mp hm).2
  rw [n] at q;simp at q
theorem bt8 {h:Heap} {H:Hp} {b:Addr} {o:Obj} (e:(aH0 h H).get? b=some o):h.get? b=some o/\H b=none:=by
 have e':h.get? b=some o:=PySem.W.of_hideAll (trk h H) e
 refine ⟨e',?_⟩
 cases q:H b with
 | none=>rfl
 | some x =>
  have hm:b ∈ trk h H:=j0h.mpr ⟨List.mem_range.mpr (q0j e'),by simp [q]⟩
  have z:(aH0 h H).get? b=none:=PySem.W.hideAll_none (trk h H) hm
  rw [z] at e;cases e
def bw8 (g h:Heap) (L:Addr):List (Addr × Obj):=(y0f h.objs.size).filterMap λa=>if a=L \/ (g.get? a).isSome=true then none else (h.get? a).map λo=>(a,o)
def ah1 (g h:Heap) (L d:Addr):List (Addr × Obj):=(bw8 g h L).filter λp=>decide (p.1 ≠ d)
structure Mod (K:q0a) (mg:Str->Option Value) (base:Heap):Prop where
 kin:K.In base
 glob:base.Ns mainGlobals mg
 blt:∃ mb,base.Ns builtinsNs mb/\∀ x:Str,x ≠ "__name__"->mb x=bootBuiltins x
 nolimit:base.NoLimit
structure Cx where
 prog:Program
 w:World
 K:q0a
 mg:Str->Option Value
 base:Heap
 A:Around
 N:List Str
 s₀:Shared
 H₀:Hp
 env:Env
 outer:List Env
 stack:List Env
 ex:List Addr
 fn:Str->Bool
 calm:Bool
 pn:List (Addr × Obj)
 xe:Value->Shared->Prop
def frs (l:List Env):List Addr:=l.filterMap (·.frame)
abbrev Cx.fs (X:Cx):List Addr:=frs X.outer
def Vis (sc:Scope) (x:Str):Prop:=sc.names.lookup x=some .local \/ sc.names.lookup x=some .cell \/ sc.names.lookup x=some .free
def Loc (sc:Scope) (x:Str):Prop:=sc.names.lookup x=some .local \/ sc.names.lookup x=some .cell
def bP9 (env:Env) (h:Heap) (m:Str->Option Value) (x:Str) (u:Value):Prop :=
 (env.kindOf x=some .local/\m x=some u) \/ ((env.kindOf x=some .cell \/ env.kindOf x=some .free)/\∃ c,env.cells.lookup x=some c/\h.IsCell c (some u))
structure Cx.Ok (X:Cx):Prop where
 mod:Mod X.K X.mg X.base
 kind:X.env.scope.kind=.function
 glob:X.env.globals=mainGlobals
 blt:X.env.builtins=builtinsNs
 above:X.s₀.heap.objs.size<=X.env.locals
 inj:∀ x y c,X.env.cells.lookup x=some c->X.env.cells.lookup y=some c->x=y
 has:∀ x,(X.env.kindOf x=some .cell \/ X.env.kindOf x=some .free)->∃ c,X.env.cells.lookup x=some c
 cab:∀ x c,X.fn x=true->X.env.cells.lookup x=some c->X.s₀.heap.objs.size<=c
 hd:X.calm=true->X.A.handled=none
 frames:X.A.frames=some X.stack
 stk:X.stack=X.outer \/ (X.stack=X.env :: X.outer/\X.env.frame=some X.env.locals)
 exf:∀ b ∈ X.ex,b ≠ X.env.locals/\∀ x c,X.env.cells.lookup x=some c->c ≠ b
 bs:∀ b o,X.base.get? b=some o->X.s₀.heap.get? b=some o/\X.H₀ b=none
 bsz:X.base.objs.size<=X.s₀.heap.objs.size
 noex:∀ b o,X.base.get? b=some o->b ∉ X.ex
 exfs:∀ b ∈ X.ex,b ∉ X.fs
 funs:X.s₀.heap.FunFrames X.base X.outer
 frf:∀ b ∈ X.fs,X.H₀ b=none
structure Inv (X:Cx) (pins:List (Addr × Obj)) (σ:List (Option V)) (H:Hp) (s:Shared):Prop where
 ok:X.Ok
 os:s.os=X.s₀.os
 bare:AllBare s.gens
 base:Un X.fs X.ex X.H₀ H X.s₀.heap s.heap
 loc:∃ m,s.heap.Ns X.env.locals m/\∀ (i:Nat) (x:Str) (v:V),X.N[i]? = some x->σ[i]? = some (some v)->Vis X.env.scope x->∃ u,x8 v u/\bP9 X.env s.heap m x u
 cell:∀ x c,X.env.cells.lookup x=some c->∃ v,s.heap.IsCell c v
 free:H X.env.locals=none
 freeC:∀ x c,X.env.cells.lookup x=some c->H c=none
 pin:∀ p ∈ X.pn ++ pins,s.heap.get? p.1=some p.2/\H p.1=none/\p.1 ≠ X.env.locals/\p.1 ∉ X.fs/\∀ v,p.2.data ≠ .cell v
 hok:HOk X.prog X.w H s.heap
 len:σ.length=X.N.length
section
variable {X:Cx} {pins:List (Addr × Obj)} {σ:List (Option V)} {H H':Hp} {s:Shared} {h':Heap}
theorem Cx.Ok.nofr (ok:X.Ok) {b:Addr} {o:Obj} (e:X.base.get? b=some o):b ∉ X.fs:=λhb=>by
 have:=(ok.funs.mem hb).1
 rw [e] at this;cases this
theorem Inv.bs (I:Inv X pins σ H s):∀ b o,X.base.get? b=some o->s.heap.get? b=some o/\H b=none:=λb o e =>
 ⟨I.base.keep b o (I.ok.bs b o e).1 (I.ok.bs b o e).2 (I.ok.nofr e) (I.ok.noex b o e),I.base.free b o (I.ok.bs b o e).1 (I.ok.bs b o e).2 (I.ok.noex b o e)⟩
theorem Inv.bk (I:Inv X pins σ H s):∀ b o,X.base.get? b=some o->s.heap.get? b=some o:=λb o e=>(I.bs b o e).1
theorem Inv.mod (I:Inv X pins σ H s):Mod X.K X.mg X.base:=I.ok.mod
theorem Inv.kIn (I:Inv X pins σ H s):X.K.In s.heap:=I.ok.mod.kin.keeps I.bk
theorem Inv.fr (I:Inv X pins σ H s):∃ m,Fr X.base X.env.locals s.heap m :=
 let ⟨m,hn,_⟩:=I.loc
 ⟨m,hn,I.bk,z0v I.ok.bsz I.ok.above⟩
theorem Inv.lt (I:Inv X pins σ H s):X.env.locals<s.heap.objs.size:=let ⟨_,hn,_⟩:=I.loc;hn.lt
theorem Inv.sz (I:Inv X pins σ H s):X.s₀.heap.objs.size<=s.heap.objs.size:=z0v I.ok.above (y0p I.lt)
theorem Inv.nofs (I:Inv X pins σ H s) {a:Addr} (h:s.heap.objs.size<=a):a ∉ X.fs:=λhb=>by
 obtain ⟨_,o,ho,_⟩:=I.ok.funs.mem hb
 exact absurd (q0f (q0j ho) (z0v I.sz h)) (y0w _)
theorem Inv.cne (I:Inv X pins σ H s):∀ x c,X.env.cells.lookup x=some c->c ≠ X.env.locals:=λx c e z=>by
 obtain ⟨v,o,ho,hd⟩:=I.cell x c e
 obtain ⟨m,⟨o',es,ep,ho',hd',_⟩,_⟩:=I.loc
 rw [z,ho'] at ho;cases ho;rw [hd'] at hd;cases hd
theorem Inv.funs (I:Inv X pins σ H s):s.heap.FunFrames X.base X.outer:=by
 have all:∀ (l:List Env),(∀ b ∈ frs l,b ∈ X.fs)->X.s₀.heap.FunFrames X.base l->s.heap.FunFrames X.base l:=by
  intro l
  induction l with
  | nil=>intro _ _;exact trivial
  | cons env r ih =>
   intro hs hl
   obtain ⟨hk,⟨L,o,hf,hn,ho,hd⟩,hr⟩:=hl
   have hL:L ∈ X.fs:=hs L (by unfold frs;rw [v0g,hf];exact q0c)
   obtain ⟨sl,e⟩:=I.base.slot L o ho (I.ok.frf L hL) hL λz=>I.ok.exfs L z hL
   exact ⟨hk,⟨L,_,hf,hn,e,hd⟩,ih (λb hb=>hs b (by unfold frs;rw [v0g,hf];exact q0b _ hb)) hr⟩
 exact all X.outer (λ_ hb=>hb) I.ok.funs
theorem Inv.stack (I:Inv X pins σ H s):s.heap.FunFrames X.base X.stack:=by
 rcases I.ok.stk with e | ⟨e,hf⟩
 ·rw [e];exact I.funs
 ·rw [e]
  obtain ⟨m,hn,_⟩:=I.loc
  refine .cons (by rw [I.ok.kind];decide) hf hn ?_ I.funs
  exact Heap.get?_none_of_le (z0v I.ok.bsz I.ok.above)
theorem Inv.stkSub (I:Inv X pins σ H s):∀ b ∈ frs X.stack,b ∈ X.env.locals :: X.fs:=λb hb=>by
 rcases I.ok.stk with e | ⟨e,hf⟩
 ·rw [e] at hb;exact q0b _ hb
 ·rw [e] at hb
  unfold frs at hb
  rw [v0g,hf] at hb
  exact hb
theorem Inv.stkFree (I:Inv X pins σ H s):∀ b ∈ frs X.stack,H b=none:=λb hb=>by
 rcases z0a.mp (I.stkSub b hb) with e | hb
 ·rw [e];exact I.free
 ·obtain ⟨_,o,ho,_⟩:=I.ok.funs.mem hb
  exact I.base.free b o ho (I.ok.frf b hb) λz=>I.ok.exfs b z hb
theorem Inv.step {g':Array GenState} {t':Nat} {d':Drawn} {ch:List Addr} (I:Inv X pins σ H s)
  (hch:∀ b ∈ ch,(b ∈ X.ex \/ X.s₀.heap.objs.size<=b)/\b ≠ X.env.locals/\(∀ x c,X.env.cells.lookup x=some c->c ≠ b)/\∀ p ∈ X.pn ++ pins,p.1 ≠ b)
  (keep:∀ b o,b ≠ X.env.locals->b ∉ X.fs->b ∉ ch->s.heap.get? b=some o->H b=none->h'.get? b=some o)
  (slot:∀ b o,b ≠ X.env.locals->b ∈ X.fs->b ∉ ch->s.heap.get? b=some o->H b=none->∃ sl,h'.get? b=some { o with slots:=sl }) (free:∀ b o,b ∉ ch->s.heap.get? b=some o->H b=none->H' b=none)
  (there:∀ b o,b ∉ ch->s.heap.get? b=some o->∃ o',h'.get? b=some o')
  (tups:∀ b xs,H b=some (.tup xs)->H' b=some (.tup xs)) (frzs:∀ b o u,H b=some (.frz o u)->H' b=some (.frz o u)) (tbls:∀ b ps,H b=some (.tbl ps)->∃ more,H' b=some (.tbl (ps ++ more)))
  (ns:∀ m,s.heap.Ns X.env.locals m->h'.Ns X.env.locals m) (hok:HOk X.prog X.w H' h') (hg:AllBare g') :
  Inv X pins σ H' { s with heap:=h',gens:=g',drawn:=d',toks:=t' }:=by
 have neL:∀ b o,X.s₀.heap.get? b=some o->b ≠ X.env.locals:=λb o e=>z0b (q0f (q0j e) I.ok.above)
 have neC:∀ b o,X.s₀.heap.get? b=some o->b ∉ X.ex->b ∉ ch:=λb o e hx hb=>by
  rcases (hch b hb).1 with z | z
  ·exact hx z
  ·exact absurd (q0f (q0j e) z) (y0w _)
 have cellK:∀ x c,X.env.cells.lookup x=some c->∀ v,s.heap.IsCell c v->h'.IsCell c v:=λx c e v ⟨o,ho,hd⟩=>by
  have nch:c ∉ ch:=λz=>(hch c z).2.2.1 x c e rfl
  by_cases hc:c ∈ X.fs
  ·obtain ⟨sl,q⟩:=slot c o (I.cne x c e) hc nch ho (I.freeC x c e)
   exact ⟨_,q,hd⟩
  ·exact ⟨o,keep c o (I.cne x c e) hc nch ho (I.freeC x c e),hd⟩
 refine ⟨I.ok,I.os,hg,⟨λb o e n hb hx=>?_,λb o e n hb hx=>?_,λb o e n hx=>?_,λb o e hx=>?_,λb xs e=>tups b xs (I.base.tups b xs e),λb o xs e=>frzs b o xs (I.base.frzs b o xs e),λb ps e=>?_⟩,?_,λx c e=>?_,?_,λx c e=>?_,λp hp=>?_,hok,I.len⟩
 ·exact keep b o (neL b o e) hb (neC b o e hx) (I.base.keep b o e n hb hx) (I.base.free b o e n hx)
 ·obtain ⟨sl,e1⟩:=I.base.slot b o e n hb hx
  obtain ⟨sl',e2⟩:=slot b _ (neL b o e) hb (neC b o e hx) e1 (I.base.free b o e n hx)
  exact ⟨sl',e2⟩
 ·obtain ⟨o',e1⟩:=I.base.there b o e hx
  exact free b o' (neC b o e hx) e1 (I.base.free b o e n hx)
 ·obtain ⟨o',e1⟩:=I.base.there b o e hx
  exact there b o' (neC b o e hx) e1
 ·obtain ⟨m1,e1⟩:=I.base.tbls b ps e
  obtain ⟨m2,e2⟩:=tbls b _ e1
  exact ⟨m1 ++ m2,by rw [e2,Array.append_assoc]⟩
 ·obtain ⟨m,hn,hl⟩:=I.loc
  refine ⟨m,ns m hn,λi x v e1 e2 e3=>?_⟩
  obtain ⟨u,r,l⟩:=hl i x v e1 e2 e3
  refine ⟨u,r,?_⟩
  rcases l with l | ⟨k,c,e,z⟩
  ·exact .inl l
  ·exact .inr ⟨k,c,e,cellK x c e _ z⟩
 ·obtain ⟨v,z⟩:=I.cell x c e
  exact ⟨v,cellK x c e v z⟩
 ·obtain ⟨m,⟨o,_,_,ho,_⟩,_⟩:=I.loc
  exact free _ o (λz=>(hch _ z).2.1 rfl) ho I.free
 ·obtain ⟨v,o,ho,hd⟩:=I.cell x c e
  exact free c o (λz=>(hch c z).2.2.1 x c e rfl) ho (I.freeC x c e)
 ·obtain ⟨e,n,ne,nf,d⟩:=I.pin p hp
  have nch:p.1 ∉ ch:=λz=>(hch p.1 z).2.2.2 p hp rfl
  exact ⟨keep p.1 p.2 ne nf nch e n,free p.1 p.2 nch e n,ne,nf,d⟩
theorem Inv.un {t':Nat} (I:Inv X pins σ H s) (u:Un X.fs [] H H' s.heap h') (hok:HOk X.prog X.w H' h'):Inv X pins σ H' { s with heap:=h',toks:=t' }:=by
 obtain ⟨m,⟨o,es,ep,ho,r⟩,_⟩:=id I.loc
 obtain ⟨sl,hL⟩:=u.any ho I.free (by simp)
 exact I.step (g':=s.gens) (d':=s.drawn) (ch:=[]) (λ_ z=>nomatch z) (λb o _ hb _ e n=>u.keep b o e n hb (by simp)) (λb o _ hb _ e n=>u.slot b o e n hb (by simp)) (λb o _ e n=>u.free b o e n (by simp)) (λb o _ e=>u.there b o e (by simp)) u.tups u.frzs u.tbls (λm' hm=>by
  obtain ⟨o',es',ep',ho',r'⟩:=hm
  rw [ho] at ho';cases ho'
  exact ⟨_,es',ep',hL,r'⟩) hok I.bare
theorem Inv.call {g':Array GenState} {t':Nat} {d':Drawn} {ch:List Addr} (I:Inv X pins σ H s) (u:Un (frs X.stack) ch H H' s.heap h') (hok:HOk X.prog X.w H' h') (hg:AllBare g')
  (hch:∀ b ∈ ch,(b ∈ X.ex \/ X.s₀.heap.objs.size<=b)/\b ≠ X.env.locals/\(∀ x c,X.env.cells.lookup x=some c->c ≠ b)/\∀ p ∈ X.pn ++ pins,p.1 ≠ b) :
  Inv X pins σ H' { s with heap:=h',gens:=g',drawn:=d',toks:=t' }:=by
 obtain ⟨m,⟨o,es,ep,ho,r⟩,_⟩:=id I.loc
 obtain ⟨sl,hL⟩:=u.any ho I.free λz=>(hch _ z).2.1 rfl
 exact I.step (ch:=ch) hch (λb o hL hb hc e n=>u.keep b o e n (λz=>(z0a.mp (I.stkSub b z)).elim hL hb) hc) (λb o _ _ hc e n=>u.any e n hc) (λb o hc e n=>u.free b o e n hc) (λb o hc e=>u.there b o e hc) u.tups u.frzs u.tbls (λm' hm=>by
  obtain ⟨o',es',ep',ho',r'⟩:=hm
  rw [ho] at ho';cases ho'
  exact ⟨_,es',ep',hL,r'⟩) hok hg
theorem Inv.turned {t':Nat} {it:Addr} (I:Inv X pins σ H s) (k:∀ b o,b ≠ it->s.heap.get? b=some o->h'.get? b=some o) (hn:H it=none) (hL:it ≠ X.env.locals)
  (h1:it ∈ X.ex \/ X.s₀.heap.objs.size<=it) (h2:∀ x c,X.env.cells.lookup x=some c->c ≠ it) (h3:∀ p ∈ X.pn ++ pins,p.1 ≠ it):Inv X pins σ H { s with heap:=h',toks:=t' }:=by
 have nit:∀ b u,H b=some u->b ≠ it:=λb u e z=>by rw [z,hn] at e;cases e
 refine I.step (g':=s.gens) (d':=s.drawn) (ch:=[it]) (λb hb=>?_) (λb o _ _ hc e _=>k b o (λz=>hc (by simp [z])) e) (λb o _ _ hc e _=>⟨o.slots,k b o (λz=>hc (by simp [z])) e⟩) (λ_ _ _ _ n=>n)
  (λb o hc e=>⟨o,k b o (λz=>hc (by simp [z])) e⟩) (λ_ _ e=>e) (λ_ _ _ e=>e) (λb ps e=>⟨#[],by rw [e];simp⟩) (λm hm=>?_) (λb u e=>?_) I.bare
 ·have e:b=it:=by simpa using hb
  subst e
  exact ⟨h1,hL,h2,h3⟩
 ·obtain ⟨o,es,ep,ho,r⟩:=hm
  exact ⟨o,es,ep,k _ o (Ne.symm hL) ho,r⟩
 ·refine (I.hok b u e).stay (λc v hc q=>k c v ?_ q) (λ_ q=>q) λ_ _ q=>q
  rcases hc with z | z
  ·rw [z];exact nit b u e
  ·exact nit c _ z
theorem Inv.tok (I:Inv X pins σ H s) (t:Nat):Inv X pins σ H { s with toks:=t }:=I.un (h':=s.heap) (t':=t) Un.refl I.hok
theorem Inv.kept {t':Nat} (I:Inv X pins σ H s) (k:∀ b u,s.heap.get? b=some u->h'.get? b=some u):Inv X pins σ H { s with heap:=h',toks:=t' }:=I.un (Un.kept k) (I.hok.kept k)
theorem Inv.laid {a:Addr} {o:HO} {t':Nat} (I:Inv X pins σ H s) (k:∀ b u,s.heap.get? b=some u->h'.get? b=some u) (hp:s.heap.objs.size<=a) (new:E9 X.prog X.w (upd H a o) h' a o) :
  Inv X pins σ (upd H a o) { s with heap:=h',toks:=t' }:=I.un (Un.laid k hp (I.hok.fresh hp)) (I.hok.laid k hp new)
theorem Inv.write {x e:Addr} {o:HO} {t':Nat} (I:Inv X pins σ H s) (mu:Mut (H x)) (he:e=x \/ H e=some (.own x)) (k:∀ b u,b ≠ e->s.heap.get? b=some u->h'.get? b=some u) (heo:∃ u,h'.get? e=some u)
  (new:E9 X.prog X.w (upd H x o) h' x o):Inv X pins σ (upd H x o) { s with heap:=h',toks:=t' }:=I.un (Un.write mu he k heo) (I.hok.write mu he k heo new)
theorem Inv.weak {σ':List (Option V)} (I:Inv X pins σ H s) (hl:σ'.length=σ.length) (w:∀ (i:Nat) v,σ'[i]? = some (some v)->σ[i]? = some (some v)):Inv X pins σ' H s :=
 ⟨I.ok,I.os,I.bare,I.base,let ⟨m,hn,hl'⟩:=I.loc;⟨m,hn,λi x v e1 e2 e3=>hl' i x v e1 (w i v e2) e3⟩,I.cell,I.free,I.freeC,I.pin,I.hok,hl.trans I.len⟩
theorem Inv.pins_of {pins':List (Addr × Obj)} (I:Inv X pins σ H s) (h:∀ p ∈ pins',s.heap.get? p.1=some p.2/\H p.1=none/\p.1 ≠ X.env.locals/\p.1 ∉ X.fs/\∀ v,p.2.data ≠ .cell v):Inv X pins' σ H s :=
 ⟨I.ok,I.os,I.bare,I.base,I.loc,I.cell,I.free,I.freeC,λp hp=>(q0t.mp hp).elim (λz=>I.pin p (v0a _ z)) (h p),I.hok,I.len⟩
theorem aL3 {N:List Str} (hN:N.Nodup) {i j:Nat} {x:Str} (a:N[i]? = some x) (b:N[j]? = some x):i=j:=by
 obtain ⟨h1,e1⟩:=q0g.mp a
 obtain ⟨h2,e2⟩:=q0g.mp b
 exact (List.getElem_inj hN).mp (e1.trans e2.symm)
theorem aZ7 {M:Model} {A:Around} {E:Value->Shared->Prop} {i:Nat} {x:Str} {v:V} {u:Value} {Q:Unit->Shared->Prop} (I:Inv X pins σ H s) (hN:X.N.Nodup) (hi:X.N[i]? = some x) (hx:Loc X.env.scope x) (r:x8 v u)
  (h:∀ s',Inv X pins (σ.set i (some v)) H s'->(∃ a,g0t a s.heap s'.heap/\(a=X.env.locals \/ X.env.cells.lookup x=some a))->Q () s') (hf:X.fn x=true \/ X.env.scope.names.lookup x=some .local:=by first | exact .inl rfl | exact .inr rfl | assumption):wpAny M A (storeName X.env x u) Q E s:=by
 obtain ⟨m,hn,hl⟩:=id I.loc
 have hcls:(X.env.scope.kind == .class || (X.env.scope.kind == .module && X.env.locals != X.env.globals))=false:=by rw [I.ok.kind];rfl
 have hiσ:i<σ.length:=by rw [I.len];exact (q0g.mp hi).1
 have cne:=I.cne
 have tracked:∀ {a:Addr} {h':Heap},(∃ o,s.heap.get? a=some o/\H a=none)->g0t a s.heap h'->HOk X.prog X.w H h':=fun {a h'} ha hs b ob e=>by
  obtain ⟨_,_,hfree⟩:=ha
  refine (I.hok b ob e).stay (λc w' hc q=>(hs.2 c ?_).trans q) (λ_ q=>q) λ_ _ q=>q
  rintro rfl
  rcases hc with rfl | hc
  ·rw [hfree] at e;cases e
  ·rw [hfree] at hc;cases hc
 rcases hx with hk | hk
 ·refine wpAny_storeName_local hk hn (λh' hn' hs=>?_) hcls
  obtain ⟨oL,_,_,hoL,_⟩:=id hn
  refine h _ ⟨I.ok,I.os,I.bare,⟨λb o e n hb hx=>?_,λb o e n hb hx=>?_,I.base.free,λb o e hx=>?_,I.base.tups,I.base.frzs,I.base.tbls⟩,⟨_,hn',λj y v' e1 e2 e3=>?_⟩,λy c e=>?_,I.free,I.freeC,λp hp=>?_,tracked ⟨oL,hoL,I.free⟩ hs,by simpa using I.len⟩ ⟨_,hs,.inl rfl⟩
  ·exact (hs.2 b (z0b (q0f (q0j e) I.ok.above))).trans (I.base.keep b o e n hb hx)
  ·obtain ⟨sl,e1⟩:=I.base.slot b o e n hb hx
   exact ⟨sl,(hs.2 b (z0b (q0f (q0j e) I.ok.above))).trans e1⟩
  ·obtain ⟨o',e1⟩:=I.base.there b o e hx
   exact ⟨o',(hs.2 b (z0b (q0f (q0j e) I.ok.above))).trans e1⟩
  ·by_cases hj:j=i
   ·subst hj
    rw [hi] at e1;cases e1
    rw [q1v hiσ] at e2
    cases e2
    exact ⟨u,r,.inl ⟨hk,by simp⟩⟩
   ·rw [z1h (Ne.symm hj)] at e2
    obtain ⟨u',r',q⟩:=hl j y v' e1 e2 e3
    refine ⟨u',r',?_⟩
    rcases q with ⟨k,e⟩ | ⟨k,c,e,z⟩
    ·refine .inl ⟨k,?_⟩
     have:y ≠ x:=λe=>hj (aL3 hN e1 (e ▸ hi))
     simp [this,e]
    ·exact .inr ⟨k,c,e,z.sameBut hs (cne y c e)⟩
  ·obtain ⟨w',z⟩:=I.cell y c e
   exact ⟨w',z.sameBut hs (cne y c e)⟩
  ·obtain ⟨e,n,ne,nf,d⟩:=I.pin p hp
   exact ⟨(hs.2 p.1 ne).trans e,n,ne,nf,d⟩
 ·have hfn:X.fn x=true:=by
   rcases hf with z | z
   ·exact z
   ·rw [z] at hk;cases hk
  obtain ⟨c,hc⟩:=I.ok.has x (.inl hk)
  obtain ⟨w',z⟩:=I.cell x c hc
  refine wpAny_storeName_cell I.ok.kind hk hc z (λh' hc' hs=>?_)
  obtain ⟨oc,hoc,hocd⟩:=id z
  refine h { s with heap:=h' } ⟨I.ok,I.os,I.bare,⟨λb o e n hb hx=>?_,λb o e n hb hx=>?_,I.base.free,λb o e hx=>?_,I.base.tups,I.base.frzs,I.base.tbls⟩,⟨m,hn.sameBut hs (Ne.symm (cne x c hc)),λj y v' e1 e2 e3=>?_⟩,λy c' e=>?_,I.free,I.freeC,λp hp=>?_,tracked ⟨oc,hoc,I.freeC x c hc⟩ hs,by simpa using I.len⟩ ⟨c,hs,.inr hc⟩
  ·exact (hs.2 b (z0b (q0f (q0j e) (I.ok.cab x c hfn hc)))).trans (I.base.keep b o e n hb hx)
  ·obtain ⟨sl,e1⟩:=I.base.slot b o e n hb hx
   exact ⟨sl,(hs.2 b (z0b (q0f (q0j e) (I.ok.cab x c hfn hc)))).trans e1⟩
  ·obtain ⟨o',e1⟩:=I.base.there b o e hx
   exact ⟨o',(hs.2 b (z0b (q0f (q0j e) (I.ok.cab x c hfn hc)))).trans e1⟩
  ·by_cases hj:j=i
   ·subst hj
    rw [hi] at e1;cases e1
    rw [q1v hiσ] at e2
    cases e2
    exact ⟨u,r,.inr ⟨.inl hk,c,hc,hc'⟩⟩
   ·rw [z1h (Ne.symm hj)] at e2
    obtain ⟨u',r',q⟩:=hl j y v' e1 e2 e3
    refine ⟨u',r',?_⟩
    rcases q with q | ⟨k,c',e,z'⟩
    ·exact .inl q
    ·refine .inr ⟨k,c',e,z'.sameBut hs ?_⟩
     rintro rfl
     exact hj (aL3 hN e1 (I.ok.inj _ _ _ e hc ▸ hi))
  ·by_cases hcc:c'=c
   ·subst hcc;exact ⟨_,hc'⟩
   ·obtain ⟨w2,z2⟩:=I.cell y c' e
    exact ⟨w2,z2.sameBut hs hcc⟩
  ·obtain ⟨e,n,ne,nf,d⟩:=I.pin p hp
   refine ⟨(hs.2 p.1 ?_).trans e,n,ne,nf,d⟩
   intro q
   rw [q,hoc] at e
   have q':oc=p.2:=Option.some.inj e
   exact d w' (by rw [<- q'];exact hocd)
theorem Y8 {M:Model} {A:Around} {E:Value->Shared->Prop} {i:Nat} {x:Str} {v:V} {u:Value} {Q:Unit->Shared->Prop} (I:Inv X pins σ H s) (hN:X.N.Nodup) (hi:X.N[i]? = some x) (hx:Loc X.env.scope x) (r:x8 v u)
  (h:∀ s',Inv X pins (σ.set i (some v)) H s'->Q () s') (hf:X.fn x=true \/ X.env.scope.names.lookup x=some .local:=by first | exact .inl rfl | exact .inr rfl | assumption):wpAny M A (storeName X.env x u) Q E s :=
 aZ7 I hN hi hx r (λs' I' _=>h s' I') hf
theorem Inv.call' {s':Shared} {ch:List Addr} (I:Inv X pins σ H s) (ho:s'.os=s.os) (u:Un (frs X.stack) ch H H' s.heap s'.heap) (hok:HOk X.prog X.w H' s'.heap) (hg:AllBare s'.gens)
  (hch:∀ b ∈ ch,(b ∈ X.ex \/ X.s₀.heap.objs.size<=b)/\b ≠ X.env.locals/\(∀ x c,X.env.cells.lookup x=some c->c ≠ b)/\∀ p ∈ X.pn ++ pins,p.1 ≠ b):Inv X pins σ H' s':=by
 obtain ⟨h',g',d',t',o'⟩:=s'
 have e:o'=s.os:=ho
 subst e
 exact I.call (g':=g') (t':=t') (d':=d') u hok hg hch
end
abbrev XK:=Value->Option Addr->Hp->Prop
abbrev St:=List (Option V)
abbrev VK:=V->Hp->Prop
abbrev TE:=St->Hp->VK->Prop
abbrev TT:=St->Hp->(Bool->Hp->Prop)->Prop
abbrev TA:=St->Hp->(List V->Hp->Prop)->Prop
structure aa7 where
 nx:St->Hp->Prop
 rt:VK
 bk:St->Hp->Prop:=λ_ _=>False
 ct:St->Hp->Prop:=λ_ _=>False
abbrev TS:=aa7->St->Hp->Prop
def EP (X:Cx) (pins:List (Addr × Obj)) (σ:St) (Q:VK) (u:Value) (s':Shared):Prop:=∃ v H',Inv X pins σ H' s'/\x8 v u/\Q v H'
def TP (X:Cx) (pins:List (Addr × Obj)) (σ:St) (Q:Bool->Hp->Prop) (b:Bool) (s':Shared):Prop:=∃ H',Inv X pins σ H' s'/\Q b H'
def AP (X:Cx) (pins:List (Addr × Obj)) (σ:St) (Q:List V->Hp->Prop) (us:List Value) (s':Shared):Prop:=∃ vs H',Inv X pins σ H' s'/\n5 vs us/\Q vs H'
def SP (X:Cx) (pins:List (Addr × Obj)) (D:aa7) (f:Flow) (s':Shared):Prop :=
 match f with
 | .next => ∃ σ' H',Inv X pins σ' H' s'/\D.nx σ' H'
 | .brk => ∃ σ' H',Inv X pins σ' H' s'/\D.bk σ' H'
 | .cont => ∃ σ' H',Inv X pins σ' H' s'/\D.ct σ' H'
 | .ret u => ∃ v σ' H',Inv X pins σ' H' s'/\x8 v u/\D.rt v H'
def PE (X:Cx) (e:Expr) (t:TE):Prop :=
 ∀ (pins:List (Addr × Obj)) (s:Shared) (σ:St) (H:Hp) (Q:VK),Inv X pins σ H s->t σ H Q->wpAny (model X.prog X.w) X.A (eval e X.env) (EP X pins σ Q) X.xe s
def PT (X:Cx) (e:Expr) (t:TT):Prop :=
 ∀ (pins:List (Addr × Obj)) (s:Shared) (σ:St) (H:Hp) (Q:Bool->Hp->Prop),Inv X pins σ H s->t σ H Q->wpAny (model X.prog X.w) X.A (isTrue e X.env (eval e X.env)) (TP X pins σ Q) X.xe s
def PW (X:Cx) (e:Expr) (t:TT):Prop :=
 ∀ (whole:Sem Value) (pins:List (Addr × Obj)) (s:Shared) (σ:St) (H:Hp) (Q:Bool->Hp->Prop),Inv X pins σ H s->t σ H Q->wpAny (model X.prog X.w) X.A (isTrue e X.env whole) (TP X pins σ Q) X.xe s
theorem PW.pt {X:Cx} {e:Expr} {t:TT} (h:PW X e t):PT X e t:=h _
def PA (X:Cx) (es:List Expr) (t:TA):Prop :=
 ∀ (pos:Pos) (pins:List (Addr × Obj)) (s:Shared) (σ:St) (H:Hp) (Q:List V->Hp->Prop),Inv X pins σ H s->t σ H Q->wpAny (model X.prog X.w) X.A (spliced (backTo pos (starEach es X.env))) (AP X pins σ Q) X.xe s
def PS (X:Cx) (st:Stmt) (t:TS):Prop :=
 ∀ (pins:List (Addr × Obj)) (s:Shared) (σ:St) (H:Hp) (D:aa7),Inv X pins σ H s->t D σ H->wpAny (model X.prog X.w) X.A (exec st X.env) (SP X pins D) X.xe s
def PSs (X:Cx) (st:List Stmt) (t:TS):Prop :=
 ∀ (pins:List (Addr × Obj)) (s:Shared) (σ:St) (H:Hp) (D:aa7),Inv X pins σ H s->t D σ H->wpAny (model X.prog X.w) X.A (execs st X.env) (SP X pins D) X.xe s
theorem thn {α:Type} {t:Sem α} {Q Q':α->Shared->Prop} {M:Model} {A:Around} {E:Value->Shared->Prop} {s:Shared} (h:wpAny M A t Q E s) (hQ:∀ a s,Q a s->Q' a s):wpAny M A t Q' E s:=wpAny_mono h hQ λ_ _ x=>x
section
variable {X:Cx}
def Z6 (i:Nat):TE:=λσ H Q => ∃ v,σ[i]? = some (some v)/\Q v H
def tC (v:V):TE:=λ_ H Q=>Q v H
theorem bE0 {i:Nat} {x:Str} {pos:Pos} (hN:X.N[i]? = some x) (hv:Vis X.env.scope x) (hd:(x == ("__debug__" : Str))=false:=by decide) (hcd:(x == ("__classdict__" : Str))=false:=by decide):PE X (.Name x pos) (Z6 i):=by
 intro pins s σ H Q I h
 obtain ⟨v,e,h⟩:=h
 obtain ⟨m,hn,hl⟩:=I.loc
 obtain ⟨u,r,l⟩:=hl i x v hN e hv
 have fin:EP X pins σ Q u s:=⟨v,H,I,r,h⟩
 rcases l with ⟨hk,hm⟩ | ⟨hk,c,hc,hcell⟩
 ·exact wpAny_Name (wpAny_loadName_local I.ok.kind hk hn hm fin) hd
 ·rcases hk with hk | hk
  ·exact wpAny_Name (wpAny_loadName_cell I.ok.kind hk hc hcell fin) hd
  ·exact wpAny_Name (wpAny_loadName_free I.ok.kind hk hc hcell fin hcd) hd
theorem b7 {i j pos}:PE X (.Constant (.int i) j pos) (tC (.int i)):=λ_ _ _ H _ I h=>wpAny_Constant_int ⟨.int i,H,I.tok _,⟨_,rfl⟩,h⟩
theorem ab0 {b j pos}:PE X (.Constant (.bool b) j pos) (tC (.bl b)):=λ_ _ _ H _ I h=>Constant_bool ⟨.bl b,H,I,rfl,h⟩
theorem aF3 {j pos}:PE X (.Constant .none j pos) (tC .non):=λ_ _ _ H _ I h=>Constant_none ⟨.non,H,I,rfl,h⟩
theorem Y4 {x j pos}:PE X (.Constant (.str x) j pos) (tC (.str x)):=λ_ _ _ H _ I h=>Calls.Constant_str ⟨.str x,H,I.tok _,⟨_,rfl⟩,h⟩
def Gl (X:Cx) (x:Str):Prop:=X.env.kindOf x=some .globalImplicit
theorem aj4 {E:Value->Shared->Prop} {pins:List (Addr × Obj)} {s:Shared} {σ:St} {H:Hp} {x:Str} {u:Value} {pos:Pos} {Q:Value->Shared->Prop} (I:Inv X pins σ H s) (hg:Gl X x) (hm:X.mg x=some u) (h:Q u s)
  (hd:(x == ("__debug__" : Str))=false:=by decide):wpAny (model X.prog X.w) X.A (eval (.Name x pos) X.env) Q E s :=
 Calls.Name_function_global I.ok.kind hg (Calls.loadGlobal_global (by rw [I.ok.glob];exact I.mod.glob.keeps I.bk) hm h) hd
theorem ad2 {E:Value->Shared->Prop} {pins:List (Addr × Obj)} {s:Shared} {σ:St} {H:Hp} {x:Str} {u:Value} {pos:Pos} {Q:Value->Shared->Prop} (I:Inv X pins σ H s) (hg:Gl X x) (hm:X.mg x=none) (hv:bootBuiltins x=some u) (h:Q u s)
  (hn:x ≠ "__name__" := by decide) (hd:(x == ("__debug__" : Str))=false:=by decide):wpAny (model X.prog X.w) X.A (eval (.Name x pos) X.env) Q E s:=by
 obtain ⟨mb,h1,h2⟩:=I.mod.blt
 exact Calls.Name_function_global I.ok.kind hg (Calls.loadGlobal_builtin (by rw [I.ok.glob];exact I.mod.glob.keeps I.bk) hm (by rw [I.ok.blt];exact h1.keeps I.bk) ((h2 x hn).trans hv) h) hd
theorem B5 {x:Str} {v:V} {u:Value} {pos:Pos} (hg:Gl X x) (hm:X.mg x=some u) (r:x8 v u) (hd:(x == ("__debug__" : Str))=false:=by decide):PE X (.Name x pos) (tC v) :=
 λ_ _ _ H _ I h=>aj4 I hg hm ⟨v,H,I,r,h⟩ hd
theorem af1 {x:Str} {v:V} {u:Value} {pos:Pos} (hg:Gl X x) (hm:X.mg x=none) (hv:bootBuiltins x=some u) (r:x8 v u) (hn:x ≠ "__name__" := by decide) (hd:(x == ("__debug__" : Str))=false:=by decide):PE X (.Name x pos) (tC v) :=
 λ_ _ _ H _ I h=>ad2 I hg hm hv ⟨v,H,I,r,h⟩ hn hd
variable {a b:Expr} {ta tb:TE} {pos:Pos}
def PC (X:Cx) (op:CmpOp) (a b:Expr) (t:TE):Prop :=
 ∀ (pins:List (Addr × Obj)) (s:Shared) (σ:St) (H:Hp) (Q:VK),Inv X pins σ H s->t σ H Q ->
  wpAny (model X.prog X.w) X.A (eval a X.env) (λv s₁=>wpAny (model X.prog X.w) X.A (eval b X.env) (λu s₂=>wpAny (model X.prog X.w) X.A (compareOp op v u) (EP X pins σ Q) X.xe s₂) X.xe s₁) X.xe s
def tB (t:TE):TT:=λσ H Q=>t σ H λx H1 => ∃ c,x=.bl c/\Q c H1
theorem M1 {e:Expr} {t:TE} (h:PE X e t) (he:∀ whole,isTrue e X.env whole=(do let v <- whole;standAt e.pos;holding [v] (truthy v)):=by intro _;rfl):PT X e (tB t):=by
 intro pins s σ H Q I hw
 refine isTrue_plain (thn (h pins s σ H _ I hw) λv s1 ⟨x,H1,I1,r1,q1⟩=>?_) (he _)
 obtain ⟨d,rfl,q⟩:=q1
 cases r1
 exact wpAny_truthy_bool ⟨H1,I1,q⟩
variable {tA tB':TT} {ah1:List Expr}
def bB7 (t u:TT):TT:=λσ H Q=>t σ H λc H1=>if c=true then u σ H1 Q else Q false H1
def tOr (t u:TT):TT:=λσ H Q=>t σ H λc H1=>if c=true then Q true H1 else u σ H1 Q
def bB2 (t:TT):TT:=λσ H Q=>t σ H λc H1=>Q (!c) H1
theorem ae8 (ha:PT X a tA):PW X (.BoolOp .And [a] pos) tA:=by
 intro wh pins s σ H Q I h
 refine isTrue_and (thn (ha pins s σ H Q I h) λc s1 e=>?_)
 cases c with
 | true=>exact isTrue_and_nil e
 | false=>exact e
theorem ac5 (ha:PT X a tA):PW X (.BoolOp .Or [a] pos) tA:=by
 intro wh pins s σ H Q I h
 refine isTrue_or (thn (ha pins s σ H Q I h) λc s1 e=>?_)
 cases c with
 | false=>exact isTrue_or_nil e
 | true=>exact e
theorem ak9 (ha:PT X a tA) (hb:PW X (.BoolOp .And (b :: ah1) pos) tB'):PW X (.BoolOp .And (a :: b :: ah1) pos) (bB7 tA tB'):=by
 intro wh pins s σ H Q I h
 refine isTrue_and (thn (ha pins s σ H _ I h) λc s1 ⟨H1,I1,q1⟩=>?_)
 cases c with
 | true=>exact hb wh pins s1 σ H1 Q I1 q1
 | false=>exact ⟨H1,I1,q1⟩
theorem aa9 (ha:PT X a tA) (hb:PW X (.BoolOp .Or (b :: ah1) pos) tB'):PW X (.BoolOp .Or (a :: b :: ah1) pos) (tOr tA tB'):=by
 intro wh pins s σ H Q I h
 refine isTrue_or (thn (ha pins s σ H _ I h) λc s1 ⟨H1,I1,q1⟩=>?_)
 cases c with
 | true=>exact ⟨H1,I1,q1⟩
 | false=>exact hb wh pins s1 σ H1 Q I1 q1
theorem P7 (ha:PT X a tA):PT X (.UnaryOp .Not a pos) (bB2 tA):=by
 intro pins s σ H Q I h
 exact isTrue_not (ha pins s σ H (λc H1=>Q (!c) H1) I h)
def bf2 (ta tb:TE):TE:=λσ H Q=>ta σ H λx H1 => ∃ c,x=.bl c/\if c=true then tb σ H1 Q else Q (.bl false) H1
def be7 (ta:TE):TE:=λσ H Q=>ta σ H λx H1 => ∃ c,x=.bl c/\Q (.bl (!c)) H1
theorem aF2 {op} {t:TE} (h:PE X a t):PE X (.BoolOp op [a] pos) t:=λpins s σ H Q I hw=>BoolOp_one (h pins s σ H Q I hw)
theorem aQ0 (ha:PE X a ta) (hb:PE X (.BoolOp .And (b :: ah1) pos) tb):PE X (.BoolOp .And (a :: b :: ah1) pos) (bf2 ta tb):=by
 intro pins s σ H Q I h
 refine BoolOp_and (thn (ha pins s σ H _ I h) λv s1 ⟨x,H1,I1,r1,q1⟩=>?_)
 obtain ⟨c,rfl,q1⟩:=q1
 cases r1
 refine wpAny_truthy_bool ?_
 cases c with
 | true=>exact hb pins s1 σ H1 Q I1 q1
 | false=>exact ⟨.bl false,H1,I1,rfl,q1⟩
theorem bi2 (ha:PE X a ta):PE X (.UnaryOp .Not a pos) (be7 ta):=by
 intro pins s σ H Q I h
 refine UnaryOp_ (thn (ha pins s σ H _ I h) λv s1 ⟨x,H1,I1,r1,q1⟩=>?_)
 obtain ⟨c,rfl,q1⟩:=q1
 cases r1
 exact not_of (wpAny_truthy_bool ⟨.bl (!c),H1,I1,rfl,q1⟩)
def tIf (t:TT) (ta tb:TE):TE:=λσ H Q=>t σ H λc H1=>if c=true then ta σ H1 Q else tb σ H1 Q
theorem as2 {c:Expr} (hc:PT X c tA) (ha:PE X a ta) (hb:PE X b tb):PE X (.IfExp c a b pos) (tIf tA ta tb):=by
 intro pins s σ H Q I h
 refine wpAny_IfExp (thn (hc pins s σ H _ I h) λd s1 ⟨H1,I1,q1⟩=>?_)
 cases d with
 | true=>exact ha pins s1 σ H1 Q I1 q1
 | false=>exact hb pins s1 σ H1 Q I1 q1
end
def SqL (K:q0a) (H:Hp) (a:Addr) (xs:List V):Prop :=
 Rd H a (.lst xs) \/
  ∃ (o:Obj) (its:Array Value) (n:Nat),K.lookup a=some o/\o.cls=.type "list"/\o.dict=none/\o.data=.seq its n/\its.size<=sizeLine/\n5 xs its.toList
def SqT (K:q0a) (H:Hp) (a:Addr) (xs:List V):Prop :=
 Rd H a (.tup xs) \/
  ∃ (o:Obj) (its:Array Value) (n:Nat),K.lookup a=some o/\o.cls=.type "tuple"/\o.data=.seq its n/\its.size<=sizeLine/\n5 xs its.toList
def bP7:Value->Option V
 | .none=>some .non
 | .bool b=>some (.bl b)
 | .int i _=>some (.int i)
 | .str x _=>some (.str x)
 | .bytes b _=>some (.byt b)
 | .float b _=>some (.flt b)
 | .ref a=>some (.ref a)
 | .type n=>some (.ty n)
 | _=>none
theorem x8.abs {x:V} {u:Value} (r:x8 x u):bP7 u=some x:=by
 cases x with
 | non=>cases r;rfl
 | bl _=>cases r;rfl
 | int _=>obtain ⟨t,rfl⟩:=r;rfl
 | str _=>obtain ⟨t,rfl⟩:=r;rfl
 | byt _=>obtain ⟨t,rfl⟩:=r;rfl
 | flt _=>obtain ⟨t,rfl⟩:=r;rfl
 | ref _=>cases r;rfl
 | ty _=>cases r;rfl
theorem x8.inj {x y:V} {u:Value} (r:x8 x u) (q:x8 y u):x=y:=Option.some.inj (r.abs.symm.trans q.abs)
theorem n5.inj:∀ {xs ys:List V} {us:List Value},n5 xs us->n5 ys us->xs=ys
 | _,_,_,.nil,.nil=>rfl
 | _,_,_,.cons r t,.cons r' t'=>by rw [r.inj r',n5.inj t t']
section
variable {X:Cx} {pins:List (Addr × Obj)} {σ:St} {H:Hp} {s:Shared} {a:Addr} {xs ys:List V}
theorem SqL.of {K:q0a} (h:H a=some (.lst xs)):SqL K H a xs:=.inl (.inl h)
theorem SqT.of {K:q0a} (h:H a=some (.tup xs)):SqT K H a xs:=.inl (.inl h)
theorem Inv.list (I:Inv X pins σ H s) (h:SqL X.K H a xs):∃ its:List Value,n5 xs its/\PlainL s.heap a its.toArray/\xs.length<=sizeLine:=by
 rcases h with h | ⟨o,its,n,hk,hc,hd,hs,hz,r⟩
 ·obtain ⟨z,its,n,r,e⟩:=h.ok I.hok
  exact ⟨its,r,⟨_,n,e,rfl,rfl,rfl⟩,z⟩
 ·refine ⟨its.toList,r,⟨o,n,I.kIn a o hk,hc,hd,by simpa using hs⟩,?_⟩
  have e:=r.length
  simp only [z1v] at e
  lia
theorem Inv.tuple (I:Inv X pins σ H s) (h:SqT X.K H a xs):∃ its:List Value,n5 xs its/\IsTup s.heap a its.toArray/\xs.length<=sizeLine:=by
 rcases h with h | ⟨o,its,n,hk,hc,hs,hz,r⟩
 ·obtain ⟨z,its,r,p⟩:=h.ok I.hok
  exact ⟨its,r,p,z⟩
 ·refine ⟨its.toList,r,⟨o,I.kIn a o hk,hc,n,by simpa using hs⟩,?_⟩
  have e:=r.length
  simp only [z1v] at e
  omega
theorem Inv.list_inj (I:Inv X pins σ H s) (h:SqL X.K H a xs) (h':SqL X.K H a ys):xs=ys:=by
 obtain ⟨its,r,⟨o,n,e,_,_,d⟩,_⟩:=I.list h
 obtain ⟨its',r',⟨o',n',e',_,_,d'⟩,_⟩:=I.list h'
 rw [e] at e';cases e'
 rw [d] at d'
 injection d' with d1 _
 have:its=its':=by simpa using congrArg Array.toList d1
 subst this
 exact r.inj r'
theorem Inv.tuple_inj (I:Inv X pins σ H s) (h:SqT X.K H a xs) (h':SqT X.K H a ys):xs=ys:=by
 obtain ⟨its,r,⟨o,e,_,n,d⟩,_⟩:=I.tuple h
 obtain ⟨its',r',⟨o',e',_,n',d'⟩,_⟩:=I.tuple h'
 rw [e] at e';cases e'
 rw [d] at d'
 injection d' with d1 _
 have:its=its':=by simpa using congrArg Array.toList d1
 subst this
 exact r.inj r'
end
abbrev Cx.wish (X:Cx) (E:Value->Shared->Prop):Cx:={ X with xe:=E }
abbrev Cx.nox (X:Cx):Cx:=X.wish λ_ _=>False
theorem Cx.Ok.wish {X:Cx} (ok:X.Ok) (E:Value->Shared->Prop):(X.wish E).Ok :=
 ⟨ok.mod,ok.kind,ok.glob,ok.blt,ok.above,ok.inj,ok.has,ok.cab,ok.hd,ok.frames,ok.stk,ok.exf,ok.bs,ok.bsz,ok.noex,ok.exfs,ok.funs,ok.frf⟩
theorem Cx.Ok.unwish {X:Cx} {E:Value->Shared->Prop} (ok:(X.wish E).Ok):X.Ok :=
 ⟨ok.mod,ok.kind,ok.glob,ok.blt,ok.above,ok.inj,ok.has,ok.cab,ok.hd,ok.frames,ok.stk,ok.exf,ok.bs,ok.bsz,ok.noex,ok.exfs,ok.funs,ok.frf⟩
section
variable {X:Cx} {pins:List (Addr × Obj)} {σ:St} {H:Hp} {s:Shared} {E:Value->Shared->Prop}
theorem Inv.wish (I:Inv X pins σ H s) (E:Value->Shared->Prop):Inv (X.wish E) pins σ H s:=⟨I.ok.wish E,I.os,I.bare,I.base,I.loc,I.cell,I.free,I.freeC,I.pin,I.hok,I.len⟩
theorem Inv.unwish (I:Inv (X.wish E) pins σ H s):Inv X pins σ H s:=⟨I.ok.unwish,I.os,I.bare,I.base,I.loc,I.cell,I.free,I.freeC,I.pin,I.hok,I.len⟩
theorem SP.unwish {D:aa7} {f:Flow} {s':Shared} (h:SP (X.wish E) pins D f s'):SP X pins D f s':=by
 cases f with
 | next=>obtain ⟨σ',H',I,q⟩:=h;exact ⟨σ',H',I.unwish,q⟩
 | brk=>obtain ⟨σ',H',I,q⟩:=h;exact ⟨σ',H',I.unwish,q⟩
 | cont=>obtain ⟨σ',H',I,q⟩:=h;exact ⟨σ',H',I.unwish,q⟩
 | ret u=>obtain ⟨v,σ',H',I,r,q⟩:=h;exact ⟨v,σ',H',I.unwish,r,q⟩
theorem PSs.nox {st:List Stmt} {t:TS} (h:PSs X.nox st t):PSs X st t:=λpins s σ H D I hw =>
 wpAny_mono (h pins s σ H D (I.wish _) hw) (λ_ _ q=>q.unwish) λ_ _ z=>False.elim z
end
section
variable {X:Cx} {st:Stmt} {ah1:List Stmt} {t u:TS} {e:Expr} {te:TE} {pos:Pos}
def be8:TS:=λD σ H=>D.nx σ H
def br2 (t u:TS):TS:=λD σ H=>t { D with nx:=u D } σ H
theorem p9:PSs X [] be8:=λ_ _ σ H _ I h=>wpAny_execs_nil ⟨σ,H,I,h⟩
theorem b9 (h1:PS X st t) (h2:PSs X ah1 u):PSs X (st :: ah1) (br2 t u):=by
 intro pins s σ H D I h
 refine wpAny_execs_cons (thn (h1 pins s σ H { D with nx:=u D } I h) λf s1 q=>?_)
 cases f with
 | next =>
  obtain ⟨σ',H',I',q⟩:=q
  exact h2 pins s1 σ' H' D I' q
 | ret v=>exact q
 | brk=>exact q
 | cont=>exact q
theorem c5 (h1:PS X st t):PSs X [st] t:=by
 intro pins s σ H D I h
 refine wpAny_execs_cons (thn (h1 pins s σ H D I h) λf s1 q=>?_)
 cases f with
 | next=>exact wpAny_execs_nil q
 | ret v=>exact q
 | brk=>exact q
 | cont=>exact q
theorem Inv.quiet {pins:List (Addr × Obj)} {σ:St} {H:Hp} {s:Shared} (I:Inv X pins σ H s):interactive X.env=false:=by simp [interactive,I.ok.kind]
def be9 (te:TE):TS:=λD σ H=>te σ H λ_ H1=>D.nx σ H1
theorem af0 (he:PE X e te) (hs:swapsWith e none pos.line X.env=pure false:=by rfl):PS X (.Expr e pos) (be9 te):=by
 intro pins s σ H D I h
 exact wpAny_Expr_any (thn (he pins s σ H _ I h) λv s1 ⟨x,H1,I1,r1,q1⟩=>⟨σ,H1,I1,q1⟩) I.quiet hs
def br3 (te:TE):TS:=λD σ H=>te σ H D.rt
theorem i8 (he:PE X e te):PS X (.Return (some e) pos) (br3 te):=by
 intro pins s σ H D I h
 exact wpAny_Return_some (thn (he pins s σ H _ I h) λv s1 ⟨x,H1,I1,r1,q1⟩=>⟨x,σ,H1,I1,r1,q1⟩)
def bB4 (c:TT) (t u:TS):TS:=λD σ H=>c σ H λb H1=>if b=true then t D σ H1 else u D σ H1
theorem B0 {c:Expr} {a b:List Stmt} {tc:TT} (hc:PT X c tc) (ha:PSs X a t) (hb:PSs X b u):PS X (.If c a b pos) (bB4 tc t u):=by
 intro pins s σ H D I h
 refine wpAny_If (thn (hc pins s σ H _ I h) λd s1 ⟨H1,I1,q1⟩=>?_)
 cases d with
 | true=>exact ha pins s1 σ H1 D I1 q1
 | false=>exact hb pins s1 σ H1 D I1 q1
def aO5:TS:=λ_ _ _=>False
theorem aK5:PS X st aO5:=λ_ _ _ _ _ _ h=>h.elim
end
abbrev TG:=V->St->Hp->(St->Hp->Prop)->Prop
abbrev TGs:=List V->St->Hp->(St->Hp->Prop)->Prop
def PG (X:Cx) (target:Expr) (t:TG):Prop :=
 ∀ (pins:List (Addr × Obj)) (s:Shared) (σ:St) (H:Hp) (v:V) (u:Value) (Q:St->Hp->Prop),Inv X pins σ H s->x8 v u->t v σ H Q ->
  wpAny (model X.prog X.w) X.A (assign target X.env u) (λ_ s' => ∃ σ' H',Inv X pins σ' H' s'/\Q σ' H') X.xe s
def PGs (X:Cx) (ts:List Expr) (t:TGs):Prop :=
 ∀ (pins:List (Addr × Obj)) (s:Shared) (σ:St) (H:Hp) (vs:List V) (us:List Value) (Q:St->Hp->Prop),Inv X pins σ H s->n5 vs us->t vs σ H Q ->
  wpAny (model X.prog X.w) X.A (assignInOrder ((assignEach ts X.env).map (·.2)) us) (λ_ s' => ∃ σ' H',Inv X pins σ' H' s'/\Q σ' H') X.xe s
abbrev bq3:=V->V->V->Hp->(Hp->Prop)->Prop
def bK0 (X:Cx) (t:bq3):Prop :=
 ∀ (pins:List (Addr × Obj)) (s:Shared) (σ:St) (H:Hp) (o i v:V) (ov iv u:Value) (Q:Hp->Prop),Inv X pins σ H s->x8 o ov->x8 i iv->x8 v u->t o i v H Q ->
  wpAny (model X.prog X.w) X.A (setItem ov iv u) (λ_ s' => ∃ H',Inv X pins σ H' s'/\Q H') X.xe s
abbrev TIp:=V->V->Hp->VK->Prop
def PIp (X:Cx) (op:Operator) (t:TIp):Prop :=
 ∀ (pins:List (Addr × Obj)) (s:Shared) (σ:St) (H:Hp) (x y:V) (v u:Value) (Q:VK),Inv X pins σ H s->x8 x v->x8 y u->t x y H Q ->
  wpAny (model X.prog X.w) X.A (inplaceOp op v u) (EP X pins σ Q) X.xe s
section
variable {X:Cx} {pos:Pos}
def t8 (i:Nat):TG:=λv σ H Q=>Q (σ.set i (some v)) H
theorem i3 {i:Nat} {x:Str} (hN:X.N.Nodup) (hi:X.N[i]? = some x) (hx:Loc X.env.scope x) (hf:X.fn x=true \/ X.env.scope.names.lookup x=some .local:=by first | exact .inl rfl | exact .inr rfl | assumption):PG X (.Name x pos) (t8 i):=by
 intro pins s σ H v u Q I r h
 exact wpAny_assign_Name (Y8 I hN hi hx r (λs' I'=>⟨_,H,I',h⟩) hf)
def af9:TGs:=λvs σ H Q=>vs=[]/\Q σ H
def A8 (t:TG) (u:TGs):TGs:=λvs σ H Q => ∃ v r,vs=v :: r/\t v σ H λσ' H'=>u r σ' H' Q
theorem G8:PGs X [] af9:=by
 intro pins s σ H vs us Q I r h
 obtain ⟨e,h⟩:=h
 subst e
 cases r
 exact assignInOrder_nil ⟨σ,H,I,h⟩
theorem k7 {e:Expr} {es:List Expr} {t:TG} {u:TGs} (h1:PG X e t) (h2:PGs X es u)
  (hs:(assignEach (e :: es) X.env).map (·.2)=assign e X.env :: (assignEach es X.env).map (·.2):=by rfl):PGs X (e :: es) (A8 t u):=by
 intro pins s σ H vs us Q I r h
 obtain ⟨v,vr,e1,h⟩:=h
 subst e1
 cases r with
 | cons r rr =>
  rw [hs]
  refine assignInOrder_cons (thn (h1 pins s σ H _ _ _ I r h) λ_ s1 ⟨σ1,H1,I1,q1⟩=>?_)
  exact h2 pins s1 σ1 H1 _ _ Q I1 rr q1
def af8 (K:q0a) (n:Nat) (t:TGs):TG:=λv σ H Q => ∃ a xs,v=.ref a/\SqT K H a xs/\xs.length=n/\t xs σ H Q
theorem N5 {es:List Expr} {k:Nat} {t:TGs} {n:Nat} (hc:X.calm=true) (h:PGs X es t)
  (hn:(assignEach es X.env).length=n:=by rfl) (hst:(assignEach es X.env).findIdx? (·.1)=none:=by rfl):PG X (.Tuple es k pos) (af8 X.K n t):=by
 intro pins s σ H v u Q I r hw
 obtain ⟨a,xs,e1,hq,hl,hw⟩:=hw
 subst e1
 cases r
 obtain ⟨its,rv,ht,hz⟩:=I.tuple hq
 refine assign_Tuple_tuple (I.ok.hd hc) ht (by simp [hn,<- hl,rv.length]) hst λh' hx=>?_
 have I1:Inv X pins σ H { s with heap:=h' }:=I.kept (t':=s.toks) λb o e=>hx b o (z0b (q0j e)) e
 exact h pins _ σ H xs _ Q I1 (by simpa using rv) hw
def bH6 (to ti:TE) (t:bq3):TG:=λv σ H Q=>to σ H λo H1=>ti σ H1 λi H2=>t o i v H2 λH3=>Q σ H3
theorem aF1 {o i:Expr} {to ti:TE} {t:bq3} (ho:PE X o to) (hi:PE X i ti) (hs:bK0 X t)
  (ha:∀ v,assign (.Subscript o i pos) X.env v=(do
   let ov <- holding [v] (eval o X.env)
   let iv <- holding [v,ov] (eval i X.env)
   standAt pos
   holding [v,ov,iv] (setItem ov iv v)
   release [v,ov,iv] []):=by intro _;rfl):PG X (.Subscript o i pos) (bH6 to ti t):=by
 intro pins s σ H v u Q I r h
 rw [ha]
 refine wpAny_bind (wpAny_holding (thn (ho pins s σ H _ I h) λov s1 ⟨x,H1,I1,r1,q1⟩=>?_))
 refine wpAny_bind (wpAny_holding (thn (hi pins s1 σ H1 _ I1 q1) λiv s2 ⟨y,H2,I2,r2,q2⟩=>?_))
 refine wpAny_bind (wpAny_standAt (wpAny_bind (wpAny_holding (thn (hs pins s2 σ H2 x y v ov iv u _ I2 r1 r2 r q2) λ_ s3 ⟨H3,I3,q3⟩=>?_))))
 exact wpAny_release ⟨σ,H3,I3,q3⟩
def aZ5 (te:TE) (g:TG):TS:=λD σ H=>te σ H λx H1=>g x σ H1 D.nx
theorem P8 {tg e : Expr} {te : TE} {g : TG} (he : PE X e te) (hg : PG X tg g) (hs : swapsWithSole [tg] e pos.line X.env = pure false := by rfl) (hw : swappedStores [tg] e X.env = pure none := by rfl)
    (h1:(assignEach [tg] X.env).map (·.2)=[assign tg X.env]:=by rfl):PS X (.Assign [tg] e pos) (aZ5 te g):=by
  intro pins s σ H D I h
  refine wpAny_Assign_stores (thn (he pins s σ H _ I h) λv s1 ⟨x,H1,I1,r1,q1⟩=>?_) hs hw
  rw [h1]
  exact thn (hg pins s1 σ H1 x v _ I1 r1 q1) λ_ s2 q=>q
theorem d8 {i:Nat} {x:Str} {e:Expr} {te:TE} {pos':Pos} (hN:X.N.Nodup) (hi:X.N[i]? = some x) (hx:Loc X.env.scope x) (he:PE X e te) (hs:swapsWith e (some (.Name x pos')) pos.line X.env=pure false:=by rfl) (hf:X.fn x=true \/ X.env.scope.names.lookup x=some .local:=by first | exact .inl rfl | exact .inr rfl | assumption) :
  PS X (.Assign [.Name x pos'] e pos) (aZ5 te (t8 i)):=by
 intro pins s σ H D I h
 refine wpAny_Assign_Name (thn (he pins s σ H _ I h) λv s1 ⟨y,H1,I1,r1,q1⟩=>?_) hs
 exact Y8 I1 hN hi hx r1 (λs2 I2=>⟨_,H1,I2,q1⟩) hf
def br4 (i j:Nat) (ta:TA):TS:=λD σ H=>ta σ H λvs H1 => ∃ v w,vs=[v,w]/\D.nx ((σ.set i (some v)).set j (some w)) H1
theorem bh3 {i j:Nat} {x y:Str} {a b:Expr} {ta:TA} {px py pt:Pos} {kt k2 pt2} (hc:X.calm=true) (hN:X.N.Nodup) (hi:X.N[i]? = some x) (hj:X.N[j]? = some y) (hij:i ≠ j)
  (hx:X.env.scope.names.lookup x=some .local) (hy:X.env.scope.names.lookup y=some .local) (ha:PA X [a,b] ta)
  (hw:swappedStores [.Tuple [.Name x px,.Name y py] kt pt] (.Tuple [a,b] k2 pt2) X.env=pure (some [x,y]))
  (hs:swapsWithSole [.Tuple [.Name x px,.Name y py] kt pt] (.Tuple [a,b] k2 pt2) pos.line X.env=pure false:=by rfl) :
  PS X (.Assign [.Tuple [.Name x px,.Name y py] kt pt] (.Tuple [a,b] k2 pt2) pos) (br4 i j ta):=by
 intro pins s σ H D I h
 rw [exec_Assign_arm]
 refine wpAny_bind (wpAny_standAt ?_)
 rw [hs]
 refine wpAny_bind (wpAny_pure ?_)
 rw [if_neg (by decide)]
 refine wpAny_bind (Tuple_ (thn (ha _ pins s σ H _ I h) λus s1 ⟨vs,H1,I1,r1,q1⟩=>?_))
 obtain ⟨v,w,e1,q1⟩:=q1
 subst e1
 obtain ⟨u1,u2,rfl,rv,rw'⟩:∃ u1 u2,us=[u1,u2]/\x8 v u1/\x8 w u2:=by
  cases r1 with
  | cons p q =>
   cases q with
   | cons p' q' =>
    cases q'
    exact ⟨_,_,rfl,p,p'⟩
 refine wpAny_newObj_type ?_ (by show 2<=sizeLine;decide)
 have I2:Inv X pins σ H1 { s1 with heap:=s1.heap.push { cls:=.type "tuple",data:=.seq [u1,u2].toArray } }:=I1.kept (t':=s1.toks) λb o e=>q0y _ e
 rw [hw]
 refine wpAny_bind (wpAny_pure ?_)
 show wpAny (model X.prog X.w) X.A (do rule "assign.swapped-stores";let items <- unpackItems (.ref s1.heap.objs.size) 2 none;assignInOrder [λv=>bindName X.env y v,λv=>bindName X.env x v] items.reverse;pure Flow.next) _ _ _
 refine wpAny_bind (wpAny_rule (wpAny_bind (unpackItems_tuple (items:=#[u1,u2]) (I.ok.hd hc) (IsTup.new s1.heap _) λh' hx'=>?_)))
 have I3:=I2.kept (h':=h') (t':=s1.toks) λb o e=>hx' b o (z0b (q0j e)) e
 show wpAny _ _ (assignInOrder [λv=>bindName X.env y v,λv=>bindName X.env x v] [u2,u1] >>= λ_=>pure Flow.next) _ _ _
 refine wpAny_bind (assignInOrder_cons (wpAny_bindName (Y8 I3 hN hj (.inl hy) rw' (λs2 I4=>?_) (.inr hy))))
 refine assignInOrder_cons (wpAny_bindName (Y8 I4 hN hi (.inl hx) rv (λs3 I5=>assignInOrder_nil (wpAny_pure ?_)) (.inr hx)))
 rw [List.set_comm _ _ (Ne.symm hij)] at I5
 exact ⟨_,H1,I5,q1⟩
def bB6 (i:Nat) (te:TE) (ti:TIp):TS:=λD σ H => ∃ x,σ[i]? = some (some x)/\te σ H λy H1=>ti x y H1 λz H2=>D.nx (σ.set i (some z)) H2
theorem as0 {i:Nat} {x:Str} {e:Expr} {te:TE} {op:Operator} {ti:TIp} {pos':Pos} (hN:X.N.Nodup) (hi:X.N[i]? = some x) (hx:Loc X.env.scope x) (he:PE X e te) (ho:PIp X op ti) (hf:X.fn x=true \/ X.env.scope.names.lookup x=some .local:=by first | exact .inl rfl | exact .inr rfl | assumption) :
  PS X (.AugAssign (.Name x pos') op e pos) (bB6 i te ti):=by
 intro pins s σ H D I h
 obtain ⟨v,e1,h⟩:=h
 obtain ⟨m,hn,hl⟩:=I.loc
 have vis:Vis X.env.scope x:=by rcases hx with k | k;exact .inl k;exact .inr (.inl k)
 obtain ⟨u,r,l⟩:=hl i x v hi e1 vis
 refine wpAny_AugAssign_Name ?_
 have go:wpAny (model X.prog X.w) X.A (eval e X.env) (λw s₂=>wpAny (model X.prog X.w) X.A (inplaceOp op u w) (λr s₃=>wpAny (model X.prog X.w) X.A (storeName X.env x r) (λ_=>SP X pins D .next) X.xe s₃) X.xe s₂) X.xe s:=by
  refine thn (he pins s σ H _ I h) λw s1 ⟨y,H1,I1,r1,q1⟩=>?_
  refine thn (ho pins s1 σ H1 v y u w _ I1 r r1 q1) λz s2 ⟨zv,H2,I2,r2,q2⟩=>?_
  exact Y8 I2 hN hi hx r2 (λs3 I3=>⟨_,H2,I3,q2⟩) hf
 rcases l with ⟨hk,hm⟩ | ⟨hk,c,hc,hcell⟩
 ·exact wpAny_loadName_local I.ok.kind hk hn hm go
 ·rcases hk with hk | hk
  ·exact wpAny_loadName_cell I.ok.kind hk hc hcell go
  ·rcases hx with k | k
   ·have:X.env.scope.names.lookup x=some .free:=hk
    rw [k] at this;cases this
   ·have:X.env.scope.names.lookup x=some .free:=hk
    rw [k] at this;cases this
def bf1 (to ti te:TE) (tget:V->V->Hp->VK->Prop) (tip:TIp) (tset:bq3):TS:=λD σ H=>to σ H λo H1=>ti σ H1 λi H2=>tget o i H2 λx H3=>te σ H3 λy H4=>tip x y H4 λz H5=>tset o i z H5 λH6=>D.nx σ H6
def bN5 (X:Cx) (t:V->V->Hp->VK->Prop):Prop :=
 ∀ (pins:List (Addr × Obj)) (s:Shared) (σ:St) (H:Hp) (o i:V) (ov iv:Value) (Q:VK),Inv X pins σ H s->x8 o ov->x8 i iv->t o i H Q ->
  wpAny (model X.prog X.w) X.A (getItem ov iv) (EP X pins σ Q) X.xe s
theorem bs8 {o i e:Expr} {to ti te:TE} {tget:V->V->Hp->VK->Prop} {tip:TIp} {tset:bq3} {op:Operator} {tpos:Pos} (ho:PE X o to) (hi:PE X i ti) (hg:bN5 X tget) (he:PE X e te) (hp:PIp X op tip) (hs:bK0 X tset)
  (ha:∀ ov iv new,augStore i ov iv new=(do holding [new,ov,iv] (setItem ov iv new);release [new,ov,iv] [];pure .next):=by intros;rfl):PS X (.AugAssign (.Subscript o i tpos) op e pos) (bf1 to ti te tget tip tset):=by
 intro pins s σ H D I h
 refine wpAny_AugAssign_SubscriptAny (thn (ho pins s σ H _ I h) λov s1 ⟨x1,H1,I1,r1,q1⟩=>?_) ha
 refine thn (hi pins s1 σ H1 _ I1 q1) λiv s2 ⟨x2,H2,I2,r2,q2⟩=>?_
 refine thn (hg pins s2 σ H2 x1 x2 ov iv _ I2 r1 r2 q2) λold s3 ⟨x3,H3,I3,r3,q3⟩=>?_
 refine thn (he pins s3 σ H3 _ I3 q3) λv s4 ⟨x4,H4,I4,r4,q4⟩=>?_
 refine thn (hp pins s4 σ H4 x3 x4 old v _ I4 r3 r4 q4) λnew s5 ⟨x5,H5,I5,r5,q5⟩=>?_
 exact thn (hs pins s5 σ H5 x1 x2 x5 ov iv new _ I5 r1 r2 r5 q5) λ_ s6 ⟨H6,I6,q6⟩=>⟨σ,H6,I6,q6⟩
def ipI (f:Int->Int->Int):TIp:=λx y H Q => ∃ i j,x=.int i/\y=.int j/\Q (.int (f i j)) H
theorem bl2:PIp X .Add (ipI λi j=>i+j):=by
 intro pins s σ H x y v u Q I r1 r2 h
 obtain ⟨i,j,e1,e2,q⟩:=h
 subst e1;subst e2
 obtain ⟨t,rfl⟩:=r1
 obtain ⟨t',rfl⟩:=r2
 exact iadd_int ⟨.int _,H,I.tok _,⟨_,rfl⟩,q⟩
theorem bl0:PIp X .Sub (ipI λi j=>i-j):=by
 intro pins s σ H x y v u Q I r1 r2 h
 obtain ⟨i,j,e1,e2,q⟩:=h
 subst e1;subst e2
 obtain ⟨t,rfl⟩:=r1
 obtain ⟨t',rfl⟩:=r2
 exact isub_int ⟨.int _,H,I.tok _,⟨_,rfl⟩,q⟩
def ak5 (c:TT) (tb:TS):TS:=λD σ H => ∃ W:Nat->St->Hp->Prop,(∃ m,W m σ H)/\∀ m σ H,W m σ H ->
 c σ H λb H1=>if b=true then ∃ N:St->Hp->Prop,(∀ σ' H',N σ' H'->∃ m',m'<m/\W m' σ' H')/\tb { D with nx:=N,ct:=N,bk:=D.nx } σ H1 else D.nx σ H1
theorem O7 {c:Expr} {body:List Stmt} {tc:TT} {tb:TS} (hp:PassesOwn (model X.prog X.w) X.A X.env X.xe) (hc:PT X c tc) (hb:PSs X body tb):PS X (.While c body [] pos) (ak5 tc tb):=by
 intro pins s σ H D I h
 obtain ⟨W,⟨m0,w0⟩,turn⟩:=h
 refine wpAny_While (codeAny_whileLoop (λn s' => ∃ σ' H',Inv X pins σ' H' s'/\W n σ' H') ?_ m0 ⟨σ,H,I,w0⟩)
 rintro n s1 ⟨σ1,H1,I1,w1⟩
 refine wpAny_passesOwn hp (thn (hc pins s1 σ1 H1 _ I1 (turn n σ1 H1 w1)) λb s2 ⟨H2,I2,q2⟩=>?_)
 cases b with
 | true =>
  obtain ⟨N,hN,q2⟩:=q2
  rw [if_pos rfl]
  refine wpAny_passesOwn hp (thn (hb pins s2 σ1 H2 _ I2 q2) λf s3 q3=>?_)
  cases f with
  | next =>
   obtain ⟨σ3,H3,I3,n3⟩:=q3
   obtain ⟨m',hm,w3⟩:=hN σ3 H3 n3
   exact ⟨m',hm,σ3,H3,I3,w3⟩
  | cont =>
   obtain ⟨σ3,H3,I3,n3⟩:=q3
   obtain ⟨m',hm,w3⟩:=hN σ3 H3 n3
   exact ⟨m',hm,σ3,H3,I3,w3⟩
  | brk=>exact q3
  | ret v=>exact q3
 | false =>
  rw [if_neg q0z]
  exact wpAny_execs_nil ⟨σ1,H2,I2,q2⟩
end
structure It where
 go:Nat->Hp->Prop
 yld:Nat->Hp->V->Hp->Prop
 stop:Nat->Hp->Prop
def N1 (X:Cx) (pins:List (Addr × Obj)) (H:Hp) (b:Addr):Prop :=
 H b=none/\b ≠ X.env.locals/\b ∉ X.fs/\(b ∈ X.ex \/ X.s₀.heap.objs.size<=b)/\(∀ x c,X.env.cells.lookup x=some c->c ≠ b)/\∀ p ∈ X.pn ++ pins,p.1 ≠ b
theorem Inv.fpOk {X:Cx} {pins:List (Addr × Obj)} {σ:St} {H H':Hp} {s:Shared} {b:Addr} (I:Inv X pins σ H s) (hb:s.heap.objs.size<=b) (hn:H' b=none):N1 X pins H' b:=by
 refine ⟨hn,z1y (q0f I.lt hb),I.nofs hb,.inr (z0v I.sz hb),λx c e z=>?_,λp hp z=>?_⟩
 ·obtain ⟨v,q⟩:=I.cell x c e
  exact absurd (q0f q.lt (by rw [z];exact hb)) (y0w _)
 ·exact absurd (q0f (q0j (I.pin p hp).1) (by rw [z];exact hb)) (y0w _)
structure aT4 (P:Program) (w:World) (K:q0a) (tg:Expr) (J:It) (fp:List Addr) (it:Addr) (tn:Nat->Heap->Prop):Prop where
 mem:it ∈ fp
 obj:∀ i h,tn i h->∀ b ∈ fp,∃ o,h.get? b=some o/\∀ v,o.data ≠ .cell v
 keep:∀ i h h',tn i h->(∀ b ∈ fp,∀ o,h.get? b=some o->h'.get? b=some o)->tn i h'
 item:∀ (X:Cx),X.prog=P->X.w=w->X.K=K->X.calm=true->∀ (i:Nat) (pins:List (Addr × Obj)) (s:Shared) (σ:St) (H:Hp) (E:Value->Shared->Prop),Inv X pins σ H s->(∀ b ∈ fp,N1 X pins H b)->tn i s.heap->J.go i H ->
  wpAny (model P w) X.A (pyNext (.ref it)) (λr s1 => ∃ u,r=some u /\
   wpAny (model P w) X.A (letOwnedTupleGo tg (.ref it) u) (λ_ s2 => ∃ x H',Inv X pins σ H' s2/\x8 x u/\J.yld i H x H'/\tn (i+1) s2.heap/\∀ b ∈ fp,H' b=none) E s1) E s
 done:∀ (X:Cx),X.prog=P->X.w=w->X.K=K->X.calm=true->∀ (i:Nat) (pins:List (Addr × Obj)) (s:Shared) (σ:St) (H:Hp) (E:Value->Shared->Prop),Inv X pins σ H s->(∀ b ∈ fp,N1 X pins H b)->tn i s.heap->J.stop i H ->
  wpAny (model P w) X.A (pyNext (.ref it)) (λr s1=>r=none/\Inv X pins σ H s1) E s
 self:∀ (A:Around) (i:Nat) (s:Shared) (Q:Value->Shared->Prop) (E:Value->Shared->Prop),tn i s.heap->Q (.ref it) s->wpAny (model P w) A (pyIter (.ref it)) Q E s
abbrev TI:=St->Hp->(It->Hp->Prop)->Prop
def PIE (X:Cx) (pins:List (Addr × Obj)) (σ:St) (tg:Expr) (R:It->Hp->Prop) (itv:Value) (s2:Shared):Prop :=
 ∃ (it:Addr) (fp:List Addr) (tn:Nat->Heap->Prop) (J:It) (H':Hp),itv=.ref it/\Inv X pins σ H' s2/\aT4 X.prog X.w X.K tg J fp it tn/\tn 0 s2.heap/\(∀ b ∈ fp,N1 X pins H' b)/\R J H'
def PI (X:Cx) (tg iter:Expr) (wi:TI):Prop :=
 ∀ (pins:List (Addr × Obj)) (s:Shared) (σ:St) (H:Hp) (R:It->Hp->Prop),Inv X pins σ H s->wi σ H R ->
  wpAny (model X.prog X.w) X.A (eval iter X.env) (λv s1=>wpAny (model X.prog X.w) X.A (pyIter v) (PIE X pins σ tg R) X.xe s1) X.xe s
theorem aW7 {M : Model} {A : Around} {E : Value → Shared → Prop} {s : Shared} {tg : Expr} {it : Addr} {u : Value} {o : Obj} {n : String} {vs : Array Value} {Q : Unit → Shared → Prop} (ho : s.heap.get? it = some o) (hc : o.cls = .type n) (hd : o.data = .fields vs)
    (hn:["enumerate","zip","dict_itemiterator","dict_reverseitemiterator","odict_iterator","itertools.zip_longest","itertools.pairwise"].contains n=false) (hQ:Q () s):wpAny M A (letOwnedTupleGo tg (.ref it) u) Q E s:=by
  unfold letOwnedTupleGo
  cases tg <;> first
    | exact wpAny_pure hQ
    | (cases u <;> first
        | exact wpAny_pure hQ
        | (refine wpAny_bind (wpAny_load ho ?_)
           rw [hc,hd]
           show wpAny M A (if (["enumerate","zip","dict_itemiterator","dict_reverseitemiterator","odict_iterator","itertools.zip_longest","itertools.pairwise"].contains n && vs[0]? == some (rawInt _))=true then _ else _) Q E s
           rw [if_neg (by intro h;rw [hn,Bool.false_and] at h;cases h)]
           exact wpAny_pure hQ))
def Itl (K:q0a) (a:Addr):It :=
 ⟨λi H => ∃ xs x,SqL K H a xs/\xs[i]? = some x,λi H x H'=>H'=H/\∀ xs,SqL K H a xs->xs[i]? = some x,λi H => ∃ xs,SqL K H a xs/\xs.length<=i⟩
def Itt (K:q0a) (a:Addr):It :=
 ⟨λi H => ∃ xs x,SqT K H a xs/\xs[i]? = some x,λi H x H'=>H'=H/\∀ xs,SqT K H a xs->xs[i]? = some x,λi H => ∃ xs,SqT K H a xs/\xs.length<=i⟩
def Itr (lo:Int) (n:Nat):It:=⟨λi _=>i<n,λi H x H'=>H'=H/\x=.int (lo+i),λi _=>n<=i⟩
theorem aZ1 {P:Program} {w:World} {K:q0a} {tg:Expr} (a it:Addr):aT4 P w K tg (Itl K a) [it] it (λi h=>h.IsListIter it a i) where
 mem:=by simp
 obj:=λi h st b hb=>by
  have e:b=it:=by simpa using hb
  subst e
  obtain ⟨o,e,c,d⟩:=st
  exact ⟨o,e,λv z=>by rw [d] at z;cases z⟩
 keep:=λi h h' st k=>st.at λo e=>k it (by simp) o e
 item:=by
  intro X hP hw hK hc i pins s σ H E I hf st hg
  subst hP hw hK
  obtain ⟨xs,x,hq,hx⟩:=hg
  obtain ⟨its,rv,p,hz⟩:=I.list hq
  obtain ⟨u,hu,ru⟩:=rv.get hx
  obtain ⟨f0,f1,f2,f3,f4,f5⟩:=hf it (by simp)
  refine wpAny_pyNext_list_item st p.isList (x:=u) (by simpa using hu) λh' st' sb=>?_
  have I1:Inv X pins σ H { s with heap:=h' }:=I.turned (t':=s.toks) (λb o hb e=>(sb.2 b hb).trans e) f0 f1 f3 f4 f5
  obtain ⟨o,e,c,d⟩:=id st'
  exact ⟨u,rfl,aW7 (s:={ s with heap:=h' }) e c d (by decide) ⟨x,H,I1,ru,⟨rfl,λys hy=>by rw [I.list_inj hy hq];exact hx⟩,st',λb hb=>(hf b hb).1⟩⟩
 done:=by
  intro X hP hw hK hc i pins s σ H E I hf st hg
  subst hP hw hK
  obtain ⟨xs,hq,hx⟩:=hg
  obtain ⟨its,rv,p,hz⟩:=I.list hq
  obtain ⟨f0,f1,f2,f3,f4,f5⟩:=hf it (by simp)
  have hl:=rv.length
  exact wpAny_pyNext_list_end (I.ok.hd hc) st p.isList (by simp;lia) λh' eb=>⟨rfl,I.turned (t':=s.toks) (λb o hb e=>eb b o hb e) f0 f1 f3 f4 f5⟩
 self:=λ_ _ _ _ _ st h=>wpAny_pyIter_listiter st h
theorem aO0 {P:Program} {w:World} {K:q0a} {tg:Expr} (a it:Addr):aT4 P w K tg (Itt K a) [it] it (λi h=>h.IsTupleIter it a i) where
 mem:=by simp
 obj:=λi h st b hb=>by
  have e:b=it:=by simpa using hb
  subst e
  obtain ⟨o,e,c,d⟩:=st
  exact ⟨o,e,λv z=>by rw [d] at z;cases z⟩
 keep:=λi h h' st k=>st.at λo e=>k it (by simp) o e
 item:=by
  intro X hP hw hK hc i pins s σ H E I hf st hg
  subst hP hw hK
  obtain ⟨xs,x,hq,hx⟩:=hg
  obtain ⟨its,rv,p,hz⟩:=I.tuple hq
  obtain ⟨u,hu,ru⟩:=rv.get hx
  obtain ⟨f0,f1,f2,f3,f4,f5⟩:=hf it (by simp)
  refine wpAny_pyNext_tuple_item st (show s.heap.IsTuple a its.toArray from p) (x:=u) (by simpa using hu) λh' st' sb=>?_
  have I1:Inv X pins σ H { s with heap:=h' }:=I.turned (t':=s.toks) (λb o hb e=>(sb.2 b hb).trans e) f0 f1 f3 f4 f5
  obtain ⟨o,e,c,d⟩:=id st'
  exact ⟨u,rfl,aW7 (s:={ s with heap:=h' }) e c d (by decide) ⟨x,H,I1,ru,⟨rfl,λys hy=>by rw [I.tuple_inj hy hq];exact hx⟩,st',λb hb=>(hf b hb).1⟩⟩
 done:=by
  intro X hP hw hK hc i pins s σ H E I hf st hg
  subst hP hw hK
  obtain ⟨xs,hq,hx⟩:=hg
  obtain ⟨its,rv,p,hz⟩:=I.tuple hq
  obtain ⟨f0,f1,f2,f3,f4,f5⟩:=hf it (by simp)
  have hl:=rv.length
  exact wpAny_pyNext_tuple_end (I.ok.hd hc) st (show s.heap.IsTuple a its.toArray from p) (by simp;omega) λh' eb=>⟨rfl,I.turned (t':=s.toks) (λb o hb e=>eb b o hb e) f0 f1 f3 f4 f5⟩
 self:=λ_ _ _ _ _ st h=>wpAny_pyIter_tupleiter st h
theorem aO1 {P:Program} {w:World} {K:q0a} {tg:Expr} (it:Addr) (lo:Int) (n:Nat):aT4 P w K tg (Itr lo n) [it] it (λi h=>IsRangeIter h it (lo+(i:Nat)*1) ((n:Int)-(i:Nat)) 1) where
 mem:=by simp
 obj:=λi h st b hb=>by
  have e:b=it:=by simpa using hb
  subst e
  exact ⟨_,st,λv z=>by
   have z':Data.fields _=Data.cell v:=z
   cases z'⟩
 keep:=λi h h' st k=>k it (by simp) _ st
 item:=by
  intro X hP hw hK hc i pins s σ H E I hf st hg
  subst hP hw hK
  obtain ⟨f0,f1,f2,f3,f4,f5⟩:=hf it (by simp)
  have W:=Walks.range (prog:=X.prog) (w:=X.w) (I.ok.hd hc) it lo 1 n
  refine W.item i s _ _ hg st λv h' tk hv st' kk=>?_
  obtain ⟨t,rfl⟩:=hv
  have I1:Inv X pins σ H { s with heap:=h',toks:=tk }:=I.turned (λb o hb e=>kk b o (by simpa using hb) e) f0 f1 f3 f4 f5
  refine ⟨_,rfl,aW7 (s:={ s with heap:=h',toks:=tk }) (n := "range_iterator") st' rfl rfl (by decide) ⟨.int (lo+i),H,I1,⟨t,?_⟩,⟨rfl,rfl⟩,st',λb hb=>(hf b hb).1⟩⟩
  rw [j1j]
 done:=by
  intro X hP hw hK hc i pins s σ H E I hf st hg
  subst hP hw hK
  obtain ⟨f0,f1,f2,f3,f4,f5⟩:=hf it (by simp)
  exact wpAny_pyNext_range_end (I.ok.hd hc) st (by have:n<=i:=hg;omega) λh' eb=>⟨rfl,I.turned (t':=s.toks) (λb o hb e=>eb b o hb e) f0 f1 f3 f4 f5⟩
 self:=λ_ _ _ _ _ st h=>wpAny_pyIter_rangeiter st h
section
variable {X:Cx} {tg:Expr}
def bl6 (K:q0a) (tl:TE):TI:=λσ H R=>tl σ H λx H1 => ∃ a,x=.ref a/\(∃ xs,SqL K H1 a xs)/\R (Itl K a) H1
def bH2 (K:q0a) (tl:TE):TI:=λσ H R=>tl σ H λx H1 => ∃ a,x=.ref a/\(∃ xs,SqT K H1 a xs)/\R (Itt K a) H1
theorem D6 {l:Expr} {tl:TE} (hl:PE X l tl):PI X tg l (bl6 X.K tl):=by
 intro pins s σ H R I h
 refine thn (hl pins s σ H _ I h) λv s1 ⟨x,H1,I1,r1,q1⟩=>?_
 obtain ⟨a,e,⟨xs,hq⟩,q⟩:=q1
 subst e
 cases r1
 obtain ⟨its,rv,p,hz⟩:=I1.list hq
 refine wpAny_pyIter_list p.isList ?_
 refine ⟨s1.heap.objs.size,[s1.heap.objs.size],_,_,H1,rfl,I1.kept (t':=s1.toks) λb o e=>q0y _ e,aZ1 a _,⟨_,j0b _ rfl,rfl,rfl⟩,λb hb=>?_,q⟩
 have e:b=s1.heap.objs.size:=by simpa using hb
 subst e
 exact I1.fpOk (q0q _) (I1.hok.fresh (q0q _))
theorem bh9 {l:Expr} {tl:TE} (hl:PE X l tl):PI X tg l (bH2 X.K tl):=by
 intro pins s σ H R I h
 refine thn (hl pins s σ H _ I h) λv s1 ⟨x,H1,I1,r1,q1⟩=>?_
 obtain ⟨a,e,⟨xs,hq⟩,q⟩:=q1
 subst e
 cases r1
 obtain ⟨its,rv,p,hz⟩:=I1.tuple hq
 refine wpAny_pyIter_tuple (show s1.heap.IsTuple a its.toArray from p) ?_
 refine ⟨s1.heap.objs.size,[s1.heap.objs.size],_,_,H1,rfl,I1.kept (t':=s1.toks) λb o e=>q0y _ e,aO0 a _,⟨_,j0b _ rfl,rfl,rfl⟩,λb hb=>?_,q⟩
 have e:b=s1.heap.objs.size:=by simpa using hb
 subst e
 exact I1.fpOk (q0q _) (I1.hok.fresh (q0q _))
theorem aK4 {pins:List (Addr × Obj)} {σ:St} {H:Hp} {s:Shared} {R:It->Hp->Prop} {E:Value->Shared->Prop} {lo hi:Int} {t u v:Tok} {tk:Nat} (I:Inv X pins σ H s) (h1:-(2 ^ 62)<=lo) (h2:lo<2 ^ 62) (h3:-(2 ^ 62)<=hi) (h4:hi<2 ^ 62)
  (q:R (Itr lo (hi-lo).toNat) H):wpAny (model X.prog X.w) X.A (pyIter (.ref s.heap.objs.size)) (PIE X pins σ tg R) E { s with heap:=s.heap.push { cls:=.type "range",data:=.fields #[.int lo t,.int hi u,.int 1 v] },toks:=tk }:=by
 refine wpAny_pyIter_range (IsRange.new ..) (small_one h1 h2 h3 h4) ?_
 have I1:Inv X pins σ H { s with heap:=s.heap.push { cls:=.type "range",data:=.fields #[.int lo t,.int hi u,.int 1 v] },toks:=tk }:=I.kept λb o e=>q0y _ e
 refine ⟨(s.heap.push { cls:=.type "range",data:=.fields #[.int lo t,.int hi u,.int 1 v] }).objs.size,[(s.heap.push { cls:=.type "range",data:=.fields #[.int lo t,.int hi u,.int 1 v] }).objs.size],_,_,H,rfl,
  I1.kept (t':=tk) λb o e=>q0y _ e,aO1 _ lo (hi-lo).toNat,?_,λb hb=>?_,q⟩
 ·have e1:lo+((0:Nat):Int)*1=lo:=by simp
  have e2:(((hi-lo).toNat:Nat):Int)-((0:Nat):Int)=Builtin.Range.rangeSize lo hi 1:=by rw [rangeSize_one];split <;> lia
  show IsRangeIter _ _ (lo+((0:Nat):Int)*1) ((((hi-lo).toNat:Nat):Int)-((0:Nat):Int)) 1
  rw [e1,e2]
  exact j0b _ rfl
 ·have e:b=(s.heap.push { cls:=.type "range",data:=.fields #[.int lo t,.int hi u,.int 1 v] }).objs.size:=by simpa using hb
  subst e
  exact I1.fpOk (q0q _) (I1.hok.fresh (q0q _))
def bl5 (ta:TA):TI:=λσ H R=>ta σ H λvs H1 => ∃ j:Int,vs=[.int j]/\-(2 ^ 62)<=j/\j<2 ^ 62/\R (Itr 0 j.toNat) H1
def bl4 (ta:TA):TI:=λσ H R=>ta σ H λvs H1 => ∃ i j:Int,vs=[.int i,.int j]/\(-(2 ^ 62)<=i/\i<2 ^ 62/\-(2 ^ 62)<=j/\j<2 ^ 62)/\R (Itr i (j-i).toNat) H1
theorem Z3 {a:Expr} {ta:TA} {p pos:Pos} (hg:Gl X "range") (hm:X.mg "range" = none) (ha:PA X [a] ta) (hs:starEach [a] X.env=[(false,eval a X.env)]:=by rfl):PI X tg (.Call (.Name "range" p) [a] [] pos) (bl5 ta):=by
 intro pins s σ H R I h
 refine Call_ (ad2 I hg hm boot_range (PyProof.Rows.callWith_type1 (thn (ha pos pins s σ H _ I h) λus s1 ⟨vs,H1,I1,r1,q1⟩=>?_) hs rfl))
 obtain ⟨j,e,q1,q2,q⟩:=q1
 subst e
 cases r1 with
 | cons r rr =>
  cases rr
  obtain ⟨t,rfl⟩:=r
  exact call_range_1 (aK4 I1 (by simp) ⋯ q1 q2 (by simpa using q))
theorem aA1 {a b:Expr} {ta:TA} {p pos:Pos} (hg:Gl X "range") (hm:X.mg "range" = none) (ha:PA X [a,b] ta) (hs:starEach [a,b] X.env=[(false,eval a X.env),(false,eval b X.env)]:=by rfl) (hs2:starEach [b] X.env=[(false,eval b X.env)]:=by rfl) :
  PI X tg (.Call (.Name "range" p) [a,b] [] pos) (bl4 ta):=by
 intro pins s σ H R I h
 refine Call_ (ad2 I hg hm boot_range (PyProof.Rows.callWith_type1 (thn (ha pos pins s σ H _ I h) λus s1 ⟨vs,H1,I1,r1,q1⟩=>?_) (by rw [hs,hs2]) (by rw [hs2];rfl)))
 obtain ⟨i,j,e,⟨q1,q2,q3,q4⟩,q⟩:=q1
 subst e
 cases r1 with
 | cons r rr =>
  cases rr with
  | cons r' rr =>
   cases rr
   obtain ⟨t,rfl⟩:=r
   obtain ⟨t',rfl⟩:=r'
   exact call_range_2 (aK4 I1 q1 q2 q3 q4 q)
def bO1 (wi:TI) (g:TG) (tb:TS):TS:=λD σ H=>wi σ H λJ H1 => ∃ W:Nat->Nat->St->Hp->Prop,(∃ m,W 0 m σ H1)/\∀ i m σ H,W i m σ H ->
 (J.stop i H/\D.nx σ H) \/ (J.go i H/\∃ N:St->Hp->Prop,(∀ σ' H',N σ' H'->∃ m',m'<m/\W (i+1) m' σ' H')/\∀ x H',J.yld i H x H'->g x σ H' λσ2 H2=>tb { D with nx:=N,ct:=N,bk:=D.nx } σ2 H2)
def aE9 (fp:List Addr) (h:Heap):List (Addr × Obj):=fp.filterMap λb=>(h.get? b).map λo=>(b,o)
theorem t5 {fp:List Addr} {h:Heap} {b:Addr} {o:Obj} (hb:b ∈ fp) (e:h.get? b=some o):(b,o) ∈ aE9 fp h:=m0k.mpr ⟨b,hb,by rw [e];rfl⟩
theorem ba8 {fp:List Addr} {h:Heap} {p:Addr × Obj} (hp:p ∈ aE9 fp h):p.1 ∈ fp/\h.get? p.1=some p.2:=by
 obtain ⟨b,hb,e⟩:=m0k.mp hp
 cases q:h.get? b with
 | none=>rw [q] at e;cases e
 | some o =>
  rw [q] at e
  have e':(b,o)=p:=Option.some.inj e
  subst e'
  exact ⟨hb,q⟩
theorem Inv.pinned {pins:List (Addr × Obj)} {σ:St} {H:Hp} {s:Shared} {fp:List Addr} (I:Inv X pins σ H s) (hf:∀ b ∈ fp,N1 X pins H b) (ho:∀ b ∈ fp,∃ o,s.heap.get? b=some o/\∀ v,o.data ≠ .cell v):Inv X (pins ++ aE9 fp s.heap) σ H s :=
 I.pins_of λp hp=>(q0t.mp hp).elim (λz=>I.pin p (q0h _ z)) λz=>by
  obtain ⟨hb,e⟩:=ba8 z
  obtain ⟨f0,f1,f2,_⟩:=hf p.1 hb
  obtain ⟨o,e',d⟩:=ho p.1 hb
  rw [e] at e';cases e'
  exact ⟨e,f0,f1,f2,d⟩
theorem Inv.unpinned {pins pl:List (Addr × Obj)} {σ:St} {H:Hp} {s:Shared} (I:Inv X (pins ++ pl) σ H s):Inv X pins σ H s:=I.pins_of λp hp=>I.pin p (q0h _ (v0a _ hp))
theorem K3 {iter:Expr} {body:List Stmt} {wi:TI} {g:TG} {tb:TS} {pos:Pos} (hp:PassesOwn (model X.prog X.w) X.A X.env X.xe) (hc:X.calm=true) (hi:PI X tg iter wi) (hg:PG X tg g) (hb:PSs X body tb)
  (hs:∀ x,foldedSetIterable iter X.env x=pure x:=by intro _;rfl):PS X (.For tg iter body [] pos) (bO1 wi g tb):=by
 intro pins s σ H D I h
 refine wpAny_For (thn (hi pins s σ H _ I h) λv s1 h1=>thn h1 λitv s2 h2=>?_) hs
 obtain ⟨it,fp,tn,J,H2,e,I2,T,st2,f2,W,⟨m0,w0⟩,turn⟩:=h2
 subst e
 -- what stays true of the iterator's objects through the loop
 have stat:∀ {H':Hp},(∀ b ∈ fp,H' b=none)->∀ b ∈ fp,N1 X pins H' b:=λhn b hb=>⟨hn b hb,(f2 b hb).2⟩
 refine codeAny_forLoop_any (λn s' => ∃ i σ' H',Inv X pins σ' H' s'/\tn i s'.heap/\(∀ b ∈ fp,H' b=none)/\W i n σ' H') ?_ m0 ⟨0,σ,H2,I2,st2,λb hb=>(f2 b hb).1,w0⟩
 rintro n s3 ⟨i,σ3,H3,I3,st3,fr3,w3⟩
 rcases turn i n σ3 H3 w3 with ⟨stop,qn⟩ | ⟨go,N,hN,step⟩
 ·refine wpAny_passesOwn hp (thn (T.done X rfl rfl rfl hc i pins s3 σ3 H3 X.xe I3 (stat fr3) st3 stop) λr s4 ⟨hr,I4⟩=>?_)
  subst hr
  exact wpAny_execs_nil ⟨σ3,H3,I4,qn⟩
 ·refine wpAny_passesOwn hp (thn (T.item X rfl rfl rfl hc i pins s3 σ3 H3 X.xe I3 (stat fr3) st3 go) λr s4 ⟨u,hr,h4⟩=>?_)
  subst hr
  refine wpAny_passesOwn hp (thn h4 λ_ s5 ⟨x,H5,I5,r5,y5,st5,fr5⟩=>?_)
  have I5':=I5.pinned (stat fr5) (T.obj _ _ st5)
  refine wpAny_passesOwn hp (thn (hg _ s5 σ3 H5 x u _ I5' r5 (step x H5 y5)) λ_ s6 ⟨σ6,H6,I6,q6⟩=>?_)
  refine wpAny_passesOwn hp (thn (hb _ s6 σ6 H6 _ I6 q6) λf s7 q7=>?_)
  have again:∀ {σ7:St} {H7:Hp},Inv X (pins ++ aE9 fp s5.heap) σ7 H7 s7->N σ7 H7->∃ m,m<n/\∃ i σ' H',Inv X pins σ' H' s7/\tn i s7.heap/\(∀ b ∈ fp,H' b=none)/\W i m σ' H':=fun {σ7 H7} I7 n7=>by
   obtain ⟨m',hm,w7⟩:=hN σ7 H7 n7
   refine ⟨m',hm,i+1,σ7,H7,I7.unpinned,T.keep _ _ _ st5 λb hb o e=>(I7.pin (b,o) (q0h _ (q0h _ (t5 hb e)))).1,λb hb=>?_,w7⟩
   obtain ⟨o,e,d⟩:=T.obj _ _ st5 b hb
   exact (I7.pin (b,o) (q0h _ (q0h _ (t5 hb e)))).2.1
  cases f with
  | next=>obtain ⟨σ7,H7,I7,n7⟩:=q7;exact again I7 n7
  | cont=>obtain ⟨σ7,H7,I7,n7⟩:=q7;exact again I7 n7
  | brk=>obtain ⟨σ7,H7,I7,q7⟩:=q7;exact ⟨σ7,H7,I7.unpinned,q7⟩
  | ret v=>obtain ⟨x7,σ7,H7,I7,r7,q7⟩:=q7;exact ⟨x7,σ7,H7,I7.unpinned,r7,q7⟩
end
theorem au6 {K:q0a} {a:Addr} {xs:List V} {g:TG} {tb:TS} {D:aa7} {σ:St} {H:Hp} (Pv:Nat->St->Hp->Prop) (h0:Pv 0 σ H) (hl:∀ i σ H,i<=xs.length->Pv i σ H->SqL K H a xs)
  (hs:∀ i x σ H,xs[i]? = some x->Pv i σ H->g x σ H λσ2 H2=>tb { D with nx:=Pv (i+1),ct:=Pv (i+1),bk:=D.nx } σ2 H2) (hd:∀ σ H,Pv xs.length σ H->D.nx σ H) :
  ∃ W:Nat->Nat->St->Hp->Prop,(∃ m,W 0 m σ H)/\∀ i m σ H,W i m σ H ->
   ((Itl K a).stop i H/\D.nx σ H) \/ ((Itl K a).go i H/\∃ N:St->Hp->Prop,(∀ σ' H',N σ' H'->∃ m',m'<m/\W (i+1) m' σ' H')/\∀ x H',(Itl K a).yld i H x H'->g x σ H' λσ2 H2=>tb { D with nx:=N,ct:=N,bk:=D.nx } σ2 H2):=by
 refine ⟨λi m σ H=>m=xs.length-i/\i<=xs.length/\Pv i σ H,⟨xs.length,by simp,j0g _,h0⟩,?_⟩
 rintro i m σ H ⟨rfl,hi,p⟩
 have q:=hl i σ H hi p
 by_cases hlt:i<xs.length
 ·refine .inr ⟨⟨xs,xs[i],q,by simp [hlt]⟩,Pv (i+1),λσ' H' p'=>⟨xs.length-(i+1),⋯,rfl,hlt,p'⟩,λx H' y=>?_⟩
  obtain ⟨e,y⟩:=y
  subst e
  exact hs i x σ _ (y xs q) p
 ·have e:i=xs.length:=by lia
  subst e
  exact .inl ⟨⟨xs,q,q0q _⟩,hd σ H p⟩
theorem U8 {lo:Int} {n:Nat} {g:TG} {tb:TS} {D:aa7} {σ:St} {H:Hp} (Pv:Nat->St->Hp->Prop) (h0:Pv 0 σ H)
  (hs:∀ i σ H,i<n->Pv i σ H->g (.int (lo+i)) σ H λσ2 H2=>tb { D with nx:=Pv (i+1),ct:=Pv (i+1),bk:=D.nx } σ2 H2) (hd:∀ σ H,Pv n σ H->D.nx σ H) :
  ∃ W:Nat->Nat->St->Hp->Prop,(∃ m,W 0 m σ H)/\∀ i m σ H,W i m σ H ->
   ((Itr lo n).stop i H/\D.nx σ H) \/ ((Itr lo n).go i H/\∃ N:St->Hp->Prop,(∀ σ' H',N σ' H'->∃ m',m'<m/\W (i+1) m' σ' H')/\∀ x H',(Itr lo n).yld i H x H'->g x σ H' λσ2 H2=>tb { D with nx:=N,ct:=N,bk:=D.nx } σ2 H2):=by
 refine ⟨λi m σ H=>m=n-i/\i<=n/\Pv i σ H,⟨n,by simp,j0g _,h0⟩,?_⟩
 rintro i m σ H ⟨rfl,hi,p⟩
 by_cases hlt:i<n
 ·refine .inr ⟨hlt,Pv (i+1),λσ' H' p'=>⟨n-(i+1),⋯,rfl,hlt,p'⟩,λx H' y=>?_⟩
  obtain ⟨e,y⟩:=y
  subst e y
  exact hs i σ _ hlt p
 ·have e:i=n:=by lia
  subst e
  exact .inl ⟨q0q _,hd σ H p⟩
theorem aJ1 {c:TT} {tb:TS} {D:aa7} {σ:St} {H:Hp} (Pv:St->Hp->Prop) (μ:St->Hp->Nat) (h0:Pv σ H)
  (hs:∀ σ H,Pv σ H->c σ H λb H1=>if b=true then tb { D with nx:=λσ' H'=>Pv σ' H'/\μ σ' H'<μ σ H,ct:=λσ' H'=>Pv σ' H'/\μ σ' H'<μ σ H,bk:=D.nx } σ H1 else D.nx σ H1)
  (mono:∀ σ H Q Q',(∀ b H1,Q b H1->Q' b H1)->c σ H Q->c σ H Q'):ak5 c tb D σ H:=by
 refine ⟨λm σ H=>m=μ σ H/\Pv σ H,⟨_,rfl,h0⟩,?_⟩
 rintro m σ H ⟨rfl,p⟩
 refine mono σ H _ _ (λb H1 q=>?_) (hs σ H p)
 cases b with
 | true=>exact ⟨_,λσ' H' ⟨p',l⟩=>⟨_,l,rfl,p'⟩,q⟩
 | false=>exact q
abbrev R2:=V->V->Hp->VK->Prop
def OpR (X:Cx) (f:Value->Value->Sem Value) (r:R2):Prop :=
 ∀ (pins:List (Addr × Obj)) (s:Shared) (σ:St) (H:Hp) (x y:V) (v u:Value) (Q:VK),Inv X pins σ H s->x8 x v->x8 y u->r x y H Q ->
  wpAny (model X.prog X.w) X.A (f v u) (EP X pins σ Q) X.xe s
def UnR (X:Cx) (f:Value->Sem Value) (r:V->Hp->VK->Prop):Prop :=
 ∀ (pins:List (Addr × Obj)) (s:Shared) (σ:St) (H:Hp) (x:V) (v:Value) (Q:VK),Inv X pins σ H s->x8 x v->r x H Q ->
  wpAny (model X.prog X.w) X.A (f v) (EP X pins σ Q) X.xe s
def ae3 (X:Cx) (f:Value) (r:List V->Hp->VK->Prop):Prop :=
 ∀ (pins:List (Addr × Obj)) (s:Shared) (σ:St) (H:Hp) (xs:List V) (us:List Value) (Q:VK),Inv X pins σ H s->n5 xs us->r xs H Q ->
  wpAny (model X.prog X.w) X.A (call f us) (EP X pins σ Q) X.xe s
def bP8 (X:Cx) (r:V->Hp->(Bool->Hp->Prop)->Prop):Prop :=
 ∀ (pins:List (Addr × Obj)) (s:Shared) (σ:St) (H:Hp) (x:V) (v:Value) (Q:Bool->Hp->Prop),Inv X pins σ H s->x8 x v->r x H Q ->
  wpAny (model X.prog X.w) X.A (truthy v) (TP X pins σ Q) X.xe s
def tOp (r:R2) (ta tb:TE):TE:=λσ H Q=>ta σ H λx H1=>tb σ H1 λy H2=>r x y H2 Q
def tUn (r:V->Hp->VK->Prop) (ta:TE):TE:=λσ H Q=>ta σ H λx H1=>r x H1 Q
def rI (C:Int->Int->Prop) (g:Int->Int->V):R2:=λx y H Q => ∃ i j,x=.int i/\y=.int j/\C i j/\Q (g i j) H
def rI0 (g:Int->Int->V):R2:=λx y H Q => ∃ i j,x=.int i/\y=.int j/\Q (g i j) H
def rU (g:Int->V):V->Hp->VK->Prop:=λx H Q => ∃ i,x=.int i/\Q (g i) H
section
variable {X:Cx} {a b c:Expr} {ta tb tc:TE} {pos:Pos}
theorem bJ6 (ha:PE X a ta) (hb:PE X b tb) {pins:List (Addr × Obj)} {s:Shared} {σ:St} {H:Hp} {R:V->V->Hp->Prop} (I:Inv X pins σ H s)
  (h:ta σ H λx H1=>tb σ H1 λy H2=>R x y H2) {Q:Value->Shared->Prop} {f:Value->Value->Sem Value}
  (hf:∀ v u s2 x y H2,Inv X pins σ H2 s2->x8 x v->x8 y u->R x y H2->wpAny (model X.prog X.w) X.A (f v u) Q X.xe s2) :
  wpAny (model X.prog X.w) X.A (eval a X.env) (λv s₁=>wpAny (model X.prog X.w) X.A (eval b X.env) (λu s₂=>wpAny (model X.prog X.w) X.A (f v u) Q X.xe s₂) X.xe s₁) X.xe s:=by
 refine thn (ha pins s σ H _ I h) λv s1 ⟨x,H1,I1,r1,q1⟩=>?_
 refine thn (hb pins s1 σ H1 _ I1 q1) λu s2 ⟨y,H2,I2,r2,q2⟩=>?_
 exact hf v u s2 x y H2 I2 r1 r2 q2
theorem d7 {op:Operator} {r:R2} (ho:OpR X (binaryOp op) r) (ha:PE X a ta) (hb:PE X b tb):PE X (.BinOp a op b pos) (tOp r ta tb):=by
 intro pins s σ H Q I h
 exact wpAny_BinOp (bJ6 ha hb I h λv u s2 x y H2 I2 rx ry q=>ho pins s2 σ H2 x y v u Q I2 rx ry q)
theorem G4 {op:UnaryOp} {r:V->Hp->VK->Prop} (ho:UnR X (unaryOp op) r) (ha:PE X a ta):PE X (.UnaryOp op a pos) (tUn r ta):=by
 intro pins s σ H Q I h
 exact UnaryOp_ (thn (ha pins s σ H _ I h) λv s1 ⟨x,H1,I1,r1,q1⟩=>ho pins s1 σ H1 x v Q I1 r1 q1)
theorem opI {f:Value->Value->Sem Value} {C:Int->Int->Prop} {g:Int->Int->Int}
  (rule:∀ (i j:Int) (t u:Tok) (s:Shared) (Q:Value->Shared->Prop) (E:Value->Shared->Prop),C i j->Q (.int (g i j) s.toks) { s with toks:=s.toks+1 }->wpAny (model X.prog X.w) X.A (f (.int i t) (.int j u)) Q E s) :
  OpR X f (rI C λi j=>.int (g i j)):=by
 intro pins s σ H x y v u Q I rx ry h
 obtain ⟨i,j,rfl,rfl,hc,q⟩:=h
 obtain ⟨t,rfl⟩:=rx
 obtain ⟨t',rfl⟩:=ry
 exact rule i j t t' s _ _ hc ⟨.int (g i j),H,I.tok _,⟨_,rfl⟩,q⟩
theorem bE6 {f:Value->Value->Sem Value} {g:Int->Int->Int}
  (rule:∀ (i j:Int) (t u:Tok) (s:Shared) (Q:Value->Shared->Prop) (E:Value->Shared->Prop),Q (.int (g i j) s.toks) { s with toks:=s.toks+1 }->wpAny (model X.prog X.w) X.A (f (.int i t) (.int j u)) Q E s) :
  OpR X f (rI0 λi j=>.int (g i j)):=by
 intro pins s σ H x y v u Q I rx ry h
 obtain ⟨i,j,rfl,rfl,q⟩:=h
 obtain ⟨t,rfl⟩:=rx
 obtain ⟨t',rfl⟩:=ry
 exact rule i j t t' s _ _ ⟨.int (g i j),H,I.tok _,⟨_,rfl⟩,q⟩
theorem bt7 {f:Value->Value->Sem Value} {g:Int->Int->Bool}
  (rule:∀ (i j:Int) (t u:Tok) (s:Shared) (Q:Value->Shared->Prop) (E:Value->Shared->Prop),Q (.bool (g i j)) s->wpAny (model X.prog X.w) X.A (f (.int i t) (.int j u)) Q E s) :
  OpR X f (rI0 λi j=>.bl (g i j)):=by
 intro pins s σ H x y v u Q I rx ry h
 obtain ⟨i,j,rfl,rfl,q⟩:=h
 obtain ⟨t,rfl⟩:=rx
 obtain ⟨t',rfl⟩:=ry
 exact rule i j t t' s _ _ ⟨.bl (g i j),H,I,rfl,q⟩
def bN7 (i j:Int):Prop:=0<=j/\j<=1000000/\i.natAbs<2 ^ 64
theorem C9:OpR X (binaryOp .Add) (rI0 λi j=>.int (i+j)):=bE6 λ_ _ _ _ _ _ _ q=>add_int q
theorem F6:OpR X (binaryOp .Sub) (rI0 λi j=>.int (i-j)):=bE6 λ_ _ _ _ _ _ _ q=>sub_int q
theorem M3:OpR X (binaryOp .Mod) (rI (λ_ j=>j ≠ 0) λi j=>.int (i.fmod j)):=opI λ_ _ _ _ _ _ _ hc q=>mod_int' hc q
theorem ac6:OpR X (binaryOp .Pow) (rI bN7 λi j=>.int (i ^ j.toNat)):=opI λ_ _ _ _ _ _ _ hc q=>pow_int_small hc.1 hc.2.1 hc.2.2 q
theorem bE3:OpR X (binaryOp .LShift) (rI bN7 λi j=>.int (i*2 ^ j.toNat)):=opI λ_ _ _ _ _ _ _ hc q=>lshift_int_small hc.1 hc.2.1 hc.2.2 q
theorem bE5:OpR X (binaryOp .BitAnd) (rI0 λi j=>.int (Builtin.bitAnd i j)):=bE6 λ_ _ _ _ _ _ _ q=>and_int q
theorem unI {f:Value->Sem Value} {g:Int->Int}
  (rule:∀ (i:Int) (t:Tok) (s:Shared) (Q:Value->Shared->Prop) (E:Value->Shared->Prop),Q (.int (g i) s.toks) { s with toks:=s.toks+1 }->wpAny (model X.prog X.w) X.A (f (.int i t)) Q E s) :
  UnR X f (rU λi=>.int (g i)):=by
 intro pins s σ H x v Q I rx h
 obtain ⟨i,rfl,q⟩:=h
 obtain ⟨t,rfl⟩:=rx
 exact rule i t s _ _ ⟨.int (g i),H,I.tok _,⟨_,rfl⟩,q⟩
theorem B6:UnR X (unaryOp .USub) (rU λi=>.int (-i)):=unI λ_ _ _ _ _ q=>neg_int q
def aP2:V->V->Bool
 | .non,.non=>true | .non,.int _=>true | .int _,.non=>true | .non,.bl _=>true | .bl _,.non=>true | .non,.str _=>true | .str _,.non=>true
 | .int _,.int _=>true | .bl _,.bl _=>true | .str _,.str _=>true | .byt _,.byt _=>true
 | .int _,.str _=>true | .str _,.int _=>true | .bl _,.str _=>true | .str _,.bl _=>true
 | _,_=>false
def rEq:R2:=λx y H Q=>aP2 x y=true/\Q (.bl (decide (x=y))) H
def rNe:R2:=λx y H Q=>aP2 x y=true/\Q (.bl (!decide (x=y))) H
theorem aX6 {i j:Int}:decide (V.int i=V.int j)=(i == j):=by
 rw [g0u]
 simp
theorem bo1 {i j:Bool}:decide (V.bl i=V.bl j)=(i == j):=by
 rw [g0u]
 simp
theorem aX5 {i j:Str}:decide (V.str i=V.str j)=(i == j):=by
 rw [g0u]
 simp
theorem aX7 {i j:Array UInt8}:decide (V.byt i=V.byt j)=(i.toList == j.toList):=by
 rw [g0u]
 cases i
 cases j
 simp
theorem v8 {pins:List (Addr × Obj)} {σ:St} {H:Hp} {s:Shared} {Q:VK} {k k':Bool} (I:Inv X pins σ H s) (q:Q (.bl k) H) (e:k=k'):EP X pins σ Q (.bool k') s:=by
 subst e
 exact ⟨.bl k,H,I,rfl,q⟩
theorem Z4:OpR X (compareOp .Eq) rEq:=by
 intro pins s σ H x y v u Q I rx ry h
 obtain ⟨hs,q⟩:=h
 cases x with
 | non =>
  cases rx
  cases y with
  | non=>cases ry;exact PySem.EqNone.eq_none_none (v8 I q (by simp))
  | bl j=>cases ry;exact PySem.EqNone.eq_none_bool (v8 I q (by simp))
  | int j=>obtain ⟨t',rfl⟩:=ry;exact PySem.EqNone.eq_none_int (v8 I q (by simp))
  | str j=>obtain ⟨t',rfl⟩:=ry;exact PySem.EqNone.eq_none_str (v8 I q (by simp))
  | _=>exact absurd (show false=true from hs) q0z
 | bl i =>
  cases rx
  cases y with
  | non=>cases ry;exact PySem.EqNone.eq_bool_none (v8 I q (by simp))
  | bl j=>cases ry;exact eq_bool (v8 I q bo1)
  | str j=>obtain ⟨t',rfl⟩:=ry;exact PySem.EqMixed.eq_bool_str (v8 I q (by simp))
  | _=>exact absurd (show false=true from hs) q0z
 | int i =>
  obtain ⟨t,rfl⟩:=rx
  cases y with
  | non=>cases ry;exact PySem.EqNone.eq_int_none (v8 I q (by simp))
  | int j=>obtain ⟨t',rfl⟩:=ry;exact eq_int (v8 I q aX6)
  | str j=>obtain ⟨t',rfl⟩:=ry;exact PySem.EqMixed.eq_int_str (v8 I q (by simp))
  | _=>exact absurd (show false=true from hs) q0z
 | str i =>
  obtain ⟨t,rfl⟩:=rx
  cases y with
  | non=>cases ry;exact PySem.EqNone.eq_str_none (v8 I q (by simp))
  | bl j=>cases ry;exact PySem.EqMixed.eq_str_bool (v8 I q (by simp))
  | int j=>obtain ⟨t',rfl⟩:=ry;exact PySem.EqMixed.eq_str_int (v8 I q (by simp))
  | str j=>obtain ⟨t',rfl⟩:=ry;exact eq_str (v8 I q aX5)
  | _=>exact absurd (show false=true from hs) q0z
 | byt i =>
  obtain ⟨t,rfl⟩:=rx
  cases y with
  | byt j=>obtain ⟨t',rfl⟩:=ry;exact PySem.W.eq_bytes (v8 I q aX7)
  | _=>exact absurd (show false=true from hs) q0z
 | _=>cases y <;> exact absurd (show false=true from hs) q0z
theorem aA3:OpR X (compareOp .NotEq) rNe:=by
 intro pins s σ H x y v u Q I rx ry h
 obtain ⟨hs,q⟩:=h
 cases x with
 | non =>
  cases rx
  cases y with
  | non=>cases ry;exact PySem.EqNone.ne_none_none (v8 I q (by simp))
  | bl j=>cases ry;exact PySem.EqNone.ne_none_bool (v8 I q (by simp))
  | int j=>obtain ⟨t',rfl⟩:=ry;exact PySem.EqNone.ne_none_int (v8 I q (by simp))
  | str j=>obtain ⟨t',rfl⟩:=ry;exact PySem.EqNone.ne_none_str (v8 I q (by simp))
  | _=>exact absurd (show false=true from hs) q0z
 | bl i =>
  cases rx
  cases y with
  | non=>cases ry;exact PySem.EqNone.ne_bool_none (v8 I q (by simp))
  | bl j=>cases ry;exact ne_bool (v8 I q (congrArg not bo1))
  | str j=>obtain ⟨t',rfl⟩:=ry;exact PySem.EqMixed.ne_bool_str (v8 I q (by simp))
  | _=>exact absurd (show false=true from hs) q0z
 | int i =>
  obtain ⟨t,rfl⟩:=rx
  cases y with
  | non=>cases ry;exact PySem.EqNone.ne_int_none (v8 I q (by simp))
  | int j=>obtain ⟨t',rfl⟩:=ry;exact ne_int (v8 I q (congrArg not aX6))
  | str j=>obtain ⟨t',rfl⟩:=ry;exact PySem.EqMixed.ne_int_str (v8 I q (by simp))
  | _=>exact absurd (show false=true from hs) q0z
 | str i =>
  obtain ⟨t,rfl⟩:=rx
  cases y with
  | non=>cases ry;exact PySem.EqNone.ne_str_none (v8 I q (by simp))
  | bl j=>cases ry;exact PySem.EqMixed.ne_str_bool (v8 I q (by simp))
  | int j=>obtain ⟨t',rfl⟩:=ry;exact PySem.EqMixed.ne_str_int (v8 I q (by simp))
  | str j=>obtain ⟨t',rfl⟩:=ry;exact ne_str (v8 I q (congrArg not aX5))
  | _=>exact absurd (show false=true from hs) q0z
 | byt i =>
  obtain ⟨t,rfl⟩:=rx
  cases y with
  | byt j=>obtain ⟨t',rfl⟩:=ry;exact PySem.W.ne_bytes (v8 I q (congrArg not aX7))
  | _=>exact absurd (show false=true from hs) q0z
 | _=>cases y <;> exact absurd (show false=true from hs) q0z
theorem ag5:OpR X (compareOp .Lt) (rI0 λi j=>.bl (decide (i<j))):=bt7 λ_ _ _ _ _ _ _ q=>lt_int q
theorem by5:OpR X (compareOp .LtE) (rI0 λi j=>.bl (decide (i<=j))):=bt7 λ_ _ _ _ _ _ _ q=>le_int q
theorem ag6:OpR X (compareOp .Gt) (rI0 λi j=>.bl (decide (j<i))):=bt7 λ_ _ _ _ _ _ _ q=>gt_int q
theorem by6:OpR X (compareOp .GtE) (rI0 λi j=>.bl (decide (j<=i))):=bt7 λ_ _ _ _ _ _ _ q=>ge_int q
theorem aV7:OpR X (compareOp .IsNot) (λx y H Q=>y=.non/\Q (.bl (!decide (x=.non))) H):=by
 intro pins s σ H x y v u Q I rx ry h
 obtain ⟨rfl,q⟩:=h
 cases ry
 refine isnot_none_gen (v8 I q ?_)
 cases x <;> first
  | (cases rx;rfl)
  | (obtain ⟨t,rfl⟩:=rx;rfl)
theorem j7 (b:Expr) {op:CmpOp} (h:op ≠ .In:=by decide) (h2:op ≠ .NotIn:=by decide):behindInMarks op b=false:=by
 have e1:(op == CmpOp.In)=false:=by cases op <;> first | rfl | exact absurd rfl h
 have e2:(op == CmpOp.NotIn)=false:=by cases op <;> first | rfl | exact absurd rfl h2
 cases b <;> simp [behindInMarks,e1,e2]
theorem Y0 {op:CmpOp} {r:R2} (ho:OpR X (compareOp op) r) (ha:PE X a ta) (hb:PE X b tb) (hm:behindInMarks op b=false):PE X (.Compare a [op] [b] pos) (tOp r ta tb):=by
 intro pins s σ H Q I h
 exact wpAny_Compare1 (bJ6 ha hb I h λv u s2 x y H2 I2 rx ry q=>ho pins s2 σ H2 x y v u Q I2 rx ry q) hm
def aJ4 (t:TE):TT:=λσ H Q=>t σ H λx H' => ∃ k,x=.bl k/\Q k H'
theorem j3 {op:CmpOp} {r:R2} (ho:OpR X (compareOp op) r) (ha:PE X a ta) (hb:PE X b tb) (hm:behindInMarks op b=false):PT X (.Compare a [op] [b] pos) (aJ4 (tOp r ta tb)):=by
 intro pins s σ H Q I h
 refine wpAny_isTrue_Compare1 (thn (ha pins s σ H _ I h) λv s1 ⟨x,H1,I1,r1,q1⟩=>thn (hb pins s1 σ H1 _ I1 q1) λu s2 ⟨y,H2,I2,r2,q2⟩ =>
  thn (ho pins s2 σ H2 x y v u _ I2 r1 r2 q2) λc s3 ⟨z,H3,I3,r3,k,e,q3⟩=>?_) hm
 subst e
 cases r3
 exact wpAny_truthy_bool ⟨H3,I3,q3⟩
def aO6 (r r':R2) (ta tb tc:TE):TE:=λσ H Q=>ta σ H λx H1=>tb σ H1 λy H2=>r x y H2 λz H3 => ∃ k,z=.bl k /\
 (if k=true then tc σ H3 λw' H4=>r' y w' H4 Q else Q (.bl false) H3)
theorem bh0 {op op':CmpOp} {r r':R2} (ho:OpR X (compareOp op) r) (ho':OpR X (compareOp op') r') (ha:PE X a ta) (hb:PE X b tb) (hc:PE X c tc)
  (hm:lastMarks [op,op'] [b,c]=false:=by with_unfolding_all rfl):PT X (.Compare a [op,op'] [b,c] pos) (aJ4 (aO6 r r' ta tb tc)):=by
 intro pins s σ H Q I h
 refine isTrue_chain (thn (ha pins s σ H _ I h) λv s1 ⟨x,H1,I1,r1,q1⟩=>test_link (thn (hb pins s1 σ H1 _ I1 q1) λu s2 ⟨y,H2,I2,r2,q2⟩ =>
  thn (ho pins s2 σ H2 x y v u _ I2 r1 r2 q2) λd s3 ⟨z,H3,I3,r3,k,e,q3⟩=>?_)) hm
 subst e
 cases r3
 refine wpAny_truthy_bool ?_
 cases k with
 | false =>
  obtain ⟨k',e',q'⟩:=q3
  cases e'
  exact ite_ff ⟨H3,I3,q'⟩
 | true =>
  refine ite_tt (test_last (thn (hc pins s3 σ H3 _ I3 q3) λw' s4 ⟨z',H4,I4,r4,q4⟩=>thn (ho' pins s4 σ H4 y z' u w' _ I4 r2 r4 q4) λd' s5 ⟨z2,H5,I5,r5,k2,e2,q5⟩=>?_))
  subst e2
  cases r5
  exact wpAny_truthy_bool ⟨H5,I5,q5⟩
def ax9 (K:q0a) (x:V) (H:Hp) (k:Bool):Prop :=
 match x with
 | .non=>k=false
 | .bl b=>k=b
 | .int i=>k=(i != 0)
 | .str y=>y.length<=sizeLine/\k=((y.length:Int) != 0)
 | .byt y=>y.size<=sizeLine/\k=((y.size:Int) != 0)
 | .ref p=>(∃ xs,SqL K H p xs/\k = !xs.isEmpty) \/ (∃ xs,SqT K H p xs/\k = !xs.isEmpty) \/ ∃ kvs,H p=some (.dK kvs)/\k = !kvs.isEmpty
 | _=>False
theorem aR1 {κ:Type} {kvs:List (κ × V)} {vs:List (κ × Value)} (r:KV kvs vs):(!vs.isEmpty) = !kvs.isEmpty:=by
 cases r <;> rfl
theorem au3 {xs:List V} {its:List Value} (r:n5 xs its):(!its.toArray.isEmpty) = !xs.isEmpty:=by
 cases r <;> simp
theorem ah6:(sizeLine:Nat)<2 ^ 63:=by rw [sizeLine_eq];decide
theorem be4:bP8 X (λx H Q => ∃ k,ax9 X.K x H k/\Q k H):=by
 intro pins s σ H x v Q I rx h
 obtain ⟨k,e,q⟩:=h
 have hl:=ah6
 have hs:sizeLine=16777216:=sizeLine_eq
 cases x with
 | non =>
  cases rx
  have e':k=false:=e
  subst e'
  exact truthy_none ⟨H,I,q⟩
 | bl b =>
  cases rx
  have e':k=b:=e
  subst e'
  exact wpAny_truthy_bool ⟨H,I,q⟩
 | int i =>
  obtain ⟨t,rfl⟩:=rx
  have e':k=(i != 0):=e
  subst e'
  exact PySem.P.truthy_int ⟨H,I,q⟩
 | str y =>
  obtain ⟨t,rfl⟩:=rx
  obtain ⟨hy,e'⟩:y.length<=sizeLine/\k=((y.length:Int) != 0):=e
  subst e'
  exact PySem.P.truthy_str (by lia) ⟨H,I.tok _,q⟩
 | byt y =>
  obtain ⟨t,rfl⟩:=rx
  obtain ⟨hy,e'⟩:y.size<=sizeLine/\k=((y.size:Int) != 0):=e
  subst e'
  exact PySem.W.truthy_bytes (by lia) ⟨H,I.tok _,q⟩
 | ref p =>
  cases rx
  have e':(∃ xs,SqL X.K H p xs/\k = !xs.isEmpty) \/ (∃ xs,SqT X.K H p xs/\k = !xs.isEmpty) \/ ∃ kvs,H p=some (.dK kvs)/\k = !kvs.isEmpty:=e
  rcases e' with ⟨xs,hx,e'⟩ | ⟨xs,hx,e'⟩ | ⟨kvs,hx,e'⟩
  ·subst e'
   obtain ⟨its,r,pl,hz⟩:=I.list hx
   have hlen:=r.length
   exact wpAny_truthy_list pl.isList (by simp only [q0u];lia) ⟨H,I.tok _,by rw [au3 r];exact q⟩
  ·subst e'
   obtain ⟨its,r,pl,hz⟩:=I.tuple hx
   have hlen:=r.length
   exact truthy_tuple pl (by simp only [q0u];omega) ⟨H,I.tok _,by rw [au3 r];exact q⟩
  ·subst e'
   obtain ⟨hz,hS,vs,r,m⟩:kvs.length<=sizeLine/\(p == sysModules)=false/\∃ vs,KV kvs vs/\s.heap.DictOf (aG6 X.prog X.w) p vs:=I.hok p _ hx
   have hlen:kvs.length=vs.length:=Paired.length r
   exact wpAny_truthy_dict hS m (by lia) ⟨H,I.tok _,by rw [aR1 r];exact q⟩
 | _=>exact (show False from e).elim
theorem Z2 (ha:PE X a ta) (he:∀ whole,isTrue a X.env whole=(do let v <- whole;standAt a.pos;holding [v] (truthy v))) :
  PT X a (λσ H Q=>ta σ H λx H' => ∃ k,ax9 X.K x H' k/\Q k H'):=by
 intro pins s σ H Q I h
 exact isTrue_plain (thn (ha pins s σ H _ I h) λv s1 ⟨x,H1,I1,r1,q1⟩=>be4 pins s1 σ H1 x v Q I1 r1 q1) (he _)
theorem an2 {x:V} {us:List Value} (r:n5 [x] us):∃ u,us=[u]/\x8 x u:=by
 cases r with
 | cons r1 r2=>cases r2;exact ⟨_,rfl,r1⟩
theorem bx7 {x y:V} {us:List Value} (r:n5 [x,y] us):∃ u w',us=[u,w']/\x8 x u/\x8 y w':=by
 cases r with
 | cons r1 r2 =>
  cases r2 with
  | cons r3 r4=>cases r4;exact ⟨_,_,rfl,r1,r3⟩
theorem V8:ae3 X (.builtin "abs") (λxs H Q => ∃ i,xs=[.int i]/\Q (.int (if i<0 then -i else i)) H):=by
 intro pins s σ H xs us Q I r h
 obtain ⟨i,rfl,q⟩:=h
 obtain ⟨u,rfl,t,rfl⟩:=an2 r
 exact call_abs_int λu tk=>⟨.int (if i<0 then -i else i),H,I.tok _,⟨_,rfl⟩,q⟩
theorem am6 (hc:X.calm=true):ae3 X (.builtin "max") (λxs H Q => ∃ i j,xs=[.int i,.int j]/\Q (.int (if j > i then j else i)) H):=by
 intro pins s σ H xs us Q I r h
 obtain ⟨i,j,rfl,q⟩:=h
 obtain ⟨u,w',rfl,⟨t,rfl⟩,⟨t',rfl⟩⟩:=bx7 r
 refine max_two_ints (I.ok.hd hc) λh' tk k=>⟨_,H,I.kept k,?_,q⟩
 by_cases hj:j > i
 ·rw [if_pos hj,if_pos hj];exact ⟨_,rfl⟩
 ·rw [if_neg hj,if_neg hj];exact ⟨_,rfl⟩
theorem bc8 (hc:X.calm=true):ae3 X (.builtin "min") (λxs H Q => ∃ i j,xs=[.int i,.int j]/\Q (.int (if j<i then j else i)) H):=by
 intro pins s σ H xs us Q I r h
 obtain ⟨i,j,rfl,q⟩:=h
 obtain ⟨u,w',rfl,⟨t,rfl⟩,⟨t',rfl⟩⟩:=bx7 r
 refine min_two_ints (I.ok.hd hc) λh' tk k=>⟨_,H,I.kept k,?_,q⟩
 by_cases hj:j<i
 ·rw [if_pos hj,if_pos hj];exact ⟨_,rfl⟩
 ·rw [if_neg hj,if_neg hj];exact ⟨_,rfl⟩
theorem am7:ae3 X (.type "int") (λxs H Q=>(∃ i,xs=[.int i]/\Q (.int i) H) \/ ∃ k,xs=[.bl k]/\Q (.int (if k then 1 else 0)) H):=by
 intro pins s σ H xs us Q I r h
 rcases h with ⟨i,rfl,q⟩ | ⟨k,rfl,q⟩
 ·obtain ⟨u,rfl,t,rfl⟩:=an2 r
  exact call_int_int ⟨.int i,H,I,⟨_,rfl⟩,q⟩
 ·obtain ⟨u,rfl,r1⟩:=an2 r
  cases r1
  exact call_int_bool ⟨.int (if k then 1 else 0),H,I.tok _,⟨_,rfl⟩,q⟩
end
structure bK2 (h:Heap) (x dx C:Addr) (mA:Str->Option Value):Prop where
 obj:h.get? x=some (q1p C dx)
 ns:h.Ns1 dx mA
 ne:dx ≠ x
theorem ba9 {h:Heap} {dx:Addr} {mA:Str->Option Value} (n:h.Ns1 dx mA):∃ od,h.get? dx=some od/\∀ name,z1a name od=some (mA name):=by
 obtain ⟨o,es,ep,ho,hd,hk,_,hm⟩:=n
 refine ⟨o,ho,λname=>?_⟩
 have e:=hm name
 unfold nsFind findBy at e
 rw [<- Array.find?_toList] at e
 unfold z1a
 rw [hd]
 dsimp only
 split
 ·rename_i y q
  rw [q] at e
  exact congrArg some e
 ·rename_i q
  rw [q] at e
  have a:es.toList.any (·.refKey)=false:=by
   rw [List.any_eq_false]
   intro y hy
   obtain ⟨z,t,hkey⟩:=hk y (Array.mem_toList_iff.mp hy)
   simp [DictEntry.refKey,hkey]
  have a':¬ es.toList.any (·.refKey)=true:=by rw [a];exact q0z
  rw [if_neg a']
  exact congrArg some e
theorem bK2.look {h:Heap} {x dx C:Addr} {mA:Str->Option Value} (I:bK2 h x dx C mA):∃ od,PySem.W.InstAt h x (q1p C dx) C (some od)/\∀ name,z1a name od=some (mA name) :=
 let ⟨od,ho,hl⟩:=ba9 I.ns
 ⟨od,⟨I.obj,rfl,rfl,ho⟩,hl⟩
section
variable {P:Program} {w:World} {H H':Hp} {h h':Heap} {a C dx:Addr} {fs fs':List (Str × V)}
theorem bu6 (hok:HOk P w H h) (e:H a=some (.ins C dx fs)):∃ mA,bK2 h a dx C mA/\(∀ f,bJ8 (fs.lookup f) (mA f))/\PySem.Within mA (fs.map (·.1))/\fs.length<=1000/\H dx=some (.own a):=by
 obtain ⟨d,z,ne,ob,mA,n,r,q⟩:=(show E9 P w H h a (.ins C dx fs) from hok a _ e)
 exact ⟨mA,⟨ob,n,ne⟩,r,q,z,d⟩
end
structure Cls (K:q0a) (C:Addr):Prop where
 pg:PySem.W.plainGet K C Str.empty=true
 hd:PySem.W.hasDictIn K C=true
 po:PySem.W.plainOver K C=true
 sa:g0b K (.ref C) "__setattr__" = some (some (.builtin "object.__setattr__"))
theorem Cls.get {K:q0a} {C:Addr} (c:Cls K C) (f:Str):PySem.W.plainGet K C f=true:=c.pg
structure Con (K:q0a) (C:Addr) (f:Str) (v:V) (u:Value):Prop where
 at_:g0b K (.ref C) f=some (some u)
 rel:x8 v u
 get:PySem.W.specialIn K u "__get__" = some none
 cp:PySem.W.copiedNames.contains f=false
structure Meth (K:q0a) (C:Addr) (m:Str) (f:Addr):Prop where
 at_:g0b K (.ref C) m=some (some (.ref f))
 fn:PySem.W.isFn K (.ref f)=true
 kp:y0x K (.ref f)=true
section
variable {X:Cx} {pins:List (Addr × Obj)} {σ:St} {H:Hp} {s:Shared} {A:Around} {E:Value->Shared->Prop} {Q:Value->Shared->Prop} {c:Value} {b:Bool}
inductive an0 (K:q0a) (H:Hp):V->Value->Prop where
 | non:an0 K H .non (.type "NoneType")
 | bl (x:Bool):an0 K H (.bl x) (.type "bool")
 | int (i:Int):an0 K H (.int i) (.type "int")
 | str (x:Str):an0 K H (.str x) (.type "str")
 | flt (x:UInt64):an0 K H (.flt x) (.type "float")
 | lst {a:Addr} {xs:List V} (e:H a=some (.lst xs)):an0 K H (.ref a) (.type "list")
 | frz {a:Addr} {o:Obj} {xs:List V} (e:H a=some (.frz o (.lst xs))):an0 K H (.ref a) (.type "list")
 | tup {a:Addr} {xs:List V} (e:H a=some (.tup xs)):an0 K H (.ref a) (.type "tuple")
 | dK {a:Addr} {kvs:List (Key × V)} (e:H a=some (.dK kvs)):an0 K H (.ref a) (.type "dict")
 | dT {a:Addr} {kvs:List (List Key × V)} (e:H a=some (.dT kvs)):an0 K H (.ref a) (.type "dict")
 | ins {a C dx:Addr} {fs:List (Str × V)} (e:H a=some (.ins C dx fs)) (cl:Cls K C) (ha:g0b K (.ref C) "__class__" = some (some (.builtin "object.__class__")))
   (hn:PySem.W.specialIn K (.builtin "object.__class__") "__get__" = some (some (.builtin "getset_descriptor.__get__"))) (htk:PySem.W.takesIn K (.builtin "object.__class__")=some true)
   (hm:PySem.W.mroIn K C (.type "object")=some true):an0 K H (.ref a) (.ref C)
theorem bb2 {x:V} {u t:Value} (I:Inv X pins σ H s) (rx:x8 x u) (ty:an0 X.K H x t) (e:z0q X.K t c=some b) (h:∀ tk,Q (.bool b) { s with toks:=tk }) :
  wpAny (model X.prog X.w) A (call (.builtin "isinstance") [u,c]) Q E s:=by
 cases ty with
 | non=>cases (show u=Value.none from rx);exact y0n PySem.W.kitx_none I.kIn True.intro e (λz=>nomatch z) h
 | bl y=>cases (show u=Value.bool y from rx);exact y0n PySem.W.kitx_bool I.kIn True.intro e (λz=>nomatch z) h
 | int i=>obtain ⟨t,q⟩:=(show ∃ t,u=Value.int i t from rx);cases q;exact y0n PySem.W.kitx_int I.kIn True.intro e (λz=>nomatch z) h
 | str y=>obtain ⟨t,q⟩:=(show ∃ t,u=Value.str y t from rx);cases q;exact y0n PySem.W.kitx_str I.kIn True.intro e (λz=>nomatch z) h
 | flt y=>obtain ⟨t,q⟩:=(show ∃ t,u=Value.float y t from rx);cases q;exact y0n PySem.W.kitx_float I.kIn True.intro e (λz=>nomatch z) h
 | @lst a xs ea =>
  cases (show u=Value.ref a from rx)
  obtain ⟨_,_,n,_,h1⟩:=(show E9 X.prog X.w H s.heap a (.lst xs) from I.hok a _ ea)
  exact y0n PySem.W.kitx_list I.kIn ⟨_,h1,rfl⟩ e (λz=>nomatch z) h
 | @frz a ob xs ea =>
  cases (show u=Value.ref a from rx)
  obtain ⟨_,_,_,n,_,h1⟩:=(show E9 X.prog X.w H s.heap a (.frz ob (.lst xs)) from I.hok a _ ea)
  exact y0n PySem.W.kitx_list I.kIn ⟨_,h1,rfl⟩ e (λz=>nomatch z) h
 | @tup a xs ea =>
  cases (show u=Value.ref a from rx)
  obtain ⟨_,_,_,p⟩:=(show E9 X.prog X.w H s.heap a (.tup xs) from I.hok a _ ea)
  obtain ⟨o,h1,h2,_⟩:=p
  exact y0n PySem.W.kitx_tuple I.kIn ⟨o,h1,h2⟩ e (λz=>nomatch z) h
 | @dK a kvs ea =>
  cases (show u=Value.ref a from rx)
  obtain ⟨_,_,vs,_,p⟩:=(show E9 X.prog X.w H s.heap a (.dK kvs) from I.hok a _ ea)
  obtain ⟨o,es,ep,h1,h2,_⟩:=p
  exact y0n PySem.W.kitx_dict I.kIn ⟨o,h1,h2.1⟩ e (λz=>nomatch z) h
 | @dT a kvs ea =>
  cases (show u=Value.ref a from rx)
  obtain ⟨_,_,xs,_,o,es,ep,h1,h2,_⟩:=(show E9 X.prog X.w H s.heap a (.dT kvs) from I.hok a _ ea)
  exact y0n PySem.W.kitx_dict I.kIn ⟨o,h1,h2.1⟩ e (λz=>nomatch z) h
 | @ins a C dx fs ea cl ha hn htk hm =>
  cases (show u=Value.ref a from rx)
  obtain ⟨mA,O,_⟩:=bu6 I.hok ea
  obtain ⟨od,J,_⟩:=O.look
  exact y0n (PySem.W.kitx_own (cl.get _) cl.hd ha hn htk hm) I.kIn J e (λz=>nomatch z) h
end
structure V9 (k:Nat) (A:Around):Prop where
 hd:A.handled=none
 dp:A.depth+3*k+5<recursionLimit
 un:A.units+16*k+200<cLine
theorem V9.mono {j k:Nat} {A:Around} (r:V9 k A) (h:j<=k):V9 j A:=⟨r.hd,by have:=r.dp;lia,by have:=r.un;lia⟩
theorem V9.deeper {k:Nat} {A:Around} (r:V9 (k+1) A) (env:Env):V9 k (A.deeper env) :=
 ⟨r.hd,by have:=r.dp;show A.depth+1+3*k+5<_;lia,by have:=r.un;show A.units+3+16*k+200<_;lia⟩
theorem V9.depth {k:Nat} {A:Around} (r:V9 k A):A.depth<recursionLimit:=by have:=r.dp;lia
theorem V9.units {k:Nat} {A:Around} (r:V9 k A):A.units+64<cLine:=by have:=r.un;lia
def aZ4:TA:=λ_ H Q=>Q [] H
def ar1 (ta:TE) (tr:TA):TA:=λσ H Q=>ta σ H λx H1=>tr σ H1 λxs H2=>Q (x :: xs) H2
section
variable {X:Cx} {e:Expr} {es:List Expr} {te:TE} {t:TA} {pos:Pos}
theorem a9:PA X [] aZ4:=λ_ _ _ _ H Q I h=>Calls.spliced_nil ⟨[],H,I,.nil,h⟩
theorem a7 (ha:PE X e te) (hr:PA X es t) (hs:starEach (e :: es) X.env=(false,eval e X.env) :: starEach es X.env:=by rfl):PA X (e :: es) (ar1 te t):=by
 intro pos pins s σ H Q I h
 rw [hs]
 show wpAny _ _ (spliced ((false,eval e X.env) :: backTo pos (starEach es X.env))) _ _ s
 refine Calls.spliced_cons (thn (ha pins s σ H _ I h) λu s1 ⟨x,H1,I1,r1,q1⟩=>?_)
 exact thn (hr pos pins s1 σ H1 _ I1 q1) λus s2 ⟨xs,H2,I2,r2,q2⟩=>⟨x :: xs,H2,I2,.cons r1 r2,q2⟩
def bB0 (t:TA):TE:=λσ H Q=>t σ H λxs H1=>xs.length<=sizeLine/\∀ p,H1 p=none->Q (.ref p) (upd H1 p (.tup xs))
def bB3 (t:TA):TE:=λσ H Q=>t σ H λxs H1=>xs.length<=sizeLine/\∀ p,H1 p=none->Q (.ref p) (upd H1 p (.lst xs))
theorem q8 {x1} (h:PA X es t):PE X (.Tuple es x1 pos) (bB0 t):=by
 intro pins s σ H Q I hq
 refine wpAny_Tuple_spliced (thn (h pos pins s σ H _ I hq) λus s1 ⟨xs,H1,I1,r,z,q⟩=>⟨by rw [<- r.length];exact z,?_⟩)
 have hf:H1 s1.heap.objs.size=none:=I1.hok.fresh (q0q _)
 refine ⟨.ref s1.heap.objs.size,upd H1 s1.heap.objs.size (.tup xs),I1.laid (t':=s1.toks) (λb u e=>q0y _ e) (q0q _) ?_,rfl,q _ hf⟩
 exact ⟨z,us,r,⟨_,j0b _ rfl,rfl,_,rfl⟩⟩
theorem z8 (h:PA X es t):PE X (.List es pos) (bB3 t):=by
 intro pins s σ H Q I hq
 refine wpAny_List_spliced (thn (h pos pins s σ H _ I hq) λus s1 ⟨xs,H1,I1,r,z,q⟩=>⟨by rw [<- r.length];exact z,?_⟩)
 have hf:H1 s1.heap.objs.size=none:=I1.hok.fresh (q0q _)
 refine ⟨.ref s1.heap.objs.size,upd H1 s1.heap.objs.size (.lst xs),I1.laid (t':=s1.toks) (λb u e=>q0y _ e) (q0q _) ?_,rfl,q _ hf⟩
 exact ⟨z,us,0,r,j0b _ rfl⟩
end
abbrev Sp:=List V->Hp->VK->XK->Prop
abbrev CXT:=List Env->Hp->Shared->XK->Value->Shared->Prop
structure bd4 (P:Program) (w:World) (K:q0a) (mg:Str->Option Value) (base:Heap) (A:Around) (outer:List Env) (s:Shared) (H:Hp):Prop where
 frames:A.frames=some outer
 mod:Mod K mg base
 bs:∀ b o,base.get? b=some o->s.heap.get? b=some o/\H b=none
 bsz:base.objs.size<=s.heap.objs.size
 funs:s.heap.FunFrames base outer
 frf:∀ b ∈ frs outer,H b=none
 hok:HOk P w H s.heap
 bare:AllBare s.gens
def CE (outer:List Env) (P:Program) (w:World) (H:Hp) (s:Shared) (Q:VK) (u:Value) (s':Shared):Prop :=
 ∃ v H',s'.os=s.os/\AllBare s'.gens/\Un (frs outer) [] H H' s.heap s'.heap/\HOk P w H' s'.heap/\x8 v u/\Q v H'
def CR (CX:CXT) (outer:List Env) (P:Program) (w:World) (H:Hp) (s:Shared) (Q:VK) (E:XK) (r:Result) (s':Shared):Prop :=
 match r with
 | .ok (.ret u)=>CE outer P w H s Q u s'
 | .ok _=>False
 | .error e=>CX outer H s E e s'
structure ak3 (P:Program) (w:World) (K:q0a) (mg:Str->Option Value) (base:Heap) (CX:CXT) (k:Nat) (f:Addr) (fd:FuncData) (ps:List Str) (sp:Sp):Prop where
 len:∀ vs H Q E,sp vs H Q E->vs.length=ps.length
 run:∀ (A:Around) (outer:List Env) (s:Shared) (H:Hp) (args:Args) (us:List Value) (vs:List V) (Q:VK) (E:XK),V9 k A->bd4 P w K mg base A outer s H->BindsTo s fd args (ps.zip us)->n5 vs us->sp vs H Q E ->
  codeAny (model P w) A (.call (.ref f) args) (CR CX outer P w H s Q E) s
theorem ak3.mono {P:Program} {w:World} {K:q0a} {mg:Str->Option Value} {base:Heap} {CX:CXT} {j k:Nat} {f:Addr} {fd:FuncData} {ps:List Str} {sp:Sp} (F:ak3 P w K mg base CX j f fd ps sp) (h:j<=k) :
  ak3 P w K mg base CX k f fd ps sp:=⟨F.len,λA outer s H args us vs Q E hr=>F.run A outer s H args us vs Q E (hr.mono h)⟩
section
variable {X:Cx} {pins:List (Addr × Obj)} {σ:St} {H:Hp} {s s':Shared}
theorem Inv.env0 (I:Inv X pins σ H s):bd4 X.prog X.w X.K X.mg X.base X.A X.stack s H :=
 ⟨I.ok.frames,I.ok.mod,I.bs,z0v I.ok.bsz I.sz,I.stack,I.stkFree,I.hok,I.bare⟩
theorem Inv.after {Q:VK} {u:Value} (I:Inv X pins σ H s) (h:CE X.stack X.prog X.w H s Q u s'):EP X pins σ Q u s':=by
 obtain ⟨v,H',os,bare,un,hok,r,q⟩:=h
 obtain ⟨hh,g,d,t,os'⟩:=s'
 obtain rfl:os'=s.os:=os
 exact ⟨v,H',I.call (h':=hh) (g':=g) (d':=d) (t':=t) (ch:=[]) un hok bare (λb z=>absurd z (by simp)),r,q⟩
end
def bx9 (sp:Sp) (dvs:List V) (E:XK) (t:TA):TE:=λσ H Q=>t σ H λvs H1=>sp (vs ++ dvs) H1 Q E
def ae4 (K:q0a) (fd:FuncData) (ps:List Str) (ds:List Value):Prop :=
 ∀ (s:Shared) (us:List Value),K.In s.heap->(us ++ ds).length=ps.length->BindsTo s fd ⟨us,[]⟩ (ps.zip (us ++ ds))
theorem ae4.all {K:q0a} {fd:FuncData} {ps:List Str} (h:∀ us:List Value,us.length=ps.length->bindArgs fd ⟨us,[]⟩=pure (ps.zip us)):ae4 K fd ps []:=λs us _ hl=>by
 rw [u0s] at hl ⊢
 exact .of_eq (h us hl)
def av9 (CX:CXT) (X:Cx) (E:XK):Prop:=∀ (pins:List (Addr × Obj)) (σ:St) (H:Hp) (s:Shared) (e:Value) (s':Shared),Inv X pins σ H s->CX X.stack H s E e s'->X.xe e s'
section
variable {X:Cx} {CX:CXT} {k:Nat} {f C:Addr} {fd:FuncData} {ps:List Str} {sp:Sp} {dvs:List V} {ds:List Value} {E:XK} {x m:Str} {p pos apos:Pos} {e o:Expr} {es:List Expr} {ta:TE} {t:TA}
theorem bC4 {pins:List (Addr × Obj)} {σ:St} {H:Hp} {s:Shared} {Q:VK} {us:List Value} {vs:List V} (F:ak3 X.prog X.w X.K X.mg X.base CX k f fd ps sp) (hr:V9 k X.A) (hb:ae4 X.K fd ps ds) (hd:n5 dvs ds) (hx:av9 CX X E)
  (I:Inv X pins σ H s) (r:n5 vs us) (h:sp (vs ++ dvs) H Q E):wpAny (model X.prog X.w) X.A (call (.ref f) us) (EP X pins σ Q) X.xe s:=by
 have r2:n5 (vs ++ dvs) (us ++ ds):=r.append hd
 have hl:(us ++ ds).length=ps.length:=by rw [<- r2.length];exact F.len _ _ _ _ h
 refine wpAny_call (codeAny_mono (F.run X.A X.stack s H ⟨us,[]⟩ (us ++ ds) (vs ++ dvs) Q E hr I.env0 (hb s us I.kIn hl) r2 h) λr s' hq=>?_)
 cases r with
 | error e=>exact hx pins σ H s e s' I hq
 | ok fl =>
  cases fl with
  | ret u=>exact I.after hq
  | next=>exact False.elim hq
  | brk=>exact False.elim hq
  | cont=>exact False.elim hq
theorem bt5 (F:ak3 X.prog X.w X.K X.mg X.base CX k f fd ps sp) (hr:V9 k X.A) (hg:Gl X x) (hm:X.mg x=some (.ref f)) (hk:y0x X.K (.ref f)=true) (hb:ae4 X.K fd ps ds) (hd:n5 dvs ds) (hx:av9 CX X E)
  (ha:PA X (e :: es) t) (hdb:(x == ("__debug__" : Str))=false:=by decide) (he:starEach (e :: es) X.env=(false,eval e X.env) :: starEach es X.env:=by rfl) (hpl:(backTo pos (starEach es X.env)).any (·.1)=false:=by rfl) :
  PE X (.Call (.Name x p) (e :: es) [] pos) (bx9 sp dvs E t):=by
 intro pins s σ H Q I h
 refine wpAny_Call_Name_kw (aj4 I hg hm ?_ hdb)
 refine PySem.W.callWith_K (h₀:=X.base) I.ok.mod.kin hk (thn (ha pos pins s σ H _ I h) λus s1 ⟨vs,H1,I1,r,q⟩=>⟨I1.kIn,?_⟩) he hpl
 exact bC4 F hr hb hd hx I1 r q
structure Mk (K:q0a) (C f:Addr):Prop where
 makes:PySem.W.makesIn K C=true
 init:g0b K (.ref C) "__init__" = some (some (.ref f))
 fn:PySem.W.isFn K (.ref f)=true
 kp:y0x K (.ref C)=true
end
section
variable {X:Cx} {CX:CXT} {k:Nat} {f C:Addr} {fd:FuncData} {ps ks:List Str} {sp:Sp} {E:XK} {x m:Str} {p pos apos kpos:Pos} {e o:Expr} {es:List Expr} {kws:List Keyword} {te ta:TE} {t tk:TA} {nm:Option Str}
structure KBinds (K:q0a) (fd:FuncData) (ps ks:List Str) (g:List Value->List Value->List Value) (gV:List V->List V->List V):Prop where
 to:∀ (s:Shared) (us ws:List Value),K.In s.heap->(g us ws).length=ps.length->BindsTo s fd ⟨us,ks.zip ws⟩ (ps.zip (g us ws))
 rel:∀ {vs:List V} {us:List Value} {zs:List V} {ws:List Value},n5 vs us->n5 zs ws->n5 (gV vs zs) (g us ws)
variable {g:List Value->List Value->List Value} {gV:List V->List V->List V}
end
structure i7 (N P:List Str) (sc:Scope):Prop where
 kind:sc.kind=.function
 co:sc.isCoroutine=false
 gen:sc.isGenerator=false
 nd:N.Nodup
 pre:N.take P.length=P
 par:∀ x ∈ P,sc.names.lookup x=some .local \/ sc.names.lookup x=some .cell
 nofree:∀ y ∈ sc.names,y.2 ≠ .free
theorem aB6 {kindOf:Str->Option NameKind} {x:Str}:∀ {binds:List (Str × Value)} {m:Str->Option Value},(∀ v,(x,v) ∉ binds)->bindL kindOf binds m x=m x
 | [],_,_=>rfl
 | (n,v) :: r,m,h=>by
  unfold bindL
  rw [aB6 λw hw=>h w (q0b _ hw)]
  split
  ·have:x ≠ n:=by rintro rfl;exact h v q0c
   simp [this]
  ·rfl
theorem aB8 {kindOf:Str->Option NameKind} {x:Str}:∀ {binds:List (Str × Value)} {m:Str->Option Value},(∀ v,(x,v) ∉ binds)->bindC kindOf binds m x=m x
 | [],_,_=>rfl
 | (n,v) :: r,m,h=>by
  unfold bindC
  rw [aB8 λw hw=>h w (q0b _ hw)]
  split
  ·rfl
  ·have:x ≠ n:=by rintro rfl;exact h v q0c
   simp [this]
theorem aB7 {kindOf:Str->Option NameKind} {x:Str} {v:Value}:∀ {P:List Str} {vs:List Value} {i:Nat} {m:Str->Option Value},P.Nodup->P[i]? = some x->vs[i]? = some v->kindOf x=some .local ->
  bindL kindOf (P.zip vs) m x=some v
 | [],_,_,_,_,h,_,_=>by simp at h
 | _ :: _,[],_,_,_,_,h,_=>by simp at h
 | p :: P,w :: vs,0,m,nd,h1,h2,hk=>by
  simp at h1 h2;subst h1;subst h2
  show bindL kindOf ((p,w) :: P.zip vs) m p=_
  unfold bindL
  rw [aB6 λv hv=>(j0r.mp nd).1 (g0v hv).1,if_pos hk]
  simp
 | p :: P,w :: vs,i+1,m,nd,h1,h2,hk=>by
  show bindL kindOf ((p,w) :: P.zip vs) m x=_
  unfold bindL
  exact aB7 (i:=i) (j0r.mp nd).2 (by simpa using h1) (by simpa using h2) hk
theorem aB9 {kindOf:Str->Option NameKind} {x:Str} {v:Value}:∀ {P:List Str} {vs:List Value} {i:Nat} {m:Str->Option Value},P.Nodup->P[i]? = some x->vs[i]? = some v->kindOf x ≠ some .local ->
  bindC kindOf (P.zip vs) m x=some v
 | [],_,_,_,_,h,_,_=>by simp at h
 | _ :: _,[],_,_,_,_,h,_=>by simp at h
 | p :: P,w :: vs,0,m,nd,h1,h2,hk=>by
  simp at h1 h2;subst h1;subst h2
  show bindC kindOf ((p,w) :: P.zip vs) m p=_
  unfold bindC
  rw [aB8 λv hv=>(j0r.mp nd).1 (g0v hv).1,if_neg hk]
  simp
 | p :: P,w :: vs,i+1,m,nd,h1,h2,hk=>by
  show bindC kindOf ((p,w) :: P.zip vs) m x=_
  unfold bindC
  exact aB9 (i:=i) (j0r.mp nd).2 (by simpa using h1) (by simpa using h2) hk
def start (N:List Str) (vs:List V):St:=vs.map some ++ z0e (N.length-vs.length) none
def ap5 (CX:CXT) (P:Program) (w:World) (K:q0a) (mg:Str->Option Value) (base:Heap) (N:List Str) (qual:Str) (scope:Scope) (f:Addr) (cd:Value) (A:Around) (outer:List Env) (s:Shared) (H:Hp) (E:XK):Cx where
 prog:=P
 w:=w
 K:=K
 mg:=mg
 base:=base
 A:=A.deeper (envOfC qual scope s.heap.objs.size f cd)
 N:=N
 s₀:=s
 H₀:=H
 env:=envOfC qual scope s.heap.objs.size f cd
 outer:=outer
 stack:=envOfC qual scope s.heap.objs.size f cd :: outer
 ex:=[]
 calm:=true
 fn:=λ_=>true
 pn:=[]
 xe:=λe s'=>wpAny (model P w) (A.deeper (envOfC qual scope s.heap.objs.size f cd)) (leaving (envOfC qual scope s.heap.objs.size f cd) e) (λ_ s''=>CX outer H s E e s'') (λe' s''=>CX outer H s E e' s'') s'
theorem aN4 {sc:Scope} {n:Nat} {x:Str} (h:sc.names.lookup x=some .cell):∃ c,(cellsFrom n sc.names []).lookup x=some c:=by
 have q:=g0h sc.names n [] (.inl h)
 exact u0u.mp q
theorem aA7 {CX:CXT} {P:Program} {w:World} {K:q0a} {mg:Str->Option Value} {base:Heap} {N ps:List Str} {qual:Str} {scope:Scope} {f:Addr} {cd:Value} {A:Around} {outer:List Env} {s s1:Shared} {H:Hp} {E:XK} {us:List Value} {vs:List V}
  (S:i7 N ps scope) (hd:A.handled=none) (e0:bd4 P w K mg base A outer s H) (hl:vs.length=ps.length) (r:n5 vs us)
  (x:InCallC s s.heap.objs.size (bindL (envOfC qual scope s.heap.objs.size f cd).kindOf (ps.zip us) λ_=>none) (cellsFrom (s.heap.objs.size+1) scope.names []) (bindC (envOfC qual scope s.heap.objs.size f cd).kindOf (ps.zip us) λ_=>none) s1) :
  Inv (ap5 CX P w K mg base N qual scope f cd A outer s H E) [] (start N vs) H s1:=by
 have hpl:ps.length<=N.length:=by have:=congrArg List.length S.pre;rw [j0j] at this;lia
 obtain ⟨h1,tk,rfl,hk⟩:=x.done
 have noA:∀ b:Addr,b ∉ (ap5 CX P w K mg base N qual scope f cd A outer s H E).ex:=λb z=>absurd (show b ∈ ([]:List Addr) from z) (by simp)
 refine ⟨⟨e0.mod,S.kind,rfl,rfl,q0q _,λy z c h1 h2=>?_,λy hy=>?_,λy c _ h=>?_,λ_=>hd,Around.frames_deeper e0.frames,.inr ⟨rfl,rfl⟩,λb z=>absurd z (noA b),e0.bs,e0.bsz,λb _ _=>noA b,λb z=>absurd z (noA b),e0.funs,e0.frf⟩,
  rfl,e0.bare,Un.kept hk,⟨_,x.toInCall.ns,λi y v h1 h2 h3=>?_⟩,λy c h=>⟨_,x.cell y c h⟩,e0.hok.fresh (q0q _),λy c h=>?_,λp hp=>absurd (show p ∈ ([]:List (Addr × Obj)) from hp) (by simp),e0.hok.kept hk,?_⟩
 ·exact name_of_addr x.apart (PySem.mem_of_lookup h1) (PySem.mem_of_lookup h2)
 ·have hy:scope.names.lookup y=some .cell \/ scope.names.lookup y=some .free:=hy
  rcases hy with hy | hy
  ·exact aN4 hy
  ·exact absurd rfl (S.nofree _ (PySem.mem_of_lookup hy))
 ·exact y0p (x.above y c (PySem.mem_of_lookup h))
 ·have hi:i<vs.length:=by
   unfold start at h2
   by_cases hi:i<vs.length
   ·exact hi
   ·rw [j0v (by simpa using hi)] at h2
    rw [v0y] at h2
    split at h2 <;> cases h2
  have ha:vs[i]? = some v:=by
   unfold start at h2
   rw [z0h (by simpa using hi),q0r] at h2
   cases e:vs[i]? with
   | none=>rw [e] at h2;cases h2
   | some a=>rw [e] at h2;cases h2;rfl
  obtain ⟨u,hu,rv⟩:=r.get ha
  have hp:ps[i]? = some y:=by
   rw [<- S.pre,m0z (by lia)];exact h1
  have ndP:ps.Nodup:=by rw [<- S.pre];exact S.nd.sublist (List.take_sublist _ _)
  refine ⟨u,rv,?_⟩
  rcases S.par y (q0p hp) with k | k
  ·exact .inl ⟨k,aB7 ndP hp hu k⟩
  ·obtain ⟨c,e⟩:=aN4 (n:=s.heap.objs.size+1) k
   refine .inr ⟨.inl k,c,e,?_⟩
   have q:=x.cell y c e
   rw [aB9 ndP hp hu (by show scope.names.lookup y ≠ _;rw [k];decide)] at q
   exact q
 ·exact e0.hok.fresh (y0p (x.above y c (PySem.mem_of_lookup h)))
 ·unfold start
  show _=N.length
  rw [z0g,q0e,v0m]
  lia
theorem bz6 {CX:CXT} {P:Program} {w:World} {K:q0a} {mg:Str->Option Value} {base:Heap} {k:Nat} {f:Addr} {name qual:Str} {params:Arguments} {body:List Stmt} {scope:Scope} {dV kV doc pm cdv ct oc:Value} {an od:Option Addr}
  {osl:Array (Option Value)} {N ps:List Str} {sp:Sp} (lk:K.lookup f=some ⟨oc,od,.func (v0t name qual params body scope dV kV doc pm an cdv ct),osl⟩) (hcd:z1b K cdv qual=true) (S:i7 N ps scope)
  (len:∀ vs H Q E,sp vs H Q E->vs.length=ps.length)
  (hbody:∀ (A:Around) (outer:List Env) (s:Shared) (H:Hp) (vs:List V) (Q:VK) (E:XK),V9 k (A.deeper (envOfC qual scope s.heap.objs.size f cdv))->sp vs H Q E ->
   ∃ t,PSs (ap5 CX P w K mg base N qual scope f cdv A outer s H E) body t/\t { nx:=λ_ H'=>Q .non H',rt:=Q } (start N vs) H) :
  ak3 P w K mg base CX (k+1) f (v0t name qual params body scope dV kV doc pm an cdv ct) ps sp:=by
 refine ⟨len,λA outer s H args us vs Q E hr e0 hb r hsp=>?_⟩
 have hl:=len _ _ _ _ hsp
 have KX:K.In s.heap:=e0.mod.kin.keeps λb o e=>(e0.bs b o e).1
 have lim:s.heap.NoLimit:=e0.mod.nolimit.keeps λb o e=>(e0.bs b o e).1
 have hkind:∀ y ∈ ps.zip us,scope.names.lookup y.1=some .local \/ (scope.names.lookup y.1=some .cell/\((cellsFrom (s.heap.objs.size+1) scope.names []).lookup y.1).isSome=true):=λ⟨n,v⟩ hy=>by
  rcases S.par n (g0v hy).1 with q | q
  ·exact .inl q
  ·exact .inr ⟨q,g0h _ _ _ (.inl q)⟩
 refine codeAny_call_function hr.depth (KX _ _ lk) rfl S.co S.gen rfl (PySem.W.codeRec_of KX hcd) (hb _ _ _ _ ?_)
 refine wpAny_newFunctionEnv_cells S.kind hkind λenv he s1 x=>?_
 subst he
 refine ⟨lim.keeps x.toInCall.keep,codeAny_func ?_⟩
 obtain ⟨t,ht,hq⟩:=hbody A outer s H vs Q E (hr.deeper _) hsp
 have I:Inv (ap5 CX P w K mg base N qual scope f cdv A outer s H E) [] (start N vs) H s1:=aA7 S hr.hd e0 hl r x
 refine wpAny_mono (ht [] s1 (start N vs) H _ I hq) (λfl s' hs=>?_) λe s' hs=>hs
 have fin:∀ {σ':St} {H':Hp} {v:V} {u:Value},Inv (ap5 CX P w K mg base N qual scope f cdv A outer s H E) [] σ' H' s'->x8 v u->Q v H'->CE outer P w H s Q u s' :=
  fun {σ' H' v u} J rv q=>⟨v,H',J.os,J.bare,J.base,J.hok,rv,q⟩
 cases fl with
 | ret u =>
  obtain ⟨v,σ',H',J,rv,q⟩:=hs
  exact fin J rv q
 | next =>
  obtain ⟨σ',H',J,q⟩:=hs
  exact fin (v:=V.non) (u:=Value.none) J rfl q
 | brk =>
  obtain ⟨_,_,_,q⟩:=hs
  exact False.elim q
 | cont =>
  obtain ⟨_,_,_,q⟩:=hs
  exact False.elim q
section
variable {X:Cx} {x:Str} {p pos:Pos} {e:Expr} {es:List Expr} {t:TA} {id T:String} {r:List V->Hp->VK->Prop}
def tCB (r:List V->Hp->VK->Prop) (t:TA):TE:=λσ H Q=>t σ H λvs H1=>r vs H1 Q
theorem d9 (hc : ae3 X (.builtin id) r) (hg : Gl X x) (hm : X.mg x = none) (hv : bootBuiltins x = some (.builtin id)) (ha : PA X (e :: es) t) (hn : x ≠ "__name__" := by decide) (hdb : (x == ("__debug__" : Str)) = false := by decide)
    (he:starEach (e :: es) X.env=(false,eval e X.env) :: starEach es X.env:=by rfl) (hpl:(backTo pos (starEach es X.env)).any (·.1)=false:=by rfl):PE X (.Call (.Name x p) (e :: es) [] pos) (tCB r t):=by
  intro pins s σ H Q I h
  refine wpAny_Call_Name_kw (ad2 I hg hm hv ?_ hn hdb)
  exact PyProof.Rows.callWith_builtin1 (thn (ha pos pins s σ H _ I h) λus s1 ⟨vs,H1,I1,r1,q1⟩=>hc pins s1 σ H1 vs us Q I1 r1 q1) he hpl
theorem K6 (hc : ae3 X (.type T) r) (hg : Gl X x) (hm : X.mg x = none) (hv : bootBuiltins x = some (.type T)) (ha : PA X (e :: es) t) (hn : x ≠ "__name__" := by decide) (hdb : (x == ("__debug__" : Str)) = false := by decide)
    (he:starEach (e :: es) X.env=(false,eval e X.env) :: starEach es X.env:=by rfl) (hpl:(backTo pos (starEach es X.env)).any (·.1)=false:=by rfl):PE X (.Call (.Name x p) (e :: es) [] pos) (tCB r t):=by
  intro pins s σ H Q I h
  refine wpAny_Call_Name_kw (ad2 I hg hm hv ?_ hn hdb)
  exact PyProof.Rows.callWith_type1 (thn (ha pos pins s σ H _ I h) λus s1 ⟨vs,H1,I1,r1,q1⟩=>hc pins s1 σ H1 vs us Q I1 r1 q1) he hpl
end
end L2
namespace HT
open PySem PyProof.Rows
section
open PySem.SeqAt
open PySem.AutoSeq1 (wpAny_loadPart')
open PySem.MeetsSeq PySem.MeetsSeq2 PySem.MeetsSeq3
end
section
variable {prog:Program} {w:World} {A:Around} {E:Value->Shared->Prop} {s:Shared}
def sIx (n d:Nat):Option Int->Nat
 | none=>d
 | some v=>if v<0 then (v+(n:Int)).toNat else min v.toNat n
end
end HT
namespace L2
open PySem PySem.Spec PyProof.Rows
abbrev TO:=St->Hp->(Option Int->Hp->Prop)->Prop
def PO (X:Cx) (e:Option Expr) (t:TO):Prop :=
 ∀ (pins:List (Addr × Obj)) (s:Shared) (σ:St) (H:Hp) (Q:Option Int->Hp->Prop),Inv X pins σ H s->t σ H Q ->
  wpAny (model X.prog X.w) X.A (evalPart e X.env) (λu s' => ∃ o H',Inv X pins σ H' s'/\IsPart u o/\Q o H') X.xe s
def aC9:TO:=λ_ H Q=>Q none H
def be6 (t:TE):TO:=λσ H Q=>t σ H λx H1 => ∃ i,x=.int i/\Q (some i) H1
section
variable {X:Cx} {e:Expr} {te:TE} {lo hi:Option Expr} {tl th:TO} {pos p2:Pos}
theorem bt3:PO X none aC9:=by
 intro pins s σ H Q I h
 rw [evalPart_none]
 exact wpAny_pure ⟨none,H,I,.none,h⟩
theorem bt2 (h:PE X e te):PO X (some e) (be6 te):=by
 intro pins s σ H Q I hw
 rw [evalPart_some]
 refine thn (h pins s σ H _ I hw) λu s1 ⟨x,H1,I1,r1,q1⟩=>?_
 obtain ⟨i,rfl,q⟩:=q1
 obtain ⟨t,rfl⟩:=r1
 exact ⟨some i,H1,I1,.int i t,q⟩
def SlR (X:Cx) (r:V->Option Int->Option Int->Hp->VK->Prop):Prop :=
 ∀ (pins:List (Addr × Obj)) (s:Shared) (σ:St) (H:Hp) (x:V) (v vl vu:Value) (lo hi:Option Int) (sl:Addr) (Q:VK),Inv X pins σ H s->x8 x v->s.heap.IsSliceOf sl vl vu .none->IsPart vl lo->IsPart vu hi->r x lo hi H Q ->
  ∃ T id,typeLookup (.type T) "__getitem__" = pure (some (.builtin id))/\s.TypeIs v T/\wpAny (model X.prog X.w) X.A (getItem v (.ref sl)) (EP X pins σ Q) X.xe s
def tSl (r:V->Option Int->Option Int->Hp->VK->Prop) (te:TE) (tl th:TO):TE:=λσ H Q=>te σ H λx H1=>tl σ H1 λl H2=>th σ H2 λu H3=>r x l u H3 Q
theorem bi1 {r:V->Option Int->Option Int->Hp->VK->Prop} (hr:SlR X r) (he:PE X e te) (hl:PO X lo tl) (hu:PO X hi th):PE X (.Subscript e (.Slice lo hi none p2) pos) (tSl r te tl th):=by
 intro pins s σ H Q I h
 refine Subscript_ (thn (he pins s σ H _ I h) λv s1 ⟨x,H1,I1,r1,q1⟩=>?_)
 refine wpAny_Slice (thn (hl pins s1 σ H1 _ I1 q1) λvl s2 ⟨l,H2,I2,pl,q2⟩=>thn (hu pins s2 σ H2 _ I2 q2) λvu s3 ⟨u,H3,I3,pu,q3⟩=>?_)
 rw [evalPart_none]
 refine wpAny_pure ?_
 have I4:Inv X pins σ H3 { s3 with heap:=s3.heap.push { cls:=.type "slice",data:=.fields #[vl,vu,.none] } }:=I3.kept (t':=s3.toks) λb ob q=>q0y _ q
 obtain ⟨T,id,hT,ht,hg⟩:=hr pins { s3 with heap:=s3.heap.push { cls:=.type "slice",data:=.fields #[vl,vu,.none] } } σ H3 x v vl vu l u s3.heap.objs.size Q I4 r1 (Heap.IsSliceOf.new ..) pl pu q3
 show wpAny (model X.prog X.w) X.A (subscriptTail e (.Slice lo hi none p2) v (.ref s3.heap.objs.size)) (EP X pins σ Q) X.xe { s3 with heap:=s3.heap.push { cls:=.type "slice",data:=.fields #[vl,vu,.none] } }
 exact tail_any (ops:=[.ref s3.heap.objs.size,v]) ht hT hg (by with_unfolding_all rfl)
def bc2 (xs:List V) (lo hi:Option Int):List V:=(xs.drop (HT.sIx xs.length 0 lo)).take (HT.sIx xs.length xs.length hi-HT.sIx xs.length 0 lo)
theorem aN2 (xs:List V) (lo hi:Option Int):(bc2 xs lo hi).length<=xs.length:=by
 unfold bc2
 rw [j0j,q1a]
 lia
end
def ixN (n:Nat) (i:Int):Option Nat:=if 0<=i then (if i<n then some i.toNat else none) else if -(n:Int)<=i then some (i+n).toNat else none
def atI {α:Type} (xs:List α) (i:Int):Option α:=(ixN xs.length i).bind λj=>xs[j]?
theorem aW3 {n:Nat} {i:Int} {j:Nat} (h:ixN n i=some j):seqIndex? i n=some j/\j<n/\-(n:Int)<=i/\i<n:=by
 unfold ixN at h
 by_cases h0:0<=i
 ·rw [if_pos h0] at h
  by_cases h1:i<n
  ·rw [if_pos h1] at h
   have e:i.toNat=j:=Option.some.inj h
   exact ⟨by rw [seqIndex_of h0 h1,e],by lia,⋯,h1⟩
  ·rw [if_neg h1] at h;cases h
 ·rw [if_neg h0] at h
  by_cases h1:-(n:Int)<=i
  ·rw [if_pos h1] at h
   have e:(i+n).toNat=j:=Option.some.inj h
   exact ⟨by rw [seqIndex_neg ⋯ h1,e],by lia,h1,by lia⟩
  ·rw [if_neg h1] at h;cases h
theorem aI5 {α:Type} {xs:List α} {i:Int} {v:α} (h:atI xs i=some v):∃ j,seqIndex? i xs.length=some j/\xs[j]? = some v/\j<xs.length/\-(xs.length:Int)<=i/\i<xs.length:=by
 unfold atI at h
 cases e:ixN xs.length i with
 | none=>rw [e] at h;cases h
 | some j =>
  rw [e] at h
  obtain ⟨h1,h2,h3,h4⟩:=aW3 e
  exact ⟨j,h1,h,h2,h3,h4⟩
theorem af6 {α:Type} {xs:List α} {j:Nat} {v:α} (h:xs[j]? = some v):atI xs (j:Int)=some v:=by
 have hj:j<xs.length:=(q0g.mp h).1
 have e:ixN xs.length (j:Int)=some j:=by
  unfold ixN
  rw [if_pos (by simp),if_pos ⋯];simp
 unfold atI;rw [e];exact h
def bx3 (b:Expr):Prop:=∀ o i,subscripted b false o i=operate [o,i] (getItem o i)
def IxR (X:Cx) (r:R2):Prop :=
 ∀ (value slice:Expr) (pins:List (Addr × Obj)) (s:Shared) (σ:St) (H:Hp) (x y:V) (v u:Value) (Q:VK),Inv X pins σ H s->x8 x v->x8 y u->r x y H Q ->
  subscripted slice false v u=operate [v,u] (getItem v u)->wpAny (model X.prog X.w) X.A (subscriptTail value slice v u) (EP X pins σ Q) X.xe s
def MtR (X:Cx) (id:String) (r:V->List V->Hp->VK->Prop):Prop :=
 ∀ (pins:List (Addr × Obj)) (s:Shared) (σ:St) (H:Hp) (x:V) (xs:List V) (v:Value) (us:List Value) (Q:VK),Inv X pins σ H s->x8 x v->n5 xs us->r x xs H Q ->
  wpAny (model X.prog X.w) X.A (call (.builtin id) (v :: us)) (EP X pins σ Q) X.xe s
section
variable {X:Cx} {a b:Expr} {ta tb:TE} {pos:Pos}
theorem j4 {r:R2} (hr:IxR X r) (ha:PE X a ta) (hb:PE X b tb) (hs:bx3 b):PE X (.Subscript a b pos) (tOp r ta tb):=by
 intro pins s σ H Q I h
 exact Subscript_ (bJ6 ha hb I h λv u s2 x y H2 I2 rx ry q=>hr a b pins s2 σ H2 x y v u Q I2 rx ry q (hs _ _))
def aE4 (K:q0a):R2:=λx y H Q => ∃ p xs i v,x=.ref p/\y=.int i/\SqL K H p xs/\atI xs i=some v/\Q v H
def bg8 (K:q0a):R2:=λx y H Q => ∃ p xs i v,x=.ref p/\y=.int i/\SqT K H p xs/\atI xs i=some v/\Q v H
theorem v1:IxR X (aE4 X.K):=by
 intro value slice pins s σ H x y v u Q I rx ry h hs
 obtain ⟨p,xs,i,z,rfl,rfl,hq,he,q⟩:=h
 cases rx
 obtain ⟨t,rfl⟩:=ry
 obtain ⟨its,r,pl,hz⟩:=I.list hq
 obtain ⟨j,h1,h2,h3,h4,h5⟩:=aI5 he
 obtain ⟨w,ew,rw'⟩:=r.get h2
 have hl:=r.length
 have hn:=ah6
 have fin:EP X pins σ Q w s:=⟨z,H,I,rw',q⟩
 by_cases h0:0<=i
 ·have hj:i.toNat=j:=by
   rw [seqIndex_of h0 h5] at h1
   exact Option.some.inj h1
  exact item_listR pl.isList h0 (by lia) (by rw [hj];simpa using ew) fin hs
 ·have hj:(i+(its.toArray.size:Int)).toNat=j:=by
   rw [seqIndex_neg (by lia) h4] at h1
   rw [q0u,<- hl]
   exact Option.some.inj h1
  exact subscriptTail_builtinR (x:=w) pl.isList.typeIs slot_list_getitem.lookup
   (wpAny_getItem_list_neg (Q:=λr s'=>r=w/\EP X pins σ Q r s') pl.isList ⋯ (by rw [q0u] <;> lia) (by lia) (by rw [hj];simpa using ew) ⟨rfl,fin⟩) hs
theorem m6:IxR X (bg8 X.K):=by
 intro value slice pins s σ H x y v u Q I rx ry h hs
 obtain ⟨p,xs,i,z,rfl,rfl,hq,he,q⟩:=h
 cases rx
 obtain ⟨t,rfl⟩:=ry
 obtain ⟨its,r,pl,hz⟩:=I.tuple hq
 obtain ⟨j,h1,h2,h3,h4,h5⟩:=aI5 he
 obtain ⟨w,ew,rw'⟩:=r.get h2
 have hl:=r.length
 have hn:=ah6
 have fin:EP X pins σ Q w s:=⟨z,H,I,rw',q⟩
 exact subscriptTail_builtinR (x:=w) pl.typeIs slot_tuple_getitem.lookup
  (getItem_tuple (j:=j) (Q:=λr s'=>r=w/\EP X pins σ Q r s') pl (by lia) (by lia) (by rw [q0u,<- hl];exact h1) (by simpa using ew) ⟨rfl,fin⟩) hs
theorem aQ8 (its:List Value) (n j:Nat) (u:Value):Obj.mapSeq (·.setIfInBounds j u) { cls:=.type "list",data:=.seq its.toArray n }={ cls:=.type "list",data:=.seq (its.set j u).toArray n }:=by
 simp [Obj.mapSeq]
theorem Inv.lst {pins:List (Addr × Obj)} {σ:St} {H:Hp} {s:Shared} {p:Addr} {xs:List V} (I:Inv X pins σ H s) (h:H p=some (.lst xs)) :
  ∃ (its:List Value) (n:Nat),n5 xs its/\s.heap.get? p=some { cls:=.type "list",data:=.seq its.toArray n }/\xs.length<=sizeLine:=by
 obtain ⟨z,its,n,r,e⟩:=I.hok p _ h
 exact ⟨its,n,r,e,z⟩
theorem Inv.lstUpd {pins:List (Addr × Obj)} {σ:St} {H:Hp} {s:Shared} {p:Addr} {xs ys:List V} {its its':List Value} {n n':Nat} {f:Obj->Obj} (I:Inv X pins σ H s) (h:H p=some (.lst xs))
  (ho:s.heap.get? p=some { cls:=.type "list",data:=.seq its.toArray n }) (hf:f { cls:=.type "list",data:=.seq its.toArray n }={ cls:=.type "list",data:=.seq its'.toArray n' }) (r:n5 ys its') (hz:ys.length<=sizeLine) (t:Nat) :
  Inv X pins σ (upd H p (.lst ys)) { s with heap:=s.heap.update p f,toks:=t }:=by
 have e:(s.heap.update p f).get? p=some { cls:=.type "list",data:=.seq its'.toArray n' }:=by
  rw [Heap.get?_update_self f ho (by rw [hf] <;> rfl),hf]
 refine I.write (x:=p) (e:=p) (by rw [h];exact trivial) (.inl rfl) (λb u hb q=>(q1w _ _ (Ne.symm hb)).trans q) ⟨_,e⟩ ?_
 exact ⟨hz,its',n',r,e⟩
def bg7:V->V->V->Hp->(Hp->Prop)->Prop:=λo i v H Q => ∃ p xs k j,o=.ref p/\i=.int k/\H p=some (.lst xs)/\ixN xs.length k=some j/\Q (upd H p (.lst (xs.set j v)))
theorem ab9:bK0 X bg7:=by
 intro pins s σ H o i v ov iv u Q I ro ri rv h
 obtain ⟨p,xs,k,j,rfl,rfl,hp,hj,q⟩:=h
 cases ro
 obtain ⟨t,rfl⟩:=ri
 obtain ⟨its,n,r,ho,hz⟩:=I.lst hp
 obtain ⟨h1,h2,h3,h4⟩:=aW3 hj
 have hl:=r.length
 have hn:=ah6
 have I':Inv X pins σ (upd H p (.lst (xs.set j v))) { s with heap:=s.heap.update p (Obj.mapSeq (·.setIfInBounds j u)) } :=
  I.lstUpd hp ho (aQ8 its n j u) (r.set rv j) (by rw [List.length_set];exact hz) s.toks
 by_cases h0:0<=k
 ·have hk:k.toNat=j:=by
   rw [seqIndex_of h0 h4] at h1
   exact Option.some.inj h1
  exact PySem.W.ki_setAt ho h0 (by lia) (by rw [q0u,<- hl];exact h4) (by rw [hk];exact ⟨_,I',q⟩)
 ·have hk:(k+(its.toArray.size:Int)).toNat=j:=by
   rw [seqIndex_neg (by lia) h3] at h1
   rw [q0u,<- hl]
   exact Option.some.inj h1
  exact PySem.W.ki_setBack ho ⋯ (by rw [q0u,<- hl];exact h3) (by lia) (by rw [hk];exact ⟨_,I',q⟩)
theorem aD8 (lo hi:Option Int) (n:Nat):(sliceBounds lo hi none n).1=((HT.sIx n 0 lo:Nat):Int)/\(sliceBounds lo hi none n).2.1=((HT.sIx n n hi:Nat):Int)/\(sliceBounds lo hi none n).2.2=1:=by
 refine ⟨?_,?_,rfl⟩
 ·cases lo with
  | none=>simp [sliceBounds,HT.sIx]
  | some i =>
   simp only [sliceBounds,HT.sIx,Option.getD_none,show (1:Int) > 0 by decide,if_true]
   by_cases h:i<0
   ·simp only [h,if_true] <;> lia
   ·simp only [h,if_false] <;> lia
 ·cases hi with
  | none=>simp [sliceBounds,HT.sIx]
  | some i =>
   simp only [sliceBounds,HT.sIx,Option.getD_none,show (1:Int) > 0 by decide,if_true]
   by_cases h:i<0
   ·simp only [h,if_true] <;> omega
   ·simp only [h,if_false] <;> omega
theorem aw1 (its:List Value) (lo hi:Option Int):slicePick its.toArray lo hi none=((its.drop (HT.sIx its.length 0 lo)).take (HT.sIx its.length its.length hi-HT.sIx its.length 0 lo)).toArray:=by
 obtain ⟨h1,h2,h3⟩:=aD8 lo hi its.toArray.size
 unfold slicePick
 rw [h1,h2,h3]
 simp only [sliceRange_one,pick_run,q0u] <;> rfl
def bC6 (K:q0a):V->Option Int->Option Int->Hp->VK->Prop:=λx lo hi H Q => ∃ a xs,x=.ref a/\SqL K H a xs/\∀ p,H p=none->Q (.ref p) (upd H p (.lst (bc2 xs lo hi)))
theorem br8:SlR X (bC6 X.K):=by
 intro pins s σ H x v vl vu lo hi sl Q I rx hs pl pu h
 obtain ⟨a,xs,rfl,hx,q⟩:=h
 cases rx
 obtain ⟨its,r,ht,hz⟩:=I.list hx
 have hlen:=r.length
 refine ⟨"list",_,slot_list_getitem.lookup,ht.isList.typeIs,?_⟩
 refine wpAny_getItem_list_slice ht.isList hs pl pu .none (by simp) ?_ (by rw [q0u] <;> lia)
 rw [aw1,<- hlen]
 refine ⟨.ref s.heap.objs.size,_,I.laid (t':=s.toks) (o:=.lst (bc2 xs lo hi)) (λb ob q=>q0y _ q) (q0q _) ?_,rfl,q _ (I.hok.fresh (q0q _))⟩
 exact ⟨z0v (aN2 xs lo hi) hz,_,0,(r.drop (HT.sIx xs.length 0 lo)).take (HT.sIx xs.length xs.length hi-HT.sIx xs.length 0 lo),j0b _ rfl⟩
def V7:V->Bool
 | .non=>true
 | .bl _=>true
 | .int _=>true
 | .str _=>true
 | _=>false
def eqV:V->V->Bool
 | .non,.non=>true
 | .bl a,.bl b=>a == b
 | .bl a,.int b=>(if a then 1 else 0) == b
 | .int a,.bl b=>a == (if b then 1 else 0)
 | .int a,.int b=>a == b
 | .str a,.str b=>a == b
 | _,_=>false
theorem bn5 {A:Around} {s:Shared} {y x:V} {u v:Value} (ry:x8 y u) (rx:x8 x v) (fy:V7 y=true) (fx:V7 x=true):SeqAt.EqAt A s u v (eqV y x):=by
 cases y with
 | non =>
  cases ry
  cases x with
  | non=>cases rx;exact SeqAt.EqAt.same _
  | bl b=>cases rx;exact SeqAt.EqAt.none_bool b
  | int b=>obtain ⟨t,rfl⟩:=rx;exact SeqAt.EqAt.none_int b t
  | str b=>obtain ⟨t,rfl⟩:=rx;exact SeqAt.EqAt.none_str b t
  | _=>exact absurd (show false=true from fx) q0z
 | bl a =>
  cases ry
  cases x with
  | non=>cases rx;exact SeqAt.EqAt.bool_none a
  | bl b=>cases rx;exact SeqAt.EqAt.bool_bool a b
  | int b=>obtain ⟨t,rfl⟩:=rx;exact SeqAt.EqAt.bool_int a b t
  | str b=>obtain ⟨t,rfl⟩:=rx;exact SeqAt.EqAt.bool_str a b t
  | _=>exact absurd (show false=true from fx) q0z
 | int a =>
  obtain ⟨t',rfl⟩:=ry
  cases x with
  | non=>cases rx;exact SeqAt.EqAt.int_none a t'
  | bl b=>cases rx;exact SeqAt.EqAt.int_bool a t' b
  | int b=>obtain ⟨t,rfl⟩:=rx;exact SeqAt.EqAt.int_int a t' b t
  | str b=>obtain ⟨t,rfl⟩:=rx;exact SeqAt.EqAt.int_str a t' b t
  | _=>exact absurd (show false=true from fx) q0z
 | str a =>
  obtain ⟨t',rfl⟩:=ry
  cases x with
  | non=>cases rx;exact SeqAt.EqAt.str_none a t'
  | bl b=>cases rx;exact SeqAt.EqAt.str_bool a t' b
  | int b=>obtain ⟨t,rfl⟩:=rx;exact SeqAt.EqAt.str_int a t' b t
  | str b=>obtain ⟨t,rfl⟩:=rx;exact SeqAt.EqAt.str_str a t' b t
  | _=>exact absurd (show false=true from fx) q0z
 | _=>exact absurd (show false=true from fy) q0z
def eqU (x:V) (u:Value):Bool:=match u with
 | .none=>eqV .non x
 | .bool b=>eqV (.bl b) x
 | .int i _=>eqV (.int i) x
 | .str z _=>eqV (.str z) x
 | _=>false
theorem aR6 {x y:V} {u:Value} (r:x8 y u) (f:V7 y=true):eqU x u=eqV y x:=by
 cases y with
 | non=>cases r;rfl
 | bl b=>cases r;rfl
 | int i=>obtain ⟨t,rfl⟩:=r;rfl
 | str z=>obtain ⟨t,rfl⟩:=r;rfl
 | _=>exact absurd (show false=true from f) q0z
theorem at8 {A:Around} {s:Shared} {x:V} {v:Value} (rx:x8 x v) (fx:V7 x=true):∀ {xs:List V} {us:List Value},n5 xs us->xs.all V7=true->∀ u ∈ us,SeqAt.EqAt A s u v (eqU x u)
 | _,_,.nil,_=>λu hu=>by cases hu
 | y :: xs,u :: us,.cons r t,f=>λu' hu=>by
  rw [m0p,y0a] at f
  rcases z0a.mp hu with rfl | hu
  ·rw [aR6 r f.1];exact bn5 r rx f.1 fx
  ·exact at8 rx fx t f.2 u' hu
theorem j5:ae3 X (.builtin "len") (λxs H Q => ∃ p ys,xs=[.ref p]/\(SqL X.K H p ys \/ SqT X.K H p ys)/\Q (.int ys.length) H):=by
 intro pins s σ H xs us Q I r h
 obtain ⟨p,ys,rfl,hq,q⟩:=h
 obtain ⟨u,rfl,rx⟩:=an2 r
 cases rx
 have hn:=ah6
 rcases hq with hq | hq
 ·obtain ⟨its,r',pl,hz⟩:=I.list hq
  have hlen:=r'.length
  exact Calls.call_len_list pl.isList (by simp only [q0u] <;> lia) ⟨.int ys.length,H,I.tok _,⟨s.toks+1,by rw [q0u,hlen]⟩,q⟩
 ·obtain ⟨its,r',pl,hz⟩:=I.tuple hq
  have hlen:=r'.length
  exact len_tuple pl (by simp only [q0u] <;> omega) ⟨.int ys.length,H,I.tok _,⟨s.toks+1,by rw [q0u,hlen]⟩,q⟩
theorem M6:ae3 X (.type "list") (λxs H Q => ∃ p ys,xs=[.ref p]/\(SqL X.K H p ys \/ SqT X.K H p ys)/\∀ l,H l=none->Q (.ref l) (upd H l (.lst ys))):=by
 intro pins s σ H xs us Q I r h
 obtain ⟨p,ys,rfl,hq,q⟩:=h
 obtain ⟨u,rfl,rx⟩:=an2 r
 cases rx
 have fin:∀ (its:List Value),n5 ys its->ys.length<=sizeLine->∀ (h':Heap) (c':Nat),(∀ b o',s.heap.get? b=some o'->h'.get? b=some o') ->
   h'.get? s.heap.objs.size=some { cls:=.type "list",dict:=none,data:=.seq its.toArray c',slots:=#[] }->EP X pins σ Q (.ref s.heap.objs.size) { s with heap:=h' }:=λits r' hz h' c' kp e =>
  ⟨.ref s.heap.objs.size,_,I.laid (t':=s.toks) kp (q0q _) (show E9 X.prog X.w _ h' _ (.lst ys) from ⟨hz,its,c',r',e⟩),rfl,q _ (I.hok.fresh (q0q _))⟩
 rcases hq with hq | hq
 ·obtain ⟨its,r',pl,hz⟩:=I.list hq
  have hlen:=r'.length
  obtain ⟨o,ho,hc,n,hd⟩:=pl.isList
  exact call_list_seq p (.inl rfl) ho hc hd (λh' c' kp e=>fin its r' hz h' c' kp e) (by simp only [q0u] <;> omega)
 ·obtain ⟨its,r',pl,hz⟩:=I.tuple hq
  have hlen:=r'.length
  obtain ⟨o,ho,hc,n,hd⟩:=pl
  exact call_list_seq p (.inr rfl) ho hc hd (λh' c' kp e=>fin its r' hz h' c' kp e) (by simp only [q0u] <;> omega)
def tyV (K:PySem.W.Frag) (T:String) (x:V) (H:Hp):Prop:=match x with
  | .str _=>T = "str"
  | .int _=>T = "int"
  | .ref p => (T = "list" ∧ ∃ xs, SqL K H p xs) ∨ (T = "tuple" ∧ ∃ o, K.lookup p = some o ∧ o.cls = .type "tuple" ∧ o.dict = none) ∨
      (T = "dict"/\((∃ kvs,H p=some (.dK kvs)) \/ ∃ kvs,H p=some (.dT kvs))) \/ (T = "set"/\∃ S n,H p=some (.set S n))
  | _=>False
theorem be1 {pins:List (Addr × Obj)} {σ:St} {H:Hp} {s:Shared} {T:String} {x:V} {v:Value} (I:Inv X pins σ H s) (r:x8 x v) (ty:tyV X.K T x H) :
  s.TypeIs v T/\∀ a,v=.ref a->∃ ob,s.heap.get? a=some ob/\ob.dict=none:=by
 cases x with
 | str z =>
  obtain ⟨t,rfl⟩:=r
  cases (show T = "str" from ty)
  exact ⟨typeIs_str s z t,λ_ e=>nomatch e⟩
 | int i =>
  obtain ⟨t,rfl⟩:=r
  cases (show T = "int" from ty)
  exact ⟨typeIs_int s i t,λ_ e=>nomatch e⟩
 | ref p =>
  cases r
  rcases ty with ⟨rfl,xs,hq⟩ | ⟨rfl,o,hk,hc,hd⟩ | ⟨rfl,hk⟩ | ⟨rfl,S,n,hk⟩
  ·obtain ⟨its,_,pl,_⟩:=I.list hq
   refine ⟨pl.isList.typeIs,λa e=>?_⟩
   cases e
   obtain ⟨o,n,e,c,hd,_⟩:=pl
   exact ⟨o,e,hd⟩
  ·refine ⟨⟨o,I.kIn p o hk,hc⟩,λa e=>?_⟩
   cases e
   exact ⟨o,I.kIn _ o hk,hd⟩
  ·have z:∃ o,s.heap.get? p=some o/\o.ExactDict:=by
    rcases hk with ⟨kvs,hk⟩ | ⟨kvs,hk⟩
    ·obtain ⟨_,_,_,_,o,_,_,e,ex,_⟩:=I.hok p _ hk
     exact ⟨o,e,ex⟩
    ·obtain ⟨_,_,_,_,o,_,_,e,ex,_⟩:=I.hok p _ hk
     exact ⟨o,e,ex⟩
   obtain ⟨o,e,ex⟩:=z
   refine ⟨⟨o,e,ex.1⟩,λa e2=>?_⟩
   cases e2
   exact ⟨o,e,ex.2.1⟩
  ·obtain ⟨o,_,_,_,e,ex,_⟩:=I.hok p _ hk
   refine ⟨⟨o,e,ex.1⟩,λa e2=>?_⟩
   cases e2
   exact ⟨o,e,ex.2.1⟩
 | _=>exact False.elim ty
def bB5 (K:q0a) (T:String) (r:V->List V->Hp->VK->Prop) (to:TE):TE:=λσ H Q=>to σ H λx H1=>tyV K T x H1/\r x [] H1 Q
def tBM (K:q0a) (T:String) (r:V->List V->Hp->VK->Prop) (to:TE) (t:TA):TE:=λσ H Q=>to σ H λx H1=>tyV K T x H1/\t σ H1 λxs H2=>r x xs H2 Q
variable {o e:Expr} {es:List Expr} {to:TE} {t:TA} {name:Str} {apos cpos:Pos} {T id:String} {r:V->List V->Hp->VK->Prop}
theorem al1 (pa:PlainAttrs T) (slot:Slot T name id) (hty:typeOf (.builtin id)=pure (.type "method_descriptor")) (hm:MtR X id r) (ho:PE X o to)
  (hbase:attributeBase o name X.env (eval o X.env)=eval o X.env:=by rfl) (hline:(apos.endLine == cpos.line)=true:=by rfl):PE X (.Call (.Attribute o name apos) [] [] cpos) (bB5 X.K T r to):=by
 intro pins s σ H Q I h
 refine wpAny_Call_method0_late hbase hline (thn (ho pins s σ H _ I h) λv s1 ⟨x,H1,I1,r1,ty,q1⟩=>?_)
 obtain ⟨h1,h2⟩:=be1 I1 r1 ty
 exact ⟨T,id,pa,slot,hty,h1,h2,Calls.callWith_builtin rfl (PySem.evalArgs_none (hm pins s1 σ H1 x [] v [] Q I1 r1 .nil q1))⟩
theorem an5 (pa:PlainAttrs T) (slot:Slot T name id) (hty:typeOf (.builtin id)=pure (.type "method_descriptor")) (hm:MtR X id r) (ho:PE X o to) (ha:PA X (e :: es) t)
  (hbase:attributeBase o name X.env (eval o X.env)=eval o X.env:=by rfl)
  (hfew:((backTo cpos (starEach (e :: es) X.env)).all (λx => !x.1) && (backToKw cpos (keywordEach [] X.env)).all (λx=>x.1.isSome)
   && decide ((e :: es).length+([]:List Keyword).length+(if ([]:List Keyword).isEmpty then 0 else 1)<30))=true:=by rfl)
  (hline:(apos.endLine == cpos.line)=true:=by rfl) (hs:starEach (e :: es) X.env=(false,eval e X.env) :: starEach es X.env:=by rfl) (hplain:(backTo cpos (starEach es X.env)).any (·.1)=false:=by rfl) :
  PE X (.Call (.Attribute o name apos) (e :: es) [] cpos) (tBM X.K T r to t):=by
 intro pins s σ H Q I h
 refine wpAny_Call_method_late hbase hfew hline rfl (thn (ho pins s σ H _ I h) λv s1 ⟨x,H1,I1,r1,ty,q1⟩=>?_)
 obtain ⟨h1,h2⟩:=be1 I1 r1 ty
 refine ⟨T,id,pa,slot,hty,h1,h2,?_⟩
 have hA:=ha cpos pins s1 σ H1 _ I1 q1
 rw [hs] at hA ⊢
 refine Calls.callWith_builtin (by show (false || (backTo cpos (starEach es X.env)).any (·.1))=false;rw [hplain] <;> rfl) (Calls.evalArgs_plain ?_)
 exact thn hA λus s2 ⟨vs,H2,I2,r2,q2⟩=>hm pins s2 σ H2 x vs v us Q I2 r1 r2 q2
/- xs.append(e),list.index on a module's tuple .. are MtR facts of 06m -/
end
def MtM (X:Cx) (id:String) (r:V->List V->Hp->VK->Prop):Prop :=
 ∀ (pins:List (Addr × Obj)) (s:Shared) (σ:St) (H:Hp) (x:V) (xs:List V) (v:Value) (us:List Value) (Q:VK),Inv X pins σ H s->x8 x v->n5 xs us->r x xs H Q ->
  wpAny (model X.prog X.w) X.A (call (.builtin id) (v :: us)) (EP X pins σ Q) X.xe s
theorem n5.one {x:V} {us:List Value} (h:n5 [x] us):∃ u,us=[u]/\x8 x u:=by
 cases h with
 | cons r h=>
  cases h
  exact ⟨_,rfl,r⟩
theorem n5.two {x y:V} {us:List Value} (h:n5 [x,y] us):∃ u v,us=[u,v]/\x8 x u/\x8 y v:=by
 cases h with
 | cons r h=>
  obtain ⟨_,rfl,q⟩:=n5.one h
  exact ⟨_,_,rfl,r,q⟩
theorem n5.zero:∀ {us:List Value},n5 [] us->us=[]
 | _,.nil=>rfl
theorem n5.dropLast {xs:List V} {us:List Value} (h:n5 xs us):n5 xs.dropLast us.dropLast:=by
 induction h with
 | nil=>exact .nil
 | cons r t ih =>
  cases t with
  | nil=>exact .nil
  | cons q t'=>exact .cons r ih
theorem n5.rep {xs:List V} {us:List Value} (h:n5 xs us):∀ k:Nat,n5 (z0e k xs).flatten (z0e k us).flatten
 | 0=>.nil
 | k+1=>by
  rw [v0x,v0x,g0e,g0e]
  exact n5.append h (n5.rep h k)
theorem aR5 {α:Type} (l:List α):l.eraseIdx (l.length-1)=l.dropLast:=by
 induction l with
 | nil=>rfl
 | cons a r ih =>
  cases r with
  | nil=>rfl
  | cons b r =>
   have e:(a :: b :: r).length-1=((b :: r).length-1)+1:=by
    have h1:(a :: b :: r).length=r.length+2:=rfl
    have h2:(b :: r).length=r.length+1:=rfl
    simp
   rw [e,List.eraseIdx_cons_succ,ih]
   all_goals rfl
theorem aA9 (its:List Value):∀ (k:Nat) (acc:List Value),
  List.foldl (λx1 x2=>x1 ++ x2) acc.toArray (z0e k its.toArray)=(acc ++ (z0e k its).flatten).toArray
 | 0,acc=>by simp
 | k+1,acc=>by
  have e:acc.toArray ++ its.toArray=(acc ++ its).toArray:=by simp
  have e2:(acc ++ its) ++ (z0e k its).flatten=acc ++ (z0e (k+1) its).flatten:=by
   rw [v0x,g0e,List.append_assoc]
  rw [<- e2,<- aA9 its k (acc ++ its),<- e,v0x,List.foldl_cons]
section
variable {X:Cx} {pins:List (Addr × Obj)} {σ:St} {H:Hp} {s:Shared} {l b:Addr} {xs ys zs:List V}
theorem Inv.lset {its its':List Value} {n:Nat} {f:Array Value->Array Value} {t':Nat} (I:Inv X pins σ H s) (hH:H l=some (.lst xs))
  (e:s.heap.get? l=some { cls:=.type "list",data:=.seq its.toArray n }) (hf:f its.toArray=its'.toArray) (hv:n5 ys its') (hz:ys.length<=sizeLine) :
  Inv X pins σ (upd H l (.lst ys)) { s with heap:=s.heap.update l (Obj.mapSeq f),toks:=t' }:=by
 have q:=PySem.IsL.update e f
 rw [hf] at q
 refine I.write (x:=l) (e:=l) (by rw [hH];exact trivial) (.inl rfl) (λb' u hb hu=>(q1w s.heap (Obj.mapSeq f) (Ne.symm hb)).trans hu) ⟨_,q⟩ ?_
 exact ⟨hz,its',_,hv,q⟩
theorem Inv.lnew {its:List Value} {t':Nat} (I:Inv X pins σ H s) (hv:n5 ys its) (hz:ys.length<=sizeLine) :
  Inv X pins σ (upd H s.heap.objs.size (.lst ys)) { s with heap:=s.heap.push { cls:=.type "list",data:=.seq its.toArray },toks:=t' } :=
 I.laid (λ_ _ q=>q0y _ q) (q0q _) ⟨hz,its,0,hv,j0b _ rfl⟩
theorem Inv.fresh (I:Inv X pins σ H s):H s.heap.objs.size=none:=I.hok.fresh (q0q _)
theorem Inv.lstM (I:Inv X pins σ H s) (hH:H l=some (.lst xs)):xs.length<=sizeLine/\∃ (its:List Value) (n:Nat),n5 xs its/\xs.length=its.length/\s.heap.get? l=some { cls:=.type "list",data:=.seq its.toArray n }:=by
 obtain ⟨z,its,n,r,e⟩:=I.hok l _ hH
 exact ⟨z,its,n,r,r.length,e⟩
theorem bj0 {n:Nat} (h:n<=sizeLine):Builtin.List.listTooLong n=false:=by
 unfold Builtin.List.listTooLong
 exact decide_eq_false (by lia)
end
section
variable {X:Cx}
def aE6:V->List V->Hp->VK->Prop:=λx vs H Q => ∃ l xs y,x=.ref l/\vs=[y]/\H l=some (.lst xs)/\xs.length<sizeLine/\Q .non (upd H l (.lst (xs ++ [y])))
theorem G9:MtM X "list.append" aE6:=by
 intro pins s σ H x vs v us Q I rx rv h
 obtain ⟨l,xs,y,rfl,rfl,hH,hz,q⟩:=h
 cases rx
 obtain ⟨u,rfl,ru⟩:=rv.one
 obtain ⟨z,its,n,r,hl,e⟩:=I.lstM hH
 refine call_meets F.slot_list_append ⟨_,e,rfl⟩ F.entry_list_append (F.args_list_append_2 _ _) (PySem.list_append l its.toArray n u (by rw [q0u];lia)) ⟨e,?_⟩
 refine ⟨.non,_,I.lset (its':=its ++ [u]) hH e (by simp) (r.append (.cons ru .nil)) ?_,rfl,q⟩
 rw [z0g,z0y]
 lia
def rExtend:V->List V->Hp->VK->Prop:=λx vs H Q => ∃ l b xs zs,x=.ref l/\vs=[.ref b]/\H l=some (.lst xs)/\H b=some (.lst zs)/\xs.length+zs.length<=sizeLine/\Q .non (upd H l (.lst (xs ++ zs)))
def bC8:V->List V->Hp->VK->Prop:=λx vs H Q => ∃ l xs y,x=.ref l/\vs=[]/\H l=some (.lst xs)/\xs[xs.length-1]? = some y/\Q y (upd H l (.lst xs.dropLast))
theorem bj6:MtM X "list.pop" bC8:=by
 intro pins s σ H x vs v us Q I rx rv h
 obtain ⟨l,xs,y,rfl,rfl,hH,hy,q⟩:=h
 cases rx
 have hus:=rv.zero
 subst hus
 obtain ⟨z,its,n,r,hl,e⟩:=I.lstM hH
 obtain ⟨u,hu,ru⟩:=r.get hy
 have hy':its.toArray[its.toArray.size-1]? = some u:=by
  show its.toArray[its.length-1]? = some u
  rw [<- Array.getElem?_toList,<- hl]
  exact hu
 refine call_meets F.slot_list_pop ⟨_,e,rfl⟩ F.entry_list_pop (F.args_list_pop_1 _) (MeetsSeq.list_pop_last l its.toArray n u hy' (by rw [q0u];lia)) ⟨e,?_⟩
 refine ⟨y,_,I.lset (its':=its.dropLast) hH e ?_ r.dropLast ?_,ru,q⟩
 ·show its.toArray.eraseIdxIfInBounds (its.toArray.size-1)=its.dropLast.toArray
  rw [q0u,List.eraseIdxIfInBounds_toArray,aR5]
 ·rw [List.length_dropLast]
  lia
def bD1:R2:=λx y H Q => ∃ l b xs zs,x=.ref l/\y=.ref b/\H l=some (.lst xs)/\H b=some (.lst zs)/\xs.length+zs.length<=sizeLine/\∀ p,H p=none->Q (.ref p) (upd H p (.lst (xs ++ zs)))
theorem as6:OpR X (binaryOp .Add) bD1:=by
 intro pins s σ H x y v u Q I rx ry h
 obtain ⟨l,b,xs,zs,rfl,rfl,hH,hB,hz,q⟩:=h
 cases rx
 cases ry
 obtain ⟨z,its,n,r,hl,e⟩:=I.lstM hH
 obtain ⟨z2,its2,n2,r2,hl2,e2⟩:=I.lstM hB
 refine PySem.P.add_list e e2 ?_ (by rw [q0u,q0u];lia)
 have ea:its.toArray ++ its2.toArray=(its ++ its2).toArray:=by simp
 rw [ea]
 exact ⟨.ref _,_,I.lnew (t':=s.toks) (r.append r2) (by rw [z0g];omega),rfl,q _ I.fresh⟩
def bC7:R2:=λx y H Q => ∃ l k xs,x=.ref l/\y=.int k/\H l=some (.lst xs)/\-(2 ^ 63)<=k/\k<2 ^ 63/\xs.length*k.toNat<=sizeLine /\
 ∀ p,H p=none->Q (.ref p) (upd H p (.lst (z0e k.toNat xs).flatten))
theorem bu3 {α:Type} (xs:List α) (k:Nat):(z0e k xs).flatten.length=k*xs.length:=by
 induction k with
 | zero=>simp
 | succ k ih=>rw [v0x,g0e,z0g,ih,Nat.succ_mul,q1b]
theorem bi7:OpR X (binaryOp .Mult) bC7:=by
 intro pins s σ H x y v u Q I rx ry h
 obtain ⟨l,k,xs,rfl,rfl,hH,h1,h2,hz,q⟩:=h
 cases rx
 obtain ⟨t,rfl⟩:=ry
 obtain ⟨z,its,n,r,hl,e⟩:=I.lstM hH
 have hlen:its.toArray.size*k.toNat<=sizeLine:=by rw [q0u,<- hl];exact hz
 have hcap:¬ its.toArray.size*k.toNat > (2 ^ 63-1) / 8:=by
  have:(sizeLine:Nat)<=(2 ^ 63-1) / 8:=by decide
  lia
 have hfit:¬ (!Builtin.List.listFitsIndex k)=true:=by
  rw [fitsIndex_both h1 h2]
  exact q0z
 have hlong:¬ Builtin.List.listTooLong (its.toArray.size*k.toNat)=true:=by
  rw [bj0 hlen]
  exact q0z
 have hnew:List.foldl (λx1 x2=>x1 ++ x2) #[] (z0e (if its.toArray.isEmpty=true then 0 else k.toNat) its.toArray)=(z0e k.toNat its).flatten.toArray:=by
  have f0:∀ m:Nat,List.foldl (λx1 x2=>x1 ++ x2) #[] (z0e m its.toArray)=(z0e m its).flatten.toArray:=λm=>by
   have:=aA9 its m []
   rw [List.nil_append] at this
   exact this
  rw [f0]
  cases its with
  | nil=>simp
  | cons a r'=>rw [if_neg (by simp)]
 refine wpAny_binaryOp_repeat_ref (T := "list") (U := "int") (by decide) ⟨_,e,rfl⟩ (λs'=>typeIs_int s' k t) noFill_list_mul F.fills_int_mul F.slot_int_rmul repeat_list F.slot_int_index.lookup
  (call_meets F.slot_int_rmul (typeIs_int s k t) F.entry_int_rmul (F.args_int_rmul_2 _ _) (int___rmul___int_list k t l its.toArray n)
   ⟨e,rfl,⟨_,e,rfl⟩,call_meets F.slot_list_mul ⟨_,e,rfl⟩ F.entry_list_mul (F.args_list_mul_2 _ _) (AutoListH.list___mul___list_int_3 l its.toArray n k t hfit hcap hlong) ⟨e,?_⟩⟩)
 rw [hnew]
 exact ⟨.ref _,_,I.lnew (t':=s.toks) (r.rep k.toNat) (by rw [bu3,u0g];exact hz),rfl,q _ I.fresh⟩
end
end L2
namespace Att
open PySem PySem.W PySem.Calls PyProof.Rows
theorem ap4 {P:Params} {h:Heap}:∀ (ns:List Int) (vs:List Value),WellAll P h vs (ns.map WData.int)->IntsAre vs ns:=by
 intro ns
 induction ns with
 | nil =>
  intro vs w
  rw [z1z] at w
  cases w
  exact .nil
 | cons n ns ih =>
  intro vs w
  rw [z0w] at w
  cases w with
  | cons a b =>
   cases a
   exact .cons _ _ (ih _ b)
theorem aZ9 {l:OpenLaw} {n:Nat} (hn:l.most=some n) {P:Params} {h:Heap} {args:List WData} {vals:List Value}
  (hpre:l.row.toRowW.claim.pre args=true) (hwl:WellAll P h vals args) :
  ∃ a vs ns,vals=[Value.ref a]/\args=[WData.list (ns.map WData.int)]/\h.get? a=some { cls:=.type "list",data:=.seq vs.toArray }/\IntsAre vs ns/\ns.length<=n:=by
 have hsh:WShape.hasAll [] args [.list .int]=true:=(pre_splitW hpre).1
 have hc:l.pre.holds [] { args:=args }=true:=(pre_splitW hpre).2
 obtain ⟨d,r,rfl,h1,h2⟩:=hasAllW_cons hsh
 obtain rfl:=hasAllW_nil h2
 obtain ⟨xs,rfl,h3⟩:=hasW_list h1
 obtain ⟨ns,rfl⟩:=items_int h3
 have hlen:ns.length<=n:=by
  unfold OpenLaw.pre at hc
  have h4:(WTm.not (.lt (.lit (.int (n:Int))) (.len (.arg 0)))).holds [] { args:=[.list (ns.map .int)] }=true:=by
   have h4:=(holds_andW hc).1
   rw [hn] at h4
   exact h4
  have h5:=condW_of h4 (w_not (w_lt w_lit (w_len_list (w_arg rfl))))
  rw [q0e] at h5
  refine Nat.le_of_not_lt λq=>?_
  have q':(n:Int)<((ns.length:Nat):Int):=⋯
  first
   | (rw [decide_eq_true q'] at h5;exact absurd h5 (by decide))
   | (simp at h5;omega)
 cases hwl with
 | cons w1 w2 =>
  cases w2
  cases w1 with
  | list ho hall=>exact ⟨_,_,ns,rfl,rfl,ho,ap4 ns _ hall,hlen⟩
theorem ba6 (l:OpenLaw) (args:List WData):l.row.toRowW.claim.post args (.bool true) args=true :=
 postW_of (r:=l.row.toRowW) (X:=(true == true))
  (show WShape.has [] (.bool true) .bool=true by first | rfl | decide | simp [WShape.has,WShape.arms,WShape.armsAll])
  (show (WTm.eq .res (.lit (.bool true))).value [] { args:=args,res:=some (.bool true),after:=args }=some (.bool (true == true)) from w_eq_bool (w_res rfl) w_lit) rfl
theorem attach_call {l:OpenLaw} {n:Nat} {q:Program} {loose:List Str} {XP:(Str->Option Value)->Heap->Prop} {YP:World->Heap->Prop} {d:DefRec}
  (hn:l.most=some n) (hdf:d.params.defaults=[])
  (call:∀ (w:World) (s₀ s₁:Shared) (mg mb:Str->Option Value) (fa:Addr) (o:Obj) (pm cd doc:Value) (a:Addr) (vs:List Value) (ns:List Int),
   Ground q loose [] XP w s₀ mg mb s₁.heap->YP w s₁.heap ->
   s₁.heap.get? fa=some o->o.data=.func (docDef d.name d.params d.body d.scope pm cd doc)->s₁.heap.CodeRec cd d.name->mg d.name=some (.ref fa) ->
   s₁.heap.get? a=some { cls:=.type "list",data:=.seq vs.toArray }->IntsAre vs ns->ns.length<=n->s₁.gens = #[] ->
   codeAny (model l.prog w) callerA (.call (.ref fa) ⟨[.ref a],[]⟩) (λr s'=>r=.ok (.ret (.bool true))/\OldK s₁.heap s'.heap/\s'.os=s₁.os/\AllBare s'.gens) s₁) :
  WalkO q loose XP YP l.row.toRowW d [] (λf vs=>PySem.call f vs):=by
 intro w s₀ s₁ mg mb G Y fa o pm cd doc dV kV ho hd hcd hD hmg hg args vals as hpre hlay hrd hwl hlo
 obtain rfl:dV=.none:=Dflts.none hD hdf
 obtain rfl:kV=.none:=Dflts.noKw hD
 obtain ⟨a,vs,ns,rfl,rfl,hobj,hints,hlen⟩:=aZ9 hn hpre hwl
 refine enter_call (codeAny_mono (call w s₀ s₁ mg mb fa o pm cd doc a vs ns G Y ho (fd_plain hd) hcd hmg hobj hints hlen hg) λr s' hq=>?_)
 obtain ⟨rfl,h2,h3,h4⟩:=hq
 exact ⟨.inl ⟨.bool true,.bool true,[],rfl,λ_=>rfl,.bool true,ba6 l _,λ_=>⟨z1q.nil,λ_ hm=>(nomatch hm)⟩⟩,h2,h3,h4⟩
end Att
namespace L2
open PySem PySem.Spec PyProof.Rows
theorem ay2:∀ {vs:List Value} {ns:List Int},IntsAre vs ns->n5 (ns.map V.int) vs
 | _,_,.nil=>.nil
 | _,_,.cons n t h=>.cons ⟨t,rfl⟩ (ay2 h)
def bK1 (H:Hp):Prop:=∀ b,H b=none \/ ∃ o xs,H b=some (.frz o (.lst xs))
theorem bk6 {P:Program} {w:World} {K:q0a} {mg mb:Str->Option Value} {CX:CXT} {k:Nat} {fa a:Addr} {fd:FuncData} {x:Str} {sp:Sp} {s₁:Shared} {vs:List Value} {ns:List Int}
  (KX:K.In s₁.heap) (hns:s₁.heap.Ns mainGlobals mg) (hb:s₁.heap.Ns builtinsNs mb) (hbb:∀ x:Str,x ≠ "__name__"->mb x=bootBuiltins x) (hlim:s₁.heap.NoLimit) (hg:s₁.gens = #[])
  (ha:s₁.heap.get? a=some { cls:=.type "list",data:=.seq vs.toArray }) (hi:IntsAre vs ns) (hl:ns.length<=sizeLine) (hr:V9 k callerA)
  (F:∀ base:Heap,K.In base->base.Ns mainGlobals mg->ak3 P w K mg base CX k fa fd [x] sp) (hbind:∀ (s:Shared) (u:Value),BindsTo s fd ⟨[u],[]⟩ [(x,u)])
  (hsp:∀ H:Hp,bK1 H->SqL K H a (ns.map V.int)->sp [.ref a] H (λv _=>v=.bl true) λ_ _ _=>False)
  (hCX:∀ H e s',CX [] H s₁ (λ_ _ _=>False) e s'->False) :
  codeAny (model P w) callerA (.call (.ref fa) ⟨[.ref a],[]⟩) (λr s'=>r=.ok (.ret (.bool true))/\OldK s₁.heap s'.heap/\s'.os=s₁.os/\AllBare s'.gens) s₁:=by
 have rv:=ay2 hi
 have lenV:=hi.length
 -- from an abstract heap in which nothing but the script may be tracked
 have core:∀ H:Hp,bK1 H->SqL K H a (ns.map V.int)->HOk P w H s₁.heap->(∀ b,H b ≠ none->b=a)->(H a ≠ none->K.lookup a=none) ->
   codeAny (model P w) callerA (.call (.ref fa) ⟨[.ref a],[]⟩) (λr s'=>r=.ok (.ret (.bool true))/\OldK s₁.heap s'.heap/\s'.os=s₁.os/\AllBare s'.gens) s₁:=by
  intro H hO hS hok hA hK
  have base_of:∀ {b:Addr} {o:Obj},s₁.heap.get? b=some o->H b=none->(aH0 s₁.heap H).get? b=some o:=λe n=>bl9 e n
  have noA:∀ {b:Addr} {o:Obj} {es:Array DictEntry} {ep:Nat},s₁.heap.get? b=some o->o.data=.dict es ep->H b=none:=fun {b o es ep} e d=>by
   cases q:H b with
   | none=>rfl
   | some u =>
    have e':b=a:=hA b (by rw [q];simp)
    subst e'
    rw [ha] at e;cases e
    have d':Data.seq vs.toArray _=Data.dict es ep:=d
    cases d'
  have nsK:∀ {b:Addr} {m:Str->Option Value},s₁.heap.Ns b m->(aH0 s₁.heap H).Ns b m:=fun {b m} ⟨o,es,ep,e,d,r⟩=>⟨o,es,ep,base_of e (noA e d),d,r⟩
  have hKb:K.In (aH0 s₁.heap H):=λb o e=>base_of (KX b o e) (by
   cases q:H b with
   | none=>rfl
   | some u =>
    have e':b=a:=hA b (by rw [q];simp)
    subst e'
    rw [hK (by rw [q];simp)] at e;cases e)
  have hM:Mod K mg (aH0 s₁.heap H):=⟨hKb,nsK hns,⟨mb,nsK hb,hbb⟩,let ⟨mc,h1,h2⟩:=hlim;⟨mc,nsK h1,h2⟩⟩
  have e0:bd4 P w K mg (aH0 s₁.heap H) callerA [] s₁ H:=⟨rfl,hM,λb o e=>bt8 e,Nat.le_of_eq (bb3 _ _),trivial,λb hb=>absurd (show b ∈ ([]:List Addr) from hb) (by simp),hok,.of_eq hg⟩
  refine codeAny_mono ((F _ hKb (nsK hns)).run callerA [] s₁ H ⟨[.ref a],[]⟩ [.ref a] [.ref a] _ _ hr e0 (hbind s₁ (.ref a)) (.cons rfl .nil) (hsp H hO hS)) λr s' h=>?_
  cases r with
  | error e=>exact (hCX H e s' h).elim
  | ok fl =>
   cases fl with
   | next=>exact False.elim h
   | brk=>exact False.elim h
   | cont=>exact False.elim h
   | ret u =>
    obtain ⟨v,H',os,bare,un,hok',r',q⟩:=h
    have q':v=.bl true:=q
    subst q'
    obtain rfl:u=Value.bool true:=r'
    refine ⟨rfl,OldK.of_keep λb o e=>?_,os,bare⟩
    cases q:H b with
    | none=>exact un.keep b o e q (by intro z;exact absurd (show b ∈ ([]:List Addr) from z) (by simp)) (by simp)
    | some u =>
     rcases hO b with z | ⟨ob,xs,z⟩
     ·rw [q] at z;cases z
     ·have z2:=un.frzs b ob _ z
      obtain ⟨e1,_⟩:=hok b _ z
      obtain ⟨e2,_⟩:=hok' b _ z2
      rw [e] at e1;cases e1
      exact e2
 cases hk:K.lookup a with
 | some o =>
  -- the script is one of the module's own objects
  have e:=KX a o hk
  rw [ha] at e
  cases e
  refine core (λ_=>none) (λ_=>.inl rfl) (.inr ⟨_,vs.toArray,_,hk,rfl,rfl,rfl,by rw [q0u,lenV];exact hl,by simpa using rv⟩) (λb u z=>by have z':(none:Option HO)=some u:=z;cases z') (λb z=>absurd rfl z) λz=>absurd rfl z
 | none =>
  refine core (λb=>if b=a then some (.frz { cls:=.type "list",data:=.seq vs.toArray } (.lst (ns.map V.int))) else none) (λb=>?_) (.inl (.inr ⟨{ cls:=.type "list",data:=.seq vs.toArray },if_pos rfl⟩)) (λb u z=>?_) (λb z=>?_) λ_=>hk
  ·by_cases hb:b=a
   ·exact .inr ⟨_,_,if_pos hb⟩
   ·exact .inl (if_neg hb)
  ·by_cases hb:b=a
   ·have z':=(if_pos hb).symm.trans z
    cases z'
    subst hb
    exact ⟨ha,by rw [q0e];exact hl,vs,_,rv,ha⟩
   ·have z':=(if_neg hb).symm.trans z
    cases z'
  ·by_cases hb:b=a
   ·exact hb
   ·exact absurd (if_neg hb) z
abbrev KOf {K:q0a} {h:Heap} (_:K.In h):q0a:=K
theorem aT7 {l:q1r} {n k:Nat} {q:Program} {loose:List Str} {XP:(Str->Option Value)->Heap->Prop} {YP:World->Heap->Prop} {d:DefRec} {K:Params->q0a} {CX:World->CXT} {sp:World->Sp} {x:Str}
  (hn:l.most=some n) (hn2:n<=sizeLine) (hdf:d.params.defaults=[]) (hr:V9 k callerA)
  (hY:∀ (w:World) (h:Heap),YP w h->(K w.params).In h)
  (F:∀ (w:World) (mg:Str->Option Value) (fa:Addr) (h:Heap),(K w.params).In h->h.Ns mainGlobals mg->mg d.name=some (.ref fa) ->
   ∃ fd:FuncData,(∀ (s:Shared) (u:Value),BindsTo s fd ⟨[u],[]⟩ [(x,u)]) /\
    ∀ base:Heap,(K w.params).In base->base.Ns mainGlobals mg->ak3 l.prog w (K w.params) mg base (CX w) k fa fd [x] (sp w))
  (hsp:∀ (w:World) (H:Hp) (a:Addr) (ns:List Int),ns.length<=n->bK1 H->SqL (K w.params) H a (ns.map V.int)->sp w [.ref a] H (λv _=>v=.bl true) λ_ _ _=>False)
  (hCX:∀ (w:World) (H:Hp) (s:Shared) (e:Value) (s':Shared),CX w [] H s (λ_ _ _=>False) e s'->False) :
  PySem.W.WalkO q loose XP YP l.row.toRowW d [] (λf vs=>PySem.call f vs):=by
 refine Att.attach_call hn hdf λw s₀ s₁ mg mb fa o pm cd doc a vs ns G Y ho hd hcd hmg hobj hints hlen hg=>?_
 have KX:=hY w _ Y
 obtain ⟨fd,hb,hF⟩:=F w mg fa _ KX G.T.g hmg
 exact bk6 KX G.T.g G.T.b G.T.builtins G.T.nolimit hg hobj hints (z0v hlen hn2) hr hF hb (λH hO hS=>hsp w H a ns hlen hO hS) λH e s'=>hCX w H s₁ e s'
end L2
/- THE LAST THEOREM (shape; LID, My.* are yours):
   My.Adr: a structure of the addresses that your layer names (classes,functions);My.Txt K t: a structure (Prop) of the equations over K;
   My.txt_mk:{K} {implicit addresses ..} (e1:nsIn K mainGlobals "law" = some (some (.ref f))) (e2:K.lookup f=some ⟨oc,od,.func (fnOf "law" "law" params body scope dV kV doc pm an cdv ct),sl⟩) (e3:codeIn K cdv "law" = true) .. : ∃ t,My.Txt K t
set_option maxRecDepth 100000 in
theorem PySem.Challenge.cw_LID_holds:PySem.Challenge.rw_LID.Holds:=by
  w_on;o_law;k_head;(case hw=>w_witness2)
  k_fill
  refine L2.aT7 (l:=PySem.Challenge.rw_LID) (n:=63) (k:=40) (x := "script") (CX:=λw=>..) (sp:=λ_=>My.sp_law) rfl (by decide) rfl ⟨rfl,by decide,by decide⟩ (λw h Y=>PySem.W.kIn_of Y) ?F ?S ?C
  case F =>
    intro w mg fa h KX G hmg
    have T:∃ t,My.Txt (L2.KOf KX) t:=by
      dsimp only [L2.KOf]                          -- K must stand as «<heap const> w.params» for k_is
      refine' My.txt_mk ?e1 ?e2 ?e3 ..
      (case e1=>PySem.W.k_is)                    -- in the order: a name -> its address -> its object -> its parts
      (case e2=>PySem.W.k_is)
      ..
    obtain ⟨t,T⟩:=T
    have e0:=hmg.symm.trans (u0k KX G T.law)
    cases e0                                       -- fa is the law's own address
    exact ⟨_,λs u=>.of_eq rfl,λbase kb nb=>My.law_fn T kb nb⟩     -- if «.of_eq rfl» comes too early: refine' ⟨_,?b,λbase kb nb=>My.law_fn T kb nb⟩;exact λs u=>.of_eq rfl
  case S=>exact λw H a ns hl hO hS=>..
  case C=>exact ..
(the tactic k_is has no namespace: write k_is) -/
namespace L2
open PySem PySem.Spec PyProof.Rows
def af5 (s:Stmt):Arguments:=match s with
 | .FunctionDef _ a _ _ _ _ _ _ _ _=>a
 | _=>{ posonlyargs:=[],args:=[],vararg:=none,kwonlyargs:=[],kw_defaults:=[],kwarg:=none,defaults:=[] }
def M4 (s:Stmt):List Stmt:=match s with
 | .FunctionDef _ _ b _ _ _ _ _ _ _=>b
 | _=>[]
def c6 (s:Stmt):Scope:=match s with
 | .FunctionDef _ _ _ _ _ _ sc _ _ _=>sc
 | _=>{ kind:=.function,names:=[],isGenerator:=false,isCoroutine:=false }
abbrev CX0:CXT:=λ_ _ _ _ _ _=>False
abbrev E0:XK:=λ_ _ _=>False
theorem i5 {X:Cx}:av9 CX0 X E0:=λ_ _ _ _ _ _ _ h=>h.elim
structure Fun (K:q0a) (x qual:Str) (st:Stmt) (f:Addr) (fd:FuncData):Prop where
 ex:∃ (oc:Value) (od:Option Addr) (kV doc pm:Value) (an:Option Addr) (cdv ct:Value) (osl:Array (Option Value)),
  fd=v0t x qual (af5 st) (M4 st) (c6 st) .none kV doc pm an cdv ct/\K.lookup f=some ⟨oc,od,.func fd,osl⟩/\z1b K cdv qual=true
 kp:y0x K (.ref f)=true
section
variable {P:Program} {w:World} {K:q0a} {mg:Str->Option Value} {base:Heap}
theorem Fun.ok {x qual:Str} {st:Stmt} {f:Addr} {fd:FuncData} {N ps:List Str} {k:Nat} {sp:Sp} (F:Fun K x qual st f fd) (S:i7 N ps (c6 st)) (len:∀ vs H Q E,sp vs H Q E->vs.length=ps.length)
  (hbody:∀ (cdv:Value) (A:Around) (outer:List Env) (s:Shared) (H:Hp) (vs:List V) (Q:VK) (E:XK),V9 k (A.deeper (envOfC qual (c6 st) s.heap.objs.size f cdv))->sp vs H Q E ->
   ∃ t,PSs (ap5 CX0 P w K mg base N qual (c6 st) f cdv A outer s H E).nox (M4 st) t/\t { nx:=λ_ H'=>Q .non H',rt:=Q } (start N vs) H):ak3 P w K mg base CX0 (k+1) f fd ps sp:=by
 obtain ⟨oc,od,kV,doc,pm,an,cdv,ct,osl,rfl,lk,hcd⟩:=F.ex
 refine bz6 lk hcd S len λA outer s H vs Q E hr hsp=>?_
 obtain ⟨t,h,q⟩:=hbody cdv A outer s H vs Q E hr hsp
 exact ⟨t,h.nox,q⟩
theorem Fun.binds {x qual:Str} {st:Stmt} {f:Addr} {fd:FuncData} {ps:List Str} (F:Fun K x qual st f fd)
  (h:∀ (kV doc pm:Value) (an:Option Addr) (cdv ct:Value) (us:List Value),us.length=ps.length->bindArgs (v0t x qual (af5 st) (M4 st) (c6 st) .none kV doc pm an cdv ct) ⟨us,[]⟩=pure (ps.zip us)):ae4 K fd ps []:=by
 obtain ⟨oc,od,kV,doc,pm,an,cdv,ct,osl,rfl,lk,hcd⟩:=F.ex
 exact .all (h kV doc pm an cdv ct)
theorem bH7 {x qual:Str} {st:Stmt} {f:Addr} {oc:Value} {od an:Option Addr} {osl:Array (Option Value)} {kV doc pm cdv ct:Value} (l:K.lookup f=some ⟨oc,od,.func (v0t x qual (af5 st) (M4 st) (c6 st) .none kV doc pm an cdv ct),osl⟩)
  (c:z1b K cdv qual=true) (k:y0x K (.ref f)=true):Fun K x qual st f (v0t x qual (af5 st) (M4 st) (c6 st) .none kV doc pm an cdv ct):=⟨⟨oc,od,kV,doc,pm,an,cdv,ct,osl,rfl,l,c⟩,k⟩
end
section
variable {X:Cx}
theorem pv (i : Nat) {x : Str} {pos : Pos} (hN : X.N[i]? = some x := by rfl) (hv : Vis X.env.scope x := by first | exact Or.inl rfl | exact Or.inr (Or.inl rfl) | exact Or.inr (Or.inr rfl)) (hd : (x == ("__debug__" : Str)) = false := by decide)
    (hcd:(x == ("__classdict__" : Str))=false:=by decide):PE X (.Name x pos) (Z6 i):=bE0 hN hv hd hcd
end
theorem bO8 {A B:Prop} (h:A):if true=true then A else B:=by
 rw [if_pos rfl]
 exact h
theorem B1 {c A B:Prop} [Decidable c] (h1:c->A) (h2:¬ c->B):if c then A else B:=by
 by_cases h:c
 ·rw [if_pos h]
  exact h1 h
 ·rw [if_neg h]
  exact h2 h
def c7 (H H':Hp):Prop:=∀ b o,H b=some o->H' b=some o
theorem c7.refl (H:Hp):c7 H H:=λ_ _ h=>h
theorem c7.trans {H H1 H2:Hp} (a:c7 H H1) (b:c7 H1 H2):c7 H H2:=λc o h=>b c o (a c o h)
theorem c7.free {H H':Hp} (e:c7 H H') {l:Addr} (h:H' l=Option.none):H l=Option.none:=by
 cases q:H l with
 | none=>rfl
 | some o =>
  rw [e l o q] at h
  cases h
theorem c7.seq {K:q0a} {H H':Hp} {a:Addr} {xs:List V} (e:c7 H H') (h:SqL K H a xs):SqL K H' a xs:=by
 rcases h with (h | ⟨o,h⟩) | h
 ·exact .inl (.inl (e _ _ h))
 ·exact .inl (.inr ⟨o,e _ _ h⟩)
 ·exact .inr h
section
variable {P:Program} {w:World} {H:Hp} {h:Heap} {a:Addr} {o:HO}
theorem E9.there (x:E9 P w H h a o):∃ ob,h.get? a=some ob:=by
 cases o with
 | lst xs=>obtain ⟨_,_,_,_,e⟩:=x;exact ⟨_,e⟩
 | tup xs=>obtain ⟨_,_,_,ob,e,_⟩:=x;exact ⟨_,e⟩
 | dK kvs=>obtain ⟨_,_,_,_,o,_,_,e,_⟩:=x;exact ⟨_,e⟩
 | dT kvs=>obtain ⟨_,_,_,_,o,_,_,e,_⟩:=x;exact ⟨_,e⟩
 | set S n=>obtain ⟨o,_,_,_,e,_⟩:=x;exact ⟨_,e⟩
 | ins C dx fs=>obtain ⟨_,_,_,e,_⟩:=x;exact ⟨_,e⟩
 | own y=>obtain ⟨_,e⟩:=x;exact ⟨_,e⟩
 | xd fs=>obtain ⟨_,⟨_,_,_,e,_⟩,_⟩:=x;exact ⟨_,e⟩
 | rng lo hi=>obtain ⟨_,_,_,e⟩:=x;exact ⟨_,e⟩
 | frz ob u=>obtain ⟨e,_⟩:=x;exact ⟨_,e⟩
 | tbl ps=>exact ⟨_,(show h.get? a=some _ from x)⟩
 | met f y=>exact ⟨_,(show h.get? a=some _ from x)⟩
 | ext φ=>obtain ⟨_,e,_⟩:=x;exact e
end
def CXR (P:Program) (w:World):CXT:=λouter H s E e s' => ∃ (a:Addr) (cls a0:Value) (H':Hp) (B:Heap),e=.ref a/\s'.os=s.os/\AllBare s'.gens /\
 j1a B outer a cls a0 s'.heap/\(∀ b o,s.heap.get? b=some o->H b=none->b ∉ frs outer->B.get? b=some o)/\(∀ b o,s.heap.get? b=some o->b ∉ frs outer->∃ o',B.get? b=some o') /\
 HOk P w H' B/\Un (frs outer) [] H H' s.heap s'.heap/\H' a=none/\E cls none H'
def bq5 (X:Cx) (R:Value->Hp->Prop):Prop:=∀ (pins:List (Addr × Obj)) (σ:St) (H:Hp) (s:Shared) (h':Heap) (e:Addr) (cls:Value) (vs:List Value),Inv X pins σ H s->Heap.MadeExcOf s.heap h' e cls vs->R cls H ->
 X.xe (.ref e) { s with heap:=h' }
section
variable {CX:CXT} {P:Program} {w:World} {K:q0a} {mg:Str->Option Value} {base:Heap} {N:List Str} {qual:Str} {scope:Scope} {f:Addr} {cd:Value} {A:Around} {outer:List Env} {s₀:Shared} {H₀:Hp} {E:XK}
abbrev cxR (P:Program) (w:World) (K:q0a) (mg:Str->Option Value) (base:Heap) (N:List Str) (qual:Str) (scope:Scope) (f:Addr) (cd:Value) (A:Around) (outer:List Env) (s₀:Shared) (H₀:Hp) (E:XK):Cx:=ap5 (CXR P w) P w K mg base N qual scope f cd A outer s₀ H₀ E
theorem bH4 {X:Cx} {pins:List (Addr × Obj)} {σ:St} {H:Hp} {s:Shared} (I:Inv X pins σ H s):HOk X.prog X.w H (q1q s.heap (frs X.stack)):=λb u e=>by
 refine (I.hok b u e).stay (λc v hc q=>v0w _ q λhm=>?_) (λ_ q=>q) λ_ _ q=>q
 have z:=I.stkFree c hm
 rcases hc with rfl | hc
 ·rw [z] at e;cases e
 ·rw [z] at hc;cases hc
theorem ba1:bq5 (cxR P w K mg base N qual scope f cd A outer s₀ H₀ E) (λcls H'=>E cls none H'):=by
 intro pins σ H s h' e cls vs I hx hE
 have frS:=I.stack
 have hin:∀ env ∈ (cxR P w K mg base N qual scope f cd A outer s₀ H₀ E).stack,∀ b,env.frame=some b->b ∈ frs (cxR P w K mg base N qual scope f cd A outer s₀ H₀ E).stack:=λenv he b hb=>m0k.mpr ⟨env,he,hb⟩
 have lo:∀ b o,s₀.heap.get? b=some o->b ∉ frs outer->b ∉ frs (cxR P w K mg base N qual scope f cd A outer s₀ H₀ E).stack:=λb o q hb hm=>by
  rcases z0a.mp (I.stkSub b hm) with z | z
  ·exact absurd z (z0b (q0f (q0j q) I.ok.above))
  ·exact hb z
 refine wpAny_leaves_madeW (base:=q1q s.heap (frs (cxR P w K mg base N qual scope f cd A outer s₀ H₀ E).stack)) I.ok.frames rfl (λb o q=>PySem.W.of_hideAll _ q) (PySem.W.funFrames_hide frS hin) hx λh2 t x1 x2 x3 x4=>?_
 have hk:∀ b o,s.heap.get? b=some o->b ∉ frs (cxR P w K mg base N qual scope f cd A outer s₀ H₀ E).stack->h2.get? b=some o:=λb o q hb=>x1.1 b o (v0w _ q hb)
 have hfr:∀ b o,s.heap.get? b=some o->b ∈ frs (cxR P w K mg base N qual scope f cd A outer s₀ H₀ E).stack->∃ sl,h2.get? b=some { o with slots:=sl }:=λb o q hb=>by
  obtain ⟨_,ob,hob,hnf⟩:=frS.mem hb
  rw [q] at hob;cases hob
  exact x4 b o (hx.keeps b o q) hnf
 have hany:∀ b o,s.heap.get? b=some o->∃ o',h2.get? b=some o':=λb o q=>by
  by_cases hb:b ∈ frs (cxR P w K mg base N qual scope f cd A outer s₀ H₀ E).stack
  ·obtain ⟨sl,z⟩:=hfr b o q hb;exact ⟨_,z⟩
  ·exact ⟨_,hk b o q hb⟩
 have nx:∀ b:Addr,b ∉ (cxR P w K mg base N qual scope f cd A outer s₀ H₀ E).ex:=λb z=>absurd (show b ∈ ([]:List Addr) from z) (by simp)
 refine ⟨e,cls,.ref t,H,_,rfl,I.os,I.bare,x1,λb o q n hb=>v0w _ (I.base.keep b o q n hb (nx b)) (lo b o q hb),λb o q hb=>?_,bH4 I,⟨λb o q n hb _=>?_,λb o q n hb _=>?_,λb o q n _=>I.base.free b o q n (nx b),λb o q _=>?_,I.base.tups,I.base.frzs,I.base.tbls⟩,?_,hE⟩
 ·obtain ⟨o',z⟩:=I.base.there b o q (nx b)
  exact ⟨o',v0w _ z (lo b o q hb)⟩
 ·exact hk b o (I.base.keep b o q n hb (nx b)) (lo b o q hb)
 ·obtain ⟨sl,z⟩:=I.base.slot b o q n hb (nx b)
  have hm:b ∈ frs (cxR P w K mg base N qual scope f cd A outer s₀ H₀ E).stack:=by
   show b ∈ frs (_ :: outer)
   unfold frs at hb ⊢
   rw [v0g]
   exact q0b _ hb
  obtain ⟨sl',z'⟩:=hfr b _ z hm
  exact ⟨sl',z'⟩
 ·obtain ⟨o',z⟩:=I.base.there b o q (nx b)
  exact hany b o' z
 ·cases q:H e with
  | none=>rfl
  | some u =>
   obtain ⟨ob,z⟩:=(I.hok e u q).there
   rw [hx.new] at z;cases z
end
structure bx4 (K:q0a) (C:Addr) (bm:List Value) (newId:String):Prop where
 ok:z1r K C bm newId=true
theorem bx4.obj {K:q0a} {C:Addr} {bm:List Value} {newId:String} (O:bx4 K C bm newId) {h:Heap} (X:K.In h) :
  ∃ tl N nm q bs hdct sn sub ab col dd k0 k1 k2 k3 k5 mN,h.get? C=some (excClassObj nm q C N bs tl hdct sn sub ab col dd k0 k1 k2 k3 k5 newId)/\h.Ns N mN/\mN "__init__" = none/\OwnTail h bm tl:=by
 have q:=O.ok
 unfold z1r at q
 split at q
 ·rename_i dd cd sl ho
  split at q
  ·rename_i C' bm' k0 k1 k2 k3 n k5 hm hs
   simp only [y0a,beq_iff_eq,m0s] at q
   obtain ⟨⟨⟨⟨⟨rfl,rfl⟩,hdel⟩,ht⟩,hok⟩,hni⟩:=q
   obtain ⟨nm,bs,mro,ns,qn,hd,sn,sub,ab,col,del⟩:=cd
   dsimp only at hm hdel hok hni
   subst hm hdel
   have hsl:sl = #[k0,k1,k2,k3,some (.builtin n),k5]:=by
    obtain ⟨l⟩:=sl
    simp only at hs
    rw [hs]
   subst hsl
   exact ⟨bm',ns,nm,qn,bs,hd,sn,sub,ab,col,dd,k0,k1,k2,k3,k5,_,X _ _ ho,.of_isNs (PySem.W.isNs_of_in X hok),PySem.W.nsMap_none_of_in X hok hni,PySem.W.tail_of_in X ht⟩
  ·cases q
 ·cases q
section
variable {X:Cx} {x:Str} {C:Addr} {bm:List Value} {newId B initId:String} {e:Expr} {es:List Expr} {te:TA} {np cpos pos:Pos} {R:Value->Hp->Prop}
def aO4 (C:Addr) (te:TA) (R:Value->Hp->Prop):TS:=λ_ σ H=>te σ H λvs H1=>vs.length<=sizeLine/\R (.ref C) H1
theorem bh2 (O:bx4 X.K C bm newId) (FB:ExcBaseFacts B newId initId bm) (hc:X.calm=true) (hg:Gl X x) (hm:X.mg x=some (.ref C)) (hr:bq5 X R) (he:PA X (e :: es) te)
  (hst:starEach (e :: es) X.env=(false,eval e X.env) :: starEach es X.env:=by rfl) (hplain:(backTo cpos (starEach es X.env)).any (·.1)=false:=by rfl) (hd:(x == ("__debug__" : Str))=false:=by decide) :
  PS X (.Raise (some (.Call (.Name x np) (e :: es) [] cpos)) none pos) (aO4 C te R):=by
 intro pins s σ H D I h
 obtain ⟨tl,N,nm,q,bs,hdct,sn,sub,ab,col,dd,k0,k1,k2,k3,k5,mN,hC,hN,hni,T⟩:=O.obj I.ok.mod.kin
 refine wpAny_Raise_call_subT (C:=C) (nm:=nm) (q:=q) (N:=N) (bs:=bs) (bm:=tl) (hdct:=hdct) (sn:=sn) (sub:=sub) (ab:=ab) (col:=col) (dd:=dd) (k0:=k0) (k1:=k1) (k2:=k2) (k3:=k3) (k5:=k5)
  FB (mN:=mN) (T.hasType FB.hasBase) (I.ok.hd hc) (by rw [hst];show (false || (backTo cpos (starEach es X.env)).any (·.1))=false;rw [hplain];rfl) hni (aj4 I hg hm ⟨rfl,?_⟩ hd)
 have hA:=he cpos pins s σ H _ I h
 rw [hst] at hA ⊢
 refine Calls.evalArgs_plain (thn hA λus s2 ⟨vs,H1,I1,r1,hl,q1⟩=>⟨rfl,?_,I1.bk _ _ hC,hN.keeps I1.bk,T.keeps I1.bk,λh' a hx=>hr pins σ H1 s2 h' a _ us I1 hx q1⟩)
 show us.length<=sizeLine
 rw [<- r1.length];exact hl
end
section
variable {X:Cx} {pins:List (Addr × Obj)} {σ:St} {H H':Hp} {s s':Shared}
theorem Inv.reA {A2:Around} {c2:Bool} {E2:Value->Shared->Prop} (I:Inv X pins σ H s) (hf:A2.frames=X.A.frames) (hc:c2=true->A2.handled=none):Inv { X with A:=A2,calm:=c2,xe:=E2 } pins σ H s :=
 ⟨⟨I.ok.mod,I.ok.kind,I.ok.glob,I.ok.blt,I.ok.above,I.ok.inj,I.ok.has,I.ok.cab,hc,hf.trans I.ok.frames,I.ok.stk,I.ok.exf,I.ok.bs,I.ok.bsz,I.ok.noex,I.ok.exfs,I.ok.funs,I.ok.frf⟩,
  I.os,I.bare,I.base,I.loc,I.cell,I.free,I.freeC,I.pin,I.hok,I.len⟩
theorem Inv.unA {A2:Around} {c2:Bool} {E2:Value->Shared->Prop} (I:Inv { X with A:=A2,calm:=c2,xe:=E2 } pins σ H s) (ok:X.Ok):Inv X pins σ H s :=
 ⟨ok,I.os,I.bare,I.base,I.loc,I.cell,I.free,I.freeC,I.pin,I.hok,I.len⟩
theorem Inv.bear {E2:Value->Shared->Prop} (I:Inv X pins σ H s):Inv { X with xe:=E2,pn:=X.pn ++ pins } [] σ H s :=
 ⟨⟨I.ok.mod,I.ok.kind,I.ok.glob,I.ok.blt,I.ok.above,I.ok.inj,I.ok.has,I.ok.cab,I.ok.hd,I.ok.frames,I.ok.stk,I.ok.exf,I.ok.bs,I.ok.bsz,I.ok.noex,I.ok.exfs,I.ok.funs,I.ok.frf⟩,
  I.os,I.bare,I.base,I.loc,I.cell,I.free,I.freeC,λp hp=>I.pin p (by simpa using hp),I.hok,I.len⟩
theorem Inv.unbear {E2:Value->Shared->Prop} {pins':List (Addr × Obj)} (I:Inv { X with xe:=E2,pn:=X.pn ++ pins } pins' σ H s):Inv X pins σ H s :=
 ⟨⟨I.ok.mod,I.ok.kind,I.ok.glob,I.ok.blt,I.ok.above,I.ok.inj,I.ok.has,I.ok.cab,I.ok.hd,I.ok.frames,I.ok.stk,I.ok.exf,I.ok.bs,I.ok.bsz,I.ok.noex,I.ok.exfs,I.ok.funs,I.ok.frf⟩,
  I.os,I.bare,I.base,I.loc,I.cell,I.free,I.freeC,λp hp=>I.pin p (v0a _ hp),I.hok,I.len⟩
def an7 (X:Cx):St:=z0e X.N.length none
theorem Inv.forget (I:Inv X pins σ H s):Inv X pins (an7 X) H s :=
 I.weak (by unfold an7;rw [v0m];exact I.len.symm) λi v e=>by
  unfold an7 at e
  rw [v0y] at e
  split at e <;> cases e
theorem Inv.relocal {h':Heap} {m':Str->Option Value} {t':Nat} (I:Inv X pins σ H s) (hn':h'.Ns X.env.locals m') (hs:g0t X.env.locals s.heap h'):Inv X pins (an7 X) H { s with heap:=h',toks:=t' }:=by
 have cne:=I.cne
 refine ⟨I.ok,I.os,I.bare,⟨λb o e n hb hx=>?_,λb o e n hb hx=>?_,I.base.free,λb o e hx=>?_,I.base.tups,I.base.frzs,I.base.tbls⟩,⟨_,hn',λj y v' e1 e2 e3=>?_⟩,λy c e=>?_,I.free,I.freeC,λp hp=>?_,λb ob e=>?_,?_⟩
 ·exact (hs.2 b (z0b (q0f (q0j e) I.ok.above))).trans (I.base.keep b o e n hb hx)
 ·obtain ⟨sl,e1⟩:=I.base.slot b o e n hb hx
  exact ⟨sl,(hs.2 b (z0b (q0f (q0j e) I.ok.above))).trans e1⟩
 ·obtain ⟨o',e1⟩:=I.base.there b o e hx
  exact ⟨o',(hs.2 b (z0b (q0f (q0j e) I.ok.above))).trans e1⟩
 ·unfold an7 at e2
  rw [v0y] at e2
  split at e2 <;> cases e2
 ·obtain ⟨w',z⟩:=I.cell y c e
  exact ⟨w',z.sameBut hs (cne y c e)⟩
 ·obtain ⟨e,n,ne,nf,d⟩:=I.pin p hp
  exact ⟨(hs.2 p.1 ne).trans e,n,ne,nf,d⟩
 ·refine (I.hok b ob e).stay (λc w' hc q=>(hs.2 c ?_).trans q) (λ_ q=>q) λ_ _ q=>q
  rintro rfl
  rcases hc with rfl | hc
  ·rw [I.free] at e;cases e
  ·rw [I.free] at hc;cases hc
 ·show (z0e X.N.length none).length=_
  exact v0m
def Exc (cls:Value) (a:Addr):HO:=.ext λh => ∃ o vs,h.get? a=some o/\o.cls=cls/\o.data=.fields vs
end
theorem Exc.ok {P:Program} {w:World} {H:Hp} {h:Heap} {cls:Value} {a:Addr} {o:Obj} {vs:Array Value} (h1:h.get? a=some o) (h2:o.cls=cls) (h3:o.data=.fields vs):E9 P w H h a (Exc cls a) :=
 ⟨⟨o,vs,h1,h2,h3⟩,⟨o,h1⟩,λ_ _ ⟨o,vs,q1,q2,q3⟩ k=>⟨o,vs,k o q1,q2,q3⟩⟩
theorem Inv.track {X:Cx} {pins:List (Addr × Obj)} {σ:St} {H:Hp} {s:Shared} {o:HO} {a:Addr} (I:Inv X pins σ H s) (hn:H a=none) (new:E9 X.prog X.w (upd H a o) s.heap a o)
  (h1:∀ b ob,X.s₀.heap.get? b=some ob->X.H₀ b=none->b ∉ X.ex->b ≠ a) (h2:X.env.locals ≠ a) (h3:∀ x c,X.env.cells.lookup x=some c->c ≠ a) (h4:∀ p ∈ X.pn ++ pins,p.1 ≠ a):Inv X pins σ (upd H a o) s :=
 ⟨I.ok,I.os,I.bare,⟨I.base.keep,I.base.slot,λb ob q n hx=>by rw [g8 (h1 b ob q n hx)];exact I.base.free b ob q n hx,I.base.there,λb xs q=>by rw [g8 (g7 (I.base.tups b xs q) hn)];exact I.base.tups b xs q,
   λb ob u q=>by rw [g8 (g7 (I.base.frzs b ob u q) hn)];exact I.base.frzs b ob u q,λb ps q=>by obtain ⟨m,z⟩:=I.base.tbls b ps q;exact ⟨m,by rw [g8 (g7 z hn)];exact z⟩⟩,
  I.loc,I.cell,by rw [g8 h2];exact I.free,λx c q=>by rw [g8 (h3 x c q)];exact I.freeC x c q,λp hp=>let ⟨e1,e2,e3⟩:=I.pin p hp;⟨e1,by rw [g8 (h4 p hp)];exact e2,e3⟩,
  λb u e=>by
   by_cases hb:b=a
   ·subst hb;rw [c4] at e;cases e;exact new
   ·rw [g8 hb] at e
    exact (I.hok b u e).stay (λ_ _ _ q=>q) (λc q=>by rw [g8 (g7 q hn)];exact q) λc xs q=>by rw [g8 (g7 q hn)];exact q,
  I.len⟩
theorem Inv.caught {X:Cx} {pins:List (Addr × Obj)} {σ:St} {H:Hp} {s s':Shared} {a:Addr} {cls a0:Value} {H':Hp} {B h6:Heap} (I:Inv X pins σ H s) (os:s'.os=s.os) (bare:AllBare s'.gens) (fl:j1a B X.stack a cls a0 s'.heap)
  (hB:∀ b o,s.heap.get? b=some o->H b=none->b ∉ frs X.stack->B.get? b=some o) (hth:∀ b o,s.heap.get? b=some o->b ∉ frs X.stack->∃ o',B.get? b=some o') (hok:HOk X.prog X.w H' B)
  (un:Un (frs X.stack) [] H H' s.heap s'.heap) (st:B.StaysIn h6) (up:s'.heap.UpToSlots h6):Inv X pins σ H' { s' with heap:=h6 }:=by
 have hfr:∀ b o,s'.heap.get? b=some o->b ∈ frs X.stack->∃ sl,h6.get? b=some { o with slots:=sl }:=λb o q hb=>by
  obtain ⟨_,ob,hob,hnf⟩:=fl.2.2.1.mem hb
  rw [q] at hob;cases hob
  exact up b o q hnf
 refine I.call' (s':={ s' with heap:=h6 }) (ch:=[]) os ⟨λb o q n hb _=>st b o (hB b o q n hb),λb o q n hb _=>?_,un.free,λb o q _=>?_,un.tups,un.frzs,un.tbls⟩ (hok.kept λb u q=>st b u q) bare (λb z=>absurd z (by simp))
 ·obtain ⟨sl,z⟩:=un.slot b o q n hb (by simp)
  obtain ⟨sl2,z2⟩:=hfr b _ z hb
  exact ⟨sl2,z2⟩
 ·by_cases hb:b ∈ frs X.stack
  ·obtain ⟨o2,z2⟩:=un.there b o q (by simp)
   obtain ⟨sl,z3⟩:=hfr b o2 z2 hb
   exact ⟨_,z3⟩
  ·obtain ⟨o2,z2⟩:=hth b o q hb
   exact ⟨o2,st b o2 z2⟩
abbrev Cx.body (X:Cx) (xe:Value->Shared->Prop) (pn:List (Addr × Obj)):Cx:={ X with xe:=xe,pn:=pn }
abbrev Cx.suite (X:Cx) (a:Addr):Cx:={ X with A:=X.A.mark (some (.ref a)),calm:=false,xe:=λ_ _=>False }
def bK6 (K:q0a) (n C i:Nat) (tb:XK->TS) (th:Addr->TS):TS:=λD σ H =>
 tb (λcls _ H'=>PySem.W.exmOne K cls (.ref C)=some true/\∀ a,H' a=none->th a { nx:=λ_ _=>False,rt:=D.rt } ((z0e n none).set i (some (.ref a))) (upd H' a (Exc cls a))) D σ H
section
variable {X:Cx}
theorem bD5 {body:List Stmt} {x n:Str} {C:Addr} {i:Nat} {b₀:Stmt} {suite:List Stmt} {tb:XK->TS} {th:Addr->TS} {np hpos pos:Pos} {l:List Env} (hst:X.stack=X.env :: l) (hfr:X.env.frame=some X.env.locals)
  (hex0:X.ex=[]) (hN:X.N.Nodup) (hi:X.N[i]? = some n) (hl:X.env.kindOf n=some .local) (hg:Gl X x) (hm:X.mg x=some (.ref C)) 
  (hb:∀ (E:XK) (xe:Value->Shared->Prop) (pn:List (Addr × Obj)),av9 (CXR X.prog X.w) (X.body xe pn) E->PSs (X.body xe pn) body (tb E))
  (hs:∀ a,PSs (X.suite a) (b₀ :: suite) (th a)) (hd:(x == ("__debug__" : Str))=false:=by decide) :
  PS X (.Try body [.ExceptHandler (some (.Name x np)) (some n) (b₀ :: suite) hpos] [] [] pos) (bK6 X.K X.N.length C i tb th):=by
 intro pins s σ H D I h
 refine wpAny_Try_except ?_
 refine wpAny_mono (hb _ (λe s₁=>wpAny (model X.prog X.w) X.A (noteFrame e X.env) (λ_ s₂=>wpAny (model X.prog X.w) X.A (setFlight e none) (λ_ s₃=>wpAny (model X.prog X.w) X.A (handleBy e X.env [.ExceptHandler (some (.Name x np)) (some n) (b₀ :: suite) hpos]) (SP X pins D) X.xe s₃) X.xe s₂) X.xe s₁) (X.pn ++ pins) ?_ [] s σ H D I.bear h) ?_ λ_ _ z=>z
 case refine_2 =>
  intro f s1 hf
  cases f with
  | next =>
   obtain ⟨σ',H',J,q⟩:=hf
   exact wpAny_execs_nil ⟨σ',H',J.unbear,q⟩
  | brk =>
   obtain ⟨σ',H',J,q⟩:=hf
   exact ⟨σ',H',J.unbear,q⟩
  | cont =>
   obtain ⟨σ',H',J,q⟩:=hf
   exact ⟨σ',H',J.unbear,q⟩
  | ret u =>
   obtain ⟨v,σ',H',J,r,q⟩:=hf
   exact ⟨v,σ',H',J.unbear,r,q⟩
 case refine_1 =>
  intro pins' σ' H1 s1 e s2 J0 hcx
  have J:Inv X pins σ' H1 s1:=J0.unbear
  obtain ⟨a,cls,a0,H2,B,rfl,os,bare,fl,hB,hth,hok,un,hn,hE⟩:=hcx
  obtain ⟨hex,hsu⟩:=hE
  have fl':j1a B (X.env :: l) a cls a0 s2.heap:=by rw [<- hst];exact fl
  refine wpAny_looks_onW (by rw [J.ok.frames,hst]) hfr fl' λh4 held4 up4=>?_
  refine wpAny_landsW held4 λh5 fl5 up5=>?_
  have J5:Inv X pins σ' H2 { s2 with heap:=h5 }:=J.caught os bare fl hB hth hok un fl5.1 (up4.trans up5)
  obtain ⟨ob,hob,hobc⟩:=fl5.there
  have LT:PySem.W.Looks (model X.prog X.w) h5 (typeOf (.ref a)) cls:=hobc ▸ (PySem.W.Looks.ld hob).andThen .now
  have J5h:Inv (X.suite a) pins σ' H2 { s2 with heap:=h5 }:=J5.reA rfl (λz=>nomatch z)
  refine wpAny_handleBy_cons (codeAny_handlers_test (aj4 (X:=X.suite a) J5h hg hm ?_ hd)) (by intro q;cases q)
  refine (PySem.W.exm_one (M:=model X.prog X.w) J5.kIn LT hex).at ?_
  refine codeAny_handlers_suite_as ?_
  refine lands_againW fl5 λh6 fl6 up6=>?_
  have J6:Inv X pins σ' H2 { s2 with heap:=h6 }:=J.caught os bare fl hB hth hok un fl6.1 ((up4.trans up5).trans up6)
  have J6h:Inv (X.suite a) pins (an7 X) H2 { s2 with heap:=h6 }:=(show Inv (X.suite a) pins σ' H2 { s2 with heap:=h6 } from J6.reA rfl (λz=>nomatch z)).forget
  -- the exception is tracked
  obtain ⟨oe,ws,hoe,hoec,hoed,_⟩:=fl6.first
  have nfr:∀ b ∈ frs X.stack,b ≠ a:=λb hb z=>by
   obtain ⟨_,o',ho',hnf⟩:=fl6.2.2.1.mem (show b ∈ frs (X.env :: l) from hst ▸ hb)
   subst z
   have ho6:h6.get? b=some o':=ho'
   rw [hoe] at ho6;cases ho6
   exact hnf ws hoed
  have nB:∀ b o,B.get? b=some o->b ≠ a:=λb o q z=>by rw [z,fl.2.1] at q;cases q
  have nL:X.env.locals ≠ a:=nfr _ (by rw [hst];unfold frs;rw [v0g,hfr];exact q0c)
  have J7:Inv (X.suite a) pins (an7 X) (upd H2 a (Exc cls a)) { s2 with heap:=h6 }:=by
   refine J6h.track hn (Exc.ok hoe hoec hoed) (λb ob q n hx=>?_) nL (λy c q=>?_) (λp hp=>?_)
   ·have hx':b ∉ X.ex:=hx
    by_cases hbf:b ∈ frs X.stack
    ·exact nfr b hbf
    ·have z1:b ∉ X.fs:=λz=>hbf (by
      rcases J.ok.stk with e | ⟨e,_⟩
      ·rw [e];exact z
      ·rw [e];unfold frs;rw [v0g,hfr];exact q0b _ z)
     exact nB b ob (hB b ob (J.base.keep b ob q n z1 hx') (J.base.free b ob q n hx') hbf)
   ·obtain ⟨v,o',ho',hd'⟩:=J6h.cell y c q
    intro z
    subst z
    have z1:h6.get? c=some o':=ho'
    rw [hoe] at z1;cases z1
    rw [hoed] at hd';cases hd'
   ·have hp':p ∈ X.pn ++ pins:=hp
    obtain ⟨e1,e2,e3,e4,_⟩:=J.pin p hp'
    refine nB p.1 p.2 (hB p.1 p.2 e1 e2 λz=>?_)
    rcases z0a.mp (J.stkSub p.1 z) with y | y
    ·exact e3 y
    ·exact e4 y
  refine Y8 (X:=X.suite a) J7 hN hi (.inl hl) (v:=.ref a) (u:=.ref a) rfl (λs8 J8=>?_) (.inr hl)
  refine wpAny_mono (hs a pins s8 _ _ { nx:=λ_ _=>False,rt:=D.rt } J8 (hsu a hn)) (λf s9 hf=>?_) λ_ _ z=>False.elim z
  cases f with
  | next=>obtain ⟨_,_,_,q⟩:=hf;exact False.elim q
  | brk=>obtain ⟨_,_,_,q⟩:=hf;exact False.elim q
  | cont=>obtain ⟨_,_,_,q⟩:=hf;exact False.elim q
  | ret u =>
   obtain ⟨v,σ9,H9,J9,r9,q9⟩:=hf
   obtain ⟨m9,hn9,_⟩:=id J9.loc
   have J9':Inv X pins σ9 H9 s9:=J9.unA J.ok
   refine wpAny_nameGoes hl hn9 (by rw [J.ok.kind];rfl) λh' m' hn' hs'=>?_
   exact ⟨v,an7 X,H9,J9'.relocal hn' hs',r9,q9⟩
end
structure N3 (k:Nat) (A:Around):Prop where
 dp:A.depth+3*k+5<recursionLimit
 un:A.units+16*k+200<cLine
theorem V9.toX {k:Nat} {A:Around} (r:V9 k A):N3 k A:=⟨r.dp,r.un⟩
theorem N3.mono {j k:Nat} {A:Around} (r:N3 k A) (h:j<=k):N3 j A:=⟨by have:=r.dp;omega,by have:=r.un;omega⟩
theorem N3.deeper {k:Nat} {A:Around} (r:N3 (k+1) A) (env:Env):N3 k (A.deeper env) :=
 ⟨by have:=r.dp;show A.depth+1+3*k+5<_;omega,by have:=r.un;show A.units+3+16*k+200<_;omega⟩
theorem N3.mark {k:Nat} {A:Around} (r:N3 k A) (v:Option Value):N3 k (A.mark v):=⟨r.dp,r.un⟩
theorem N3.depth {k:Nat} {A:Around} (r:N3 k A):A.depth<recursionLimit:=by have:=r.dp;omega
structure aY8 (P:Program) (w:World) (K:q0a) (mg:Str->Option Value) (base:Heap) (k:Nat) (f:Addr) (fd:FuncData) (ps:List Str) (sp:Sp):Prop where
 len:∀ vs H Q E,sp vs H Q E->vs.length=ps.length
 run:∀ (A:Around) (outer:List Env) (s:Shared) (H:Hp) (args:Args) (us:List Value) (vs:List V) (Q:VK) (E:XK),N3 k A->bd4 P w K mg base A outer s H->BindsTo s fd args (ps.zip us)->n5 vs us->sp vs H Q E ->
  codeAny (model P w) A (.call (.ref f) args) (CR CX0 outer P w H s Q E) s
abbrev cxX (P:Program) (w:World) (K:q0a) (mg:Str->Option Value) (base:Heap) (N:List Str) (qual:Str) (scope:Scope) (f:Addr) (cd:Value) (A:Around) (outer:List Env) (s₀:Shared) (H₀:Hp) (E:XK):Cx :=
 { ap5 CX0 P w K mg base N qual scope f cd A outer s₀ H₀ E with calm:=false,xe:=λ_ _=>False }
theorem Fun.okX {P:Program} {w:World} {K:q0a} {mg:Str->Option Value} {base:Heap} {x qual:Str} {st:Stmt} {f:Addr} {fd:FuncData} {N ps:List Str} {k:Nat} {sp:Sp} (F:Fun K x qual st f fd) (S:i7 N ps (c6 st)) (len:∀ vs H Q E,sp vs H Q E->vs.length=ps.length)
  (hbody:∀ (cdv:Value) (A:Around) (outer:List Env) (s:Shared) (H:Hp) (vs:List V) (Q:VK) (E:XK),N3 k (A.deeper (envOfC qual (c6 st) s.heap.objs.size f cdv))->sp vs H Q E ->
   ∃ t,PSs (cxX P w K mg base N qual (c6 st) f cdv A outer s H E) (M4 st) t/\t { nx:=λ_ H'=>Q .non H',rt:=Q } (start N vs) H):aY8 P w K mg base (k+1) f fd ps sp:=by
 obtain ⟨oc,od,kV,doc,pm,an,cdv,ct,osl,rfl,lk,hcd⟩:=F.ex
 refine ⟨len,λA outer s H args us vs Q E hr e0 hb r hsp=>?_⟩
 have hl:=len _ _ _ _ hsp
 have KX:K.In s.heap:=e0.mod.kin.keeps λb o e=>(e0.bs b o e).1
 have lim:s.heap.NoLimit:=e0.mod.nolimit.keeps λb o e=>(e0.bs b o e).1
 have hkind:∀ y ∈ ps.zip us,(c6 st).names.lookup y.1=some .local \/ ((c6 st).names.lookup y.1=some .cell/\((cellsFrom (s.heap.objs.size+1) (c6 st).names []).lookup y.1).isSome=true):=λ⟨n,v⟩ hy=>by
  rcases S.par n (g0v hy).1 with q | q
  ·exact .inl q
  ·exact .inr ⟨q,g0h _ _ _ (.inl q)⟩
 refine codeAny_call_function hr.depth (KX _ _ lk) rfl S.co S.gen rfl (PySem.W.codeRec_of KX hcd) (hb _ _ _ _ ?_)
 refine wpAny_newFunctionEnv_cells S.kind hkind λenv he s1 x=>?_
 subst he
 refine ⟨lim.keeps x.toInCall.keep,codeAny_func ?_⟩
 obtain ⟨t,ht,hq⟩:=hbody cdv A outer s H vs Q E (hr.deeper _) hsp
 have e0':bd4 P w K mg base { A with handled:=none } outer s H:=⟨e0.frames,e0.mod,e0.bs,e0.bsz,e0.funs,e0.frf,e0.hok,e0.bare⟩
 have I0:Inv (ap5 CX0 P w K mg base N qual (c6 st) f cdv { A with handled:=none } outer s H E) [] (start N vs) H s1:=aA7 S rfl e0' hl r x
 have I:Inv (cxX P w K mg base N qual (c6 st) f cdv A outer s H E) [] (start N vs) H s1:=I0.reA (A2:=A.deeper (envOfC qual (c6 st) s.heap.objs.size f cdv)) (by rfl) (λz=>nomatch z)
 refine wpAny_mono (ht [] s1 (start N vs) H _ I hq) (λfl s' hs=>?_) λe s' hs=>False.elim hs
 have fin:∀ {σ':St} {H':Hp} {v:V} {u:Value},Inv (cxX P w K mg base N qual (c6 st) f cdv A outer s H E) [] σ' H' s'->x8 v u->Q v H'->CE outer P w H s Q u s' :=
  fun {σ' H' v u} J rv q=>⟨v,H',J.os,J.bare,J.base,J.hok,rv,q⟩
 cases fl with
 | ret u =>
  obtain ⟨v,σ',H',J,rv,q⟩:=hs
  exact fin J rv q
 | next =>
  obtain ⟨σ',H',J,q⟩:=hs
  exact fin (v:=V.non) (u:=Value.none) J rfl q
 | brk =>
  obtain ⟨_,_,_,q⟩:=hs
  exact False.elim q
 | cont =>
  obtain ⟨_,_,_,q⟩:=hs
  exact False.elim q
section
variable {X:Cx} {CX:CXT} {k:Nat} {f:Addr} {fd:FuncData} {ps:List Str} {sp:Sp} {E:XK} {x:Str} {p pos:Pos} {e:Expr} {es:List Expr} {t:TA}
theorem bs0 {pins:List (Addr × Obj)} {σ:St} {H:Hp} {s:Shared} {Q:VK} {us:List Value} {vs:List V} (F:aY8 X.prog X.w X.K X.mg X.base k f fd ps sp) (hr:N3 k X.A) (hb:ae4 X.K fd ps [])
  (I:Inv X pins σ H s) (r:n5 vs us) (h:sp vs H Q E):wpAny (model X.prog X.w) X.A (call (.ref f) us) (EP X pins σ Q) X.xe s:=by
 have hl:(us ++ []).length=ps.length:=by rw [u0s,<- r.length];exact F.len _ _ _ _ h
 have hb':=hb s us I.kIn hl
 rw [u0s] at hb'
 refine wpAny_call (codeAny_mono (F.run X.A X.stack s H ⟨us,[]⟩ us vs Q E hr I.env0 hb' r h) λr s' hq=>?_)
 cases r with
 | error e=>exact False.elim hq
 | ok fl =>
  cases fl with
  | ret u=>exact I.after hq
  | next=>exact False.elim hq
  | brk=>exact False.elim hq
  | cont=>exact False.elim hq
def aD1 (sp:Sp) (t:TA):TE:=λσ H Q=>t σ H λvs H1=>sp vs H1 Q E0
theorem bi3 (F:aY8 X.prog X.w X.K X.mg X.base k f fd ps sp) (hr:N3 k X.A) (hg:Gl X x) (hm:X.mg x=some (.ref f)) (hk:y0x X.K (.ref f)=true) (hb:ae4 X.K fd ps [])
  (ha:PA X (e :: es) t) (hdb:(x == ("__debug__" : Str))=false:=by decide) (he:starEach (e :: es) X.env=(false,eval e X.env) :: starEach es X.env:=by rfl) (hpl:(backTo pos (starEach es X.env)).any (·.1)=false:=by rfl) :
  PE X (.Call (.Name x p) (e :: es) [] pos) (aD1 sp t):=by
 intro pins s σ H Q I h
 refine wpAny_Call_Name_kw (aj4 I hg hm ?_ hdb)
 refine PySem.W.callWith_K (h₀:=X.base) I.ok.mod.kin hk (thn (ha pos pins s σ H _ I h) λus s1 ⟨vs,H1,I1,r,q⟩=>⟨I1.kIn,?_⟩) he hpl
 exact bs0 F hr hb I1 r q
structure FnV (P:Program) (w:World) (K:q0a) (mg:Str->Option Value) (base:Heap) (k:Nat) (f:Addr) (sp:Sp):Prop where
 ex:∃ fd ps,ak3 P w K mg base (CXR P w) k f fd ps sp/\ae4 K fd ps []
 kp:y0x K (.ref f)=true
end
end L2
-- the class of an exception,isinstance,great numbers
set_option maxRecDepth 100000
namespace L2
open PySem PySem.W PySem.Spec PyProof.Rows Builtin Builtin.ObjectAttr Builtin.Getset_descriptor
section
variable {prog:Program} {w:World} {A:Around} {E:Value->Shared->Prop} {s:Shared} {K:Frag} {a C:Addr} {o:Obj}
theorem ax6 {R:Result->Shared->Prop} {tp:Value} (X:K.In s.heap) (hx:s.heap.get? a=some o) (hc:o.cls=.ref C) (hm:mroIn K C (.type "object")=some true)
  (h:R (.ok (.ret (.ref C))) s):codeAny (model prog w) A (.call (.builtin "getset_descriptor.__get__") ⟨[.builtin "object.__class__",.ref a,tp],[]⟩) R s:=by
 obtain ⟨hh,g,dr,t,os⟩:=s
 have L0:Looks (model prog w) hh (typeOf (.ref a)) (.ref C):=hc ▸ (Looks.ld hx).andThen .now
 have L1:=looks_mroIn (M:=model prog w) X hm
 refine codeAny_call_builtin KF.slot_gs.plain KF.entry_gs (KF.slot_gs.check _ _ _ _ _ _ _ _ KF.type_class (KF.args_gs _ _ _) ?_)
 unfold Builtin.«getset_descriptor.__get__» descrGet
 rw [dga_obj]
 refine wpAny_bind (wpAny_pure ?_)
 unfold descrGetter descrCheckInstance descrNameAndClass isInstance
 simp only [KF.owner_class]
 repeat lk
 refine ⟨Code.quiet_builtin _ (by trivial),codeAny_builtin KF.entry_class ?_⟩
 unfold Builtin.«object.__class__» shownTypeOf
 repeat lk
 exact h
theorem bb7 {tk:Tok} {Q:Fin->Shared->Prop} (X:K.In s.heap) (hx:s.heap.get? a=some o) (hc:o.cls=.ref C) (g3:findIn K (.ref C) "__class__" = some (some (.builtin "object.__class__"))) (hm:mroIn K C (.type "object")=some true)
  (hq:Q (.done (.ret (.ref C))) s):wpAny (model prog w) A (Builtin.«object.__getattribute__» ⟨[.ref a,.str "__class__" tk],[]⟩) Q E s:=by
 obtain ⟨hh,g,dr,t,os⟩:=s
 have L0:Looks (model prog w) hh (typeOf (.ref a)) (.ref C):=hc ▸ (Looks.ld hx).andThen .now
 have L1:=looks_findIn (M:=model prog w) X g3
 have f5:typeOf (.builtin "object.__class__")=pure (.type "getset_descriptor"):=KF.type_class
 have f6:=F.slot_gs_get.lookup
 have f7:=F.slot_gs_set.lookup
 repeat (any_goals (first | assumption | (with_reducible refine wpAny_loadPart_at hx ?_;rw [hc]) | with_reducible refine L1.at ?_ | wp_step))
 refine ax6 X hx hc hm ?_
 repeat (any_goals (first | assumption | wp_step))
theorem bb9 {M:Model} {nameV:Value} {Q:Unit->Shared->Prop} (X:K.In s.heap) (hx:s.heap.get? a=some o) (hc:o.cls=.ref C) (hmB:mroIn K C (.type "BaseException")=some true) (hq:Q () s) :
  wpAny M A (checkBuiltinCall "BaseException.__getattribute__" ⟨[.ref a,nameV],[]⟩) Q E s:=by
 obtain ⟨hh,g,d,t,os⟩:=s
 have L3:=looks_mroIn (M:=M) X hmB
 have hk:builtinKind "BaseException.__getattribute__" = some .slot:=by trivial
 have hsplit:splitId "BaseException.__getattribute__" = some ("BaseException","__getattribute__"):=by trivial
 have ha:=F.args_bexc_ga (.ref a) nameV
 simp only [checkBuiltinCall,hk,hsplit]
 refine wpAny_bind ?_
 ·unfold isInstance
  repeat (first | (with_reducible refine wpAny_loadPart_at hx ?_;rw [hc]) | with_reducible refine L3.at ?_ | wp_step)
  exact hq
theorem bb8 {Q:Option Value->Shared->Prop} (X:K.In s.heap) (hx:s.heap.get? a=some o) (hc:o.cls=.ref C) (g1:findIn K (.ref C) "__getattribute__" = some (some (.builtin "BaseException.__getattribute__"))) (g2:findIn K (.ref C) "__getattr__" = some none)
  (g3:findIn K (.ref C) "__class__" = some (some (.builtin "object.__class__"))) (hm:mroIn K C (.type "object")=some true) (hmB:mroIn K C (.type "BaseException")=some true) 
  (h:Q (some (.ref C)) { s with toks:=s.toks+1 }):wpAny (model prog w) A (getAttr? (.ref a) "__class__") Q E s:=by
 obtain ⟨hh,g,d,t,os⟩:=s
 have L0:Looks (model prog w) hh (typeOf (.ref a)) (.ref C):=hc ▸ (Looks.ld hx).andThen .now
 have L1:=looks_findIn (M:=model prog w) X g1
 have L2:=looks_findIn (M:=model prog w) X g2
 have L3:=looks_mroIn (M:=model prog w) X hmB
 unfold getAttr? getAttrBy? getAttrBy
 refine wpAny_bind (wpAny_mkText (wpAny_bind (wpAny_attempt (wpAny_holding (wpAny_bind (L0.at (wpAny_bind (L1.at ?_))))))))
 have hx2:(Value.builtin "BaseException.__getattribute__" == Value.builtin "object.__getattribute__")=false:=by trivial
 have hx1:(onTheHeap (Value.ref C) && Value.builtin "BaseException.__getattribute__" == Value.builtin "object.__getattribute__")=false:=by rw [hx2];rfl
 show wpAny _ _ (if (onTheHeap (Value.ref C) && Value.builtin "BaseException.__getattribute__" == Value.builtin "object.__getattribute__")=true then _ else _) _ _ _
 rw [if_neg (by rw [hx1];decide)]
 have f3:=PySem.F.attr_ValueError.ga.bind (.ref a)
 have hx0:(false && onTheHeap (Value.builtin "BaseException.__getattribute__"))=false:=rfl
 unfold getAttrByItsOwn hookBefore
 repeat (any_goals (first | assumption | (with_reducible refine wpAny_loadPart_at hx ?_;rw [hc]) | with_reducible refine L1.at ?_ | with_reducible refine L2.at ?_ | wp_step))
 refine codeAny_call_builtin PySem.F.attr_ValueError.ga.plain F.entry_bexc_ga (bb9 X hx hc hmB (bb7 X hx hc g3 hm ?_))
 dsimp only
 unfold handedOut
 exact wpAny_pure (wpAny_pure h)
structure aw0 (K:Frag) (C:Addr):Prop where
 cl:(clsIn K C).isSome=true
 g1:findIn K (.ref C) "__getattribute__" = some (some (.builtin "BaseException.__getattribute__"))
 g2:findIn K (.ref C) "__getattr__" = some none
 g3:findIn K (.ref C) "__class__" = some (some (.builtin "object.__class__"))
 hm:mroIn K C (.type "object")=some true
 hB:mroIn K C (.type "BaseException")=some true
theorem bk8 (c:aw0 K C):KitX K (.ref a) (.ref C) (λh => ∃ o,h.get? a=some o/\o.cls=.ref C) where
 ty:=λ_ _ _ ⟨o,hx,hc⟩=>hc ▸ (Looks.ld hx).andThen .now
 it:=λ_ _ X _=>by
  obtain ⟨cdD,hcD⟩:=u0u.mp c.cl
  unfold clsIn at hcD
  split at hcD
  ·rename_i c' d' cd' sl' ho
   intro A' Q' E' s' k q
   unfold isType loadHead
   exact wpAny_bind (wpAny_loadPart (k _ _ (X _ _ ho)) (wpAny_pure q))
  ·cases hcD
 ne:=λh tp dd its n sl X htp=>by
  obtain ⟨cdD,hcD⟩:=u0u.mp c.cl
  refine Bool.eq_false_iff.mpr λq=>?_
  have e:C=tp:=Value.ref.inj (beq_iff_eq.mp q)
  subst e
  unfold clsIn at hcD
  split at hcD
  ·rename_i c' d' cd' sl' ho
   have z:=(X _ _ ho).symm.trans htp
   cases z
  ·cases hcD
 ca:=λX ⟨o,hx,hc⟩ k=>bb8 X hx hc c.g1 c.g2 c.g3 c.hm c.hB k
end
section
variable {X:Cx}
def bM7:V->Value
 | .ty n=>.type n
 | .ref a=>.ref a
 | _=>.none
def isC:V->Prop
 | .ty _=>True
 | .ref _=>True
 | _=>False
inductive TyX (K:Frag) (H:Hp):V->Value->Prop where
 | of {x:V} {t:Value} (h:an0 K H x t):TyX K H x t
 | exc {a C:Addr} (e:H a=some (Exc (.ref C) a)) (c:aw0 K C):TyX K H (.ref a) (.ref C)
 | sqt {a:Addr} {xs:List V} (h:SqT K H a xs):TyX K H (.ref a) (.type "tuple")
 | sql {a:Addr} {xs:List V} (h:SqL K H a xs):TyX K H (.ref a) (.type "list")
def bD0 (K:Frag):List V->Hp->VK->Prop:=λxs H Q => ∃ x c t b,xs=[x,c]/\isC c/\TyX K H x t/\kitOne K t (bM7 c)=some b/\Q (.bl b) H
theorem j8:ae3 X (.builtin "isinstance") (bD0 X.K):=by
 intro pins s σ H us vs Q I r h
 obtain ⟨x,c,t,b,rfl,ic,ty,e,q⟩:=h
 obtain ⟨u,cu,rfl,rx,rc⟩:=n5.two r
 have ec:cu=bM7 c:=by
  cases c with
  | ty n=>exact rc
  | ref a=>exact rc
  | _=>exact False.elim ic
 subst ec
 have fin:∀ tk,EP X pins σ Q (.bool b) { s with toks:=tk }:=λtk=>⟨.bl b,H,I.tok tk,rfl,q⟩
 cases ty with
 | of ty=>exact bb2 I rx ty e fin
 | @exc a C ea cl =>
  cases (show u=Value.ref a from rx)
  obtain ⟨⟨o,_,h1,h2,_⟩,_⟩:=(show E9 X.prog X.w H s.heap a (Exc (.ref C) a) from I.hok a _ ea)
  exact kia_one (bk8 cl) I.kIn ⟨o,h1,h2⟩ e (λz=>nomatch z) fin
 | @sqt a xs h =>
  cases (show u=Value.ref a from rx)
  obtain ⟨_,_,⟨o,h1,h2,_⟩,_⟩:=I.tuple h
  exact kia_one kitx_tuple I.kIn ⟨o,h1,h2⟩ e (λz=>nomatch z) fin
 | @sql a xs h =>
  cases (show u=Value.ref a from rx)
  obtain ⟨_,_,⟨o,n,h1,h2,_⟩,_⟩:=I.list h
  exact kia_one kitx_list I.kIn ⟨o,h1,h2⟩ e (λz=>nomatch z) fin
theorem p8:OpR X (binaryOp .Mult) (rI IntMulOk λi j=>.int (i*j)):=opI λ_ _ _ _ _ _ _ hc q=>mul_int q hc
def ao6 (_ j:Int):Prop:=j ≠ 0/\j.natAbs.log2<9000
theorem C8:OpR X (binaryOp .FloorDiv) (rI ao6 λi j=>.int (i.fdiv j)):=opI λ_ _ _ _ _ _ _ hc q=>floordiv_int hc.1 q (.inl (PyProof.noPylong_of_log2 hc.2))
end
open PySem PySem.Spec PyProof.Rows
inductive D where
 | v (x:V)
 | tup (ds:List D)
 | lst (ds:List D)
mutual
def eqD:D->D->Bool
 | .v x,.v y=>eqV x y
 | .tup a,.tup b=>K9 a b
 | .lst a,.lst b=>K9 a b
 | _,_=>false
def K9:List D->List D->Bool
 | [],[]=>true
 | x :: xs,y :: ys=>eqD x y && K9 xs ys
 | _,_=>false
end
mutual
def okD:D->D->Bool
 | .v _,.v _=>true
 | .tup a,.tup b=>ac9 a b
 | .lst a,.lst b=>ac9 a b
 | _,_=>false
def ac9:List D->List D->Bool
 | x :: xs,y :: ys=>okD x y && ac9 xs ys
 | _,_=>true
end
mutual
def dpD:D->Nat
 | .v _=>0
 | .tup a=>ah7 a+1
 | .lst a=>ah7 a+1
def ah7:List D->Nat
 | []=>0
 | x :: xs=>max (dpD x) (ah7 xs)
end
mutual
inductive IsD (K:q0a) (H:Hp):V->D->Prop where
 | v {x:V} (f:V7 x=true):IsD K H x (.v x)
 | tup {p:Addr} {xs:List V} {ds:List D} (h:SqT K H p xs) (t:ae2 K H xs ds):IsD K H (.ref p) (.tup ds)
 | lst {p:Addr} {xs:List V} {ds:List D} (h:SqL K H p xs) (t:ae2 K H xs ds):IsD K H (.ref p) (.lst ds)
inductive ae2 (K:q0a) (H:Hp):List V->List D->Prop where
 | nil:ae2 K H [] []
 | cons {x:V} {xs:List V} {d:D} {ds:List D} (h:IsD K H x d) (t:ae2 K H xs ds):ae2 K H (x :: xs) (d :: ds)
end
theorem ae2.length {K:q0a} {H:Hp}:∀ {xs:List V} {ds:List D},ae2 K H xs ds->xs.length=ds.length
 | _,_,.nil=>rfl
 | _,_,.cons _ t=>congrArg (· + 1) t.length
theorem bn3:∀ {x:V},V7 x=true->eqV x x=true
 | .non,_=>rfl
 | .bl a,_=>by simp [eqV]
 | .int a,_=>by simp [eqV]
 | .str a,_=>by simp [eqV]
 | .byt _,h=>absurd (show false=true from h) q0z
 | .flt _,h=>absurd (show false=true from h) q0z
 | .ref _,h=>absurd (show false=true from h) q0z
 | .ty _,h=>absurd (show false=true from h) q0z
section
variable {X:Cx} {pins:List (Addr × Obj)} {σ:St} {H:Hp} {s:Shared}
mutual
theorem av0 (I:Inv X pins σ H s):∀ {x:V} {d d':D},IsD X.K H x d->IsD X.K H x d'->okD d d'=true->eqD d d'=true
 | _,_,_,.v f,b,_=>by
  cases b with
  | v _=>rw [eqD];exact bn3 f
  | tup _ _=>exact absurd (show false=true from f) q0z
  | lst _ _=>exact absurd (show false=true from f) q0z
 | _,_,_,.tup h t,b,ok=>by
  cases b with
  | v f=>exact absurd (show false=true from f) q0z
  | tup h' t' =>
   have e:=I.tuple_inj h h'
   subst e
   rw [eqD]
   rw [okD] at ok
   exact am0 I t t' ok
  | lst _ _=>simp [okD] at ok
 | _,_,_,.lst h t,b,ok=>by
  cases b with
  | v f=>exact absurd (show false=true from f) q0z
  | tup _ _=>simp [okD] at ok
  | lst h' t' =>
   have e:=I.list_inj h h'
   subst e
   rw [eqD]
   rw [okD] at ok
   exact am0 I t t' ok
theorem am0 (I:Inv X pins σ H s):∀ {xs:List V} {ds ds':List D},ae2 X.K H xs ds->ae2 X.K H xs ds'->ac9 ds ds'=true->K9 ds ds'=true
 | _,_,_,.nil,b,_=>by cases b;rw [K9]
 | _,_,_,.cons h t,b,ok=>by
  cases b with
  | cons h' t' =>
   rw [ac9,y0a] at ok
   rw [K9,av0 I h h' ok.1,am0 I t t' ok.2]
   rfl
end
def ad4 (ds ds':List D) (j:Nat):Bool:=match ds[j]?,ds'[j]? with
 | some d,some d'=>eqD d d'
 | _,_=>true
theorem ad9 (n:Nat) (e:Nat->Bool):(y0f (n+1)).all e=(e 0 && (y0f n).all λj=>e (j+1)):=by
 rw [q1x,m0p,List.all_map];rfl
theorem af7:∀ (ds ds':List D),((y0f (min ds.length ds'.length)).all (ad4 ds ds') && ds.length == ds'.length)=K9 ds ds'
 | [],[]=>by rw [K9];rfl
 | [],_ :: _=>by simp [K9]
 | _ :: _,[]=>by simp [K9]
 | x :: xs,y :: ys=>by
  have ih:=af7 xs ys
  rw [K9,<- ih]
  have e1:min (x :: xs).length (y :: ys).length=min xs.length ys.length+1:=by simp only [z0t];simp
  rw [e1,ad9]
  have e2:((x :: xs).length == (y :: ys).length)=(xs.length == ys.length):=by
   by_cases h:xs.length=ys.length <;> simp [h]
  rw [e2,Bool.and_assoc]
  rfl
theorem ag8 (ds ds':List D) (h:ds.length=ds'.length):(y0f ds.length).all (ad4 ds ds')=K9 ds ds':=by
 rw [<- af7,<- h,Nat.min_self];simp
theorem au9:∀ (ds ds':List D),ds.length ≠ ds'.length->K9 ds ds'=false
 | [],[],h=>absurd rfl h
 | [],_ :: _,_=>by simp [K9]
 | _ :: _,[],_=>by simp [K9]
 | x :: xs,y :: ys,h=>by
  rw [K9,au9 xs ys (λe=>h (by simp [e]))];simp
theorem az4 (I:Inv X pins σ H s) {p p':Addr} {xs ys:List V} {ds ds':List D} {A:Around} (h:SqT X.K H p xs) (t:ae2 X.K H xs ds) (h':SqT X.K H p' ys) (t':ae2 X.K H ys ds') (hu:A.units<cLine)
  (q:∀ {us vs:List Value},n5 xs us->n5 ys vs->∀ (j:Nat) (h1:j<us.length) (h2:j<vs.length),SeqAt.EqAt A.in1 s us[j] vs[j] (ad4 ds ds' j)):SeqAt.RcAt A s (.ref p) (.ref p') (K9 ds ds'):=by
  obtain ⟨its,r1,i1,_⟩:=I.tuple h
  obtain ⟨its',r2,i2,_⟩:=I.tuple h'
  have z:=SeqAt.RcAt.tuples (A:=A) (items:=its.toArray) (items2:=its'.toArray) (e:=ad4 ds ds') i1 i2 hu (λj h1 h2=>q r1 r2 j (by simpa using h1) (by simpa using h2))
  have e1:its.toArray.size=ds.length:=by rw [q0u,<- r1.length,t.length]
  have e2:its'.toArray.size=ds'.length:=by rw [q0u,<- r2.length,t'.length]
  rw [e1,e2,af7] at z
  exact z
theorem az5 (I:Inv X pins σ H s) {p p':Addr} {xs ys:List V} {ds ds':List D} {A:Around} (h:SqL X.K H p xs) (t:ae2 X.K H xs ds) (h':SqL X.K H p' ys) (t':ae2 X.K H ys ds') (hu:A.units<cLine)
  (q:∀ {us vs:List Value},n5 xs us->n5 ys vs->∀ (j:Nat) (h1:j<us.length) (h2:j<vs.length),SeqAt.EqAt A.in1 s us[j] vs[j] (ad4 ds ds' j)):SeqAt.RcAt A s (.ref p) (.ref p') (K9 ds ds'):=by
  obtain ⟨its,r1,i1,_⟩:=I.list h
  obtain ⟨its',r2,i2,_⟩:=I.list h'
  have e1:its.toArray.size=ds.length:=by rw [q0u,<- r1.length,t.length]
  have e2:its'.toArray.size=ds'.length:=by rw [q0u,<- r2.length,t'.length]
  by_cases hl:ds.length=ds'.length
  ·have z:=SeqAt.RcAt.lists (A:=A) (items:=its.toArray) (items2:=its'.toArray) (e:=ad4 ds ds') i1.isList i2.isList (by rw [e1,e2,hl]) hu (λj h1 h2=>q r1 r2 j (by simpa using h1) (by simpa using h2))
   rw [e1,ag8 ds ds' hl] at z
   exact z
  ·rw [au9 ds ds' hl]
   exact SeqAt.RcAt.lists_lengths i1.isList i2.isList (by rw [e1,e2];simpa using hl) hu
mutual
theorem bn6 (I:Inv X pins σ H s):∀ {x y:V} {d d':D} {u v:Value} {A:Around},IsD X.K H x d->IsD X.K H y d'->okD d d'=true->x8 x u->x8 y v->A.units+dpD d<cLine->SeqAt.EqAt A s u v (eqD d d')
 | _,_,_,_,_,_,_,.v f,b,ok,r,r',_=>by
  cases b with
  | v f'=>rw [eqD];exact bn5 r r' f f'
  | tup _ _=>simp [okD] at ok
  | lst _ _=>simp [okD] at ok
 | _,_,_,_,u,v,A,.tup (p:=p) h t,b,ok,r,r',hu=>by
  cases b with
  | v _=>simp [okD] at ok
  | @tup p' _ _ h' t' =>
   cases (show u=Value.ref p from r)
   cases (show v=Value.ref p' from r')
   by_cases hp:p=p'
   ·subst hp
    rw [av0 I (.tup h t) (.tup h' t') ok]
    exact SeqAt.EqAt.same _
   ·rw [okD] at ok
    rw [dpD] at hu
    rw [eqD]
    exact SeqAt.EqAt.of_refs hp (az4 I h t h' t' ⋯ λr1 r2 j h1 h2=>aa6 (A:=A.in1) I t t' ok r1 r2 (by show A.units+1+_<_;omega) j h1 h2)
  | lst _ _=>simp [okD] at ok
 | _,_,_,_,u,v,A,.lst (p:=p) h t,b,ok,r,r',hu=>by
  cases b with
  | v _=>simp [okD] at ok
  | tup _ _=>simp [okD] at ok
  | @lst p' _ _ h' t' =>
   cases (show u=Value.ref p from r)
   cases (show v=Value.ref p' from r')
   by_cases hp:p=p'
   ·subst hp
    rw [av0 I (.lst h t) (.lst h' t') ok]
    exact SeqAt.EqAt.same _
   ·rw [okD] at ok
    rw [dpD] at hu
    rw [eqD]
    exact SeqAt.EqAt.of_refs hp (az5 I h t h' t' ⋯ λr1 r2 j h1 h2=>aa6 (A:=A.in1) I t t' ok r1 r2 (by show A.units+1+_<_;omega) j h1 h2)
theorem aa6 (I:Inv X pins σ H s):∀ {xs ys:List V} {ds ds':List D} {us vs:List Value} {A:Around},ae2 X.K H xs ds->ae2 X.K H ys ds'->ac9 ds ds'=true->n5 xs us->n5 ys vs->A.units+ah7 ds<cLine ->
  ∀ (j:Nat) (h1:j<us.length) (h2:j<vs.length),SeqAt.EqAt A s us[j] vs[j] (ad4 ds ds' j)
 | _,_,_,_,_,_,_,.nil,_,_,r,_,_=>λj h1 _=>by cases r;exact absurd h1 (Nat.not_lt_zero _)
 | _,_,_,_,_,_,A,.cons h t,b,ok,r,r',hu=>λj h1 h2=>by
  cases b with
  | nil=>cases r';exact absurd h2 (Nat.not_lt_zero _)
  | cons h' t' =>
   cases r with
   | cons r rs =>
    cases r' with
    | cons r' rs' =>
     rw [ac9,y0a] at ok
     rw [ah7] at hu
     cases j with
     | zero=>exact bn6 I h h' ok.1 r r' ⋯
     | succ j=>exact aa6 I t t' ok.2 rs rs' ⋯ j (by simpa using h1) (by simpa using h2)
end
def D.isV:D->Bool
 | .v _=>true
 | _=>false
def bO4 (K:q0a):R2:=λx y H Q => ∃ d d',d.isV=false/\IsD K H x d/\IsD K H y d'/\okD d d'=true/\dpD d<=60/\Q (.bl (eqD d d')) H
theorem aQ2 (hu:X.A.units+64<cLine):OpR X (compareOp .Eq) (bO4 X.K):=by
 intro pins s σ H x y v u Q I rx ry h
 obtain ⟨d,d',nf,h1,h2,ok,dp,q⟩:=h
 have fin:EP X pins σ Q (.bool (eqD d d')) s:=⟨.bl _,H,I,rfl,q⟩
 cases h1 with
 | v f =>
  cases h2 with
  | v f'=>exact absurd (show true=false from nf) (by decide)
  | tup _ _=>simp [okD] at ok
  | lst _ _=>simp [okD] at ok
 | @tup p xs ds h t =>
  cases h2 with
  | v f'=>simp [okD] at ok
  | @tup p' ys ds' h' t' =>
   cases (show v=Value.ref p from rx)
   cases (show u=Value.ref p' from ry)
   rw [okD] at ok
   rw [dpD] at dp
   rw [eqD] at fin
   exact az4 I h t h' t' ⋯ (λr1 r2 j h1 h2=>aa6 (A:=X.A.in1) I t t' ok r1 r2 (by show X.A.units+1+_<_;lia) j h1 h2) X.prog X.w X.xe _ fin
  | lst _ _=>simp [okD] at ok
 | @lst p xs ds h t =>
  cases h2 with
  | v f'=>simp [okD] at ok
  | tup _ _=>simp [okD] at ok
  | @lst p' ys ds' h' t' =>
   cases (show v=Value.ref p from rx)
   cases (show u=Value.ref p' from ry)
   rw [okD] at ok
   rw [dpD] at dp
   rw [eqD] at fin
   exact az5 I h t h' t' ⋯ (λr1 r2 j h1 h2=>aa6 (A:=X.A.in1) I t t' ok r1 r2 (by show X.A.units+1+_<_;omega) j h1 h2) X.prog X.w X.xe _ fin
end
open PySem PySem.Spec PyProof.Rows
section
variable {X:Cx}
def aE5:V->List V->Hp->VK->Prop:=λx vs H Q => ∃ i,x=.int i/\vs=[]/\Q (.int (Builtin.Int.intBits i)) H
theorem af3:MtM X "int.bit_length" aE5:=by
 intro pins s σ H x vs v us Q I rx rv h
 obtain ⟨i,rfl,rfl,q⟩:=h
 obtain ⟨t,rfl⟩:=rx
 cases n5.zero rv
 exact call_int_bit_length ⟨.int _,H,I.tok _,⟨_,rfl⟩,q⟩
theorem aB4 {x:V}:∀ {xs:List V} {us:List Value},n5 xs us->xs.all V7=true->us.countP (eqU x)=xs.countP λy=>eqV y x
 | _,_,.nil,_=>rfl
 | y :: xs,u :: us,.cons r t,f=>by
  rw [m0p,y0a] at f
  rw [z0c,z0c,aR6 r f.1,aB4 t f.2]
def aP6:V->List V->Hp->VK->Prop:=λx vs H Q => ∃ l xs y,x=.ref l/\vs=[y]/\H l=some (.lst xs)/\V7 y=true/\xs.all V7=true/\Q (.int (xs.countP λz=>eqV z y)) H
theorem bj8:MtM X "list.count" aP6:=by
 intro pins s σ H x vs v us Q I rx rv h
 obtain ⟨l,xs,y,rfl,rfl,hH,fy,fx,q⟩:=h
 cases rx
 obtain ⟨u,rfl,ru⟩:=rv.one
 obtain ⟨z,its,n,r,hl,e⟩:=I.lstM hH
 refine call_meets F.slot_list_count ⟨_,e,rfl⟩ F.entry_list_count (F.args_list_count_2 _ _) (SeqAt.list_countAt l its.toArray n none #[] u (eqU y)) ⟨e,λw hw=>at8 ru fy r fx w (by simpa using hw),?_⟩
 refine ⟨.int _,H,I.tok _,⟨_,rfl⟩,?_⟩
 rw [show its.toArray.toList=its from rfl,aB4 r fx]
 exact q
theorem aX1 {y:V} {xs:List V} {us:List Value} (r:n5 xs us) (f:xs.all V7=true) (j:Nat) (hj:j<us.length) (hx:j<xs.length):eqU y us[j]=eqV xs[j] y:=by
 obtain ⟨u,e1,e2⟩:=r.get (q0d hx)
 have e3:us[j]=u:=by rw [q0d hj] at e1;exact Option.some.inj e1
 rw [e3]
 exact aR6 e2 (List.all_eq_true.mp f _ (v0u hx))
def aP5:V->List V->Hp->VK->Prop:=λx vs H Q => ∃ l xs y j,x=.ref l/\vs=[y]/\H l=some (.lst xs)/\V7 y=true/\xs.all V7=true/\(xs.findIdx? λz=>eqV z y)=some j/\Q (.int (j:Nat)) H
theorem bj7:MtM X "list.index" aP5:=by
  intro pins s σ H x vs v us Q I rx rv h
  obtain ⟨l,xs,y,j,rfl,rfl,hH,fy,fx,hi,q⟩:=h
  cases rx
  obtain ⟨u,rfl,ru⟩:=rv.one
  obtain ⟨z,its,n,r,hl,e⟩:=I.lstM hH
  obtain ⟨hj,h1,h2⟩:=List.findIdx?_eq_some_iff_getElem.mp hi
  have hz:xs.length<2 ^ 63:=Nat.lt_of_le_of_lt z ah6
  refine call_meets F.slot_list_index ⟨_, e, rfl⟩ F.entry_list_index (F.args_list_index_2 _ _) (SeqAt.list_indexAt l its.toArray n none #[] u (eqU y) j (by simpa [← hl] using hj) (by have : (xs.length : Int) < 2 ^ 63 := by exact_mod_cast hz
                                                                                                                                                                                       lia) ?_ ?_) ⟨e,λw hw=>at8 ru fy r fx w (by simpa using hw),?_⟩
  · rw [show its.toArray[j]'(by simpa [<- hl] using hj)=its[j]'(by rw [<- hl];exact hj) from rfl,aX1 r fx j _ hj];exact h1
  · intro m hm hlt
    have hm':m<its.length:=by simpa using hm
    rw [show its.toArray[m]'hm=its[m]'hm' from rfl,aX1 r fx m _ (by rw [hl];exact hm')]
    have:=h2 m hlt
    simpa using this
  · exact ⟨.int _,H,I.tok _,⟨_,rfl⟩,q⟩
theorem ay1:∀ (t:Nat) (ps:List Str),n5 (ps.map V.str) (strsFrom t ps)
 | _,[]=>.nil
 | t,p :: ps=>.cons ⟨_,rfl⟩ (ay1 (t+1) ps)
def af2 (x y:Str):List Str:=Builtin.Str.partsBetween x (Builtin.Str.occurrences x y 0 x.length (x.length+1)) y.length
def aP4:V->List V->Hp->VK->Prop:=λv vs H Q => ∃ x y,v=.str x/\vs=[.str y]/\(decide (x.length<y.length) || decide (Builtin.Str.strKind x<Builtin.Str.strKind y))=false/\(y.length == 0)=false /\
 (Builtin.Str.occurrences x y 0 x.length (x.length+1)).isEmpty=false/\x.length<=sizeLine/\(af2 x y).length<=sizeLine/\∀ l,H l=none->Q (.ref l) (upd H l (.lst ((af2 x y).map V.str)))
theorem bj5:MtM X "str.split" aP4:=by
 intro pins s σ H x vs v us Q I rx rv h
 obtain ⟨x',y,rfl,rfl,h1,h2,h3,h4,h5,q⟩:=h
 obtain ⟨t,rfl⟩:=rx
 obtain ⟨u,rfl,t',rfl⟩:=rv.one
 refine call_meets F.slot_str_split rfl F.entry_str_split (F.args_str_split_2 _ _) (meets_str_split_sep x' y t t' h1 h2 h3 h4 h5) ?_
 exact ⟨.ref _,_,I.lnew (ys:=(af2 x' y).map V.str) (ay1 _ _) (by rw [q0e];exact h5),rfl,q _ I.fresh⟩
end
open PySem PySem.Spec PyProof.Rows
structure Df (K:q0a) (mg:Str->Option Value) (x:Str) (st:Stmt) (ps:List Str) (f:Addr):Prop where
 ex:∃ fd,Fun K x x st f fd/\ae4 K fd ps []
 m:mg x=some (.ref f)
structure Def (P:Program) (w:World) (K:q0a) (mg:Str->Option Value) (base:Heap) (CX:CXT) (k:Nat) (x:Str) (f:Addr) (ps:List Str) (sp:Sp):Prop where
 ex:∃ fd,ak3 P w K mg base CX k f fd ps sp/\ae4 K fd ps []
 m:mg x=some (.ref f)
 kp:y0x K (.ref f)=true
structure bx5 (P:Program) (w:World) (K:q0a) (mg:Str->Option Value) (base:Heap) (k:Nat) (x:Str) (f:Addr) (ps:List Str) (sp:Sp):Prop where
 ex:∃ fd,aY8 P w K mg base k f fd ps sp/\ae4 K fd ps []
 m:mg x=some (.ref f)
 kp:y0x K (.ref f)=true
section
variable {P:Program} {w:World} {K:q0a} {mg:Str->Option Value} {base:Heap} {k:Nat} {x:Str} {f:Addr} {ps N:List Str} {sp:Sp} {st:Stmt} {CX:CXT}
theorem Df.ok (d:Df K mg x st ps f) (S:i7 N ps (c6 st)) (len:∀ vs H Q E,sp vs H Q E->vs.length=ps.length)
  (hbody:∀ (cdv:Value) (A:Around) (outer:List Env) (s:Shared) (H:Hp) (vs:List V) (Q:VK) (E:XK),V9 k (A.deeper (envOfC x (c6 st) s.heap.objs.size f cdv))->sp vs H Q E ->
   ∃ t,PSs (ap5 CX0 P w K mg base N x (c6 st) f cdv A outer s H E).nox (M4 st) t/\t { nx:=λ_ H'=>Q .non H',rt:=Q } (start N vs) H):Def P w K mg base CX0 (k+1) x f ps sp:=by
 obtain ⟨fd,F,b⟩:=d.ex
 exact ⟨⟨fd,F.ok S len hbody,b⟩,d.m,F.kp⟩
theorem Df.okR (d:Df K mg x st ps f) (S:i7 N ps (c6 st)) (len:∀ vs H Q E,sp vs H Q E->vs.length=ps.length)
  (hbody:∀ (cdv:Value) (A:Around) (outer:List Env) (s:Shared) (H:Hp) (vs:List V) (Q:VK) (E:XK),V9 k (A.deeper (envOfC x (c6 st) s.heap.objs.size f cdv))->sp vs H Q E ->
   ∃ t,PSs (cxR P w K mg base N x (c6 st) f cdv A outer s H E) (M4 st) t/\t { nx:=λ_ H'=>Q .non H',rt:=Q } (start N vs) H):Def P w K mg base (CXR P w) (k+1) x f ps sp:=by
 obtain ⟨fd,F,b⟩:=d.ex
 have kp:=F.kp
 obtain ⟨oc,od,kV,doc,pm,an,cdv,ct,osl,rfl,lk,hcd⟩:=F.ex
 exact ⟨⟨_,bz6 lk hcd S len λA outer s H vs Q E hr hsp=>hbody cdv A outer s H vs Q E hr hsp,b⟩,d.m,kp⟩
theorem Df.okX (d:Df K mg x st ps f) (S:i7 N ps (c6 st)) (len:∀ vs H Q E,sp vs H Q E->vs.length=ps.length)
  (hbody:∀ (cdv:Value) (A:Around) (outer:List Env) (s:Shared) (H:Hp) (vs:List V) (Q:VK) (E:XK),N3 k (A.deeper (envOfC x (c6 st) s.heap.objs.size f cdv))->sp vs H Q E ->
   ∃ t,PSs (cxX P w K mg base N x (c6 st) f cdv A outer s H E) (M4 st) t/\t { nx:=λ_ H'=>Q .non H',rt:=Q } (start N vs) H):bx5 P w K mg base (k+1) x f ps sp:=by
 obtain ⟨fd,F,b⟩:=d.ex
 exact ⟨⟨fd,F.okX S len hbody,b⟩,d.m,F.kp⟩
end
section
variable {X:Cx} {CX:CXT} {k j:Nat} {f:Addr} {ps:List Str} {sp:Sp} {E:XK} {x:Str} {p pos:Pos} {e:Expr} {es:List Expr} {t:TA}
def br5 (sp:Sp) (E:XK) (t:TA):TE:=λσ H Q=>t σ H λvs H1=>sp vs H1 Q E
theorem d5 (d : Def X.prog X.w X.K X.mg X.base CX j x f ps sp) (hr : V9 k X.A) (ha : PA X (e :: es) t) (hx : av9 CX X E) (hj : j ≤ k := by decide) (hg : Gl X x := by rfl)
    (hdb:(x == ("__debug__" : Str))=false:=by decide) (he:starEach (e :: es) X.env=(false,eval e X.env) :: starEach es X.env:=by rfl) (hpl:(backTo pos (starEach es X.env)).any (·.1)=false:=by rfl) :
    PE X (.Call (.Name x p) (e :: es) [] pos) (br5 sp E t):=by
  obtain ⟨fd,F,b⟩:=d.ex
  have z:=bt5 (E:=E) (es:=es) (e:=e) (p:=p) (pos:=pos) (F.mono hj) hr hg d.m d.kp b .nil hx ha hdb he hpl
  intro pins s σ H Q I h
  refine z pins s σ H Q I ?_
  unfold bx9
  simpa only [List.append_nil,br5] using h
theorem bt4 (d : bx5 X.prog X.w X.K X.mg X.base j x f ps sp) (hr : N3 k X.A) (ha : PA X (e :: es) t) (hj : j ≤ k := by decide) (hg : Gl X x := by rfl)
    (hdb:(x == ("__debug__" : Str))=false:=by decide) (he:starEach (e :: es) X.env=(false,eval e X.env) :: starEach es X.env:=by rfl) (hpl:(backTo pos (starEach es X.env)).any (·.1)=false:=by rfl) :
    PE X (.Call (.Name x p) (e :: es) [] pos) (aD1 sp t):=by
  obtain ⟨fd,F,b⟩:=d.ex
  exact bi3 F (hr.mono hj) hg d.m d.kp b ha hdb he hpl
end
theorem c7.new {H:Hp} {p:Addr} (h:H p=none) (o:HO):c7 H (upd H p o):=λb u q=>by rw [g8 (g7 q h)];exact q
theorem c7.tup {K:q0a} {H H':Hp} {a:Addr} {xs:List V} (e:c7 H H') (h:SqT K H a xs):SqT K H' a xs:=by
 rcases h with h | h
 ·rcases h with h | ⟨o,h⟩
  ·exact .inl (.inl (e _ _ h))
  ·exact .inl (.inr ⟨o,e _ _ h⟩)
 ·exact .inr h
open PySem PySem.Spec PyProof.Rows
section
variable {prog:Program} {w:World} {A:Around} {R:Result->Shared->Prop} {s:Shared}
theorem aB5 {elt target iter:Expr} {scope:Scope} {pos:Pos} {it acc:Value} {env:Env} (I:Nat->Shared->Prop)
  (turn:∀ n s,I n s->wpAny (model prog w) A (pyNext it) (λr s₁=>match r with
   | none=>R (.ok .next) s₁
   | some v=>wpAny (model prog w) A (letOwnedTupleGo target it v) (λ_ s₁'=>wpAny (model prog w) A (assign target env v) (λ_ s₂=>wpAny (model prog w) A (eval elt env) (λx s₃ =>
     wpAny (model prog w) A (call (.builtin "list.append") [acc,x]) (λ_ s₄ => ∃ m,m<n/\I m s₄) (λ_ _=>False) s₃)
     (λ_ _=>False) s₂) (λ_ _=>False) s₁') (λ_ _=>False) s₁) (λ_ _=>False) s)
  (n:Nat) (h:I n s) :
  codeAny (model prog w) A (.compLoop (.ListComp elt [⟨target,iter,[],0⟩] scope pos) 0 it acc env) R s:=by
 refine codeAny_loop rfl I (λn s hI=>?_) n h
 show wpAny _ _ ((compTurn (.ListComp elt [⟨target,iter,[],0⟩] scope pos) 0 it acc env).onRaise (λx=>do noteFrame x env;theTreesLotGoes x)) _ _ s
 refine wpAny_noted ?_
 rw [compTurn_list1]
 have no:∀ {P:Value->Shared->Prop} (e:Value) (s:Shared),False->P e s:=λ_ _ h=>h.elim
 refine wpAny_bind (wpAny_standAt (wpAny_bind (wpAny_mono (turn n s hI) (λr s₁ h₁=>?_) no)))
 cases r with
 | none=>exact wpAny_pure h₁
 | some v =>
  refine wpAny_bind (wpAny_mono h₁ (λ_ s₁' h₁'=>?_) no)
  exact wpAny_bind (wpAny_mono h₁' (λ_ s₂ h₂=>wpAny_bind (wpAny_bind (wpAny_mono h₂ (λx s₃ h₃=>wpAny_bind (wpAny_mono h₃
   (λ_ s₄ h₄=>wpAny_pure (wpAny_pure ⟨rfl,h₄⟩)) no)) no))) no)
end
abbrev Cx.block (X:Cx) (scope:Scope) (cl:List (Str × Addr)) (C:Addr) (Nc:List Str) (s₂:Shared) (H₂:Hp) (fp:List Addr) (pins:List (Addr × Obj)):Cx :=
 { X with N:=Nc,s₀:=s₂,H₀:=H₂,env:=compEnvC scope cl C X.env,outer:=X.stack,ex:=fp,fn:=λ_=>false,pn:=X.pn ++ pins,xe:=λ_ _=>False }
def J1 (caps:List (Option Nat)) (σ:St):St:=caps.map λo=>o.bind λj=>(σ[j]?).join
def bf0 (wi:TI) (caps:List (Option Nat)) (g:TG) (te:TE):TE:=λσ H Q=>wi σ H λJ H1 => ∀ D,H1 D=none->∃ W:Nat->Nat->St->Hp->Prop,(∃ m,W 0 m (J1 caps σ) (upd H1 D (.lst []))) /\
 ∀ i m σc H2,W i m σc H2->(J.stop i H2/\Q (.ref D) H2) \/
  (J.go i H2/\∀ x H3,J.yld i H2 x H3->g x σc H3 λσ4 H4=>te σ4 H4 λy H5 => ∃ ys,H5 D=some (.lst ys)/\ys.length<sizeLine/\∃ m',m'<m/\W (i+1) m' σ4 (upd H5 D (.lst (ys ++ [y]))))
section
variable {X:Cx}
structure Y7 (X:Cx) (scope:Scope) (cl:List (Str × Addr)) (Nc:List Str) (caps:List (Option Nat)):Prop where
 clos:closureFor scope X.env=pure cl
 sub:∀ x c,cl.lookup x=some c->X.env.cells.lookup x=some c
 has:∀ x,(relabel scope X.env).names.lookup x=some .cell \/ (relabel scope X.env).names.lookup x=some .free->∃ c,cl.lookup x=some c
 nocell:∀ x ∈ scope.names,x.2 ≠ .cell
 kind:scope.kind=.function
 names:∀ x ∈ scope.names,x.2=.local->scope.names.lookup x.1=some .local
 len:caps.length=Nc.length
 cap:∀ (i j:Nat) (x:Str),caps[i]? = some (some j)->Nc[i]? = some x->X.N[j]? = some x/\Vis X.env.scope x/\X.env.kindOf x ≠ some .local/\((relabel scope X.env).names.lookup x=some .cell \/ (relabel scope X.env).names.lookup x=some .free)
theorem Inv.sameC {pins:List (Addr × Obj)} {σ:St} {H H':Hp} {s s':Shared} {h'':Heap} {fp:List Addr} {C:Addr} (I:Inv X pins σ H s) (hf:∀ b ∈ fp,N1 X pins H b) (os:s'.os=s.os) (bare:AllBare s'.gens)
  (un:Un (frs X.stack) fp H H' s.heap s'.heap) (hok:HOk X.prog X.w H' s'.heap) (hC:s.heap.objs.size<=C) (hCn:H' C=none) (sb:g0t C s'.heap h''):Inv X pins σ H' { s' with heap:=h'' }:=by
 have ne:∀ b o,s.heap.get? b=some o->b ≠ C:=λb o e=>z0b (q0f (q0j e) hC)
 refine I.call' (s':={ s' with heap:=h'' }) (ch:=fp) os ⟨λb o e n h1 h2=>(sb.2 b (ne b o e)).trans (un.keep b o e n h1 h2),λb o e n h1 h2=>?_,un.free,λb o e h2=>?_,un.tups,un.frzs,un.tbls⟩ (λb u e=>?_) bare (λb hb=>?_)
 ·obtain ⟨sl,z⟩:=un.slot b o e n h1 h2
  exact ⟨sl,(sb.2 b (ne b o e)).trans z⟩
 ·obtain ⟨o',z⟩:=un.there b o e h2
  exact ⟨o',(sb.2 b (ne b o e)).trans z⟩
 ·refine (hok b u e).stay (λc v hc q=>(sb.2 c ?_).trans q) (λ_ q=>q) λ_ _ q=>q
  rintro rfl
  rcases hc with rfl | hc
  ·rw [hCn] at e;cases e
  ·rw [hCn] at hc;cases hc
 ·obtain ⟨_,f1,_,f3,f4,f5⟩:=hf b hb
  exact ⟨f3,f1,f4,f5⟩
theorem M2 {elt tg iter:Expr} {scope:Scope} {pos:Pos} {cl:List (Str × Addr)} {Nc:List Str} {caps:List (Option Nat)} {wi:TI} {g:TG} {te:TE} (hc:X.calm=true) (cp:Y7 X scope cl Nc caps) (hi:PI X tg iter wi)
  (hg:∀ C s₂ H₂ fp pins,PG (X.block scope cl C Nc s₂ H₂ fp pins) tg g) (he:∀ C s₂ H₂ fp pins,PE (X.block scope cl C Nc s₂ H₂ fp pins) elt te) (hs:∀ x,foldedSetIterable iter X.env x=pure x:=by intro _;rfl) :
  PE X (.ListComp elt [⟨tg,iter,[],0⟩] scope pos) (bf0 wi caps g te):=by
 intro pins s σ H Q I h
 rw [eval_ListComp]
 refine wpAny_comprehension_free (use:=none) rfl hs cp.clos cp.kind cp.names ?_
 refine thn (hi pins s σ H _ I h) λv s1 h1=>thn h1 λitv s2 h2=>?_
 obtain ⟨it,fp,tn,J,H2,e,I2,T,st2,f2,hW⟩:=h2
 subst e
 refine wpAny_newObj_type ?_ (by show 0<=sizeLine;exact j0g _)
 refine wpAny_newFunctionEnv cp.nocell (by intro y hy;simp at hy) (λh4 hns hsb=>?_) cp.kind
 dsimp only at hns hsb ⊢
 generalize hH3:s2.heap.push { cls:=.type "list",dict:=none,data:=.seq ([]:List Value).toArray }=H3 at hns hsb ⊢
 have hCe:H3.objs.size=s2.heap.objs.size+1:=by rw [<- hH3,m0e]
 have P5:∀ b o,s2.heap.get? b=some o->b ≠ H3.objs.size:=λb o e=>by rw [hCe];exact z0b (g0f (q0j e))
 have old:∀ b o,s2.heap.get? b=some o->h4.get? b=some o:=λb o e=>hsb.extBut b o (P5 b o e) (q0y _ (hH3 ▸ q0y _ e))
 have hD:h4.get? s2.heap.objs.size=some { cls:=.type "list",dict:=none,data:=.seq ([]:List Value).toArray } :=
  hsb.extBut _ _ (by rw [hCe];exact z0b (y0r _)) (q0y _ (hH3 ▸ j0b _ rfl))
 have hDn:H2 s2.heap.objs.size=none:=I2.fresh
 have hCn:H2 H3.objs.size=none:=I2.hok.fresh (by rw [hCe];exact v0s _)
 have hCs:s2.heap.objs.size<=H3.objs.size:=by rw [hCe];exact v0s _
 have hDC:s2.heap.objs.size ≠ H3.objs.size:=by rw [hCe];exact z0b (y0r _)
 have fpl:∀ b ∈ fp,∃ o,s2.heap.get? b=some o:=λb hb=>let ⟨o,e,_⟩:=T.obj _ _ st2 b hb;⟨o,e⟩
 have fpC:∀ b ∈ fp,b ≠ H3.objs.size:=λb hb=>let ⟨o,e⟩:=fpl b hb;P5 b o e
 have fpD:∀ b ∈ fp,b ≠ s2.heap.objs.size:=λb hb=>let ⟨o,e⟩:=fpl b hb;z0b (q0j e)
 have stkN:∀ b,b ≠ X.env.locals->b ∉ X.fs->b ∉ frs X.stack:=λb h1 h2 z=>(z0a.mp (I2.stkSub b z)).elim h1 h2
 obtain ⟨W,⟨m0,w0⟩,turn⟩:=hW s2.heap.objs.size hDn
 have okB:(X.block scope cl H3.objs.size Nc s2 H2 fp pins).Ok:=by
  refine ⟨I2.ok.mod,?_,I2.ok.glob,I2.ok.blt,hCs,λx y c h1 h2=>I2.ok.inj x y c (cp.sub x c h1) (cp.sub y c h2),λx hx=>cp.has x hx,λx c h=>(by cases h),I2.ok.hd,I2.ok.frames,.inl rfl,λb hb=>⟨fpC b hb,λx c h=>(f2 b hb).2.2.2.2.1 x c (cp.sub x c h)⟩,I2.bs,z0v I2.ok.bsz I2.sz,λb o e hb=>?_,λb hb=>stkN b (f2 b hb).2.1 (f2 b hb).2.2.1,I2.stack,I2.stkFree⟩
  ·exact cp.kind
  ·rcases (f2 b hb).2.2.2.1 with z | z
   ·exact I2.ok.noex b o e z
   ·exact absurd (q0f (q0j e) (z0v I2.ok.bsz z)) (y0w _)
 have hokB:HOk X.prog X.w (upd H2 s2.heap.objs.size (.lst [])) h4:=I2.hok.laid old (q0q _) ⟨j0g _,[],_,.nil,hD⟩
 have IB:Inv (X.block scope cl H3.objs.size Nc s2 H2 fp pins) [] (J1 caps σ) (upd H2 s2.heap.objs.size (.lst [])) { s2 with heap:=h4,toks:=s2.toks+([]:List (Str × Value)).length }:=by
  refine ⟨okB,rfl,I2.bare,Un.laid old (q0q _) hDn,⟨_,hns,λi x v e1 e2 e3=>?_⟩,λx c e=>?_,(show upd H2 s2.heap.objs.size (.lst []) H3.objs.size=none by rw [g8 (Ne.symm hDC)];exact hCn),λx c e=>?_,λp hp=>?_,hokB,?_⟩
  ·unfold J1 at e2
   rw [q0r] at e2
   cases hcap:caps[i]? with
   | none=>rw [hcap] at e2;cases e2
   | some o =>
    rw [hcap] at e2
    cases o with
    | none=>cases e2
    | some j =>
     have hj:σ[j]? = some (some v):=by
      have e2':(σ[j]?).join=some v:=Option.some.inj e2
      cases q:σ[j]? with
      | none=>rw [q] at e2';cases e2'
      | some z=>rw [q] at e2';exact congrArg some e2'
     obtain ⟨n1,n2,n3,n4⟩:=cp.cap i j x hcap e1
     obtain ⟨m,hm,hl⟩:=I2.loc
     obtain ⟨u,r,q⟩:=hl j x v n1 hj n2
     rcases q with ⟨k,_⟩ | ⟨k,c,ec,z⟩
     ·exact absurd k n3
     ·obtain ⟨c',ec'⟩:=cp.has x n4
      have:=cp.sub x c' ec'
      rw [ec] at this;cases this
      obtain ⟨oc,ho,hd⟩:=z
      exact ⟨u,r,.inr ⟨n4,c,ec',oc,old _ _ ho,hd⟩⟩
  ·obtain ⟨v,oc,ho,hd⟩:=I2.cell x c (cp.sub x c e)
   exact ⟨v,oc,old _ _ ho,hd⟩
  ·obtain ⟨v,oc,ho,hd⟩:=I2.cell x c (cp.sub x c e)
   rw [g8 (z0b (q0j ho))]
   exact I2.freeC x c (cp.sub x c e)
  ·have hp':p ∈ X.pn ++ pins:=by simpa using hp
   obtain ⟨e1,e2,e3,e4,e5⟩:=I2.pin p hp'
   exact ⟨old _ _ e1,by rw [g8 (z0b (q0j e1))];exact e2,P5 _ _ e1,stkN _ e3 e4,e5⟩
  ·show (J1 caps σ).length=Nc.length
   unfold J1
   rw [q0e];exact cp.len
 have stat:∀ {H':Hp},(∀ b ∈ fp,H' b=none)->∀ b ∈ fp,N1 (X.block scope cl H3.objs.size Nc s2 H2 fp pins) [] H' b:=λhn b hb =>
  ⟨hn b hb,fpC b hb,stkN b (f2 b hb).2.1 (f2 b hb).2.2.1,.inl hb,λx c h=>(f2 b hb).2.2.2.2.1 x c (cp.sub x c h),λp hp=>(f2 b hb).2.2.2.2.2 p (by simpa using hp)⟩
 have loop:∀ s5:Shared,s5={ s2 with heap:=h4,toks:=s2.toks+([]:List (Str × Value)).length } ->
   codeAny (model X.prog X.w) X.A (.compLoop (.ListComp elt [⟨tg,iter,[],0⟩] scope pos) 0 (.ref it) (.ref s2.heap.objs.size) (compEnvC scope cl H3.objs.size X.env))
    (compPost (model X.prog X.w) X.A X.xe none (EP X pins σ Q) (.ref s2.heap.objs.size) H3.objs.size) s5:=by
  rintro s5 rfl
  refine aB5 (λn s' => ∃ i σ' H',Inv (X.block scope cl H3.objs.size Nc s2 H2 fp pins) [] σ' H' s'/\tn i s'.heap/\(∀ b ∈ fp,H' b=none)/\W i n σ' H') ?_ m0 ⟨0,_,_,IB,T.keep _ _ _ st2 λb hb o e=>old b o e,λb hb=>by rw [g8 (fpD b hb)];exact (f2 b hb).1,w0⟩
  rintro n s6 ⟨i,σ6,H6,I6,st6,fr6,w6⟩
  rcases turn i n σ6 H6 w6 with ⟨stop,qn⟩ | ⟨go,step⟩
  ·refine thn (T.done (X.block scope cl H3.objs.size Nc s2 H2 fp pins) rfl rfl rfl hc i [] s6 σ6 H6 _ I6 (stat fr6) st6 stop) λr s7 ⟨hr,I7⟩=>?_
   subst hr
   obtain ⟨m7,hn7,_⟩:=id I7.loc
   exact ⟨m7,hn7,λh' sb=>⟨.ref s2.heap.objs.size,H6,I2.sameC f2 I7.os I7.bare I7.base I7.hok hCs I7.free sb,rfl,qn⟩⟩
  ·refine thn (T.item (X.block scope cl H3.objs.size Nc s2 H2 fp pins) rfl rfl rfl hc i [] s6 σ6 H6 _ I6 (stat fr6) st6 go) λr s7 ⟨u,hr,h7⟩=>?_
   subst hr
   refine thn h7 λ_ s8 ⟨x,H8,I8,r8,y8,st8,fr8⟩=>?_
   have I8':=I8.pinned (stat fr8) (T.obj _ _ st8)
   refine thn (hg _ _ _ _ _ _ s8 σ6 H8 x u _ I8' r8 (step x H8 y8)) λ_ s9 ⟨σ9,H9,I9,q9⟩=>?_
   refine thn (he _ _ _ _ _ _ s9 σ9 H9 _ I9 q9) λu10 s10 ⟨v10,H10,I10,r10,ys,hys,hlen,m',hm',w'⟩=>?_
   refine thn (G9 _ s10 σ9 H10 (.ref s2.heap.objs.size) [v10] (.ref s2.heap.objs.size) [u10] (λ_ H11=>H11=upd H10 s2.heap.objs.size (.lst (ys ++ [v10]))) I10 rfl (.cons r10 .nil) ⟨_,ys,v10,rfl,rfl,hys,hlen,rfl⟩) λ_ s11 ⟨_,H11,I11,_,hH11⟩=>?_
   subst hH11
   refine ⟨m',hm',i+1,σ9,_,I11.unpinned,T.keep _ _ _ st8 λb hb o e=>(I11.pin (b,o) (q0h _ (q0h _ (t5 hb e)))).1,λb hb=>?_,w'⟩
   obtain ⟨o,e,d⟩:=T.obj _ _ st8 b hb
   exact (I11.pin (b,o) (q0h _ (q0h _ (t5 hb e)))).2.1
 exact codeAny_compStart_list (loop _ rfl) (T.self _ 0 _ _ _ (T.keep _ _ _ st2 λb hb o e=>old b o e) (loop _ rfl))
end
open PySem PySem.Spec PyProof.Rows
def ai7 (scope osc:Scope):List (Str × NameKind):=scope.names.map λ(n,k)=>if (k == .free && osc.kind == .function && osc.names.lookup n == some .cell) then (n,.cell) else (n,k)
def bu5 (o:Option NameKind):Bool:=o == some .cell || o == some .free
def bp4 (scope osc:Scope) (N ks Nc:List Str) (caps:List (Option Nat)):Bool :=
 ((ai7 scope osc).all λy => !(y.2 == .cell || y.2 == .free) || ks.contains y.1) && (scope.names.all λy=>y.2 != .cell) && scope.kind == .function &&
 (scope.names.all λy=>y.2 != .local || scope.names.lookup y.1 == some .local) && caps.length == Nc.length &&
 ((caps.zip Nc).all λp=>match p.1 with
  | none=>true
  | some j=>N[j]? == some p.2 && bu5 (osc.names.lookup p.2) && bu5 ((ai7 scope osc).lookup p.2))
theorem at9 {α β:Type} [BEq α] [LawfulBEq α]:∀ {l:List (α × β)} {x:α} {v:β},l.lookup x=some v->(x,v) ∈ l
 | [],_,_,h=>by simp at h
 | (a,b) :: r,x,v,h=>by
  rw [q1c] at h
  split at h
  ·rename_i e
   have:=eq_of_beq e
   subst this
   cases h
   exact q0c
  ·exact q0b _ (at9 h)
theorem ag7 {β:Type}:∀ {l:List (Str × β)} {x:Str},x ∈ l.map (·.1)->∃ c,l.lookup x=some c
 | [],_,h=>by simp at h
 | (a,b) :: r,x,h=>by
  rw [q1c]
  by_cases e:x=a
  ·subst e;exact ⟨b,by simp⟩
  ·have:(x == a)=false:=by simpa using e
   rw [this]
   rcases z0a.mp h with z | z
   ·exact absurd z e
   ·exact ag7 z
theorem aW5 {o:Option NameKind} (h:bu5 o=true):o=some .cell \/ o=some .free:=by
 unfold bu5 at h
 simp only [u0a,beq_iff_eq] at h
 exact h
theorem Y7.of {X:Cx} {scope osc:Scope} {cl:List (Str × Addr)} {N ks Nc:List Str} {caps:List (Option Nat)} (clos:closureFor scope X.env=pure cl) (hN:X.N=N) (hosc:X.env.scope=osc) (hks:cl.map (·.1)=ks)
  (sub:∀ x c,cl.lookup x=some c->X.env.cells.lookup x=some c) (ok:bp4 scope osc N ks Nc caps=true):Y7 X scope cl Nc caps:=by
 unfold bp4 at ok
 simp only [y0a,List.all_eq_true,beq_iff_eq,u0a,m0s,bne_iff_ne,ne_eq] at ok
 obtain ⟨⟨⟨⟨⟨o1,o2⟩,o3⟩,o4⟩,o5⟩,o6⟩:=ok
 have er:(relabel scope X.env).names=ai7 scope osc:=by subst hosc;rfl
 have kof:∀ x,X.env.kindOf x=osc.names.lookup x:=λx=>by subst hosc;rfl
 refine ⟨clos,sub,λx h=>?_,λx hx=>o2 x hx,o3,λx hx hl=>?_,o5,λi j x h1 h2=>?_⟩
 ·rw [er] at h
  refine ag7 ?_
  rw [hks]
  have key:∀ k,(ai7 scope osc).lookup x=some k->(k=.cell \/ k=.free)->x ∈ ks:=λk hk hcf=>by
   rcases o1 (x,k) (at9 hk) with z | z
   ·rcases hcf with rfl | rfl <;> simp at z
   ·simpa using z
  rcases h with h | h
  ·exact key _ h (.inl rfl)
  ·exact key _ h (.inr rfl)
 ·rcases o4 x hx with z | z
  ·exact absurd hl z
  ·exact z
 ·have hm:(some j,x) ∈ caps.zip Nc:=by
   have:(caps.zip Nc)[i]? = some (some j,x):=by
    rw [List.getElem?_zip_eq_some];exact ⟨h1,h2⟩
   exact q0p this
  have z:=o6 _ hm
  simp only [y0a,beq_iff_eq] at z
  obtain ⟨⟨z1,z2⟩,z3⟩:=z
  have c2:=aW5 z2
  have c3:=aW5 z3
  refine ⟨by rw [hN];exact z1,?_,?_,?_⟩
  ·rw [hosc]
   rcases c2 with c | c
   ·exact .inr (.inl c)
   ·exact .inr (.inr c)
  ·rw [kof]
   rcases c2 with c | c <;> rw [c] <;> decide
  ·rw [er];exact c3
open PySem PySem.Spec PyProof.Rows
section
variable {X:Cx} {pins:List (Addr × Obj)} {σ:St} {H:Hp} {s:Shared}
theorem Inv.turnLaid {h':Heap} {t':Nat} {fp:List Addr} {a:Addr} {o:HO} (I:Inv X pins σ H s) (hf:∀ b ∈ fp,N1 X pins H b)
  (k:∀ b u,b ∉ fp->s.heap.get? b=some u->h'.get? b=some u) (hp:s.heap.objs.size<=a) (new:E9 X.prog X.w (upd H a o) h' a o):Inv X pins σ (upd H a o) { s with heap:=h',toks:=t' }:=by
 have hn:H a=none:=I.hok.fresh hp
 have nf:∀ b u,H b=some u->b ∉ fp:=λb u e z=>by rw [(hf b z).1] at e;cases e
 have ne:∀ b u,s.heap.get? b=some u->b ≠ a:=λb u e=>z0b (q0f (q0j e) hp)
 refine I.step (g':=s.gens) (d':=s.drawn) (ch:=fp) (λb hb=>?_) (λb o _ _ hc e _=>k b o hc e) (λb o _ _ hc e _=>⟨o.slots,k b o hc e⟩) (λb o _ e n=>by rw [g8 (ne b o e)];exact n)
  (λb o hc e=>⟨o,k b o hc e⟩) (λb xs e=>by rw [g8 (g7 e hn)];exact e) (λb o u e=>by rw [g8 (g7 e hn)];exact e) (λb ps e=>⟨#[],by rw [g8 (g7 e hn),e];simp⟩) (λm hm=>?_) (λb u e=>?_) I.bare
 ·obtain ⟨_,f1,_,f3,f4,f5⟩:=hf b hb
  exact ⟨f3,f1,f4,f5⟩
 ·obtain ⟨o,es,ep,ho,r⟩:=hm
  exact ⟨o,es,ep,k _ o (λz=>(hf _ z).2.1 rfl) ho,r⟩
 ·by_cases hb:b=a
  ·subst hb;rw [c4] at e;cases e;exact new
  ·rw [g8 hb] at e
   refine (I.hok b u e).stay (λc v hc q=>k c v ?_ q) (λc q=>by rw [g8 (g7 q hn)];exact q) λc xs q=>by rw [g8 (g7 q hn)];exact q
   rcases hc with z | z
   ·rw [z];exact nf b u e
   ·exact nf c _ z
end
def Ite (K:q0a) (a:Addr):It :=
 ⟨λi H => ∃ xs x,SqL K H a xs/\xs[i]? = some x,λi H y H' => ∀ xs,SqL K H a xs->∃ x p,xs[i]? = some x/\H p=none/\y=.ref p/\H'=upd H p (.tup [.int i,x]),λi H => ∃ xs,SqL K H a xs/\xs.length<=i⟩
theorem aZ2 {P:Program} {w:World} {K:q0a} {elts:List Expr} {k:Nat} {tpos:Pos} (a e it:Addr) (hei:e ≠ it) :
  aT4 P w K (.Tuple elts k tpos) (Ite K a) [e,it] e (λi h=>(∃ old,IsEnum h e it ((i:Nat):Int) old)/\h.IsListIter it a i) where
 mem:=by simp
 obj:=λi h st b hb=>by
  obtain ⟨⟨old,he⟩,hit⟩:=st
  rcases (by simpa using hb:b=e \/ b=it) with z | z
  ·subst z
   exact ⟨_,he,λv z=>by cases z⟩
  ·subst z
   obtain ⟨o,e,c,d⟩:=hit
   exact ⟨o,e,λv z=>by rw [d] at z;cases z⟩
 keep:=λi h h' st k=>⟨let ⟨old,he⟩:=st.1;⟨old,k e (by simp) _ he⟩,st.2.at λo e=>k it (by simp) o e⟩
 item:=by
  intro X hP hw hK hc i pins s σ H E I hf st hg
  subst hP hw hK
  obtain ⟨xs,x,hq,hx⟩:=hg
  obtain ⟨its,rv,p,hz⟩:=I.list hq
  obtain ⟨u,hu,ru⟩:=rv.get hx
  obtain ⟨⟨old,he⟩,hit⟩:=st
  have helt:e<s.heap.objs.size:=q0j he
  have hilt:it<s.heap.objs.size:=by obtain ⟨_,x,_⟩:=id hit;exact q0j x
  refine wpAny_pyNext_enum_item he hit p.isList (x:=u) (by simpa using hu) hei λh' ho hit' hT hsz kk=>?_
  refine ⟨_,rfl,?_⟩
  refine wpAny_letOwnedTupleGo_enum (s:={ s with heap:=h',toks:=s.toks+1 }) ho λh'' he' sb=>?_
  have hT':h''.get? s.heap.objs.size=some { cls:=.type "tuple",data:=.seq #[.int i s.toks,u] }:=(sb.2 _ (z1y helt)).trans hT
  refine ⟨.ref s.heap.objs.size,upd H s.heap.objs.size (.tup [.int i,x]),I.turnLaid (fp:=[e,it]) (t':=s.toks+1) hf (λb v hb q=>?_) (q0q _) ?_,rfl,?_,?_,λb hb=>?_⟩
  ·have h1:b ≠ e:=λz=>hb (by simp [z])
   have h2:b ≠ it:=λz=>hb (by simp [z])
   exact (sb.2 b h1).trans (kk b v h1 h2 q)
  ·exact ⟨(show 2<=sizeLine by trivial),[.int i s.toks,u],.cons ⟨_,rfl⟩ (.cons ru .nil),_,hT',rfl,_,rfl⟩
  ·intro ys hy
   rw [I.list_inj hy hq]
   exact ⟨x,_,hx,I.fresh,rfl,rfl⟩
  ·refine ⟨⟨u,by have:=he';simpa using this⟩,hit'.at λo q=>(sb.2 it hei.symm).trans q⟩
  ·have hlt:b<s.heap.objs.size:=by
    rcases (by simpa using hb:b=e \/ b=it) with z | z
    ·rw [z];exact helt
    ·rw [z];exact hilt
   rw [g8 (z0b hlt)]
   exact (hf b hb).1
 done:=by
  intro X hP hw hK hc i pins s σ H E I hf st hg
  subst hP hw hK
  obtain ⟨xs,hq,hx⟩:=hg
  obtain ⟨its,rv,p,hz⟩:=I.list hq
  obtain ⟨⟨old,he⟩,hit⟩:=st
  obtain ⟨f0,f1,f2,f3,f4,f5⟩:=hf it (by simp)
  have hl:=rv.length
  exact wpAny_pyNext_enum_end (I.ok.hd hc) he hit p.isList (by simp;omega) λh' eb=>⟨rfl,I.turned (t':=s.toks) (λb o hb e=>eb b o hb e) f0 f1 f3 f4 f5⟩
 self:=λ_ _ _ _ _ st h=>by
  obtain ⟨⟨old,he⟩,_⟩:=st
  exact wpAny_pyIter_enum he h
section
variable {X:Cx}
def bl7 (K:q0a) (ta:TA):TI:=λσ H R=>ta σ H λvs H1 => ∃ a,vs=[.ref a]/\(∃ xs,SqL K H1 a xs)/\R (Ite K a) H1
theorem aF0 {elts:List Expr} {k:Nat} {tpos:Pos} {l:Expr} {ta:TA} {p pos:Pos} (hg:Gl X "enumerate") (hm:X.mg "enumerate" = none) (ha:PA X [l] ta) (hs:starEach [l] X.env=[(false,eval l X.env)]:=by rfl) :
  PI X (.Tuple elts k tpos) (.Call (.Name "enumerate" p) [l] [] pos) (bl7 X.K ta):=by
 intro pins s σ H R I h
 refine Call_ (ad2 I hg hm (u:=.type "enumerate") (by trivial) (PyProof.Rows.callWith_type1 (thn (ha pos pins s σ H _ I h) λus s1 ⟨vs,H1,I1,r1,q1⟩=>?_) hs rfl))
 obtain ⟨a,e,⟨xs,hq⟩,q⟩:=q1
 subst e
 obtain ⟨u,rfl,rx⟩:=an2 r1
 cases rx
 obtain ⟨its,rv,p,hz⟩:=I1.list hq
 refine call_enumerate_list p.isList λh' he hit hsz kk=>?_
 refine wpAny_pyIter_enum he ?_
 have I2:Inv X pins σ H1 { s1 with heap:=h' }:=I1.kept (t':=s1.toks) kk
 refine ⟨s1.heap.objs.size+1,[s1.heap.objs.size+1,s1.heap.objs.size],_,_,H1,rfl,I2,aZ2 a _ _ (Nat.succ_ne_self _),⟨⟨_,he⟩,hit⟩,λb hb=>?_,q⟩
 have hb':s1.heap.objs.size<=b:=by
  rcases (by simpa using hb:b=s1.heap.objs.size+1 \/ b=s1.heap.objs.size) with z | z
  ·rw [z];exact v0s _
  ·rw [z];exact q0q _
 obtain ⟨f0,f1,f2,f3,f4,f5⟩:=I1.fpOk (H':=H1) hb' (I1.hok.fresh hb')
 exact ⟨f0,f1,f2,f3,f4,f5⟩
end
section
variable {prog:Program} {w:World} {A:Around} {R:Result->Shared->Prop} {s:Shared}
theorem ao4 {elt target iter c:Expr} {scope:Scope} {pos:Pos} {it acc:Value} {env:Env} (I:Nat->Shared->Prop)
  (turn:∀ n s,I n s->wpAny (model prog w) A (pyNext it) (λr s₁=>match r with
   | none=>R (.ok .next) s₁
   | some v=>wpAny (model prog w) A (letOwnedTupleGo target it v) (λ_ s₁'=>wpAny (model prog w) A (assign target env v) (λ_ s₂ =>
     wpAny (model prog w) A (isTrue c env (eval c env)) (λok s₂'=>if ok=true then wpAny (model prog w) A (eval elt env) (λx s₃ =>
     wpAny (model prog w) A (call (.builtin "list.append") [acc,x]) (λ_ s₄ => ∃ m,m<n/\I m s₄) (λ_ _=>False) s₃)
     (λ_ _=>False) s₂' else ∃ m,m<n/\I m s₂') (λ_ _=>False) s₂) (λ_ _=>False) s₁') (λ_ _=>False) s₁) (λ_ _=>False) s)
  (n:Nat) (h:I n s) :
  codeAny (model prog w) A (.compLoop (.ListComp elt [⟨target,iter,[c],0⟩] scope pos) 0 it acc env) R s:=by
 refine codeAny_loop rfl I (λn s hI=>?_) n h
 show wpAny _ _ ((compTurn (.ListComp elt [⟨target,iter,[c],0⟩] scope pos) 0 it acc env).onRaise (λx=>do noteFrame x env;theTreesLotGoes x)) _ _ s
 refine wpAny_noted ?_
 rw [compTurn_list]
 have no:∀ {P:Value->Shared->Prop} (e:Value) (s:Shared),False->P e s:=λ_ _ h=>h.elim
 refine wpAny_bind (wpAny_standAt (wpAny_bind (wpAny_mono (turn n s hI) (λr s₁ h₁=>?_) no)))
 cases r with
 | none=>exact wpAny_pure h₁
 | some v =>
  refine wpAny_bind (wpAny_mono h₁ (λ_ s₁' h₁'=>?_) no)
  refine wpAny_bind (wpAny_mono h₁' (λ_ s₂ h₂=>?_) no)
  refine wpAny_bind (wpAny_tests_one (wpAny_mono h₂ (λok s₂' h₂'=>?_) no))
  cases ok with
  | true =>
   rw [if_pos rfl] at h₂' ⊢
   exact wpAny_bind (wpAny_bind (wpAny_mono h₂' (λx s₃ h₃=>wpAny_bind (wpAny_mono h₃ (λ_ s₄ h₄=>wpAny_pure (wpAny_pure ⟨rfl,h₄⟩)) no)) no))
  | false =>
   rw [if_neg (by decide)] at h₂' ⊢
   exact wpAny_pure ⟨rfl,h₂'⟩
end
def aD0 (wi:TI) (caps:List (Option Nat)) (g:TG) (tt:TT) (te:TE):TE:=λσ H Q=>wi σ H λJ H1 => ∀ D,H1 D=none->∃ W:Nat->Nat->St->Hp->Prop,(∃ m,W 0 m (J1 caps σ) (upd H1 D (.lst []))) /\
 ∀ i m σc H2,W i m σc H2->(J.stop i H2/\Q (.ref D) H2) \/
  (J.go i H2/\∀ x H3,J.yld i H2 x H3->g x σc H3 λσ4 H4=>tt σ4 H4 λb H4'=>if b=true then te σ4 H4' λy H5 => ∃ ys,H5 D=some (.lst ys)/\ys.length<sizeLine/\∃ m',m'<m/\W (i+1) m' σ4 (upd H5 D (.lst (ys ++ [y])))
   else ∃ m',m'<m/\W (i+1) m' σ4 H4')
section
variable {X:Cx}
theorem ba7 {elt tg iter c:Expr} {scope:Scope} {pos:Pos} {cl:List (Str × Addr)} {Nc:List Str} {caps:List (Option Nat)} {wi:TI} {g:TG} {tt:TT} {te:TE} (hc:X.calm=true) (cp:Y7 X scope cl Nc caps) (hi:PI X tg iter wi)
  (hg:∀ C s₂ H₂ fp pins,PG (X.block scope cl C Nc s₂ H₂ fp pins) tg g) (ht:∀ C s₂ H₂ fp pins,PT (X.block scope cl C Nc s₂ H₂ fp pins) c tt) (he:∀ C s₂ H₂ fp pins,PE (X.block scope cl C Nc s₂ H₂ fp pins) elt te) (hs:∀ x,foldedSetIterable iter X.env x=pure x:=by intro _;rfl) :
  PE X (.ListComp elt [⟨tg,iter,[c],0⟩] scope pos) (aD0 wi caps g tt te):=by
 intro pins s σ H Q I h
 rw [eval_ListComp]
 refine wpAny_comprehension_free (use:=none) rfl hs cp.clos cp.kind cp.names ?_
 refine thn (hi pins s σ H _ I h) λv s1 h1=>thn h1 λitv s2 h2=>?_
 obtain ⟨it,fp,tn,J,H2,e,I2,T,st2,f2,hW⟩:=h2
 subst e
 refine wpAny_newObj_type ?_ (by show 0<=sizeLine;exact j0g _)
 refine wpAny_newFunctionEnv cp.nocell (by intro y hy;simp at hy) (λh4 hns hsb=>?_) cp.kind
 dsimp only at hns hsb ⊢
 generalize hH3:s2.heap.push { cls:=.type "list",dict:=none,data:=.seq ([]:List Value).toArray }=H3 at hns hsb ⊢
 have hCe:H3.objs.size=s2.heap.objs.size+1:=by rw [<- hH3,m0e]
 have P5:∀ b o,s2.heap.get? b=some o->b ≠ H3.objs.size:=λb o e=>by rw [hCe];exact z0b (g0f (q0j e))
 have old:∀ b o,s2.heap.get? b=some o->h4.get? b=some o:=λb o e=>hsb.extBut b o (P5 b o e) (q0y _ (hH3 ▸ q0y _ e))
 have hD:h4.get? s2.heap.objs.size=some { cls:=.type "list",dict:=none,data:=.seq ([]:List Value).toArray } :=
  hsb.extBut _ _ (by rw [hCe];exact z0b (y0r _)) (q0y _ (hH3 ▸ j0b _ rfl))
 have hDn:H2 s2.heap.objs.size=none:=I2.fresh
 have hCn:H2 H3.objs.size=none:=I2.hok.fresh (by rw [hCe];exact v0s _)
 have hCs:s2.heap.objs.size<=H3.objs.size:=by rw [hCe];exact v0s _
 have hDC:s2.heap.objs.size ≠ H3.objs.size:=by rw [hCe];exact z0b (y0r _)
 have fpl:∀ b ∈ fp,∃ o,s2.heap.get? b=some o:=λb hb=>let ⟨o,e,_⟩:=T.obj _ _ st2 b hb;⟨o,e⟩
 have fpC:∀ b ∈ fp,b ≠ H3.objs.size:=λb hb=>let ⟨o,e⟩:=fpl b hb;P5 b o e
 have fpD:∀ b ∈ fp,b ≠ s2.heap.objs.size:=λb hb=>let ⟨o,e⟩:=fpl b hb;z0b (q0j e)
 have stkN:∀ b,b ≠ X.env.locals->b ∉ X.fs->b ∉ frs X.stack:=λb h1 h2 z=>(z0a.mp (I2.stkSub b z)).elim h1 h2
 obtain ⟨W,⟨m0,w0⟩,turn⟩:=hW s2.heap.objs.size hDn
 have okB:(X.block scope cl H3.objs.size Nc s2 H2 fp pins).Ok:=by
  refine ⟨I2.ok.mod,?_,I2.ok.glob,I2.ok.blt,hCs,λx y c h1 h2=>I2.ok.inj x y c (cp.sub x c h1) (cp.sub y c h2),λx hx=>cp.has x hx,λx c h=>(by cases h),I2.ok.hd,I2.ok.frames,.inl rfl,λb hb=>⟨fpC b hb,λx c h=>(f2 b hb).2.2.2.2.1 x c (cp.sub x c h)⟩,I2.bs,z0v I2.ok.bsz I2.sz,λb o e hb=>?_,λb hb=>stkN b (f2 b hb).2.1 (f2 b hb).2.2.1,I2.stack,I2.stkFree⟩
  ·exact cp.kind
  ·rcases (f2 b hb).2.2.2.1 with z | z
   ·exact I2.ok.noex b o e z
   ·exact absurd (q0f (q0j e) (z0v I2.ok.bsz z)) (y0w _)
 have hokB:HOk X.prog X.w (upd H2 s2.heap.objs.size (.lst [])) h4:=I2.hok.laid old (q0q _) ⟨j0g _,[],_,.nil,hD⟩
 have IB:Inv (X.block scope cl H3.objs.size Nc s2 H2 fp pins) [] (J1 caps σ) (upd H2 s2.heap.objs.size (.lst [])) { s2 with heap:=h4,toks:=s2.toks+([]:List (Str × Value)).length }:=by
  refine ⟨okB,rfl,I2.bare,Un.laid old (q0q _) hDn,⟨_,hns,λi x v e1 e2 e3=>?_⟩,λx c e=>?_,(show upd H2 s2.heap.objs.size (.lst []) H3.objs.size=none by rw [g8 (Ne.symm hDC)];exact hCn),λx c e=>?_,λp hp=>?_,hokB,?_⟩
  ·unfold J1 at e2
   rw [q0r] at e2
   cases hcap:caps[i]? with
   | none=>rw [hcap] at e2;cases e2
   | some o =>
    rw [hcap] at e2
    cases o with
    | none=>cases e2
    | some j =>
     have hj:σ[j]? = some (some v):=by
      have e2':(σ[j]?).join=some v:=Option.some.inj e2
      cases q:σ[j]? with
      | none=>rw [q] at e2';cases e2'
      | some z=>rw [q] at e2';exact congrArg some e2'
     obtain ⟨n1,n2,n3,n4⟩:=cp.cap i j x hcap e1
     obtain ⟨m,hm,hl⟩:=I2.loc
     obtain ⟨u,r,q⟩:=hl j x v n1 hj n2
     rcases q with ⟨k,_⟩ | ⟨k,c,ec,z⟩
     ·exact absurd k n3
     ·obtain ⟨c',ec'⟩:=cp.has x n4
      have:=cp.sub x c' ec'
      rw [ec] at this;cases this
      obtain ⟨oc,ho,hd⟩:=z
      exact ⟨u,r,.inr ⟨n4,c,ec',oc,old _ _ ho,hd⟩⟩
  ·obtain ⟨v,oc,ho,hd⟩:=I2.cell x c (cp.sub x c e)
   exact ⟨v,oc,old _ _ ho,hd⟩
  ·obtain ⟨v,oc,ho,hd⟩:=I2.cell x c (cp.sub x c e)
   rw [g8 (z0b (q0j ho))]
   exact I2.freeC x c (cp.sub x c e)
  ·have hp':p ∈ X.pn ++ pins:=by simpa using hp
   obtain ⟨e1,e2,e3,e4,e5⟩:=I2.pin p hp'
   exact ⟨old _ _ e1,by rw [g8 (z0b (q0j e1))];exact e2,P5 _ _ e1,stkN _ e3 e4,e5⟩
  ·show (J1 caps σ).length=Nc.length
   unfold J1
   rw [q0e];exact cp.len
 have stat:∀ {H':Hp},(∀ b ∈ fp,H' b=none)->∀ b ∈ fp,N1 (X.block scope cl H3.objs.size Nc s2 H2 fp pins) [] H' b:=λhn b hb =>
  ⟨hn b hb,fpC b hb,stkN b (f2 b hb).2.1 (f2 b hb).2.2.1,.inl hb,λx c h=>(f2 b hb).2.2.2.2.1 x c (cp.sub x c h),λp hp=>(f2 b hb).2.2.2.2.2 p (by simpa using hp)⟩
 have loop:∀ s5:Shared,s5={ s2 with heap:=h4,toks:=s2.toks+([]:List (Str × Value)).length } ->
   codeAny (model X.prog X.w) X.A (.compLoop (.ListComp elt [⟨tg,iter,[c],0⟩] scope pos) 0 (.ref it) (.ref s2.heap.objs.size) (compEnvC scope cl H3.objs.size X.env))
    (compPost (model X.prog X.w) X.A X.xe none (EP X pins σ Q) (.ref s2.heap.objs.size) H3.objs.size) s5:=by
  rintro s5 rfl
  refine ao4 (λn s' => ∃ i σ' H',Inv (X.block scope cl H3.objs.size Nc s2 H2 fp pins) [] σ' H' s'/\tn i s'.heap/\(∀ b ∈ fp,H' b=none)/\W i n σ' H') ?_ m0 ⟨0,_,_,IB,T.keep _ _ _ st2 λb hb o e=>old b o e,λb hb=>by rw [g8 (fpD b hb)];exact (f2 b hb).1,w0⟩
  rintro n s6 ⟨i,σ6,H6,I6,st6,fr6,w6⟩
  rcases turn i n σ6 H6 w6 with ⟨stop,qn⟩ | ⟨go,step⟩
  ·refine thn (T.done (X.block scope cl H3.objs.size Nc s2 H2 fp pins) rfl rfl rfl hc i [] s6 σ6 H6 _ I6 (stat fr6) st6 stop) λr s7 ⟨hr,I7⟩=>?_
   subst hr
   obtain ⟨m7,hn7,_⟩:=id I7.loc
   exact ⟨m7,hn7,λh' sb=>⟨.ref s2.heap.objs.size,H6,I2.sameC f2 I7.os I7.bare I7.base I7.hok hCs I7.free sb,rfl,qn⟩⟩
  ·refine thn (T.item (X.block scope cl H3.objs.size Nc s2 H2 fp pins) rfl rfl rfl hc i [] s6 σ6 H6 _ I6 (stat fr6) st6 go) λr s7 ⟨u,hr,h7⟩=>?_
   subst hr
   refine thn h7 λ_ s8 ⟨x,H8,I8,r8,y8,st8,fr8⟩=>?_
   have I8':=I8.pinned (stat fr8) (T.obj _ _ st8)
   refine thn (hg _ _ _ _ _ _ s8 σ6 H8 x u _ I8' r8 (step x H8 y8)) λ_ s9 ⟨σ9,H9,I9,q9⟩=>?_
   refine thn (ht _ _ _ _ _ _ s9 σ9 H9 _ I9 q9) λbb s9' ⟨H9',I9',q9'⟩=>?_
   cases bb with
   | false =>
    rw [if_neg (by decide)] at q9' ⊢
    obtain ⟨m',hm',w'⟩:=q9'
    refine ⟨m',hm',i+1,σ9,H9',I9'.unpinned,T.keep _ _ _ st8 λb hb o e=>(I9'.pin (b,o) (q0h _ (q0h _ (t5 hb e)))).1,λb hb=>?_,w'⟩
    obtain ⟨o,e,d⟩:=T.obj _ _ st8 b hb
    exact (I9'.pin (b,o) (q0h _ (q0h _ (t5 hb e)))).2.1
   | true =>
    rw [if_pos rfl] at q9' ⊢
    refine thn (he _ _ _ _ _ _ s9' σ9 H9' _ I9' q9') λu10 s10 ⟨v10,H10,I10,r10,ys,hys,hlen,m',hm',w'⟩=>?_
    refine thn (G9 _ s10 σ9 H10 (.ref s2.heap.objs.size) [v10] (.ref s2.heap.objs.size) [u10] (λ_ H11=>H11=upd H10 s2.heap.objs.size (.lst (ys ++ [v10]))) I10 rfl (.cons r10 .nil) ⟨_,ys,v10,rfl,rfl,hys,hlen,rfl⟩) λ_ s11 ⟨_,H11,I11,_,hH11⟩=>?_
    subst hH11
    refine ⟨m',hm',i+1,σ9,_,I11.unpinned,T.keep _ _ _ st8 λb hb o e=>(I11.pin (b,o) (q0h _ (q0h _ (t5 hb e)))).1,λb hb=>?_,w'⟩
    obtain ⟨o,e,d⟩:=T.obj _ _ st8 b hb
    exact (I11.pin (b,o) (q0h _ (q0h _ (t5 hb e)))).2.1
 exact codeAny_compStart_list (loop _ rfl) (T.self _ 0 _ _ _ (T.keep _ _ _ st2 λb hb o e=>old b o e) (loop _ rfl))
open PySem PySem.Spec PyProof.Rows
theorem ax8 (bs:List Bool):(y0f bs.length).all (λi=>(bs[i]?).getD true)=bs.all id:=by
 induction bs with
 | nil=>rfl
 | cons b bs ih =>
  rw [z0t,ad9,m0p,<- ih]
  rfl
theorem bp5 (hc:X.calm=true):ae3 X (.builtin "all") (λxs H Q => ∃ (p:Addr) (bs:List Bool),xs=[.ref p]/\SqL X.K H p (bs.map V.bl)/\Q (.bl (bs.all id)) H):=by
 intro pins s σ H xs us Q I r h
 obtain ⟨p,bs,rfl,hq,q⟩:=h
 obtain ⟨u,rfl,rx⟩:=an2 r
 cases rx
 obtain ⟨its,r',pl,hz⟩:=I.list hq
 have hlen:its.length=bs.length:=by rw [<- r'.length,q0e]
 have hp:p ≠ s.heap.objs.size:=by
  obtain ⟨o,ho,_⟩:=pl.isList
  exact z0b (q0j ho)
 refine call_all_walk (wpAny_pyIter_list pl.isList ?_)
 refine ⟨s.heap.objs.size,_,_,_,_,_,λi=>(bs[i]?).getD true,rfl,Walks.list (A:=X.A.in1) (I.ok.hd hc) _ p hp its.toArray,⟨⟨_,j0b _ rfl,rfl,rfl⟩,pl.isList.at λo e=>q0y _ e⟩,?_,?_⟩
 ·intro i v s' Q' E' hv hQ
  have hv':its[i]? = some v:=by simpa using hv
  have hi:i<bs.length:=by rw [<- hlen];exact (q0g.mp hv').1
  obtain ⟨u,hu,ru⟩:=r'.get (i:=i) (x:=.bl bs[i]) (by rw [q0r,q0d hi];rfl)
  rw [hv'] at hu
  cases hu
  cases ru
  simp only [q0d hi] at hQ
  exact wpAny_truthy_bool hQ
 ·intro h' tk kk
  have e:(y0f its.toArray.size).all (λi=>(bs[i]?).getD true)=bs.all id:=by rw [q0u,hlen,ax8]
  rw [e]
  refine ⟨.bl _,H,I.kept (t':=tk) λb o e=>kk b o ?_ (q0y _ e),rfl,q⟩
  intro z
  have:b=s.heap.objs.size:=by simpa using z
  exact absurd (q0j e) (by rw [this];exact y0w _)
def bO2 (K:q0a):R2:=λx y H Q => ∃ d d',d.isV=false/\IsD K H x d/\IsD K H y d'/\okD d d'=true/\dpD d<=60/\Q (.bl (!eqD d d')) H
theorem as5 (hu:X.A.units+64<cLine):OpR X (compareOp .NotEq) (bO2 X.K):=by
 intro pins s σ H x y v u Q I rx ry h
 obtain ⟨d,d',nf,h1,h2,ok,dp,q⟩:=h
 have fin:EP X pins σ Q (.bool (!eqD d d')) s:=⟨.bl _,H,I,rfl,q⟩
 cases h1 with
 | v f =>
  cases h2 with
  | v f'=>exact absurd (show true=false from nf) (by decide)
  | tup _ _=>simp [okD] at ok
  | lst _ _=>simp [okD] at ok
 | @tup p xs ds h t =>
  cases h2 with
  | v f'=>simp [okD] at ok
  | @tup p' ys ds' h' t' =>
   cases (show v=Value.ref p from rx)
   cases (show u=Value.ref p' from ry)
   rw [okD] at ok
   rw [dpD] at dp
   rw [eqD] at fin
   obtain ⟨its,r1,i1,_⟩:=I.tuple h
   obtain ⟨its',r2,i2,_⟩:=I.tuple h'
   have q':∀ (j:Nat) (h1:j<its.length) (h2:j<its'.length),SeqAt.EqAt X.A.in1 s its[j] its'[j] (ad4 ds ds' j):=λj h1 h2=>aa6 (A:=X.A.in1) I t t' ok r1 r2 (by show X.A.units+1+_<_;lia) j h1 h2
   have z:=SeqAt.RcNeAt.tuples (A:=X.A) (items:=its.toArray) (items2:=its'.toArray) (e:=ad4 ds ds') i1 i2 ⋯ (λj h1 h2=>q' j (by simpa using h1) (by simpa using h2))
   have e1:its.toArray.size=ds.length:=by rw [q0u,<- r1.length,t.length]
   have e2:its'.toArray.size=ds'.length:=by rw [q0u,<- r2.length,t'.length]
   rw [e1,e2,af7] at z
   exact PySem.EqBoolInt.of_rcne z fin
  | lst _ _=>simp [okD] at ok
 | @lst p xs ds h t =>
  cases h2 with
  | v f'=>simp [okD] at ok
  | tup _ _=>simp [okD] at ok
  | @lst p' ys ds' h' t' =>
   cases (show v=Value.ref p from rx)
   cases (show u=Value.ref p' from ry)
   rw [okD] at ok
   rw [dpD] at dp
   rw [eqD] at fin
   obtain ⟨its,r1,i1,_⟩:=I.list h
   obtain ⟨its',r2,i2,_⟩:=I.list h'
   have q':∀ (j:Nat) (h1:j<its.length) (h2:j<its'.length),SeqAt.EqAt X.A.in1 s its[j] its'[j] (ad4 ds ds' j):=λj h1 h2=>aa6 (A:=X.A.in1) I t t' ok r1 r2 (by show X.A.units+1+_<_;omega) j h1 h2
   have e1:its.toArray.size=ds.length:=by rw [q0u,<- r1.length,t.length]
   have e2:its'.toArray.size=ds'.length:=by rw [q0u,<- r2.length,t'.length]
   by_cases hl:ds.length=ds'.length
   ·have z:=SeqAt.RcNeAt.lists (A:=X.A) (items:=its.toArray) (items2:=its'.toArray) (e:=ad4 ds ds') i1.isList i2.isList (by rw [e1,e2,hl]) (by lia) (λj h1 h2=>q' j (by simpa using h1) (by simpa using h2))
    rw [e1,ag8 ds ds' hl] at z
    exact PySem.EqBoolInt.of_rcne z fin
   ·rw [au9 ds ds' hl] at fin
    exact PySem.EqBoolInt.of_rcne (SeqAt.RcNeAt.lists_lengths (A:=X.A) i1.isList i2.isList (by rw [e1,e2];simpa using hl) ⋯) fin
end
def G0 (D:Addr) (n:Nat) (Pv:Nat->St->Hp->Prop) (i:Nat) (σ4:St) (y:V) (H5:Hp):Prop :=
 ∃ ys,H5 D=some (.lst ys)/\ys.length<sizeLine/\∃ m',m'<n-i/\(m'=n-(i+1)/\i+1<=n/\Pv (i+1) σ4 (upd H5 D (.lst (ys ++ [y]))))
theorem G0.mk {D:Addr} {n:Nat} {Pv:Nat->St->Hp->Prop} {i:Nat} {σ4:St} {y:V} {H5:Hp} {ys:List V} (hi:i<n) (h:H5 D=some (.lst ys)) (hl:ys.length<sizeLine) (p:Pv (i+1) σ4 (upd H5 D (.lst (ys ++ [y])))):G0 D n Pv i σ4 y H5 :=
 ⟨ys,h,hl,_,by lia,rfl,hi,p⟩
def aY9 (n:Nat) (Pv:Nat->St->Hp->Prop) (i:Nat) (σ4:St) (H5:Hp):Prop:=∃ m',m'<n-i/\(m'=n-(i+1)/\i+1<=n/\Pv (i+1) σ4 H5)
theorem aY9.mk {n:Nat} {Pv:Nat->St->Hp->Prop} {i:Nat} {σ4:St} {H5:Hp} (hi:i<n) (p:Pv (i+1) σ4 H5):aY9 n Pv i σ4 H5:=⟨_,⋯,rfl,hi,p⟩
section
variable {K:q0a} {a D:Addr} {xs:List V} {g:TG} {te:TE} {σ0:St} {H0:Hp} {Q:VK}
theorem bc4 (Pv:Nat->St->Hp->Prop) (h0:Pv 0 σ0 H0) (hl:∀ i σ H,i<=xs.length->Pv i σ H->SqL K H a xs)
  (hs:∀ i x σ H,xs[i]? = some x->Pv i σ H->g x σ H λσ4 H4=>te σ4 H4 λy H5=>G0 D xs.length Pv i σ4 y H5) (hd:∀ σ H,Pv xs.length σ H->Q (.ref D) H) :
  ∃ W:Nat->Nat->St->Hp->Prop,(∃ m,W 0 m σ0 H0)/\∀ i m σc H2,W i m σc H2->((Itl K a).stop i H2/\Q (.ref D) H2) \/
   ((Itl K a).go i H2/\∀ x H3,(Itl K a).yld i H2 x H3->g x σc H3 λσ4 H4=>te σ4 H4 λy H5 => ∃ ys,H5 D=some (.lst ys)/\ys.length<sizeLine/\∃ m',m'<m/\W (i+1) m' σ4 (upd H5 D (.lst (ys ++ [y])))):=by
 refine ⟨λi m σ H=>m=xs.length-i/\i<=xs.length/\Pv i σ H,⟨xs.length,by simp,j0g _,h0⟩,?_⟩
 rintro i m σ H ⟨rfl,hi,p⟩
 have q:=hl i σ H hi p
 by_cases hlt:i<xs.length
 ·refine .inr ⟨⟨xs,xs[i],q,q0d hlt⟩,?_⟩
  rintro x H3 ⟨rfl,hx⟩
  exact hs i x σ _ (hx xs q) p
 ·have e:i=xs.length:=⋯
  subst e
  exact .inl ⟨⟨xs,q,q0q _⟩,hd σ H p⟩
theorem bo7 (Pv:Nat->St->Hp->Prop) (h0:Pv 0 σ0 H0) (hl:∀ i σ H,i<=xs.length->Pv i σ H->SqT K H a xs)
  (hs:∀ i x σ H,xs[i]? = some x->Pv i σ H->g x σ H λσ4 H4=>te σ4 H4 λy H5=>G0 D xs.length Pv i σ4 y H5) (hd:∀ σ H,Pv xs.length σ H->Q (.ref D) H) :
  ∃ W:Nat->Nat->St->Hp->Prop,(∃ m,W 0 m σ0 H0)/\∀ i m σc H2,W i m σc H2->((Itt K a).stop i H2/\Q (.ref D) H2) \/
   ((Itt K a).go i H2/\∀ x H3,(Itt K a).yld i H2 x H3->g x σc H3 λσ4 H4=>te σ4 H4 λy H5 => ∃ ys,H5 D=some (.lst ys)/\ys.length<sizeLine/\∃ m',m'<m/\W (i+1) m' σ4 (upd H5 D (.lst (ys ++ [y])))):=by
 refine ⟨λi m σ H=>m=xs.length-i/\i<=xs.length/\Pv i σ H,⟨xs.length,by simp,j0g _,h0⟩,?_⟩
 rintro i m σ H ⟨rfl,hi,p⟩
 have q:=hl i σ H hi p
 by_cases hlt:i<xs.length
 ·refine .inr ⟨⟨xs,xs[i],q,q0d hlt⟩,?_⟩
  rintro x H3 ⟨rfl,hx⟩
  exact hs i x σ _ (hx xs q) p
 ·have e:i=xs.length:=⋯
  subst e
  exact .inl ⟨⟨xs,q,q0q _⟩,hd σ H p⟩
theorem aS7 {lo:Int} {n:Nat} (Pv:Nat->St->Hp->Prop) (h0:Pv 0 σ0 H0)
  (hs:∀ i σ H,i<n->Pv i σ H->g (.int (lo+i)) σ H λσ4 H4=>te σ4 H4 λy H5=>G0 D n Pv i σ4 y H5) (hd:∀ σ H,Pv n σ H->Q (.ref D) H) :
  ∃ W:Nat->Nat->St->Hp->Prop,(∃ m,W 0 m σ0 H0)/\∀ i m σc H2,W i m σc H2->((Itr lo n).stop i H2/\Q (.ref D) H2) \/
   ((Itr lo n).go i H2/\∀ x H3,(Itr lo n).yld i H2 x H3->g x σc H3 λσ4 H4=>te σ4 H4 λy H5 => ∃ ys,H5 D=some (.lst ys)/\ys.length<sizeLine/\∃ m',m'<m/\W (i+1) m' σ4 (upd H5 D (.lst (ys ++ [y])))):=by
 refine ⟨λi m σ H=>m=n-i/\i<=n/\Pv i σ H,⟨n,by simp,j0g _,h0⟩,?_⟩
 rintro i m σ H ⟨rfl,hi,p⟩
 by_cases hlt:i<n
 ·refine .inr ⟨hlt,?_⟩
  rintro x H3 ⟨rfl,rfl⟩
  exact hs i σ _ hlt p
 ·have e:i=n:=⋯
  subst e
  exact .inl ⟨q0q _,hd σ H p⟩
end
end L2
namespace R
theorem ah4 {n d:Int} (hd:0<d) (hc:z0r n d=1):(q0s n d).num=n/\((q0s n d).den:Int)=d:=by
 obtain ⟨k,rfl⟩:∃ k:Nat,d=k:=⟨d.toNat,by lia⟩
 have hk:k ≠ 0:=⋯
 have hc':n.natAbs.Coprime k:=by
  rw [Int.gcd_eq_natAbs_gcd_natAbs] at hc
  simpa [g0j] using hc
 have e:(⟨n,k,hk,hc'⟩:Rat)=q0s n k:=Rat.mk_eq_divInt
 rw [<- e]
 exact ⟨rfl,rfl⟩
theorem aj9 {n d t b:Int} (hd:0<d) (hc:z0r n d=1) (hb:b ≠ 0) (h:n*b=t*d):n=(q0s t b).num/\d=((q0s t b).den:Int):=by
 have e:q0s n d=q0s t b:=(y0b ⋯ hb).mpr h
 obtain ⟨h1,h2⟩:=ah4 hd hc
 rw [e] at h1 h2
 exact ⟨h1.symm,h2.symm⟩
theorem p7 {g n:Int} (hg:g ≠ 0):(g*n).fdiv g=n:=by
 rw [u0v];exact Int.mul_fdiv_cancel n hg
theorem aa5 {t b:Int} (hb:b ≠ 0):0<z0r t b:=Int.gcd_pos_of_ne_zero_right t hb
theorem ax7 {t b n d:Int} (hb:b ≠ 0) (h1:t=(z0r t b:Int)*n) (h2:b=(z0r t b:Int)*d):z0r n d=1:=by
 have hg:=aa5 (t:=t) hb
 have e:z0r ((z0r t b:Int)*n) ((z0r t b:Int)*d)=z0r t b*z0r n d:=by
  rw [Int.gcd_mul_left];simp
 rw [<- h1,<- h2] at e
 exact v0p hg (by rw [<- e,q1y])
theorem al6 {t b g:Int} (hb:b ≠ 0) (hg:g=if b<0 then -(Int.gcd t b:Int) else (Int.gcd t b:Int)):t.fdiv g=(Rat.divInt t b).num/\b.fdiv g=((Rat.divInt t b).den:Int):=by
  have hp:(0:Int)<Int.gcd t b:=by have:=aa5 (t:=t) hb;omega
  obtain ⟨n,hn⟩:=Int.gcd_dvd_left t b
  obtain ⟨d,hd⟩:=Int.gcd_dvd_right t b
  have hc:=ax7 hb hn hd
  by_cases hs:b<0
  · rw [if_pos hs] at hg
    subst hg
    have hg0:(-(Int.gcd t b:Int)) ≠ 0:=⋯
    have e1:t=-(Int.gcd t b:Int)*(-n):=by rw [Int.neg_mul_neg];exact hn
    have e2:b=-(Int.gcd t b:Int)*(-d):=by rw [Int.neg_mul_neg];exact hd
    have f1 : t.fdiv (-(Int.gcd t b : Int)) = -n := by conv => lhs; arg 1; rw [e1]
                                                       exact p7 hg0
    have f2 : b.fdiv (-(Int.gcd t b : Int)) = -d := by conv => lhs; arg 1; rw [e2]
                                                       exact p7 hg0
    rw [f1,f2]
    have hd0:0 < -d:=by
      rcases Int.lt_or_le d 0 with z | z
      · lia
      · have:=Int.mul_nonneg (Int.le_of_lt hp) z;lia
    refine aj9 hd0 (by rw [Int.gcd_neg,Int.neg_gcd];exact hc) hb ?_
    conv=>lhs;rw [hd]
    conv=>rhs;rw [hn]
    generalize (Int.gcd t b:Int)=g
    grind
  · rw [if_neg hs] at hg
    subst hg
    have hg0:((Int.gcd t b:Int)) ≠ 0:=⋯
    have f1 : t.fdiv (Int.gcd t b : Int) = n := by conv => lhs; arg 1; rw [hn]
                                                   exact p7 hg0
    have f2 : b.fdiv (Int.gcd t b : Int) = d := by conv => lhs; arg 1; rw [hd]
                                                   exact p7 hg0
    rw [f1,f2]
    have hd0:0<d:=by
      rcases Int.lt_or_le 0 d with z | z
      · exact z
      · have:=Int.mul_nonneg (Int.le_of_lt hp) (show 0<=-d by lia);rw [Int.mul_neg] at this;lia
    refine aj9 hd0 hc hb ?_
    conv=>lhs;rw [hd]
    conv=>rhs;rw [hn]
    generalize (Int.gcd t b:Int)=g
    grind
theorem w5 (q:Rat):(0:Int)<q.den:=by have:=q.den_nz;lia
theorem av7 (p q:Rat):p+q=q0s (p.num*q.den+q.num*p.den) (p.den*q.den):=by
 have h1:=w5 p
 have h2:=w5 q
 conv=>lhs;rw [<- z0u p,<- z0u q]
 exact z1c _ _ ⋯ ⋯
theorem aO7 (p q:Rat):p-q=q0s (p.num*q.den-q.num*p.den) (p.den*q.den):=by
 have h1:=w5 p
 have h2:=w5 q
 conv=>lhs;rw [<- z0u p,<- z0u q]
 exact Rat.divInt_sub_divInt _ _ ⋯ ⋯
theorem at7 (p q:Rat):p*q=q0s (p.num*q.num) (p.den*q.den):=by
 conv=>lhs;rw [<- z0u p,<- z0u q]
 exact u0h _ _
theorem aM6 (a b:Int):z0r b (a.fmod b)=z0r a b:=by
 have e:=z1d a b
 rw [Int.gcd_comm a b]
 conv=>rhs;rw [<- e]
 rw [show b*a.fdiv b+a.fmod b=a.fmod b+a.fdiv b*b by rw [u0v,Int.add_comm]]
 simp
theorem ad1 (a:Int) {b:Int} (hb:b ≠ 0):(a.fmod b).natAbs<b.natAbs:=by
 rcases Int.lt_or_le b 0 with h | h
 ·have e:=Int.neg_fmod_neg a b
  have h1:=y0t (-a) (show 0 < -b by omega)
  have h2:=v0h (-a) (show 0 < -b by omega)
  omega
 ·have h1:=y0t a (show 0<b by lia)
  have h2:=v0h a (show 0<b by lia)
  omega
open PySem L2 PyProof.Rows
section
variable {P:Program} {w:World} {K:q0a} {mg:Str->Option Value} {base:Heap}
theorem K4 {a:Int} {m:Nat} (h:a.natAbs<2 ^ m):Builtin.Int.intBits a<=m:=by
 unfold Builtin.Int.intBits
 split
 ·exact j0g _
 ·rename_i hz
  have h0:a.natAbs ≠ 0:=by
   intro z
   have:a=0:=by lia
   simp [this] at hz
  have:=(j1k h0).mpr h
  lia
theorem G5 {a b:Int} {m n:Nat} (ha:a.natAbs<2 ^ m) (hb:b.natAbs<2 ^ n) (h:m+n<=134217728:=by decide):IntMulOk a b:=IntMulOk.of_le (K4 ha) (K4 hb) h
theorem ab5 {j:Int} (h0:j ≠ 0) (h:j.natAbs<2 ^ 9000):ao6 i j:=⟨h0,(j1k (by lia)).mpr h⟩
theorem c9 {m n:Nat} (h:m<=n):2 ^ m<=2 ^ n:=v0q (by decide) h
theorem ab2 {a:Nat} {m n:Nat} (h:a<2 ^ m) (hm:m<=n:=by decide):a<2 ^ n:=q0f h (c9 hm)
def t7 (q:Rat):List V:=[.int q.num,.int (q.den:Int)]
structure Bd (q:Rat):Prop where
 n:q.num.natAbs<2 ^ 3000
 d:q.den<2 ^ 3000
def Num (K:q0a) (H:Hp) (v:V) (q:Rat):Prop:=∃ p,v=.ref p/\SqT K H p (t7 q)
def aI8 (H:Hp) (Q:VK) (q:Rat):Prop:=∀ r H',c7 H H'->H' r=some (.tup (t7 q))->Q (.ref r) H'
theorem v4:(2:Nat)<=sizeLine:=by decide
theorem aO9:(1:Nat)<=sizeLine:=by decide
theorem aR3 {a b:Int} {n:Nat} (hb:b ≠ 0) (h:b.natAbs<n):((z0r a b:Nat):Int).natAbs<n:=by
 have h1:z0r a b ∣ b.natAbs:=by
  have:=j0t.mpr (u0f a b)
  simpa using this
 have h2:=v0n (by lia) h1
 simp only [q0k]
 lia
theorem aH1 {a g:Int} (hg:0<g) (hd:g ∣ a):(a.fdiv g).natAbs<=a.natAbs:=by
 obtain ⟨n,rfl⟩:=hd
 rw [p7 ⋯,z0f]
 exact y0u _ ⋯
theorem at4 {q:Rat}:q.num=0 ↔ q=0:=by
 constructor
 ·intro h;exact q1s.mp h
 ·intro h;rw [h];rfl
theorem at0 (q:Rat):atI (t7 q) 0=some (.int q.num):=rfl
theorem at1 (q:Rat):atI (t7 q) 1=some (.int (q.den:Int)):=rfl
theorem bL7 {a b:Int} (h:a.natAbs<2 ^ 64):IntMulOk a b:=IntMulOk.of_left (K4 h)
theorem by9 {a b:Int} (h:b.natAbs<2 ^ 64):IntMulOk a b:=IntMulOk.of_right (K4 h)
def ay6:Sp:=λvs H Q _ => ∃ t b:Int,vs=[.int t,.int b]/\b ≠ 0/\b.natAbs<2 ^ 6000/\aI8 H Q (q0s t b)
def v6 (H:Hp) (u:Addr):Prop:=∃ g m p:Int,H u=some (.lst [.int g,.int m,.int p])/\0<=g/\0<=m/\m<2 ^ 40/\0<p/\p<2 ^ 40
def x9 (u:Addr) (H H':Hp):Prop:=∀ b o,H b=some o->b ≠ u->H' b=some o
theorem c7.x {H H':Hp} (s:c7 H H') (u:Addr):x9 u H H':=λb o h _=>s b o h
theorem x9.trans {u:Addr} {H H1 H2:Hp} (a:x9 u H H1) (b:x9 u H1 H2):x9 u H H2:=λc o h n=>b c o (a c o h n) n
theorem x9.upd (u:Addr) (H:Hp) (o:HO):x9 u H (upd H u o):=λb p h n=>by rw [g8 n];exact h
theorem c7.urn {H H':Hp} {u:Addr} (s:c7 H H') (h:v6 H u):v6 H' u:=let ⟨g,m,p,h1,r⟩:=h;⟨g,m,p,s _ _ h1,r⟩
def by1 (K:q0a):Sp:=λvs H Q _ => ∃ (a:Addr) (ns:List Int) (k:Int),vs=[.ref a,.int k]/\SqL K H a (ns.map V.int)/\0<=k/\k<64/\∀ r H',c7 H H'->H r=none->v6 H' r->Q (.ref r) H'
def bD6:List V:=[.int 1899999979,.int 1899998977,.int 1899997949,.int 1899996929,.int 1899995927,.int 1899994903,.int 1899993877,.int 1899992839]
theorem bh5 {k:Int} (h0:0<=k):∃ p:Int,atI bD6 (k.fmod 8)=some (.int p)/\1899992839<=p/\p<=1899999979:=by
 have h1:=y0t k (show (0:Int)<8 by decide)
 have h2:=v0h k (show (0:Int)<8 by decide)
 have h3:k.fmod 8=0 \/ k.fmod 8=1 \/ k.fmod 8=2 \/ k.fmod 8=3 \/ k.fmod 8=4 \/ k.fmod 8=5 \/ k.fmod 8=6 \/ k.fmod 8=7:=by lia
 rcases h3 with h | h | h | h | h | h | h | h <;> rw [h] <;> exact ⟨_,rfl,by decide,by decide⟩
theorem bc9 {ns:List Int} {k:Int} (h0:0<=k) (h:k<(ns.length:Int)):∃ v:Int,atI (ns.map V.int) k=some (.int v):=by
 have hk:k.toNat<ns.length:=by lia
 have ek:k=((k.toNat:Nat):Int):=by lia
 have q:atI (ns.map V.int) ((k.toNat:Nat):Int)=some (.int ns[k.toNat]):=af6 (by rw [q0r,q0d hk] <;> rfl)
 rw [<- ek] at q
 exact ⟨_,q⟩
def V1:Sp:=λvs H Q _ => ∃ (u:Addr) (n:Int),vs=[.ref u,.int n]/\v6 H u/\0<n/\n<2 ^ 40/\∀ r H',0<=r->r<n->x9 u H H'->v6 H' u->Q (.int r) H'
structure Sm (q:Rat):Prop where
 n:q.num.natAbs<=10 ^ 12
 d:q.den<=10 ^ 12
theorem U9 {t b:Int} (hb:b ≠ 0):(q0s t b).num.natAbs<=t.natAbs/\(q0s t b).den<=b.natAbs:=by
 have hp:=aa5 (t:=t) hb
 obtain ⟨e1,e2⟩:=al6 (t:=t) (b:=b) (g:=if b<0 then -(z0r t b:Int) else (z0r t b:Int)) hb rfl
 have key:∀ x:Int,(z0r t b:Int) ∣ x->(x.fdiv (if b<0 then -(z0r t b:Int) else (z0r t b:Int))).natAbs<=x.natAbs:=by
  rintro x ⟨n,hn⟩
  split
  ·have:x=-(z0r t b:Int)*(-n):=by rw [Int.neg_mul_neg];exact hn
   rw [this,p7 ⋯,z0f]
   exact y0u _ (by lia)
  ·rw [hn,p7 ⋯,z0f]
   exact y0u _ (by lia)
 have k1:=key t (u0j t b)
 have k2:=key b (u0f t b)
 rw [e1] at k1
 rw [e2] at k2
 exact ⟨k1,by lia⟩
def bf8:Sp:=λvs H Q _ => ∃ u,vs=[.ref u]/\v6 H u/\∀ r H',r=0 \/ r=1 \/ r=2->x9 u H H'->v6 H' u->Q (.int r) H'
theorem aC7 {H:Hp} {u l:Addr} (hu:v6 H u) (hl:H l=none):l ≠ u:=by
 obtain ⟨g,m,p,h,r⟩:=hu
 exact (g7 h hl).symm
theorem ap6 {H:Hp} {u l:Addr} {o:HO} (hu:v6 H u) (hl:H l=none):v6 (upd H l o) u:=by
 obtain ⟨g,m,p,h,r⟩:=hu
 exact ⟨g,m,p,by rw [g8 (g7 h hl)];exact h,r⟩
def spNumber:Sp:=λvs H Q _ => ∃ u kd,vs=[.ref u,.int kd]/\v6 H u/\∀ r q H',Sm q->x9 u H H'->v6 H' u->H' r=some (.tup (t7 q))->Q (.ref r) H'
def ai3:Sp:=λvs H Q _ => ∃ i:Int,vs=[.int i]/\Q (.bl true) H
theorem aM0:z0q K (.type "int") (.type "int")=some true:=by unfold z0q;rw [if_pos (by decide)]
theorem aG9:z0q K (.type "int") (.type "bool")=some false:=by kernel_rfl
theorem aL9:z0q K (.type "tuple") (.type "tuple")=some true:=by unfold z0q;rw [if_pos (by decide)]
def N8 (q:Rat):D:=.tup [.v (.int q.num),.v (.int (q.den:Int))]
theorem T8 {H:Hp} {a:Addr} {q:Rat} (h:SqT K H a (t7 q)):IsD K H (.ref a) (N8 q):=.tup h (.cons (.v rfl) (.cons (.v rfl) .nil))
theorem aX3 (q:Rat):eqD (N8 q) (N8 q)=true:=by simp [N8,eqD,K9,eqV]
theorem aG2 (p q:Rat):okD (N8 p) (N8 q)=true:=by simp [N8,okD,ac9]
theorem bn9 (q:Rat):dpD (N8 q)<=60:=by simp [N8,dpD,ah7]
def aU6 (K:q0a):Sp:=λvs H Q _ => ∃ x q,vs=[x]/\(∃ p,x=.ref p/\SqT K H p (t7 q))/\(q.den:Int).natAbs<2 ^ 6000/\∀ H',c7 H H'->Q (.bl true) H'
end
open PySem L2 PyProof.Rows
inductive v3 (H:Hp):List V->List Rat->Prop where
 | nil:v3 H [] []
 | cons {p:Addr} {q:Rat} {vs:List V} {qs:List Rat} (h:H p=some (.tup (t7 q))) (t:v3 H vs qs):v3 H (.ref p :: vs) (q :: qs)
def L5 (H H':Hp):Prop:=∀ b xs,H b=some (.tup xs)->H' b=some (.tup xs)
theorem L5.trans {H H1 H2:Hp} (a:L5 H H1) (b:L5 H1 H2):L5 H H2:=λc xs h=>b c xs (a c xs h)
theorem _root_.L2.c7.tups {H H':Hp} (s:c7 H H'):L5 H H':=λb xs h=>s b _ h
theorem x9.tups {u:Addr} {H H':Hp} (s:x9 u H H') (hu:v6 H u):L5 H H':=λb xs h=>by
 obtain ⟨g,m,p,e,_⟩:=hu
 exact s b _ h (by7 h e (by intro z;cases z))
theorem L5.lst {H:Hp} {a:Addr} {xs:List V} {o:HO} (h:H a=some (.lst xs)):L5 H (upd H a o):=λb ys e=>by
 rw [g8 (by7 e h (by intro z;cases z))];exact e
theorem L5.new {H:Hp} {a:Addr} {o:HO} (h:H a=none):L5 H (upd H a o):=(c7.new h o).tups
theorem v3.mono {H H':Hp} (e:L5 H H'):∀ {vs:List V} {qs:List Rat},v3 H vs qs->v3 H' vs qs
 | _,_,.nil=>.nil
 | _,_,.cons h t=>.cons (e _ _ h) (t.mono e)
theorem v3.length {H:Hp}:∀ {vs:List V} {qs:List Rat},v3 H vs qs->vs.length=qs.length
 | _,_,.nil=>rfl
 | _,_,.cons _ t=>congrArg (· + 1) t.length
theorem v3.take {H:Hp}:∀ {vs:List V} {qs:List Rat} (m:Nat),v3 H vs qs->v3 H (vs.take m) (qs.take m)
 | _,_,0,_=>by simp;exact .nil
 | _,_,_+1,.nil=>.nil
 | _,_,m+1,.cons h t=>.cons h (t.take m)
theorem v3.append {H:Hp}:∀ {vs ws:List V} {qs rs:List Rat},v3 H vs qs->v3 H ws rs->v3 H (vs ++ ws) (qs ++ rs)
 | _,_,_,_,.nil,b=>b
 | _,_,_,_,.cons h t,b=>.cons h (t.append b)
theorem v3.get {H:Hp}:∀ {vs:List V} {qs:List Rat} {i:Nat} {q:Rat},v3 H vs qs->qs[i]? = some q->∃ p,vs[i]? = some (.ref p)/\H p=some (.tup (t7 q))
 | _,_,_,_,.nil,e=>by simp at e
 | _,_,0,_,.cons h t,e=>by
  have:=Option.some.inj e
  subst this
  exact ⟨_,rfl,h⟩
 | _,_,i+1,_,.cons h t,e=>by
  obtain ⟨p,e1,e2⟩:=t.get (i:=i) (by simpa using e)
  exact ⟨p,by simpa using e1,e2⟩
theorem v3.getV {H:Hp}:∀ {vs:List V} {qs:List Rat} {i:Nat} {v:V},v3 H vs qs->vs[i]? = some v->∃ p q,v=.ref p/\qs[i]? = some q/\H p=some (.tup (t7 q))
 | _,_,_,_,.nil,e=>by simp at e
 | _,_,0,_,.cons h t,e=>by
  have:=Option.some.inj e
  subst this
  exact ⟨_,_,rfl,rfl,h⟩
 | _,_,i+1,_,.cons h t,e=>by
  obtain ⟨p,q,e0,e1,e2⟩:=t.getV (i:=i) (by simpa using e)
  exact ⟨p,q,e0,by simpa using e1,e2⟩
theorem v3.isDs {K:q0a} {H:Hp}:∀ {vs:List V} {qs:List Rat},v3 H vs qs->ae2 K H vs (qs.map N8)
 | _,_,.nil=>.nil
 | _,_,.cons h t=>.cons (T8 (SqT.of h)) t.isDs
theorem bs3 {p q:Rat} (h1:p.num=q.num) (h2:p.den=q.den):p=q:=by
 cases p;cases q;simp at h1 h2;subst h1 h2;rfl
theorem aN0 (p q:Rat):eqD (N8 p) (N8 q)=decide (p=q):=by
 by_cases h:p=q
 ·subst h;rw [aX3];simp
 ·rw [decide_eq_false h]
  simp only [N8,eqD,K9,eqV,Bool.and_true]
  by_cases h1:p.num=q.num
  ·have h2:p.den ≠ q.den:=λz=>h (bs3 h1 z)
   have:((p.den:Int) == (q.den:Int))=false:=by
    rw [beq_eq_false_iff_ne];intro z;exact h2 (by lia)
   rw [this,Bool.and_false]
  ·have:(p.num == q.num)=false:=by rw [beq_eq_false_iff_ne];exact h1
   rw [this,Bool.false_and]
theorem aB0:∀ ps qs:List Rat,K9 (ps.map N8) (qs.map N8)=decide (ps=qs)
 | [],[]=>by simp [K9]
 | [],_ :: _=>by simp [K9]
 | _ :: _,[]=>by simp [K9]
 | p :: ps,q :: qs=>by
  rw [z0w,z0w,K9,aN0,aB0 ps qs]
  by_cases h1:p=q <;> by_cases h2:ps=qs <;> simp [h1,h2]
theorem aA4:∀ ps qs:List Rat,ac9 (ps.map N8) (qs.map N8)=true
 | [],[]=>by simp [ac9]
 | [],_ :: _=>by simp [ac9]
 | _ :: _,[]=>by simp [ac9]
 | p :: ps,q :: qs=>by rw [z0w,z0w,ac9,aG2,aA4 ps qs];rfl
theorem aB2:∀ qs:List Rat,ah7 (qs.map N8)<=1
 | []=>by simp [ah7]
 | q :: qs=>by
  have h1:dpD (N8 q)<=1:=by simp [N8,dpD,ah7]
  have h2:=aB2 qs
  rw [z0w,ah7]
  lia
def P4 (qs:List Rat):D:=.lst (qs.map N8)
theorem O9 {K:q0a} {H:Hp} {a:Addr} {vs:List V} {qs:List Rat} (h:SqL K H a vs) (n:v3 H vs qs):IsD K H (.ref a) (P4 qs):=.lst h n.isDs
theorem ak0 (ps qs:List Rat):eqD (P4 ps) (P4 qs)=decide (ps=qs):=by unfold P4;rw [eqD,aB0]
theorem aj2 (ps qs:List Rat):okD (P4 ps) (P4 qs)=true:=by unfold P4;rw [okD,aA4]
theorem aq2 (qs:List Rat):dpD (P4 qs)<=2:=by unfold P4;rw [dpD];have:=aB2 qs;lia
structure U7 (qs:List Rat) (m:Nat):Prop where
 le:m<=qs.length
 zero:∀ (i:Nat) (q:Rat),m<=i->qs[i]? = some q->q=0
 last:m ≠ 0->∀ q,qs[m-1]? = some q->q ≠ 0
theorem U7.self {qs:List Rat} {m:Nat} (a:U7 qs m):U7 (qs.take m) m:=by
 have hl:(qs.take m).length=m:=by rw [j0j];have:=a.le;lia
 refine ⟨by lia,λi q hi e=>?_,λh q e=>?_⟩
 ·rw [z0m (by lia)] at e;cases e
 ·rw [m0z (by lia)] at e
  exact a.last h q e
def evs {α:Type}:List α->List α
 | []=>[]
 | [x]=>[x]
 | x :: _ :: r=>x :: evs r
def ods {α:Type} (xs:List α):List α:=evs xs.tail
theorem bo5 (vs:List V) {m:Nat} (h:m<=vs.length):bc2 vs none (some (m:Int))=vs.take m:=by
 unfold bc2
 have e1:HT.sIx vs.length 0 none=0:=by simp [HT.sIx]
 have e2:HT.sIx vs.length vs.length (some (m:Int))=m:=by
  simp only [HT.sIx]
  split <;> lia
 rw [e1,e2];simp
end R
set_option maxRecDepth 100000
namespace L2
open PySem PySem.Spec PyProof.Rows
def WhN (Pv:St->Hp->Prop) (μ:St->Hp->Nat) (m:Nat):St->Hp->Prop:=λσ' H' => ∃ m',m'<m/\(m'=μ σ' H'/\Pv σ' H')
theorem WhN.mk {Pv:St->Hp->Prop} {μ:St->Hp->Nat} {m:Nat} {σ':St} {H':Hp} (h:Pv σ' H') (l:μ σ' H'<m):WhN Pv μ m σ' H':=⟨_,l,rfl,h⟩
def WhB (tb:TS) (D:aa7) (Pv:St->Hp->Prop) (μ:St->Hp->Nat) (m:Nat) (σ:St) (H1:Hp):Prop :=
 ∃ N:St->Hp->Prop,(∀ σ' H',N σ' H'->∃ m',m'<m/\(m'=μ σ' H'/\Pv σ' H'))/\tb { D with nx:=N,ct:=N,bk:=D.nx } σ H1
theorem WhB.mk {tb:TS} {D:aa7} {Pv:St->Hp->Prop} {μ:St->Hp->Nat} {m:Nat} {σ:St} {H1:Hp} (h:tb { D with nx:=WhN Pv μ m,ct:=WhN Pv μ m,bk:=D.nx } σ H1):WhB tb D Pv μ m σ H1:=⟨_,λ_ _ n=>n,h⟩
theorem aq9 {c:TT} {tb:TS} {D:aa7} {σ:St} {H:Hp} (Pv:St->Hp->Prop) (μ:St->Hp->Nat) (h0:Pv σ H)
  (hs:∀ σ H,Pv σ H->c σ H λb H1=>if b=true then WhB tb D Pv μ (μ σ H) σ H1 else D.nx σ H1):ak5 c tb D σ H:=by
 refine ⟨λm σ H=>m=μ σ H/\Pv σ H,⟨_,rfl,h0⟩,?_⟩
 rintro m σ H ⟨rfl,p⟩
 exact hs σ H p
theorem c7.over {H H1:Hp} {l:Addr} (s:c7 H H1) (hl:H l=none) (o:HO):c7 H (upd H1 l o):=λb u h=>by
 rw [g8 (g7 h hl)];exact s b u h
def ak4 (J:It) (D:Addr) (σ0:St) (H0:Hp) (g:TG) (te:TE) (Q:VK):Prop:=∃ W:Nat->Nat->St->Hp->Prop,(∃ m,W 0 m σ0 H0) /\
 ∀ i m σc H2,W i m σc H2->(J.stop i H2/\Q (.ref D) H2) \/
  (J.go i H2/\∀ x H3,J.yld i H2 x H3->g x σc H3 λσ4 H4=>te σ4 H4 λy H5 => ∃ ys,H5 D=some (.lst ys)/\ys.length<sizeLine/\∃ m',m'<m/\W (i+1) m' σ4 (upd H5 D (.lst (ys ++ [y]))))
theorem aJ5 (wi:TI) (caps:List (Option Nat)) (g:TG) (te:TE):bf0 wi caps g te=λσ H Q=>wi σ H λJ H1 => ∀ D,H1 D=none->ak4 J D (J1 caps σ) (upd H1 D (.lst [])) g te Q:=rfl
def aT5 (J:It) (D:Addr) (σ0:St) (H0:Hp) (g:TG) (tt:TT) (te:TE) (Q:VK):Prop:=∃ W:Nat->Nat->St->Hp->Prop,(∃ m,W 0 m σ0 H0) /\
 ∀ i m σc H2,W i m σc H2->(J.stop i H2/\Q (.ref D) H2) \/
  (J.go i H2/\∀ x H3,J.yld i H2 x H3->g x σc H3 λσ4 H4=>tt σ4 H4 λb H4'=>if b=true then te σ4 H4' λy H5 => ∃ ys,H5 D=some (.lst ys)/\ys.length<sizeLine/\∃ m',m'<m/\W (i+1) m' σ4 (upd H5 D (.lst (ys ++ [y])))
   else ∃ m',m'<m/\W (i+1) m' σ4 H4')
theorem ar2 (wi:TI) (caps:List (Option Nat)) (g:TG) (tt:TT) (te:TE):aD0 wi caps g tt te=λσ H Q=>wi σ H λJ H1 => ∀ D,H1 D=none->aT5 J D (J1 caps σ) (upd H1 D (.lst [])) g tt te Q:=rfl
section
variable {K:q0a} {a D:Addr} {xs:List V} {g:TG} {te:TE} {σ0:St} {H0:Hp} {Q:VK}
theorem U5 (xs:List V) (Pv:Nat->St->Hp->Prop) (h0:Pv 0 σ0 H0) (hl:∀ i σ H,i<=xs.length->Pv i σ H->SqL K H a xs)
  (hs:∀ i x σ H,xs[i]? = some x->Pv i σ H->g x σ H λσ4 H4=>te σ4 H4 λy H5=>G0 D xs.length Pv i σ4 y H5) (hd:∀ σ H,Pv xs.length σ H->Q (.ref D) H):ak4 (Itl K a) D σ0 H0 g te Q:=bc4 Pv h0 hl hs hd
theorem bo2 (xs:List V) (Pv:Nat->St->Hp->Prop) (h0:Pv 0 σ0 H0) (hl:∀ i σ H,i<=xs.length->Pv i σ H->SqT K H a xs)
  (hs:∀ i x σ H,xs[i]? = some x->Pv i σ H->g x σ H λσ4 H4=>te σ4 H4 λy H5=>G0 D xs.length Pv i σ4 y H5) (hd:∀ σ H,Pv xs.length σ H->Q (.ref D) H):ak4 (Itt K a) D σ0 H0 g te Q:=bo7 Pv h0 hl hs hd
theorem bo3 {lo:Int} {n:Nat} (Pv:Nat->St->Hp->Prop) (h0:Pv 0 σ0 H0)
  (hs:∀ i σ H,i<n->Pv i σ H->g (.int (lo+i)) σ H λσ4 H4=>te σ4 H4 λy H5=>G0 D n Pv i σ4 y H5) (hd:∀ σ H,Pv n σ H->Q (.ref D) H):ak4 (Itr lo n) D σ0 H0 g te Q:=aS7 Pv h0 hs hd
end
theorem D5 {cells:List (Str × Addr)}:∀ (x:Str) (c:Addr),([]:List (Str × Addr)).lookup x=some c->cells.lookup x=some c:=λx c h=>by cases h
theorem C5 {cells cl:List (Str × Addr)} {k:Str} {a:Addr} (h:cells.lookup k=some a) (r:∀ (x:Str) (c:Addr),cl.lookup x=some c->cells.lookup x=some c):∀ (x:Str) (c:Addr),((k,a) :: cl).lookup x=some c->cells.lookup x=some c:=λx c e=>by
 rw [q1c] at e
 split at e
 ·rename_i q
  have:=eq_of_beq q
  subst this
  cases e
  exact h
 ·exact r x c e
end L2
namespace R
open PySem L2 PyProof.Rows
theorem bj1 {H:Hp} {p l:Addr} {o:HO} (h:upd H p o l=none):H l=none:=by
 by_cases q:l=p
 ·subst q;rw [c4] at h;cases h
 ·rw [g8 q] at h;exact h
theorem bF4 {H:Hp} {p l:Addr} {o:HO} (h:upd H p o l=none):l ≠ p:=λq=>by
 subst q;rw [c4] at h;cases h
end R
set_option maxRecDepth 100000
namespace L2
open PySem PySem.Spec PyProof.Rows
def Itz (K:PySem.W.Frag) (a b:Addr):It :=
  ⟨λi H => ∃ xs ys x y,SqL K H a xs/\SqL K H b ys/\xs[i]? = some x/\ys[i]? = some y,
   λi H v H' => ∀ xs ys,SqL K H a xs->SqL K H b ys->∃ x y p,xs[i]? = some x/\ys[i]? = some y/\H p=none/\v=.ref p/\H'=upd H p (.tup [x,y]),
   λi H => ∃ xs ys,SqL K H a xs/\SqL K H b ys/\(xs.length<=i \/ ys.length<=i)⟩
theorem be2 {P:Program} {w:World} {K:q0a} {elts:List Expr} {k:Nat} {tpos:Pos} (a b z TI TO i1 i2:Addr) (D:ZipApart z TI TO i1 i2 a b) :
  aT4 P w K (.Tuple elts k tpos) (Itz K a b) [z,TI,TO,i1,i2] z (λi h=>IsZip h z TI TO .none/\IsPair h TI (.ref i1) (.ref i2)/\(∃ a b,IsPair h TO a b)/\h.IsListIter i1 a i/\h.IsListIter i2 b i) where
 mem:=by simp
 obj:=λi h st c hc=>by
  obtain ⟨hz,hTI,⟨p,q,hTO⟩,h1,h2⟩:=st
  rcases (by simpa using hc:c=z \/ c=TI \/ c=TO \/ c=i1 \/ c=i2) with e | e | e | e | e <;> subst e
  ·exact ⟨_,hz,λv z=>by cases z⟩
  ·exact ⟨_,hTI,λv z=>by cases z⟩
  ·exact ⟨_,hTO,λv z=>by cases z⟩
  ·obtain ⟨o,e,c,d⟩:=h1
   exact ⟨o,e,λv z=>by rw [d] at z;cases z⟩
  ·obtain ⟨o,e,c,d⟩:=h2
   exact ⟨o,e,λv z=>by rw [d] at z;cases z⟩
 keep:=λi h h' st k=>by
  obtain ⟨hz,hTI,⟨p,q,hTO⟩,h1,h2⟩:=st
  exact ⟨k z (by simp) _ hz,k TI (by simp) _ hTI,⟨p,q,k TO (by simp) _ hTO⟩,h1.at λo e=>k i1 (by simp) o e,h2.at λo e=>k i2 (by simp) o e⟩
 item:=by
  intro X hP hw hK hc i pins s σ H E I hf st hg
  subst hP hw hK
  obtain ⟨xs,ys,x,y,hq,hq',hx,hy⟩:=hg
  obtain ⟨its,rv,p,hlz⟩:=I.list hq
  obtain ⟨its',rv',p',hlz'⟩:=I.list hq'
  obtain ⟨u,hu,ru⟩:=rv.get hx
  obtain ⟨u',hu',ru'⟩:=rv'.get hy
  obtain ⟨hz,hTI,⟨pa,pb,hTO⟩,h1,h2⟩:=st
  have zlt:z<s.heap.objs.size:=q0j hz
  refine wpAny_pyNext_zip_item D hz hTI hTO h1 h2 p.isList p'.isList (x:=u) (y:=u') (by simpa using hu) (by simpa using hu') λh' a1 a2 a3 a4 a5 a6 kk=>?_
  refine ⟨_,rfl,?_⟩
  refine wpAny_letOwnedTupleGo_zip (s:={ s with heap:=h' }) a1 λh'' hz'' sb=>?_
  have up:∀ c o,c ≠ z->h'.get? c=some o->h''.get? c=some o:=λc o n q=>(sb.2 c n).trans q
  have hT':h''.get? s.heap.objs.size=some { cls:=.type "tuple",data:=.seq #[u,u'] }:=up _ _ (z1y zlt) a5
  refine ⟨.ref s.heap.objs.size,upd H s.heap.objs.size (.tup [x,y]),I.turnLaid (fp:=[z,TI,TO,i1,i2]) (t':=s.toks) hf (λc v hb q=>?_) (q0q _) ?_,rfl,?_,?_,λc hb=>?_⟩
  ·have n1:c ≠ z:=λe=>hb (by simp [e])
   have n2:c ≠ TO:=λe=>hb (by simp [e])
   have n3:c ≠ i1:=λe=>hb (by simp [e])
   have n4:c ≠ i2:=λe=>hb (by simp [e])
   exact up c v n1 (kk c v n1 n2 n3 n4 q)
  ·exact ⟨(show 2<=sizeLine by trivial),[u,u'],.cons ru (.cons ru' .nil),_,hT',rfl,_,rfl⟩
  ·intro vs ws hv hw
   rw [I.list_inj hv hq,I.list_inj hw hq']
   exact ⟨x,y,_,hx,hy,I.fresh,rfl,rfl⟩
  ·refine ⟨hz'',up _ _ D.TIz (kk _ _ D.TIz D.TITO D.TIi1 D.TIi2 hTI),⟨u,u',up _ _ D.TOz a2⟩,a3.at λo q=>up _ o D.i1z q,a4.at λo q=>up _ o D.i2z q⟩
  ·have hlt:c<s.heap.objs.size:=by
    have l1:i1<s.heap.objs.size:=by obtain ⟨_,e,_⟩:=h1;exact q0j e
    have l2:i2<s.heap.objs.size:=by obtain ⟨_,e,_⟩:=h2;exact q0j e
    rcases (by simpa using hb:c=z \/ c=TI \/ c=TO \/ c=i1 \/ c=i2) with e | e | e | e | e <;> rw [e]
    ·exact zlt
    ·exact q0j hTI
    ·exact q0j hTO
    ·exact l1
    ·exact l2
   rw [g8 (z0b hlt)]
   exact (hf c hb).1
 done:=by
  intro X hP hw hK hc i pins s σ H E I hf st hg
  subst hP hw hK
  obtain ⟨xs,ys,hq,hq',hend⟩:=hg
  obtain ⟨its,rv,p,hlz⟩:=I.list hq
  obtain ⟨its',rv',p',hlz'⟩:=I.list hq'
  obtain ⟨hz,hTI,⟨pa,pb,hTO⟩,h1,h2⟩:=st
  have l1:=rv.length
  have l2:=rv'.length
  refine wpAny_pyNext_zip_end (I.ok.hd hc) D hz hTI hTO h1 h2 p.isList p'.isList ?_ λh' kk=>⟨rfl,?_⟩
  ·rcases hend with e | e
   ·exact .inl (by simp;lia)
   ·exact .inr (by simp;lia)
  ·have nf:∀ b u,H b=some u->b ∉ [z,TI,TO,i1,i2]:=λb u e q=>by rw [(hf b q).1] at e;cases e
   have k:∀ b u,b ∉ [z,TI,TO,i1,i2]->s.heap.get? b=some u->h'.get? b=some u:=λc o hb q=>kk c o (λe=>hb (by simp [e])) (λe=>hb (by simp [e])) (λe=>hb (by simp [e])) (λe=>hb (by simp [e])) q
   refine I.step (t':=s.toks) (g':=s.gens) (d':=s.drawn) (ch:=[z,TI,TO,i1,i2]) (λb hb=>?_) (λb o _ _ hc e _=>k b o hc e) (λb o _ _ hc e _=>⟨o.slots,k b o hc e⟩) (λb o _ e n=>n)
    (λb o hc e=>⟨o,k b o hc e⟩) (λb xs e=>e) (λb o u e=>e) (λb ps e=>⟨#[],by rw [e];simp⟩) (λm hm=>?_) (λb u e=>?_) I.bare
   ·obtain ⟨_,f1,_,f3,f4,f5⟩:=hf b hb
    exact ⟨f3,f1,f4,f5⟩
   ·obtain ⟨o,es,ep,ho,r⟩:=hm
    exact ⟨o,es,ep,k _ o (λq=>(hf _ q).2.1 rfl) ho,r⟩
   ·refine (I.hok b u e).stay (λc v hc q=>k c v ?_ q) (λc q=>q) λc xs q=>q
    rcases hc with q | q
    ·rw [q];exact nf b u e
    ·exact nf c _ q
 self:=λ_ _ _ _ _ st h=>wpAny_pyIter_zip st.1 h
section
variable {X:Cx}
def bH1 (K:q0a) (ta:TA):TI:=λσ H R=>ta σ H λvs H1 => ∃ a b,vs=[.ref a,.ref b]/\(∃ xs,SqL K H1 a xs)/\(∃ ys,SqL K H1 b ys)/\R (Itz K a b) H1
theorem bD8 {elts:List Expr} {k:Nat} {tpos:Pos} {l l':Expr} {ta:TA} {p pos:Pos} (hg:Gl X "zip") (hm:X.mg "zip" = none) (ha:PA X [l,l'] ta) (hs:starEach [l,l'] X.env=[(false,eval l X.env),(false,eval l' X.env)]:=by rfl) (hs2:starEach [l'] X.env=[(false,eval l' X.env)]:=by rfl) :
  PI X (.Tuple elts k tpos) (.Call (.Name "zip" p) [l,l'] [] pos) (bH1 X.K ta):=by
 intro pins s σ H R I h
 refine Call_ (ad2 I hg hm (u:=.type "zip") (by trivial) (PyProof.Rows.callWith_type1 (thn (ha pos pins s σ H _ I h) λus s1 ⟨vs,H1,I1,r1,q1⟩=>?_) (by rw [hs,hs2]) (by rw [hs2];rfl)))
 obtain ⟨a,b,e,⟨xs,hq⟩,⟨ys,hq'⟩,q⟩:=q1
 subst e
 obtain ⟨u,u',rfl,rx,rx'⟩:=n5.two r1
 cases rx
 cases rx'
 obtain ⟨its,rv,p,hz⟩:=I1.list hq
 obtain ⟨its',rv',p',hz'⟩:=I1.list hq'
 have a1:a<s1.heap.objs.size:=by obtain ⟨_,e,_⟩:=p.isList;exact q0j e
 have a2:b<s1.heap.objs.size:=by obtain ⟨_,e,_⟩:=p'.isList;exact q0j e
 refine call_zip_2 p.isList p'.isList λh' hz hTI hTO hi1 hi2 hsz kk=>?_
 refine wpAny_pyIter_zip hz ?_
 have I2:Inv X pins σ H1 { s1 with heap:=h' }:=I1.kept (t':=s1.toks) kk
 refine ⟨_,_,_,_,H1,rfl,I2,be2 a b _ _ _ _ _ (zipApart_new a1 a2),⟨hz,hTI,⟨_,_,hTO⟩,hi1,hi2⟩,λc hb=>?_,q⟩
 have hb':s1.heap.objs.size<=c:=by
  rcases (by simpa using hb:c=s1.heap.objs.size+4 \/ c=s1.heap.objs.size+2 \/ c=s1.heap.objs.size+3 \/ c=s1.heap.objs.size \/ c=s1.heap.objs.size+1) with e | e | e | e | e <;> rw [e]
  ·exact g0p _ _
  ·exact g0p _ _
  ·exact g0p _ _
  ·exact q0q _
  ·exact g0p _ _
 obtain ⟨f0,f1,f2,f3,f4,f5⟩:=I1.fpOk (H':=H1) hb' (I1.hok.fresh hb')
 exact ⟨f0,f1,f2,f3,f4,f5⟩
end
end L2
set_option maxRecDepth 100000
namespace R
open PySem L2 PyProof.Rows
structure BdN (k:Nat) (q:Rat):Prop where
 n:q.num.natAbs<2 ^ k
 d:q.den<2 ^ k
theorem BdN.mono {m n:Nat} {q:Rat} (h:BdN m q) (l:m<=n):BdN n q:=⟨q0f h.n (c9 l),q0f h.d (c9 l)⟩
theorem BdN.mul {m n:Nat} {p q:Rat} (a:BdN m p) (b:BdN n q):BdN (m+n) (p*q):=by
 rw [at7]
 have hb:(p.den:Int)*q.den ≠ 0:=j1b (u0n (w5 p) (w5 q))
 obtain ⟨e1,e2⟩:=U9 (t:=p.num*q.num) hb
 rw [z0f] at e1 e2
 refine ⟨q0v e1 ?_,q0v e2 ?_⟩
 ·rw [y0e];exact j0w a.n b.n
 ·rw [y0e,q0k,q0k];exact j0w a.d b.d
theorem BdN.add {m n:Nat} {p q:Rat} (a:BdN m p) (b:BdN n q):BdN (m+n+1) (p+q):=by
 rw [av7]
 have hb:(p.den:Int)*q.den ≠ 0:=j1b (u0n (w5 p) (w5 q))
 obtain ⟨e1,e2⟩:=U9 (t:=p.num*q.den+q.num*p.den) hb
 have h1:(p.num*q.den).natAbs<2 ^ (m+n):=by
  rw [z0f,y0e,q0k];exact j0w a.n b.d
 have h2:(q.num*p.den).natAbs<2 ^ (m+n):=by
  rw [z0f,y0e,u0g (2 ^ m),q0k];exact j0w b.n a.d
 rw [z0f] at e2
 have e3:=m0t (p.num*q.den) (q.num*p.den)
 refine ⟨by rw [v0j];lia,q0v e2 ?_⟩
 have:p.den*q.den<2 ^ (m+n):=by rw [y0e];exact j0w a.d b.d
 rw [q0k,q0k,v0j];lia
structure SmW (q:Rat):Prop where
 n:q.num.natAbs<2 ^ 42
 d:q.den<2 ^ 40
section
variable {α β:Type}
def N0 [Add α]:List α->Nat->α->List α
 | [],_,_=>[]
 | y :: r,0,x=>(y+x) :: r
 | y :: r,k+1,x=>y :: N0 r k x
theorem aC2 [Add α]:∀ (f:List α) (k:Nat) (x:α),(N0 f k x).length=f.length
 | [],_,_=>rfl
 | _ :: _,0,_=>rfl
 | _ :: r,k+1,x=>by simp [N0,aC2 r k x]
theorem am8 [Add α]:∀ (f:List α) (k:Nat) (x y:α),f[k]? = some y->f.set k (y+x)=N0 f k x
 | [],_,_,_,h=>by simp at h
 | z :: r,0,x,y,h=>by cases h;rfl
 | z :: r,k+1,x,y,h=>by
  rw [u0b,N0,am8 r k x y (by simpa using h)]
theorem ae0 [Add α]:∀ (f:List α) (k i:Nat) (x:α),i ≠ k->(N0 f k x)[i]? = f[i]?
 | [],_,_,_,_=>rfl
 | _ :: _,0,0,_,h=>absurd rfl h
 | _ :: _,0,i+1,_,_=>rfl
 | _ :: _,k+1,0,_,_=>rfl
 | _ :: r,k+1,i+1,x,h=>by
  simp only [N0,v0z];exact ae0 r k i x (by lia)
theorem ai1 [Add α]:∀ (f:List α) (k:Nat) (x y:α),f[k]? = some y->(N0 f k x)[k]? = some (y+x)
 | [],_,_,_,h=>by simp at h
 | z :: r,0,x,y,h=>by cases h;rfl
 | z :: r,k+1,x,y,h=>by simp only [N0,v0z];exact ai1 r k x y (by simpa using h)
theorem aC1 [Add α] [Add β] (φ:α->β) (hφ:∀ a b,φ (a+b)=φ a+φ b):∀ (f:List α) (k:Nat) (x:α),(N0 f k x).map φ=N0 (f.map φ) k (φ x)
 | [],_,_=>rfl
 | y :: r,0,x=>by simp [N0,hφ]
 | y :: r,k+1,x=>by simp [N0,aC1 φ hφ r k x]
def w9 [Add α] [Mul α] (z:α) (f:List α) (i:Nat) (x:α) (q:List α):Nat->List α
 | 0=>f
 | j+1=>N0 (w9 z f i x q j) (i+j) (x*(q[j]?).getD z)
def B8 [Add α] [Mul α] (z:α) (f p q:List α):Nat->List α
 | 0=>f
 | i+1=>w9 z (B8 z f p q i) i ((p[i]?).getD z) q q.length
theorem Z5 [Add α] [Mul α] (z:α) (f:List α) (i:Nat) (x:α) (q:List α):∀ j,(w9 z f i x q j).length=f.length
 | 0=>rfl
 | j+1=>by rw [w9,aC2,Z5 z f i x q j]
theorem al2 [Add α] [Mul α] (z:α) (f p q:List α):∀ n,(B8 z f p q n).length=f.length
 | 0=>rfl
 | n+1=>by rw [B8,Z5,al2 z f p q n]
end
def T7 (p q:List Rat):List Rat:=if p=[] \/ q=[] then [] else B8 0 (z0e (p.length+q.length-1) 0) p q p.length
def aL5 (p q:List Int):List Int:=if p=[] \/ q=[] then [] else B8 0 (z0e (p.length+q.length-1) 0) p q p.length
def scl (s:Rat) (ws:List Int):List Rat:=ws.map λw:Int=>s*(w:Rat)
theorem aq0 (s:Rat) (ws:List Int):(scl s ws).length=ws.length:=by simp [scl]
theorem aK3 (s:Rat) (ws:List Int) (i:Nat):((scl s ws)[i]?).getD 0=s*(((ws[i]?).getD 0:Int):Rat):=by
 unfold scl
 rw [q0r]
 cases ws[i]? with
 | none=>show (0:Rat)=s*((0:Int):Rat);rw [z0k];grind
 | some w=>rfl
theorem ba0 (s:Rat) (f:List Int) (k:Nat) (x:Int):scl s (N0 f k x)=N0 (scl s f) k (s*(x:Rat)) :=
 aC1 (λw:Int=>s*(w:Rat)) (λa b=>by rw [g0w];grind) f k x
theorem az1 (s t:Rat) (f:List Int) (i:Nat) (x:Int) (q:List Int):∀ j,scl (s*t) (w9 0 f i x q j)=w9 0 (scl (s*t) f) i (s*(x:Rat)) (scl t q) j
 | 0=>rfl
 | j+1=>by
  rw [w9,w9,ba0,az1 s t f i x q j,aK3,q0n]
  congr 1;grind
theorem az0 (s t:Rat) (f p q:List Int):∀ n,scl (s*t) (B8 0 f p q n)=B8 0 (scl (s*t) f) (scl s p) (scl t q) n
 | 0=>rfl
 | n+1=>by rw [B8,B8,az1,az0 s t f p q n,aK3,aq0]
theorem br9 (s t:Rat) (p q:List Int):scl (s*t) (aL5 p q)=T7 (scl s p) (scl t q):=by
 unfold aL5 T7
 have e1:(scl s p=[] \/ scl t q=[]) ↔ (p=[] \/ q=[]):=by simp [scl]
 by_cases h:p=[] \/ q=[]
 ·rw [if_pos h,if_pos (e1.mpr h)];rfl
 ·rw [if_neg h,if_neg (λz=>h (e1.mp z)),az0,aq0,aq0]
  congr 1
  unfold scl
  rw [List.map_replicate]
  congr 1
  rw [z0k];grind
theorem bj3 {p q:List Rat} (hp:p ≠ []) (hq:q ≠ []):(T7 p q).length=p.length+q.length-1:=by
 unfold T7
 rw [if_neg (by simp [hp,hq]),al2,v0m]
def m8 (qs:List Rat):Nat:=qs.foldl (λb q=>g0q b q.den) 1
theorem bb0 (qs:List Rat) (q:Rat):m8 (qs ++ [q])=g0q (m8 qs) q.den:=by simp [m8]
theorem ao1:∀ (qs:List Rat) (b m:Nat),b ∣ m->(∀ q ∈ qs,q.den ∣ m)->qs.foldl (λb q=>g0q b q.den) b ∣ m
 | [],_,_,h,_=>h
 | q :: qs,b,m,h,k=>ao1 qs _ m (Nat.lcm_dvd h (k q q0c)) λr hr=>k r (q0b _ hr)
theorem au1 {qs:List Rat} {m:Nat} (h:∀ q ∈ qs,q.den ∣ m):m8 qs ∣ m:=ao1 qs 1 m (Nat.one_dvd _) h
theorem aj8:∀ (qs:List Rat) (b:Nat),b ∣ qs.foldl (λb q=>g0q b q.den) b
 | [],_=>j1c _
 | q :: qs,b=>m0q (Nat.dvd_lcm_left _ _) (aj8 qs _)
theorem ao0:∀ (qs:List Rat) (b:Nat) (q:Rat),q ∈ qs->q.den ∣ qs.foldl (λb q=>g0q b q.den) b
 | r :: qs,b,q,h=>by
  rcases z0a.mp h with e | e
  ·subst e;exact m0q (Nat.dvd_lcm_right _ _) (aj8 qs _)
  ·exact ao0 qs _ q e
theorem T9 {qs:List Rat} {q:Rat} (h:q ∈ qs):q.den ∣ m8 qs:=ao0 qs 1 q h
def m5 (ws:List Int):Nat:=ws.foldl (λc w=>z0r w c) 0
theorem bb4 (ws:List Int) (w:Int):m5 (ws ++ [w])=z0r w (m5 ws):=by simp [m5]
theorem ao3:∀ (ws:List Int) (c:Nat),(ws.foldl (λc w=>z0r w c) c ∣ c)/\∀ w ∈ ws,((ws.foldl (λc w=>z0r w c) c:Nat):Int) ∣ w
 | [],c=>⟨j1c _,by simp⟩
 | w :: ws,c=>by
  obtain ⟨h1,h2⟩:=ao3 ws (z0r w c)
  have a1:z0r w c ∣ c:=by have:=u0f w (c:Int);exact j0x.mp this
  refine ⟨m0q h1 a1,λv hv=>?_⟩
  rcases z0a.mp hv with e | e
  ·subst e
   exact z1s (j0x.mpr h1) (u0j v (c:Int))
  ·exact h2 v e
theorem D3 {ws:List Int} {w:Int} (h:w ∈ ws):((m5 ws:Nat):Int) ∣ w:=(ao3 ws 0).2 w h
theorem ao2:∀ (ws:List Int),ws.foldl (λc w=>z0r w c) 1=1
 | []=>rfl
 | w :: ws=>by
  rw [List.foldl_cons]
  have:z0r w ((1:Nat):Int)=1:=by simp
  rw [this,ao2 ws]
theorem bm4 {ws:List Int} (i:Nat) (h:m5 (ws.take i)=1):m5 ws=1:=by
 have e:ws=ws.take i ++ ws.drop i:=(List.take_append_drop i ws).symm
 rw [e]
 unfold m5 at h ⊢
 rw [List.foldl_append,h,ao2]
def j9 (B:Nat) (qs:List Rat):List Int:=qs.map λq=>q.num*(B:Int).fdiv (q.den:Int)
theorem bd9 {B:Nat} {q:Rat} (hB:0<B) (h:q.den ∣ B):q=q0s (q.num*(B:Int).fdiv (q.den:Int)) B:=by
 obtain ⟨e,he⟩:=h
 have hd:(q.den:Int) ≠ 0:=by have:=q.den_nz;lia
 have e1:(B:Int).fdiv (q.den:Int)=(e:Int):=by
  rw [he,j0e];exact p7 hd
 rw [e1]
 conv=>lhs;rw [<- z0u q]
 rw [y0b hd ⋯,he,j0e]
 grind
end R
namespace L2
open PySem PySem.Spec PyProof.Rows
section
variable {K:q0a} {a b D:Addr} {xs ys:List V} {g:TG} {te:TE} {σ0:St} {H0:Hp} {Q:VK}
theorem cw_enum (xs:List V) (Pv:Nat->St->Hp->Prop) (h0:Pv 0 σ0 H0) (hl:∀ i σ H,Pv i σ H->SqL K H a xs)
  (hs:∀ i x σ H p,xs[i]? = some x->Pv i σ H->H p=none->g (.ref p) σ (upd H p (.tup [.int i,x])) λσ4 H4=>te σ4 H4 λv H5=>G0 D xs.length Pv i σ4 v H5)
  (hd:∀ σ H,Pv xs.length σ H->Q (.ref D) H):ak4 (Ite K a) D σ0 H0 g te Q:=by
 refine ⟨λi m σ H=>m=xs.length-i/\i<=xs.length/\Pv i σ H,⟨_,rfl,j0g _,h0⟩,?_⟩
 rintro i m σ H ⟨rfl,hi,p⟩
 have q:=hl i σ H p
 by_cases hlt:i<xs.length
 ·refine .inr ⟨⟨xs,xs[i],q,q0d hlt⟩,?_⟩
  intro x H3 hy
  obtain ⟨y,r,hy1,hr,rfl,rfl⟩:=hy xs q
  exact hs i y σ _ r hy1 p hr
 ·have e:i=xs.length:=⋯
  subst e
  exact .inl ⟨⟨xs,q,q0q _⟩,hd σ H p⟩
theorem au7 {tb:TS} {E:aa7} {σ:St} {H:Hp} (xs:List V) (Pv:Nat->St->Hp->Prop) (h0:Pv 0 σ H) (hl:∀ i σ H,Pv i σ H->SqL K H a xs)
  (hs:∀ i x σ H p,xs[i]? = some x->Pv i σ H->H p=none->g (.ref p) σ (upd H p (.tup [.int i,x])) λσ2 H2=>tb { E with nx:=Pv (i+1),ct:=Pv (i+1),bk:=E.nx } σ2 H2) (hd:∀ σ H,Pv xs.length σ H->E.nx σ H) :
  ∃ W:Nat->Nat->St->Hp->Prop,(∃ m,W 0 m σ H)/\∀ i m σ H,W i m σ H ->
   ((Ite K a).stop i H/\E.nx σ H) \/ ((Ite K a).go i H/\∃ N:St->Hp->Prop,(∀ σ' H',N σ' H'->∃ m',m'<m/\W (i+1) m' σ' H')/\∀ x H',(Ite K a).yld i H x H'->g x σ H' λσ2 H2=>tb { E with nx:=N,ct:=N,bk:=E.nx } σ2 H2):=by
 refine ⟨λi m σ H=>m=xs.length-i/\i<=xs.length/\Pv i σ H,⟨_,rfl,j0g _,h0⟩,?_⟩
 rintro i m σ H ⟨rfl,hi,p⟩
 have q:=hl i σ H p
 by_cases hlt:i<xs.length
 ·refine .inr ⟨⟨xs,xs[i],q,q0d hlt⟩,Pv (i+1),λσ' H' n=>⟨_,⋯,rfl,hlt,n⟩,?_⟩
  intro x H3 hy
  obtain ⟨y,r,hy1,hr,rfl,rfl⟩:=hy xs q
  exact hs i y σ _ r hy1 p hr
 ·have e:i=xs.length:=⋯
  subst e
  exact .inl ⟨⟨xs,q,q0q _⟩,hd σ H p⟩
end
section
variable {X:Cx}
theorem bm2:bN5 X (aE4 X.K):=by
 intro pins s σ H x y v u Q I rx ry h
 obtain ⟨p,xs,i,z,rfl,rfl,hq,he,q⟩:=h
 cases rx
 obtain ⟨t,rfl⟩:=ry
 obtain ⟨its,r,pl,hz⟩:=I.list hq
 obtain ⟨j,h1,h2,h3,h4,h5⟩:=aI5 he
 obtain ⟨w,ew,rw'⟩:=r.get h2
 have hl:=r.length
 have hn:=ah6
 have fin:EP X pins σ Q w s:=⟨z,H,I,rw',q⟩
 by_cases h0:0<=i
 ·have hj:i.toNat=j:=by
   rw [seqIndex_of h0 h5] at h1
   exact Option.some.inj h1
  exact wpAny_getItem_list pl.isList h0 ⋯ (by rw [hj];simpa using ew) fin
 ·have hj:(i+(its.toArray.size:Int)).toNat=j:=by
   rw [seqIndex_neg ⋯ h4] at h1
   rw [q0u,<- hl]
   exact Option.some.inj h1
  exact wpAny_getItem_list_neg pl.isList ⋯ (by rw [q0u] <;> omega) ⋯ (by rw [hj];simpa using ew) fin
theorem aA5 {h:Heap} {a:Addr} {m:Str->Option Value} {o:Obj} (n:h.Ns a m) (e:h.get? a=some o) (v:Option Value) (z:o.data=.cell v):False:=by
 obtain ⟨o',es,ep,e',r⟩:=n
 rw [e] at e'
 cases e'
 have d:=r.1
 rw [d] at z;cases z
theorem ar9 {elt tg iter:Expr} {scope:Scope} {pos spos py:Pos} {y:Str} {i₀:Nat} {cl:List (Str × Addr)} {Nc:List Str} {caps:List (Option Nat)} {wi:TI} {g:TG} {te:TE} (hN:X.N.Nodup) (hi₀:X.N[i₀]? = some y) (hx:Loc X.env.scope y) (hc:X.calm=true) (cp:Y7 X scope cl Nc caps) (hi:PI X tg iter wi)
  (hg:∀ C s₂ H₂ fp pins,PG (X.block scope cl C Nc s₂ H₂ fp pins) tg g) (he:∀ C s₂ H₂ fp pins,PE (X.block scope cl C Nc s₂ H₂ fp pins) elt te) (hs:∀ x,foldedSetIterable iter X.env x=pure x:=by intro _;rfl) (hsw:swapsWith (.ListComp elt [⟨tg,iter,[],0⟩] scope pos) (some (.Name y py)) spos.line X.env=pure true:=by rfl)
  (hf:X.fn y=true \/ X.env.scope.names.lookup y=some .local:=by first | exact .inl rfl | exact .inr rfl | assumption) :
  PS X (.Assign [.Name y py] (.ListComp elt [⟨tg,iter,[],0⟩] scope pos) spos) (aZ5 (bf0 wi caps g te) (t8 i₀)):=by
 intro pins s σ H DD I h
 rw [exec_Assign_Name_used _ _ _ _ hsw]
 refine wpAny_bind (wpAny_standAt (wpAny_bind ?_))
 show wpAny _ X.A (do let _ <- comprehension (.ListComp elt [⟨tg,iter,[],0⟩] scope pos) scope X.env _ (newList []) false (eval iter X.env) (some (assign (.Name y py) X.env))) _ _ s
 refine wpAny_bind (wpAny_mono (wpAny_comprehension_free (use:=some (assign (.Name y py) X.env)) (Q:=λ_ s'=>SP X pins DD .next s') rfl hs cp.clos cp.kind cp.names ?_) (λ_ s' hq=>wpAny_pure (wpAny_pure hq)) λ_ _ e=>e)
 refine thn (hi pins s σ H _ I h) λv s1 h1=>thn h1 λitv s2 h2=>?_
 obtain ⟨it,fp,tn,J,H2,e,I2,T,st2,f2,hW⟩:=h2
 subst e
 refine wpAny_newObj_type ?_ (by show 0<=sizeLine;exact j0g _)
 refine wpAny_newFunctionEnv cp.nocell (by intro y hy;simp at hy) (λh4 hns hsb=>?_) cp.kind
 dsimp only at hns hsb ⊢
 generalize hH3:s2.heap.push { cls:=.type "list",dict:=none,data:=.seq ([]:List Value).toArray }=H3 at hns hsb ⊢
 have hCe:H3.objs.size=s2.heap.objs.size+1:=by rw [<- hH3,m0e]
 have P5:∀ b o,s2.heap.get? b=some o->b ≠ H3.objs.size:=λb o e=>by rw [hCe];exact z0b (g0f (q0j e))
 have old:∀ b o,s2.heap.get? b=some o->h4.get? b=some o:=λb o e=>hsb.extBut b o (P5 b o e) (q0y _ (hH3 ▸ q0y _ e))
 have hD:h4.get? s2.heap.objs.size=some { cls:=.type "list",dict:=none,data:=.seq ([]:List Value).toArray } :=
  hsb.extBut _ _ (by rw [hCe];exact z0b (y0r _)) (q0y _ (hH3 ▸ j0b _ rfl))
 have hDn:H2 s2.heap.objs.size=none:=I2.fresh
 have hCn:H2 H3.objs.size=none:=I2.hok.fresh (by rw [hCe];exact v0s _)
 have hCs:s2.heap.objs.size<=H3.objs.size:=by rw [hCe];exact v0s _
 have hDC:s2.heap.objs.size ≠ H3.objs.size:=by rw [hCe];exact z0b (y0r _)
 have fpl:∀ b ∈ fp,∃ o,s2.heap.get? b=some o:=λb hb=>let ⟨o,e,_⟩:=T.obj _ _ st2 b hb;⟨o,e⟩
 have fpC:∀ b ∈ fp,b ≠ H3.objs.size:=λb hb=>let ⟨o,e⟩:=fpl b hb;P5 b o e
 have fpD:∀ b ∈ fp,b ≠ s2.heap.objs.size:=λb hb=>let ⟨o,e⟩:=fpl b hb;z0b (q0j e)
 have stkN:∀ b,b ≠ X.env.locals->b ∉ X.fs->b ∉ frs X.stack:=λb h1 h2 z=>(z0a.mp (I2.stkSub b z)).elim h1 h2
 obtain ⟨W,⟨m0,w0⟩,turn⟩:=hW s2.heap.objs.size hDn
 have okB:(X.block scope cl H3.objs.size Nc s2 H2 fp pins).Ok:=by
  refine ⟨I2.ok.mod,?_,I2.ok.glob,I2.ok.blt,hCs,λx y c h1 h2=>I2.ok.inj x y c (cp.sub x c h1) (cp.sub y c h2),λx hx=>cp.has x hx,λx c h=>(by cases h),I2.ok.hd,I2.ok.frames,.inl rfl,λb hb=>⟨fpC b hb,λx c h=>(f2 b hb).2.2.2.2.1 x c (cp.sub x c h)⟩,I2.bs,z0v I2.ok.bsz I2.sz,λb o e hb=>?_,λb hb=>stkN b (f2 b hb).2.1 (f2 b hb).2.2.1,I2.stack,I2.stkFree⟩
  ·exact cp.kind
  ·rcases (f2 b hb).2.2.2.1 with z | z
   ·exact I2.ok.noex b o e z
   ·exact absurd (q0f (q0j e) (z0v I2.ok.bsz z)) (y0w _)
 have hokB:HOk X.prog X.w (upd H2 s2.heap.objs.size (.lst [])) h4:=I2.hok.laid old (q0q _) ⟨j0g _,[],_,.nil,hD⟩
 have IB:Inv (X.block scope cl H3.objs.size Nc s2 H2 fp pins) [] (J1 caps σ) (upd H2 s2.heap.objs.size (.lst [])) { s2 with heap:=h4,toks:=s2.toks+([]:List (Str × Value)).length }:=by
  refine ⟨okB,rfl,I2.bare,Un.laid old (q0q _) hDn,⟨_,hns,λi x v e1 e2 e3=>?_⟩,λx c e=>?_,(show upd H2 s2.heap.objs.size (.lst []) H3.objs.size=none by rw [g8 (Ne.symm hDC)];exact hCn),λx c e=>?_,λp hp=>?_,hokB,?_⟩
  ·unfold J1 at e2
   rw [q0r] at e2
   cases hcap:caps[i]? with
   | none=>rw [hcap] at e2;cases e2
   | some o =>
    rw [hcap] at e2
    cases o with
    | none=>cases e2
    | some j =>
     have hj:σ[j]? = some (some v):=by
      have e2':(σ[j]?).join=some v:=Option.some.inj e2
      cases q:σ[j]? with
      | none=>rw [q] at e2';cases e2'
      | some z=>rw [q] at e2';exact congrArg some e2'
     obtain ⟨n1,n2,n3,n4⟩:=cp.cap i j x hcap e1
     obtain ⟨m,hm,hl⟩:=I2.loc
     obtain ⟨u,r,q⟩:=hl j x v n1 hj n2
     rcases q with ⟨k,_⟩ | ⟨k,c,ec,z⟩
     ·exact absurd k n3
     ·obtain ⟨c',ec'⟩:=cp.has x n4
      have:=cp.sub x c' ec'
      rw [ec] at this;cases this
      obtain ⟨oc,ho,hd⟩:=z
      exact ⟨u,r,.inr ⟨n4,c,ec',oc,old _ _ ho,hd⟩⟩
  ·obtain ⟨v,oc,ho,hd⟩:=I2.cell x c (cp.sub x c e)
   exact ⟨v,oc,old _ _ ho,hd⟩
  ·obtain ⟨v,oc,ho,hd⟩:=I2.cell x c (cp.sub x c e)
   rw [g8 (z0b (q0j ho))]
   exact I2.freeC x c (cp.sub x c e)
  ·have hp':p ∈ X.pn ++ pins:=by simpa using hp
   obtain ⟨e1,e2,e3,e4,e5⟩:=I2.pin p hp'
   exact ⟨old _ _ e1,by rw [g8 (z0b (q0j e1))];exact e2,P5 _ _ e1,stkN _ e3 e4,e5⟩
  ·show (J1 caps σ).length=Nc.length
   unfold J1
   rw [q0e];exact cp.len
 have stat:∀ {H':Hp},(∀ b ∈ fp,H' b=none)->∀ b ∈ fp,N1 (X.block scope cl H3.objs.size Nc s2 H2 fp pins) [] H' b:=λhn b hb =>
  ⟨hn b hb,fpC b hb,stkN b (f2 b hb).2.1 (f2 b hb).2.2.1,.inl hb,λx c h=>(f2 b hb).2.2.2.2.1 x c (cp.sub x c h),λp hp=>(f2 b hb).2.2.2.2.2 p (by simpa using hp)⟩
 have loop:∀ s5:Shared,s5={ s2 with heap:=h4,toks:=s2.toks+([]:List (Str × Value)).length } ->
   codeAny (model X.prog X.w) X.A (.compLoop (.ListComp elt [⟨tg,iter,[],0⟩] scope pos) 0 (.ref it) (.ref s2.heap.objs.size) (compEnvC scope cl H3.objs.size X.env))
    (compPost (model X.prog X.w) X.A X.xe (some (assign (.Name y py) X.env)) (λ_ s'=>SP X pins DD .next s') (.ref s2.heap.objs.size) H3.objs.size) s5:=by
  rintro s5 rfl
  refine aB5 (λn s' => ∃ i σ' H',Inv (X.block scope cl H3.objs.size Nc s2 H2 fp pins) [] σ' H' s'/\tn i s'.heap/\(∀ b ∈ fp,H' b=none)/\W i n σ' H') ?_ m0 ⟨0,_,_,IB,T.keep _ _ _ st2 λb hb o e=>old b o e,λb hb=>by rw [g8 (fpD b hb)];exact (f2 b hb).1,w0⟩
  rintro n s6 ⟨i,σ6,H6,I6,st6,fr6,w6⟩
  rcases turn i n σ6 H6 w6 with ⟨stop,qn⟩ | ⟨go,step⟩
  ·refine thn (T.done (X.block scope cl H3.objs.size Nc s2 H2 fp pins) rfl rfl rfl hc i [] s6 σ6 H6 _ I6 (stat fr6) st6 stop) λr s7 ⟨hr,I7⟩=>?_
   subst hr
   obtain ⟨m7,hn7,_⟩:=id I7.loc
   have Io:Inv X pins σ H6 s7:=I2.sameC (h'':=s7.heap) f2 I7.os I7.bare I7.base I7.hok hCs I7.free ⟨rfl,λ_ _=>rfl⟩
   have fC:N1 X pins H6 H3.objs.size:=I2.fpOk hCs I7.free
   have fC':∀ b ∈ [H3.objs.size],N1 X pins H6 b:=λb hb=>by rw [q0m.mp hb];exact fC
   obtain ⟨oC,esC,epC,hoC,restC⟩:=id hn7
   have obC:∀ b ∈ [H3.objs.size],∃ o,s7.heap.get? b=some o/\∀ v,o.data ≠ .cell v:=λb hb=>by
    rw [q0m.mp hb]
    exact ⟨oC,hoC,λv z=>aA5 hn7 hoC v z⟩
   have Ip:=Io.pinned fC' obC
   show wpAny (model X.prog X.w) X.A (assign (.Name y py) X.env (.ref s2.heap.objs.size)) _ _ s7
   refine thn (i3 (pos:=py) hN hi₀ hx hf _ s7 σ H6 (.ref s2.heap.objs.size) (.ref s2.heap.objs.size) DD.nx Ip rfl qn) λ_ s9 ⟨σ9,H9,I9,q9⟩=>?_
   have keepC:=(I9.pin (H3.objs.size,oC) (q0h _ (q0h _ (t5 (by simp) hoC)))).1
   have H9C:=(I9.pin (H3.objs.size,oC) (q0h _ (q0h _ (t5 (by simp) hoC)))).2.1
   refine ⟨m7,hn7.at' λo e=>by rw [hoC] at e;cases e;exact keepC,λh' sb=>?_⟩
   obtain ⟨_,g1,g2,g3,g4,g5⟩:=fC
   exact ⟨σ9,H9,I9.unpinned.turned (t':=s9.toks) (λb o hb e=>(sb.2 b hb).trans e) H9C g1 g3 g4 g5,q9⟩
  ·refine thn (T.item (X.block scope cl H3.objs.size Nc s2 H2 fp pins) rfl rfl rfl hc i [] s6 σ6 H6 _ I6 (stat fr6) st6 go) λr s7 ⟨u,hr,h7⟩=>?_
   subst hr
   refine thn h7 λ_ s8 ⟨x,H8,I8,r8,y8,st8,fr8⟩=>?_
   have I8':=I8.pinned (stat fr8) (T.obj _ _ st8)
   refine thn (hg _ _ _ _ _ _ s8 σ6 H8 x u _ I8' r8 (step x H8 y8)) λ_ s9 ⟨σ9,H9,I9,q9⟩=>?_
   refine thn (he _ _ _ _ _ _ s9 σ9 H9 _ I9 q9) λu10 s10 ⟨v10,H10,I10,r10,ys,hys,hlen,m',hm',w'⟩=>?_
   refine thn (G9 _ s10 σ9 H10 (.ref s2.heap.objs.size) [v10] (.ref s2.heap.objs.size) [u10] (λ_ H11=>H11=upd H10 s2.heap.objs.size (.lst (ys ++ [v10]))) I10 rfl (.cons r10 .nil) ⟨_,ys,v10,rfl,rfl,hys,hlen,rfl⟩) λ_ s11 ⟨_,H11,I11,_,hH11⟩=>?_
   subst hH11
   refine ⟨m',hm',i+1,σ9,_,I11.unpinned,T.keep _ _ _ st8 λb hb o e=>(I11.pin (b,o) (q0h _ (q0h _ (t5 hb e)))).1,λb hb=>?_,w'⟩
   obtain ⟨o,e,d⟩:=T.obj _ _ st8 b hb
   exact (I11.pin (b,o) (q0h _ (q0h _ (t5 hb e)))).2.1
 exact codeAny_compStart_list (loop _ rfl) (T.self _ 0 _ _ _ (T.keep _ _ _ st2 λb hb o e=>old b o e) (loop _ rfl))
def Itv (K:q0a) (a:Addr) (n:Nat):It :=
 ⟨λi H=>i<n/\∃ xs x,SqL K H a xs/\xs[n-1-i]? = some x,λi H x H'=>H'=H/\∀ xs,SqL K H a xs->xs[n-1-i]? = some x,λi H=>i=n⟩
theorem be3 {P:Program} {w:World} {K:q0a} {tg:Expr} (a it:Addr) (n:Nat):aT4 P w K tg (Itv K a n) [it] it (λi h=>h.IsRevIter it a ((n:Int)-1-(i:Int))) where
 mem:=by simp
 obj:=λi h st b hb=>by
  have e:b=it:=by simpa using hb
  subst e
  obtain ⟨o,e,c,d⟩:=st
  exact ⟨o,e,λv z=>by rw [d] at z;cases z⟩
 keep:=λi h h' st k=>st.at λo e=>k it (by simp) o e
 item:=by
  intro X hP hw hK hc i pins s σ H E I hf st hg
  subst hP hw hK
  obtain ⟨hi,xs,x,hq,hx⟩:=hg
  obtain ⟨its,rv,p,hz⟩:=I.list hq
  obtain ⟨u,hu,ru⟩:=rv.get hx
  obtain ⟨f0,f1,f2,f3,f4,f5⟩:=hf it (by simp)
  have e:(n:Int)-1-(i:Int)=((n-1-i:Nat):Int):=⋯
  rw [e] at st
  refine wpAny_pyNext_rev_item st p.isList (x:=u) (by simpa using hu) λh' st' sb=>?_
  have I1:Inv X pins σ H { s with heap:=h' }:=I.turned (t':=s.toks) (λb o hb e=>(sb.2 b hb).trans e) f0 f1 f3 f4 f5
  have e2:((n-1-i:Nat):Int)-1=(n:Int)-1-((i+1:Nat):Int):=by lia
  rw [e2] at st'
  obtain ⟨o,e,c,d⟩:=id st'
  exact ⟨u,rfl,aW7 (s:={ s with heap:=h' }) e c d (by decide) ⟨x,H,I1,ru,⟨rfl,λys hy=>by rw [I.list_inj hy hq];exact hx⟩,st',λb hb=>(hf b hb).1⟩⟩
 done:=by
  intro X hP hw hK hc i pins s σ H E I hf st hg
  subst hP hw hK
  have e:i=n:=hg
  subst e
  have e:(i:Int)-1-(i:Int)=-1:=by lia
  rw [e] at st
  obtain ⟨f0,f1,f2,f3,f4,f5⟩:=hf it (by simp)
  exact wpAny_pyNext_rev_end (I.ok.hd hc) st λh' eb=>⟨rfl,I.turned (t':=s.toks) (λb o hb e=>eb b o hb e) f0 f1 f3 f4 f5⟩
 self:=λ_ _ _ _ _ st h=>wpAny_pyIter_revIter st h
def bH3 (K:q0a) (ta:TA):TI:=λσ H R=>ta σ H λvs H1 => ∃ a xs,vs=[.ref a]/\SqL K H1 a xs/\R (Itv K a xs.length) H1
theorem bi0 {tg l:Expr} {ta:TA} {p pos:Pos} (hg:Gl X "reversed") (hm:X.mg "reversed" = none) (ha:PA X [l] ta) (hs:starEach [l] X.env=[(false,eval l X.env)]:=by rfl) :
  PI X tg (.Call (.Name "reversed" p) [l] [] pos) (bH3 X.K ta):=by
 intro pins s σ H R I h
 refine Call_ (ad2 I hg hm (u:=.type "reversed") (by trivial) (PyProof.Rows.callWith_type1 (thn (ha pos pins s σ H _ I h) λus s1 ⟨vs,H1,I1,r1,q1⟩=>?_) hs rfl))
 obtain ⟨a,xs,e,hq,q⟩:=q1
 subst e
 obtain ⟨u,rfl,rx⟩:=an2 r1
 cases rx
 obtain ⟨its,rv,p,hz⟩:=I1.list hq
 refine call_reversed_list p.isList ?_
 have hl:=rv.length
 have e:((its.toArray.size:Nat):Int)-1=(xs.length:Int)-1-((0:Nat):Int):=by simp;lia
 rw [e]
 have I2:Inv X pins σ H1 { s1 with heap:=s1.heap.push (revObj a ((xs.length:Int)-1-((0:Nat):Int))) }:=I1.kept (t':=s1.toks) λb o e=>q0y _ e
 refine wpAny_pyIter_revIter (it:=s1.heap.objs.size) (l:=a) (i:=(xs.length:Int)-1-((0:Nat):Int)) ⟨_,j0b _ rfl,rfl,rfl⟩ ?_
 refine ⟨s1.heap.objs.size,[s1.heap.objs.size],_,_,H1,rfl,I2,be3 a _ xs.length,⟨_,j0b _ rfl,rfl,rfl⟩,λb hb=>?_,q⟩
 have e:b=s1.heap.objs.size:=by simpa using hb
 subst e
 exact I1.fpOk (q0q _) (I1.hok.fresh (q0q _))
def ipM (c:Int->Int->Prop) (f:Int->Int->Int):TIp:=λx y H Q => ∃ i j,x=.int i/\y=.int j/\c i j/\Q (.int (f i j)) H
theorem bl1:PIp X .Mult (ipM IntMulOk λi j=>i*j):=by
 intro pins s σ H x y v u Q I r1 r2 h
 obtain ⟨i,j,e1,e2,hc,q⟩:=h
 subst e1;subst e2
 obtain ⟨t,rfl⟩:=r1
 obtain ⟨t',rfl⟩:=r2
 exact imul_int ⟨.int _,H,I.tok _,⟨_,rfl⟩,q⟩ hc
theorem aW9 {K:q0a} {a:Addr} {xs:List V} {g:TG} {tb:TS} {D:aa7} {σ:St} {H:Hp} (Pv:Nat->St->Hp->Prop) (h0:Pv 0 σ H) (hl:∀ i σ H,i<=xs.length->Pv i σ H->SqL K H a xs)
  (hs:∀ i x σ H,i<xs.length->xs[xs.length-1-i]? = some x->Pv i σ H->g x σ H λσ2 H2=>tb { D with nx:=Pv (i+1),ct:=Pv (i+1),bk:=D.nx } σ2 H2) (hd:∀ σ H,Pv xs.length σ H->D.nx σ H) :
  ∃ W:Nat->Nat->St->Hp->Prop,(∃ m,W 0 m σ H)/\∀ i m σ H,W i m σ H ->
   ((Itv K a xs.length).stop i H/\D.nx σ H) \/ ((Itv K a xs.length).go i H/\∃ N:St->Hp->Prop,(∀ σ' H',N σ' H'->∃ m',m'<m/\W (i+1) m' σ' H')/\∀ x H',(Itv K a xs.length).yld i H x H'->g x σ H' λσ2 H2=>tb { D with nx:=N,ct:=N,bk:=D.nx } σ2 H2):=by
 refine ⟨λi m σ H=>m=xs.length-i/\i<=xs.length/\Pv i σ H,⟨xs.length,by simp,j0g _,h0⟩,?_⟩
 rintro i m σ H ⟨rfl,hi,p⟩
 have q:=hl i σ H hi p
 by_cases hlt:i<xs.length
 ·refine .inr ⟨⟨hlt,xs,xs[xs.length-1-i],q,q0d ⋯⟩,Pv (i+1),λσ' H' p'=>⟨xs.length-(i+1),⋯,rfl,hlt,p'⟩,λx H' y=>?_⟩
  obtain ⟨e,y⟩:=y
  subst e
  exact hs i x σ _ hlt (y xs q) p
 ·have e:i=xs.length:=⋯
  subst e
  exact .inl ⟨rfl,hd σ H p⟩
def bC9 (K:q0a):List V->Hp->VK->Prop:=λxs H Q => ∃ p ys,xs=[.ref p]/\(SqL K H p ys \/ SqT K H p ys)/\Q (.int ys.length) H
theorem PS.nox {X:Cx} {st:Stmt} {t:TS} (h:PS X.nox st t):PS X st t:=λpins s σ H D I hw =>
 wpAny_mono (h pins s σ H D (I.wish _) hw) (λ_ _ q=>q.unwish) λ_ _ z=>False.elim z
structure OwnCells (h h':Heap) (names:List (Str × NameKind)) (acc cs:List (Str × Addr)):Prop where
 cell:∀ x c,cs.lookup x=some c->∃ v,h'.IsCell c v
 inj:∀ x y c,cs.lookup x=some c->cs.lookup y=some c->x=y
 old:∀ x c,cs.lookup x=some c->acc.lookup x=some c \/ h.objs.size<=c
 fresh:∀ x,(x,NameKind.cell) ∈ names->∀ c,cs.lookup x=some c->h.objs.size<=c
structure CapsC (X:Cx) (scope:Scope) (cl:List (Str × Addr)) (Nc:List Str) (caps:List (Option Nat)):Prop where
 clos:closureFor scope X.env=pure cl
 sub:∀ x c,cl.lookup x=some c->X.env.cells.lookup x=some c
 has:∀ n x,(relabel scope X.env).names.lookup x=some .cell \/ (relabel scope X.env).names.lookup x=some .free->∃ c,(cellsFrom n scope.names cl).lookup x=some c
 kind:scope.kind=.function
 names:∀ x ∈ scope.names,x.2=.local->scope.names.lookup x.1=some .local
 len:caps.length=Nc.length
 cap:∀ (i j:Nat) (x:Str),caps[i]? = some (some j)->Nc[i]? = some x->X.N[j]? = some x/\Vis X.env.scope x/\X.env.kindOf x ≠ some .local/\((relabel scope X.env).names.lookup x=some .cell \/ (relabel scope X.env).names.lookup x=some .free) /\
  (∃ c,cl.lookup x=some c)/\∀ n c,cl.lookup x=some c->(cellsFrom n scope.names cl).lookup x=some c
structure Stp (prog:Program) (w:World) (it src:Addr) (ar:Array Value) (st:Nat->Heap->Prop):Prop where
 stay:∀ {k:Nat} {h h':Heap},st k h->(∀ o,h.get? it=some o->h'.get? it=some o)->(∀ o,h.get? src=some o->h'.get? src=some o)->st k h'
 item:∀ {A:Around} {E:Value->Shared->Prop} {s:Shared} {k:Nat} {v:Value} {Q:Value->Shared->Prop},st k s.heap->ar[k]? = some v->(∀ h',st (k+1) h'->g0t it s.heap h'->Q v { s with heap:=h' })->wpAny (model prog w) A (Builtin.SmallTypes.nextOf (.ref it)) Q E s
 fin:∀ {A:Around} {E:Value->Shared->Prop} {s:Shared} {k:Nat} {Q:Value->Shared->Prop},A.handled=none->st k s.heap->ar[k]? = none->(∀ h' e,Heap.ExtBut it s.heap h'->(∃ o,h'.get? e=some o/\o.cls=.type "StopIteration")->E (.ref e) { s with heap:=h' })->wpAny (model prog w) A (Builtin.SmallTypes.nextOf (.ref it)) Q E s
open PySem PyProof.Rows
theorem aE8 {elt tg iter cnd:Expr} {scope:Scope} {pos spos py:Pos} {y:Str} {i₀:Nat} {cl:List (Str × Addr)} {Nc:List Str} {caps:List (Option Nat)} {wi:TI} {g:TG} {tt:TT} {te:TE} (hN:X.N.Nodup) (hi₀:X.N[i₀]? = some y) (hx:Loc X.env.scope y) (hc:X.calm=true) (cp:Y7 X scope cl Nc caps) (hi:PI X tg iter wi)
  (hg:∀ C s₂ H₂ fp pins,PG (X.block scope cl C Nc s₂ H₂ fp pins) tg g) (ht:∀ C s₂ H₂ fp pins,PT (X.block scope cl C Nc s₂ H₂ fp pins) cnd tt) (he:∀ C s₂ H₂ fp pins,PE (X.block scope cl C Nc s₂ H₂ fp pins) elt te) (hs:∀ x,foldedSetIterable iter X.env x=pure x:=by intro _;rfl) (hsw:swapsWith (.ListComp elt [⟨tg,iter,[cnd],0⟩] scope pos) (some (.Name y py)) spos.line X.env=pure true:=by rfl)
  (hf:X.fn y=true \/ X.env.scope.names.lookup y=some .local:=by first | exact .inl rfl | exact .inr rfl | assumption) :
  PS X (.Assign [.Name y py] (.ListComp elt [⟨tg,iter,[cnd],0⟩] scope pos) spos) (aZ5 (aD0 wi caps g tt te) (t8 i₀)):=by
 intro pins s σ H DD I h
 rw [exec_Assign_Name_used _ _ _ _ hsw]
 refine wpAny_bind (wpAny_standAt (wpAny_bind ?_))
 show wpAny _ X.A (do let _ <- comprehension (.ListComp elt [⟨tg,iter,[cnd],0⟩] scope pos) scope X.env _ (newList []) false (eval iter X.env) (some (assign (.Name y py) X.env))) _ _ s
 refine wpAny_bind (wpAny_mono (wpAny_comprehension_free (use:=some (assign (.Name y py) X.env)) (Q:=λ_ s'=>SP X pins DD .next s') rfl hs cp.clos cp.kind cp.names ?_) (λ_ s' hq=>wpAny_pure (wpAny_pure hq)) λ_ _ e=>e)
 refine thn (hi pins s σ H _ I h) λv s1 h1=>thn h1 λitv s2 h2=>?_
 obtain ⟨it,fp,tn,J,H2,e,I2,T,st2,f2,hW⟩:=h2
 subst e
 refine wpAny_newObj_type ?_ (by show 0<=sizeLine;exact j0g _)
 refine wpAny_newFunctionEnv cp.nocell (by intro y hy;simp at hy) (λh4 hns hsb=>?_) cp.kind
 dsimp only at hns hsb ⊢
 generalize hH3:s2.heap.push { cls:=.type "list",dict:=none,data:=.seq ([]:List Value).toArray }=H3 at hns hsb ⊢
 have hCe:H3.objs.size=s2.heap.objs.size+1:=by rw [<- hH3,m0e]
 have P5:∀ b o,s2.heap.get? b=some o->b ≠ H3.objs.size:=λb o e=>by rw [hCe];exact z0b (g0f (q0j e))
 have old:∀ b o,s2.heap.get? b=some o->h4.get? b=some o:=λb o e=>hsb.extBut b o (P5 b o e) (q0y _ (hH3 ▸ q0y _ e))
 have hD:h4.get? s2.heap.objs.size=some { cls:=.type "list",dict:=none,data:=.seq ([]:List Value).toArray } :=
  hsb.extBut _ _ (by rw [hCe];exact z0b (y0r _)) (q0y _ (hH3 ▸ j0b _ rfl))
 have hDn:H2 s2.heap.objs.size=none:=I2.fresh
 have hCn:H2 H3.objs.size=none:=I2.hok.fresh (by rw [hCe];exact v0s _)
 have hCs:s2.heap.objs.size<=H3.objs.size:=by rw [hCe];exact v0s _
 have hDC:s2.heap.objs.size ≠ H3.objs.size:=by rw [hCe];exact z0b (y0r _)
 have fpl:∀ b ∈ fp,∃ o,s2.heap.get? b=some o:=λb hb=>let ⟨o,e,_⟩:=T.obj _ _ st2 b hb;⟨o,e⟩
 have fpC:∀ b ∈ fp,b ≠ H3.objs.size:=λb hb=>let ⟨o,e⟩:=fpl b hb;P5 b o e
 have fpD:∀ b ∈ fp,b ≠ s2.heap.objs.size:=λb hb=>let ⟨o,e⟩:=fpl b hb;z0b (q0j e)
 have stkN:∀ b,b ≠ X.env.locals->b ∉ X.fs->b ∉ frs X.stack:=λb h1 h2 z=>(z0a.mp (I2.stkSub b z)).elim h1 h2
 obtain ⟨W,⟨m0,w0⟩,turn⟩:=hW s2.heap.objs.size hDn
 have okB:(X.block scope cl H3.objs.size Nc s2 H2 fp pins).Ok:=by
  refine ⟨I2.ok.mod,?_,I2.ok.glob,I2.ok.blt,hCs,λx y c h1 h2=>I2.ok.inj x y c (cp.sub x c h1) (cp.sub y c h2),λx hx=>cp.has x hx,λx c h=>(by cases h),I2.ok.hd,I2.ok.frames,.inl rfl,λb hb=>⟨fpC b hb,λx c h=>(f2 b hb).2.2.2.2.1 x c (cp.sub x c h)⟩,I2.bs,z0v I2.ok.bsz I2.sz,λb o e hb=>?_,λb hb=>stkN b (f2 b hb).2.1 (f2 b hb).2.2.1,I2.stack,I2.stkFree⟩
  ·exact cp.kind
  ·rcases (f2 b hb).2.2.2.1 with z | z
   ·exact I2.ok.noex b o e z
   ·exact absurd (q0f (q0j e) (z0v I2.ok.bsz z)) (y0w _)
 have hokB:HOk X.prog X.w (upd H2 s2.heap.objs.size (.lst [])) h4:=I2.hok.laid old (q0q _) ⟨j0g _,[],_,.nil,hD⟩
 have IB:Inv (X.block scope cl H3.objs.size Nc s2 H2 fp pins) [] (J1 caps σ) (upd H2 s2.heap.objs.size (.lst [])) { s2 with heap:=h4,toks:=s2.toks+([]:List (Str × Value)).length }:=by
  refine ⟨okB,rfl,I2.bare,Un.laid old (q0q _) hDn,⟨_,hns,λi x v e1 e2 e3=>?_⟩,λx c e=>?_,(show upd H2 s2.heap.objs.size (.lst []) H3.objs.size=none by rw [g8 (Ne.symm hDC)];exact hCn),λx c e=>?_,λp hp=>?_,hokB,?_⟩
  ·unfold J1 at e2
   rw [q0r] at e2
   cases hcap:caps[i]? with
   | none=>rw [hcap] at e2;cases e2
   | some o =>
    rw [hcap] at e2
    cases o with
    | none=>cases e2
    | some j =>
     have hj:σ[j]? = some (some v):=by
      have e2':(σ[j]?).join=some v:=Option.some.inj e2
      cases q:σ[j]? with
      | none=>rw [q] at e2';cases e2'
      | some z=>rw [q] at e2';exact congrArg some e2'
     obtain ⟨n1,n2,n3,n4⟩:=cp.cap i j x hcap e1
     obtain ⟨m,hm,hl⟩:=I2.loc
     obtain ⟨u,r,q⟩:=hl j x v n1 hj n2
     rcases q with ⟨k,_⟩ | ⟨k,c,ec,z⟩
     ·exact absurd k n3
     ·obtain ⟨c',ec'⟩:=cp.has x n4
      have:=cp.sub x c' ec'
      rw [ec] at this;cases this
      obtain ⟨oc,ho,hd⟩:=z
      exact ⟨u,r,.inr ⟨n4,c,ec',oc,old _ _ ho,hd⟩⟩
  ·obtain ⟨v,oc,ho,hd⟩:=I2.cell x c (cp.sub x c e)
   exact ⟨v,oc,old _ _ ho,hd⟩
  ·obtain ⟨v,oc,ho,hd⟩:=I2.cell x c (cp.sub x c e)
   rw [g8 (z0b (q0j ho))]
   exact I2.freeC x c (cp.sub x c e)
  ·have hp':p ∈ X.pn ++ pins:=by simpa using hp
   obtain ⟨e1,e2,e3,e4,e5⟩:=I2.pin p hp'
   exact ⟨old _ _ e1,by rw [g8 (z0b (q0j e1))];exact e2,P5 _ _ e1,stkN _ e3 e4,e5⟩
  ·show (J1 caps σ).length=Nc.length
   unfold J1
   rw [q0e];exact cp.len
 have stat:∀ {H':Hp},(∀ b ∈ fp,H' b=none)->∀ b ∈ fp,N1 (X.block scope cl H3.objs.size Nc s2 H2 fp pins) [] H' b:=λhn b hb =>
  ⟨hn b hb,fpC b hb,stkN b (f2 b hb).2.1 (f2 b hb).2.2.1,.inl hb,λx c h=>(f2 b hb).2.2.2.2.1 x c (cp.sub x c h),λp hp=>(f2 b hb).2.2.2.2.2 p (by simpa using hp)⟩
 have loop:∀ s5:Shared,s5={ s2 with heap:=h4,toks:=s2.toks+([]:List (Str × Value)).length } ->
   codeAny (model X.prog X.w) X.A (.compLoop (.ListComp elt [⟨tg,iter,[cnd],0⟩] scope pos) 0 (.ref it) (.ref s2.heap.objs.size) (compEnvC scope cl H3.objs.size X.env))
    (compPost (model X.prog X.w) X.A X.xe (some (assign (.Name y py) X.env)) (λ_ s'=>SP X pins DD .next s') (.ref s2.heap.objs.size) H3.objs.size) s5:=by
  rintro s5 rfl
  refine ao4 (λn s' => ∃ i σ' H',Inv (X.block scope cl H3.objs.size Nc s2 H2 fp pins) [] σ' H' s'/\tn i s'.heap/\(∀ b ∈ fp,H' b=none)/\W i n σ' H') ?_ m0 ⟨0,_,_,IB,T.keep _ _ _ st2 λb hb o e=>old b o e,λb hb=>by rw [g8 (fpD b hb)];exact (f2 b hb).1,w0⟩
  rintro n s6 ⟨i,σ6,H6,I6,st6,fr6,w6⟩
  rcases turn i n σ6 H6 w6 with ⟨stop,qn⟩ | ⟨go,step⟩
  ·refine thn (T.done (X.block scope cl H3.objs.size Nc s2 H2 fp pins) rfl rfl rfl hc i [] s6 σ6 H6 _ I6 (stat fr6) st6 stop) λr s7 ⟨hr,I7⟩=>?_
   subst hr
   obtain ⟨m7,hn7,_⟩:=id I7.loc
   have Io:Inv X pins σ H6 s7:=I2.sameC (h'':=s7.heap) f2 I7.os I7.bare I7.base I7.hok hCs I7.free ⟨rfl,λ_ _=>rfl⟩
   have fC:N1 X pins H6 H3.objs.size:=I2.fpOk hCs I7.free
   have fC':∀ b ∈ [H3.objs.size],N1 X pins H6 b:=λb hb=>by rw [q0m.mp hb];exact fC
   obtain ⟨oC,esC,epC,hoC,restC⟩:=id hn7
   have obC:∀ b ∈ [H3.objs.size],∃ o,s7.heap.get? b=some o/\∀ v,o.data ≠ .cell v:=λb hb=>by
    rw [q0m.mp hb]
    exact ⟨oC,hoC,λv z=>aA5 hn7 hoC v z⟩
   have Ip:=Io.pinned fC' obC
   show wpAny (model X.prog X.w) X.A (assign (.Name y py) X.env (.ref s2.heap.objs.size)) _ _ s7
   refine thn (i3 (pos:=py) hN hi₀ hx hf _ s7 σ H6 (.ref s2.heap.objs.size) (.ref s2.heap.objs.size) DD.nx Ip rfl qn) λ_ s9 ⟨σ9,H9,I9,q9⟩=>?_
   have keepC:=(I9.pin (H3.objs.size,oC) (q0h _ (q0h _ (t5 (by simp) hoC)))).1
   have H9C:=(I9.pin (H3.objs.size,oC) (q0h _ (q0h _ (t5 (by simp) hoC)))).2.1
   refine ⟨m7,hn7.at' λo e=>by rw [hoC] at e;cases e;exact keepC,λh' sb=>?_⟩
   obtain ⟨_,g1,g2,g3,g4,g5⟩:=fC
   exact ⟨σ9,H9,I9.unpinned.turned (t':=s9.toks) (λb o hb e=>(sb.2 b hb).trans e) H9C g1 g3 g4 g5,q9⟩
  ·refine thn (T.item (X.block scope cl H3.objs.size Nc s2 H2 fp pins) rfl rfl rfl hc i [] s6 σ6 H6 _ I6 (stat fr6) st6 go) λr s7 ⟨u,hr,h7⟩=>?_
   subst hr
   refine thn h7 λ_ s8 ⟨x,H8,I8,r8,y8,st8,fr8⟩=>?_
   have I8':=I8.pinned (stat fr8) (T.obj _ _ st8)
   refine thn (hg _ _ _ _ _ _ s8 σ6 H8 x u _ I8' r8 (step x H8 y8)) λ_ s9 ⟨σ9,H9,I9,q9⟩=>?_
   refine thn (ht _ _ _ _ _ _ s9 σ9 H9 _ I9 q9) λbb s9' ⟨H9',I9',q9'⟩=>?_
   cases bb with
   | false =>
    rw [if_neg (by decide)] at q9' ⊢
    obtain ⟨m',hm',w'⟩:=q9'
    refine ⟨m',hm',i+1,σ9,H9',I9'.unpinned,T.keep _ _ _ st8 λb hb o e=>(I9'.pin (b,o) (q0h _ (q0h _ (t5 hb e)))).1,λb hb=>?_,w'⟩
    obtain ⟨o,e,d⟩:=T.obj _ _ st8 b hb
    exact (I9'.pin (b,o) (q0h _ (q0h _ (t5 hb e)))).2.1
   | true =>
    rw [if_pos rfl] at q9' ⊢
    refine thn (he _ _ _ _ _ _ s9' σ9 H9' _ I9' q9') λu10 s10 ⟨v10,H10,I10,r10,ys,hys,hlen,m',hm',w'⟩=>?_
    refine thn (G9 _ s10 σ9 H10 (.ref s2.heap.objs.size) [v10] (.ref s2.heap.objs.size) [u10] (λ_ H11=>H11=upd H10 s2.heap.objs.size (.lst (ys ++ [v10]))) I10 rfl (.cons r10 .nil) ⟨_,ys,v10,rfl,rfl,hys,hlen,rfl⟩) λ_ s11 ⟨_,H11,I11,_,hH11⟩=>?_
    subst hH11
    refine ⟨m',hm',i+1,σ9,_,I11.unpinned,T.keep _ _ _ st8 λb hb o e=>(I11.pin (b,o) (q0h _ (q0h _ (t5 hb e)))).1,λb hb=>?_,w'⟩
    obtain ⟨o,e,d⟩:=T.obj _ _ st8 b hb
    exact (I11.pin (b,o) (q0h _ (q0h _ (t5 hb e)))).2.1
 exact codeAny_compStart_list (loop _ rfl) (T.self _ 0 _ _ _ (T.keep _ _ _ st2 λb hb o e=>old b o e) (loop _ rfl))
end
end L2
set_option maxRecDepth 100000
namespace HT
open PySem PyProof.Rows
end HT
namespace L2
open PySem PySem.Spec PyProof.Rows
end L2
set_option maxRecDepth 100000
namespace PySem
open Sem (wp)
open AutoSeq1 (wpAny_loadPart')
end PySem
namespace L2
open PySem PySem.Spec PyProof.Rows
section
variable {X:Cx} {pos:Pos} {a b:Expr} {ah1:List Expr} {ta tb:TE}
def bB1 (K:q0a) (ta tb:TE):TE:=λσ H Q=>ta σ H λx H1 => ∃ k,ax9 K x H1 k/\if k=true then Q x H1 else tb σ H1 Q
theorem bE1 (ha:PE X a ta) (hb:PE X (.BoolOp .Or (b :: ah1) pos) tb):PE X (.BoolOp .Or (a :: b :: ah1) pos) (bB1 X.K ta tb):=by
 intro pins s σ H Q I h
 refine BoolOp_or (thn (ha pins s σ H _ I h) λv s1 ⟨x,H1,I1,r1,q1⟩=>?_)
 obtain ⟨k,hk,q⟩:=q1
 refine thn (be4 pins s1 σ H1 x v (λc H'=>if c=true then Q x H' else tb σ H' Q) I1 r1 ⟨k,hk,q⟩) λc s2 ⟨H2,I2,q2⟩=>?_
 cases c with
 | false=>exact hb pins s2 σ H2 Q I2 q2
 | true=>exact ⟨x,H2,I2,r1,q2⟩
end
end L2
set_option maxRecDepth 100000
namespace R
open PySem L2 PyProof.Rows
def i6 (f:Nat->Rat):Nat->Rat
 | 0=>0
 | n+1=>i6 f n+f n
theorem G1 (f:Nat->Rat):∀ n,i6 f (n+1)=f 0+i6 (λi=>f (i+1)) n
 | 0=>by simp only [i6];grind
 | n+1=>by
  rw [i6,G1 f n,i6];grind
theorem i4 {f g:Nat->Rat}:∀ {n},(∀ i,i<n->f i=g i)->i6 f n=i6 g n
 | 0,_=>rfl
 | n+1,h=>by rw [i6,i6,i4 λi hi=>h i (by exact Nat.lt_succ_of_lt ‹_›),h n (by simp)]
theorem ag1:∀ (n:Nat) (f:Nat->Rat),i6 f n=i6 (λi=>f (n-1-i)) n
 | 0,_=>rfl
 | n+1,f=>by
  rw [G1 (λi=>f (n+1-1-i)) n,i6,ag1 n f]
  have:i6 (λi=>f (n-1-i)) n=i6 (λi=>f (n+1-1-(i+1))) n:=i4 λi hi=>by congr 1;lia
  rw [this]
  show _=f (n+1-1-0)+_
  rw [show n+1-1-0=n by simp]
  grind
theorem V0 {f:Nat->Rat} {m:Nat}:∀ {n},m<=n->(∀ i,m<=i->i<n->f i=0)->i6 f n=i6 f m
 | 0,h,_=>by rw [show m=0 by lia]
 | n+1,h,z=>by
  by_cases e:m=n+1
  ·rw [e]
  ·rw [i6,z n (by lia) (by simp),V0 (n:=n) ⋯ λi a b=>z i a (by exact Nat.lt_succ_of_lt ‹_›)]
   grind
theorem aA8 (f:List Rat) (i:Nat) (x:Rat) (q:List Rat) {k:Nat} (y:Rat) (hy:f[k]? = some y):∀ j,(w9 0 f i x q j)[k]? = some (y+if i<=k/\k<i+j then x*(q[k-i]?).getD 0 else 0)
 | 0=>by
  rw [w9,hy,if_neg (by simp)];congr 1;grind
 | j+1=>by
  have ih:=aA8 f i x q y hy j
  rw [w9]
  by_cases e:k=i+j
  ·subst e
   rw [ai1 _ _ _ _ ih,if_neg (by simp),if_pos (by simp),show i+j-i=j by simp]
   congr 1;grind
  ·rw [ae0 _ _ _ _ e,ih]
   by_cases h:i<=k/\k<i+j
   ·rw [if_pos h,if_pos (by lia)]
   ·rw [if_neg h,if_neg (by lia)]
def aC8 (p q:List Rat) (k i:Nat):Rat:=if i<=k then (p[i]?).getD 0*(q[k-i]?).getD 0 else 0
theorem aA2 (f p q:List Rat) {k:Nat} (hy:f[k]? = some 0):∀ n,(B8 0 f p q n)[k]? = some (i6 (aC8 p q k) n)
 | 0=>hy
 | n+1=>by
  rw [B8,aA8 _ _ _ _ _ (aA2 f p q hy n),i6]
  congr 2
  unfold aC8
  by_cases h:n<=k
  ·rw [if_pos h]
   by_cases h2:k<n+q.length
   ·rw [if_pos ⟨h,h2⟩]
   ·rw [if_neg (by lia),z0m (l:=q) ⋯]
    show (0:Rat)=_*0
    grind
  ·rw [if_neg h,if_neg (by lia)]
theorem bj4 {p q:List Rat} (hp:p ≠ []) (hq:q ≠ []) {k:Nat} (hk:k<p.length+q.length-1):(T7 p q)[k]? = some (i6 (λi=>(p[i]?).getD 0*(q[k-i]?).getD 0) (k+1)):=by
 unfold T7
 rw [if_neg (by simp [hp,hq]),aA2 _ _ _ (by rw [v0y,if_pos hk])]
 congr 1
 have h1:i6 (aC8 p q k) (max p.length (k+1))=i6 (aC8 p q k) p.length:=V0 (by lia) λi a _=>by
  unfold aC8
  rw [z0m a]
  split
  ·show (0:Rat)*_=0;grind
  ·rfl
 have h2:i6 (aC8 p q k) (max p.length (k+1))=i6 (aC8 p q k) (k+1):=V0 (by lia) λi a _=>by
  unfold aC8
  rw [if_neg (by lia)]
 rw [<- h1,h2]
 exact i4 λi hi=>by unfold aC8;rw [if_pos (by lia)]
end R
namespace L2
theorem d6 {t R:TS} {D:aa7} {σ:St} {H:Hp} (P:St->Hp->Prop) (first:∀ N:St->Hp->Prop,(∀ σ H,P σ H->N σ H)->t { D with nx:=N } σ H) (ah1:∀ σ H,P σ H->R D σ H):br2 t R D σ H:=first _ ah1
end L2
set_option maxRecDepth 100000
namespace R
section
variable {α:Type} [Lean.Grind.CommRing α]
def syn (c:α):List α->List α
 | []=>[]
 | a :: p=>match syn c p with
  | []=>[a]
  | h :: t=>(a+c*h) :: h :: t
def pass (c:α) (k:Nat) (l:List α):List α:=l.take k ++ syn c (l.drop k)
end
def evQ (x:Rat):List Rat->Rat
 | []=>0
 | a :: p=>a+x*evQ x p
open PySem L2 PyProof.Rows
structure Bd6 (q:Rat):Prop where
 n:q.num.natAbs<2 ^ 6000
 d:q.den<2 ^ 6000
theorem an9:∀ (qs:List Rat) (b:Nat),0<b->0<qs.foldl (λb q=>g0q b q.den) b
 | [],b,h=>h
 | q :: qs,b,h=>an9 qs _ (Nat.lcm_pos h (by have:=q.den_nz;lia))
theorem V6 (qs:List Rat):0<m8 qs:=an9 qs 1 (by decide)
theorem aI0 (qs:List Rat):z0r (m5 (j9 (m8 qs) qs):Int) (m8 qs:Int)=1:=by
 have hB:=V6 qs
 have key:∀ c:Nat,c ∣ m5 (j9 (m8 qs) qs)->c ∣ m8 qs->c=1:=by
  intro c h1 h2
  have hc:0<c:=Nat.pos_of_dvd_of_pos h2 hB
  have h3:m8 qs ∣ m8 qs / c:=by
   refine au1 λq hq=>?_
   obtain ⟨e,he⟩:=T9 hq
   have hd:(q.den:Int) ≠ 0:=by have:=q.den_nz;lia
   have e1:(m8 qs:Int).fdiv (q.den:Int)=(e:Int):=by
    rw [he,j0e];exact p7 hd
   have m1:(c:Int) ∣ q.num*(e:Int):=by
    have:=z1s (j0x.mpr h1) (D3 (q0w.mpr ⟨q,hq,rfl⟩))
    rw [e1] at this;exact this
   have m2:c ∣ q.num.natAbs*e:=by
    have:=j0t.mpr m1
    rw [z0f] at this
    simpa using this
   have m3:c ∣ q.den*e:=by rw [<- he];exact h2
   have m4:c ∣ e:=by
    have:=Nat.dvd_gcd m2 m3
    rw [Nat.gcd_mul_right] at this
    have hg:Nat.gcd q.num.natAbs q.den=1:=q.reduced
    rw [hg,m0f] at this
    exact this
   obtain ⟨f,hf⟩:=m4
   rw [he,hf]
   refine ⟨f,?_⟩
   rw [show q.den*(c*f)=c*(q.den*f) by grind,Nat.mul_div_cancel_left _ hc]
  have h4:=v0n (Nat.div_pos (v0n hB h2) hc) h3
  have h5:=Nat.div_mul_cancel h2
  by_cases hc1:c=1
  ·exact hc1
  ·have:m8 qs / c*2<=m8 qs / c*c:=y0m _ (by lia)
   lia
 have z:=key (z0r (m5 (j9 (m8 qs) qs):Int) (m8 qs:Int))
 refine z ?_ ?_
 ·exact j0x.mp (u0j _ _)
 ·exact j0x.mp (u0f _ _)
theorem w8 {f:Nat->Rat}:∀ n,(∀ i,i<n->f i=0)->i6 f n=0
 | 0,_=>rfl
 | n+1,h=>by
  rw [i6,w8 n (λi hi=>h i ⋯),h n ⋯]
  grind
open PySem L2 PyProof.Rows
structure ClN (W:Nat) (qs:List Rat):Prop where
 l:m8 qs<2 ^ W
 w:∀ v ∈ j9 (m8 qs) qs,z0s v<2 ^ W
theorem ClN.den {W:Nat} {qs:List Rat} (h:ClN W qs) {q:Rat} (hq:q ∈ qs):q.den<2 ^ W:=q0v (v0n (V6 qs) (T9 hq)) h.l
theorem ClN.num {W:Nat} {qs:List Rat} (h:ClN W qs) {q:Rat} (hq:q ∈ qs):q.num.natAbs<2 ^ W:=by
 have h1:=h.w _ (q0w.mpr ⟨q,hq,rfl⟩)
 obtain ⟨e,he⟩:=T9 hq
 have hp:=V6 qs
 have h0:(q.den:Int) ≠ 0:=by have:=q.den_nz;lia
 have e1:(m8 qs:Int).fdiv (q.den:Int)=(e:Int):=by
  rw [he,j0e];exact p7 h0
 rw [e1,z0f,q0k] at h1
 refine q0v (q1k _ ?_) h1
 rcases v0k e with z | z
 ·rw [z] at he;lia
 ·exact z
theorem ClN.take {W:Nat} {qs:List Rat} (h:ClN W qs) (i:Nat):m8 (qs.take i)<2 ^ W :=
 q0v (v0n (V6 qs) (au1 λq hq=>T9 (z1j hq))) h.l
theorem ClN.mono {V W:Nat} {qs:List Rat} (h:ClN V qs) (l:V<=W):ClN W qs:=⟨q0f h.l (c9 l),λv hv=>q0f (h.w v hv) (c9 l)⟩
theorem as7 (v:Int) (L:Nat):q0s 1 L*(v:Rat)=q0s v L:=by
 have h1:=z0u (v:Rat)
 rw [Rat.num_intCast,Rat.den_intCast] at h1
 conv=>lhs;rw [<- h1]
 rw [u0h]
 simp
theorem av1 (v:Int) {L:Nat} (h:0<L):(q0s v L).den ∣ L:=by
 have hL:(L:Int) ≠ 0:=⋯
 obtain ⟨_,e2⟩:=al6 (t:=v) (b:=(L:Int)) (g:=(z0r v L:Int)) hL (by rw [if_neg (by simp)])
 obtain ⟨k,hk⟩:=u0f v (L:Int)
 have hg:=aa5 (t:=v) hL
 have e3:(L:Int).fdiv (z0r v L:Int)=k:=by
  conv=>lhs;arg 1;rw [hk]
  exact p7 (by lia)
 rw [e3] at e2
 have:((q0s v L).den:Int) ∣ (L:Int):=⟨_,by rw [u0v,<- e2];exact hk⟩
 exact j0x.mp this
theorem aH2 (v:Int) {L:Nat} (h:0<L):(q0s v L).num*L=v*((q0s v L).den:Int):=by
 have hL:(L:Int) ≠ 0:=⋯
 have hd:((q0s v L).den:Int) ≠ 0:=by have:=(q0s v L).den_nz;lia
 exact (y0b hd hL).mp (z0u _)
theorem bc5 {L W:Nat} {vs:List Int} (hL0:0<L) (hL:L<2 ^ W) (hv:∀ v ∈ vs,z0s v<2 ^ W):ClN W (scl (q0s 1 L) vs):=by
 have hd:m8 (scl (q0s 1 L) vs) ∣ L:=au1 λq hq=>by
  obtain ⟨v,_,rfl⟩:=q0w.mp hq
  rw [as7]
  exact av1 v hL0
 have hle:=v0n hL0 hd
 refine ⟨q0v hle hL,λu hu=>?_⟩
 obtain ⟨q,hq,rfl⟩:=q0w.mp hu
 obtain ⟨e,he⟩:=T9 hq
 have h0:(q.den:Int) ≠ 0:=by have:=q.den_nz;lia
 have e1:(m8 (scl (q0s 1 L) vs):Int).fdiv (q.den:Int)=(e:Int):=by
  rw [he,j0e];exact p7 h0
 obtain ⟨v,hvm,hvq⟩:=q0w.mp hq
 rw [as7] at hvq
 have hc:=aH2 v hL0
 rw [hvq] at hc
 have hc':q.num.natAbs*L=v.natAbs*q.den:=by
  have:=congrArg z0s hc
  rwa [z0f,z0f,q0k,q0k] at this
 rw [e1,z0f,q0k]
 refine q0v ?_ (hv v hvm)
 have h2:(q.num.natAbs*e)*L<=v.natAbs*L:=by
  calc (q.num.natAbs*e)*L=(q.num.natAbs*L)*e:=by rw [Nat.mul_right_comm]
   _=v.natAbs*(q.den*e):=by rw [hc',g0m]
   _<=v.natAbs*L:=y0m _ (by rw [<- he];exact hle)
 exact Nat.le_of_mul_le_mul_right h2 hL0
open PySem L2 PyProof.Rows
structure bJ9 (H:Hp) (p:Addr) (qs:List Rat):Prop where
 ex:∃ xs,H p=some (.lst xs)/\v3 H xs qs
 bd:∀ q ∈ qs,q.den<2 ^ 6000
 len:qs.length<900
 tl:U7 qs qs.length
inductive bq6 (H:Hp):List Addr->List (List Rat)->Prop where
 | nil:bq6 H [] []
 | cons {p:Addr} {ps:List Addr} {L:List Rat} {Ls:List (List Rat)} (h:bJ9 H p L) (t:bq6 H ps Ls):bq6 H (p :: ps) (L :: Ls)
open PySem L2 PyProof.Rows
theorem Y2 {α:Type} {l:List α} {i:Nat} {x:α} (h:l[i]? = some x):l.take (i+1)=l.take i ++ [x]:=by rw [y0y,h];rfl
theorem aO3 {qs:List Rat} (h:∀ x,qs[qs.length-1]? = some x->x ≠ 0):U7 qs qs.length :=
 ⟨q0q _,λi q hi e=>(by rw [z0m hi] at e;cases e),λ_ q e=>h q e⟩
theorem x9.seq {K:q0a} {u:Addr} {H H':Hp} {b:Addr} {xs:List V} (s:x9 u H H') (hu:H u=none) (h:SqL K H b xs):SqL K H' b xs:=by
 rcases h with h | h
 ·rcases h with h | ⟨o,h⟩
  ·exact .inl (.inl (s _ _ h (g7 h hu)))
  ·exact .inl (.inr ⟨o,s _ _ h (g7 h hu)⟩)
 ·exact .inr h
theorem br1 {qs:List Rat} {m:Nat} (h:U7 qs m):U7 (qs.take m) (qs.take m).length:=by
 have:=h.self
 rw [j0j,Nat.min_eq_left h.le];exact this
def aU5 (K:q0a):Sp:=λvs H Q _ => ∃ (a:Addr) (ns:List Int),vs=[.ref a]/\SqL K H a (ns.map V.int)/\ns.length<=63/\∀ H',Q (.bl true) H'
structure ExT (K:q0a) (mg:Str->Option Value) (x:Str) (C:Addr):Prop where
 m:mg x=some (.ref C)
 ox:bx4 K C [.type "ValueError",.type "Exception",.type "BaseException",.type "object"] "ValueError.__new__"
 ec:aw0 K C
structure CAd where
 c_NoFraction:Addr
 c_NoPolynomial:Addr
 c_NoStretch:Addr
 c_NoRow:Addr
 c_NoPair:Addr
 c_NoBack:Addr
 c_NoForm:Addr
 c_NoParts:Addr
 c_NoDegree:Addr
 c_NoSteps:Addr
 c_NoBox:Addr
 c_NoGain:Addr
 c_NoText:Addr
 c_NoLine:Addr
 c_NoName:Addr
 c_NoDeed:Addr
 c_RestError:Addr
structure XTx (K:q0a) (mg:Str->Option Value) (a:CAd):Prop where
 x_NoFraction:ExT K mg "NoFraction" a.c_NoFraction
 x_NoPolynomial:ExT K mg "NoPolynomial" a.c_NoPolynomial
 x_NoStretch:ExT K mg "NoStretch" a.c_NoStretch
 x_NoRow:ExT K mg "NoRow" a.c_NoRow
 x_NoPair:ExT K mg "NoPair" a.c_NoPair
 x_NoBack:ExT K mg "NoBack" a.c_NoBack
 x_NoForm:ExT K mg "NoForm" a.c_NoForm
 x_NoParts:ExT K mg "NoParts" a.c_NoParts
 x_NoDegree:ExT K mg "NoDegree" a.c_NoDegree
 x_NoSteps:ExT K mg "NoSteps" a.c_NoSteps
 x_NoBox:ExT K mg "NoBox" a.c_NoBox
 x_NoGain:ExT K mg "NoGain" a.c_NoGain
 x_NoText:ExT K mg "NoText" a.c_NoText
 x_NoLine:ExT K mg "NoLine" a.c_NoLine
 x_NoName:ExT K mg "NoName" a.c_NoName
 x_NoDeed:ExT K mg "NoDeed" a.c_NoDeed
structure bK3 (K:q0a) (a:CAd) (C:Addr) (j:Nat):Prop where
 k_NoFraction:z0q K (.ref C) (.ref a.c_NoFraction)=some (decide (j=0))
 k_NoPolynomial:z0q K (.ref C) (.ref a.c_NoPolynomial)=some (decide (j=1))
 k_NoStretch:z0q K (.ref C) (.ref a.c_NoStretch)=some (decide (j=2))
 k_NoRow:z0q K (.ref C) (.ref a.c_NoRow)=some (decide (j=3))
 k_NoPair:z0q K (.ref C) (.ref a.c_NoPair)=some (decide (j=4))
 k_NoBack:z0q K (.ref C) (.ref a.c_NoBack)=some (decide (j=5))
 k_NoForm:z0q K (.ref C) (.ref a.c_NoForm)=some (decide (j=6))
 k_NoParts:z0q K (.ref C) (.ref a.c_NoParts)=some (decide (j=7))
 k_NoDegree:z0q K (.ref C) (.ref a.c_NoDegree)=some (decide (j=8))
 k_NoSteps:z0q K (.ref C) (.ref a.c_NoSteps)=some (decide (j=9))
 k_NoBox:z0q K (.ref C) (.ref a.c_NoBox)=some (decide (j=10))
 k_NoGain:z0q K (.ref C) (.ref a.c_NoGain)=some (decide (j=11))
 k_NoText:z0q K (.ref C) (.ref a.c_NoText)=some (decide (j=12))
 k_NoLine:z0q K (.ref C) (.ref a.c_NoLine)=some (decide (j=13))
 k_NoName:z0q K (.ref C) (.ref a.c_NoName)=some (decide (j=14))
 k_NoDeed:z0q K (.ref C) (.ref a.c_NoDeed)=some (decide (j=15))
 kV:z0q K (.ref C) (.type "ValueError")=some true
 ec:aw0 K C
 ex:PySem.W.exmOne K (.ref C) (.ref a.c_RestError)=some true
def aQ7 (j:Nat):Str:=[("fraction" : Str),"polynomial","stretch","row","pair","back","form","parts","degree","steps","box","gain","text","line","name","deed"].getD j ""
def aD4 (K:q0a) (a:CAd):Sp:=λvs H Q _ => ∃ e C j,vs=[.ref e]/\bK3 K a C j/\j<16/\H e=some (Exc (.ref C) e)/\∀ H',c7 H H'->Q (.str (aQ7 j)) H'
def told (j:Nat):List V:=[V.bl (decide (j=0)),V.bl (decide (j=1)),V.bl (decide (j=2)),V.bl (decide (j=3))] ++ [V.bl (decide (j=4)),V.bl (decide (j=5)),V.bl (decide (j=6)),V.bl (decide (j=7))] ++ [V.bl (decide (j=8)),V.bl (decide (j=9)),V.bl (decide (j=10)),V.bl (decide (j=11))] ++ [V.bl (decide (j=12)),V.bl (decide (j=13)),V.bl (decide (j=14)),V.bl (decide (j=15))]
theorem aO2:∀ j,j<16->(told j).countP (λz=>eqV z (V.bl true))=1:=by decide
theorem be5:∀ j,j<16->(told j).findIdx? (λz=>eqV z (V.bl true))=some j:=by decide
theorem ay3:∀ j,j<16->(told j).all V7=true:=by decide
theorem an6:af2 "fraction polynomial stretch row pair back form parts degree steps box gain text line name deed" " " = [("fraction" : Str),"polynomial","stretch","row","pair","back","form","parts","degree","steps","box","gain","text","line","name","deed"]:=by trivial
theorem bu0 {j:Nat} (hj:j<16):atI ((af2 "fraction polynomial stretch row pair back form parts degree steps box gain text line name deed" " ").map V.str) (j:Int)=some (.str (aQ7 j)):=by
 rw [an6]
 refine af6 ?_
 have:∀ j,j<16->((["fraction","polynomial","stretch","row","pair","back","form","parts","degree","steps","box","gain","text","line","name","deed"]:List Str).map V.str)[j]? = some (.str (aQ7 j)):=by decide
 exact this j hj
theorem ad3 {ws:List Int} {i:Nat} {x:V} (h:(ws.map V.int)[i]? = some x):∃ v,ws[i]? = some v/\x=.int v:=by
 rw [q0r] at h
 cases hw:ws[i]? with
 | none=>rw [hw] at h;cases h
 | some v=>rw [hw] at h;cases h;exact ⟨v,rfl,rfl⟩
open PySem L2 PyProof.Rows
def top (i:Nat):Stmt:=PySem.Challenge.pw_restward_k11_stretches_told.main.body.getD i (.Pass ⟨0,0,0,0⟩)
open PySem L2 PyProof.Rows
def tyD:D->Value
 | .v .non=>.type "NoneType"
 | .v (.bl _)=>.type "bool"
 | .v (.int _)=>.type "int"
 | .v (.str _)=>.type "str"
 | .v _=>.type "object"
 | .tup _=>.type "tuple"
 | .lst _=>.type "list"
theorem _root_.L2.IsD.ty {K:q0a} {H:Hp} {v:V} {d:D} (h:IsD K H v d):TyX K H v (tyD d):=by
 cases h with
 | v f =>
  cases v with
  | non=>exact .of .non
  | bl b=>exact .of (.bl b)
  | int i=>exact .of (.int i)
  | str s=>exact .of (.str s)
  | _=>cases f
 | tup h t=>exact .sqt h
 | lst h t=>exact .sql h
def bG6:D->Bool
 | .tup _=>true
 | _=>false
def bG7:D->Bool
 | .lst _=>true
 | _=>false
section
variable {K:q0a}
theorem aM1 {H:Hp} {v:V} {d:D} (h:IsD K H v d):z0q K (tyD d) (.type "tuple")=some (bG6 d):=by
 cases h with
 | v f =>
  cases v with
  | non=>kernel_rfl
  | bl b=>kernel_rfl
  | int i=>kernel_rfl
  | str s=>kernel_rfl
  | _=>cases f
 | tup h t=>kernel_rfl
 | lst h t=>kernel_rfl
theorem aR0 {H:Hp} {v:V} {d:D} (h:IsD K H v d):z0q K (tyD d) (.type "list")=some (bG7 d):=by
 cases h with
 | v f =>
  cases v with
  | non=>kernel_rfl
  | bl b=>kernel_rfl
  | int i=>kernel_rfl
  | str s=>kernel_rfl
  | _=>cases f
 | tup h t=>kernel_rfl
 | lst h t=>kernel_rfl
end
end R
namespace L2
open PySem PyProof.Rows
end L2
set_option maxRecDepth 100000
namespace R
open PySem L2 PyProof.Rows
mutual
def noU:D->Bool
 | .v _=>true
 | .tup ds=>bF3 ds
 | .lst ds=>(ds.length != 3) && bF3 ds
def bF3:List D->Bool
 | []=>true
 | d :: ds=>noU d && bF3 ds
end
end R
set_option maxRecDepth 100000
namespace L2
open PySem PyProof.Rows
theorem bv2 {K:q0a} {a b:Addr} {g:TG} {tb:TS} {E:aa7} {σ:St} {H:Hp} (xs ys:List V) (Pv:Nat->St->Hp->Prop) (h0:Pv 0 σ H) (hl:∀ i σ H,Pv i σ H->SqL K H a xs/\SqL K H b ys)
  (hs:∀ i x y σ H p,xs[i]? = some x->ys[i]? = some y->Pv i σ H->H p=none->g (.ref p) σ (upd H p (.tup [x,y])) λσ2 H2=>tb { E with nx:=Pv (i+1),ct:=Pv (i+1),bk:=E.nx } σ2 H2) (hd:∀ σ H,Pv (min xs.length ys.length) σ H->E.nx σ H) :
  ∃ W:Nat->Nat->St->Hp->Prop,(∃ m,W 0 m σ H)/\∀ i m σ H,W i m σ H ->
   ((Itz K a b).stop i H/\E.nx σ H) \/ ((Itz K a b).go i H/\∃ N:St->Hp->Prop,(∀ σ' H',N σ' H'->∃ m',m'<m/\W (i+1) m' σ' H')/\∀ x H',(Itz K a b).yld i H x H'->g x σ H' λσ2 H2=>tb { E with nx:=N,ct:=N,bk:=E.nx } σ2 H2):=by
 refine ⟨λi m σ H=>m=min xs.length ys.length-i/\i<=min xs.length ys.length/\Pv i σ H,⟨_,rfl,j0g _,h0⟩,?_⟩
 rintro i m σ H ⟨rfl,hi,p⟩
 obtain ⟨q,q'⟩:=hl i σ H p
 by_cases hlt:i<min xs.length ys.length
 ·have h1:i<xs.length:=by lia
  have h2:i<ys.length:=by lia
  refine .inr ⟨⟨xs,ys,xs[i],ys[i],q,q',q0d h1,q0d h2⟩,Pv (i+1),λσ' H' n=>⟨_,⋯,rfl,by lia,n⟩,?_⟩
  intro v H3 hy
  obtain ⟨x,y,r,e1,e2,hr,rfl,rfl⟩:=hy xs ys q q'
  exact hs i x y σ _ r e1 e2 p hr
 ·have e:i=min xs.length ys.length:=by lia
  subst e
  exact .inl ⟨⟨xs,ys,q,q',by lia⟩,hd σ H p⟩
end L2
namespace R
open PySem L2 PyProof.Rows
inductive Rws (H:Hp):List Addr->List (List Rat)->Prop where
 | nil:Rws H [] []
 | cons {p:Addr} {xs:List V} {ps:List Addr} {L:List Rat} {Ls:List (List Rat)} (h:H p=some (.lst xs)) (n:v3 H xs L) (t:Rws H ps Ls):Rws H (p :: ps) (L :: Ls)
structure TabAt (H:Hp) (D:Addr) (M:List (List Rat)) (H2:Hp):Prop where
 same:c7 H H2
 at':∃ ts:List Addr,H2 D=some (.lst (ts.map V.ref))/\(∀ t ∈ ts,H t=none/\t ≠ D)/\ts.Nodup/\Rws H2 ts M
structure RowAt (H:Hp) (D:Addr) (L:List Rat) (H2:Hp):Prop where
 same:c7 H H2
 at':∃ xs:List V,H2 D=some (.lst xs)/\v3 H2 xs L
def NmC (K:q0a) (H:Hp) (p:Addr) (q:Rat):Prop:=H p=some (.tup (t7 q)) \/ ∀ H',SqT K H' p (t7 q)
theorem NmC.sqt {K:q0a} {H:Hp} {p:Addr} {q:Rat}:NmC K H p q->SqT K H p (t7 q)
 | .inl h=>SqT.of h
 | .inr h=>h H
theorem NmC.mono {K:q0a} {H H':Hp} {p:Addr} {q:Rat} (e:L5 H H'):NmC K H p q->NmC K H' p q
 | .inl h=>.inl (e _ _ h)
 | .inr h=>.inr h
inductive Q4 (K:q0a) (H:Hp):List V->List Rat->Prop where
 | nil:Q4 K H [] []
 | cons {p:Addr} {q:Rat} {vs:List V} {qs:List Rat} (h:NmC K H p q) (t:Q4 K H vs qs):Q4 K H (.ref p :: vs) (q :: qs)
theorem Q4.mono {K:q0a} {H H':Hp} (e:L5 H H'):∀ {vs:List V} {qs:List Rat},Q4 K H vs qs->Q4 K H' vs qs
 | _,_,.nil=>.nil
 | _,_,.cons h t=>.cons (h.mono e) (t.mono e)
theorem Q4.length {K:q0a} {H:Hp}:∀ {vs:List V} {qs:List Rat},Q4 K H vs qs->vs.length=qs.length
 | _,_,.nil=>rfl
 | _,_,.cons _ t=>congrArg (· + 1) t.length
theorem Q4.getV {K:q0a} {H:Hp}:∀ {vs:List V} {qs:List Rat} {i:Nat} {v:V},Q4 K H vs qs->vs[i]? = some v->∃ p q,v=.ref p/\qs[i]? = some q/\NmC K H p q
 | _,_,_,_,.nil,e=>by simp at e
 | _,_,0,_,.cons h t,e=>by cases e;exact ⟨_,_,rfl,rfl,h⟩
 | _,_,i+1,_,.cons _ t,e=>t.getV (i:=i) (by simpa using e)
theorem v3.toC {K:q0a} {H:Hp}:∀ {vs:List V} {qs:List Rat},v3 H vs qs->Q4 K H vs qs
 | _,_,.nil=>.nil
 | _,_,.cons h t=>.cons (.inl h) t.toC
inductive bx2 (K:q0a) (H:Hp):List Addr->List (List Rat)->Prop where
 | nil:bx2 K H [] []
 | cons {p:Addr} {xs:List V} {ps:List Addr} {L:List Rat} {Ls:List (List Rat)} (h:H p=some (.lst xs)) (n:Q4 K H xs L) (t:bx2 K H ps Ls):bx2 K H (p :: ps) (L :: Ls)
structure TabC (K:q0a) (H:Hp) (D:Addr) (M:List (List Rat)) (H2:Hp):Prop where
 same:c7 H H2
 at':∃ ts:List Addr,H2 D=some (.lst (ts.map V.ref))/\(∀ t ∈ ts,H t=none/\t ≠ D)/\ts.Nodup/\bx2 K H2 ts M
structure RowC (K:q0a) (H:Hp) (D:Addr) (L:List Rat) (H2:Hp):Prop where
 same:c7 H H2
 at':∃ xs:List V,H2 D=some (.lst xs)/\Q4 K H2 xs L
theorem N6 {n:Nat} (h:n<=100):n<sizeLine:=q0v h (by decide)
def ClA (D:Addr) (H:Hp) (v:V) (p:List Rat):Prop:=∃ r l,v=.ref r/\H r=some (.tup [.ref l,.int (m8 p)])/\H l=some (.lst ((j9 (m8 p) p).map V.int))/\l ≠ D
inductive ClL (D:Addr) (H:Hp):List V->List (List Rat)->Prop where
 | nil:ClL D H [] []
 | cons {v:V} {p:List Rat} {vs:List V} {ps:List (List Rat)} (h:ClA D H v p) (t:ClL D H vs ps):ClL D H (v :: vs) (p :: ps)
structure ClR (H:Hp) (D:Addr) (M:List (List Rat)) (H2:Hp):Prop where
 same:c7 H H2
 at':∃ vs:List V,H2 D=some (.lst vs)/\ClL D H2 vs M
def bA9:List D->Bool
 | [.v (.int _),.v (.int _),.v (.int _)]=>true
 | _=>false
mutual
def noW:D->Bool
 | .v _=>true
 | .tup ds=>bF2 ds
 | .lst ds => !bA9 ds && bF2 ds
def bF2:List D->Bool
 | []=>true
 | d :: ds=>noW d && bF2 ds
end
mutual
def smD (m:Nat):D->Prop
 | .v (.int i)=>i.natAbs<2 ^ m
 | .v _=>True
 | .tup ds=>bC1 m ds
 | .lst ds=>bC1 m ds
def bC1 (m:Nat):List D->Prop
 | []=>True
 | d :: ds=>smD m d/\bC1 m ds
end
def P5 (p q:Rat):Bool:=decide (p.num*(q.den:Int)<q.num*(p.den:Int))
structure IsBox (B:List (Rat × Rat)):Prop where
 l2:2<=B.length
 l8:B.length<=8
 le:∀ s ∈ B,s.1<=s.2
 last:∀ s,B[B.length-1]? = some s->0<s.1
def zs (t b a:Int):List Int->List Int
 | []=>[b*a]
 | x :: r=>(b*a+t*x) :: zs t b x r
structure MidN (n:Nat) (R:List Rat):Prop where
 ex:∃ (B:Nat) (ws:List Int),0<B/\B<2 ^ (40*n+1)/\R=scl (q0s 1 B) ws/\∀ v ∈ ws,z0s v<2 ^ (41*n+1)
 len:R.length=n+1
 last:R[n]? = some 1
theorem BdN.neg {m:Nat} {q:Rat} (b:BdN m q):BdN m (-q):=⟨by rw [Rat.neg_num,y0z];exact b.n,by rw [Rat.neg_den];exact b.d⟩
theorem BdN.sub {m n:Nat} {p q:Rat} (a:BdN m p) (b:BdN n q):BdN (m+n+1) (p-q):=by
 rw [Rat.sub_eq_add_neg];exact a.add b.neg
inductive bq4 (H:Hp):List V->List (Rat × Rat)->Prop where
 | nil:bq4 H [] []
 | cons {p a b:Addr} {s:Rat × Rat} {vs:List V} {B:List (Rat × Rat)} (h:H p=some (.tup [.ref a,.ref b])) (ha:H a=some (.tup (t7 s.1))) (hb:H b=some (.tup (t7 s.2))) (t:bq4 H vs B):bq4 H (.ref p :: vs) (s :: B)
def ad5 (a b:Str):D:=.tup [.v (.str a),.v (.str b)]
theorem bn4 (a b:Str):eqD (ad5 a b) (ad5 a b)=true:=by simp [ad5,eqD,K9,eqV]
theorem bi8 (a b c d:Str):okD (ad5 a b) (ad5 c d)=true:=by simp [ad5,okD,ac9]
theorem bv7 (a b:Str):dpD (ad5 a b)<=60:=by simp [ad5,dpD,ah7]
theorem aM5 {K:q0a} {H:Hp} {p:Addr} {a b:Str} (h:SqT K H p [.str a,.str b]):IsD K H (.ref p) (ad5 a b):=.tup h (.cons (.v rfl) (.cons (.v rfl) .nil))
mutual
theorem aL2:∀ d:D,okD d d=true
 | .v _=>by rw [okD]
 | .tup ds=>by rw [okD];exact al4 ds
 | .lst ds=>by rw [okD];exact al4 ds
theorem al4:∀ ds:List D,ac9 ds ds=true
 | []=>by simp [ac9]
 | d :: ds=>by rw [ac9,aL2 d,al4 ds];rfl
end
structure TbX (u:Addr) (H:Hp) (a:Addr) (ts:List Addr) (M:List (List Rat)):Prop where
 au:a ≠ u
 tu:∀ t ∈ ts,t ≠ u
 at':H a=some (.lst (ts.map V.ref))
 rws:Rws H ts M
structure LsX (u:Addr) (H:Hp) (a:Addr) (xs:List V) (qs:List Rat):Prop where
 au:a ≠ u
 at':H a=some (.lst xs)
 nums:v3 H xs qs
def hc (a:Nat->Rat) (i j:Nat):Rat:=if (i+j) % 2=1 then a i*a j else 0
def hf (a:Nat->Rat):Nat->Nat->Rat
 | 0,j=>hc a 0 (j+1)
 | i+1,j=>hc a (i+1) (j+1)-hf a i (j+1)
def pw (x:Rat):Nat->Rat
 | 0=>1
 | i+1=>pw x i*x
theorem F3 (c:Rat) (f:Nat->Rat):∀ n,c*i6 f n=i6 (λi=>c*f i) n
 | 0=>by simp [i6]
 | n+1=>by rw [i6,i6,<- F3 c f n];grind
theorem N4 (f g:Nat->Rat):∀ n,i6 f n+i6 g n=i6 (λi=>f i+g i) n
 | 0=>by simp [i6];grind
 | n+1=>by rw [i6,i6,i6,<- N4 f g n];grind
def hR (a:Nat->Rat) (n i:Nat) (y:Rat):Rat:=i6 (λj=>hf a i j*pw y j) n
def hC (a:Nat->Rat) (n i:Nat) (y:Rat):Rat:=i6 (λj=>hc a i j*pw y j) (n+1)
def sg (i:Nat):Rat:=if i % 2=0 then 1 else -1
def OvB (B W:Nat) (q:Rat):Prop:=∃ v:Int,q=q0s v B/\v.natAbs<2 ^ W
theorem OvB.mono {B V W:Nat} {q:Rat} (h:OvB B V q) (l:V<=W):OvB B W q:=let ⟨v,e,b⟩:=h;⟨v,e,q0f b (c9 l)⟩
theorem OvB.zero (B W:Nat):OvB B W 0:=⟨0,by rw [Rat.zero_divInt],y0g _⟩
theorem OvB.mul {B C V W:Nat} {p q:Rat} (h:OvB B V p) (k:OvB C W q):OvB (B*C) (V+W) (p*q):=by
 obtain ⟨v,rfl,b⟩:=h
 obtain ⟨u,rfl,c⟩:=k
 refine ⟨v*u,by rw [u0h,j0e],?_⟩
 rw [z0f,y0e]
 exact j0w b c
theorem OvB.neg {B W:Nat} {q:Rat} (h:OvB B W q):OvB B W (-q):=by
 obtain ⟨v,rfl,b⟩:=h
 exact ⟨-v,by rw [Rat.neg_divInt],by rw [y0z];exact b⟩
theorem OvB.add {B W:Nat} (hB:0<B) {p q:Rat} (h:OvB B W p) (k:OvB B W q):OvB B (W+1) (p+q):=by
 obtain ⟨v,rfl,b⟩:=h
 obtain ⟨u,rfl,c⟩:=k
 refine ⟨v+u,?_,?_⟩
 ·have hz:(B:Int) ≠ 0:=⋯
  rw [z1c _ _ hz hz]
  refine (y0b (v0b hz hz) hz).mpr ?_
  grind
 ·have:=m0t v u
  rw [v0j];lia
theorem au2 {α:Type} {xs:List α} {x:α} (h:xs[xs.length-1]? = some x):atI xs (-1)=some x:=by
 have hp:xs.length-1<xs.length:=(q0g.mp h).1
 have e:ixN xs.length (-1)=some (xs.length-1):=by
  unfold ixN
  rw [if_neg (by decide)]
  rw [if_pos (by lia)]
  congr 1
  lia
 unfold atI
 rw [e]
 exact h
def aQ (qs:List Rat) (k:Nat):Rat:=(qs[k]?).getD 0
def aZ (ws:List Int) (k:Nat):Int:=(ws[k]?).getD 0
theorem bq2 (s:Rat) (ws:List Int):aQ (scl s ws)=λk=>s*(aZ ws k:Rat):=by
 funext k
 unfold aQ aZ scl
 rw [q0r]
 cases ws[k]? with
 | none=>simp [z0k]
 | some v=>simp
theorem ao5 {ws:List Int} {W:Nat} (h:∀ v ∈ ws,z0s v<2 ^ W):∀ k,(aZ ws k).natAbs<2 ^ W:=λk=>by
 unfold aZ
 cases q:ws[k]? with
 | none=>exact y0g _
 | some v=>exact h v (q0p q)
theorem aC0 {α:Type} [Add α]:∀ (f:List α) (k:Nat) (x v:α),v ∈ N0 f k x->v ∈ f \/ ∃ y ∈ f,v=y+x
 | [],_,_,_,h=>by cases h
 | y :: r,0,x,v,h=>by
  rcases z0a.mp h with z | z
  ·exact .inr ⟨y,q0c,z⟩
  ·exact .inl (q0b _ z)
 | y :: r,k+1,x,v,h=>by
  rcases z0a.mp h with z | z
  ·exact .inl (by rw [z];exact q0c)
  ·rcases aC0 r k x v z with w | ⟨u,hu,e⟩
   ·exact .inl (q0b _ w)
   ·exact .inr ⟨u,q0b _ hu,e⟩
theorem bd1 {B W:Nat} (hB:0<B) {f:List Rat} {k:Nat} {x:Rat} (hf:∀ v ∈ f,OvB B W v) (hx:OvB B W x):∀ v ∈ N0 f k x,OvB B (W+1) v:=λv hv=>by
 rcases aC0 f k x v hv with h | ⟨y,hy,rfl⟩
 ·exact (hf v h).mono (by simp)
 ·exact (hf y hy).add hB hx
def cv (f g:Nat->Rat) (k:Nat):Rat:=i6 (λi=>f i*g (k-i)) (k+1)
theorem aY7 (p q:List Rat) (k:Nat):aQ (T7 p q) k=cv (aQ p) (aQ q) k:=by
 by_cases hp:p=[]
 ·subst hp
  have:T7 [] q=[]:=by unfold T7;rw [if_pos (.inl rfl)]
  rw [this]
  symm
  exact w8 _ λi _=>by show (0:Rat)*_=0;grind
 by_cases hq:q=[]
 ·subst hq
  have:T7 p []=[]:=by unfold T7;rw [if_pos (.inr rfl)]
  rw [this]
  symm
  exact w8 _ λi _=>by show _*(0:Rat)=0;grind
 by_cases hk:k<p.length+q.length-1
 ·have:=bj4 hp hq hk
  unfold aQ
  rw [this];rfl
 ·have h1:aQ (T7 p q) k=0:=by
   unfold aQ
   rw [z0m (by rw [bj3 hp hq];exact Nat.not_lt.mp ‹_›)];rfl
  rw [h1]
  symm
  refine w8 _ λi hi=>?_
  by_cases h2:i<p.length
  ·have:aQ q (k-i)=0:=by unfold aQ;rw [z0m (by lia)];rfl
   rw [this];grind
  ·have:aQ p i=0:=by unfold aQ;rw [z0m (by exact Nat.not_lt.mp ‹_›)];rfl
   rw [this];grind
theorem bx0 {qs:List Rat} {m:Nat} (t:U7 qs m) (k:Nat):aQ (qs.take m) k=aQ qs k:=by
 unfold aQ
 rw [m0m]
 split
 ·rfl
 ·cases h:qs[k]? with
  | none=>rfl
  | some v=>rw [t.zero k v (by exact Nat.not_lt.mp ‹_›) h];rfl
theorem am5 (f g h:Nat->Rat) (k:Nat):cv (λi=>f i+g i) h k=cv f h k+cv g h k:=by
 unfold cv
 rw [N4]
 exact i4 λi _=>by grind
theorem av2 (c:Rat) (f h:Nat->Rat) (k:Nat):cv (λi=>c*f i) h k=c*cv f h k:=by
 unfold cv
 rw [F3]
 exact i4 λi _=>by grind
theorem L6 (g:Nat->Rat) (t:Nat):∀ n,i6 (λi=>if i=t then g i else 0) n=if t<n then g t else 0
 | 0=>by rw [if_neg (by simp)];rfl
 | n+1=>by
  rw [i6,L6 g t n]
  by_cases h:t<n
  ·rw [if_pos h,if_neg (by lia),if_pos (by exact Nat.lt_succ_of_lt ‹_›)];grind
  ·by_cases h2:n=t
   ·rw [if_neg h,if_pos h2,if_pos (by lia),h2];grind
   ·rw [if_neg h,if_neg h2,if_neg (by lia)];grind
theorem am3 (d:Rat) (t:Nat) (h:Nat->Rat) (k:Nat):cv (λi=>if i=t then d else 0) h k=if t<=k then d*h (k-t) else 0:=by
 unfold cv
 have:i6 (λi=>(if i=t then d else 0)*h (k-i)) (k+1)=i6 (λi=>if i=t then d*h (k-i) else 0) (k+1):=i4 λi _=>by split <;> grind
 rw [this,L6]
 by_cases e:t<=k
 ·rw [if_pos ⋯,if_pos e]
 ·rw [if_neg (by lia),if_neg e]
def zc (ws:List Int) (k:Nat):Rat:=(aZ ws k:Rat)
theorem au4 (f:List Int) (i:Nat) (x:Int) (q:List Int) {k:Nat} (y:Int) (hy:f[k]? = some y):∀ j,(w9 0 f i x q j)[k]? = some (y+if i<=k/\k<i+j then x*(q[k-i]?).getD 0 else 0)
 | 0=>by
  rw [w9,hy,if_neg ⋯];congr 1;simp
 | j+1=>by
  have ih:=au4 f i x q y hy j
  rw [w9]
  by_cases e:k=i+j
  ·subst e
   rw [ai1 _ _ _ _ ih,if_neg ⋯,if_pos ⋯,show i+j-i=j by omega]
   congr 1;simp
  ·rw [ae0 _ _ _ _ e,ih]
   by_cases h:i<=k/\k<i+j
   ·rw [if_pos h,if_pos ⋯]
   ·rw [if_neg h,if_neg ⋯]
structure v2 (ws:List Int) (m:Nat):Prop where
 le:m<=ws.length
 zero:∀ i v,m<=i->ws[i]? = some v->v=0
 last:m ≠ 0->∀ v,ws[m-1]? = some v->v ≠ 0
theorem aY6 {ws:List Int} {m:Nat} (t:v2 ws m) (k:Nat):aZ (ws.take m) k=aZ ws k:=by
 unfold aZ
 rw [m0m]
 split
 ·rfl
 ·cases h:ws[k]? with
  | none=>rfl
  | some v=>rw [t.zero k v ⋯ h];rfl
theorem v2.self {ws:List Int} {m:Nat} (t:v2 ws m):v2 (ws.take m) (ws.take m).length:=by
 have hm:(ws.take m).length=m:=by rw [j0j];have:=t.le;lia
 refine ⟨q0q _,λi v hi h=>?_,λhn v h=>?_⟩
 ·rw [z0m hi] at h;cases h
 ·rw [hm] at hn h
  rw [m0m,if_pos (by lia)] at h
  exact t.last hn v h
def Dv (one other Q R:List Int) (many:Int):Prop:=∀ k,(many:Rat)*zc one k=cv (zc Q) (zc other) k+zc R k
theorem bv6 {one other Q R R':List Int} {many c d:Int} {t:Nat} (h:Dv one other Q R many) (ht:t<Q.length) (hQ:aZ Q t=0) (hR:∀ k,aZ R' k=c*aZ R k-if t<=k then d*aZ other (k-t) else 0) :
  Dv one other ((Q.map (c * ·)).set t d) R' (many*c):=by
 intro k
 have e1:zc ((Q.map (c * ·)).set t d)=λi=>(c:Rat)*zc Q i+if i=t then (d:Rat) else 0:=by
  funext i
  unfold zc aZ
  rw [List.getElem?_set]
  by_cases z:t=i
  ·subst z
   rw [if_pos rfl,if_pos (by rw [q0e];exact ht),if_pos rfl]
   unfold aZ at hQ
   rw [hQ,z0k]
   simp only [q1d]
   grind
  ·rw [if_neg z,if_neg (λw=>z w.symm),q0r]
   cases Q[i]? with
   | none=>simp [z0k];grind
   | some v=>simp [q0n];grind
 have e2:zc R' k=(c:Rat)*zc R k-if t<=k then (d:Rat)*zc other (k-t) else 0:=by
  unfold zc
  rw [hR k,g0x,q0n]
  split
  ·rw [q0n]
  ·rw [z0k]
 rw [e1,am5 (λi=>(c:Rat)*zc Q i) (λi=>if i=t then (d:Rat) else 0),av2,am3,e2,q0n]
 have:=h k
 have e3:(many:Rat)*(c:Rat)*zc one k=(c:Rat)*((many:Rat)*zc one k):=by grind
 rw [e3,this]
 grind
theorem OvB.up {B W:Nat} {q:Rat} (h:OvB B W q) (hB:0<B) {C c:Nat} (hC:0<C) (hc:C<2 ^ c):OvB (B*C) (W+c) q:=by
 obtain ⟨v,rfl,b⟩:=h
 refine ⟨v*C,?_,?_⟩
 ·rw [j0e]
  refine (y0b ⋯ (v0b ⋯ ⋯)).mpr ?_
  grind
 ·rw [z0f,q0k,y0e]
  exact j0w b hc
theorem bc6 {B W:Nat} (hB:0<B) (hW:B<2 ^ W) {qs:List Rat} (h:∀ x ∈ qs,OvB B W x):ClN W qs:=by
 have:∃ vs:List Int,qs=scl (q0s 1 B) vs/\∀ v ∈ vs,z0s v<2 ^ W:=by
  induction qs with
  | nil=>exact ⟨[],rfl,by simp⟩
  | cons q qs ih =>
   obtain ⟨vs,e,hv⟩:=ih λx hx=>h x (q0b _ hx)
   obtain ⟨v,e2,b⟩:=h q q0c
   refine ⟨v :: vs,?_,λu hu=>?_⟩
   ·rw [e]
    show q :: _=(q0s 1 B*(v:Rat)) :: _
    rw [as7,<- e2];rfl
   ·rcases z0a.mp hu with z | z
    ·rw [z];exact b
    ·exact hv u z
 obtain ⟨vs,rfl,hv⟩:=this
 exact bc5 hB hW hv
def bN6 (u:Addr) (H:Hp) (v:V) (ps qs:List Rat):Prop:=v=.non \/ ∃ td l1 l2 zs1 zs2 g0 g1,v=.ref td/\td ≠ u/\H td=some (.tup [.ref l1,.ref l2])/\LsX u H l1 zs1 g0/\LsX u H l2 zs2 g1/\U7 g0 g0.length/\U7 g1 g1.length/\g1.length<qs.length/\∀ k,aQ ps k=cv (aQ qs) (aQ g0) k+aQ g1 k
structure PairOk (u:Addr) (H:Hp) (ap aq:Addr) (due:V) (xs ys:List V) (ps qs:List Rat) (S W1 W2:Nat):Prop where
 lp:LsX u H ap xs ps
 lq:LsX u H aq ys qs
 tp:U7 ps ps.length
 tq:U7 qs qs.length
 q0:qs ≠ []
 c1:ClN W1 ps
 c2:ClN W2 qs
 w1:1<=W1
 w2:1<=W2
 w3:W2<=690
 t:W1+S*(W2+1)+W2<=2300
 s:ps.length+1<=qs.length+S
 pl:ps.length<=16
 ql:qs.length<=16
 due:bN6 u H due ps qs
theorem bd7 (ws:List Int):zc ws=aQ (scl 1 ws):=by
 rw [bq2];funext k
 show _=1*zc ws k
 grind
theorem aV6 {B W:Nat} (hB:0<B) {f:Nat->Rat} (h:∀ i,OvB B W (f i)):∀ n,OvB B (W+n) (i6 f n)
 | 0=>OvB.zero _ _
 | n+1=>((aV6 hB h n).add hB ((h n).mono (by simp))).mono (by lia)
theorem php:∀ (m n:Nat) (f:Nat->Nat),(∀ i,i<n->f i<m)->m<n->∃ i j,i<j/\j<n/\f i=f j
 | 0,n,f,hf,h=>absurd (hf 0 h) (by simp)
 | m+1,0,f,hf,h=>by lia
 | m+1,n+1,f,hf,h=>by
  by_cases c:∃ i,i<n/\f i=f n
  ·obtain ⟨i,hi,e⟩:=c
   exact ⟨i,n,hi,by simp,e⟩
  ·have hn:=hf n ⋯
   have ne:∀ i,i<n->f i ≠ f n:=λi hi e=>c ⟨i,hi,e⟩
   obtain ⟨i,j,h1,h2,h3⟩:=php m n (λi=>if f i<f n then f i else f i-1) (λi hi=>by
    have:=hf i (by exact Nat.lt_succ_of_lt ‹_›)
    have:=ne i hi
    show (if f i<f n then f i else f i-1)<m
    split <;> lia) (by lia)
   refine ⟨i,j,h1,by exact Nat.lt_succ_of_lt ‹_›,?_⟩
   have a:=ne i (by lia)
   have b:=ne j h2
   split at h3 <;> split at h3 <;> lia
def cod (b:Nat) (y:Nat->Nat):Nat->Nat
 | 0=>0
 | M+1=>y 0+b*cod b (λe=>y (e+1)) M
def dig (b t:Nat):Nat->Nat
 | 0=>t % b
 | i+1=>dig b (t / b) i
theorem aH3 {b:Nat} (hb:0<b):∀ i t,dig b t i<b
 | 0,t=>Nat.mod_lt _ hb
 | i+1,t=>aH3 hb i (t / b)
theorem aI1 {b:Nat} (hb:0<b):∀ N t,t<b ^ N->cod b (dig b t) N=t
 | 0,t,h=>by simp at h;rw [h];rfl
 | N+1,t,h=>by
  have h1:t / b<b ^ N:=by rw [v0j] at h;exact Nat.div_lt_of_lt_mul (by rw [u0g];exact h)
  have ih:=aI1 hb N (t / b) h1
  show t % b+b*cod b (dig b (t / b)) N=t
  rw [ih]
  exact Nat.mod_add_div t b
theorem bo8 {b:Nat}:∀ M (y:Nat->Nat),(∀ e,e<M->y e<b)->cod b y M<b ^ M
 | 0,y,h=>by simp [cod]
 | M+1,y,h=>by
  have ih:=bo8 M (λe=>y (e+1)) λe he=>h (e+1) ⋯
  have h0:=h 0 (by simp)
  show y 0+b*cod b (λe=>y (e+1)) M<b ^ (M+1)
  rw [v0j,u0g (b ^ M)]
  have:b*(cod b (λe=>y (e+1)) M+1)<=b*b ^ M:=y0m _ ih
  rw [m0g] at this
  lia
theorem aX9 {b:Nat} (hb:0<b):∀ M (y z:Nat->Nat),(∀ e,e<M->y e<b)->(∀ e,e<M->z e<b)->cod b y M=cod b z M->∀ e,e<M->y e=z e
 | 0,_,_,_,_,_,e,he=>by lia
 | M+1,y,z,hy,hz,h,e,he=>by
  have h':y 0+b*cod b (λe=>y (e+1)) M=z 0+b*cod b (λe=>z (e+1)) M:=h
  have y0:=hy 0 (by simp)
  have z0:=hz 0 ⋯
  have m1:=congrArg (· % b) h'
  simp only [Nat.add_mul_mod_self_left,Nat.mod_eq_of_lt y0,Nat.mod_eq_of_lt z0] at m1
  have m2:cod b (λe=>y (e+1)) M=cod b (λe=>z (e+1)) M:=by
   rw [m1] at h'
   exact v0p hb (by lia)
  cases e with
  | zero=>exact m1
  | succ e=>exact aX9 hb M (λe=>y (e+1)) (λe=>z (e+1)) (λe he=>hy (e+1) (by lia)) (λe he=>hz (e+1) ⋯) m2 e (by lia)
def sZ (f:Nat->Int):Nat->Int
 | 0=>0
 | n+1=>sZ f n+f n
theorem bg3 (f g:Nat->Int):∀ n,sZ (λi=>f i-g i) n=sZ f n-sZ g n
 | 0=>rfl
 | n+1=>by rw [sZ,bg3 f g n,sZ,sZ];lia
theorem ar7 {f g:Nat->Int}:∀ {n},(∀ i,i<n->f i=g i)->sZ f n=sZ g n
 | 0,_=>rfl
 | n+1,h=>by rw [sZ,sZ,ar7 λi hi=>h i ⋯,h n ⋯]
theorem aV1 {f:Nat->Int} {C:Nat}:∀ {n},(∀ i,i<n->(f i).natAbs<=C)->(sZ f n).natAbs<=n*C
 | 0,_=>by simp [sZ]
 | n+1,h=>by
  have ih:=aV1 (n:=n) λi hi=>h i ⋯
  have h1:=h n (by simp)
  rw [sZ,Nat.succ_mul]
  omega
theorem bg0 (A:Nat->Nat->Int) {M N B:Nat} (hA:∀ e,e<M->∀ i,i<N->(A e i).natAbs<=B) (hN:M<N) (hB:1<=B) :
  ∃ d:Nat->Int,(∃ i,i<N/\d i ≠ 0)/\(∀ i,i<N->(d i).natAbs<=(2*N*B) ^ M)/\∀ e,e<M->sZ (λi=>A e i*d i) N=0:=by
 obtain ⟨c,hc⟩:∃ c,c=2*N*B:=⟨_,rfl⟩
 have c1:1<=c:=by
  rw [hc]
  have:1*1<=2*N*B:=j0f (by lia) hB
  omega
 obtain ⟨X,hX⟩:∃ X,X=c ^ M:=⟨_,rfl⟩
 have hb:0<c*(X+1):=j0s ⋯ (by simp)
 obtain ⟨L,hL⟩:∃ L:Nat->Nat->Int,∀ t e,L t e=sZ (λi=>A e i*(dig (X+1) t i:Int)) N:=⟨_,λ_ _=>rfl⟩
 have Lb:∀ t e,e<M->(L t e).natAbs<=N*(B*X):=λt e he=>by
  rw [hL]
  refine aV1 λi hi=>?_
  rw [z0f,q0k]
  have:=aH3 (b:=X+1) (by simp) i t
  exact j0f (hA e he i hi) (by lia)
 have yb:∀ t e,e<M->(L t e+(N*(B*X):Nat)).toNat<c*(X+1):=λt e he=>by
  have:=Lb t e he
  have e1:c*(X+1)=2*(N*(B*X))+c:=by
   rw [hc,m0g,q1y]
   have:2*N*B*X=2*(N*(B*X)):=by rw [g0m,g0m]
   lia
  omega
 have big:(c*(X+1)) ^ M<(X+1) ^ N:=by
  rw [Nat.mul_pow]
  have h1:c ^ M*(X+1) ^ M<(X+1)*(X+1) ^ M:=Nat.mul_lt_mul_of_pos_right (by lia) (u0p ⋯)
  have h2:(X+1)*(X+1) ^ M=(X+1) ^ (M+1):=by rw [v0j,u0g]
  have h3:(X+1) ^ (M+1)<=(X+1) ^ N:=v0q (by simp) (by lia)
  lia
 obtain ⟨t1,t2,h12,h2n,he⟩:=php _ _ (λt=>cod (c*(X+1)) (λe=>(L t e+(N*(B*X):Nat)).toNat) M) (λt _=>bo8 M _ λe he=>yb t e he) big
 have heq:∀ e,e<M->L t1 e=L t2 e:=λe hee=>by
  have:=aX9 hb M _ _ (λe he=>yb t1 e he) (λe he=>yb t2 e he) he e hee
  have b1:=Lb t1 e hee
  have b2:=Lb t2 e hee
  lia
 refine ⟨λi=>(dig (X+1) t1 i:Int)-(dig (X+1) t2 i:Int),?_,λi hi=>?_,λe hee=>?_⟩
 ·refine Classical.byContradiction λz=>?_
  have alle:∀ i,i<N->dig (X+1) t1 i=dig (X+1) t2 i:=λi hi=>by
   refine Classical.byContradiction λw=>z ⟨i,hi,?_⟩
   show (dig (X+1) t1 i:Int)-(dig (X+1) t2 i:Int) ≠ 0
   lia
  have cc:∀ (N:Nat) (y z:Nat->Nat),(∀ i,i<N->y i=z i)->cod (X+1) y N=cod (X+1) z N:=by
   intro N
   induction N with
   | zero=>intro _ _ _;rfl
   | succ N ih=>intro y z h;show y 0+_*_=z 0+_*_;rw [h 0 (by simp),ih _ _ λi hi=>h (i+1) (by lia)]
  have e1:=aI1 (b:=X+1) (by simp) N t1 (by lia)
  have e2:=aI1 (b:=X+1) ⋯ N t2 h2n
  rw [cc N _ _ alle] at e1
  lia
 ·have d1:=aH3 (b:=X+1) (by simp) i t1
  have d2:=aH3 (b:=X+1) ⋯ i t2
  show ((dig (X+1) t1 i:Int)-(dig (X+1) t2 i:Int)).natAbs<=(2*N*B) ^ M
  rw [<- hc,<- hX]
  lia
 ·have:=heq e hee
  rw [hL,hL] at this
  have e2:sZ (λi=>A e i*((dig (X+1) t1 i:Int)-(dig (X+1) t2 i:Int))) N=sZ (λi=>A e i*(dig (X+1) t1 i:Int)-A e i*(dig (X+1) t2 i:Int)) N:=ar7 λi _=>by rw [Int.mul_sub]
  rw [e2,bg3,this];simp
theorem ad7 (f g:Nat->Rat) (k:Nat):cv f g (k+1)=f 0*g (k+1)+cv (λi=>f (i+1)) g k:=by
 unfold cv
 rw [G1]
 congr 1
 exact i4 λi _=>by rw [show k+1-(i+1)=k-i by simp]
theorem M5 (f g:Nat->Rat) (k:Nat):cv f g k=cv g f k:=by
 unfold cv
 rw [ag1]
 exact i4 λi hi=>by
  rw [show k+1-1-i=k-i by simp,show k-(k-i)=i by lia];grind
theorem av4 {f g h l:Nat->Rat} {k:Nat} (a:∀ i,i<=k->f i=g i) (b:∀ i,i<=k->h i=l i):cv f h k=cv g l k :=
 i4 λi hi=>by rw [a i (by lia),b (k-i) (by simp)]
theorem am4 (f g:Nat->Rat):cv f g 0=f 0*g 0:=by
 show (0:Rat)+f 0*g 0=_
 grind
theorem av5:∀ (k:Nat) (f g h:Nat->Rat),cv (cv f g) h k=cv f (cv g h) k
 | 0,f,g,h=>by rw [am4,am4,am4,am4];grind
 | k+1,f,g,h=>by
  rw [ad7,ad7 f]
  have e1:cv (λi=>cv f g (i+1)) h k=cv (λi=>f 0*g (i+1)+cv (λi=>f (i+1)) g i) h k:=av4 (λi _=>ad7 f g i) λ_ _=>rfl
  rw [e1,am5 (λi=>f 0*g (i+1)) (cv (λi=>f (i+1)) g),av2 (f 0) (λi=>g (i+1)),av5 k,ad7 g]
  rw [am4];grind
theorem aH7 {f:Nat->Rat} (h:∀ k,f k=0) (g:Nat->Rat) (k:Nat):cv f g k=0:=w8 _ λi _=>by rw [h];grind
def Dg (f:Nat->Rat) (n:Nat):Prop:=∀ k,n<=k->f k=0
theorem Dg.cv {f g:Nat->Rat} {m n:Nat} (hf:Dg f m) (hg:Dg g n):Dg (cv f g) (m+n-1):=λk hk=>w8 _ λi hi=>by
 by_cases h:m<=i
 ·rw [hf i h];grind
 ·rw [hg (k-i) (by lia)];grind
theorem aH4 {f B:Nat->Rat} {nf n N:Nat} (hf:Dg f nf) (hB:Dg B (n+1)) (hn:B n ≠ 0) (h:Dg (cv f B) N):Dg f (N-n):=by
 have key:∀ j,∀ k,nf-j<=k->N-n<=k->f k=0:=by
  intro j
  induction j with
  | zero=>intro k hk _;exact hf k ⋯
  | succ j ih =>
   intro k hk hN
   by_cases h1:nf-j<=k
   ·exact ih k h1 hN
   have e:=h (k+n) ⋯
   have one:cv f B (k+n)=f k*B n:=by
    unfold R.cv
    have:i6 (λi=>f i*B (k+n-i)) (k+n+1)=i6 (λi=>if i=k then f k*B n else 0) (k+n+1):=i4 λi _=>by
     by_cases z:i=k
     ·rw [if_pos z,z,q1m]
     ·rw [if_neg z]
      by_cases y:i<k
      ·rw [hB _ (by lia)];grind
      ·rw [ih i (by lia) (by lia)];grind
    rw [this,L6,if_pos (by lia)]
   rw [one] at e
   have:=z0n _ hn
   generalize (B n)⁻¹=u at this
   generalize B n=y at *
   grind
 exact λk hk=>key nf k (by simp) hk
structure Eu (p q A B:Nat->Rat) (lp lq la lb:Nat):Prop where
 inv:∀ m,m<la->∀ u v,Dg u (lq-m)->Dg v (lp-m)->Dg (λk=>cv u p k+cv v q k) m ->
  ∃ a b,(∀ k,cv u p k+cv v q k=cv a A k+cv b B k)/\Dg a (lb-m)/\Dg b (la-m)/\((∀ k,a k=0)->(∀ k,b k=0)->∀ k,u k=0/\v k=0)
 le:la<=max lp lq
theorem Eu.base {p q:Nat->Rat} {lp lq:Nat}:Eu p q p q lp lq lp lq :=
 ⟨λm hm u v hu hv hs=>⟨u,v,λ_=>rfl,hu,hv,λa b k=>⟨a k,b k⟩⟩,by lia⟩
theorem Eu.step {p q A B C Q:Nat->Rat} {lp lq la lb lc:Nat} {c d:Rat} (e:Eu p q A B lp lq la lb) (hl:lb<=la) (hB:Dg B lb) (h0:0<lb) (hn:B (lb-1) ≠ 0)
  (hC:Dg C lc) (hlc:lc<lb) (hc:c ≠ 0) (hd:d ≠ 0) {lQ:Nat} (hQ:Dg Q lQ) (h:∀ k,c*A k=cv Q B k+d*C k):Eu p q B C lp lq lb lc:=by
 refine ⟨λm hm u v hu hv hs=>?_,by have:=e.le;lia⟩
 obtain ⟨a,b,eq,ha,hb,hz⟩:=e.inv m (by exact Nat.lt_of_lt_of_le ‹_› ‹_›) u v hu hv hs
 have hA:∀ k,A k=cv (λi=>c⁻¹*Q i) B k+c⁻¹*d*C k:=λk=>by
  rw [av2]
  have:=h k
  have:=z0n _ hc
  generalize c⁻¹=x at *
  grind
 have dis:∀ k,cv a A k=cv (cv a (λi=>c⁻¹*Q i)) B k+cv (λi=>c⁻¹*d*a i) C k:=λk=>by
  rw [av5,av2,M5 a A,M5 a,M5 a C,<- av2,<- am5 (cv (λi=>c⁻¹*Q i) B) (λi=>c⁻¹*d*C i)]
  exact av4 (λi _=>hA i) λ_ _=>rfl
 obtain ⟨a',ha'⟩:∃ a',a'=λi=>cv a (λi=>c⁻¹*Q i) i+b i:=⟨_,rfl⟩
 have tot:∀ k,cv u p k+cv v q k=cv a' B k+cv (λi=>c⁻¹*d*a i) C k:=λk=>by
  rw [eq,dis,ha',am5 (cv a (λi=>c⁻¹*Q i)) b];grind
 have hb':Dg (λi=>c⁻¹*d*a i) (lb-m):=λk hk=>by
  show c⁻¹*d*a k=0
  rw [ha k hk];grind
 have hq':Dg (λi=>c⁻¹*Q i) lQ:=λk hk=>by
  show c⁻¹*Q k=0
  rw [hQ k hk];grind
 have some:Dg a' (max ((lb-m)+lQ-1) (la-m)):=λk hk=>by
  rw [ha']
  show cv a (λi=>c⁻¹*Q i) k+b k=0
  rw [ha.cv hq' k ⋯,hb k ⋯];grind
 have hprod:Dg (cv a' B) (max m ((lb-m)+lc-1)):=λk hk=>by
  have h1:=tot k
  have h2:cv u p k+cv v q k=0:=hs k ⋯
  have h3:=hb'.cv hC k ⋯
  grind
 have hn':B (lb-1) ≠ 0:=hn
 have back:=aH4 (n:=lb-1) some (by rw [Nat.sub_add_cancel h0];exact hB) hn hprod
 refine ⟨a',λi=>c⁻¹*d*a i,tot,λk hk=>back k ⋯,hb',λza zb=>?_⟩
 have ci:c⁻¹ ≠ 0:=λw=>by
  have:=z0n _ hc
  rw [w] at this
  grind
 have a0:∀ k,a k=0:=λk=>by
  have:=zb k
  have e1:=z0n _ hd
  have e2:=z0n _ hc
  generalize d⁻¹=x at *
  generalize c⁻¹=y at *
  grind
 refine hz a0 λk=>?_
 have:=za k
 rw [ha'] at this
 have z:cv a (λi=>c⁻¹*Q i) k=0:=aH7 a0 _ k
 grind
theorem an3 (f:Nat->Rat) (n:Nat):∀ m,i6 f (n+m)=i6 f n+i6 (λi=>f (n+i)) m
 | 0=>by simp only [i6,Nat.add_zero];grind
 | m+1=>by rw [<- Nat.add_assoc,i6,an3 f n m,i6];grind
theorem aq7 (f:Nat->Int):∀ n,((sZ f n:Int):Rat)=i6 (λi=>(f i:Rat)) n
 | 0=>by simp [sZ,i6,z0k]
 | n+1=>by rw [sZ,i6,g0w,aq7 f n]
theorem aH8 {u:Nat->Rat} {n:Nat} (hu:Dg u n) (p:Nat->Rat) (k:Nat):cv u p k=i6 (λi=>u i*if i<=k then p (k-i) else 0) n:=by
 unfold cv
 rw [<- V0 (f:=λi=>u i*if i<=k then p (k-i) else 0) (m:=n) (n:=max n (k+1)) (by lia) (λi hi _=>by rw [hu i hi];grind),
  V0 (f:=λi=>u i*if i<=k then p (k-i) else 0) (m:=k+1) (n:=max n (k+1)) (by lia) (λi hi _=>by rw [if_neg (by lia)];grind)]
 exact i4 λi hi=>by rw [if_pos ⋯]
theorem P3 {d:Nat}:∀ (ws:List Int) (c:Nat),d ∣ c->(∀ w ∈ ws,(d:Int) ∣ w)->d ∣ ws.foldl (λc w=>z0r w c) c
 | [],c,h,_=>h
 | w :: r,c,h,hw=>P3 r _ (Int.dvd_gcd (hw w q0c) (by exact j0x.mpr h)) λx hx=>hw x (q0b _ hx)
theorem bs9 {b:Rat} (hb:b ≠ 0) {ws:List Int} (hg:m5 ws=1) {s:Nat->Int} (h:∀ k,(s k:Rat)=b*zc ws k):∀ k,(aZ ws k).natAbs<=(s k).natAbs:=by
 have e:∀ k,(b.den:Int)*s k=b.num*aZ ws k:=λk=>by
  have h1:=h k
  have h2:(b.den:Rat)*b=(b.num:Rat):=by
   have h3:(b.den:Rat) ≠ 0:=λw=>b.den_nz (u0c.mp (by rw [w];rfl))
   have h4:b=(b.num:Rat) / (b.den:Rat):=by
    have:=z0u b
    rw [j0n] at this
    exact this.symm
   have h5:=z0n _ h3
   rw [y0j] at h4
   generalize (b.den:Rat)=y at *
   generalize y⁻¹=z at *
   generalize (b.num:Rat)=n at *
   grind
  have h3:(((b.den:Int)*s k:Int):Rat)=((b.num*aZ ws k:Int):Rat):=by
   rw [q0n,q0n,h1,q0x]
   unfold zc
   grind
  exact j0k.mp h3
 have d1:b.den=1:=by
  have:b.den ∣ m5 ws:=P3 ws 0 (v0v _) λw hw=>by
   obtain ⟨k,hk,ek⟩:=y0q hw
   have h1:=e k
   have h2:aZ ws k=w:=by unfold aZ;rw [q0d hk,ek];rfl
   rw [h2] at h1
   have:(b.den:Int) ∣ b.num*w:=⟨s k,by rw [<- h1]⟩
   have h3:b.den ∣ b.num.natAbs*w.natAbs:=by
    have:=j0t.mpr this
    rw [q0k,z0f] at this
    exact this
   exact j0t.mp (by rw [q0k];exact g0j.dvd_of_dvd_mul_left (g0j.symm b.reduced) h3)
  rw [hg] at this
  exact u0q.mp this
 intro k
 have h1:=e k
 rw [d1] at h1
 have n0:b.num ≠ 0:=λw=>hb (q1s.mp w)
 have h2:s k=b.num*aZ ws k:=by rw [<- h1];simp
 rw [h2,z0f]
 exact y0u _ (by lia)
theorem Eu.bound {P Qs Bs:List Int} {A:Nat->Rat} {la K N:Nat} (e:Eu (zc P) (zc Qs) A (zc Bs) P.length Qs.length la Bs.length) (hl:Bs.length<la) (hB:0<Bs.length) (hg:m5 Bs=1)
  (hP:∀ k,(aZ P k).natAbs<=K) (hQ:∀ k,(aZ Qs k).natAbs<=K) (hK:1<=K) (hN:N=(Qs.length-(la-1))+(P.length-(la-1))):∀ k,(aZ Bs k).natAbs<=N*(K*(2*N*K) ^ (N-1)):=by
 have hle:=e.le
 obtain ⟨m,hm⟩:∃ m,m=la-1:=⟨_,rfl⟩
 obtain ⟨n1,h1⟩:∃ n1,n1=Qs.length-m:=⟨_,rfl⟩
 obtain ⟨n2,h2⟩:∃ n2,n2=P.length-m:=⟨_,rfl⟩
 obtain ⟨M,hM⟩:∃ M,M=N-1:=⟨_,rfl⟩
 obtain ⟨G,hG⟩:∃ G:Nat->Nat->Int,∀ k i,G k i=if i<n1 then (if i<=k then aZ P (k-i) else 0) else (if i-n1<=k then aZ Qs (k-(i-n1)) else 0):=⟨_,λ_ _=>rfl⟩
 have Gb:∀ k i,(G k i).natAbs<=K:=λk i=>by
  rw [hG]
  split
  ·split
   ·exact hP _
   ·simp
  ·split
   ·exact hQ _
   ·simp
 obtain ⟨d,⟨i0,hi0,hd0⟩,hdb,hd⟩:=bg0 (λe i=>G (m+e) i) (M:=M) (N:=N) (B:=K) (λe _ i _=>Gb _ _) (by lia) hK
 obtain ⟨s,hs⟩:∃ s:Nat->Int,∀ k,s k=sZ (λi=>G k i*d i) N:=⟨_,λ_=>rfl⟩
 obtain ⟨u,hu⟩:∃ u:Nat->Rat,∀ i,u i=if i<n1 then (d i:Rat) else 0:=⟨_,λ_=>rfl⟩
 obtain ⟨v,hv⟩:∃ v:Nat->Rat,∀ i,v i=if i<n2 then (d (n1+i):Rat) else 0:=⟨_,λ_=>rfl⟩
 have du:Dg u n1:=λk hk=>by rw [hu,if_neg (by lia)]
 have dv:Dg v n2:=λk hk=>by rw [hv,if_neg (by lia)]
 have sr:∀ k,(s k:Rat)=cv u (zc P) k+cv v (zc Qs) k:=λk=>by
  rw [hs,aq7,show N=n1+n2 by lia,an3,aH8 du,aH8 dv]
  congr 1
  ·refine i4 λi hi=>?_
   rw [q0n,hG,if_pos hi,hu,if_pos hi]
   split
   ·unfold zc;grind
   ·rw [z0k];grind
  ·refine i4 λi hi=>?_
   rw [q0n,hG,if_neg (by simp),hv,if_pos hi,show n1+i-n1=i by simp]
   split
   ·unfold zc;grind
   ·rw [z0k];grind
 have ds:∀ k,m<=k->s k=0:=λk hk=>by
  by_cases h:k<m+M
  ·have:=hd (k-m) (by lia)
   rw [show m+(k-m)=k by lia] at this
   rw [hs];exact this
  ·rw [hs]
   have:∀ i,i<N->G k i*d i=0:=λi hi=>by
    have:G k i=0:=by
     rw [hG]
     split
     ·split
      ·unfold aZ;rw [z0m (by lia)];rfl
      ·rfl
     ·split
      ·unfold aZ;rw [z0m (by lia)];rfl
      ·rfl
    rw [this,g0y]
   have:=aV1 (f:=λi=>G k i*d i) (C:=0) (n:=N) λi hi=>by rw [this i hi];simp
   lia
 obtain ⟨a,b,eq,ha,hb,hz⟩:=e.inv m (by lia) u v (by rw [<- h1];exact du) (by rw [<- h2];exact dv) (λk hk=>by
  show cv u (zc P) k+cv v (zc Qs) k=0
  rw [<- sr,ds k hk,z0k])
 have a0:∀ k,a k=0:=λk=>ha k (by lia)
 have b1:∀ k,1<=k->b k=0:=λk hk=>hb k (by lia)
 have sb:∀ k,(s k:Rat)=b 0*zc Bs k:=λk=>by
  rw [sr,eq,aH7 a0]
  have:cv b (zc Bs) k=cv (λi=>if i=0 then b 0 else 0) (zc Bs) k:=av4 (λi _=>by
   by_cases z:i=0
   ·rw [if_pos z,z]
   ·rw [if_neg z,b1 i (by lia)]) λ_ _=>rfl
  rw [this,am3,if_pos (by simp),u0w];grind
 have bn:b 0 ≠ 0:=λw=>by
  have all:=hz a0 λk=>by
   by_cases z:k=0
   ·rw [z,w]
   ·exact b1 k (by lia)
  by_cases c:i0<n1
  ·have:=(all i0).1
   rw [hu,if_pos c] at this
   exact hd0 (j0k.mp (by rw [this,z0k]))
  ·have:=(all (i0-n1)).2
   rw [hv,if_pos (by lia),show n1+(i0-n1)=i0 by lia] at this
   exact hd0 (j0k.mp (by rw [this,z0k]))
 intro k
 refine z0v (bs9 bn hg sb k) ?_
 rw [hs]
 refine aV1 λi hi=>?_
 rw [z0f]
 exact j0f (Gb k i) (by rw [<- hM];exact hdb i hi)
def bF (c x:Nat):Nat:=(c+1)*(x*(x+1))
theorem bb6 {ws vs:List Int} {g:Nat} (hg:m5 ws=g) (h0:g ≠ 0) (hl:vs.length=ws.length) (h:∀ k,aZ ws k=(g:Int)*aZ vs k):m5 vs=1:=by
 have hd:(g*m5 vs) ∣ m5 ws:=P3 ws 0 (v0v _) λw hw=>by
  obtain ⟨k,hk,ek⟩:=y0q hw
  have h1:=h k
  have h2:aZ ws k=w:=by unfold aZ;rw [q0d hk,ek];rfl
  have h3:aZ vs k=vs[k]'(by lia):=by unfold aZ;rw [q0d ⋯];rfl
  rw [h2,h3] at h1
  rw [h1]
  obtain ⟨e,he⟩:=D3 (v0u (h:=⋯):vs[k]'⋯ ∈ vs)
  exact ⟨e,by rw [he,j0e];grind⟩
 rw [hg] at hd
 obtain ⟨e,he⟩:=hd
 have:g*1=g*(m5 vs*e):=by rw [q1y,<- g0m];exact he
 have:=v0p (by lia) this
 exact u0q.mp ⟨e,this⟩
structure SgS (c d0 L K:Nat) (P0 Q0:List Int) (s t:Rat) (A B:List Int):Prop where
 tA:v2 A A.length
 tB:v2 B B.length
 lA:A.length<=L
 lB:B.length<A.length
 gB:B ≠ []->m5 B=1
 eu:Eu (zc P0) (zc Q0) (zc A) (zc B) P0.length Q0.length A.length B.length
 s0:s ≠ 0
 t0:t ≠ 0
 wA:∀ k,(aZ A k).natAbs<2 ^ (c*(2*(L-A.length)+1))
 wB:∀ k,(aZ B k).natAbs<2 ^ (c*(2*(L-A.length)+1))
 sd:s.den<2 ^ (d0+bF c (L-A.length-1))
 sn:s.num.natAbs<2 ^ (d0+2*bF c (L-A.length-1))
 td:t.den<2 ^ (d0+bF c (L-A.length))
 tn:t.num.natAbs<2 ^ (d0+2*bF c (L-A.length))
theorem W0 {B:List Int} (t:v2 B B.length) (h:0<B.length):aZ B (B.length-1) ≠ 0:=by
 have:=t.last ⋯ _ (q0d ⋯)
 unfold aZ
 rw [q0d ⋯]
 exact this
theorem ab8 (B:List Int):Dg (zc B) B.length:=λk hk=>by
 unfold zc aZ
 rw [z0m hk]
 exact z0k
theorem aT6 {B:List Int} {k:Nat} (h:aZ B k ≠ 0):zc B k ≠ 0:=λw=>h (j0k.mp (by unfold zc at w;rw [w,z0k]))
theorem bn0 {P0 Q0 A B:List Int} {L K c:Nat} (hP:P0.length=L) (hQ:Q0.length+1=L) (kP:∀ k,(aZ P0 k).natAbs<=K) (kQ:∀ k,(aZ Q0 k).natAbs<=K) (hK:1<=K) (hc:2*(2*L-5)*K<=2 ^ c) (hc1:1<=c)
  (eu:Eu (zc P0) (zc Q0) (zc A) (zc B) P0.length Q0.length A.length B.length) (lA:A.length<=L) (lB:B.length<A.length) (tB:v2 B B.length) (gB:B ≠ []->m5 B=1):∀ k,(aZ B k).natAbs<2 ^ (c*(2*(L-A.length)+1)):=by
 intro k
 have cpos:1<=c*(2*(L-A.length)+1):=by
  have:1*1<=c*(2*(L-A.length)+1):=j0f hc1 (by simp)
  omega
 have p1:2 ^ 1<=2 ^ (c*(2*(L-A.length)+1)):=v0q (by simp) cpos
 by_cases h0:B=[]
 ·subst h0
  show (0:Int).natAbs<_
  simp only [q1t];exact Nat.le_of_lt ‹_›
 have bpos:0<B.length:=by
  cases B with
  | nil=>exact absurd rfl h0
  | cons=>simp
 by_cases h1:B.length=1
 ·obtain ⟨v,rfl⟩:∃ v,B=[v]:=by
   match B,h1 with
   | [v],_=>exact ⟨v,rfl⟩
  have g:=gB h0
  have gv:v.natAbs=1:=by
   have:m5 [v]=z0r v 0:=rfl
   rw [this] at g
   simpa using g
  cases k with
  | zero =>
   show v.natAbs<_
   lia
  | succ k =>
   show (0:Int).natAbs<_
   simp only [q1t];exact Nat.le_of_lt ‹_›
 have hb:=Eu.bound (K:=K) eu lB bpos (gB h0) kP kQ hK rfl k
 obtain ⟨N,hN⟩:∃ N,N=2*(L-A.length)+1:=⟨_,rfl⟩
 rw [show (Q0.length-(A.length-1))+(P0.length-(A.length-1))=N by lia] at hb
 rw [<- hN]
 refine q0v hb ?_
 have h2:2*N*K<=2 ^ c:=z0v (v0c _ (by lia)) hc
 have e1:N=(N-1)+1:=by lia
 have h3:(2*N*K) ^ N<=(2 ^ c) ^ N:=u0r h2 _
 rw [<- g0k] at h3
 refine q0f ?_ h3
 have h4:0<(2*N*K) ^ (N-1):=u0p (j0s (by lia) (by lia))
 have h5:0<N*(K*(2*N*K) ^ (N-1)):=j0s (by lia) (j0s ⋯ h4)
 have h6:(2*N*K) ^ N=2*(N*(K*(2*N*K) ^ (N-1))):=by
  conv=>lhs;rw [e1,v0j]
  rw [<- e1]
  generalize (2*N*K) ^ (N-1)=y
  grind
 lia
def FmX (K:q0a) (D:Addr) (H:Hp) (r:Addr) (s:Rat) (ws:List Int):Prop:=∃ rs l,SqT K H r [.ref rs,.ref l]/\SqT K H rs (t7 s)/\H l=some (.lst (ws.map V.int))/\l ≠ D
inductive Fms (K:q0a) (D:Addr) (H:Hp):List V->List (Rat × List Int)->Prop where
 | nil:Fms K D H [] []
 | cons {r:Addr} {s:Rat} {ws:List Int} {xs:List V} {fs:List (Rat × List Int)} (h:FmX K D H r s ws) (t:Fms K D H xs fs):Fms K D H (.ref r :: xs) ((s,ws) :: fs)
theorem as1 {b:Rat} {ws:List Int} (hg:m5 ws=1) {s:Nat->Int} (h:∀ k,(s k:Rat)=b*zc ws k):∃ g:Int,b=(g:Rat):=by
 have hb2:(b.den:Rat)*b=(b.num:Rat):=by
  have h3:(b.den:Rat) ≠ 0:=λw=>b.den_nz (u0c.mp (by rw [w];rfl))
  have h4:b=(b.num:Rat) / (b.den:Rat):=by
   have:=z0u b
   rw [j0n] at this
   exact this.symm
  have h5:=z0n _ h3
  rw [y0j] at h4
  generalize (b.den:Rat)=y at *
  generalize y⁻¹=z at *
  generalize (b.num:Rat)=n at *
  grind
 have e:∀ k,(b.den:Int)*s k=b.num*aZ ws k:=λk=>by
  have h1:=h k
  have h3:(((b.den:Int)*s k:Int):Rat)=((b.num*aZ ws k:Int):Rat):=by
   rw [q0n,q0n,h1,q0x]
   unfold zc
   grind
  exact j0k.mp h3
 have d1:b.den=1:=by
  have:b.den ∣ m5 ws:=P3 ws 0 (v0v _) λw hw=>by
   obtain ⟨k,hk,ek⟩:=y0q hw
   have h1:=e k
   have h2:aZ ws k=w:=by unfold aZ;rw [q0d hk,ek];rfl
   rw [h2] at h1
   have:(b.den:Int) ∣ b.num*w:=⟨s k,by rw [<- h1]⟩
   have h3:b.den ∣ b.num.natAbs*w.natAbs:=by
    have:=j0t.mpr this
    rw [q0k,z0f] at this
    exact this
   exact j0t.mp (by rw [q0k];exact g0j.dvd_of_dvd_mul_left (g0j.symm b.reduced) h3)
  rw [hg] at this
  exact u0q.mp this
 refine ⟨b.num,?_⟩
 rw [<- hb2,d1]
 show b=((1:Nat):Rat)*b
 have:((1:Nat):Rat)=1:=rfl
 rw [this];grind
theorem am9 {ws:List Int} {X:Nat} (h:∀ k,(aZ ws k).natAbs<X):∀ v ∈ ws,z0s v<X:=λv hv=>by
 obtain ⟨k,hk,ek⟩:=y0q hv
 have h2:aZ ws k=v:=by unfold aZ;rw [q0d hk,ek];rfl
 rw [<- h2];exact h k
structure Pf where
 f:Nat->Rat
theorem Pf.ext {a b:Pf} (h:∀ k,a.f k=b.f k):a=b:=by
 cases a;cases b;congr 1;exact funext h
def a8 (c:Rat):Pf:=⟨λk=>if k=0 then c else 0⟩
def aQ1 (a b:Pf):Pf:=⟨cv a.f b.f⟩
def bL5 (a:Pf):Nat->Pf
 | 0=>a8 1
 | n+1=>aQ1 (bL5 a n) a
theorem av3 (c:Rat) (h:Nat->Rat) (k:Nat):cv (λk=>if k=0 then c else 0) h k=c*h k:=by
 rw [am3,if_pos (by simp),u0w]
theorem as4 (c:Rat) (a:Pf) (k:Nat):(aQ1 (a8 c) a).f k=c*a.f k:=av3 c a.f k
instance instPf:Lean.Grind.CommRing Pf where
 add a b:=⟨λk=>a.f k+b.f k⟩
 mul:=aQ1
 neg a:=⟨λk=>- a.f k⟩
 sub a b:=⟨λk=>a.f k-b.f k⟩
 natCast:=⟨λn=>a8 n⟩
 ofNat n:=⟨a8 n⟩
 intCast:=⟨λn=>a8 n⟩
 nsmul:=⟨λn a=>aQ1 (a8 n) a⟩
 zsmul:=⟨λn a=>aQ1 (a8 n) a⟩
 npow:=⟨bL5⟩
 add_zero a:=Pf.ext λk=>by
  show a.f k+(if k=0 then ((0:Nat):Rat) else 0)=a.f k
  have:((0:Nat):Rat)=0:=rfl
  rw [this];split <;> grind
 add_comm a b:=Pf.ext λk=>by show a.f k+b.f k=b.f k+a.f k;grind
 add_assoc a b c:=Pf.ext λk=>by show a.f k+b.f k+c.f k=a.f k+(b.f k+c.f k);grind
 mul_assoc a b c:=Pf.ext λk=>av5 k a.f b.f c.f
 one_mul a:=Pf.ext λk=>by
  show cv (λk=>if k=0 then ((1:Nat):Rat) else 0) a.f k=a.f k
  rw [av3]
  have:((1:Nat):Rat)=1:=rfl
  rw [this];grind
 right_distrib a b c:=Pf.ext λk=>am5 a.f b.f c.f k
 mul_zero a:=Pf.ext λk=>by
  show cv a.f (λk=>if k=0 then ((0:Nat):Rat) else 0) k=(if k=0 then ((0:Nat):Rat) else 0)
  rw [M5,av3]
  have:((0:Nat):Rat)=0:=rfl
  rw [this];split <;> grind
 mul_comm a b:=Pf.ext λk=>M5 a.f b.f k
 mul_one a:=Pf.ext λk=>by
  show cv a.f (λk=>if k=0 then ((1:Nat):Rat) else 0) k=a.f k
  rw [M5,av3]
  have:((1:Nat):Rat)=1:=rfl
  rw [this];grind
 left_distrib a b c:=Pf.ext λk=>by
  show cv a.f (λk=>b.f k+c.f k) k=cv a.f b.f k+cv a.f c.f k
  rw [M5,am5,M5 b.f,M5 c.f]
 zero_mul a:=Pf.ext λk=>by
  show cv (λk=>if k=0 then ((0:Nat):Rat) else 0) a.f k=(if k=0 then ((0:Nat):Rat) else 0)
  rw [av3]
  have:((0:Nat):Rat)=0:=rfl
  rw [this];split <;> grind
 pow_zero a:=Pf.ext λk=>by
  show (if k=0 then (1:Rat) else 0)=if k=0 then ((1:Nat):Rat) else 0
  rfl
 pow_succ a n:=rfl
 ofNat_succ n:=Pf.ext λk=>by
  show (if k=0 then ((n+1:Nat):Rat) else 0)=(if k=0 then (n:Rat) else 0)+(if k=0 then ((1:Nat):Rat) else 0)
  split
  ·rw [u0d]
  ·grind
 neg_add_cancel a:=Pf.ext λk=>by
  show-a.f k+a.f k=if k=0 then ((0:Nat):Rat) else 0
  have:((0:Nat):Rat)=0:=rfl
  rw [this];split <;> grind
 sub_eq_add_neg a b:=Pf.ext λk=>by show a.f k-b.f k=a.f k + - b.f k;grind
 neg_zsmul i a:=Pf.ext λk=>by
  show (aQ1 (a8 ((-i:Int):Rat)) a).f k=- (aQ1 (a8 (i:Rat)) a).f k
  rw [as4,as4,j0z];grind
 intCast_neg i:=Pf.ext λk=>by
  show (if k=0 then ((-i:Int):Rat) else 0)=- (if k=0 then (i:Rat) else 0)
  split
  ·rw [j0z]
  ·grind
theorem C3 (a b:Pf) (k:Nat):(a+b).f k=a.f k+b.f k:=rfl
theorem C2 (a b:Pf) (k:Nat):(a-b).f k=a.f k-b.f k:=rfl
theorem bD9 (a b:Pf) (k:Nat):(a*b).f k=cv a.f b.f k:=rfl
theorem C4 (c:Rat) (a:Pf) (k:Nat):(a8 c*a).f k=c*a.f k:=as4 c a k
theorem v7 (c d:Rat):a8 (c*d)=a8 c*a8 d:=Pf.ext λk=>by
 rw [C4]
 show (if k=0 then c*d else 0)=c*(if k=0 then d else 0)
 split <;> grind
theorem k4:a8 1=1:=Pf.ext λk=>rfl
theorem z5 {c:Rat} (h:c ≠ 0):a8 c*a8 c⁻¹=1:=by rw [<- v7,z0n _ h,k4]
theorem C7 (c:Rat):a8 (-c)=- a8 c:=Pf.ext λk=>by
 show (if k=0 then -c else 0)=- (if k=0 then c else 0)
 split <;> grind
def zp (ws:List Int):Pf:=⟨zc ws⟩
theorem aN9:zp []=0:=Pf.ext λk=>by
 show zc [] k=(if k=0 then ((0:Nat):Rat) else 0)
 cases k with
 | zero=>rfl
 | succ k=>rfl
theorem t4 (k:Nat):(0:Pf).f k=0:=by
 show (if k=0 then ((0:Nat):Rat) else 0)=0
 have:((0:Nat):Rat)=0:=rfl
 rw [this];split <;> rfl
theorem B7 (k:Nat):(1:Pf).f k=if k=0 then 1 else 0:=rfl
structure Ev (p q A B fa ha fb hb:Pf) (lp lq la lb:Nat):Prop where
 inv:∀ m,m<la->∀ u v:Pf,Dg u.f (lq-m)->Dg v.f (lp-m)->Dg (u*p+v*q).f m ->
  ∃ a b:Pf,u=a*fa+b*fb/\v=a*ha+b*hb/\Dg a.f (lb-m)/\Dg b.f (la-m)
 idA:A=fa*p+ha*q
 idB:B=fb*p+hb*q
 cr:∃ δ:Rat,δ ≠ 0/\a8 δ*p=hb*A-ha*B/\a8 δ*q=fa*B-fb*A
 le:la<=max lp lq
theorem bG9 {g:Int} (g0:(g:Rat) ≠ 0) {x y:Int} (h:(y:Rat)=(g:Rat)*(x:Rat)):x.natAbs<=y.natAbs:=by
 have e:y=g*x:=j0k.mp (by rw [h,q0n])
 have:g ≠ 0:=λz=>g0 (by rw [z];rfl)
 rw [e,z0f]
 exact y0u _ (by lia)
theorem bh4:∀ n:Nat,2<=n->∃ p,2<=p/\p ∣ n/\∀ d,d ∣ p->d=1 \/ d=p:=by
 intro n
 induction n using Nat.strongRecOn with
 | ind n ih =>
  intro h
  by_cases c:∃ d,d ∣ n/\d ≠ 1/\d ≠ n
  ·obtain ⟨d,d1,d2,d3⟩:=c
   have dle:=v0n (by exact Nat.le_of_lt ‹_›) d1
   have d0:d ≠ 0:=λz=>by rw [z] at d1;have:=q1n d1;lia
   obtain ⟨p,p1,p2,p3⟩:=ih d (by lia) (by lia)
   exact ⟨p,p1,m0q p2 d1,p3⟩
  ·refine ⟨n,h,j1c _,λd hd=>?_⟩
   by_cases e1:d=1
   ·exact .inl e1
   ·by_cases e2:d=n
    ·exact .inr e2
    ·exact absurd ⟨d,hd,e1,e2⟩ c
theorem ba5 {p:Nat} (hp:∀ d,d ∣ p->d=1 \/ d=p) {a b:Int} (h:(p:Int) ∣ a*b):(p:Int) ∣ a \/ (p:Int) ∣ b:=by
 have h1:p ∣ a.natAbs*b.natAbs:=by
  have:=j0t.mpr h
  rwa [q0k,z0f] at this
 rcases hp _ (Nat.gcd_dvd_left p a.natAbs) with g | g
 ·right
  exact j0t.mp (by rw [q0k];exact g0j.dvd_of_dvd_mul_left g h1)
 ·left
  have:=Nat.gcd_dvd_right p a.natAbs
  rw [g] at this
  exact j0t.mp (by rw [q0k];exact this)
theorem bn7 {p:Int} {f:Nat->Int}:∀ {n},(∀ i,i<n->p ∣ f i)->p ∣ sZ f n
 | 0,_=>⟨0,by simp [sZ]⟩
 | n+1,h=>by rw [sZ];exact Int.dvd_add (bn7 λi hi=>h i ⋯) (h n ⋯)
theorem aN1 {p:Int} {f:Nat->Int} {j:Nat}:∀ {n},j<n->(∀ i,i<n->i ≠ j->p ∣ f i)->p ∣ sZ f n->p ∣ f j
 | 0,h,_,_=>⋯
 | n+1,h,ha,hs=>by
  rw [sZ] at hs
  by_cases e:j=n
  ·subst e
   exact (Int.dvd_add_right (bn7 λi hi=>ha i (by exact Nat.lt_succ_of_lt ‹_›) (by lia))).mp hs
  ·exact aN1 (n:=n) (by lia) (λi hi=>ha i (by exact Nat.lt_succ_of_lt ‹_›)) ((Int.dvd_add_left (ha n (by simp) (λz=>e z.symm))).mp hs)
theorem bv1 {p:Nat} (hp2:2<=p) (hp:∀ d,d ∣ p->d=1 \/ d=p) {Q:List Int} (hg:m5 Q=1) {V:Nat->Int} {n:Nat} (hV:∀ k,n<=k->V k=0) (h:∀ k,(p:Int) ∣ sZ (λi=>V i*aZ Q (k-i)) (k+1)):∀ k,(p:Int) ∣ V k:=by
 obtain ⟨j,j1,j2⟩:∃ j,¬ (p:Int) ∣ aZ Q j/\∀ i,j<i->(p:Int) ∣ aZ Q i:=by
  have key:∀ m,(∀ i,m<=i->(p:Int) ∣ aZ Q i)->∃ j,¬ (p:Int) ∣ aZ Q j/\∀ i,j<i->(p:Int) ∣ aZ Q i:=by
   intro m
   induction m with
   | zero =>
    intro hm
    have:p ∣ m5 Q:=P3 Q 0 (v0v _) λw hw=>by
     obtain ⟨k,hk,ek⟩:=y0q hw
     have h2:aZ Q k=w:=by unfold aZ;rw [q0d hk,ek];rfl
     rw [<- h2];exact hm k (by simp)
    rw [hg] at this
    have:=u0q.mp this
    omega
   | succ m ih =>
    intro hm
    by_cases c:(p:Int) ∣ aZ Q m
    ·exact ih λi hi=>by
      by_cases e:i=m
      ·rw [e];exact c
      ·exact hm i (by lia)
    ·exact ⟨m,c,λi hi=>hm i hi⟩
  exact key Q.length λi hi=>by unfold aZ;rw [z0m hi];exact ⟨0,by simp⟩
 have key:∀ t,∀ k,n-t<=k->(p:Int) ∣ V k:=by
  intro t
  induction t with
  | zero=>intro k hk;rw [hV k ⋯];exact ⟨0,by simp⟩
  | succ t ih =>
   intro k hk
   by_cases c:n-t<=k
   ·exact ih k c
   have:=aN1 (p:=(p:Int)) (f:=λi=>V i*aZ Q (k+j-i)) (j:=k) (n:=k+j+1) (by lia) (λi hi hne=>by
    by_cases z:i<k
    ·obtain ⟨y,hy⟩:=j2 (k+j-i) (by lia)
     exact ⟨V i*y,by show V i*aZ Q (k+j-i)=_;rw [hy];grind⟩
    ·obtain ⟨y,hy⟩:=ih i (by lia)
     exact ⟨y*aZ Q (k+j-i),by show V i*aZ Q (k+j-i)=_;rw [hy];grind⟩) (h (k+j))
   have h2:(p:Int) ∣ V k*aZ Q j:=by
    have e:k+j-k=j:=by simp
    rw [e] at this;exact this
   rcases ba5 hp h2 with z | z
   ·exact z
   ·exact absurd z j1
 exact λk=>key n k (by simp)
theorem bg4 (c:Int) (f:Nat->Int):∀ n,sZ (λi=>c*f i) n=c*sZ f n
 | 0=>by simp [sZ]
 | n+1=>by rw [sZ,sZ,bg4 c f n];grind
theorem bv0 {Q:List Int} (hg:m5 Q=1) {n:Nat}:∀ (d:Nat),0<d->∀ V:Nat->Int,(∀ k,n<=k->V k=0)->(∀ k,(d:Int) ∣ sZ (λi=>V i*aZ Q (k-i)) (k+1))->∀ k,(d:Int) ∣ V k:=by
 intro d
 induction d using Nat.strongRecOn with
 | ind d ih =>
  intro d0 V hV h
  by_cases d1:d=1
  ·intro k;rw [d1];exact ⟨V k,by simp⟩
  obtain ⟨p,p2,⟨e,he⟩,pp⟩:=bh4 d (by lia)
  have e0:0<e:=Nat.pos_of_ne_zero λz=>by rw [z] at he;lia
  have ed:e<d:=by
   have:2*e<=p*e:=v0c _ p2
   lia
  have all:=bv1 p2 pp hg hV λk=>z1s ⟨(e:Int),by rw [he,j0e]⟩ (h k)
  have pz:(p:Int) ≠ 0:=⋯
  obtain ⟨V',hV'⟩:∃ V':Nat->Int,∀ k,V k=(p:Int)*V' k:=⟨λk=>V k / (p:Int),λk=>(z1k (all k)).symm⟩
  have r:=ih e ed e0 V' (λk hk=>by
   have h1:=hV' k
   rw [hV k hk] at h1
   rcases Int.mul_eq_zero.mp h1.symm with z | z
   ·exact absurd z pz
   ·exact z) λk=>by
    have h1:=h k
    have h2:sZ (λi=>V i*aZ Q (k-i)) (k+1)=(p:Int)*sZ (λi=>V' i*aZ Q (k-i)) (k+1):=by
     rw [<- bg4]
     exact ar7 λi _=>by rw [hV' i];grind
    rw [h2,he,j0e] at h1
    exact Int.dvd_of_mul_dvd_mul_left pz h1
  intro k
  obtain ⟨y,hy⟩:=r k
  exact ⟨y,by rw [hV' k,hy,he,j0e];grind⟩
theorem aS1 (h:Nat->Rat):∀ n,∃ D:Nat,0<D/\∀ k,k<n->∃ y:Int,(D:Rat)*h k=(y:Rat)
 | 0=>⟨1,⋯,λk hk=>⋯⟩
 | n+1=>by
  obtain ⟨D,D0,hD⟩:=aS1 h n
  refine ⟨D*(h n).den,j0s D0 (h n).den_pos,λk hk=>?_⟩
  have hn:((h n).den:Rat)*h n=((h n).num:Rat):=by
   have h3:((h n).den:Rat) ≠ 0:=λw=>(h n).den_nz (u0c.mp (by rw [w];rfl))
   have h4:h n=((h n).num:Rat) / ((h n).den:Rat):=by
    have:=z0u (h n)
    rw [j0n] at this
    exact this.symm
   have h5:=z0n _ h3
   rw [y0j] at h4
   generalize ((h n).den:Rat)=y at *
   generalize y⁻¹=z at *
   generalize ((h n).num:Rat)=n at *
   grind
  by_cases e:k=n
  ·subst e
   exact ⟨(D:Int)*(h k).num,by rw [y0s,q0n,<- hn,q0x];grind⟩
  ·obtain ⟨y,hy⟩:=hD k (by lia)
   exact ⟨((h n).den:Int)*y,by rw [y0s,q0n,<- hy,q0x];grind⟩
theorem bM4 {Q:List Int} (hg:m5 Q=1) {h:Pf} {n:Nat} (hd:Dg h.f n) {z:Nat->Int} (e:∀ k,(h*zp Q).f k=(z k:Rat)):∃ y:Nat->Int,∀ k,h.f k=(y k:Rat):=by
 obtain ⟨D,D0,hD⟩:=aS1 h.f n
 have DR:(D:Rat) ≠ 0:=λw=>by
  have:=u0c.mp (show (D:Rat)=((0:Nat):Rat) by rw [w];rfl)
  omega
 obtain ⟨V,hV⟩:∃ V:Nat->Int,∀ k,(D:Rat)*h.f k=(V k:Rat):=by
  have:∀ k,∃ y:Int,(D:Rat)*h.f k=(y:Rat):=λk=>by
   by_cases c:k<n
   ·exact hD k c
   ·exact ⟨0,by rw [hd k (by exact Nat.not_lt.mp ‹_›),z0k];grind⟩
  exact ⟨λk=>Classical.choose (this k),λk=>Classical.choose_spec (this k)⟩
 have all:=bv0 hg (n:=n) D D0 V (λk hk=>by
  have h1:=hV k
  rw [hd k hk] at h1
  exact j0k.mp (by rw [<- h1,z0k];grind)) λk=>by
   refine ⟨z k,j0k.mp ?_⟩
   rw [aq7,q0n,<- e k,bD9]
   show _=_*cv h.f (zc Q) k
   unfold cv
   rw [q0x,F3]
   exact i4 λi _=>by
    rw [q0n,<- hV]
    unfold zc
    grind
 refine ⟨λk=>Classical.choose (all k),λk=>?_⟩
 have h1:V k=(D:Int)*Classical.choose (all k):=Classical.choose_spec (all k)
 have h2:=hV k
 rw [h1,q0n,q0x] at h2
 have:=z0n _ DR
 generalize (D:Rat)⁻¹=di at *
 generalize (D:Rat)=d0 at *
 generalize ((Classical.choose (all k):Int):Rat)=y at *
 grind
theorem ad6 {f g:Nat->Rat} {a b:Nat} (hf:Dg f (a+1)) (hg:Dg g (b+1)):cv f g (a+b)=f a*g b:=by
 unfold cv
 have:i6 (λi=>f i*g (a+b-i)) (a+b+1)=i6 (λi=>if i=a then f a*g b else 0) (a+b+1):=i4 λi _=>by
  by_cases z:i=a
  ·rw [if_pos z,z,q1m]
  ·rw [if_neg z]
   by_cases y:i<a
   ·rw [hg _ (by lia)];grind
   ·rw [hf i (by lia)];grind
 rw [this,L6,if_pos (by lia)]
def ExZ (one other:List Int):Prop:=∃ (V:Nat->Int) (n:Nat),(∀ k,n<=k->V k=0)/\∀ k,zc one k=cv (λi=>(V i:Rat)) (zc other) k
theorem bk3 {one other Qz Rz:List Int} {n t:Nat} (hx:ExZ one other) (dv:Dv one other Qz Rz 1) (ho:other.length=n+1) (h0:aZ other n ≠ 0) (hr:Rz.length=n+1+t):aZ other n ∣ aZ Rz (t+n):=by
 obtain ⟨V,nv,hV,e⟩:=hx
 obtain ⟨D,hD⟩:∃ D:Pf,D=⟨λi=>(V i:Rat)⟩ - zp Qz:=⟨_,rfl⟩
 have eD:D*zp other=zp Rz:=by
  have e1:zp one=⟨λi=>(V i:Rat)⟩*zp other:=Pf.ext e
  have e2:zp one=zp Qz*zp other+zp Rz:=Pf.ext λk=>by
   have:=dv k
   rw [show ((1:Int):Rat)=1 from rfl] at this
   show zc one k=cv (zc Qz) (zc other) k+zc Rz k
   rw [<- this];grind
  rw [hD]
  generalize (⟨λi=>(V i:Rat)⟩:Pf)=x at *
  grind
 have dD:Dg D.f (max nv Qz.length):=λk hk=>by
  rw [hD,C2]
  show (V k:Rat)-zc Qz k=0
  rw [hV k (by lia),ab8 Qz k (by lia),z0k];grind
 have oD:Dg (zc other) (n+1):=by rw [<- ho];exact ab8 other
 have back:Dg D.f (t+1):=by
  have:=aH4 (f:=D.f) (B:=zc other) (N:=n+1+t) dD oD (aT6 h0) (λk hk=>by
   have:(D*zp other).f k=(zp Rz).f k:=by rw [eD]
   rw [show cv D.f (zc other) k=(D*zp other).f k from rfl,this]
   exact ab8 Rz k (by lia))
  rwa [show n+1+t-n=t+1 by lia] at this
 have top:=ad6 back oD
 have h1:zc Rz (t+n)=D.f t*zc other n:=by
  rw [<- top,show cv D.f (zc other) (t+n)=(D*zp other).f (t+n) from rfl,eD];rfl
 refine ⟨V t-aZ Qz t,j0k.mp ?_⟩
 have h2:D.f t=(V t:Rat)-zc Qz t:=by rw [hD];rfl
 rw [h2] at h1
 unfold zc at h1
 rw [h1,q0n,g0x];grind
theorem bA5 (a b:List Int):zp (aL5 a b)=zp a*zp b:=Pf.ext λk=>by
 show zc (aL5 a b) k=cv (zc a) (zc b) k
 rw [bd7 (aL5 a b),bd7 a,bd7 b,<- aY7,<- br9]
 have:(1:Rat)*1=1:=by trivial
 rw [this]
theorem bA7 {a b:List Int} (ta:v2 a a.length) (tb:v2 b b.length) (h:∀ k,aZ a k=aZ b k):a=b:=by
 have le:∀ {a b:List Int},v2 b b.length->(∀ k,aZ a k=aZ b k)->b.length<=a.length:=fun {a b} tb h=>by
  rcases y0v a.length b.length with z | z
  ·have h1:=W0 tb (by lia)
   rw [<- h] at h1
   exact absurd (by unfold aZ;rw [z0m ⋯];rfl) h1
  ·exact z
 have l1:=le tb h
 have l2:=le ta λk=>(h k).symm
 refine List.ext_getElem (by lia) λk h1 h2=>?_
 have:=h k
 unfold aZ at this
 rw [q0d h1,q0d h2] at this
 exact this
theorem bA6 {a b:List Int} (h:zp a=zp b) (k:Nat):aZ a k=aZ b k:=j0k.mp (congrArg (λz=>Pf.f z k) h)
def fz (v:Nat->Int):Pf:=⟨λk=>(v k:Rat)⟩
theorem af4 {z:Int} (h:z ≠ 0):(z:Rat) ≠ 0:=λw=>h (j0k.mp (by rw [w,z0k]))
def wL (c L la:Nat):Nat:=c*(2*(L+1-la))
structure LC (P0 Q0:List Int) (K c L:Nat):Prop where
 tP:v2 P0 P0.length
 tQ:v2 Q0 Q0.length
 lp:P0.length<=L
 lq:Q0.length<=L
 kP:∀ k,(aZ P0 k).natAbs<=K
 kQ:∀ k,(aZ Q0 k).natAbs<=K
 k1:1<=K
 l1:1<=L
 hc:4*L*K<=2 ^ c
structure LS (P0 Q0:List Int) (c L w:Nat) (A Fa B Fb:List Int) (ha hb:Pf):Prop where
 ev:Ev (zp P0) (zp Q0) (zp A) (zp B) (zp Fa) ha (zp Fb) hb P0.length Q0.length A.length B.length
 tA:v2 A A.length
 tB:v2 B B.length
 lA:A.length<=L
 lB:B.length<=L
 st:(A=P0/\B=Q0/\Fa=[1]/\Fb=[]/\ha=0/\hb=1/\w=c) \/ (B.length<A.length/\A.length<=Q0.length/\w=wL c L A.length)
 bA:∀ k,(aZ A k).natAbs<2 ^ w
 bFa:∀ k,(aZ Fa k).natAbs<2 ^ w
 bB:B ≠ []->∀ k,(aZ B k).natAbs<2 ^ w
 bFb:B ≠ []->∀ k,(aZ Fb k).natAbs<2 ^ w
 hA:∀ k (z:Int),ha.f k=(z:Rat)->z.natAbs<2 ^ w
 hB:B ≠ []->∀ k (z:Int),hb.f k=(z:Rat)->z.natAbs<2 ^ w
 dA:∃ n,Dg ha.f n
 dB:∃ n,Dg hb.f n
 lFa:Fa.length<=max 1 (Q0.length+1-A.length)
 lFb:Fb.length<=Q0.length+1-A.length
 tFa:v2 Fa Fa.length
 tFb:v2 Fb Fb.length
theorem bm8 {ws:List Int} {g:Nat} (hg:g ≠ 0) (h:∀ v ∈ ws,(g:Int) ∣ v) (k:Nat):aZ ws k=(g:Int)*aZ (ws.map λv=>v.fdiv (g:Int)) k:=by
 have gi:(g:Int) ≠ 0:=by lia
 unfold aZ
 rw [q0r]
 cases hk:ws[k]? with
 | none=>simp
 | some v =>
  obtain ⟨y,hy⟩:=h v (q0p hk)
  have h1:v.fdiv (g:Int)=y:=by
   conv=>lhs;arg 1;rw [hy]
   exact p7 gi
  show v=(g:Int)*v.fdiv (g:Int)
  rw [h1];exact hy
theorem aT8 {ws vs:List Int} {g:Int} (t:v2 ws ws.length) (hl:vs.length=ws.length) (h:∀ k,aZ ws k=g*aZ vs k):v2 vs vs.length:=by
 refine ⟨q0q _,(λi v hi e=>by rw [z0m hi] at e;cases e),λh0 v hv z=>?_⟩
 have h1:=W0 t (by lia)
 rw [h,<- hl] at h1
 have:aZ vs (vs.length-1)=v:=by unfold aZ;rw [hv];rfl
 rw [this,z,Int.mul_zero] at h1
 exact h1 rfl
structure LRes (P0 Q0 A F:List Int) (w L c:Nat):Prop where
 tA:v2 A A.length
 nA:A ≠ []
 lA:A.length<=L
 lF:F.length<=L
 lF2:F.length<=max 1 (Q0.length+1-A.length)
 tF:v2 F F.length
 bA:∀ k,(aZ A k).natAbs<2 ^ w
 bF:∀ k,(aZ F k).natAbs<2 ^ w
 bA2:∀ k,(aZ A k).natAbs<2 ^ wL c L A.length
 idA:∃ h:Pf,(∃ n,Dg h.f n)/\zp A=zp F*zp P0+h*zp Q0/\∀ k (z:Int),h.f k=(z:Rat)->z.natAbs<2 ^ w
 p1:∃ (κ:Rat) (v:Nat->Int),(∃ n,∀ k,n<=k->v k=0)/\zp P0=a8 κ*(fz v*zp A)/\(∀ k,(v k).natAbs<2 ^ wL c L A.length)/\κ.num.natAbs<2 ^ c/\κ.den<2 ^ (wL c L A.length+wL c L A.length)
 q1:∃ (κ:Rat) (v:Nat->Int),(∃ n,∀ k,n<=k->v k=0)/\zp Q0=a8 κ*(fz v*zp A)/\(∀ k,(v k).natAbs<2 ^ wL c L A.length)/\κ.num.natAbs<2 ^ c/\κ.den<2 ^ (wL c L A.length+wL c L A.length)
 q0:Q0=[]->A=P0/\F=[1]
def OvP (B W:Nat) (p:Pf):Prop:=∀ k,OvB B W (p.f k)
theorem OvP.mono {B V W:Nat} {p:Pf} (h:OvP B V p) (l:V<=W):OvP B W p:=λk=>(h k).mono l
theorem OvP.mul {B C V W n:Nat} (hB:0<B) (hC:0<C) {p q:Pf} (hp:OvP B V p) (hq:OvP C W q) (dp:Dg p.f n):OvP (B*C) (V+W+n) (p*q):=λk=>by
 have e:(p*q).f k=i6 (λi=>p.f i*if i<=k then q.f (k-i) else 0) n:=aH8 dp q.f k
 rw [e]
 refine aV6 (j0s hB hC) (λi=>?_) n
 split
 ·exact (hp i).mul (hq _)
 ·have:p.f i*0=0:=by grind
  rw [this];exact OvB.zero _ _
def qp (l:List Rat):Pf:=⟨aQ l⟩
theorem bD2 (s:Rat) (ws:List Int):qp (scl s ws)=a8 s*zp ws:=Pf.ext λk=>by
 rw [C4]
 show aQ (scl s ws) k=s*zc ws k
 rw [bq2];rfl
theorem bD3 (p q:List Rat):qp (T7 p q)=qp p*qp q:=Pf.ext λk=>aY7 p q k
theorem az6 (l:List Rat):Dg (qp l).f l.length:=λk hk=>by
 show aQ l k=0
 unfold aQ;rw [z0m hk];rfl
theorem bg9 {B W:Nat} {l:List Rat} (h:∀ x ∈ l,OvB B W x):OvP B W (qp l):=λk=>by
 show OvB B W (aQ l k)
 unfold aQ
 cases hk:l[k]? with
 | none=>exact OvB.zero _ _
 | some x=>exact h x (q0p hk)
theorem bE2 {B W:Nat} {l:List Rat} (h:OvP B W (qp l)):∀ x ∈ l,OvB B W x:=λx hx=>by
 obtain ⟨k,hk,e⟩:=y0q hx
 have:=h k
 have e2:(qp l).f k=x:=by
  show aQ l k=x
  unfold aQ;rw [q0d hk,e];rfl
 rw [e2] at this;exact this
def fld (M:List (List Rat)) (last:List Rat):Nat->Pf × Pf
 | 0=>(qp last,0)
 | n+1=>(qp ((M[M.length-1-n]?).getD [])*(fld M last n).1+(fld M last n).2,(fld M last n).1)
def dP (p:Pf):Pf:=⟨λk=>((k+1:Nat):Rat)*p.f (k+1)⟩
theorem ah8 (p q:Pf):dP (p*q)=dP p*q+p*dP q:=Pf.ext λk=>by
 show ((k+1:Nat):Rat)*cv p.f q.f (k+1)=cv (λi=>((i+1:Nat):Rat)*p.f (i+1)) q.f k+cv p.f (λi=>((i+1:Nat):Rat)*q.f (i+1)) k
 unfold cv
 rw [F3,i4 (g:=λi=>((i:Nat):Rat)*(p.f i*q.f (k+1-i))+((k+1-i:Nat):Rat)*(p.f i*q.f (k+1-i))) λi hi=>?_,<- N4]
 ·congr 1
  ·rw [G1]
   have h0:(((0:Nat)):Rat)=0:=rfl
   simp only [h0]
   rw [i4 (g:=λi=>((i+1:Nat):Rat)*p.f (i+1)*q.f (k-i)) λi hi=>?_]
   ·grind
   ·show ((i+1:Nat):Rat)*(p.f (i+1)*q.f (k+1-(i+1)))=_
    rw [show k+1-(i+1)=k-i by omega];grind
  ·rw [show k+1+1=(k+1)+1 from rfl]
   show i6 _ (k+1)+((k+1-(k+1):Nat):Rat)*(p.f (k+1)*q.f (k+1-(k+1)))=_
   have h0:(((k+1-(k+1):Nat)):Rat)=0:=by rw [u0x];rfl
   rw [h0,i4 (g:=λi=>p.f i*(((k-i+1:Nat):Rat)*q.f (k-i+1))) λi hi=>?_]
   ·grind
   ·show ((k+1-i:Nat):Rat)*(p.f i*q.f (k+1-i))=_
    rw [show k+1-i=k-i+1 by lia];grind
 ·have:((k+1:Nat):Rat)=((i:Nat):Rat)+((k+1-i:Nat):Rat):=by
   rw [<- u0d];congr 1;omega
  rw [this];grind
theorem bI9 (p q:Pf):dP (p+q)=dP p+dP q:=Pf.ext λk=>by
 show _*(p.f (k+1)+q.f (k+1))=_*p.f (k+1)+_*q.f (k+1);grind
theorem aH6 (c:Rat):dP (a8 c)=0:=Pf.ext λk=>by
 show _*(if k+1=0 then c else 0)=(0:Pf).f k
 rw [if_neg (by simp),t4];grind
theorem aS3:dP 1=0:=by rw [<- k4];exact aH6 1
theorem bP1 (c:Rat) (p:Pf):dP (a8 c*p)=a8 c*dP p:=by
 have h:=aH6 c
 rw [ah8];grind
def Fn (p:Pf):Prop:=∃ n,Dg p.f n
theorem Fn.mul {p q:Pf} (h:Fn p) (k:Fn q):Fn (p*q):=by
 obtain ⟨m,hm⟩:=h
 obtain ⟨n,hn⟩:=k
 exact ⟨_,hm.cv hn⟩
theorem Fn.add {p q:Pf} (h:Fn p) (k:Fn q):Fn (p+q):=by
 obtain ⟨m,hm⟩:=h
 obtain ⟨n,hn⟩:=k
 exact ⟨max m n,λi hi=>by show p.f i+q.f i=0;rw [hm i (by lia),hn i (by lia)];grind⟩
theorem Fn.sub {p q:Pf} (h:Fn p) (k:Fn q):Fn (p-q):=by
 obtain ⟨m,hm⟩:=h
 obtain ⟨n,hn⟩:=k
 exact ⟨max m n,λi hi=>by show p.f i-q.f i=0;rw [hm i ⋯,hn i ⋯];grind⟩
theorem v5 (c:Rat):Fn (a8 c):=⟨1,λi hi=>by show (if i=0 then c else 0)=0;rw [if_neg ⋯]⟩
theorem D8:Fn 1:=by rw [<- k4];exact v5 1
theorem F9:Fn 0:=⟨0,λi _=>t4 i⟩
theorem Fn.d {p:Pf} (h:Fn p):Fn (dP p):=by
 obtain ⟨m,hm⟩:=h
 exact ⟨m,λi hi=>by show _*p.f (i+1)=0;rw [hm (i+1) (by lia)];grind⟩
theorem bz4 (ws:List Int):Fn (zp ws):=⟨_,ab8 ws⟩
theorem bz5 (l:List Rat):Fn (qp l):=⟨_,az6 l⟩
def Cop (p q:Pf):Prop:=∃ u v,Fn u/\Fn v/\u*p+v*q=1
theorem Cop.symm {p q:Pf} (h:Cop p q):Cop q p:=by
 obtain ⟨u,v,hu,hv,e⟩:=h
 exact ⟨v,u,hv,hu,by grind⟩
theorem aH9 (p:Pf):Cop p 1:=⟨0,1,F9,D8,by grind⟩
theorem Cop.mul {a b c:Pf} (fa:Fn a) (fb:Fn b) (fc:Fn c) (h:Cop a b) (k:Cop a c):Cop a (b*c):=by
 obtain ⟨u,v,hu,hv,e⟩:=h
 obtain ⟨u',v',hu',hv',e'⟩:=k
 refine ⟨u*u'*a+u*v'*c+v*b*u',v*v',(((hu.mul hu').mul fa).add ((hu.mul hv').mul fc)).add ((hv.mul fb).mul hu'),hv.mul hv',?_⟩
 have:(u*a+v*b)*(u'*a+v'*c)=1:=by rw [e,e'];grind
 grind
theorem Cop.addl {a b c:Pf} (fc:Fn c) (h:Cop a b):Cop a (b+a*c):=by
 obtain ⟨u,v,hu,hv,e⟩:=h
 exact ⟨u-v*c,v,hu.sub (hv.mul fc),hv,by grind⟩
theorem Cop.scale {a b:Pf} {c:Rat} (hc:c ≠ 0) (h:Cop a b):Cop a (a8 c*b):=by
 obtain ⟨u,v,hu,hv,e⟩:=h
 have ec:=z5 hc
 exact ⟨u,v*a8 c⁻¹,hu,hv.mul (v5 _),by grind⟩
def TF:List (Pf × Nat)->Prop
 | []=>True
 | x :: r=>Fn x.1/\Cop x.1 (dP x.1)/\(∀ y ∈ r,Cop x.1 y.1)/\TF r
def aP:List (Pf × Nat)->Nat->Pf
 | [],_=>1
 | x :: r,j=>if j<=x.2 then x.1*aP r j else aP r j
def sP:List (Pf × Nat)->Nat->Pf
 | [],_=>0
 | x :: r,j=>if j<=x.2 then a8 ((x.2+1-j:Nat):Rat)*(dP x.1*aP r j)+x.1*sP r j else sP r j
def eP:List (Pf × Nat)->Nat->Pf
 | [],_=>1
 | x :: r,j=>if x.2=j then x.1*eP r j else eP r j
def wP (q:Pf):Nat->Pf
 | 0=>1
 | n+1=>q*wP q n
def fP:List (Pf × Nat)->Pf
 | []=>1
 | x :: r=>wP x.1 x.2*fP r
def gP1:List (Pf × Nat)->Pf
 | []=>1
 | x :: r=>wP x.1 (x.2-1)*gP1 r
theorem au8:∀ {fs:List (Pf × Nat)},(∀ x ∈ fs,Fn x.1)->∀ j,Fn (aP fs j)
 | [],_,_=>D8
 | x :: r,h,j=>by
  unfold aP
  have hr:=au8 (fs:=r) (λy hy=>h y (q0b _ hy)) j
  split
  ·exact (h x q0c).mul hr
  ·exact hr
theorem aM8:∀ {fs:List (Pf × Nat)},(∀ x ∈ fs,Fn x.1)->∀ j,Fn (sP fs j)
 | [],_,_=>F9
 | x :: r,h,j=>by
  unfold sP
  have hx:=h x q0c
  have hr:=aM8 (fs:=r) (λy hy=>h y (q0b _ hy)) j
  have ha:=au8 (fs:=r) (λy hy=>h y (q0b _ hy)) j
  split
  ·exact ((v5 _).mul (hx.d.mul ha)).add (hx.mul hr)
  ·exact hr
theorem TF.fn:∀ {fs:List (Pf × Nat)},TF fs->∀ x ∈ fs,Fn x.1
 | [],_,x,hx=>by simp at hx
 | y :: r,h,x,hx=>by
  rcases z0a.mp hx with z | z
  ·rw [z];exact h.1
  ·exact TF.fn h.2.2.2 x z
theorem aS6 {q:Pf} (fq:Fn q):∀ {fs:List (Pf × Nat)},(∀ x ∈ fs,Fn x.1)->(∀ x ∈ fs,Cop q x.1)->∀ j,Cop q (aP fs j)
 | [],_,_,_=>aH9 q
 | x :: r,h,k,j=>by
  unfold aP
  have fr:=au8 (fs:=r) (λy hy=>h y (q0b _ hy)) j
  have hr:=aS6 fq (fs:=r) (λy hy=>h y (q0b _ hy)) (λy hy=>k y (q0b _ hy)) j
  split
  ·exact Cop.mul fq (h x q0c) fr (k x q0c) hr
  ·exact hr
theorem aI6:∀ {fs:List (Pf × Nat)},TF fs->∀ j,Cop (aP fs j) (sP fs j)
 | [],_,_=>(aH9 _).symm
 | x :: r,h,j=>by
  obtain ⟨fx,cx,ca,hr⟩:=h
  have ih:=aI6 hr j
  have fr:=hr.fn
  unfold aP sP
  split
  ·rename_i hj
   have wz:((x.2+1-j:Nat):Rat) ≠ 0:=λz=>by
    have z':((x.2+1-j:Nat):Rat)=((0:Nat):Rat):=z
    have:=u0c.mp z'
    omega
   have FA:=au8 fr j
   have FS:=aM8 fr j
   have cR:=aS6 fx fr ca j
   have k1:Cop x.1 (a8 ((x.2+1-j:Nat):Rat)*(dP x.1*aP r j)+x.1*sP r j):=Cop.addl FS ((Cop.mul fx fx.d FA cx cR).scale wz)
   have k2:Cop (aP r j) (x.1*sP r j+aP r j*(a8 ((x.2+1-j:Nat):Rat)*dP x.1)):=Cop.addl ((v5 _).mul fx.d) (Cop.mul FA fx FS cR.symm ih)
   have e:x.1*sP r j+aP r j*(a8 ((x.2+1-j:Nat):Rat)*dP x.1)=a8 ((x.2+1-j:Nat):Rat)*(dP x.1*aP r j)+x.1*sP r j:=by grind
   rw [e] at k2
   have FT:Fn (a8 ((x.2+1-j:Nat):Rat)*(dP x.1*aP r j)+x.1*sP r j):=((v5 _).mul (fx.d.mul FA)).add (fx.mul FS)
   exact (Cop.mul FT fx FA k1.symm k2.symm).symm
  ·exact ih
theorem bA4:∀ (fs:List (Pf × Nat)) (j:Nat),aP fs j=eP fs j*aP fs (j+1)
 | [],_=>by show (1:Pf)=1*1;grind
 | x :: r,j=>by
  have ih:=bA4 r j
  unfold aP eP
  by_cases h1:x.2=j
  ·rw [if_pos h1,if_pos (by lia),if_neg (by lia),ih];grind
  ·rw [if_neg h1]
   by_cases h2:j<=x.2
   ·rw [if_pos h2,if_pos (by lia),ih];grind
   ·rw [if_neg h2,if_neg (by lia),ih]
theorem bK9:∀ (fs:List (Pf × Nat)) (j:Nat),sP fs j-dP (aP fs j)=eP fs j*sP fs (j+1)
 | [],_=>by
  show (0:Pf)-dP 1=1*0
  rw [aS3];grind
 | x :: r,j=>by
  have ih:=bK9 r j
  have ia:=bA4 r j
  unfold aP eP sP
  by_cases h1:x.2=j
  ·rw [if_pos h1,if_pos ⋯,if_pos ⋯,if_neg ⋯,ah8,show x.2+1-j=1 by lia,show ((1:Nat):Rat)=1 from rfl,k4]
   grind
  ·rw [if_neg h1]
   by_cases h2:j<=x.2
   ·simp only [if_pos h2,if_pos (show j+1<=x.2 by omega)]
    rw [ah8,show x.2+1-j=(x.2+1-(j+1))+1 by lia,u0d]
    have e:a8 (((x.2+1-(j+1):Nat):Rat)+((1:Nat):Rat))=a8 ((x.2+1-(j+1):Nat):Rat)+1:=by
     rw [<- k4]
     refine Pf.ext λk=>?_
     show (if k=0 then _ else 0)=(if k=0 then _ else 0)+(if k=0 then (1:Rat) else 0)
     split
     ·rfl
     ·grind
    rw [e]
    generalize a8 ((x.2+1-(j+1):Nat):Rat)=w
    grind
   ·simp only [if_neg h2,if_neg (show ¬ j+1<=x.2 by omega)]
    exact ih
theorem dwP (q:Pf):∀ n,dP (wP q (n+1))=a8 ((n+1:Nat):Rat)*(wP q n*dP q)
 | 0=>by
  show dP (q*1)=a8 ((1:Nat):Rat)*(1*dP q)
  rw [ah8,aS3,show ((1:Nat):Rat)=1 from rfl,k4];grind
 | n+1=>by
  have ih:=dwP q n
  show dP (q*wP q (n+1))=a8 ((n+1+1:Nat):Rat)*(wP q (n+1)*dP q)
  rw [ah8,ih,u0d (n+1) 1]
  have e:a8 (((n+1:Nat):Rat)+((1:Nat):Rat))=a8 ((n+1:Nat):Rat)+1:=by
   rw [<- k4]
   refine Pf.ext λk=>?_
   show (if k=0 then _ else 0)=(if k=0 then _ else 0)+(if k=0 then (1:Rat) else 0)
   split
   ·rfl
   ·grind
  rw [e]
  show dP q*(q*wP q n)+_=_*((q*wP q n)*dP q)
  generalize a8 ((n+1:Nat):Rat)=w
  grind
theorem aM9:∀ {fs:List (Pf × Nat)},(∀ x ∈ fs,1<=x.2)->fP fs=gP1 fs*aP fs 1/\dP (fP fs)=gP1 fs*sP fs 1
 | [],_=>⟨by show (1:Pf)=1*1;grind,by show dP 1=1*0;rw [aS3];grind⟩
 | x :: r,h=>by
  obtain ⟨i1,i2⟩:=aM9 (fs:=r) λy hy=>h y (q0b _ hy)
  have h1:=h x q0c
  obtain ⟨n,hn⟩:∃ n,x.2=n+1:=⟨x.2-1,by lia⟩
  have dw:=dwP x.1 n
  unfold fP gP1 aP sP
  rw [if_pos h1,if_pos h1,hn,z0z]
  refine ⟨?_,?_⟩
  ·show x.1*wP x.1 n*fP r=_
   rw [i1];grind
  ·rw [ah8,dw,i2,i1]
   show _+x.1*wP x.1 n*_=_
   rw [show n+1+1-1=n+1 by simp]
   generalize a8 ((n+1:Nat):Rat)=w
   grind
structure CC (G P Q:List Int) (K c L g bG:Nat):Prop where
 lG:G.length=g+1
 tG:v2 G G.length
 gG:m5 G=1
 bG:∀ k,(aZ G k).natAbs<2 ^ bG
 tP:v2 P P.length
 tQ:v2 Q Q.length
 lp:P.length<=L
 lq:Q.length<P.length
 kP:∀ k,(aZ P k).natAbs<=K
 kQ:∀ k,(aZ Q k).natAbs<=K
 k1:1<=K
 hc:4*L*K<=2 ^ c
 l9:L<=16
def wG (c L g bG la:Nat):Nat:=wL c L (la-g)+bG+5
structure CS (G P Q:List Int) (c L g bG:Nat) (A B:List Int):Prop where
 tA:v2 A A.length
 tB:v2 B B.length
 lt:B.length<A.length
 ex:∃ A' B' fa ha fb hb:Pf,Fn A'/\Fn B'/\Fn fa/\Fn ha/\Fn fb/\Fn hb/\zp A=A'*zp G/\zp B=B'*zp G/\Ev (zp P) (zp Q) A' B' fa ha fb hb P.length Q.length (A.length-g) (B.length-g)
 bA:∀ k,(aZ A k).natAbs<2 ^ wG c L g bG A.length
 bB:∀ k,(aZ B k).natAbs<2 ^ wG c L g bG A.length
theorem aK6 {R G:List Int} {u:Rat} (tR:v2 R R.length) (tG:v2 G G.length) (gR:m5 R=1) (gG:m5 G=1) (u0:0<u) (e:zp R=a8 u*zp G):R=G:=by
 have un:u ≠ 0:=λz=>by rw [z] at u0;exact absurd u0 (by decide)
 obtain ⟨a,ha⟩:=as1 gG (s:=λk=>aZ R k) (b:=u) λk=>by
  have h:=congrArg (λz=>Pf.f z k) e
  have h2:zc R k=u*zc G k:=by
   have:(a8 u*zp G).f k=u*(zp G).f k:=C4 u (zp G) k
   exact h.trans this
  exact h2
 obtain ⟨b,hb⟩:=as1 gR (s:=λk=>aZ G k) (b:=u⁻¹) λk=>by
  have h:=congrArg (λz=>Pf.f z k) e
  have h2:zc R k=u*zc G k:=h.trans (C4 u (zp G) k)
  show zc G k=u⁻¹*zc R k
  have:=z0n _ un
  rw [h2]
  generalize u⁻¹=x at *
  grind
 have ab:a*b=1:=j0k.mp (by
  rw [q0n,<- ha,<- hb,z0n _ un];rfl)
 have a0:0<a:=j0u.mp (by rw [<- ha];exact u0)
 have a1:a=1:=by
  have hd:a ∣ 1:=⟨b,ab.symm⟩
  have:=Int.le_of_dvd (by decide) hd
  lia
 rw [ha,a1] at e
 refine bA7 tR tG λk=>bA6 (by rw [e,show ((1:Int):Rat)=1 from rfl,k4];grind) k
theorem aV5 {B W:Nat} (hB:0<B) {a:Pf} (h:OvP B W a):∃ z:Nat->Int,(∀ k,a.f k=((B:Int):Rat)⁻¹*(z k:Rat))/\∀ k,(z k).natAbs<2 ^ W:=by
 have ex:∀ k,∃ z:Int,a.f k=((B:Int):Rat)⁻¹*(z:Rat)/\z.natAbs<2 ^ W:=λk=>by
  obtain ⟨v,e,b⟩:=h k
  refine ⟨v,?_,b⟩
  rw [e,j0n,y0j];grind
 exact ⟨λk=>Classical.choose (ex k),λk=>(Classical.choose_spec (ex k)).1,λk=>(Classical.choose_spec (ex k)).2⟩
theorem bz8 {B:Nat} (hB:0<B):((B:Int):Rat) ≠ 0:=af4 ⋯
theorem bG1 {R:List Int} {l:Rat} {a:Pf} {B W:Nat} (hB:0<B) (h:OvP B W a) (e:zp R=a8 l*a) (l0:l ≠ 0) (gR:m5 R=1):∃ g:Int,g ≠ 0/\((B:Int):Rat)=l*(g:Rat):=by
 obtain ⟨z,ez,_⟩:=aV5 hB h
 have Bn:=bz8 hB
 have Bi:=z0n _ Bn
 have li:=z0n _ l0
 obtain ⟨g,hg⟩:=as1 gR (s:=z) (b:=((B:Int):Rat)*l⁻¹) λk=>by
  have h1:zc R k=l*a.f k:=(congrArg (λy=>Pf.f y k) e).trans (C4 l a k)
  rw [h1,ez k]
  generalize (((B:Int):Rat))⁻¹=x at *
  generalize ((B:Int):Rat)=b at *
  generalize l⁻¹=y at *
  grind
 refine ⟨g,λz=>?_,?_⟩
 ·rw [z,z0k] at hg
  rcases z0x.mp hg with y | y
  ·exact Bn y
  ·rw [y] at li;grind
 ·rw [<- hg]
  generalize ((B:Int):Rat)=b at *
  generalize l⁻¹=y at *
  grind
theorem bk7 {l:Rat} {s:Pf} {B W:Nat} {g:Int} (hB:0<B) (h:OvP B W s) (g0:g ≠ 0) (e:((B:Int):Rat)=l*(g:Rat)) {y:Nat->Int} (ey:∀ k,(y k:Rat)=l*s.f k) (k:Nat):(y k).natAbs<2 ^ W:=by
 obtain ⟨z,ez,bz⟩:=aV5 hB h
 have Bn:=bz8 hB
 have Bi:=z0n _ Bn
 have:(z k:Rat)=(g:Rat)*(y k:Rat):=by
  rw [ey k,ez k]
  generalize (((B:Int):Rat))⁻¹=x at *
  generalize ((B:Int):Rat)=b at *
  grind
 exact q0v (bG9 (af4 g0) this) (bz k)
structure Spl (R Z:List Int) (e a s:Pf) (ne na We Wa Ws:Nat) (G P Q:List Int) (m:Rat):Prop where
 tG:v2 G G.length
 lG:G.length=ne+1
 gG:m5 G=1
 ld:0<aZ G ne
 bG:∀ k,(aZ G k).natAbs<2 ^ We
 eG:∃ u:Rat,0<u/\zp G=a8 u*e
 eR:zp R=zp P*zp G
 eZ:zp Z=zp Q*zp G
 eP:zp P=a8 m*a
 eQ:zp Q=a8 m*s
 gP:m5 P=1
 m0:m ≠ 0
 tP:v2 P P.length
 tQ:v2 Q Q.length
 lP:P.length=na+1
 lQ:Q.length<=na
 bP:∀ k,(aZ P k).natAbs<2 ^ Wa
 bQ:∀ k,(aZ Q k).natAbs<2 ^ Ws
theorem aW6 (A:Nat->Nat->Int) (N:Nat):∀ M,∃ B:Nat,1<=B/\∀ e,e<M->∀ i,i<N->(A e i).natAbs<=B
 | 0=>⟨1,q0q _,λe he=>⋯⟩
 | M+1=>by
  obtain ⟨B,b1,hB⟩:=aW6 A N M
  obtain ⟨C,hC⟩:∃ C:Nat,∀ i,i<N->(A M i).natAbs<=C:=by
   have:∀ n,∃ C:Nat,∀ i,i<n->(A M i).natAbs<=C:=λn=>by
    induction n with
    | zero=>exact ⟨0,λi hi=>by lia⟩
    | succ n ih =>
     obtain ⟨C,h⟩:=ih
     refine ⟨max C (A M n).natAbs,λi hi=>?_⟩
     rcases y0v i n with y | y
     ·have:=h i y;lia
     ·rw [show i=n by lia];lia
   exact this N
  refine ⟨max B C,by lia,λe he i hi=>?_⟩
  rcases y0v e M with y | y
  ·have:=hB e y i hi;lia
  ·rw [show e=M by lia];have:=hC i hi;lia
theorem bM1 (A:Nat->Nat->Rat) {M N:Nat} (h:M<N):∃ d:Nat->Rat,(∃ i,i<N/\d i ≠ 0)/\∀ e,e<M->i6 (λi=>A e i*d i) N=0:=by
 have ex:∀ e,∃ (D:Nat) (y:Nat->Int),0<D/\∀ i,i<N->(D:Rat)*A e i=(y i:Rat):=λe=>by
  obtain ⟨D,D0,hD⟩:=aS1 (A e) N
  have:∀ i,∃ y:Int,i<N->(D:Rat)*A e i=(y:Rat):=λi=>by
   by_cases hi:i<N
   ·obtain ⟨y,hy⟩:=hD i hi
    exact ⟨y,λ_=>hy⟩
   ·exact ⟨0,λz=>absurd z hi⟩
  exact ⟨D,λi=>Classical.choose (this i),D0,λi hi=>Classical.choose_spec (this i) hi⟩
 obtain ⟨B,b1,hB⟩:=aW6 (λe i=>Classical.choose (Classical.choose_spec (ex e)) i) N M
 obtain ⟨d,⟨i,hi,di⟩,_,hz⟩:=bg0 (λe i=>Classical.choose (Classical.choose_spec (ex e)) i) hB h b1
 refine ⟨λi=>(d i:Rat),⟨i,hi,af4 di⟩,λe he=>?_⟩
 obtain ⟨D0,hD⟩:=Classical.choose_spec (Classical.choose_spec (ex e))
 have hz':=hz e he
 have Dn:((Classical.choose (ex e):Nat):Rat) ≠ 0:=λz=>by
  have z':((Classical.choose (ex e):Nat):Rat)=((0:Nat):Rat):=z
  have:=u0c.mp z'
  omega
 have key:((Classical.choose (ex e):Nat):Rat)*i6 (λi=>A e i*(d i:Rat)) N=0:=by
  rw [F3,i4 (g:=λi=>((Classical.choose (Classical.choose_spec (ex e)) i*d i:Int):Rat)) λi hi=>?_,<- aq7,hz',z0k]
  rw [q0n,<- hD i hi];grind
 rcases z0x.mp key with y | y
 ·exact absurd y Dn
 ·exact y
theorem ai2 (x:Rat):0<=x*x:=by
 rcases (Rat.le_total (a:=0) (b:=x)) with h | h
 ·exact z0j h h
 ·have h':0<=-x:=by grind
  have:=z0j h' h'
  grind
theorem an4 {x:Rat} (h:x ≠ 0):0<x*x:=by
 have h1:=ai2 x
 have h2:x*x ≠ 0:=λz=>by rcases z0x.mp z with y | y <;> exact h y
 grind
def lf (n:Nat) (c v:Nat->Rat):Rat:=i6 (λi=>c i*v i) n
theorem al0 (p:Nat->Bool) (f:Nat->Nat->Rat):∀ n,∃ (rows:List (Nat->Rat)),rows.length=(y0f n).countP p/\∀ k,k<n->p k=true->f k ∈ rows
 | 0=>⟨[],rfl,λk hk=>⋯⟩
 | n+1=>by
  obtain ⟨rows,hl,h⟩:=al0 p f n
  by_cases hp:p n=true
  ·refine ⟨f n :: rows,?_,λk hk pk=>?_⟩
   ·rw [z0t,hl,List.range_succ,j0y];simp [hp]
   ·rcases y0v k n with y | y
    ·exact q0b _ (h k y pk)
    ·rw [show k=n by lia];exact q0c
  ·refine ⟨rows,?_,λk hk pk=>?_⟩
   ·rw [hl,List.range_succ,j0y];simp [hp]
   ·rcases y0v k n with y | y
    ·exact h k y pk
    ·rw [show k=n by omega] at pk;exact absurd pk hp
theorem Z7 {f:Nat->Rat}:∀ n,(∀ i,i<n->0<=f i)->0<=i6 f n
 | 0,_=>by show (0:Rat)<=0;decide
 | n+1,h=>by
  have h1:=Z7 n λi hi=>h i ⋯
  have h2:=h n ⋯
  show 0<=i6 f n+f n
  grind
theorem ay4 {f:Nat->Rat}:∀ n,(∀ i,i<n->0<=f i)->(∃ i,i<n/\0<f i)->0<i6 f n
 | 0,_,⟨i,hi,_⟩=>⋯
 | n+1,h,⟨i,hi,p⟩=>by
  have h1:=Z7 n λi hi=>h i (by exact Nat.lt_succ_of_lt ‹_›)
  have h2:=h n (by simp)
  show 0<i6 f n+f n
  rcases y0v i n with y | y
  ·have:=ay4 n (λi hi=>h i ⋯) ⟨i,y,p⟩
   grind
  ·rw [show i=n by lia] at p
   grind
theorem bu7 {n m:Nat} {a b:Nat->Rat} {f g:Nat->Nat->Rat} (h:∀ v:Nat->Rat,i6 (λk=>a k*(lf n (f k) v*lf n (f k) v)) n=i6 (λk=>b k*(lf n (g k) v*lf n (g k) v)) m) (ind:∀ v:Nat->Rat,(∀ k,k<n->lf n (f k) v=0)->∀ i,i<n->v i=0):(y0f n).countP (λk=>decide (0<a k))<=(y0f m).countP (λk=>decide (0<b k)):=by
 refine Classical.byContradiction λlt=>?_
 obtain ⟨r1,l1,h1⟩:=al0 (λk => !decide (0<a k)) f n
 obtain ⟨r2,l2,h2⟩:=al0 (λk=>decide (0<b k)) g m
 have cn:(y0f n).countP (λk => !decide (0<a k))+(y0f n).countP (λk=>decide (0<a k))=n:=by
  have:=List.length_eq_countP_add_countP (λk=>decide (0<a k)) (l:=y0f n)
  rw [m0u] at this
  have e:(λk=>decide ¬(decide (0<a k))=true)=λk => !decide (0<a k):=by
   funext k
   cases decide (0<a k) <;> rfl
  rw [e] at this
  lia
 obtain ⟨d,⟨i,hi,di⟩,hz⟩:=bM1 (λe=>((r1 ++ r2)[e]?).getD λ_=>0) (M:=(r1 ++ r2).length) (N:=n) (by rw [z0g];lia)
 have zero:∀ c ∈ r1 ++ r2,lf n c d=0:=λc hc=>by
  obtain ⟨e,he⟩:=z1e.mp hc
  have:=hz e (q0g.mp he).1
  rw [he] at this
  exact this
 have hv:=h d
 have lhs:0<i6 (λk=>a k*(lf n (f k) d*lf n (f k) d)) n:=by
  refine ay4 n (λk hk=>?_) ?_
  ·by_cases p:0<a k
   ·exact z0j (y0c p) (by
     have:=ai2 (lf n (f k) d)
     exact this)
   ·have:=zero (f k) (v0a _ (h1 k hk (by simp [p])))
    show 0<=a k*(lf n (f k) d*lf n (f k) d)
    rw [this];grind
  ·have nz:∃ k,k<n/\lf n (f k) d ≠ 0:=Classical.byContradiction λz=>di (ind d (λk hk=>Classical.byContradiction λy=>z ⟨k,hk,y⟩) i hi)
   obtain ⟨k,hk,nk⟩:=nz
   have p:0<a k:=Classical.byContradiction λp=>nk (zero (f k) (v0a _ (h1 k hk (by simp [p]))))
   exact ⟨k,hk,z0p p (an4 nk)⟩
 have rhs:0<=i6 (λk=>-(b k*(lf n (g k) d*lf n (g k) d))) m:=Z7 m λk hk=>by
  by_cases p:0<b k
  ·have:=zero (g k) (q0h _ (h2 k hk (by simp [p])))
   show 0<=-(b k*(lf n (g k) d*lf n (g k) d))
   rw [this];grind
  ·have h1:0<=-(b k):=by grind
   have:=z0j h1 (ai2 (lf n (g k) d))
   grind
 have e:i6 (λk=>-(b k*(lf n (g k) d*lf n (g k) d))) m=-1*i6 (λk=>b k*(lf n (g k) d*lf n (g k) d)) m:=by
  rw [F3]
  exact i4 λk _=>by grind
 rw [e,<- hv] at rhs
 grind
def pS (f:Nat->Pf):Nat->Pf
 | 0=>0
 | n+1=>pS f n+f n
theorem ai8 (f:Nat->Pf):∀ n,pS f (n+1)=f 0+pS (λi=>f (i+1)) n
 | 0=>by show (0:Pf)+f 0=f 0+0;grind
 | n+1=>by
  rw [pS,ai8 f n,pS];grind
theorem O8 {f g:Nat->Pf}:∀ {n},(∀ i,i<n->f i=g i)->pS f n=pS g n
 | 0,_=>rfl
 | n+1,h=>by rw [pS,pS,O8 λi hi=>h i ⋯,h n ⋯]
theorem as3:∀ (n:Nat) (f:Nat->Pf),pS f n=pS (λi=>f (n-1-i)) n
 | 0,_=>rfl
 | n+1,f=>by
  rw [ai8 (λi=>f (n+1-1-i)) n,pS,as3 n f]
  have:pS (λi=>f (n-1-i)) n=pS (λi=>f (n+1-1-(i+1))) n:=O8 λi hi=>by congr 1;omega
  rw [this]
  show _=f (n+1-1-0)+_
  rw [show n+1-1-0=n by omega]
  grind
theorem bi5 (f g:Nat->Pf):∀ n,pS f n+pS g n=pS (λi=>f i+g i) n
 | 0=>by show (0:Pf)+0=0;grind
 | n+1=>by rw [pS,pS,pS,<- bi5 f g n];grind
theorem bi4 (c:Pf) (f:Nat->Pf):∀ n,c*pS f n=pS (λi=>c*f i) n
 | 0=>by show c*(0:Pf)=0;grind
 | n+1=>by rw [pS,pS,<- bi4 c f n];grind
theorem aV4 {f:Nat->Pf}:∀ n,(∀ i,i<n->f i=0)->pS f n=0
 | 0,_=>rfl
 | n+1,h=>by rw [pS,aV4 n λi hi=>h i ⋯,h n ⋯];grind
def pv2 (f g:Nat->Pf) (k:Nat):Pf:=pS (λi=>f i*g (k-i)) (k+1)
theorem Z0 (f g:Nat->Pf) (k:Nat):pv2 f g (k+1)=f 0*g (k+1)+pv2 (λi=>f (i+1)) g k:=by
 unfold pv2
 rw [ai8]
 congr 1
 exact O8 λi _=>by rw [show k+1-(i+1)=k-i by omega]
theorem Z1 (f g:Nat->Pf) (k:Nat):pv2 f g k=pv2 g f k:=by
 unfold pv2
 rw [as3]
 exact O8 λi hi=>by
  rw [show k+1-1-i=k-i by omega,show k-(k-i)=i by omega];grind
theorem az7 {f g h l:Nat->Pf} {k:Nat} (a:∀ i,i<=k->f i=g i) (b:∀ i,i<=k->h i=l i):pv2 f h k=pv2 g l k :=
 O8 λi hi=>by rw [a i ⋯,b (k-i) ⋯]
theorem ae9 (f g:Nat->Pf):pv2 f g 0=f 0*g 0:=by
 show (0:Pf)+f 0*g 0=_
 grind
theorem aE7 (f g h:Nat->Pf) (k:Nat):pv2 (λi=>f i+g i) h k=pv2 f h k+pv2 g h k:=by
 unfold pv2
 rw [bi5]
 exact O8 λi _=>by grind
theorem bs6 (c:Pf) (f h:Nat->Pf) (k:Nat):pv2 (λi=>c*f i) h k=c*pv2 f h k:=by
 unfold pv2
 rw [bi4]
 exact O8 λi _=>by grind
theorem az8:∀ (k:Nat) (f g h:Nat->Pf),pv2 (pv2 f g) h k=pv2 f (pv2 g h) k
 | 0,f,g,h=>by rw [ae9,ae9,ae9,ae9];grind
 | k+1,f,g,h=>by
  rw [Z0,Z0 f]
  have e1:pv2 (λi=>pv2 f g (i+1)) h k=pv2 (λi=>f 0*g (i+1)+pv2 (λi=>f (i+1)) g i) h k:=az7 (λi _=>Z0 f g i) λ_ _=>rfl
  rw [e1,aE7 (λi=>f 0*g (i+1)) (pv2 (λi=>f (i+1)) g),bs6 (f 0) (λi=>g (i+1)),az8 k,Z0 g]
  rw [ae9];grind
structure Bf where
 r:Nat->Pf
theorem Bf.ext {a b:Bf} (h:∀ k,a.r k=b.r k):a=b:=by
 cases a;cases b
 congr
 funext k
 exact h k
def aT1 (c:Pf):Bf:=⟨λk=>if k=0 then c else 0⟩
def bw7 (a b:Bf):Bf:=⟨pv2 a.r b.r⟩
def bN2 (a:Bf):Nat->Bf
 | 0=>aT1 1
 | n+1=>bw7 (bN2 a n) a
theorem T6 (c:Pf) (h:Nat->Pf) (k:Nat):pv2 (λk=>if k=0 then c else 0) h k=c*h k:=by
 unfold pv2
 rw [ai8]
 rw [aV4 (f:=λi=>(if i+1=0 then c else 0)*h (k-(i+1))) k λi _=>by rw [if_neg (by simp)];grind]
 show c*h (k-0)+0=_
 rw [u0w];grind
theorem ifz (k:Nat):(if k=0 then (0:Pf) else 0)=0:=by split <;> rfl
theorem bD7 (n:Nat):a8 ((n+1:Nat):Rat)=a8 (n:Rat)+1:=by
 rw [<- k4]
 refine Pf.ext λk=>?_
 show (if k=0 then ((n+1:Nat):Rat) else 0)=(if k=0 then (n:Rat) else 0)+(if k=0 then (1:Rat) else 0)
 split
 ·rw [u0d];rfl
 ·grind
theorem p0:a8 ((0:Nat):Rat)=0:=Pf.ext λk=>by rw [t4];show (if k=0 then ((0:Nat):Rat) else 0)=0;split <;> rfl
theorem p1:a8 ((1:Nat):Rat)=1:=k4
instance instBf:Lean.Grind.CommRing Bf where
 add a b:=⟨λk=>a.r k+b.r k⟩
 mul:=bw7
 neg a:=⟨λk=>- a.r k⟩
 sub a b:=⟨λk=>a.r k-b.r k⟩
 natCast:=⟨λn=>aT1 (a8 n)⟩
 ofNat n:=⟨aT1 (a8 n)⟩
 intCast:=⟨λn=>aT1 (a8 n)⟩
 nsmul:=⟨λn a=>bw7 (aT1 (a8 n)) a⟩
 zsmul:=⟨λn a=>bw7 (aT1 (a8 n)) a⟩
 npow:=⟨bN2⟩
 add_zero a:=Bf.ext λk=>by
  show a.r k+(if k=0 then a8 ((0:Nat):Rat) else 0)=a.r k
  rw [p0,ifz];grind
 add_comm a b:=Bf.ext λk=>by show a.r k+b.r k=b.r k+a.r k;grind
 add_assoc a b c:=Bf.ext λk=>by show a.r k+b.r k+c.r k=a.r k+(b.r k+c.r k);grind
 mul_assoc a b c:=Bf.ext λk=>az8 k a.r b.r c.r
 one_mul a:=Bf.ext λk=>by
  show pv2 (λk=>if k=0 then a8 ((1:Nat):Rat) else 0) a.r k=a.r k
  rw [T6,p1];grind
 right_distrib a b c:=Bf.ext λk=>aE7 a.r b.r c.r k
 mul_zero a:=Bf.ext λk=>by
  show pv2 a.r (λk=>if k=0 then a8 ((0:Nat):Rat) else 0) k=(if k=0 then a8 ((0:Nat):Rat) else 0)
  rw [Z1,T6,p0,ifz];grind
 mul_comm a b:=Bf.ext λk=>Z1 a.r b.r k
 mul_one a:=Bf.ext λk=>by
  show pv2 a.r (λk=>if k=0 then a8 ((1:Nat):Rat) else 0) k=a.r k
  rw [Z1,T6,p1];grind
 left_distrib a b c:=Bf.ext λk=>by
  show pv2 a.r (λk=>b.r k+c.r k) k=pv2 a.r b.r k+pv2 a.r c.r k
  rw [Z1,aE7,Z1 b.r,Z1 c.r]
 zero_mul a:=Bf.ext λk=>by
  show pv2 (λk=>if k=0 then a8 ((0:Nat):Rat) else 0) a.r k=(if k=0 then a8 ((0:Nat):Rat) else 0)
  rw [T6,p0,ifz];grind
 pow_zero a:=Bf.ext λk=>by
  show (if k=0 then (1:Pf) else 0)=if k=0 then a8 ((1:Nat):Rat) else 0
  rw [p1]
 pow_succ a n:=rfl
 ofNat_succ n:=Bf.ext λk=>by
  show (if k=0 then a8 ((n+1:Nat):Rat) else 0)=(if k=0 then a8 (n:Rat) else 0)+(if k=0 then a8 ((1:Nat):Rat) else 0)
  rw [bD7,p1]
  split <;> grind
 neg_add_cancel a:=Bf.ext λk=>by
  show-a.r k+a.r k=if k=0 then a8 ((0:Nat):Rat) else 0
  rw [p0,ifz];grind
 sub_eq_add_neg a b:=Bf.ext λk=>by show a.r k-b.r k=a.r k + - b.r k;grind
 neg_zsmul i a:=Bf.ext λk=>by
  show pv2 (λk=>if k=0 then a8 ((-i:Int):Rat) else 0) a.r k=- pv2 (λk=>if k=0 then a8 (i:Rat) else 0) a.r k
  rw [T6,T6,j0z,C7];grind
 intCast_neg i:=Bf.ext λk=>by
  show (if k=0 then a8 ((-i:Int):Rat) else 0)=- (if k=0 then a8 (i:Rat) else 0)
  split
  ·rw [j0z,C7]
  ·grind
def bx (p:Pf):Bf:=⟨λi=>a8 (p.f i)⟩
def by' (p:Pf):Bf:=aT1 p
theorem bi6 (f:Nat->Rat):∀ n,pS (λi=>a8 (f i)) n=a8 (i6 f n)
 | 0=>by show (0:Pf)=a8 0;exact p0.symm
 | n+1=>by
  rw [pS,bi6 f n,i6]
  refine Pf.ext λk=>?_
  show (if k=0 then i6 f n else 0)+(if k=0 then f n else 0)=if k=0 then i6 f n+f n else 0
  split
  ·rfl
  ·grind
theorem J3 (p q:Pf):bx (p*q)=bx p*bx q:=Bf.ext λk=>by
 show a8 (cv p.f q.f k)=pv2 (λi=>a8 (p.f i)) (λi=>a8 (q.f i)) k
 unfold pv2 cv
 rw [<- bi6]
 exact O8 λi _=>v7 _ _
theorem M8 (p q:Pf):bx (p+q)=bx p+bx q:=Bf.ext λk=>by
 show a8 (p.f k+q.f k)=a8 (p.f k)+a8 (q.f k)
 refine Pf.ext λj=>?_
 show (if j=0 then p.f k+q.f k else 0)=(if j=0 then p.f k else 0)+(if j=0 then q.f k else 0)
 split
 ·rfl
 ·grind
theorem M7 (p q:Pf):bx (p-q)=bx p-bx q:=Bf.ext λk=>by
 show a8 (p.f k-q.f k)=a8 (p.f k)-a8 (q.f k)
 refine Pf.ext λj=>?_
 show (if j=0 then p.f k-q.f k else 0)=(if j=0 then p.f k else 0)-(if j=0 then q.f k else 0)
 split
 ·rfl
 ·grind
theorem A5 (p q:Pf):by' (p*q)=by' p*by' q:=Bf.ext λk=>by
 show (if k=0 then p*q else 0)=pv2 (λk=>if k=0 then p else 0) (λk=>if k=0 then q else 0) k
 rw [T6]
 split <;> grind
theorem F7 (p q:Pf):by' (p+q)=by' p+by' q:=Bf.ext λk=>by
 show (if k=0 then p+q else 0)=(if k=0 then p else 0)+(if k=0 then q else 0)
 split <;> grind
theorem D9 (p q:Pf):by' (p-q)=by' p-by' q:=Bf.ext λk=>by
 show (if k=0 then p-q else 0)=(if k=0 then p else 0)-(if k=0 then q else 0)
 split <;> grind
theorem x6 (c:Rat):bx (a8 c)=by' (a8 c):=Bf.ext λk=>by
 show a8 (if k=0 then c else 0)=if k=0 then a8 c else 0
 split
 ·rfl
 ·exact p0
def sgd (i:Nat):Rat:=if i % 2=0 then 1 else -1
abbrev Mt:=Nat->Nat->Rat
def mn (M:Mt) (i:Nat):Mt:=λr c=>M (if r<i then r else r+1) (c+1)
def dt:Nat->Mt->Rat
 | 0,_=>1
 | n+1,M=>i6 (λi=>sgd i*M i 0*dt n (mn M i)) (n+1)
def IsI (q:Rat):Prop:=∃ z:Int,q=(z:Rat)
def hz (A B:Nat->Rat):Mt:=λi c=>if c<i / 2 then 0 else if i % 2=0 then B (c-i / 2) else A (c-i / 2)
def behind (A B:Nat->Rat):Nat->Rat:=λj=>B 0*A (j+1)-A 0*B (j+1)
def hm (A B:Nat->Rat) (m:Nat):Mt:=λi c=>if i % 2=1/\i<m then B 0*hz A B i c-A 0*hz A B (i-1) c else hz A B i c
structure Pos (n:Nat) (g:Nat->Nat->Rat):Prop where
 p:∀ i,i<=n->0<g i 0
 s:∀ i,1<=i->i<n->∀ j,g i 0*g (i-1) j=g i 0*g (i+1) (j+1)-g (i+1) 0*g i (j+1)
 l:1<=n->∀ j,g 0 0*g 1 (j+1)-g 1 0*g 0 (j+1)=0
 z:∀ i j,i<=n->i<2*j->g i j=0
def sh (C:Nat->Rat):Nat->Rat
 | 0=>0
 | j+1=>C j
inductive Hs:Nat->(Nat->Rat)->(Nat->Rat)->Prop where
 | base {A B:Nat->Rat} (h0:A 0 ≠ 0) (hA:∀ j,A (j+1)=0) (hB:∀ j,B j=0):Hs 0 A B
 | step {n:Nat} {A B C:Nat->Rat} {a:Rat} (ha:0<a) (hA:∀ j,A j=a*B j+sh C j) (h:Hs n B C):Hs (n+1) A B
theorem rsq (x:Rat):0<=x*x:=by
 rcases Rat.le_total (a:=0) (b:=x) with h | h
 ·exact z0j h h
 ·have:x*x=(-x)*(-x):=by grind
  rw [this]
  exact z0j (by grind) (by grind)
abbrev Cz:=Rat × Rat
mutual
inductive HD (H:Hp):V->D->Prop where
 | v {x:V} (f:V7 x=true):HD H x (.v x)
 | tup {p:Addr} {xs:List V} {ds:List D} (h:H p=some (.tup xs)) (t:HDs H xs ds):HD H (.ref p) (.tup ds)
 | lst {p:Addr} {xs:List V} {ds:List D} (h:H p=some (.lst xs)) (t:HDs H xs ds):HD H (.ref p) (.lst ds)
inductive HDs (H:Hp):List V->List D->Prop where
 | nil:HDs H [] []
 | cons {x:V} {xs:List V} {d:D} {ds:List D} (h:HD H x d) (t:HDs H xs ds):HDs H (x :: xs) (d :: ds)
end
def evZ (qs:List Rat):Bool:=(evs qs).all λq=>decide (q=0)
def odZ (qs:List Rat):Bool:=(ods qs).all λq=>decide (q=0)
def cOk (c T:Nat):Prop:=(c=10/\T<=14) \/ (c=40/\T<=5)
structure RowQ (c:Nat) (M:List (List Rat)) (last:List Rat):Prop where
 m:∀ L ∈ M,U7 L L.length/\2<=L.length/\evZ L=true/\∀ x ∈ L,BdN c x
 t:U7 last last.length
 n:last ≠ []
 p:evZ last=true \/ odZ last=true
 o:∀ x ∈ last,BdN c x
 z:cOk c (last.length-1+(M.map λL=>L.length-1).sum)
def bM6 (M:List (List Rat)):Nat->Nat
 | 0=>0
 | n+1=>bM6 M n+(((M[M.length-1-n]?).getD []).length-1)
def dn (M:List (List Rat)) (last:List Rat) (n:Nat):Nat:=last.length-1+bM6 M n
structure Prt (M:List (List Rat)) (last:List Rat) (l:Rat):Prop where
 m:∀ L ∈ M,∃ a:Rat,0<a/\L=[0,a]
 e:last=[l]
 n:l ≠ 0
def gP (M:List (List Rat)) (last:List Rat) (rh:Rat) (i j:Nat):Rat:=if 2*j<=i then rh*(fld M last i).1.f (i-2*j) else 0
theorem aV2 (a:Rat) (es:List Rat) (g:Pf) (k:Nat):(qp (a :: es)*g).f k=a*g.f k+(if k=0 then 0 else (qp es*g).f (k-1)):=by
 cases k with
 | zero =>
  show cv (aQ (a :: es)) g.f 0=_
  rw [am4,if_pos rfl]
  show a*g.f 0=_;grind
 | succ k =>
  show cv (aQ (a :: es)) g.f (k+1)=_
  rw [ad7,if_neg ⋯,z0z]
  rfl
theorem bs5 (g:Pf) (k:Nat):(qp []*g).f k=0:=aH7 (λ_=>rfl) g.f k
def at' (g:Pf) (d k:Nat):Rat:=if d<=k then g.f (k-d) else 0
theorem bP4 (g:Pf) (d k:Nat):at' g (d+1) (k+1)=at' g d k:=by
 unfold at'
 by_cases h:d<=k
 ·rw [if_pos h,if_pos (by lia:d+1<=k+1),Nat.add_sub_add_right]
 ·rw [if_neg h,if_neg (by lia:¬ d+1<=k+1)]
theorem bP6 (g:Pf) (d:Nat):at' g (d+1) 0=0:=if_neg (by lia)
theorem bP3 (g:Pf) (k:Nat):at' g 0 k=g.f k:=if_pos (j0g _)
theorem bL6 (g:Pf) (k:Nat):(qp [1]*g).f k=g.f k:=by
 rw [aV2]
 split
 ·grind
 ·rw [bs5];grind
theorem bz0 (c:Rat) (g:Pf) (k:Nat):(qp [c,1]*g).f k=c*g.f k+at' g 1 k:=by
 rw [aV2]
 cases k with
 | zero=>rw [if_pos rfl,bP6]
 | succ k=>rw [if_neg (Nat.succ_ne_zero k),z0z,bL6,bP4,bP3]
def rwA (p:Nat->Rat) (n:Nat):Nat->Rat:=λj=>if 2*j<=n then p (n-2*j) else 0
def rwB (p:Nat->Rat) (n:Nat):Nat->Rat:=λj=>if 2*j+1<=n then p (n-1-2*j) else 0
def Hp' (p:Pf) (n:Nat):Prop:=Hs n (rwA p.f n) (rwB p.f n)
inductive bd5:Nat->Pf->Prop where
 | lin {r:Rat} (h:0<=r):bd5 1 (qp [-r,1])
 | quad {u v:Rat} (h:0<=u) (hv:0<v):bd5 2 (qp [u*u+v,-2*u,1])
 | ev2 {c:Rat} (h:c ≠ 0):bd5 2 (qp [c,0,1])
 | ev4 {c:Rat} (h:c ≠ 0):bd5 4 (qp [c,0,0,0,1])
structure Fac (d l:Nat) (f:Pf):Prop where
 dg:∀ (g:Pf) (m:Nat),(∀ k,m<k->g.f k=0)->∀ k,m+d<k->(f*g).f k=0
 ld:∀ (g:Pf) (m:Nat),(∀ k,m<k->g.f k=0)->(f*g).f (m+d)=g.f m
 le:l<=d
 go:(l=d/\∀ (p:Pf) (n:Nat),(∀ k,n<k->p.f k=0)->Hp' p n->Hp' (f*p) (n+d)) \/ (l<d/\bd5 d f)
structure Rt (n l:Nat) (p:Pf):Prop where
 nz:p.f n ≠ 0
 hi:∀ k,n<k->p.f k=0
 le:l<=n
 go:(l=n/\Hp' p n) \/ (l<n/\∃ d e g m,n=m+d/\bd5 d e/\p=e*g/\∀ k,m<k->g.f k=0)
def pX:Pf:=qp [0,1]
theorem aq3 (l:List Rat) (k:Nat) (h:l.length<=k):(qp l).f k=0:=az6 l k h
theorem aA6 (c:Rat):qp [c,1]=pX+a8 c:=Pf.ext λk=>by
 rw [C3]
 match k with
 | 0=>show c=0+c;grind
 | 1=>show (1:Rat)=1+0;grind
 | k+2 =>
  rw [aq3 _ _ (by simp)]
  show (0:Rat)=(qp [0,1]).f (k+2)+(if k+2=0 then c else 0)
  rw [aq3 _ _ (by simp),if_neg (by lia)];grind
theorem bK5:pX*pX=qp [0,0,1]:=Pf.ext λk=>by
 unfold pX
 rw [bz0]
 unfold at'
 match k with
 | 0=>show (0:Rat)*0+(if 1<=0 then _ else 0)=0;rw [if_neg ⋯];grind
 | 1=>rw [if_pos ⋯];show (0:Rat)*1+0=0;grind
 | 2=>rw [if_pos ⋯];show (0:Rat)*0+1=1;grind
 | k+3=>rw [if_pos (by simp),aq3 _ _ (by simp),aq3 _ _ (by simp),aq3 _ _ (by simp)];grind
theorem Y3 (c b:Rat):qp [c,b,1]=pX*pX+a8 b*pX+a8 c:=Pf.ext λk=>by
 rw [C3,C3,bK5,C4]
 unfold pX
 match k with
 | 0=>show c=0+b*0+c;grind
 | 1=>show b=0+b*1+0;grind
 | 2=>show (1:Rat)=1+b*0+0;grind
 | k+3 =>
  rw [aq3 _ _ (by simp),aq3 _ _ (by simp),aq3 _ _ (by simp)]
  show (0:Rat)=0+b*0+(if k+3=0 then c else 0)
  rw [if_neg (by lia)];grind
theorem dX:dP pX=1:=Pf.ext λk=>by
 show ((k+1:Nat):Rat)*(qp [0,1]).f (k+1)=(1:Pf).f k
 rw [B7]
 match k with
 | 0=>rw [if_pos rfl];show ((1:Nat):Rat)*1=1;rw [show ((1:Nat):Rat)=1 from rfl];grind
 | k+1=>rw [if_neg ⋯,aq3 _ _ (by simp)];grind
theorem bO9:Fn pX:=bz5 _
theorem A7 (a b:Rat):a8 (a+b)=a8 a+a8 b:=Pf.ext λk=>by
 show (if k=0 then a+b else 0)=(if k=0 then a else 0)+(if k=0 then b else 0)
 split
 ·rfl
 ·grind
theorem z4 (a b:Rat):a8 (a-b)=a8 a-a8 b:=Pf.ext λk=>by
 show (if k=0 then a-b else 0)=(if k=0 then a else 0)-(if k=0 then b else 0)
 split
 ·rfl
 ·grind
theorem ak1 {p q:Pf} {c:Rat} (hc:c ≠ 0) (h:∃ u v,Fn u/\Fn v/\u*p+v*q=a8 c):Cop p q:=by
 obtain ⟨u,v,hu,hv,e⟩:=h
 have i:=z5 hc
 exact ⟨a8 c⁻¹*u,a8 c⁻¹*v,(v5 _).mul hu,(v5 _).mul hv,by
  have:a8 c⁻¹*u*p+a8 c⁻¹*v*q=a8 c⁻¹*(u*p+v*q):=by grind
  rw [this,e];grind⟩
inductive Fct:List Rat->Prop where
 | lin (r:Rat):Fct [-r,1]
 | quad (u v:Rat) (hv:0<v):Fct [u*u+v,-2*u,1]
theorem av6 {r:Rat} {c b:Rat} (h:r*r+b*r+c ≠ 0):Cop (qp [-r,1]) (qp [c,b,1]):=by
 rw [aA6,Y3]
 refine ak1 h ⟨- (pX+a8 (r+b)),1,?_,D8,?_⟩
 ·have:-(pX+a8 (r+b))=0-(pX+a8 (r+b)):=by grind
  rw [this];exact F9.sub (bO9.add (v5 _))
 ·rw [C7,A7,A7,A7,v7,v7]
  grind
theorem ar3 {u v r:Rat} (hv:0<v):r*r + -2*u*r+(u*u+v) ≠ 0:=λz=>by
 have h1:=rsq (r-u)
 have:(r-u)*(r-u)+v=0:=by grind
 grind
theorem bv3 {p q:List Rat} (hp:Fct p) (hq:Fct q) (ne:p ≠ q):Cop (qp p) (qp q):=by
 cases hp with
 | lin r =>
  cases hq with
  | lin s =>
   have rs:r-s ≠ 0:=λz=>ne (by rw [show r=s by grind])
   rw [aA6,aA6]
   refine ak1 rs ⟨-1,1,?_,D8,?_⟩
   ·have:(-1:Pf)=0-1:=by grind
    rw [this];exact F9.sub D8
   ·rw [C7,C7,z4];grind
  | quad u v hv=>exact av6 (ar3 hv)
 | quad u v hv =>
  cases hq with
  | lin s=>exact (av6 (ar3 hv)).symm
  | quad u' v' hv' =>
   by_cases h:u=u'
   ·subst h
    have vs:v'-v ≠ 0:=λz=>ne (by rw [show v=v' by grind])
    rw [Y3,Y3]
    refine ak1 vs ⟨-1,1,?_,D8,?_⟩
    ·have:(-1:Pf)=0-1:=by grind
     rw [this];exact F9.sub D8
    ·rw [A7,A7,z4];grind
   ·obtain ⟨α,hα⟩:∃ α,α=-2*u' - -2*u:=⟨_,rfl⟩
    have α0:α ≠ 0:=λz=>h (by grind)
    obtain ⟨r,hr⟩:∃ r,r=(u*u+v-(u'*u'+v'))*α⁻¹:=⟨_,rfl⟩
    have ai:=z0n _ α0
    have e:α*r=u*u+v-(u'*u'+v'):=by
     rw [hr]
     generalize α⁻¹=y at *
     grind
    have k1:=(av6 (r:=r) (ar3 (u:=u) (r:=r) hv)).symm.scale (c:=α) α0
    have k2:=Cop.addl (c:=1) D8 k1
    have e2:a8 α*qp [-r,1]+qp [u*u+v,-2*u,1]*1=qp [u'*u'+v',-2*u',1]:=by
     rw [aA6,Y3,Y3]
     have h1:a8 α*a8 r=a8 (u*u+v)-a8 (u'*u'+v'):=by rw [<- v7,e,z4]
     have h2:a8 α=a8 (-2*u')-a8 (-2*u):=by rw [hα,z4]
     rw [C7]
     generalize a8 (-2*u')=b' at *
     generalize a8 (-2*u)=b at *
     generalize a8 (u*u+v)=cc at *
     generalize a8 (u'*u'+v')=c' at *
     generalize a8 α=A at *
     generalize a8 r=R at *
     grind
    rw [e2] at k2
    exact k2
structure FOk1 (x:List Rat × Nat):Prop where
 fc:Fct x.1
 m1:1<=x.2
 m4:x.2<=4
 ov:∃ e,e+x.1.length<=12*(x.1.length-1)/\∀ q ∈ x.1,OvB (60 ^ (x.1.length-1)) e q
def nA:List (List Rat × Nat)->Nat->Nat
 | [],_=>0
 | x :: r,j=>(if j<=x.2 then x.1.length-1 else 0)+nA r j
structure Mon (p:Pf) (n:Nat):Prop where
 dg:Dg p.f (n+1)
 ld:p.f n=1
 ov:OvP (60 ^ n) (12*n+1) p
def cf (K:Bf) (i j:Nat):Rat:=(K.r i).f j
theorem aI3 {K M:Bf} (h:∀ i j,cf K i j=cf M i j):K=M:=Bf.ext λi=>Pf.ext λj=>h i j
theorem bJ2 (K M:Bf) (i j:Nat):cf (K+M) i j=cf K i j+cf M i j:=rfl
theorem bp1 (K M:Bf) (i j:Nat):cf (K-M) i j=cf K i j-cf M i j:=rfl
theorem bp3 (p:Pf) (K:Bf) (i j:Nat):cf (by' p*K) i j=(p*K.r i).f j:=by
 show (pv2 (λk=>if k=0 then p else 0) K.r i).f j=_
 rw [T6]
theorem bJ1 (c:Rat) (K:Bf) (i j:Nat):cf (by' (a8 c)*K) i j=c*cf K i j:=by
 rw [bp3,C4];rfl
theorem bM9 (g h:Pf) (i j:Nat):cf (bx g*by' h) i j=g.f i*h.f j:=by
 have e:bx g*by' h=by' h*bx g:=by grind
 rw [e,bp3]
 have e2:h*(bx g).r i=a8 (g.f i)*h:=by show h*a8 (g.f i)=_;grind
 rw [e2,C4]
theorem Y5 (p:Pf) (j:Nat):(pX*p).f j=if j=0 then 0 else p.f (j-1):=by
 unfold pX
 rw [bz0]
 unfold at'
 by_cases h:j=0
 ·rw [if_neg ⋯,if_pos h];grind
 ·rw [if_pos (by lia),if_neg h];grind
theorem bM8 (K:Bf) (i j:Nat):cf (by' pX*K) i j=if j=0 then 0 else cf K i (j-1):=by rw [bp3,Y5];rfl
theorem bN0 (K:Bf) (i j:Nat):cf (bx pX*K) i j=if i=0 then 0 else cf K (i-1) j:=by
 show (pv2 (λk=>a8 (pX.f k)) K.r i).f j=_
 have px:∀ k,pX.f k=if k=1 then 1 else 0:=λk=>by
  match k with
  | 0=>rfl
  | 1=>rfl
  | k+2=>rw [if_neg (by simp)];exact aq3 _ _ (by simp)
 cases i with
 | zero =>
  rw [ae9,if_pos rfl,px,if_neg ⋯]
  have:a8 (0:Rat)*K.r 0=0:=by rw [show a8 (0:Rat)=0 from p0];grind
  rw [this,t4]
 | succ i =>
  rw [Z0,if_neg ⋯,px,if_neg ⋯]
  have h0:a8 (0:Rat)*K.r (i+1)=0:=by rw [show a8 (0:Rat)=0 from p0];grind
  have h1:pv2 (λk=>a8 (pX.f (k+1))) K.r i=pv2 (λk=>if k=0 then (1:Pf) else 0) K.r i:=az7 (λk _=>by
   rw [px]
   by_cases z:k=0
   ·rw [if_pos (by lia),if_pos z,k4]
   ·rw [if_neg (by lia),if_neg z];exact p0) λ_ _=>rfl
  rw [h0,h1,T6,z0z]
  have:(0:Pf)+1*K.r i=K.r i:=by grind
  rw [this];rfl
def dXY:Bf:=bx pX-by' pX
theorem bp2 (K:Bf) (i j:Nat):cf (dXY*K) i j=(if i=0 then 0 else cf K (i-1) j)-(if j=0 then 0 else cf K i (j-1)):=by
 have e:dXY*K=bx pX*K-by' pX*K:=by unfold dXY;grind
 rw [e,bp1,bN0,bM8]
theorem bq9 {K:Bf} (h:dXY*K=0):K=0:=by
 have z:∀ i j,cf (0:Bf) i j=0:=λi j=>by
  show (if i=0 then a8 ((0:Nat):Rat) else 0:Pf).f j=0
  rw [p0,ifz,t4]
 have rel:∀ i j,(if i=0 then 0 else cf K (i-1) j)-(if j=0 then 0 else cf K i (j-1))=0:=λi j=>by rw [<- bp2,h,z]
 have key:∀ j i,cf K i j=0:=λj=>by
  induction j with
  | zero =>
   intro i
   have:=rel (i+1) 0
   rw [if_neg ⋯,if_pos rfl,z0z] at this
   grind
  | succ j ih =>
   intro i
   have h1:=rel (i+1) (j+1)
   rw [if_neg ⋯,if_neg ⋯,z0z,z0z,ih] at h1
   grind
 exact aI3 λi j=>by rw [key j i,z]
theorem ay0 {K M:Bf} (h:dXY*K=dXY*M):K=M:=by
 have:=bq9 (K:=K-M) (by grind)
 grind
def del (R:Pf):Bf:=⟨λi=>⟨λj=>R.f (i+j+1)⟩⟩
theorem aS2 (R:Pf):dXY*del R=bx R-by' R:=aI3 λi j=>by
 rw [bp2,bp1]
 have hx:cf (bx R) i j=if j=0 then R.f i else 0:=rfl
 have hy:cf (by' R) i j=if i=0 then R.f j else 0:=by
  show (if i=0 then R else 0:Pf).f j=_
  split
  ·rfl
  ·exact t4 j
 rw [hx,hy]
 have hd:∀ a b,cf (del R) a b=R.f (a+b+1):=λ_ _=>rfl
 rw [hd,hd]
 by_cases i0:i=0
 ·subst i0
  rw [if_pos rfl,if_pos rfl]
  by_cases j0:j=0
  ·subst j0;rw [if_pos rfl,if_pos rfl];grind
  ·rw [if_neg j0,if_neg j0,show 0+(j-1)+1=j by lia]
 ·rw [if_neg i0,if_neg i0]
  by_cases j0:j=0
  ·subst j0;rw [if_pos rfl,if_pos rfl,show i-1+0+1=i by lia]
  ·rw [if_neg j0,if_neg j0,show i-1+j+1=i+(j-1)+1 by lia];grind
def IsE (a:Rat) (p q:Pf) (K:Bf):Prop:=dXY*K=bx p*by' ((a8 a-pX)*q)-by' p*bx ((a8 a-pX)*q)
theorem aM2 (a:Rat) (p:Pf):IsE a p 0 0:=by
 unfold IsE
 have e:(a8 a-pX)*0=0:=by grind
 have h1:by' (0:Pf)=0:=Bf.ext λk=>by
  show (if k=0 then (0:Pf) else 0)=if k=0 then a8 ((0:Nat):Rat) else 0
  rw [p0]
 have h2:bx (0:Pf)=0:=Bf.ext λk=>by
  show a8 ((0:Pf).f k)=if k=0 then a8 ((0:Nat):Rat) else 0
  rw [t4,p0,ifz];exact p0
 rw [e,h1,h2];grind
theorem aj5 {a c:Rat} {p q r Q R:Pf} {K:Bf} (hp:p=Q*q-r) (hQ:Q=a8 c+(pX-a8 a)*R) (h:IsE a q r K):IsE a p q (by' (a8 c)*(bx q*by' q)-bx ((pX-a8 a)*q)*by' ((pX-a8 a)*q)*del R-bx q*by' r-bx r*by' q+K):=by
 unfold IsE at h ⊢
 have hd:=aS2 R
 have hc:=x6 c
 have ha:=x6 a
 subst hp
 simp only [J3,M8,M7,A5,F7,D9] at h hd ⊢
 have e1:bx Q=bx (a8 c)+(bx pX-bx (a8 a))*bx R:=by rw [hQ,M8,J3,M7]
 have e2:by' Q=by' (a8 c)+(by' pX-by' (a8 a))*by' R:=by rw [hQ,F7,A5,D9]
 rw [e1,e2]
 rw [hc,ha] at *
 unfold dXY at *
 generalize bx pX=x at *
 generalize by' pX=y at *
 generalize bx q=qx at *
 generalize by' q=qy at *
 generalize bx r=rx at *
 generalize by' r=ry at *
 generalize bx R=Rx at *
 generalize by' R=Ry at *
 generalize by' (a8 c)=C at *
 generalize by' (a8 a)=A at *
 generalize del R=D at *
 grind
def qf (n:Nat) (K:Bf) (v:Nat->Rat):Rat:=i6 (λi=>i6 (λj=>cf K i j*(v i*v j)) n) n
theorem bD4 (n:Nat) (K M:Bf) (v:Nat->Rat):qf n (K+M) v=qf n K v+qf n M v:=by
 unfold qf
 rw [N4]
 refine i4 λi _=>?_
 rw [N4]
 exact i4 λj _=>by rw [bJ2];grind
theorem bL1 (n:Nat) (c:Rat) (g:Pf) (v:Nat->Rat):qf n (by' (a8 c)*(bx g*by' g)) v=c*(lf n g.f v*lf n g.f v):=by
 unfold qf
 have h1:∀ i,i6 (λj=>cf (by' (a8 c)*(bx g*by' g)) i j*(v i*v j)) n=c*(g.f i*v i)*lf n g.f v:=λi=>by
  unfold lf
  rw [F3]
  exact i4 λj _=>by rw [bJ1,bM9];grind
 rw [i4 (g:=λi=>(c*lf n g.f v)*(g.f i*v i)) λi _=>by rw [h1];grind,<- F3]
 show c*lf n g.f v*lf n g.f v=_
 grind
theorem bN1 (i j:Nat):cf (0:Bf) i j=0:=by
 show (if i=0 then a8 ((0:Nat):Rat) else 0:Pf).f j=0
 rw [p0,ifz,t4]
def sqK:List (Rat × Pf)->Bf
 | []=>0
 | x :: r=>by' (a8 x.1)*(bx x.2*by' x.2)+sqK r
def sqV (n:Nat) (v:Nat->Rat):List (Rat × Pf)->Rat
 | []=>0
 | x :: r=>x.1*(lf n x.2.f v*lf n x.2.f v)+sqV n v r
theorem aP7 (n:Nat) (v:Nat->Rat):∀ L,qf n (sqK L) v=sqV n v L
 | []=>by
  show i6 _ n=0
  refine w8 n λi _=>?_
  exact w8 n λj _=>by show cf 0 i j*_=0;rw [bN1];grind
 | x :: r=>by
  show qf n (by' (a8 x.1)*(bx x.2*by' x.2)+sqK r) v=_
  rw [bD4,bL1,aP7 n v r];rfl
theorem aD3 (n:Nat) (v:Nat->Rat):∀ L:List (Rat × Pf),sqV n v L=i6 (λk=>((L[k]?).getD (0,0)).1*(lf n ((L[k]?).getD (0,0)).2.f v*lf n ((L[k]?).getD (0,0)).2.f v)) L.length
 | []=>rfl
 | x :: r=>by
  rw [z0t,G1]
  show _+sqV n v r=_
  rw [aD3 n v r];rfl
def aP9 (x:Rat × Pf):Bool:=decide (0<x.1)
def ah5 (x:Rat × Pf):Bool:=decide (x.1<0)
theorem ad8 {α:Type} (d:α) (p:α->Bool):∀ L:List α,(y0f L.length).countP (λk=>p ((L[k]?).getD d))=L.countP p
 | []=>rfl
 | x :: r=>by
  have ih:=ad8 d p r
  rw [z0t,q1x,z0c,List.countP_map,z0c,<- ih]
  rfl
def Ind (n:Nat) (L:List (Rat × Pf)):Prop:=∀ v:Nat->Rat,(∀ x ∈ L,lf n x.2.f v=0)->∀ i,i<n->v i=0
theorem aj6 {n:Nat} {L M:List (Rat × Pf)} (h:sqK L=sqK M) (ln:L.length=n) (ind:Ind n L):L.countP aP9<=M.countP aP9:=by
 have key:=bu7 (n:=n) (m:=M.length) (a:=λk=>((L[k]?).getD (0,0)).1) (b:=λk=>((M[k]?).getD (0,0)).1) (f:=λk=>((L[k]?).getD (0,0)).2.f) (g:=λk=>((M[k]?).getD (0,0)).2.f) (λv=>by
  have h1:=aP7 n v L
  have h2:=aP7 n v M
  rw [h] at h1
  rw [h1,aD3,aD3,ln] at h2
  exact h2) (λv hv=>ind v λx hx=>by
  obtain ⟨k,hk⟩:=z1e.mp hx
  have hl:=(q0g.mp hk).1
  have:=hv k (by lia)
  rw [hk] at this
  exact this)
 have e1:=ad8 (0,0) aP9 L
 have e2:=ad8 (0,0) aP9 M
 rw [ln] at e1
 rw [<- e1,<- e2]
 exact key
def at6 (L:List (Rat × Pf)):List (Rat × Pf):=L.map λx=>(-x.1,x.2)
theorem aG4:∀ L,sqK (at6 L)=0-sqK L
 | []=>by show (0:Bf)=0-0;grind
 | x :: r=>by
  show by' (a8 (-x.1))*(bx x.2*by' x.2)+sqK (at6 r)=0-(by' (a8 x.1)*(bx x.2*by' x.2)+sqK r)
  have e:by' (a8 (-x.1))=0-by' (a8 x.1):=by
   have h0:a8 (-x.1)=0-a8 x.1:=by rw [C7];grind
   have hz:by' (0:Pf)=0:=Bf.ext λk=>by
    show (if k=0 then (0:Pf) else 0)=if k=0 then a8 ((0:Nat):Rat) else 0
    rw [p0]
   rw [h0,D9,hz]
  rw [aG4 r,e];grind
theorem al5:∀ L:List (Rat × Pf),(at6 L).countP aP9=L.countP ah5
 | []=>rfl
 | x :: r=>by
  have ih:=al5 r
  show ((-x.1,x.2) :: at6 r).countP aP9=_
  rw [z0c,z0c,ih]
  have e:aP9 (-x.1,x.2)=ah5 x:=by
   show decide (0 < -x.1)=decide (x.1<0)
   rw [decide_eq_decide]
   refine ⟨λh=>by grind,λh=>by grind⟩
  rw [e]
theorem Ind.neg {n:Nat} {L:List (Rat × Pf)} (h:Ind n L):Ind n (at6 L):=λv hv=>h v λx hx=>hv (-x.1,x.2) (q0w.mpr ⟨x,hx,rfl⟩)
theorem an8 {n:Nat} {L M:List (Rat × Pf)} (h:sqK L=sqK M) (ln:L.length=n) (lm:M.length=n) (iL:Ind n L) (iM:Ind n M):L.countP ah5=M.countP ah5:=by
 have h':sqK (at6 L)=sqK (at6 M):=by rw [aG4,aG4,h]
 have l1:(at6 L).length=n:=by unfold at6;rw [q0e];exact ln
 have l2:(at6 M).length=n:=by unfold at6;rw [q0e];exact lm
 have a:=aj6 h' l1 iL.neg
 have b:=aj6 h'.symm l2 iM.neg
 rw [al5,al5] at a b
 lia
def cmb (d:Nat->Rat) (g:Nat->Pf):Nat->Pf
 | 0=>0
 | k+1=>cmb d g k+a8 (d k)*g k
theorem aS8 (d:Nat->Rat) (g:Nat->Pf) (i:Nat):∀ m,(cmb d g m).f i=i6 (λk=>d k*(g k).f i) m
 | 0=>t4 i
 | m+1=>by
  show (cmb d g m+a8 (d m)*g m).f i=_
  rw [C3,aS8 d g i m,C4];rfl
theorem bH0 {n:Nat} {g:Nat->Pf} (dg:∀ k,k<n->Dg (g k).f n) (h:∀ d:Nat->Rat,cmb d g n=0->∀ k,k<n->d k=0):∀ v:Nat->Rat,(∀ k,k<n->lf n (g k).f v=0)->∀ i,i<n->v i=0:=by
 intro v hv i0 hi0
 refine Classical.byContradiction λvi=>?_
 obtain ⟨m,rfl⟩:∃ m,n=m+1:=⟨n-1,by lia⟩
 -- coordinates without i0
 obtain ⟨d,⟨k0,hk0,dk0⟩,hd⟩:=bM1 (λe k=>(g k).f (if e<i0 then e else e+1)) (M:=m) (N:=m+1) ⋯
 refine dk0 (h d ?_ k0 hk0)
 have z:∀ i,i<m+1->i ≠ i0->(cmb d g (m+1)).f i=0:=λi hi ne=>by
  rw [aS8]
  rcases y0v i i0 with y | y
  ·have:=hd i (by lia)
   simp only [if_pos y] at this
   rw [<- this]
   exact i4 λk _=>by grind
  ·have:=hd (i-1) (by lia)
   simp only [if_neg (show ¬ i-1<i0 by lia),show i-1+1=i by lia] at this
   rw [<- this]
   exact i4 λk _=>by grind
 have tot:lf (m+1) (cmb d g (m+1)).f v=0:=by
  have e:∀ j,lf (m+1) (cmb d g j).f v=i6 (λk=>d k*lf (m+1) (g k).f v) j:=λj=>by
   induction j with
   | zero=>exact w8 _ λi _=>by show (0:Pf).f i*v i=0;rw [t4];grind
   | succ j ih =>
    show lf (m+1) (cmb d g j+a8 (d j)*g j).f v=i6 _ j+d j*lf (m+1) (g j).f v
    rw [<- ih]
    unfold lf
    rw [F3,N4]
    exact i4 λi _=>by rw [C3,C4];grind
  rw [e]
  exact w8 _ λk hk=>by rw [hv k hk];grind
 have one:lf (m+1) (cmb d g (m+1)).f v=(cmb d g (m+1)).f i0*v i0:=by
  unfold lf
  rw [i4 (g:=λi=>if i=i0 then (cmb d g (m+1)).f i*v i else 0) λi hi=>?_,L6,if_pos hi0]
  by_cases z':i=i0
  ·rw [if_pos z']
  ·rw [if_neg z',z i hi z'];grind
 rw [one] at tot
 have zi0:(cmb d g (m+1)).f i0=0:=by
  rcases z0x.mp tot with y | y
  ·exact y
  ·exact absurd y vi
 refine Pf.ext λi=>?_
 rw [t4]
 rcases y0v i (m+1) with y | y
 ·by_cases z':i=i0
  ·rw [z'];exact zi0
  ·exact z i y z'
 ·rw [aS8]
  exact w8 _ λk hk=>by rw [dg k hk i y];grind
structure Lm (p:Pf) (n:Nat):Prop where
 dg:Dg p.f (n+1)
 ld:p.f n ≠ 0
theorem Lm.fn {p:Pf} {n:Nat} (h:Lm p n):Fn p:=⟨_,h.dg⟩
theorem Lm.mul {p q:Pf} {m n:Nat} (h:Lm p m) (k:Lm q n):Lm (p*q) (m+n):=⟨λi hi=>(Dg.cv h.dg k.dg) i (by lia),by
 show cv _ _ _ ≠ 0
 rw [ad6 h.dg k.dg]
 exact λz=>by
  rcases z0x.mp z with y | y
  ·exact h.ld y
  ·exact k.ld y⟩
theorem Lm.zero {p Z:Pf} {n:Nat} (h:Lm p n) (fz:Fn Z) (d:Dg (p*Z).f n):Z=0:=by
 obtain ⟨m,hm⟩:=fz
 have key:∀ j,j<=m->Dg Z.f (m-j):=λj=>by
  induction j with
  | zero=>intro _;exact hm
  | succ j ih =>
   intro hj
   have hz:=ih (by exact Nat.le_of_lt ‹_›)
   obtain ⟨t,ht⟩:∃ t,m-j=t+1:=⟨m-j-1,by lia⟩
   rw [ht] at hz
   have e:=d (n+t) (by simp)
   have e2:(p*Z).f (n+t)=p.f n*Z.f t:=ad6 h.dg hz
   rw [e2] at e
   rcases z0x.mp e with y | y
   ·exact absurd y h.ld
   ·intro i hi
    by_cases z:i=t
    ·rw [z];exact y
    ·exact hz i (by lia)
 refine Pf.ext λi=>?_
 rw [t4]
 exact key m (q0q _) i (by simp)
theorem bo6 {f g U W:Pf} {n m:Nat} (c:Cop f g) (lf:Lm f n) (lg:Lm g m) (fU:Fn U) (fW:Fn W) (dU:Dg U.f n) (h:g*U+f*W=0):U=0/\W=0:=by
 obtain ⟨u,v,hu,hv,e⟩:=c
 have e1:U=f*(u*U-v*W):=by
  have:U=(u*f+v*g)*U:=by rw [e];grind
  grind
 have fz:Fn (u*U-v*W):=(hu.mul fU).sub (hv.mul fW)
 have z:=lf.zero fz (by rw [<- e1];exact dU)
 have U0:U=0:=by rw [e1,z];grind
 refine ⟨U0,lf.zero fW ?_⟩
 have:f*W=0:=by rw [U0] at h;grind
 rw [this]
 exact λi _=>t4 i
def cm:(Nat->Rat)->List (Rat × Pf)->Pf
 | _,[]=>0
 | d,x :: r=>a8 (d 0)*x.2+cm (λk=>d (k+1)) r
def LI (L:List (Rat × Pf)):Prop:=∀ d:Nat->Rat,cm d L=0->∀ k,k<L.length->d k=0
theorem bo9 {n:Nat}:∀ (L:List (Rat × Pf)) (d:Nat->Rat),(∀ x ∈ L,Dg x.2.f n)->Dg (cm d L).f n
 | [],_,_=>λi _=>t4 i
 | x :: r,d,h=>λi hi=>by
  show (a8 (d 0)*x.2+cm _ r).f i=0
  rw [C3,C4,h x q0c i hi,bo9 r _ (λy hy=>h y (q0b _ hy)) i hi]
  grind
theorem bp0:∀ (L M:List (Rat × Pf)) (d:Nat->Rat),cm d (L ++ M)=cm d L+cm (λk=>d (k+L.length)) M
 | [],M,d=>by show cm d M=0+cm d M;grind
 | x :: r,M,d=>by
  show a8 (d 0)*x.2+cm _ (r ++ M)=a8 (d 0)*x.2+cm _ r+cm _ M
  rw [bp0 r M]
  have:(λk=>d (k+r.length+1))=λk=>d (k+(x :: r).length):=funext λk=>by rw [z0t];congr 1
  show a8 (d 0)*x.2+(cm _ r+cm (λk=>d (k+r.length+1)) M)=_
  rw [this];grind
def mL (c:Rat) (g:Pf) (L:List (Rat × Pf)):List (Rat × Pf):=L.map λx=>(c*x.1,g*x.2)
theorem aY0 (c:Rat) (g:Pf):∀ (L:List (Rat × Pf)) (d:Nat->Rat),cm d (mL c g L)=g*cm d L
 | [],d=>by show (0:Pf)=g*0;grind
 | x :: r,d=>by
  show a8 (d 0)*(g*x.2)+cm _ (mL c g r)=g*(a8 (d 0)*x.2+cm _ r)
  rw [aY0 c g r];grind
theorem ag9 (c:Rat) (g:Pf):∀ L,sqK (mL c g L)=by' (a8 c)*(bx g*by' g)*sqK L
 | []=>by show (0:Bf)=_*0;grind
 | x :: r=>by
  show by' (a8 (c*x.1))*(bx (g*x.2)*by' (g*x.2))+sqK (mL c g r)=_*(by' (a8 x.1)*(bx x.2*by' x.2)+sqK r)
  rw [ag9 c g r,v7,A5,J3,A5]
  generalize by' (a8 c)=C
  generalize by' (a8 x.1)=D
  generalize bx g=p
  generalize by' g=q
  generalize bx x.2=s
  generalize by' x.2=t
  generalize sqK r=K
  grind
theorem W3:∀ L M,sqK (L ++ M)=sqK L+sqK M
 | [],M=>by show sqK M=0+sqK M;grind
 | x :: r,M=>by
  show _+sqK (r ++ M)=_+sqK r+sqK M
  rw [W3 r M];grind
theorem ad0 {c:Rat} (hc:0<c) (g:Pf):∀ L,(mL c g L).countP ah5=L.countP ah5
 | []=>rfl
 | x :: r=>by
  show ((c*x.1,g*x.2) :: mL c g r).countP ah5=_
  rw [z0c,z0c,ad0 hc g r]
  have e:ah5 (c*x.1,g*x.2)=ah5 x:=by
   show decide (c*x.1<0)=decide (x.1<0)
   rw [decide_eq_decide]
   refine ⟨λh=>?_,λh=>?_⟩
   ·refine Classical.byContradiction λy=>?_
    have:=z0j (y0c hc) (m0w.mp y)
    grind
   ·have:=z0p hc (show 0 < -x.1 by grind)
    grind
  rw [e]
theorem V5 (c:Rat) (g:Pf) (L:List (Rat × Pf)):(mL c g L).length=L.length:=by unfold mL;rw [q0e]
structure Sq (a:Rat) (p q:Pf) (n N:Nat) (L:List (Rat × Pf)):Prop where
 e:IsE a p q (sqK L)
 ln:L.length=n
 dg:∀ x ∈ L,Dg x.2.f n
 li:LI L
 ng:L.countP ah5=N
theorem bk9 {a:Rat} {f g qf qg:Pf} {Kf Kg:Bf} (hf:IsE a f qf Kf) (hg:IsE a g qg Kg):IsE a (f*g) (qf*g+f*qg) (bx g*by' g*Kf+bx f*by' f*Kg):=by
 unfold IsE at *
 have ha:=x6 a
 simp only [J3,M8,M7,A5,F7,D9] at hf hg ⊢
 rw [ha] at *
 generalize bx pX=x at *
 generalize by' pX=y at *
 generalize bx f=fx at *
 generalize by' f=fy at *
 generalize bx g=gx at *
 generalize by' g=gy at *
 generalize bx qf=fx' at *
 generalize by' qf=fy' at *
 generalize bx qg=gx' at *
 generalize by' qg=gy' at *
 generalize by' (a8 a)=A at *
 generalize dXY=d at *
 grind
theorem bM2 {a c:Rat} {p q:Pf} {K:Bf} (h:IsE a p q K):IsE a p (a8 c*q) (by' (a8 c)*K):=by
 unfold IsE at *
 have ha:=x6 a
 have hc:=x6 c
 simp only [J3,M8,M7,A5,F7,D9] at h ⊢
 rw [ha,hc] at *
 generalize bx pX=x at *
 generalize by' pX=y at *
 generalize bx p=fx at *
 generalize by' p=fy at *
 generalize bx q=gx at *
 generalize by' q=gy at *
 generalize by' (a8 a)=A at *
 generalize by' (a8 c)=C at *
 generalize dXY=d at *
 grind
theorem E6:by' (1:Pf)=1:=Bf.ext λk=>by
 show (if k=0 then (1:Pf) else 0)=if k=0 then a8 ((1:Nat):Rat) else 0
 rw [p1]
theorem ai0:bx (1:Pf)=1:=by rw [<- k4,x6,k4,E6]
theorem Sq.often {a:Rat} {p q:Pf} {n N:Nat} {L:List (Rat × Pf)} (h:Sq a p q n N L) {c:Rat} (hc:0<c):Sq a p (a8 c*q) n N (mL c 1 L) where
 e:=by
  rw [ag9,E6,ai0]
  have e:by' (a8 c)*(1*1)*sqK L=by' (a8 c)*sqK L:=by grind
  rw [e]
  exact bM2 h.e
 ln:=by rw [V5];exact h.ln
 dg:=λx hx=>by
  obtain ⟨y,hy,e⟩:=q0w.mp hx
  rw [<- e]
  show Dg (1*y.2).f n
  have:1*y.2=y.2:=by grind
  rw [this];exact h.dg y hy
 li:=λd hd k hk=>by
  rw [aY0] at hd
  rw [V5] at hk
  exact h.li d (by rw [<- hd];grind) k hk
 ng:=by rw [ad0 hc];exact h.ng
theorem Sq.mul {a:Rat} {f g qf qg:Pf} {nf ng Nf Ng:Nat} {Lf Lg:List (Rat × Pf)} (hf:Sq a f qf nf Nf Lf) (hg:Sq a g qg ng Ng Lg) (c:Cop f g) (mf:Lm f nf) (mg:Lm g ng):Sq a (f*g) (qf*g+f*qg) (nf+ng) (Nf+Ng) (mL 1 g Lf ++ mL 1 f Lg) where
 e:=by
  rw [W3,ag9,ag9,k4,E6]
  have e1:1*(bx g*by' g)*sqK Lf+1*(bx f*by' f)*sqK Lg=bx g*by' g*sqK Lf+bx f*by' f*sqK Lg:=by grind
  rw [e1]
  exact bk9 hf.e hg.e
 ln:=by rw [z0g,V5,V5,hf.ln,hg.ln]
 dg:=λx hx=>by
  rcases q0t.mp hx with y | y
  ·obtain ⟨z,hz,e⟩:=q0w.mp y
   rw [<- e]
   exact λi hi=>(Dg.cv mg.dg (hf.dg z hz)) i (by lia)
  ·obtain ⟨z,hz,e⟩:=q0w.mp y
   rw [<- e]
   exact λi hi=>(Dg.cv mf.dg (hg.dg z hz)) i (by lia)
 li:=λd hd k hk=>by
  rw [bp0,aY0,aY0,V5] at hd
  have dU:=bo9 Lf d hf.dg
  have dW:=bo9 Lg (λk=>d (k+Lf.length)) hg.dg
  obtain ⟨u,w⟩:=bo6 c mf mg ⟨_,dU⟩ ⟨_,dW⟩ dU hd
  rw [z0g,V5,V5] at hk
  rcases y0v k Lf.length with y | y
  ·exact hf.li d u k y
  ·have:=hg.li _ w (k-Lf.length) ⋯
   simp only [Nat.sub_add_cancel y] at this
   exact this
 ng:=by rw [j0y,ad0 (by trivial),ad0 (by trivial),hf.ng,hg.ng]
theorem bG0 {n:Nat} {L:List (Rat × Pf)} (ln:L.length=n) (dg:∀ x ∈ L,Dg x.2.f n) (li:LI L):Ind n L:=by
 have cmb_cm:∀ (M:List (Rat × Pf)) (d:Nat->Rat),cmb d (λk=>((M[k]?).getD (0,0)).2) M.length=cm d M:=λM=>by
  induction M with
  | nil=>intro d;rfl
  | cons x r ih =>
   intro d
   rw [z0t]
   have sh:∀ (j:Nat) (d:Nat->Rat) (g:Nat->Pf),cmb d g (j+1)=a8 (d 0)*g 0+cmb (λk=>d (k+1)) (λk=>g (k+1)) j:=λj=>by
    induction j with
    | zero=>intro d g;show (0:Pf)+_=_+0;grind
    | succ j ih2 =>
     intro d g
     show cmb d g (j+1)+_=_+(cmb _ _ j+_)
     rw [ih2];grind
   rw [sh]
   show a8 (d 0)*x.2+cmb (λk=>d (k+1)) (λk=>((r[k]?).getD (0,0)).2) r.length=a8 (d 0)*x.2+cm _ r
   rw [ih]
 intro v hv
 refine bH0 (g:=λk=>((L[k]?).getD (0,0)).2) (λk hk=>?_) (λd hd=>?_) v λk hk=>?_
 ·have hk':k<L.length:=by lia
  simp only [q0d hk',q1d]
  exact dg _ (v0u hk')
 ·rw [<- ln,cmb_cm] at hd
  rw [<- ln]
  exact li d hd
 ·have hk':k<L.length:=⋯
  simp only [q0d hk',q1d]
  exact hv _ (v0u hk')
def nQ (d w:Rat):Nat:=if d=0 then 1 else (if d<0 then 1 else 0)+(if -(w / d)*(w+d*d)<0 then 1 else 0)
inductive Rf:Pf->Nat->(Rat->Nat)->Prop where
 | lin (r:Rat):Rf (pX-a8 r) 1 (λa=>if a<r then 1 else 0)
 | quad (u w:Rat) (hw:w ≠ 0):Rf ((pX-a8 u)*(pX-a8 u)+a8 w) 2 (λa=>nQ (a-u) w)
theorem aP8 (k:Nat):pX.f k=if k=1 then 1 else 0:=by
 match k with
 | 0=>rfl
 | 1=>rfl
 | k+2=>rw [if_neg ⋯];exact aq3 _ _ (by simp)
theorem J2 (c:Rat) (k:Nat):(a8 c).f k=if k=0 then c else 0:=rfl
theorem P9 (r:Rat):Lm (pX-a8 r) 1:=⟨λk hk=>by
 rw [C2,aP8,J2,if_neg ⋯,if_neg ⋯];grind,by
 rw [C2,aP8,J2,if_pos rfl,if_neg ⋯];trivial⟩
theorem bu1 (u w:Rat):Lm ((pX-a8 u)*(pX-a8 u)+a8 w) 2:=⟨λk hk=>by
 rw [C3,J2,((P9 u).mul (P9 u)).dg k ⋯,if_neg ⋯];grind,by
 rw [C3,J2,if_neg ⋯]
 have:=((P9 u).mul (P9 u)).ld
 grind⟩
theorem Rf.lm {f:Pf} {n:Nat} {N:Rat->Nat} (h:Rf f n N):Lm f n:=by
 cases h with
 | lin r=>exact P9 r
 | quad u w hw=>exact bu1 u w
theorem bI8 (p q:Pf):dP (p-q)=dP p-dP q:=Pf.ext λk=>by
 show _*(p.f (k+1)-q.f (k+1))=_*p.f (k+1)-_*q.f (k+1);grind
theorem aS4 (r:Rat):dP (pX-a8 r)=1:=by rw [bI8,dX,aH6];grind
theorem bB9 (a r:Rat):Sq a (pX-a8 r) 1 1 (if a<r then 1 else 0) [(a-r,1)] where
 e:=by
  show IsE a _ _ (by' (a8 (a-r))*(bx 1*by' 1)+0)
  unfold IsE dXY
  have ha:=x6 a
  have hr:=x6 r
  rw [z4]
  simp only [J3,M8,M7,A5,F7,D9,E6,ai0]
  rw [ha,hr]
  generalize bx pX=x
  generalize by' pX=y
  generalize by' (a8 a)=A
  generalize by' (a8 r)=B
  grind
 ln:=rfl
 dg:=λx hx=>by
  rw [q0m.mp hx]
  intro i hi
  rw [B7,if_neg ⋯]
 li:=λd hd k hk=>by
  have e:(a8 (d 0)*1+0:Pf).f 0=(0:Pf).f 0:=congrArg (λp:Pf=>p.f 0) hd
  have e2:(a8 (d 0)*1+0:Pf)=a8 (d 0):=by grind
  rw [e2,J2,if_pos rfl,t4] at e
  have:k=0:=by have:k<1:=hk;lia
  rw [this];exact e
 ng:=by
  rw [z0c]
  show 0+(if decide (a-r<0)=true then 1 else 0)=_
  by_cases h:a<r
  ·rw [if_pos h,if_pos (by rw [decide_eq_true_eq];grind)]
  ·rw [if_neg h,if_neg (by rw [decide_eq_true_eq];grind)]
theorem bF8 {u s t c e:Rat} (h:s ≠ t):LI [(c,pX-a8 u+a8 s),(e,pX-a8 u+a8 t)]:=λd hd k hk=>by
 have hd':a8 (d 0)*(pX-a8 u+a8 s)+(a8 (d 1)*(pX-a8 u+a8 t)+0)=0:=hd
 have e1:∀ i,d 0*((pX.f i-(a8 u).f i)+(a8 s).f i)+(d 1*((pX.f i-(a8 u).f i)+(a8 t).f i)+0)=0:=λi=>by
  have:=congrArg (λp:Pf=>p.f i) hd'
  simp only [C3,C2,C4,t4] at this
  exact this
 have a1:=e1 1
 have a0:=e1 0
 rw [aP8,J2,J2,J2] at a0 a1
 simp only [if_pos,if_neg,show ¬ (1:Nat)=0 by omega,show ¬ (0:Nat)=1 by omega,ite_true,ite_false] at a0 a1
 have b1:d 0+d 1=0:=by grind
 have b0:d 0*(s-t)=0:=by grind
 have c0:d 0=0:=by
  rcases z0x.mp b0 with y | y
  ·exact y
  ·exact absurd (show s=t by grind) h
 match k,hk with
 | 0,_=>exact c0
 | 1,_=>rw [c0] at b1;grind
theorem bF9 {u s c e:Rat}:LI [(c,pX-a8 u+a8 s),(e,1)]:=λd hd k hk=>by
 have hd':a8 (d 0)*(pX-a8 u+a8 s)+(a8 (d 1)*1+0)=0:=hd
 have e1:∀ i,d 0*((pX.f i-(a8 u).f i)+(a8 s).f i)+(d 1*(1:Pf).f i+0)=0:=λi=>by
  have:=congrArg (λp:Pf=>p.f i) hd'
  simp only [C3,C2,C4,t4] at this
  exact this
 have a1:=e1 1
 have a0:=e1 0
 rw [aP8,J2,J2,B7] at a0 a1
 simp only [show ¬ (1:Nat)=0 by omega,show ¬ (0:Nat)=1 by omega,ite_true,ite_false] at a0 a1
 have c0:d 0=0:=by grind
 match k,hk with
 | 0,_=>exact c0
 | 1,_=>rw [c0] at a0;grind
theorem aS0 (u s:Rat):Dg (pX-a8 u+a8 s).f 2:=λi hi=>by
 rw [C3,C2,aP8,J2,J2,if_neg ⋯,if_neg ⋯];grind
theorem aX8 (u w:Rat):dP ((pX-a8 u)*(pX-a8 u)+a8 w)=a8 2*(pX-a8 u):=by
 rw [bI9,ah8,aS4,aH6]
 have:a8 (2:Rat)=1+1:=by
  rw [show (2:Rat)=1+1 by trivial,A7,k4]
 rw [this];grind
theorem aM4 (a u w:Rat) {K:Bf} (h:K=by' (a8 (2*(a-u)))*((bx pX-by' (a8 u))*(by' pX-by' (a8 u)))+by' (a8 (2*w))*((bx pX-by' (a8 u))+(by' pX-by' (a8 u)))-by' (a8 (2*w*(a-u)))):IsE a ((pX-a8 u)*(pX-a8 u)+a8 w) (a8 2*(pX-a8 u)) K:=by
 subst h
 unfold IsE dXY
 have ha:=x6 a
 have hu:=x6 u
 have hw:=x6 w
 have h2:=x6 2
 simp only [v7,z4]
 simp only [J3,M8,M7,A5,F7,D9]
 rw [ha,hu,hw,h2]
 generalize bx pX=x
 generalize by' pX=y
 generalize by' (a8 a)=A
 generalize by' (a8 u)=U
 generalize by' (a8 w)=W
 generalize by' (a8 2)=T
 grind
theorem br6 (a u w:Rat) (hw:w ≠ 0):∃ L,Sq a ((pX-a8 u)*(pX-a8 u)+a8 w) (a8 2*(pX-a8 u)) 2 (nQ (a-u) w) L:=by
 by_cases hd:a-u=0
 ·refine ⟨[(w,pX-a8 u+a8 1),(-w,pX-a8 u+a8 (-1))],⟨aM4 a u w ?_,rfl,λx hx=>?_,bF8 (by trivial),?_⟩⟩
  ·show by' (a8 w)*(bx (pX-a8 u+a8 1)*by' (pX-a8 u+a8 1))+(by' (a8 (-w))*(bx (pX-a8 u+a8 (-1))*by' (pX-a8 u+a8 (-1)))+0)=_
   have hu:=x6 u
   have h1:a8 (-1:Rat)=0-1:=by rw [C7,k4];grind
   have h3:a8 (-w)=a8 0-a8 w:=by rw [<- z4];congr 1;grind
   have h4:a8 (0:Rat)=0:=p0
   have h2:a8 (2:Rat)=1+1:=by
    rw [show (2:Rat)=1+1 by trivial,A7,k4]
   have hz:by' (0:Pf)=0:=Bf.ext λk=>by
    show (if k=0 then (0:Pf) else 0)=if k=0 then a8 ((0:Nat):Rat) else 0
    rw [p0]
   have hz':bx (0:Pf)=0:=by rw [<- h4,x6,h4,hz]
   rw [hd,h1,h3,h4]
   simp only [v7,k4,h2,h4]
   simp only [J3,M8,M7,A5,F7,D9,E6,ai0,hz']
   rw [hu]
   generalize bx pX=x
   generalize by' pX=y
   generalize by' (a8 u)=U
   generalize by' (a8 w)=W
   grind
  ·rcases z0a.mp hx with y | y
   ·rw [y];exact aS0 u 1
   ·rw [q0m.mp y];exact aS0 u (-1)
  ·unfold nQ
   rw [if_pos hd,z0c,z0c]
   show 0+(if decide (-w<0)=true then 1 else 0)+(if decide (w<0)=true then 1 else 0)=1
   by_cases y:w<0
   ·rw [if_pos (show decide (w<0)=true by rw [decide_eq_true_eq];exact y),if_neg (by rw [decide_eq_true_eq];grind)]
   ·rw [if_neg (show ¬ decide (w<0)=true by rw [decide_eq_true_eq];exact y),if_pos (by rw [decide_eq_true_eq];grind)]
 ·have eq:w / (a-u)*(a-u)=w:=y0h hd
  generalize hq:w / (a-u)=q at eq
  refine ⟨[(2*(a-u),pX-a8 u+a8 q),(-2*(q*w+w*(a-u)),1)],⟨aM4 a u w ?_,rfl,λx hx=>?_,bF9,?_⟩⟩
  ·show by' (a8 (2*(a-u)))*(bx (pX-a8 u+a8 q)*by' (pX-a8 u+a8 q))+(by' (a8 (-2*(q*w+w*(a-u))))*(bx 1*by' 1)+0)=_
   have hu:=x6 u
   have hqb:=x6 q
   have k1:a8 (-2*(q*w+w*(a-u)))=a8 (0-2*(q*w+w*(a-u))):=by congr 1;grind
   have h4:a8 (0:Rat)=0:=p0
   have hz:by' (0:Pf)=0:=Bf.ext λk=>by
    show (if k=0 then (0:Pf) else 0)=if k=0 then a8 ((0:Nat):Rat) else 0
    rw [p0]
   have kk:by' (a8 q)*(by' (a8 a)-by' (a8 u))=by' (a8 w):=by
    rw [<- D9,<- A5,<- z4,<- v7,eq]
   rw [k1]
   simp only [v7,z4,A7,h4]
   simp only [J3,M8,M7,A5,F7,D9,E6,ai0]
   rw [hu,hqb]
   generalize bx pX=x at *
   generalize by' pX=y at *
   generalize by' (a8 a)=A at *
   generalize by' (a8 u)=U at *
   generalize by' (a8 w)=W at *
   generalize by' (a8 q)=Q at *
   generalize by' (a8 2)=T at *
   grind
  ·rcases z0a.mp hx with y | y
   ·rw [y];exact aS0 u q
   ·rw [q0m.mp y]
    intro i hi
    rw [B7,if_neg ⋯]
  ·unfold nQ
   rw [if_neg hd,z0c,z0c,hq]
   show 0+(if decide (-2*(q*w+w*(a-u))<0)=true then 1 else 0)+(if decide (2*(a-u)<0)=true then 1 else 0)=_
   have e1:(decide (2*(a-u)<0)=true)=(a-u<0):=by
    rw [decide_eq_true_eq]
    exact propext ⟨λh=>by grind,λh=>by grind⟩
   have e3:-q*(w+(a-u)*(a-u))=-(q*w+w*(a-u)):=by
    have:q*(a-u)*(a-u)=w*(a-u):=by rw [eq]
    grind
   have e2:(decide (-2*(q*w+w*(a-u))<0)=true)=(-q*(w+(a-u)*(a-u))<0):=by
    rw [decide_eq_true_eq,e3]
    exact propext ⟨λh=>by grind,λh=>by grind⟩
   simp only [e1,e2]
   lia
theorem Rf.sq {f:Pf} {n:Nat} {N:Rat->Nat} (h:Rf f n N) (a:Rat):∃ L,Sq a f (dP f) n (N a) L:=by
 cases h with
 | lin r=>rw [aS4];exact ⟨_,bB9 a r⟩
 | quad u w hw=>rw [aX8];exact br6 a u w hw
structure Rt1 where
 f:Pf
 m:Nat
 n:Nat
 N:Rat->Nat
def tfs (L:List Rt1):List (Pf × Nat):=L.map λx=>(x.f,x.m)
def nT (L:List Rt1):Nat:=(L.map (·.n)).sum
def NT (L:List Rt1) (a:Rat):Nat:=(L.map λx=>x.N a).sum
def bd3 (x:Rt1):Prop:=Rf x.f x.n x.N/\1<=x.m
theorem aa4:∀ {L:List Rt1},(∀ x ∈ L,bd3 x)->Lm (aP (tfs L) 1) (nT L)
 | [],_=>⟨λk hk=>by show (1:Pf).f k=0;rw [B7,if_neg (by have:0+1<=k:=hk;omega)],by show (1:Pf).f 0 ≠ 0;rw [B7,if_pos rfl];trivial⟩
 | x :: r,h=>by
  have hx:=h x q0c
  have ih:=aa4 (L:=r) λy hy=>h y (q0b _ hy)
  show Lm (if 1<=x.m then x.f*aP (tfs r) 1 else aP (tfs r) 1) _
  rw [if_pos hx.2]
  have:nT (x :: r)=x.n+nT r:=by unfold nT;rw [z0w,g0n]
  rw [this]
  exact hx.1.lm.mul ih
theorem aU0 (a:Rat):∀ {L:List Rt1},(∀ x ∈ L,bd3 x)->TF (tfs L)->∃ M,Sq a (aP (tfs L) 1) (sP (tfs L) 1) (nT L) (NT L a) M
 | [],_,_=>⟨[],⟨aM2 a 1,rfl,λx hx=>by simp at hx,λd _ k hk=>by simp at hk,rfl⟩⟩
 | x :: r,h,t=>by
  have hx:=h x q0c
  have hr:∀ y ∈ r,bd3 y:=λy hy=>h y (q0b _ hy)
  obtain ⟨M,hM⟩:=aU0 a hr t.2.2.2
  obtain ⟨S,hS⟩:=hx.1.sq a
  have hm:0<((x.m:Nat):Rat):=Rat.natCast_pos.mpr hx.2
  have c:Cop x.f (aP (tfs r) 1):=aS6 t.1 (TF.fn t.2.2.2) t.2.2.1 1
  have key:=(hS.often hm).mul hM c hx.1.lm (aa4 hr)
  have e1:nT (x :: r)=x.n+nT r:=by unfold nT;rw [z0w,g0n]
  have e2:NT (x :: r) a=x.N a+NT r a:=by unfold NT;rw [z0w,g0n]
  rw [e1,e2]
  show ∃ M,Sq a (if 1<=x.m then x.f*aP (tfs r) 1 else aP (tfs r) 1) (if 1<=x.m then a8 ((x.m+1-1:Nat):Rat)*(dP x.f*aP (tfs r) 1)+x.f*sP (tfs r) 1 else sP (tfs r) 1) _ _ M
  rw [if_pos hx.2,if_pos hx.2,z0z]
  have e3:a8 (x.m:Rat)*(dP x.f*aP (tfs r) 1)+x.f*sP (tfs r) 1=a8 (x.m:Rat)*dP x.f*aP (tfs r) 1+x.f*sP (tfs r) 1:=by grind
  rw [e3]
  exact ⟨_,key⟩
def At (a:Rat) (p:Pf) (c:Rat):Prop:=∃ R,Fn R/\p=a8 c+(pX-a8 a)*R
theorem Q3 (a c:Rat):At a (a8 c) c:=⟨0,F9,by grind⟩
theorem bm7 (a:Rat):Fn (pX-a8 a):=(P9 a).fn
theorem At.add {a c d:Rat} {p q:Pf} (h:At a p c) (k:At a q d):At a (p+q) (c+d):=by
 obtain ⟨R,fR,e⟩:=h
 obtain ⟨S,fS,e'⟩:=k
 exact ⟨R+S,fR.add fS,by rw [A7,e,e'];grind⟩
theorem At.sub {a c d:Rat} {p q:Pf} (h:At a p c) (k:At a q d):At a (p-q) (c-d):=by
 obtain ⟨R,fR,e⟩:=h
 obtain ⟨S,fS,e'⟩:=k
 exact ⟨R-S,fR.sub fS,by rw [z4,e,e'];grind⟩
theorem At.mul {a c d:Rat} {p q:Pf} (h:At a p c) (k:At a q d):At a (p*q) (c*d):=by
 obtain ⟨R,fR,e⟩:=h
 obtain ⟨S,fS,e'⟩:=k
 refine ⟨a8 c*S+a8 d*R+(pX-a8 a)*R*S,(((v5 _).mul fS).add ((v5 _).mul fR)).add (((bm7 a).mul fR).mul fS),?_⟩
 rw [v7,e,e']
 generalize a8 c=C
 generalize a8 d=D
 generalize pX-a8 a=X
 grind
theorem M9 {a c d:Rat} {p:Pf} (h:At a p c) (k:At a p d):c=d:=by
 obtain ⟨R,fR,e⟩:=h
 obtain ⟨S,fS,e'⟩:=k
 have e1:(pX-a8 a)*(R-S)=a8 (d-c):=by rw [z4];grind
 have z:=(P9 a).zero (fR.sub fS) (by
  rw [e1]
  intro i hi
  rw [J2,if_neg ⋯])
 rw [z] at e1
 have e2:(a8 (d-c)).f 0=0:=by
  rw [<- e1]
  have:(pX-a8 a)*0=0:=by grind
  rw [this,t4]
 rw [J2,if_pos rfl] at e2
 grind
def dwn (p:Pf):Pf:=⟨λk=>p.f (k+1)⟩
theorem am1 (p:Pf):p=a8 (p.f 0)+pX*dwn p:=Pf.ext λk=>by
 rw [C3,J2,Y5]
 cases k with
 | zero=>rw [if_pos rfl,if_pos rfl];grind
 | succ k=>rw [if_neg ⋯,if_neg ⋯];show _=0+p.f (k+1-1+1);rw [z0z];grind
theorem hor (a:Rat):∀ (n:Nat) (p:Pf),Dg p.f (n+1)->∃ c R,Dg R.f n/\p=a8 c+(pX-a8 a)*R
 | 0,p,h=>⟨p.f 0,0,λi _=>t4 i,by
  have e:=am1 p
  have z:dwn p=0:=Pf.ext λk=>by rw [t4];exact h (k+1) (by simp)
  rw [z] at e
  rw [e]
  have:(a8 (p.f 0)+pX*0).f 0=p.f 0:=by rw [<- e]
  grind⟩
 | n+1,p,h=>by
  obtain ⟨c,R,dR,e⟩:=hor a n (dwn p) λk hk=>h (k+1) (by lia)
  refine ⟨p.f 0+a*c,a8 c+pX*R,λi hi=>?_,?_⟩
  ·rw [C3,J2,Y5,if_neg (by lia),if_neg ⋯,dR _ ⋯];grind
  ·have e1:=am1 p
   rw [e] at e1
   rw [A7,v7]
   generalize a8 (p.f 0)=P at *
   grind
theorem bA1 (a:Rat) {p:Pf} (h:Fn p):∃ c,At a p c:=by
 obtain ⟨n,hn⟩:=h
 obtain ⟨c,R,dR,e⟩:=hor a n p λk hk=>hn k (by exact Nat.le_of_lt ‹_›)
 exact ⟨c,R,⟨_,dR⟩,e⟩
structure Evl (t:Rat->Pf->Rat):Prop where
 at':∀ a p,Fn p->At a p (t a p)
theorem bI4:∃ t,Evl t:=by
 have h:∀ x:Rat × Pf,∃ c,Fn x.2->At x.1 x.2 c:=λx=>by
  by_cases f:Fn x.2
  ·obtain ⟨c,hc⟩:=bA1 x.1 f
   exact ⟨c,λ_=>hc⟩
  ·exact ⟨0,λz=>absurd z f⟩
 obtain ⟨t,ht⟩:=Classical.axiomOfChoice h
 exact ⟨λa p=>t (a,p),⟨λa p f=>ht (a,p) f⟩⟩
def nB (lead:Rat):Nat->Nat
 | 0=>0
 | 1=>if 0<lead then 1 else 0
 | m+2=>nB lead m+1
theorem al8 (n:Nat) (p q:Pf) (v:Nat->Rat):lf n (p+q).f v=lf n p.f v+lf n q.f v:=by
 unfold lf
 rw [N4]
 exact i4 λi _=>by rw [C3];grind
theorem al7 (n:Nat) (p q:Pf) (v:Nat->Rat):lf n (p-q).f v=lf n p.f v-lf n q.f v:=by
 have h:=al8 n (p-q) q v
 have e:p-q+q=p:=by grind
 rw [e] at h
 grind
theorem aQ9 (n:Nat) (c:Rat) (p:Pf) (v:Nat->Rat):lf n (a8 c*p).f v=c*lf n p.f v:=by
 unfold lf
 rw [F3]
 exact i4 λi _=>by rw [C4];grind
theorem bO6 (n:Nat) (p:Pf) (v:Nat->Rat):lf (n+1) (pX*p).f v=lf n p.f λi=>v (i+1):=by
 unfold lf
 rw [G1,Y5,if_pos rfl,i4 (g:=λi=>p.f i*v (i+1)) λi _=>by
  show (pX*p).f (i+1)*v (i+1)=_
  rw [Y5,if_neg ⋯,z0z]]
 grind
theorem ab3 {m n:Nat} {p:Pf} (h:Dg p.f m) (hm:m<=n) (v:Nat->Rat):lf n p.f v=lf m p.f v:=by
 obtain ⟨k,rfl⟩:∃ k,n=m+k:=⟨n-m,by lia⟩
 induction k with
 | zero=>rfl
 | succ k ih =>
  show lf (m+k) p.f v+p.f (m+k)*v (m+k)=_
  rw [ih (by simp),h _ ⋯];grind
theorem aG7 {n:Nat} {p:Pf} (l:Lm p n) {v:Nat->Rat} (h:∀ i,i<n->v i=0) (z:lf (n+1) p.f v=0):v n=0:=by
 have e:lf (n+1) p.f v=0+p.f n*v n:=by
  show i6 _ n+_=_
  rw [w8 n λi hi=>by rw [h i hi];grind]
 rw [e] at z
 rcases z0x.mp (show p.f n*v n=0 by grind) with y | y
 ·exact absurd y l.ld
 ·exact y
theorem aR2 (u B:Pf):sqK [(-1 / 4,u+B),(1 / 4,u-B)]=0-by' (a8 (1 / 2))*(bx u*by' B+bx B*by' u):=by
 show by' (a8 (-1 / 4))*(bx (u+B)*by' (u+B))+(by' (a8 (1 / 4))*(bx (u-B)*by' (u-B))+0)=_
 have k1:by' (a8 (-1 / 4:Rat))=0-by' (a8 (1 / 4)):=by
  have h0:a8 (-1 / 4:Rat)=0-a8 (1 / 4):=by rw [show (-1 / 4:Rat)=0-1 / 4 by trivial,z4,show a8 (0:Rat)=0 from p0]
  have hz:by' (0:Pf)=0:=Bf.ext λk=>by
   show (if k=0 then (0:Pf) else 0)=if k=0 then a8 ((0:Nat):Rat) else 0
   rw [p0]
  rw [h0,D9,hz]
 have k2:by' (a8 (1 / 2:Rat))=by' (a8 (1 / 4))+by' (a8 (1 / 4)):=by
  rw [<- F7,<- A7,show (1 / 4+1 / 4:Rat)=1 / 2 by trivial]
 rw [k1,k2]
 simp only [M8,M7,F7,D9]
 generalize by' (a8 (1 / 4))=C
 generalize bx u=p
 generalize by' u=q
 generalize bx B=r
 generalize by' B=s
 grind
theorem bw2 (R:Pf):del R=by' (a8 (1 / 2))*(bx 1*by' (a8 2*dwn R-a8 (R.f 1))+bx (a8 2*dwn R-a8 (R.f 1))*by' 1)+bx pX*by' pX*del (dwn (dwn R)):=by
 refine ay0 ?_
 rw [aS2]
 have hd:=aS2 (dwn (dwn R))
 have e0:=am1 R
 have e1:=am1 (dwn R)
 have c0:=x6 (R.f 0)
 have c1:=x6 (R.f 1)
 have c2:=x6 2
 have hh:by' (a8 (1 / 2))*by' (a8 2)=1:=by
  rw [<- A5,<- v7,show (1 / 2:Rat)*2=1 by trivial,k4,E6]
 have h2:by' (a8 (2:Rat))=1+1:=by
  rw [show (2:Rat)=1+1 by trivial,A7,F7,k4,E6]
 have e1':dwn R=a8 (R.f 1)+pX*dwn (dwn R):=e1
 have x0:bx R=by' (a8 (R.f 0))+bx pX*bx (dwn R):=by rw [<- c0,<- J3,<- M8,<- e0]
 have y0:by' R=by' (a8 (R.f 0))+by' pX*by' (dwn R):=by rw [<- A5,<- F7,<- e0]
 have x1:bx (dwn R)=by' (a8 (R.f 1))+bx pX*bx (dwn (dwn R)):=by rw [<- c1,<- J3,<- M8,<- e1']
 have y1:by' (dwn R)=by' (a8 (R.f 1))+by' pX*by' (dwn (dwn R)):=by rw [<- A5,<- F7,<- e1']
 simp only [M7,J3,D9,A5,E6,ai0]
 rw [c2,c1]
 unfold dXY at *
 generalize bx (dwn (dwn R))=x2 at *
 generalize by' (dwn (dwn R))=y2 at *
 generalize bx (dwn R)=x1' at *
 generalize by' (dwn R)=y1' at *
 generalize bx R=x0' at *
 generalize by' R=y0' at *
 generalize by' (a8 (R.f 0))=A at *
 generalize by' (a8 (R.f 1))=B at *
 generalize by' (a8 (1 / 2))=H at *
 generalize by' (a8 2)=T at *
 generalize bx pX=x at *
 generalize by' pX=y at *
 generalize del (dwn (dwn R))=D at *
 subst x0 y0 x1 y1
 grind
theorem bw1 {R:Pf} (h:Dg R.f 1):del R=0:=aI3 λi j=>by
 rw [bN1];exact h (i+j+1) (by simp)
theorem bw0 {R:Pf} (h:Dg R.f 2):del R=by' (a8 (R.f 1)):=aI3 λi j=>by
 show R.f (i+j+1)=(if i=0 then a8 (R.f 1) else 0:Pf).f j
 by_cases hi:i=0
 ·rw [if_pos hi,J2,hi]
  by_cases hj:j=0
  ·rw [if_pos hj,hj]
  ·rw [if_neg hj];exact h _ (by lia)
 ·rw [if_neg hi,t4];exact h _ (by lia)
theorem bJ4 (c:Rat):by' (a8 (-c))=0-by' (a8 c):=by
 have h0:a8 (-c)=0-a8 c:=by rw [C7];grind
 have hz:by' (0:Pf)=0:=Bf.ext λk=>by
  show (if k=0 then (0:Pf) else 0)=if k=0 then a8 ((0:Nat):Rat) else 0
  rw [p0]
 rw [h0,D9,hz]
theorem blk:∀ (m:Nat) (R:Pf),Lm R m->∃ B:List (Rat × Pf),sqK B=0-del R/\B.length=m/\(∀ x ∈ B,Dg x.2.f m)/\Ind m B/\B.countP ah5=nB (R.f m) m
 | 0,R,h=>⟨[],by rw [bw1 h.dg];show (0:Bf)=0-0;grind,rfl,λx hx=>by simp at hx,λv _ i hi=>⋯,rfl⟩
 | 1,R,h=>by
  refine ⟨[(-R.f 1,1)],?_,rfl,λx hx=>?_,λv hv i hi=>?_,?_⟩
  ·show by' (a8 (-R.f 1))*(bx 1*by' 1)+0=_
   rw [bw0 h.dg,bJ4,ai0,E6];grind
  ·rw [q0m.mp hx]
   intro i hi
   rw [B7,if_neg ⋯]
  ·have e:=hv _ q0c
   have e2:lf 1 (1:Pf).f v=0+1*v 0:=rfl
   have:lf 1 (1:Pf).f v=0:=e
   rw [e2] at this
   have i0:i=0:=by lia
   rw [i0];grind
  ·rw [z0c]
   show 0+(if decide (-R.f 1<0)=true then 1 else 0)=if 0<R.f 1 then 1 else 0
   by_cases y:0<R.f 1
   ·rw [if_pos y,if_pos (by rw [decide_eq_true_eq];grind)]
   ·rw [if_neg y,if_neg (by rw [decide_eq_true_eq];grind)]
 | m+2,R,h=>by
  obtain ⟨B,hB,lB,dB,iB,nBB⟩:=blk m (dwn (dwn R)) ⟨λk hk=>h.dg (k+2) (by lia),h.ld⟩
  refine ⟨[(-1 / 4,1+(a8 2*dwn R-a8 (R.f 1))),(1 / 4,1-(a8 2*dwn R-a8 (R.f 1)))] ++ mL 1 pX B,?_,?_,λx hx=>?_,λv hv=>?_,?_⟩
  ·rw [W3,aR2,ag9,hB,k4,bw2 R,E6]
   generalize by' (a8 (1 / 2))*(bx 1*by' (a8 2*dwn R-a8 (R.f 1))+bx (a8 2*dwn R-a8 (R.f 1))*1)=K1
   generalize del (dwn (dwn R))=D
   grind
  ·rw [z0g,V5,lB];show 2+m=m+2;lia
  ·have d1:Dg (a8 2*dwn R-a8 (R.f 1)).f (m+2):=λi hi=>by
    rw [C2,C4,J2,if_neg (by lia)]
    show 2*R.f (i+1)-0=0
    rw [h.dg (i+1) (by lia)];grind
   have d0:Dg (1:Pf).f (m+2):=λi hi=>by rw [B7,if_neg ⋯]
   rcases q0t.mp hx with y | y
   ·rcases z0a.mp y with z | z
    ·rw [z]
     intro i hi
     show (1+(a8 2*dwn R-a8 (R.f 1)):Pf).f i=0
     rw [C3,d0 i hi,d1 i hi];grind
    ·rw [q0m.mp z]
     intro i hi
     show (1-(a8 2*dwn R-a8 (R.f 1)):Pf).f i=0
     rw [C2,d0 i hi,d1 i hi];grind
   ·obtain ⟨z,hz,e⟩:=q0w.mp y
    rw [<- e]
    intro i hi
    show (pX*z.2).f i=0
    rw [Y5,if_neg ⋯]
    exact dB z hz _ (by lia)
  ·have a1:=hv (-1 / 4,1+(a8 2*dwn R-a8 (R.f 1))) (q0t.mpr (.inl q0c))
   have a2:=hv (1 / 4,1-(a8 2*dwn R-a8 (R.f 1))) (q0t.mpr (.inl (q0b _ q0c)))
   simp only at a1 a2
   rw [al8] at a1
   rw [al7] at a2
   have k1:lf (m+2) (1:Pf).f v=0:=by grind
   have k2:lf (m+2) (a8 2*dwn R-a8 (R.f 1)).f v=0:=by grind
   have one:lf (m+2) (1:Pf).f v=v 0:=by
    have d0:Dg (1:Pf).f 1:=λi hi=>by rw [B7,if_neg (by lia)]
    rw [ab3 d0 (by simp)]
    show 0+(1:Pf).f 0*v 0=v 0
    rw [B7,if_pos rfl];grind
   have v0:v 0=0:=by rw [<- one];exact k1
   have mid:∀ i,i<m->v (i+1)=0:=by
    refine iB (λi=>v (i+1)) λx hx=>?_
    have:=hv (1*x.1,pX*x.2) (q0t.mpr (.inr (q0w.mpr ⟨x,hx,rfl⟩)))
    simp only at this
    rw [bO6,ab3 (dB x hx) (by simp)] at this
    exact this
   have low:∀ i,i<m+1->v i=0:=λi hi=>by
    cases i with
    | zero=>exact v0
    | succ i=>exact mid i (by lia)
   have lB2:Lm (a8 2*dwn R-a8 (R.f 1)) (m+1):=⟨λi hi=>by
    rw [C2,C4,J2,if_neg (by lia)]
    show 2*R.f (i+1)-0=0
    rw [h.dg (i+1) (by lia)];grind,by
    rw [C2,C4,J2,if_neg (by simp)]
    show 2*R.f (m+1+1)-0 ≠ 0
    have:=h.ld
    have e:R.f (m+2)=R.f (m+1+1):=rfl
    rw [e] at this
    intro z
    have:R.f (m+1+1)=0:=by grind
    contradiction⟩
   have top:=aG7 lB2 low k2
   intro i hi
   by_cases z:i=m+1
   ·rw [z];exact top
   ·exact low i (by lia)
  ·rw [j0y,ad0 (by trivial),nBB,z0c,z0c]
   show 0+(if decide ((1 / 4:Rat)<0)=true then 1 else 0)+(if decide ((-1 / 4:Rat)<0)=true then 1 else 0)+nB (R.f (m+2)) m=nB (R.f (m+2)) m+1
   rw [if_neg (by trivial),if_pos (by trivial)]
   lia
def xp:Nat->Pf->Pf
 | 0,g=>g
 | i+1,g=>xp i (pX*g)
theorem bk0 (N:Nat) (v:Nat->Rat):∀ (k:Nat) (h g:Pf),Dg h.f k->lf N (g*h).f v=lf k h.f λi=>lf N (xp i g).f v
 | 0,h,g,d=>by
  have z:h=0:=Pf.ext λi=>by rw [t4];exact d i ⋯
  rw [z]
  have:g*0=0:=by grind
  rw [this]
  show lf N (0:Pf).f v=0
  exact w8 _ λi _=>by rw [t4];grind
 | k+1,h,g,d=>by
  have ih:=bk0 N v k (dwn h) (pX*g) λi hi=>d (i+1) ⋯
  have e:=am1 h
  have e2:g*h=a8 (h.f 0)*g+pX*g*dwn h:=by
   generalize a8 (h.f 0)=c at *
   generalize dwn h=s at *
   rw [e];grind
  rw [e2,al8,aQ9,ih]
  show _=i6 _ (k+1)
  rw [G1]
  rfl
theorem bO5 {g:Pf} {n:Nat} (h:Lm g n):Lm (pX*g) (n+1):=⟨λi hi=>by
 rw [Y5,if_neg (by lia)];exact h.dg _ ⋯,by rw [Y5,if_neg ⋯];exact h.ld⟩
theorem bx6:∀ (i:Nat) {g:Pf} {n:Nat},Lm g n->Lm (xp i g) (n+i)
 | 0,g,n,h=>h
 | i+1,g,n,h=>by
  have:=bx6 i (bO5 h)
  rw [show n+(i+1)=n+1+i by lia]
  exact this
theorem aY1 {k n:Nat} {g:Pf} {B:List (Rat × Pf)} (lg:Lm g n) (dB:∀ x ∈ B,Dg x.2.f k) (iB:Ind k B) {v:Nat->Rat} (low:∀ i,i<n->v i=0) (hv:∀ x ∈ mL 1 g B,lf (n+k) x.2.f v=0):∀ i,i<n+k->v i=0:=by
 have w:∀ i,i<k->lf (n+k) (xp i g).f v=0:=iB (λi=>lf (n+k) (xp i g).f v) λx hx=>by
  have:=hv (1*x.1,g*x.2) (q0w.mpr ⟨x,hx,rfl⟩)
  simp only at this
  rw [bk0 _ v k x.2 g (dB x hx)] at this
  exact this
 have step:∀ j,j<=k->∀ i,i<n+j->v i=0:=λj=>by
  induction j with
  | zero=>intro _;exact low
  | succ j ih =>
   intro hj
   have l:=bx6 j lg
   have z:=w j ⋯
   rw [ab3 l.dg (by lia)] at z
   have t:=aG7 l (ih ⋯) z
   intro i hi
   by_cases y:i=n+j
   ·rw [y];exact t
   ·exact ih (by exact Nat.le_of_lt ‹_›) i (by lia)
 exact step k (q0q _)
inductive St:Pf->Pf->List Pf->Nat->Prop where
 | last {p:Pf} {n:Nat} {c:Rat} (hp:Lm p (n+1)) (hc:c ≠ 0):St p (a8 c) [] (n+1)
 | step {p q r Q:Pf} {l:List Pf} {k n:Nat} (e:p=Q*q-r) (hQ:Lm Q (k+1)) (h:St q r l n):St p q (r :: l) (k+1+n)
theorem St.lm {p q:Pf} {l:List Pf} {n:Nat} (h:St p q l n):Lm p n/\Dg q.f n:=by
 induction h with
 | last hp hc=>exact ⟨hp,λi hi=>by rw [J2,if_neg ⋯]⟩
 | @step p q r Q l k n e hQ h ih =>
  obtain ⟨lq,dr⟩:=ih
  have lQq:=hQ.mul lq
  refine ⟨⟨λi hi=>?_,?_⟩,λi hi=>lq.dg i (by lia)⟩
  ·rw [e,C2,lQq.dg i hi,dr i (by lia)];grind
  ·rw [e,C2,dr _ (by simp)]
   have:=lQq.ld
   grind
def chg:Rat->List Rat->Nat
 | _,[]=>0
 | b,s :: r=>(if s*b<0 then 1 else 0)+chg (if s=0 then b else s) r
structure F1 (t:Rat->Pf->Rat) (a:Rat) (p q:Pf) (l:List Pf) (n C:Nat) (R:List (Rat × Pf)):Prop where
 e:IsE a p q (by' (a8 (t a p / t a q))*(bx q*by' q)+sqK R)
 ln:R.length+1=n
 dg:∀ x ∈ R,Dg x.2.f n
 ind:∀ v:Nat->Rat,lf n q.f v=0->(∀ x ∈ R,lf n x.2.f v=0)->∀ i,i<n->v i=0
 ng:R.countP ah5=chg (t a q) (l.map (t a))+C
structure F0 (t:Rat->Pf->Rat) (a:Rat) (p q r:Pf) (l:List Pf) (n C:Nat) (z:Rat) (R:List (Rat × Pf)):Prop where
 nz:t a r ≠ 0
 op:t a p=- t a r
 e:IsE a p q (by' (a8 z)*(bx q*by' q)-bx q*by' r-bx r*by' q+sqK R)
 ln:R.length+2=n
 dg:∀ x ∈ R,Dg x.2.f n
 dr:Dg r.f n
 ind:∀ v:Nat->Rat,lf n q.f v=0->lf n r.f v=0->(∀ x ∈ R,lf n x.2.f v=0)->∀ i,i<n->v i=0
 ng:R.countP ah5=chg (t a r) (l.map (t a))+C
theorem quo (a:Rat) {Q:Pf} {k:Nat} (h:Lm Q (k+1)):∃ c S B,Q=a8 c+(pX-a8 a)*S/\Fn S/\At a Q c/\sqK B=0-del S/\B.length=k/\(∀ x ∈ B,Dg x.2.f k)/\Ind k B/\B.countP ah5=nB (Q.f (k+1)) k:=by
 obtain ⟨c,S,dS,e⟩:=hor a (k+1) Q h.dg
 have top:Q.f (k+1)=S.f k:=by
  have e1:Q.f (k+1)=(a8 c).f (k+1)+((pX-a8 a)*S).f (1+k):=by
   rw [show 1+k=k+1 by lia,<- C3,<- e]
  have e2:((pX-a8 a)*S).f (1+k)=(pX-a8 a).f 1*S.f k:=ad6 (P9 a).dg dS
  rw [e1,e2,J2,if_neg ⋯,C2,aP8,J2,if_pos rfl,if_neg ⋯];grind
 have lS:Lm S k:=⟨dS,by rw [<- top];exact h.ld⟩
 obtain ⟨B,b1,b2,b3,b4,b5⟩:=blk k S lS
 exact ⟨c,S,B,e,lS.fn,⟨S,lS.fn,e⟩,b1,b2,b3,b4,by rw [top];exact b5⟩
theorem aq5 {f:Nat->Rat} {m n:Nat} (h:Dg f m) (k:m<=n):Dg f n:=λi hi=>h i (by lia)
theorem bp6 {k n:Nat} {g:Pf} {B:List (Rat × Pf)} (lg:Lm g n) (dB:∀ x ∈ B,Dg x.2.f k):∀ x ∈ mL 1 g B,Dg x.2.f (n+k):=λx hx=>by
 obtain ⟨z,hz,e⟩:=q0w.mp hx
 rw [<- e]
 exact λi hi=>(Dg.cv lg.dg (dB z hz)) i (by lia)
theorem bJ3:by' (0:Pf)=0:=Bf.ext λk=>by
 show (if k=0 then (0:Pf) else 0)=if k=0 then a8 ((0:Nat):Rat) else 0
 rw [p0]
theorem bP2:bx (0:Pf)=0:=by
 have h4:a8 (0:Rat)=0:=p0
 rw [<- h4,x6,h4,bJ3]
theorem aU1 (g:Pf) {S:Pf} {B:List (Rat × Pf)} (h:sqK B=0-del S):sqK (mL 1 g B)=0-bx g*by' g*del S:=by
 rw [ag9,h,k4,E6];grind
theorem bI3 {t:Rat->Pf->Rat} (T:Evl t) {p:Pf} {n:Nat} {c:Rat} (hp:Lm p (n+1)) (hc:c ≠ 0):∃ C,∀ a,t a (a8 c)=c/\∃ R,F1 t a p (a8 c) [] (n+1) C R:=by
 have lQ:Lm (a8 c⁻¹*p) (n+1):=⟨λi hi=>by rw [C4,hp.dg i hi];grind,by
  rw [C4]
  intro z
  rcases z0x.mp z with y | y
  ·exact hc (by rw [<- Rat.inv_inv c,y];trivial)
  ·exact hp.ld y⟩
 refine ⟨nB ((a8 c⁻¹*p).f (n+1)) n,λa=>?_⟩
 have tq:t a (a8 c)=c:=M9 (T.at' a _ (v5 c)) (Q3 a c)
 refine ⟨tq,?_⟩
 obtain ⟨z,S,B,eQ,fS,aQ,b1,b2,b3,b4,b5⟩:=quo a lQ
 have ep:p=a8 c⁻¹*p*a8 c-0:=by
  have:=z5 hc
  grind
 have E:=aj5 ep eQ (aM2 a (a8 c))
 have lg:Lm ((pX-a8 a)*a8 c) 1:=by
  have l0:Lm (a8 c) 0:=⟨λi hi=>by rw [J2,if_neg (by lia)],by rw [J2,if_pos rfl];exact hc⟩
  exact (P9 a).mul l0
 have tz:t a p / t a (a8 c)=z:=by
  have h1:=T.at' a p hp.fn
  have h2:=(Q3 a c⁻¹).mul h1
  have h3:=M9 h2 aQ
  rw [tq,y0j,j1d];exact h3
 refine ⟨mL 1 ((pX-a8 a)*a8 c) B,⟨?_,by rw [V5,b2],?_,?_,?_⟩⟩
 ·rw [tz,aU1 _ b1]
  rw [bJ3,bP2] at E
  generalize bx ((pX-a8 a)*a8 c)*by' ((pX-a8 a)*a8 c)*del S=K at *
  generalize by' (a8 z)*(bx (a8 c)*by' (a8 c))=M at *
  have e:M+(0-K)=M-K-bx (a8 c)*0-0*by' (a8 c)+0:=by grind
  rw [e];exact E
 ·have:=bp6 lg b3
  rw [q1b] at this
  exact this
 ·intro v hv hB
  have v0:∀ i,i<1->v i=0:=λi hi=>by
   have l0:Lm (a8 c) 0:=⟨λi hi=>by rw [J2,if_neg (by lia)],by rw [J2,if_pos rfl];exact hc⟩
   rw [ab3 (m:=0+1) l0.dg (by simp)] at hv
   have:=aG7 l0 (λi hi=>by lia) hv
   rw [show i=0 by lia];exact this
  rw [show n+1=1+n by lia] at hB ⊢
  exact aY1 lg b3 b4 v0 hB
 ·rw [ad0 (by trivial),b5,tq]
  show _=0+_
  simp
theorem bI2 {t:Rat->Pf->Rat} (T:Evl t) {p q r Q:Pf} {l:List Pf} {k n C:Nat} (ep:p=Q*q-r) (hQ:Lm Q (k+1)) (lq:Lm q n) (dr:Dg r.f n) (a:Rat) (h1:t a r ≠ 0->∃ R,F1 t a q r l n C R) (h0:t a r=0->∃ r2 l2 z R,l=r2 :: l2/\F0 t a q r r2 l2 n C z R) :
  (t a q ≠ 0->∃ R,F1 t a p q (r :: l) (k+1+n) (C+nB (Q.f (k+1)) k) R)/\(t a q=0->∃ z R,F0 t a p q r l (k+1+n) (C+nB (Q.f (k+1)) k) z R):=by
 obtain ⟨c,S,B,eQ,fS,aQ,b1,b2,b3,b4,b5⟩:=quo a hQ
 have fq:Fn q:=lq.fn
 have fr:Fn r:=⟨_,dr⟩
 have fp:Fn p:=by rw [ep];exact (hQ.fn.mul fq).sub fr
 have tp:t a p=c*t a q-t a r:=by
  have x:=T.at' a p fp
  have y:=(aQ.mul (T.at' a q fq)).sub (T.at' a r fr)
  rw [<- ep] at y
  exact M9 x y
 have lg:Lm ((pX-a8 a)*q) (n+1):=by
  have:=(P9 a).mul lq
  rw [q1b] at this
  exact this
 have dBL:=bp6 lg b3
 have sK:=aU1 ((pX-a8 a)*q) b1
 have lBL:(mL 1 ((pX-a8 a)*q) B).length=k:=by rw [V5,b2]
 have nBL:(mL 1 ((pX-a8 a)*q) B).countP ah5=nB (Q.f (k+1)) k:=by rw [ad0 (by trivial),b5]
 have nn:k+1+n=n+1+k:=by lia
 have fin:∀ v:Nat->Rat,(∀ i,i<n->v i=0)->lf (k+1+n) q.f v=0->(∀ x ∈ mL 1 ((pX-a8 a)*q) B,lf (k+1+n) x.2.f v=0)->∀ i,i<k+1+n->v i=0:=λv low hq hB=>by
  rw [ab3 lq.dg (by lia)] at hq
  have vn:=aG7 lq low hq
  have low':∀ i,i<n+1->v i=0:=λi hi=>by
   by_cases y:i=n
   ·rw [y];exact vn
   ·exact low i (by lia)
  rw [nn] at hB ⊢
  exact aY1 lg b3 b4 low' hB
 rw [<- nn] at dBL
 generalize mL 1 ((pX-a8 a)*q) B=BL at *
 refine ⟨λhq=>?_,λhq=>?_⟩
 ·by_cases hr:t a r=0
  ·obtain ⟨r2,l2,z,R,el,F⟩:=h0 hr
   have E:=aj5 ep eQ F.e
   have cz:t a p / t a q=c:=by rw [tp,hr,show c*t a q-0=c*t a q by grind,Rat.mul_div_cancel hq]
   refine ⟨[(-1 / 4,r+(a8 2*(q+r2)-a8 z*r)),(1 / 4,r-(a8 2*(q+r2)-a8 z*r))] ++ (BL ++ R),⟨?_,?_,λx hx=>?_,λv hv hR=>?_,?_⟩⟩
   ·rw [cz,W3,W3,aR2,sK]
    have hh:by' (a8 (1 / 2))*by' (a8 2)=1:=by
     rw [<- A5,<- v7,show (1 / 2:Rat)*2=1 by trivial,k4,E6]
    have h2:by' (a8 (2:Rat))=1+1:=by
     rw [show (2:Rat)=1+1 by trivial,A7,F7,k4,E6]
    have c2:=x6 2
    have cz':=x6 z
    generalize bx ((pX-a8 a)*q)*by' ((pX-a8 a)*q)*del S=K at *
    have e:by' (a8 c)*(bx q*by' q)-K-bx q*by' r-bx r*by' q+(by' (a8 z)*(bx r*by' r)-bx r*by' r2-bx r2*by' r+sqK R)=by' (a8 c)*(bx q*by' q)+(0-by' (a8 (1 / 2))*(bx r*by' (a8 2*(q+r2)-a8 z*r)+bx (a8 2*(q+r2)-a8 z*r)*by' r)+(0-K+sqK R)):=by
     simp only [J3,M8,M7,A5,F7,D9]
     rw [c2,cz']
     generalize sqK R=SR
     generalize by' (a8 (1 / 2))=H at *
     generalize by' (a8 2)=W at *
     generalize by' (a8 z)=Z at *
     generalize by' (a8 c)=D at *
     generalize bx q=qx at *
     generalize by' q=qy at *
     generalize bx r=rx at *
     generalize by' r=ry at *
     generalize bx r2=sx at *
     generalize by' r2=sy at *
     clear E sK
     grind
    rw [<- e];exact E
   ·rw [z0g,z0g,lBL]
    have:=F.ln
    show 2+(k+R.length)+1=k+1+n
    lia
   ·have dB2:Dg (a8 2*(q+r2)-a8 z*r).f (k+1+n):=λi hi=>by
     rw [C2,C4,C4,C3,lq.dg i (by lia),F.dr i (by lia),dr i ⋯];grind
    rcases q0t.mp hx with y | y
    ·rcases z0a.mp y with w | w
     ·rw [w]
      intro i hi
      show (r+(a8 2*(q+r2)-a8 z*r):Pf).f i=0
      rw [C3,dr i ⋯,dB2 i hi];grind
     ·rw [q0m.mp w]
      intro i hi
      show (r-(a8 2*(q+r2)-a8 z*r):Pf).f i=0
      rw [C2,dr i ⋯,dB2 i hi];grind
    ·rcases q0t.mp y with w | w
     ·exact dBL x w
     ·exact aq5 (F.dg x w) (by simp)
   ·have a1:=hR (-1 / 4,r+(a8 2*(q+r2)-a8 z*r)) (q0t.mpr (.inl q0c))
    have a2:=hR (1 / 4,r-(a8 2*(q+r2)-a8 z*r)) (q0t.mpr (.inl (q0b _ q0c)))
    simp only at a1 a2
    rw [al8] at a1
    rw [al7] at a2
    have k1:lf (k+1+n) r.f v=0:=by grind
    have k2:lf (k+1+n) (a8 2*(q+r2)-a8 z*r).f v=0:=by grind
    rw [al7,aQ9,aQ9,al8,hv,k1] at k2
    have k3:lf (k+1+n) r2.f v=0:=by grind
    refine fin v (F.ind v ?_ ?_ λx hx=>?_) hv λx hx=>hR x (q0t.mpr (.inr (q0t.mpr (.inl hx))))
    ·rw [<- ab3 dr (show n<=k+1+n by omega)];exact k1
    ·rw [<- ab3 F.dr (show n<=k+1+n by omega)];exact k3
    ·rw [<- ab3 (F.dg x hx) (show n<=k+1+n by omega)]
     exact hR x (q0t.mpr (.inr (q0t.mpr (.inr hx))))
   ·rw [j0y,j0y,nBL,F.ng,z0c,z0c,el]
    show 0+(if decide ((1 / 4:Rat)<0)=true then 1 else 0)+(if decide ((-1 / 4:Rat)<0)=true then 1 else 0)+(nB (Q.f (k+1)) k+(chg (t a r2) (l2.map (t a))+C))=(if t a r*t a q<0 then 1 else 0)+((if t a r2*(if t a r=0 then t a q else t a r)<0 then 1 else 0)+chg (if t a r2=0 then (if t a r=0 then t a q else t a r) else t a r2) (l2.map (t a)))+(C+nB (Q.f (k+1)) k)
    have neg:t a r2*t a q<0:=by
     rw [F.op]
     have:=an4 F.nz
     grind
    rw [if_pos hr,if_neg F.nz,if_pos neg,if_neg (show ¬ t a r*t a q<0 by rw [hr];grind),if_neg (by trivial),if_pos (by trivial)]
    lia
  ·obtain ⟨R,F⟩:=h1 hr
   have E:=aj5 ep eQ F.e
   refine ⟨(t a q*t a r,a8 (t a q)⁻¹*q-a8 (t a r)⁻¹*r) :: (BL ++ R),⟨?_,?_,λx hx=>?_,λv hv hR=>?_,?_⟩⟩
   ·show IsE a p q (_+(by' (a8 (t a q*t a r))*(bx (a8 (t a q)⁻¹*q-a8 (t a r)⁻¹*r)*by' (a8 (t a q)⁻¹*q-a8 (t a r)⁻¹*r))+sqK (BL ++ R)))
    rw [W3,sK]
    generalize bx ((pX-a8 a)*q)*by' ((pX-a8 a)*q)*del S=K at *
    have iq:by' (a8 (t a q))*by' (a8 (t a q)⁻¹)=1:=by rw [<- A5,z5 hq,E6]
    have ir:by' (a8 (t a r))*by' (a8 (t a r)⁻¹)=1:=by rw [<- A5,z5 hr,E6]
    have xq:=x6 (t a q)⁻¹
    have xr:=x6 (t a r)⁻¹
    have e1:by' (a8 (t a p / t a q))=(by' (a8 c)*by' (a8 (t a q))-by' (a8 (t a r)))*by' (a8 (t a q)⁻¹):=by
     rw [<- A5,<- D9,<- A5,<- v7,<- z4,<- v7,tp,y0j]
    have e2:by' (a8 (t a q / t a r))=by' (a8 (t a q))*by' (a8 (t a r)⁻¹):=by rw [<- A5,<- v7,y0j]
    have e3:by' (a8 (t a q*t a r))=by' (a8 (t a q))*by' (a8 (t a r)):=by rw [<- A5,<- v7]
    have e:by' (a8 c)*(bx q*by' q)-K-bx q*by' r-bx r*by' q+(by' (a8 (t a q / t a r))*(bx r*by' r)+sqK R)=by' (a8 (t a p / t a q))*(bx q*by' q)+(by' (a8 (t a q*t a r))*(bx (a8 (t a q)⁻¹*q-a8 (t a r)⁻¹*r)*by' (a8 (t a q)⁻¹*q-a8 (t a r)⁻¹*r))+(0-K+sqK R)):=by
     rw [e1,e2,e3]
     simp only [J3,M7,A5,D9]
     rw [xq,xr]
     generalize sqK R=SR
     generalize by' (a8 (t a q))=A at *
     generalize by' (a8 (t a q)⁻¹)=A' at *
     generalize by' (a8 (t a r))=B2 at *
     generalize by' (a8 (t a r)⁻¹)=B' at *
     generalize by' (a8 c)=D at *
     generalize bx q=qx at *
     generalize by' q=qy at *
     generalize bx r=rx at *
     generalize by' r=ry at *
     clear E sK
     grind
    rw [<- e];exact E
   ·rw [z0t,z0g,lBL]
    have:=F.ln
    lia
   ·rcases z0a.mp hx with w | y
    ·rw [w]
     intro i hi
     show (a8 (t a q)⁻¹*q-a8 (t a r)⁻¹*r:Pf).f i=0
     rw [C2,C4,C4,dr i ⋯,lq.dg i ⋯];grind
    ·rcases q0t.mp y with w | w
     ·exact dBL x w
     ·exact aq5 (F.dg x w) ⋯
   ·have a1:=hR (t a q*t a r,a8 (t a q)⁻¹*q-a8 (t a r)⁻¹*r) q0c
    simp only at a1
    rw [al7,aQ9,aQ9,hv] at a1
    have k1:lf (k+1+n) r.f v=0:=by
     have x:(t a r)⁻¹*lf (k+1+n) r.f v=0:=by grind
     rcases z0x.mp x with y | y
     ·exact absurd (show t a r=0 by rw [<- Rat.inv_inv (t a r),y];trivial) hr
     ·exact y
    refine fin v (F.ind v ?_ λx hx=>?_) hv λx hx=>hR x (q0b _ (q0t.mpr (.inl hx)))
    ·rw [<- ab3 dr (show n<=k+1+n by omega)];exact k1
    ·rw [<- ab3 (F.dg x hx) (show n<=k+1+n by omega)]
     exact hR x (q0b _ (q0t.mpr (.inr hx)))
   ·rw [z0c,j0y,nBL,F.ng]
    show nB (Q.f (k+1)) k+(chg (t a r) (l.map (t a))+C)+(if decide (t a q*t a r<0)=true then 1 else 0)=(if t a r*t a q<0 then 1 else 0)+chg (if t a r=0 then t a q else t a r) (l.map (t a))+(C+nB (Q.f (k+1)) k)
    rw [if_neg hr,j1d (t a q)]
    by_cases y:t a r*t a q<0
    ·rw [if_pos y,if_pos (by rw [decide_eq_true_eq];exact y)];lia
    ·rw [if_neg y,if_neg (by rw [decide_eq_true_eq];exact y)];lia
 ·have hr:t a r ≠ 0:=λhr=>by
   obtain ⟨r2,l2,z,R,el,F⟩:=h0 hr
   have:=F.op
   have:=F.nz
   grind
  obtain ⟨R,F⟩:=h1 hr
  have E:=aj5 ep eQ F.e
  refine ⟨c,BL ++ R,⟨hr,by rw [tp,hq];grind,?_,?_,λx hx=>?_,aq5 dr ⋯,λv hv hr' hR=>?_,?_⟩⟩
  ·rw [W3,sK]
   have z0:by' (a8 (t a q / t a r))=0:=by
    rw [hq,y0j,show (0:Rat)*(t a r)⁻¹=0 by grind,show a8 (0:Rat)=0 from p0,bJ3]
   rw [z0] at E
   generalize bx ((pX-a8 a)*q)*by' ((pX-a8 a)*q)*del S=K at *
   have e:by' (a8 c)*(bx q*by' q)-K-bx q*by' r-bx r*by' q+(0*(bx r*by' r)+sqK R)=by' (a8 c)*(bx q*by' q)-bx q*by' r-bx r*by' q+(0-K+sqK R):=by
    generalize sqK R=SR
    clear E sK z0
    grind
   rw [<- e];exact E
  ·rw [z0g,lBL]
   have:=F.ln
   lia
  ·rcases q0t.mp hx with w | w
   ·exact dBL x w
   ·exact aq5 (F.dg x w) ⋯
  ·refine fin v (F.ind v ?_ λx hx=>?_) hv λx hx=>hR x (q0t.mpr (.inl hx))
   ·rw [<- ab3 dr (show n<=k+1+n by omega)];exact hr'
   ·rw [<- ab3 (F.dg x hx) (show n<=k+1+n by omega)]
    exact hR x (q0t.mpr (.inr hx))
  ·rw [j0y,nBL,F.ng];lia
theorem bM5 {t:Rat->Pf->Rat} (T:Evl t) {p q:Pf} {l:List Pf} {n:Nat} (h:St p q l n):∃ C,∀ a,(t a q ≠ 0->∃ R,F1 t a p q l n C R)/\(t a q=0->∃ r2 l2 z R,l=r2 :: l2/\F0 t a p q r2 l2 n C z R):=by
 induction h with
 | @last p n c hp hc =>
  obtain ⟨C,hC⟩:=bI3 T hp hc
  refine ⟨C,λa=>?_⟩
  obtain ⟨tq,R,F⟩:=hC a
  exact ⟨λ_=>⟨R,F⟩,λz=>absurd (by rw [<- tq];exact z) hc⟩
 | @step p q r Q l k n e hQ h ih =>
  obtain ⟨C,hC⟩:=ih
  obtain ⟨lq,dr⟩:=h.lm
  refine ⟨C+nB (Q.f (k+1)) k,λa=>?_⟩
  obtain ⟨s1,s0⟩:=bI2 T e hQ lq dr a (hC a).1 (hC a).2
  refine ⟨s1,λz=>?_⟩
  obtain ⟨z',R,F⟩:=s0 z
  exact ⟨r,l,z',R,rfl,F⟩
theorem aM3 {a:Rat} {p q:Pf} {K M:Bf} (h:IsE a p q K) (k:IsE a p q M):K=M:=ay0 (by
 unfold IsE at h k
 rw [h,k])
theorem bK7 {t:Rat->Pf->Rat} (T:Evl t) {p q:Pf} {l:List Pf} {n:Nat} (h:St p q l n) {N:Rat->Nat} (told:∀ a,∃ M,Sq a p q n (N a) M):∃ C,∀ a,N a=chg 0 (t a p :: t a q :: l.map (t a))+C:=by
 obtain ⟨C,hC⟩:=bM5 T h
 refine ⟨C,λa=>?_⟩
 obtain ⟨M,hM⟩:=told a
 have iM:=bG0 hM.ln hM.dg hM.li
 have unf:chg 0 (t a p :: t a q :: l.map (t a))=chg (t a p) (t a q :: l.map (t a)):=by
  show (if t a p*0<0 then 1 else 0)+chg (if t a p=0 then 0 else t a p) _=_
  rw [if_neg (show ¬ t a p*0<0 by grind)]
  by_cases z:t a p=0
  ·rw [if_pos z,z];simp
  ·rw [if_neg z];simp
 rw [unf]
 by_cases hq:t a q=0
 ·obtain ⟨r2,l2,z,R,el,F⟩:=(hC a).2 hq
  have E:IsE a p q (sqK ([(-1 / 4,q+(a8 2*r2-a8 z*q)),(1 / 4,q-(a8 2*r2-a8 z*q))] ++ R)):=by
   rw [W3,aR2]
   have hh:by' (a8 (1 / 2))*by' (a8 2)=1:=by
    rw [<- A5,<- v7,show (1 / 2:Rat)*2=1 by trivial,k4,E6]
   have h2:by' (a8 (2:Rat))=1+1:=by
    rw [show (2:Rat)=1+1 by trivial,A7,F7,k4,E6]
   have c2:=x6 2
   have cz':=x6 z
   have e:by' (a8 z)*(bx q*by' q)-bx q*by' r2-bx r2*by' q+sqK R=0-by' (a8 (1 / 2))*(bx q*by' (a8 2*r2-a8 z*q)+bx (a8 2*r2-a8 z*q)*by' q)+sqK R:=by
    simp only [J3,M8,M7,A5,F7,D9]
    rw [c2,cz']
    generalize sqK R=SR
    generalize by' (a8 (1 / 2))=H at *
    generalize by' (a8 2)=W at *
    generalize by' (a8 z)=Z at *
    generalize bx q=qx at *
    generalize by' q=qy at *
    generalize bx r2=sx at *
    generalize by' r2=sy at *
    grind
   rw [<- e];exact F.e
  have ln:([(-1 / 4,q+(a8 2*r2-a8 z*q)),(1 / 4,q-(a8 2*r2-a8 z*q))] ++ R).length=n:=by
   rw [z0g]
   have:=F.ln
   show 2+R.length=n
   lia
  have ind:Ind n ([(-1 / 4,q+(a8 2*r2-a8 z*q)),(1 / 4,q-(a8 2*r2-a8 z*q))] ++ R):=λv hR=>by
   have a1:=hR (-1 / 4,q+(a8 2*r2-a8 z*q)) (q0t.mpr (.inl q0c))
   have a2:=hR (1 / 4,q-(a8 2*r2-a8 z*q)) (q0t.mpr (.inl (q0b _ q0c)))
   simp only at a1 a2
   rw [al8] at a1
   rw [al7] at a2
   have k1:lf n q.f v=0:=by grind
   have k2:lf n (a8 2*r2-a8 z*q).f v=0:=by grind
   rw [al7,aQ9,aQ9,k1] at k2
   have k3:lf n r2.f v=0:=by grind
   exact F.ind v k1 k3 λx hx=>hR x (q0t.mpr (.inr hx))
  have key:=an8 (aM3 hM.e E) hM.ln ln iM ind
  rw [hM.ng,j0y,z0c,z0c,F.ng] at key
  have key':N a=0+(if decide ((1 / 4:Rat)<0)=true then 1 else 0)+(if decide ((-1 / 4:Rat)<0)=true then 1 else 0)+(chg (t a r2) (l2.map (t a))+C):=key
  rw [if_neg (by trivial),if_pos (by trivial)] at key'
  rw [el,hq]
  show N a=(if 0*t a p<0 then 1 else 0)+((if t a r2*(if (0:Rat)=0 then t a p else 0)<0 then 1 else 0)+chg (if t a r2=0 then (if (0:Rat)=0 then t a p else 0) else t a r2) (l2.map (t a)))+C
  have neg:t a r2*t a p<0:=by
   rw [F.op]
   have:=an4 F.nz
   grind
  rw [if_neg (show ¬ 0*t a p<0 by grind),if_pos rfl,if_neg F.nz,if_pos neg]
  lia
 ·obtain ⟨R,F⟩:=(hC a).1 hq
  have E:IsE a p q (sqK ((t a p / t a q,q) :: R)):=F.e
  have ln:((t a p / t a q,q) :: R).length=n:=F.ln
  have ind:Ind n ((t a p / t a q,q) :: R):=λv hR=>F.ind v (hR _ q0c) λx hx=>hR x (q0b _ hx)
  have key:=an8 (aM3 hM.e E) hM.ln ln iM ind
  rw [hM.ng,z0c,F.ng] at key
  have key':N a=chg (t a q) (l.map (t a))+C+(if decide (t a p / t a q<0)=true then 1 else 0):=key
  show N a=(if t a q*t a p<0 then 1 else 0)+chg (if t a q=0 then t a p else t a q) (l.map (t a))+C
  rw [if_neg hq]
  have iff1:(t a p / t a q<0) ↔ (t a q*t a p<0):=by
   have sq:=an4 hq
   have e:t a q*t a p=t a p / t a q*(t a q*t a q):=by
    have:=y0h (a:=t a p) hq
    grind
   generalize t a p / t a q=d at *
   rw [e]
   refine ⟨λy=>?_,λy=>?_⟩
   ·have:=z0p (show 0 < -d by grind) sq
    grind
   ·refine Classical.byContradiction λw=>?_
    have:=z0j (m0w.mp w) (y0c sq)
    grind
  by_cases y:t a q*t a p<0
  ·rw [if_pos y]
   rw [if_pos (by rw [decide_eq_true_eq];exact iff1.mpr y)] at key'
   lia
  ·rw [if_neg y]
   rw [if_neg (by rw [decide_eq_true_eq];exact λz=>y (iff1.mp z))] at key'
   lia
inductive PSt:Pf->Pf->List Pf->Nat->Prop where
 | last {p:Pf} {n:Nat} {c:Rat} (hp:Lm p (n+1)) (hc:c ≠ 0):PSt p (a8 c) [] (n+1)
 | step {p q r Q:Pf} {l:List Pf} {k n:Nat} {c d:Rat} (e:a8 c*p=Q*q-a8 d*r) (hc:0<c) (hd:0<d) (hQ:Lm Q (k+1)) (h:PSt q r l n):PSt p q (r :: l) (k+1+n)
inductive bd2:List Pf->List Pf->Prop where
 | nil:bd2 [] []
 | cons {x:Pf} {l m:List Pf} (c:Rat) (hc:0<c) (fx:Fn x) (h:bd2 l m):bd2 (x :: l) (a8 c*x :: m)
theorem Lm.c {p:Pf} {n:Nat} (h:Lm p n) {c:Rat} (hc:c ≠ 0):Lm (a8 c*p) n:=⟨λi hi=>by rw [C4,h.dg i hi];grind,by
 rw [C4]
 intro z
 rcases z0x.mp z with y | y
 ·exact hc y
 ·exact h.ld y⟩
theorem PSt.fn {p q:Pf} {l:List Pf} {n:Nat} (h:PSt p q l n):Lm p n/\Dg q.f n:=by
 induction h with
 | last hp hc=>exact ⟨hp,λi hi=>by rw [J2,if_neg ⋯]⟩
 | @step p q r Q l k n c d e hc hd hQ h ih =>
  obtain ⟨lq,dr⟩:=ih
  have lQq:=hQ.mul lq
  have dr':∀ i,n<=i->(a8 d*r).f i=0:=λi hi=>by rw [C4,dr i hi];grind
  have hc0:c ≠ 0:=by grind
  have eq:∀ i,c*p.f i=(Q*q).f i-(a8 d*r).f i:=λi=>by rw [<- C4,e,C2]
  refine ⟨⟨λi hi=>?_,?_⟩,λi hi=>lq.dg i ⋯⟩
  ·have:=eq i
   rw [lQq.dg i hi,dr' i ⋯] at this
   rcases z0x.mp (show c*p.f i=0 by grind) with y | y
   ·exact absurd y hc0
   ·exact y
  ·intro z
   have:=eq (k+1+n)
   rw [z,dr' _ ⋯] at this
   exact lQq.ld (by grind)
theorem PSt.norm {p q:Pf} {l:List Pf} {n:Nat} (h:PSt p q l n):∀ {u w:Rat},0<u->0<w->∃ l',St (a8 u*p) (a8 w*q) l' n/\bd2 l l':=by
 induction h with
 | @last p n c hp hc =>
  intro u w hu hw
  refine ⟨[],?_,.nil⟩
  rw [<- v7]
  refine .last (hp.c (by grind)) λz=>?_
  rcases z0x.mp z with y | y
  ·grind
  ·exact hc y
 | @step p q r Q l k n c d e hc hd hQ h ih =>
  intro u w hu hw
  have ic:0<c⁻¹:=q1z.mpr hc
  have iw:0<w⁻¹:=q1z.mpr hw
  have hv:0<u*d*c⁻¹:=z0p (z0p hu hd) ic
  obtain ⟨l',s,sp⟩:=ih hw hv
  refine ⟨a8 (u*d*c⁻¹)*r :: l',.step (Q:=a8 (u*c⁻¹*w⁻¹)*Q) ?_ (hQ.c ?_) s,.cons _ hv ⟨_,h.fn.2⟩ sp⟩
  ·have e1:=z5 (show c ≠ 0 by grind)
   have e2:=z5 (show w ≠ 0 by grind)
   simp only [v7]
   generalize a8 c=A at *
   generalize a8 c⁻¹=A' at *
   generalize a8 w=W at *
   generalize a8 w⁻¹=W' at *
   generalize a8 d=D at *
   generalize a8 u=U at *
   clear ih s sp hv ic iw
   grind
  ·have:=z0p (z0p hu ic) iw
   grind
theorem bw3 {t:Rat->Pf->Rat} (T:Evl t) (a:Rat) {l m:List Pf} (h:bd2 l m):∀ {b b':Rat} {e:Rat},0<e->b'=e*b->chg b' (m.map (t a))=chg b (l.map (t a)):=by
 induction h with
 | nil=>intros;rfl
 | @cons x l m c hc fx h ih =>
  intro b b' e he eb
  have tx:t a (a8 c*x)=c*t a x:=M9 (T.at' a _ ((v5 c).mul fx)) ((Q3 a c).mul (T.at' a x fx))
  show (if t a (a8 c*x)*b'<0 then 1 else 0)+chg (if t a (a8 c*x)=0 then b' else t a (a8 c*x)) (m.map (t a))=(if t a x*b<0 then 1 else 0)+chg (if t a x=0 then b else t a x) (l.map (t a))
  rw [tx]
  have i1:(c*t a x*b'<0) ↔ (t a x*b<0):=by
   have pe:=z0p hc he
   have eq:c*t a x*b'=c*e*(t a x*b):=by rw [eb];grind
   rw [eq]
   generalize c*e=g at *
   generalize t a x*b=d at *
   refine ⟨λy=>Classical.byContradiction λw=>?_,λy=>?_⟩
   ·have:=z0j (y0c pe) (m0w.mp w)
    grind
   ·have:=z0p pe (show 0 < -d by grind)
    grind
  have i2:(c*t a x=0) ↔ (t a x=0):=by
   refine ⟨λy=>?_,λy=>by rw [y];grind⟩
   rcases z0x.mp y with w | w
   ·grind
   ·exact w
  by_cases z:t a x=0
  ·rw [if_pos z,if_pos (i2.mpr z),ih he eb]
   congr 1
   simp only [i1]
  ·rw [if_neg z,if_neg (λw=>z (i2.mp w)),ih hc rfl]
   congr 1
   simp only [i1]
theorem aZ6 {t:Rat->Pf->Rat} (T:Evl t) {p q:Pf} {l:List Pf} {n:Nat} (h:PSt p q l n) {N:Rat->Nat} (told:∀ a,∃ M,Sq a p q n (N a) M):∃ C,∀ a,N a=chg 0 ((p :: q :: l).map (t a))+C:=by
 obtain ⟨l',s,sp⟩:=h.norm (u:=1) (w:=1) (by trivial) (by trivial)
 have e1:∀ x:Pf,a8 1*x=x:=λx=>by rw [k4];grind
 rw [e1,e1] at s
 obtain ⟨C,hC⟩:=bK7 T s told
 refine ⟨C,λa=>?_⟩
 rw [hC a]
 congr 1
 have sp2:bd2 (p :: q :: l) (a8 1*p :: a8 1*q :: l'):=.cons 1 (by trivial) h.fn.1.fn (.cons 1 (by trivial) ⟨_,h.fn.2⟩ sp)
 have:=bw3 T a sp2 (b:=0) (b':=0) (e:=1) (by trivial) (by grind)
 rw [e1,e1] at this
 exact this
theorem bM3 {a c d:Rat} {p q:Pf} {K:Bf} (h:IsE a p q K):IsE a (a8 c*p) (a8 d*q) (by' (a8 (c*d))*K):=by
 unfold IsE at *
 have ha:=x6 a
 have hc:=x6 c
 have hd:=x6 d
 simp only [v7,J3,M8,M7,A5,F7,D9] at h ⊢
 rw [ha,hc,hd] at *
 generalize bx pX=x at *
 generalize by' pX=y at *
 generalize bx p=fx at *
 generalize by' p=fy at *
 generalize bx q=gx at *
 generalize by' q=gy at *
 generalize by' (a8 a)=A at *
 generalize by' (a8 c)=C at *
 generalize by' (a8 d)=D at *
 generalize dXY=e at *
 grind
theorem Sq.both {a:Rat} {p q:Pf} {n N:Nat} {L:List (Rat × Pf)} (h:Sq a p q n N L) {c d:Rat} (hc:0<c*d):Sq a (a8 c*p) (a8 d*q) n N (mL (c*d) 1 L) where
 e:=by
  rw [ag9,E6,ai0]
  have e:by' (a8 (c*d))*(1*1)*sqK L=by' (a8 (c*d))*sqK L:=by grind
  rw [e]
  exact bM3 h.e
 ln:=by rw [V5];exact h.ln
 dg:=(h.often hc).dg
 li:=(h.often hc).li
 ng:=by rw [ad0 hc];exact h.ng
def sp (s:Rat):Nat->Rat
 | 0=>1
 | n+1=>s*sp s n
theorem aU2 {s:Rat} (h:s*s=1):∀ n,sp s n*sp s n=1
 | 0=>by show (1:Rat)*1=1;trivial
 | n+1=>by
  show s*sp s n*(s*sp s n)=1
  have:=aU2 h n
  have e:s*sp s n*(s*sp s n)=s*s*(sp s n*sp s n):=by grind
  rw [e,h,this];trivial
theorem bN3 (a:Rat):At a pX a:=⟨1,D8,by grind⟩
theorem bx8 {t:Rat->Pf->Rat} (T:Evl t) (a:Rat) {p:Pf} (h:Fn p):t a p=p.f 0+a*t a (dwn p):=by
 have fd:Fn (dwn p):=by
  obtain ⟨n,hn⟩:=h
  exact ⟨n,λi hi=>hn (i+1) ⋯⟩
 have e:=(Q3 a (p.f 0)).add ((bN3 a).mul (T.at' a _ fd))
 rw [<- am1 p] at e
 exact M9 (T.at' a p h) e
theorem far {t:Rat->Pf->Rat} (T:Evl t) {s:Rat} (hs:s*s=1):∀ (n:Nat) (p:Pf),Lm p n->∃ b,0<b/\∀ a,b<=a->p.f n*p.f n<=2*(t (s*a) p*(p.f n*sp s n))
 | 0,p,h=>⟨1,by trivial,λa _=>by
  have e:=bx8 T (s*a) h.fn
  have z:dwn p=0:=Pf.ext λi=>by rw [t4];exact h.dg (i+1) ⋯
  have t0:t (s*a) (0:Pf)=0:=by
   have h1:=T.at' (s*a) (0:Pf) F9
   have h2:=Q3 (s*a) 0
   rw [show a8 (0:Rat)=0 from p0] at h2
   exact M9 h1 h2
  rw [e,z,t0]
  show _<=2*((p.f 0+s*a*0)*(p.f 0*1))
  have:=ai2 (p.f 0)
  grind⟩
 | n+1,p,h=>by
  have ld:Lm (dwn p) n:=⟨λi hi=>h.dg (i+1) ⋯,h.ld⟩
  obtain ⟨b,hb,ih⟩:=far T hs n (dwn p) ld
  have lp:=an4 h.ld
  have q0:0<=p.f 0*p.f 0 / (p.f (n+1)*p.f (n+1)):=by
   rw [y0j]
   exact z0j (ai2 _) (y0c (q1z.mpr lp))
  refine ⟨b+2+p.f 0*p.f 0 / (p.f (n+1)*p.f (n+1)),by grind,λa ha=>?_⟩
  have i:=ih a (by grind)
  have i':p.f (n+1)*p.f (n+1)<=2*(t (s*a) (dwn p)*(p.f (n+1)*sp s n)):=i
  have e:=bx8 T (s*a) h.fn
  rw [e]
  show _<=2*((p.f 0+s*a*t (s*a) (dwn p))*(p.f (n+1)*(s*sp s n)))
  have sq1:=aU2 hs (n+1)
  have sq1':s*sp s n*(s*sp s n)=1:=sq1
  -- the low part
  have low:0<=(p.f 0+p.f (n+1)*(s*sp s n))*(p.f 0+p.f (n+1)*(s*sp s n)):=ai2 _
  have low':- (p.f 0*p.f 0+p.f (n+1)*p.f (n+1))<=2*(p.f 0*(p.f (n+1)*(s*sp s n))):=by
   have e2:p.f (n+1)*(s*sp s n)*(p.f (n+1)*(s*sp s n))=p.f (n+1)*p.f (n+1):=by
    have:p.f (n+1)*(s*sp s n)*(p.f (n+1)*(s*sp s n))=p.f (n+1)*p.f (n+1)*(s*sp s n*(s*sp s n)):=by grind
    rw [this,sq1'];grind
   grind
  have dv:p.f 0*p.f 0 / (p.f (n+1)*p.f (n+1))*(p.f (n+1)*p.f (n+1))=p.f 0*p.f 0:=y0h (by grind)
  have ha2:0<=a-2-p.f 0*p.f 0 / (p.f (n+1)*p.f (n+1)):=by grind
  have m1:=z0j ha2 (y0c lp)
  have a0:0<=a:=by grind
  have m2:=z0j a0 (show 0<=2*(t (s*a) (dwn p)*(p.f (n+1)*sp s n))-p.f (n+1)*p.f (n+1) by grind)
  have e3:2*((p.f 0+s*a*t (s*a) (dwn p))*(p.f (n+1)*(s*sp s n)))=2*(p.f 0*(p.f (n+1)*(s*sp s n)))+(s*s)*(a*(2*(t (s*a) (dwn p)*(p.f (n+1)*sp s n)))):=by grind
  rw [e3,hs]
  generalize t (s*a) (dwn p)*(p.f (n+1)*sp s n)=u at *
  generalize p.f 0*(p.f (n+1)*(s*sp s n))=w at *
  generalize p.f 0*p.f 0 / (p.f (n+1)*p.f (n+1))=g at *
  generalize p.f (n+1)*p.f (n+1)=L at *
  generalize p.f 0*p.f 0=P at *
  clear ih i i' e3 low e sq1 sq1' ld
  grind
def SS (x y:Rat):Prop:=(x<0 ↔ y<0)/\(0<x ↔ 0<y)
theorem SS.zero {x y:Rat} (h:SS x y):x=0 ↔ y=0:=by
 have h1:=h.1
 have h2:=h.2
 refine ⟨λz=>?_,λz=>?_⟩
 ·have a:¬ y<0:=λw=>by have:=h1.mpr w;grind
  have b:¬ 0<y:=λw=>by have:=h2.mpr w;grind
  grind
 ·have a:¬ x<0:=λw=>by have:=h1.mp w;grind
  have b:¬ 0<x:=λw=>by have:=h2.mp w;grind
  grind
theorem mul_neg (x y:Rat):x*y<0 ↔ (x<0/\0<y) \/ (0<x/\y<0):=by
 refine ⟨λh=>?_,λh=>?_⟩
 ·by_cases a:x<0
  ·refine .inl ⟨a,Classical.byContradiction λw=>?_⟩
   have:=z0j (show 0<=-x by grind) (show 0<=-y by grind)
   grind
  ·by_cases b:0<x
   ·refine .inr ⟨b,Classical.byContradiction λw=>?_⟩
    have:=z0j (y0c b) (m0w.mp w)
    grind
   ·have:x=0:=by grind
    rw [this] at h
    grind
 ·rcases h with ⟨a,b⟩ | ⟨a,b⟩
  ·have:=z0p (show 0 < -x by grind) b
   grind
  ·have:=z0p a (show 0 < -y by grind)
   grind
inductive aC4:List Rat->List Rat->Prop where
 | nil:aC4 [] []
 | cons {x y:Rat} {l m:List Rat} (h:SS x y) (k:aC4 l m):aC4 (x :: l) (y :: m)
theorem aS9 {l m:List Rat} (h:aC4 l m):∀ {b c:Rat},SS b c->chg b l=chg c m:=by
 induction h with
 | nil=>intros;rfl
 | @cons x y l m h k ih =>
  intro b c hb
  show (if x*b<0 then 1 else 0)+chg (if x=0 then b else x) l=(if y*c<0 then 1 else 0)+chg (if y=0 then c else y) m
  have i:(x*b<0) ↔ (y*c<0):=by rw [mul_neg,mul_neg,h.1,h.2,hb.1,hb.2]
  have e:chg (if x=0 then b else x) l=chg (if y=0 then c else y) m:=by
   by_cases z:x=0
   ·rw [if_pos z,if_pos (h.zero.mp z)];exact ih hb
   ·rw [if_neg z,if_neg (λw=>z (h.zero.mpr w))];exact ih h
  rw [e]
  congr 1
  simp only [i]
theorem aD2 (x:Rat):SS x x:=⟨Iff.rfl,Iff.rfl⟩
inductive aC5:List Pf->List Nat->Prop where
 | nil:aC5 [] []
 | cons {x:Pf} {n:Nat} {l:List Pf} {ns:List Nat} (h:Lm x n) (k:aC5 l ns):aC5 (x :: l) (n :: ns)
def lds (s:Rat):List Pf->List Nat->List Rat
 | x :: l,n :: ns=>x.f n*sp s n :: lds s l ns
 | _,_=>[]
theorem aX0 {t:Rat->Pf->Rat} (T:Evl t) {s:Rat} (hs:s*s=1) {l:List Pf} {ns:List Nat} (h:aC5 l ns):∃ b,0<b/\∀ a,b<=a->aC4 (l.map (t (s*a))) (lds s l ns):=by
 induction h with
 | nil=>exact ⟨1,by trivial,λ_ _=>.nil⟩
 | @cons x n l ns h k ih =>
  obtain ⟨b,hb,ih⟩:=ih
  obtain ⟨c,hc,far⟩:=far T hs n x h
  refine ⟨b+c,by grind,λa ha=>.cons ?_ (ih a (by grind))⟩
  have f:=far a (by grind)
  have lp:=an4 h.ld
  have pos:0<t (s*a) x*(x.f n*sp s n):=by grind
  generalize t (s*a) x=u at *
  generalize x.f n*sp s n=w at *
  have h1:=mul_neg u (-w)
  have h2:u * -w<0:=by grind
  rcases h1.mp h2 with ⟨p,q⟩ | ⟨p,q⟩
  ·exact ⟨⟨λ_=>by grind,λ_=>p⟩,⟨λz=>by grind,λz=>by grind⟩⟩
  ·exact ⟨⟨λz=>by grind,λz=>by grind⟩,⟨λ_=>by grind,λ_=>p⟩⟩
structure Rtu where
 u:Rat
 o:Int
 v:Rat
def abv (c:Rat) (x:Rtu):Bool:=if x.o=0 then decide (c<x.u) else if x.o=1 then decide (c-x.u<=0) || decide ((c-x.u)*(c-x.u)<x.v) else decide (c-x.u<0) && decide (x.v<(c-x.u)*(c-x.u))
theorem bq1 {c d:Rat} (h:c<d) (x:Rtu) (k:abv d x=true):abv c x=true:=by
 unfold abv at *
 by_cases z:x.o=0
 ·rw [if_pos z] at *
  rw [decide_eq_true_eq] at *
  grind
 ·rw [if_neg z] at *
  by_cases y:x.o=1
  ·rw [if_pos y] at *
   rw [u0a,decide_eq_true_eq,decide_eq_true_eq] at *
   by_cases w:c-x.u<=0
   ·exact .inl w
   ·refine .inr ?_
    have p1:0<c-x.u:=by grind
    rcases k with k | k
    ·grind
    ·have e:(d-x.u)*(d-x.u)=(c-x.u)*(c-x.u)+(d-c)*(d-x.u)+(d-c)*(c-x.u):=by grind
     have m1:=z0p (show 0<d-c by grind) (show 0<d-x.u by grind)
     have m2:=z0p (show 0<d-c by grind) p1
     grind
  ·rw [if_neg y] at *
   rw [y0a,decide_eq_true_eq,decide_eq_true_eq] at *
   obtain ⟨k1,k2⟩:=k
   refine ⟨by grind,?_⟩
   have e:(c-x.u)*(c-x.u)=(d-x.u)*(d-x.u)+(d-c)*(x.u-d)+(d-c)*(x.u-c):=by grind
   have m1:=z0p (show 0<d-c by grind) (show 0<x.u-d by grind)
   have m2:=z0p (show 0<d-c by grind) (show 0<x.u-c by grind)
   grind
theorem bF0 {d w:Rat} (h:0<w):nQ d w=1:=by
 unfold nQ
 by_cases z:d=0
 ·rw [if_pos z]
 ·rw [if_neg z]
  have sq:=an4 z
  have e:w / d*(w+d*d)*d=w*(w+d*d):=by
   have:=y0h (a:=w) z
   grind
  have pos:0<w*(w+d*d):=z0p h (by grind)
  rw [<- e] at pos
  have m:=mul_neg (-(w / d)*(w+d*d)) d
  have m':-(w / d)*(w+d*d)*d<0:=by grind
  generalize -(w / d)*(w+d*d)=g at *
  rcases m.mp m' with ⟨a,b⟩ | ⟨a,b⟩
  ·rw [if_neg (by grind),if_pos a]
  ·rw [if_pos b,if_neg (by grind)]
theorem bF1 {d v:Rat} (h:0<v):nQ d (-v)=(if (decide (d<0) && decide (v<d*d))=true then 1 else 0)+(if (decide (d<=0) || decide (d*d<v))=true then 1 else 0):=by
 unfold nQ
 by_cases z:d=0
 ·rw [if_pos z]
  subst z
  rw [if_neg (by simp),if_pos (by simp)]
 ·rw [if_neg z]
  have e:-(-v / d)*(-v+d*d)*d=v*(d*d-v):=by
   have:=y0h (a:=-v) z
   grind
  have k:(-(-v / d)*(-v+d*d))*d<0 ↔ d*d<v:=by
   rw [e]
   rw [mul_neg]
   refine ⟨λx=>?_,λx=>.inr ⟨h,by grind⟩⟩
   rcases x with ⟨a,_⟩ | ⟨_,b⟩
   ·grind
   ·grind
  have k':0<(-(-v / d)*(-v+d*d))*d ↔ v<d*d:=by
   rw [e]
   refine ⟨λx=>?_,λx=>z0p h (by grind)⟩
   refine Classical.byContradiction λy=>?_
   have:=z0j (y0c h) (show 0<=v-d*d by grind)
   grind
  generalize -(-v / d)*(-v+d*d)=g at *
  by_cases dn':d<0
  ·have g1:(g<0) ↔ v<d*d:=by
    rw [<- k']
    refine ⟨λx=>?_,λx=>?_⟩
    ·have:=z0p (show 0 < -g by grind) (show 0 < -d by grind)
     grind
    ·refine Classical.byContradiction λy=>?_
     have:=z0j (m0w.mp y) (show 0<=-d by grind)
     grind
   rw [if_pos dn']
   have q2:(decide (d<=0) || decide (d*d<v))=true:=by simp;left;grind
   rw [if_pos q2]
   by_cases y:v<d*d
   ·rw [if_pos (g1.mpr y),if_pos (by simp;exact ⟨dn',y⟩)]
   ·rw [if_neg (λx=>y (g1.mp x)),if_neg (by simp;intro _;grind)]
  ·have dp:0<d:=by grind
   have g1:(g<0) ↔ d*d<v:=by
    rw [<- k,mul_neg]
    refine ⟨λx=>.inl ⟨x,dp⟩,λx=>?_⟩
    rcases x with ⟨a,_⟩ | ⟨_,b⟩
    ·exact a
    ·grind
   have q1:¬ (decide (d<0) && decide (v<d*d))=true:=by simp;intro x;exact absurd x dn'
   rw [if_neg dn',if_neg q1]
   by_cases y:d*d<v
   ·rw [if_pos (g1.mpr y),if_pos (by simp;right;exact y)]
   ·rw [if_neg (λx=>y (g1.mp x)),if_neg (by simp;exact ⟨by grind,by grind⟩)]
theorem aW0 {p:Pf} (h:Fn p) (nz:p ≠ 0):∃ n,Lm p n:=by
 obtain ⟨m,hm⟩:=h
 have key:∀ j,Dg p.f j->∃ n,Lm p n:=λj=>by
  induction j with
  | zero=>intro d;exact absurd (Pf.ext λi=>by rw [t4];exact d i ⋯) nz
  | succ j ih =>
   intro d
   by_cases z:p.f j=0
   ·exact ih λi hi=>by
     by_cases y:i=j
     ·rw [y];exact z
     ·exact d i (by lia)
   ·exact ⟨j,d,z⟩
 exact key m hm
theorem Y1 {p:Pf} {m n:Nat} (h:Lm p m) (k:Lm p n):m=n:=by
 rcases Nat.lt_trichotomy m n with y | y | y
 ·exact absurd (h.dg n (by lia)) k.ld
 ·exact y
 ·exact absurd (k.dg m (by lia)) h.ld
theorem Lm.nz {p:Pf} {n:Nat} (h:Lm p n):p ≠ 0:=λz=>h.ld (by rw [z,t4])
theorem Lm.cancel {g X Y:Pf} {n:Nat} (h:Lm g n) (fX:Fn X) (fY:Fn Y) (e:g*X=g*Y):X=Y:=by
 have z:=h.zero (fX.sub fY) (by
  have:g*(X-Y)=0:=by grind
  rw [this]
  exact λi _=>t4 i)
 grind
theorem bL9 {p:Pf} (h:Lm p 0):p=a8 (p.f 0)/\p.f 0 ≠ 0:=⟨Pf.ext λk=>by
 rw [J2]
 by_cases z:k=0
 ·rw [if_pos z,z]
 ·rw [if_neg z];exact h.dg k (by lia),h.ld⟩
theorem ar0 {h W:Pf} (fh:Fn h) (fW:Fn W) (e:h*W=1):∃ c,c ≠ 0/\h=a8 c:=by
 have h1:(1:Pf) ≠ 0:=λz=>by
  have:=congrArg (λp:Pf=>p.f 0) z
  simp only [B7,t4] at this
  exact absurd this (by trivial)
 have hn:h ≠ 0:=λz=>h1 (by rw [<- e,z];grind)
 have wn:W ≠ 0:=λz=>h1 (by rw [<- e,z];grind)
 obtain ⟨m,lm⟩:=aW0 fh hn
 obtain ⟨k,lk⟩:=aW0 fW wn
 have l1:Lm (1:Pf) 0:=⟨λi hi=>by rw [B7,if_neg ⋯],by rw [B7,if_pos rfl];trivial⟩
 have lp:=lm.mul lk
 rw [e] at lp
 have:=Y1 lp l1
 have m0:m=0:=by lia
 rw [m0] at lm
 exact ⟨_,(bL9 lm).2,(bL9 lm).1⟩
theorem PSt.cop {p q:Pf} {l:List Pf} {n:Nat} (h:PSt p q l n):Cop p q:=by
 induction h with
 | @last p n c hp hc =>
  refine ⟨0,a8 c⁻¹,F9,v5 _,?_⟩
  have:=z5 hc
  grind
 | @step p q r Q l k n c d e hc hd hQ h ih =>
  obtain ⟨u,v,hu,hv,e'⟩:=ih
  have id:=z5 (show d ≠ 0 by grind)
  refine ⟨0-a8 d⁻¹*a8 c*v,u+a8 d⁻¹*Q*v,F9.sub (((v5 _).mul (v5 _)).mul hv),hu.add (((v5 _).mul hQ.fn).mul hv),?_⟩
  generalize a8 d=D at *
  generalize a8 d⁻¹=D' at *
  generalize a8 c=A at *
  have e2:D'*(Q*q-A*p)=r:=by
   rw [e];grind
  grind
theorem aZ3 {g T0 T1 A S G:Pf} {k1 k2:Rat} {m:Nat} (lg:Lm g m) (f0:Fn T0) (f1:Fn T1) (fA:Fn A) (fS:Fn S) (fG:Fn G) (e0:g*T0=a8 k1*(G*A)) (e1:g*T1=a8 k2*(G*S)) (hk:0<k1*k2) (cp:Cop A S) (ct:Cop T0 T1):∃ c d,0<c*d/\T0=a8 c*A/\T1=a8 d*S:=by
 have n1:k1 ≠ 0:=λz=>by rw [z] at hk;grind
 have n2:k2 ≠ 0:=λz=>by rw [z] at hk;grind
 have i1:=z5 n1
 have i2:=z5 n2
 obtain ⟨u,v,hu,hv,e⟩:=cp
 obtain ⟨u',v',hu',hv',e'⟩:=ct
 have fh:Fn (a8 k1⁻¹*u*T0+a8 k2⁻¹*v*T1):=(((v5 _).mul hu).mul f0).add (((v5 _).mul hv).mul f1)
 have eG:G=g*(a8 k1⁻¹*u*T0+a8 k2⁻¹*v*T1):=by
  have a:g*(a8 k1⁻¹*u*T0+a8 k2⁻¹*v*T1)=a8 k1⁻¹*u*(g*T0)+a8 k2⁻¹*v*(g*T1):=by grind
  rw [a,e0,e1]
  generalize a8 k1=K1 at *
  generalize a8 k1⁻¹=K1' at *
  generalize a8 k2=K2 at *
  generalize a8 k2⁻¹=K2' at *
  have b:K1'*u*(K1*(G*A))+K2'*v*(K2*(G*S))=(K1*K1')*(G*(u*A))+(K2*K2')*(G*(v*S)):=by grind
  rw [b,i1,i2]
  have:G=G*(u*A+v*S):=by rw [e];grind
  grind
 generalize a8 k1⁻¹*u*T0+a8 k2⁻¹*v*T1=h at *
 have t0:T0=a8 k1*(h*A):=lg.cancel f0 ((v5 _).mul (fh.mul fA)) (by rw [e0,eG];grind)
 have t1:T1=a8 k2*(h*S):=lg.cancel f1 ((v5 _).mul (fh.mul fS)) (by rw [e1,eG];grind)
 have un:h*(u'*a8 k1*A+v'*a8 k2*S)=1:=by
  rw [t0,t1] at e'
  grind
 obtain ⟨c,hc,ec⟩:=ar0 fh (((hu'.mul (v5 _)).mul fA).add ((hv'.mul (v5 _)).mul fS)) un
 refine ⟨k1*c,k2*c,?_,?_,?_⟩
 ·have:=z0p hk (an4 hc)
  grind
 ·rw [t0,ec,v7];grind
 ·rw [t1,ec,v7];grind
def bx1:List Pf->Prop
 | x :: y :: z :: l=>(∃ c d Q k,0<c/\0<d/\Lm Q (k+1)/\a8 c*x=Q*y-a8 d*z)/\bx1 (y :: z :: l)
 | [x,y] => ∃ n,Lm x (n+1)
 | _=>True
theorem bh1:∀ {l:List Pf} {x y:Pf},bx1 (x :: y :: l)->(∃ c,c ≠ 0/\(x :: y :: l).getLast? = some (a8 c))->∃ n,PSt x y l n
 | [],x,y,h,⟨c,hc,e⟩=>by
  obtain ⟨n,hn⟩:=h
  have:y=a8 c:=Option.some.inj e
  rw [this]
  exact ⟨_,.last hn hc⟩
 | z :: l,x,y,h,⟨c,hc,e⟩=>by
  obtain ⟨⟨c',d',Q,k,h1,h2,h3,h4⟩,h5⟩:=h
  obtain ⟨n,hn⟩:=bh1 (l:=l) h5 ⟨c,hc,by rw [g0d] at e;exact e⟩
  exact ⟨_,.step h4 h1 h2 h3 hn⟩
theorem aO8 {t:Rat->Pf->Rat} (T:Evl t) {T0 T1:Pf} {l:List Pf} {n:Nat} (h:PSt T0 T1 l n) {L:List Rt1} (ok:∀ x ∈ L,bd3 x) (tf:TF (tfs L)) {c d:Rat} (hcd:0<c*d) (e0:T0=a8 c*aP (tfs L) 1) (e1:T1=a8 d*sP (tfs L) 1):∃ C,∀ a,NT L a=chg 0 ((T0 :: T1 :: l).map (t a))+C:=by
 have hc:c ≠ 0:=λz=>by rw [z] at hcd;grind
 have ln:n=nT L:=by
  have a:=h.fn.1
  rw [e0] at a
  exact Y1 a ((aa4 ok).c hc)
 subst ln
 refine aZ6 T h λa=>?_
 obtain ⟨M,hM⟩:=aU0 a ok tf
 rw [e0,e1]
 exact ⟨_,hM.both hcd⟩
structure RtR (x:Rt1) (rs:List Rtu) (m:Nat):Prop where
 n:∀ a,x.N a=rs.countP (abv a)+m
 v:∀ r ∈ rs,r.o=0 \/ ((r.o=1 \/ r.o=-1)/\0<r.v)
theorem bs1 (r v:Rat) (m:Nat):RtR ⟨pX-a8 r,m,1,λa=>if a<r then 1 else 0⟩ [⟨r,0,v⟩] 0:=⟨λa=>by
 show (if a<r then 1 else 0)=_
 rw [z0c]
 show _=0+(if decide (a<r)=true then 1 else 0)+0
 by_cases h:a<r
 ·rw [if_pos h,if_pos (by rw [decide_eq_true_eq];exact h)]
 ·rw [if_neg h,if_neg (by rw [decide_eq_true_eq];exact h)],λx hx=>by rw [q0m.mp hx];exact .inl rfl⟩
theorem bs2 (u w:Rat) (m:Nat) (h:0<w):RtR ⟨(pX-a8 u)*(pX-a8 u)+a8 w,m,2,λa=>nQ (a-u) w⟩ [] 1:=⟨λa=>by
 show nQ (a-u) w=0+1
 rw [bF0 h],λx hx=>by simp at hx⟩
theorem bg5 (u v:Rat) (m:Nat) (h:0<v):RtR ⟨(pX-a8 u)*(pX-a8 u)+a8 (-v),m,2,λa=>nQ (a-u) (-v)⟩ [⟨u,-1,v⟩,⟨u,1,v⟩] 0:=⟨λa=>by
 show nQ (a-u) (-v)=_
 rw [bF1 h,z0c,z0c]
 have e1:abv a ⟨u,-1,v⟩=(decide (a-u<0) && decide (v<(a-u)*(a-u))):=rfl
 have e2:abv a ⟨u,1,v⟩=(decide (a-u<=0) || decide ((a-u)*(a-u)<v)):=rfl
 rw [e1,e2,List.countP_nil]
 lia,λx hx=>by
 rcases z0a.mp hx with y | y
 ·rw [y];exact .inr ⟨.inr rfl,h⟩
 ·rw [q0m.mp y];exact .inr ⟨.inl rfl,h⟩⟩
theorem bw9 {x:Rtu} (h:x.o=0 \/ ((x.o=1 \/ x.o=-1)/\0<x.v)):∃ b,0<b/\∀ a,b<=a->abv a x=false/\abv (-a) x=true:=by
 have su:=ai2 x.u
 have s1:=ai2 (x.u-1)
 have s2:=ai2 (x.u+1)
 rcases h with h | ⟨h,hv⟩
 ·refine ⟨x.u*x.u+2,by grind,λa ha=>?_⟩
  unfold abv
  rw [if_pos h,if_pos h,decide_eq_false_iff_not,decide_eq_true_eq]
  exact ⟨by grind,by grind⟩
 ·refine ⟨x.u*x.u+2+x.v,by grind,λa ha=>?_⟩
  have p1:1+x.v<=a-x.u:=by grind
  have p2:1+x.v<=a+x.u:=by grind
  have q1:x.v<(a-x.u)*(a-x.u):=by
   have m:=z0j (show 0<=a-x.u-1 by grind) (show 0<=a-x.u by grind)
   grind
  have q2:x.v<(-a-x.u)*(-a-x.u):=by
   have m:=z0j (show 0<=a+x.u-1 by grind) (show 0<=a+x.u by grind)
   grind
  unfold abv
  rcases h with h | h
  ·rw [h,if_neg (by decide),if_pos rfl,if_neg (by decide),if_pos rfl,g0z,u0a,decide_eq_false_iff_not,decide_eq_false_iff_not,decide_eq_true_eq]
   exact ⟨⟨by grind,by grind⟩,.inl (by grind)⟩
  ·rw [h,if_neg (by decide),if_neg (by decide),if_neg (by decide),if_neg (by decide),z1f,y0a,decide_eq_false_iff_not,decide_eq_true_eq,decide_eq_true_eq]
   exact ⟨.inl (by grind),by grind,q2⟩
theorem ae1:∀ {L:List Rtu},(∀ x ∈ L,x.o=0 \/ ((x.o=1 \/ x.o=-1)/\0<x.v))->∃ b,0<b/\∀ a,b<=a->L.countP (abv a)=0/\L.countP (abv (-a))=L.length
 | [],_=>⟨1,by trivial,λ_ _=>⟨rfl,rfl⟩⟩
 | x :: r,h=>by
  obtain ⟨b,hb,k⟩:=bw9 (h x q0c)
  obtain ⟨c,hc,k'⟩:=ae1 (L:=r) λy hy=>h y (q0b _ hy)
  refine ⟨b+c,by grind,λa ha=>?_⟩
  obtain ⟨x1,x2⟩:=k a (by grind)
  obtain ⟨y1,y2⟩:=k' a (by grind)
  rw [z0c,z0c,x1,x2,y1,y2]
  exact ⟨rfl,rfl⟩
theorem aI2 {t:Rat->Pf->Rat} (T:Evl t) {T0 T1:Pf} {l:List Pf} {n:Nat} {ns:List Nat} (h:PSt T0 T1 l n) (al:aC5 (T0 :: T1 :: l) ns) {L:List Rt1} (ok:∀ x ∈ L,bd3 x) (tf:TF (tfs L)) {c d:Rat} (hcd:0<c*d) (e0:T0=a8 c*aP (tfs L) 1) (e1:T1=a8 d*sP (tfs L) 1) {rs:List Rtu} {m:Nat} (hr:∀ a,NT L a=rs.countP (abv a)+m) (hv:∀ r ∈ rs,r.o=0 \/ ((r.o=1 \/ r.o=-1)/\0<r.v)) :
  ∃ C,(∀ a,chg 0 ((T0 :: T1 :: l).map (t a))+C=rs.countP (abv a)+m)/\chg 0 (lds 1 (T0 :: T1 :: l) ns)+C=m/\chg 0 (lds (-1) (T0 :: T1 :: l) ns)+C=rs.length+m:=by
 obtain ⟨C,hC⟩:=aO8 T h ok tf hcd e0 e1
 have base:∀ a,chg 0 ((T0 :: T1 :: l).map (t a))+C=rs.countP (abv a)+m:=λa=>by rw [<- hC,hr]
 obtain ⟨b,hb,far0⟩:=ae1 hv
 obtain ⟨b1,hb1,f1⟩:=aX0 T (s:=1) (by trivial) al
 obtain ⟨b2,hb2,f2⟩:=aX0 T (s:=-1) (by trivial) al
 refine ⟨C,base,?_,?_⟩
 ·have s:=f1 (b+b1) (by grind)
  have k:=(far0 (b+b1) (by grind)).1
  rw [show (1:Rat)*(b+b1)=b+b1 by grind] at s
  have:=base (b+b1)
  rw [k,aS9 s (aD2 0)] at this
  lia
 ·have s:=f2 (b+b2) (by grind)
  have k:=(far0 (b+b2) (by grind)).2
  rw [show (-1:Rat)*(b+b2)=-(b+b2) by grind] at s
  have:=base (-(b+b2))
  rw [k,aS9 s (aD2 0)] at this
  omega
structure Fp where
 k:Nat
 u:Rat
 w:Rat
deriving DecidableEq
def N1 (x:Fp):Prop:=(x.k=0/\x.w=0) \/ (x.k=1/\0<x.w) \/ (x.k=2/\x.w<0)
def Fp.f (x:Fp):Pf:=if x.k=0 then pX-a8 x.u else (pX-a8 x.u)*(pX-a8 x.u)+a8 x.w
def Fp.n (x:Fp):Nat:=if x.k=0 then 1 else 2
def Fp.N (x:Fp):Rat->Nat:=if x.k=0 then λa=>if a<x.u then 1 else 0 else λa=>nQ (a-x.u) x.w
def Fp.rs (x:Fp):List Rtu:=if x.k=0 then [⟨x.u,0,0⟩] else if x.k=1 then [] else [⟨x.u,-1,-x.w⟩,⟨x.u,1,-x.w⟩]
def Fp.m (x:Fp):Nat:=if x.k=1 then 1 else 0
def Fp.qs (x:Fp):List Rat:=if x.k=0 then [-x.u,1] else [x.u*x.u+x.w,-2*x.u,1]
theorem Fp.rf {x:Fp} (h:N1 x):Rf x.f x.n x.N:=by
 unfold Fp.f Fp.n Fp.N
 rcases h with ⟨a,b⟩ | ⟨a,b⟩ | ⟨a,b⟩
 ·rw [if_pos a,if_pos a,if_pos a];exact .lin _
 ·rw [if_neg (by lia),if_neg ⋯,if_neg ⋯];exact .quad _ _ (by grind)
 ·rw [if_neg (by lia),if_neg ⋯,if_neg ⋯];exact .quad _ _ (by grind)
theorem Fp.cnt {x:Fp} (h:N1 x):(∀ a,x.N a=x.rs.countP (abv a)+x.m)/\∀ r ∈ x.rs,r.o=0 \/ ((r.o=1 \/ r.o=-1)/\0<r.v):=by
 unfold Fp.N Fp.rs Fp.m
 rcases h with ⟨a,b⟩ | ⟨a,b⟩ | ⟨a,b⟩
 ·rw [if_pos a,if_pos a,if_neg (by lia)]
  have:=bs1 x.u 0 1
  exact ⟨this.n,this.v⟩
 ·rw [if_neg ⋯,if_neg ⋯,if_pos a,if_pos a]
  have:=bs2 x.u x.w 1 b
  exact ⟨this.n,this.v⟩
 ·rw [if_neg ⋯,if_neg ⋯,if_neg (by lia),if_neg ⋯]
  have:=bg5 x.u (-x.w) 1 (by grind)
  have e:- -x.w=x.w:=by grind
  have n:=this.n
  have v:=this.v
  simp only [e] at n
  exact ⟨n,v⟩
theorem Fp.eqs (x:Fp):qp x.qs=x.f:=by
 unfold Fp.qs Fp.f
 split
 ·rw [aA6,C7];grind
 ·rw [Y3,A7,v7,v7]
  have:a8 (-2:Rat)=0-1-1:=by
   rw [show (-2:Rat)=0-1-1 by trivial,z4,z4,k4,show a8 (0:Rat)=0 from p0]
  rw [this];grind
def Ok2 (x y:Fp):Prop:=(x.k=2->y.k=1)/\(y.k=2->x.k=1)
theorem aS5 {x y:Fp} (hx:N1 x) (hy:y.k=1/\0<y.w) (ne:x ≠ y):Cop x.f y.f:=by
 have ey:y.f=qp [y.u*y.u+y.w,-2*y.u,1]:=by rw [<- Fp.eqs];unfold Fp.qs;rw [if_neg (by lia)]
 by_cases x0:x.k=0
 ·have ex:x.f=qp [-x.u,1]:=by rw [<- Fp.eqs];unfold Fp.qs;rw [if_pos x0]
  rw [ex,ey]
  exact av6 (ar3 hy.2)
 ·have ex:x.f=qp [x.u*x.u+x.w,-2*x.u,1]:=by rw [<- Fp.eqs];unfold Fp.qs;rw [if_neg x0]
  rw [ex,ey]
  obtain ⟨u,hu⟩:∃ u,u=y.u:=⟨_,rfl⟩
  obtain ⟨v,hv⟩:∃ v,v=y.w:=⟨_,rfl⟩
  obtain ⟨u',hu'⟩:∃ u',u'=x.u:=⟨_,rfl⟩
  obtain ⟨v',hv'⟩:∃ v',v'=x.w:=⟨_,rfl⟩
  have hvp:0<v:=by rw [hv];exact hy.2
  have ne':¬ (u=u'/\v=v'):=λ⟨a,b⟩=>ne (by
   have k:x.k=y.k:=by
    rcases hx with ⟨p,q⟩ | ⟨p,q⟩ | ⟨p,q⟩
    ·exact absurd p x0
    ·lia
    ·exfalso;grind
   cases x;cases y
   simp only at *
   subst k
   congr 1 <;> grind)
  rw [<- hu,<- hv,<- hu',<- hv']
  refine Cop.symm ?_
  by_cases h:u=u'
  ·subst h
   have vs:v'-v ≠ 0:=λz=>ne' ⟨rfl,by grind⟩
   rw [Y3,Y3]
   refine ak1 vs ⟨-1,1,?_,D8,?_⟩
   ·have:(-1:Pf)=0-1:=by grind
    rw [this];exact F9.sub D8
   ·rw [A7,A7,z4];grind
  ·obtain ⟨α,hα⟩:∃ α,α=-2*u' - -2*u:=⟨_,rfl⟩
   have α0:α ≠ 0:=λz=>h (by grind)
   obtain ⟨r,hr⟩:∃ r,r=(u*u+v-(u'*u'+v'))*α⁻¹:=⟨_,rfl⟩
   have ai:=z0n _ α0
   have e:α*r=u*u+v-(u'*u'+v'):=by
    rw [hr]
    generalize α⁻¹=y at *
    grind
   have k1:=(av6 (r:=r) (ar3 (u:=u) (r:=r) hvp)).symm.scale (c:=α) α0
   have k2:=Cop.addl (c:=1) D8 k1
   have e2:a8 α*qp [-r,1]+qp [u*u+v,-2*u,1]*1=qp [u'*u'+v',-2*u',1]:=by
    rw [aA6,Y3,Y3]
    have h1:a8 α*a8 r=a8 (u*u+v)-a8 (u'*u'+v'):=by rw [<- v7,e,z4]
    have h2:a8 α=a8 (-2*u')-a8 (-2*u):=by rw [hα,z4]
    rw [C7]
    generalize a8 (-2*u')=b' at *
    generalize a8 (-2*u)=b at *
    generalize a8 (u*u+v)=cc at *
    generalize a8 (u'*u'+v')=c' at *
    generalize a8 α=A at *
    generalize a8 r=R at *
    grind
   rw [e2] at k2
   exact k2
theorem bH9 {x y:Fp} (hx:N1 x) (hy:N1 y) (ok:Ok2 x y) (ne:x ≠ y):Cop x.f y.f:=by
 rcases hy with ⟨a,b⟩ | h | ⟨a,b⟩
 ·rcases hx with ⟨c,d⟩ | ⟨c,d⟩ | ⟨c,d⟩
  ·have ex:x.f=qp [-x.u,1]:=by rw [<- Fp.eqs];unfold Fp.qs;rw [if_pos c]
   have ey:y.f=qp [-y.u,1]:=by rw [<- Fp.eqs];unfold Fp.qs;rw [if_pos a]
   rw [ex,ey]
   refine bv3 (.lin _) (.lin _) λz=>ne ?_
   have zu:x.u=y.u:=by
    have:=(List.cons.inj z).1
    grind
   cases x;cases y
   simp only at *
   subst zu
   congr 1 <;> grind
  ·exact (aS5 (.inl ⟨a,b⟩) ⟨c,d⟩ (Ne.symm ne)).symm
  ·have:=ok.1 c;lia
 ·exact aS5 hx h ne
 ·have k:=ok.2 a
  rcases hx with ⟨c,d⟩ | ⟨c,d⟩ | ⟨c,d⟩
  ·lia
  ·exact (aS5 (.inr (.inr ⟨a,b⟩)) ⟨c,d⟩ (Ne.symm ne)).symm
  ·lia
theorem bH8 {x:Fp} (h:N1 x):Cop x.f (dP x.f):=by
 unfold Fp.f
 have quad:∀ u w:Rat,w ≠ 0->Cop ((pX-a8 u)*(pX-a8 u)+a8 w) (dP ((pX-a8 u)*(pX-a8 u)+a8 w)):=λu w hw=>by
  rw [aX8]
  refine ak1 hw ⟨1,0-a8 (1 / 2)*(pX-a8 u),D8,F9.sub ((v5 _).mul (bm7 u)),?_⟩
  have:a8 (1 / 2)*a8 2=1:=by rw [<- v7,show (1 / 2:Rat)*2=1 by trivial,k4]
  generalize a8 (1 / 2)=H at *
  generalize a8 2=W at *
  generalize pX-a8 u=X at *
  have e:1*(X*X+a8 w)+(0-H*X)*(W*X)=X*X+a8 w-H*W*(X*X):=by grind
  rw [e,this];grind
 rcases h with ⟨a,b⟩ | ⟨a,b⟩ | ⟨a,b⟩
 ·rw [if_pos a,aS4];exact aH9 _
 ·rw [if_neg ⋯];exact quad _ _ (by grind)
 ·rw [if_neg ⋯];exact quad _ _ (by grind)
def rt1 (x:Fp × Nat):Rt1:=⟨x.1.f,x.2,x.1.n,x.1.N⟩
def ak2 (x:Fp) (m:Nat):List (Fp × Nat)->List (Fp × Nat)
 | []=>[(x,m)]
 | y :: r=>if y.1=x then (x,y.2+m) :: r else y :: ak2 x m r
structure FL (L:List (Fp × Nat)):Prop where
 ok:∀ x ∈ L,N1 x.1/\1<=x.2
 nd:(L.map (·.1)).Nodup
 two:∀ x ∈ L,∀ y ∈ L,x ≠ y->Ok2 x.1 y.1
theorem bI1:FL []:=⟨λx hx=>by simp at hx,g0c,λx hx=>by simp at hx⟩
theorem FL.rtok {L:List (Fp × Nat)} (h:FL L):∀ x ∈ L.map rt1,bd3 x:=λx hx=>by
 obtain ⟨y,hy,e⟩:=q0w.mp hx
 rw [<- e]
 exact ⟨Fp.rf (h.ok y hy).1,(h.ok y hy).2⟩
theorem FL.tail {x:Fp × Nat} {L:List (Fp × Nat)} (h:FL (x :: L)):FL L:=⟨λy hy=>h.ok y (q0b _ hy),(j0r.mp h.nd).2,λy hy z hz=>h.two y (q0b _ hy) z (q0b _ hz)⟩
theorem FL.tf:∀ {L:List (Fp × Nat)},FL L->TF (tfs (L.map rt1))
 | [],_=>trivial
 | x :: r,h=>by
  refine ⟨(Fp.rf (h.ok x q0c).1).lm.fn,bH8 (h.ok x q0c).1,λy hy=>?_,FL.tf h.tail⟩
  obtain ⟨z,hz,e⟩:=q0w.mp hy
  obtain ⟨w,hw,e2⟩:=q0w.mp hz
  rw [<- e,<- e2]
  have ne:x.1 ≠ w.1:=λq=>(j0r.mp h.nd).1 (q0w.mpr ⟨w,hw,q.symm⟩)
  exact bH9 (h.ok x q0c).1 (h.ok w (q0b _ hw)).1 (h.two x q0c w (q0b _ hw) λq=>ne (by rw [q])) ne
theorem be0 (q:Pf) (m:Nat):∀ n,wP q (n+m)=wP q n*wP q m
 | 0=>by rw [j1e];show _=1*_;grind
 | n+1=>by
  rw [show n+1+m=n+m+1 by lia]
  show q*wP q (n+m)=q*wP q n*wP q m
  rw [be0 q m n];grind
theorem aT3 (x:Fp) (m:Nat):∀ L:List (Fp × Nat),fP (tfs ((ak2 x m L).map rt1))=wP x.f m*fP (tfs (L.map rt1))
 | []=>rfl
 | y :: r=>by
  unfold ak2
  split
  ·rename_i e
   show wP x.f (y.2+m)*fP (tfs (r.map rt1))=wP x.f m*(wP y.1.f y.2*fP (tfs (r.map rt1)))
   rw [be0,e];grind
  ·show wP y.1.f y.2*fP (tfs ((ak2 x m r).map rt1))=wP x.f m*(wP y.1.f y.2*fP (tfs (r.map rt1)))
   rw [aT3 x m r];grind
theorem E8 {x:Fp} {m:Nat}:∀ {L:List (Fp × Nat)} {z:Fp × Nat},z ∈ ak2 x m L->(z.1=x/\m<=z.2) \/ z ∈ L
 | [],z,h=>by rw [q0m.mp h];exact .inl ⟨rfl,q0q _⟩
 | y :: r,z,h=>by
  unfold ak2 at h
  split at h
  ·rcases z0a.mp h with e | e
   ·rw [e];exact .inl ⟨rfl,by show m<=y.2+m;simp⟩
   ·exact .inr (q0b _ e)
  ·rcases z0a.mp h with e | e
   ·exact .inr (by rw [e];exact q0c)
   ·rcases E8 e with k | k
    ·exact .inl k
    ·exact .inr (q0b _ k)
theorem K8 (x:Fp) (m:Nat):∀ L:List (Fp × Nat),(L.map (·.1)).Nodup->(ak2 x m L).map (·.1)=if x ∈ L.map (·.1) then L.map (·.1) else L.map (·.1) ++ [x]
 | [],_=>rfl
 | y :: r,nd=>by
  have ih:=K8 x m r (j0r.mp nd).2
  unfold ak2
  by_cases e:y.1=x
  ·rw [if_pos e,if_pos (by rw [z0w,e];exact q0c),z0w,z0w,e]
  ·rw [if_neg e,z0w,ih,z0w]
   by_cases k:x ∈ r.map (·.1)
   ·rw [if_pos k,if_pos (q0b _ k)]
   ·rw [if_neg k,if_neg (λz=>by
     rcases z0a.mp z with w | w
     ·exact e w.symm
     ·exact k w)]
    rfl
theorem FL.add {L:List (Fp × Nat)} (h:FL L) {x:Fp} {m:Nat} (hx:N1 x) (hm:1<=m) (h2:∀ y ∈ L,y.1 ≠ x->Ok2 x y.1):FL (ak2 x m L) where
 ok:=λz hz=>by
  rcases E8 hz with ⟨a,b⟩ | k
  ·rw [a];exact ⟨hx,by exact Nat.lt_of_lt_of_le ‹_› ‹_›⟩
  ·exact h.ok z k
 nd:=by
  rw [K8 x m L h.nd]
  split
  ·exact h.nd
  ·rename_i k
   exact g0g.mpr ⟨h.nd,j0r.mpr ⟨by simp,g0c⟩,λa ha b hb=>by
    rw [q0m.mp hb]
    exact λz=>k (by rw [<- z];exact ha)⟩
 two:=λa ha b hb ne=>by
  have nd:((ak2 x m L).map (·.1)).Nodup:=by
   rw [K8 x m L h.nd]
   split
   ·exact h.nd
   ·rename_i k
    exact g0g.mpr ⟨h.nd,j0r.mpr ⟨by simp,g0c⟩,λa ha b hb=>by
     rw [q0m.mp hb]
     exact λz=>k (by rw [<- z];exact ha)⟩
  have key:∀ {M:List (Fp × Nat)},(M.map (·.1)).Nodup->∀ p ∈ M,∀ q ∈ M,p.1=q.1->p=q:=fun {M}=>by
   induction M with
   | nil=>intro _ p hp;simp at hp
   | cons c r ih =>
    intro nd p hp q hq e
    obtain ⟨n1,n2⟩:=j0r.mp nd
    rcases z0a.mp hp with a | a
    ·rcases z0a.mp hq with b | b
     ·rw [a,b]
     ·exact absurd (q0w.mpr ⟨q,b,by rw [<- e,a]⟩) n1
    ·rcases z0a.mp hq with b | b
     ·exact absurd (q0w.mpr ⟨p,a,by rw [e,b]⟩) n1
     ·exact ih n2 p a q b e
  have ne1:a.1 ≠ b.1:=λe=>ne (key nd a ha b hb e)
  rcases E8 ha with ⟨ea,_⟩ | ka
  ·rcases E8 hb with ⟨eb,_⟩ | kb
   ·exact absurd (by rw [ea,eb]) ne1
   ·rw [ea] at ne1 ⊢
    exact h2 b kb (Ne.symm ne1)
  ·rcases E8 hb with ⟨eb,_⟩ | kb
   ·rw [eb] at ne1 ⊢
    have:=h2 a ka ne1
    exact ⟨this.2,this.1⟩
   ·exact h.two a ka b kb ne
def kN (ks:List Fp) (a:Rat):Nat:=(ks.map λx=>x.N a).sum
def kn (ks:List Fp):Nat:=(ks.map (·.n)).sum
theorem aG3 (a:Rat):∀ L:List (Fp × Nat),NT (L.map rt1) a=kN (L.map (·.1)) a
 | []=>rfl
 | x :: r=>by
  have ih:=aG3 a r
  unfold NT kN at *
  simp only [z0w,g0n]
  rw [ih];rfl
theorem at5:∀ L:List (Fp × Nat),nT (L.map rt1)=kn (L.map (·.1))
 | []=>rfl
 | x :: r=>by
  have ih:=at5 r
  unfold nT kn at *
  simp only [z0w,g0n]
  rw [ih];rfl
theorem bi9 (x:Fp) (m:Nat) (L:List (Fp × Nat)) (nd:(L.map (·.1)).Nodup) (a:Rat):NT ((ak2 x m L).map rt1) a=NT (L.map rt1) a+if x ∈ L.map (·.1) then 0 else x.N a:=by
 rw [aG3,aG3,K8 x m L nd]
 split
 ·simp
 ·unfold kN
  rw [j0m,q1u]
  simp
theorem aV8 (x:Fp) (m:Nat) (L:List (Fp × Nat)) (nd:(L.map (·.1)).Nodup):nT ((ak2 x m L).map rt1)=nT (L.map rt1)+if x ∈ L.map (·.1) then 0 else x.n:=by
 rw [at5,at5,K8 x m L nd]
 split
 ·simp
 ·unfold kn
  rw [j0m,q1u]
  simp
theorem ah9 (p:Rtu->Bool) (u:Rat):∀ L:List Rtu,L.countP p=(L.filter λx=>decide (x.u<u)).countP p+(L.filter λx=>decide (x.u=u)).countP p+(L.filter λx=>decide (u<x.u)).countP p
 | []=>rfl
 | x :: r=>by
  have ih:=ah9 p u r
  rw [z0c,ih]
  rcases (show x.u<u \/ x.u=u \/ u<x.u by grind) with h | h | h
  ·have h1:decide (x.u<u)=true:=by rw [decide_eq_true_eq];exact h
   have h2:decide (x.u=u)=false:=by rw [decide_eq_false_iff_not];grind
   have h3:decide (u<x.u)=false:=by rw [decide_eq_false_iff_not];grind
   rw [y0d,y0d,y0d,h1,h2,h3]
   simp only [if_true,u0y,if_false,z0c]
   lia
  ·have h1:decide (x.u<u)=false:=by rw [decide_eq_false_iff_not];grind
   have h2:decide (x.u=u)=true:=by rw [decide_eq_true_eq];exact h
   have h3:decide (u<x.u)=false:=by rw [decide_eq_false_iff_not];grind
   rw [y0d,y0d,y0d,h1,h2,h3]
   simp only [if_true,u0y,if_false,z0c]
   lia
  ·have h1:decide (x.u<u)=false:=by rw [decide_eq_false_iff_not];grind
   have h2:decide (x.u=u)=false:=by rw [decide_eq_false_iff_not];grind
   have h3:decide (u<x.u)=true:=by rw [decide_eq_true_eq];exact h
   rw [y0d,y0d,y0d,h1,h2,h3]
   simp only [if_true,u0y,if_false,z0c]
   lia
def ar8 (u:Rat) (L:List Rtu):List Rtu:=(L.filter λx=>decide (x.u<u)) ++ [⟨u,0,0⟩] ++ L.filter λx=>decide (u<x.u)
def aC3 (L:List Rtu):Prop:=(∀ x ∈ L,x.o=0/\x.v=0)/\(L.map (·.u)).Nodup
theorem bn2 (u:Rat):∀ {L:List Rtu},aC3 L->L.filter (λx=>decide (x.u=u))=if u ∈ L.map (·.u) then [⟨u,0,0⟩] else []
 | [],_=>rfl
 | x :: r,h=>by
  have hr:aC3 r:=⟨λy hy=>h.1 y (q0b _ hy),(j0r.mp h.2).2⟩
  have ih:=bn2 u hr
  have n1:=(j0r.mp h.2).1
  obtain ⟨o0,v0⟩:=h.1 x q0c
  rw [y0d,ih]
  by_cases e:x.u=u
  ·have nm:¬ u ∈ r.map (·.u):=by rw [<- e];exact n1
   rw [if_pos (by rw [decide_eq_true_eq];exact e),if_neg nm,if_pos (by rw [z0w,e];exact q0c)]
   congr 1
   cases x
   simp only at *
   subst e o0 v0
   rfl
  ·rw [if_neg (by rw [decide_eq_true_eq];exact e),z0w]
   by_cases k:u ∈ r.map (·.u)
   ·rw [if_pos k,if_pos (q0b _ k)]
   ·rw [if_neg k,if_neg (λz=>by
     rcases z0a.mp z with w | w
     ·exact e w.symm
     ·exact k w)]
theorem ba3 (p:Rtu->Bool) (u:Rat) {L:List Rtu} (h:aC3 L):(ar8 u L).countP p=L.countP p+if u ∈ L.map (·.u) then 0 else [(⟨u,0,0⟩:Rtu)].countP p:=by
 unfold ar8
 rw [ah9 p u L,bn2 u h,j0y,j0y]
 split
 ·simp
 ·rw [List.countP_nil];lia
theorem ba2 {u:Rat} {L:List Rtu} (h:aC3 L):aC3 (ar8 u L):=by
 unfold ar8
 refine ⟨λx hx=>?_,?_⟩
 ·rcases q0t.mp hx with y | y
  ·rcases q0t.mp y with z | z
   ·exact h.1 x (j0h.mp z).1
   ·rw [q0m.mp z];exact ⟨rfl,rfl⟩
  ·exact h.1 x (j0h.mp y).1
 ·rw [j0m,j0m]
  have sub:∀ q:Rtu->Bool,((L.filter q).map (·.u)).Nodup:=λq=>List.Sublist.nodup ((z1w).map _) h.2
  refine g0g.mpr ⟨g0g.mpr ⟨sub _,j0r.mpr ⟨by simp,g0c⟩,λa ha b hb=>?_⟩,sub _,λa ha b hb=>?_⟩
  ·obtain ⟨x,hx,e⟩:=q0w.mp ha
   have l:=of_decide_eq_true (j0h.mp hx).2
   have eb:b=u:=q0m.mp hb
   grind
  ·obtain ⟨y,hy,e2⟩:=q0w.mp hb
   have l2:=of_decide_eq_true (j0h.mp hy).2
   rcases q0t.mp ha with z | z
   ·obtain ⟨x,hx,e⟩:=q0w.mp z
    have l:=of_decide_eq_true (j0h.mp hx).2
    grind
   ·have ea:a=u:=q0m.mp z
    grind
theorem bs7 {u v:Rat} {L:List Rtu}:v ∈ (ar8 u L).map (·.u) ↔ v=u \/ v ∈ L.map (·.u):=by
 unfold ar8
 rw [j0m,j0m]
 refine ⟨λh=>?_,λh=>?_⟩
 ·rcases q0t.mp h with y | y
  ·rcases q0t.mp y with z | z
   ·obtain ⟨x,hx,e⟩:=q0w.mp z
    exact .inr (q0w.mpr ⟨x,(j0h.mp hx).1,e⟩)
   ·exact .inl (q0m.mp z)
  ·obtain ⟨x,hx,e⟩:=q0w.mp y
   exact .inr (q0w.mpr ⟨x,(j0h.mp hx).1,e⟩)
 ·by_cases z:v=u
  ·exact q0t.mpr (.inl (q0t.mpr (.inr (q0m.mpr z))))
  ·rcases h with h | h
   ·exact absurd h z
   ·obtain ⟨x,hx,e⟩:=q0w.mp h
    rcases (show v<u \/ u<v by grind) with l | l
    ·exact q0t.mpr (.inl (q0t.mpr (.inl (q0w.mpr ⟨x,j0h.mpr ⟨hx,by rw [decide_eq_true_eq];have:x.u=v:=e;grind⟩,e⟩))))
    ·exact q0t.mpr (.inr (q0w.mpr ⟨x,j0h.mpr ⟨hx,by rw [decide_eq_true_eq];have:x.u=v:=e;grind⟩,e⟩))
structure aI9 (p:Pf) (n:Nat):Prop where
 lm:Lm p n
 ov:∃ B,0<B/\OvP B (7*n+4) p
structure FpB (x:Fp):Prop where
 ok:N1 x
 ov:∃ B e,0<B/\e+x.qs.length<=7*x.n/\∀ q ∈ x.qs,OvB B e q
theorem aI9.fac {p:Pf} {n:Nat} (h:aI9 p n) {x:Fp} (F:FpB x):aI9 (x.f*p) (x.n+n):=by
 refine ⟨(Fp.rf F.ok).lm.mul h.lm,?_⟩
 obtain ⟨B,hB,ov⟩:=h.ov
 obtain ⟨C,e,hC,le,oq⟩:=F.ov
 refine ⟨C*B,j0s hC hB,?_⟩
 have k:=OvP.mul hC hB (bg9 oq) ov (az6 x.qs)
 rw [Fp.eqs] at k
 exact k.mono (by lia)
theorem aI9.facs {p:Pf} {n:Nat} (h:aI9 p n) {x:Fp} (F:FpB x):∀ m,aI9 (wP x.f m*p) (m*x.n+n)
 | 0=>by
  have:wP x.f 0*p=p:=by show 1*p=p;grind
  rw [this,Nat.zero_mul,j1e];exact h
 | m+1=>by
  have ih:=(h.facs F m).fac F
  have e:x.f*(wP x.f m*p)=wP x.f (m+1)*p:=by show _=x.f*wP x.f m*p;grind
  rw [e] at ih
  rw [show (m+1)*x.n+n=x.n+(m*x.n+n) by rw [m0h];lia]
  exact ih
structure Cs (c L:Nat) (P0 Q0 A B:List Int):Prop where
 tA:v2 A A.length
 tB:v2 B B.length
 lA:A.length<=L
 lB:B.length<A.length
 gB:B ≠ []->m5 B=1
 eu:Eu (zc P0) (zc Q0) (zc A) (zc B) P0.length Q0.length A.length B.length
 wA:∀ k,(aZ A k).natAbs<2 ^ (c*(2*(L-A.length)+1))
 wB:∀ k,(aZ B k).natAbs<2 ^ (c*(2*(L-A.length)+1))
theorem Cs.step {c L K:Nat} {P0 Q0 A B C Rz:List Int} {many g:Int} {Qf:Nat->Rat} {lQ:Nat} (S:Cs c L P0 Q0 A B) (hP:P0.length=L) (hQ:Q0.length+1=L) (kP:∀ k,(aZ P0 k).natAbs<=K) (kQ:∀ k,(aZ Q0 k).natAbs<=K) (hK:1<=K) (hc:2*(2*L-5)*K<=2 ^ c) (hc1:1<=c)
  (hB:0<B.length) (hm:many ≠ 0) (dv:∀ k,(many:Rat)*zc A k=cv Qf (zc B) k+zc Rz k) (hQf:Dg Qf lQ) (hR:∀ k,aZ Rz k=g*aZ C k) (g0:g ≠ 0) (tC:v2 C C.length) (lC:C.length<B.length) (gC:C ≠ []->m5 C=1):Cs c L P0 Q0 B C:=by
 have lA:=S.lA
 have lB:=S.lB
 have hm':(many:Rat) ≠ 0:=λw=>hm (j0k.mp (by rw [w,z0k]))
 have hg':(g:Rat) ≠ 0:=λw=>g0 (j0k.mp (by rw [w,z0k]))
 have eu':Eu (zc P0) (zc Q0) (zc B) (zc C) P0.length Q0.length B.length C.length:=Eu.step S.eu (by exact Nat.le_of_lt ‹_›) (ab8 B) hB (aT6 (W0 S.tB hB)) (ab8 C) lC hm' hg' hQf λk=>by
  rw [dv k]
  congr 1
  unfold zc
  rw [hR k,q0n]
 have up:c*(2*(L-A.length)+1)<=c*(2*(L-B.length)+1):=y0m _ (by lia)
 exact ⟨S.tB,tC,by lia,lC,gC,eu',λk=>q0f (S.wB k) (c9 up),bn0 hP hQ kP kQ hK hc hc1 eu' ⋯ lC tC gC⟩
theorem au0 {ws:List Int} (t:v2 ws ws.length) (h:0<ws.length):Lm (zp ws) (ws.length-1):=⟨by
 rw [show ws.length-1+1=ws.length by lia];exact ab8 ws,aT6 (W0 t h)⟩
def av8 (x y z:Pf):Prop:=∃ c d Q k,0<c/\0<d/\Lm Q (k+1)/\a8 c*x=Q*y-a8 d*z
theorem bC5 {A B Qz Rz C:List Int} {many h:Int} (dv:Dv A B Qz Rz many) (hm:1<=many) (hh:1<=h) (hR:∀ k,aZ Rz k=-h*aZ C k) (tQ:v2 Qz Qz.length) (lQ:2<=Qz.length):av8 (zp A) (zp B) (zp C):=by
 have l:=au0 tQ (by exact Nat.le_of_lt ‹_›)
 obtain ⟨k,hk⟩:∃ k,Qz.length-1=k+1:=⟨Qz.length-2,by lia⟩
 rw [hk] at l
 refine ⟨(many:Rat),(h:Rat),zp Qz,k,j0u.mpr ⋯,j0u.mpr ⋯,l,Pf.ext λi=>?_⟩
 rw [C4,C2,C4]
 show (many:Rat)*zc A i=cv (zc Qz) (zc B) i-(h:Rat)*zc C i
 rw [dv i]
 have e:zc Rz i=-(h:Rat)*zc C i:=by
  unfold zc
  rw [hR i,q0n,j0z]
 rw [e];grind
theorem av8.cancel {g x y z:Pf} {n:Nat} (lg:Lm g n) (fx:Fn x) (fy:Fn y) (fz:Fn z) (h:av8 (g*x) (g*y) (g*z)):av8 x y z:=by
 obtain ⟨c,d,Q,k,hc,hd,lQ,e⟩:=h
 refine ⟨c,d,Q,k,hc,hd,lQ,lg.cancel ((v5 c).mul fx) ((lQ.fn.mul fy).sub ((v5 d).mul fz)) ?_⟩
 have a:g*(a8 c*x)=a8 c*(g*x):=by grind
 rw [a,e];grind
def ab7 (l:List Pf):Prop:=∀ i x y z,l[i]? = some x->l[i+1]? = some y->l[i+2]? = some z->av8 x y z
theorem ab7.tail {x:Pf} {l:List Pf} (h:ab7 (x :: l)):ab7 l:=λi a b c h1 h2 h3=>h (i+1) a b c h1 h2 h3
theorem aP1 {l:List Pf} (h:l.length<=2):ab7 l:=λi x y z _ _ h3=>by
 have:=(q0g.mp h3).1
 lia
theorem ab7.snoc {l:List Pf} {z:Pf} (h:ab7 l) (k:∀ i x y,i+2=l.length->l[i]? = some x->l[i+1]? = some y->av8 x y z):ab7 (l ++ [z]):=λi a b c h1 h2 h3=>by
 have hl:=(q0g.mp h3).1
 rw [z0g] at hl
 have hl':i+2<l.length+1:=hl
 rw [z0h (by lia)] at h1 h2
 by_cases e:i+2=l.length
 ·rw [j0v (by lia),e,u0x] at h3
  have:z=c:=Option.some.inj h3
  rw [<- this]
  exact k i a b e h1 h2
 ·rw [z0h (by lia)] at h3
  exact h i a b c h1 h2 h3
theorem aT9:∀ {l:List Pf},ab7 l->(∀ i x,i+2=l.length->l[i]? = some x->∃ n,Lm x (n+1))->bx1 l
 | [],_,_=>trivial
 | [x],_,_=>trivial
 | [x,y],_,h=>h 0 x rfl rfl
 | x :: y :: z :: l,s,h=>⟨s 0 x y z rfl rfl rfl,aT9 s.tail λi a e k=>h (i+1) a (by rw [z0t];lia) k⟩
theorem ab7.over {g:Pf} {n:Nat} (lg:Lm g n) {l:List Pf} (f:∀ x ∈ l,Fn x) (h:ab7 (l.map (g * ·))):ab7 l:=λi x y z h1 h2 h3=>by
 have m:∀ {j w},l[j]? = some w->w ∈ l:=fun {j w} k=>q0p k
 refine av8.cancel lg (f x (m h1)) (f y (m h2)) (f z (m h3)) (h i _ _ _ ?_ ?_ ?_)
 ·rw [q0r,h1];rfl
 ·rw [q0r,h2];rfl
 ·rw [q0r,h3];rfl
def Dvd (g x:Pf):Prop:=∃ z,Fn z/\x=g*z
theorem av8.dvd {g x y z:Pf} (h:av8 x y z) (a:Dvd g x) (b:Dvd g y):Dvd g z:=by
 obtain ⟨c,d,Q,k,hc,hd,lQ,e⟩:=h
 obtain ⟨s,fs,es⟩:=a
 obtain ⟨t,ft,et⟩:=b
 have id:=z5 (show d ≠ 0 by grind)
 refine ⟨a8 d⁻¹*(Q*t-a8 c*s),(v5 _).mul ((lQ.fn.mul ft).sub ((v5 c).mul fs)),?_⟩
 have e2:a8 d*z=g*(Q*t-a8 c*s):=by
  rw [es,et] at e
  grind
 have e3:z=a8 d⁻¹*(a8 d*z):=by
  generalize a8 d=D at *
  generalize a8 d⁻¹=D' at *
  grind
 rw [e3,e2];grind
theorem av8.dvdx {g x y z:Pf} (h:av8 x y z) (a:Dvd g y) (b:Dvd g z):Dvd g x:=by
 obtain ⟨c,d,Q,k,hc,hd,lQ,e⟩:=h
 obtain ⟨s,fs,es⟩:=a
 obtain ⟨t,ft,et⟩:=b
 have id:=z5 (show c ≠ 0 by grind)
 refine ⟨a8 c⁻¹*(Q*s-a8 d*t),(v5 _).mul ((lQ.fn.mul fs).sub ((v5 d).mul ft)),?_⟩
 have e2:a8 c*x=g*(Q*s-a8 d*t):=by
  rw [es,et] at e
  grind
 have e3:x=a8 c⁻¹*(a8 c*x):=by
  generalize a8 c=D at *
  generalize a8 c⁻¹=D' at *
  grind
 rw [e3,e2];grind
theorem bv5 {g x:Pf} {m n:Nat} (lg:Lm g m) (lx:Lm x n) (h:Dvd g x):m<=n:=by
 obtain ⟨z,fz,e⟩:=h
 have zn:z ≠ 0:=λw=>lx.nz (by rw [e,w];grind)
 obtain ⟨k,lk⟩:=aW0 fz zn
 have:=lg.mul lk
 rw [<- e] at this
 have:=Y1 this lx
 lia
theorem dvd_refl (g:Pf):Dvd g g:=⟨1,D8,by grind⟩
theorem aY5 {g:Pf}:∀ {l:List Pf},ab7 l->l.getLast? = some g->(∀ i x,i+2=l.length->l[i]? = some x->Dvd g x)->∀ w ∈ l,Dvd g w
 | [],_,e,_,w,hw=>by simp at hw
 | [x],_,e,_,w,hw=>by
  have:x=g:=Option.some.inj e
  rw [q0m.mp hw,this];exact dvd_refl g
 | [x,y],_,e,h,w,hw=>by
  have:y=g:=Option.some.inj e
  rcases z0a.mp hw with a | a
  ·rw [a];exact h 0 x rfl rfl
  ·rw [q0m.mp a,this];exact dvd_refl g
 | x :: y :: z :: l,s,e,h,w,hw=>by
  have ih:=aY5 (l:=y :: z :: l) s.tail (by rw [g0d] at e;exact e) λi a k j=>h (i+1) a (by rw [z0t];omega) j
  rcases z0a.mp hw with a | a
  ·rw [a]
   exact (s 0 x y z rfl rfl rfl).dvdx (ih y q0c) (ih z (q0b _ q0c))
  ·exact ih w a
theorem aT0 {S T:List Pf} {g:Pf} {n:Nat} (lg:Lm g n) (la:S.getLast? = some g) (eT:S=T.map (g * ·)) (fT:∀ x ∈ T,Fn x) (h:ab7 S) (l2:2<=S.length) (dg:∀ i x,i+2=S.length->S[i]? = some x->∃ m,n<m/\Lm x m) {L:List (Fp × Nat)} (F:FL L) {k1 k2:Rat} (s0:S[0]? = some (a8 k1*fP (tfs (L.map rt1)))) (s1:S[1]? = some (a8 k2*dP (fP (tfs (L.map rt1))))) (hk:0<k1*k2) :
  ∃ T0 T1 l n c d,T=T0 :: T1 :: l/\PSt T0 T1 l n/\0<c*d/\T0=a8 c*aP (tfs (L.map rt1)) 1/\T1=a8 d*sP (tfs (L.map rt1)) 1:=by
 have lT:T.length=S.length:=by rw [eT,q0e]
 have sT:ab7 T:=ab7.over lg fT (by rw [<- eT];exact h)
 have tT:bx1 T:=aT9 sT λi x e k=>by
  have kS:S[i]? = some (g*x):=by rw [eT,q0r,k];rfl
  obtain ⟨m,hm,lm⟩:=dg i _ (by lia) kS
  have fx:=fT x (q0p k)
  have xn:x ≠ 0:=λz=>lm.nz (by rw [z];grind)
  obtain ⟨j,lj⟩:=aW0 fx xn
  have:=Y1 (lg.mul lj) lm
  obtain ⟨j',hj'⟩:∃ j',j=j'+1:=⟨j-1,by lia⟩
  rw [hj'] at lj
  exact ⟨j',lj⟩
 have lastT:∃ c,c ≠ 0/\T.getLast? = some (a8 c):=by
  refine ⟨1,by trivial,?_⟩
  rw [eT,m0v] at la
  cases e:T.getLast? with
  | none=>rw [e] at la;cases la
  | some w =>
   rw [e] at la
   have ew:g*w=g:=Option.some.inj la
   have fw:Fn w:=fT w (m0a e)
   have:w=1:=lg.cancel fw D8 (by rw [ew];grind)
   rw [this,k4]
 match T,eT,fT,lT,tT,lastT with
 | [],_,_,lT,_,_=>simp only [m0b] at lT;lia
 | [x],_,_,lT,_,_=>simp only [z0y] at lT;lia
 | T0 :: T1 :: l,eT,fT,lT,tT,lastT =>
  obtain ⟨m,hP⟩:=bh1 tT lastT
  have one:∀ x ∈ tfs (L.map rt1),1<=x.2:=λx hx=>by
   obtain ⟨y,hy,e⟩:=q0w.mp hx
   rw [<- e]
   exact (F.rtok y hy).2
  obtain ⟨f1,f2⟩:=aM9 one
  have tf:=F.tf
  have e0:g*T0=a8 k1*(gP1 (tfs (L.map rt1))*aP (tfs (L.map rt1)) 1):=by
   rw [eT] at s0
   have:g*T0=a8 k1*fP (tfs (L.map rt1)):=Option.some.inj s0
   rw [this,f1]
  have e1:g*T1=a8 k2*(gP1 (tfs (L.map rt1))*sP (tfs (L.map rt1)) 1):=by
   rw [eT] at s1
   have:g*T1=a8 k2*dP (fP (tfs (L.map rt1))):=Option.some.inj s1
   rw [this,f2]
  have fns:=TF.fn tf
  have fG:Fn (gP1 (tfs (L.map rt1))):=by
   have w:∀ {q:Pf},Fn q->∀ k,Fn (wP q k):=fun {q} hq k=>by
    induction k with
    | zero=>exact D8
    | succ k ih=>exact hq.mul ih
   have gg:∀ {fs:List (Pf × Nat)},(∀ x ∈ fs,Fn x.1)->Fn (gP1 fs):=fun {fs}=>by
    induction fs with
    | nil=>intro _;exact D8
    | cons x r ih=>intro hx;exact (w (hx x q0c) _).mul (ih λy hy=>hx y (q0b _ hy))
   exact gg fns
  obtain ⟨c,d,hcd,a,b⟩:=aZ3 lg (fT T0 q0c) (fT T1 (q0b _ q0c)) (au8 fns 1) (aM8 fns 1) fG e0 e1 hk (aI6 tf 1) hP.cop
  exact ⟨T0,T1,l,m,c,d,rfl,hP,hcd,a,b⟩
def L4:Int->List Int->Nat
 | _,[]=>0
 | b,s :: r=>(if s*b<0 then 1 else 0)+L4 (if s=0 then b else s) r
theorem aq6:∀ (l:List Int) (b:Int),L4 b l=chg (b:Rat) (l.map λs:Int=>(s:Rat))
 | [],_=>rfl
 | s :: r,b=>by
  show (if s*b<0 then 1 else 0)+L4 (if s=0 then b else s) r=(if (s:Rat)*(b:Rat)<0 then 1 else 0)+chg (if (s:Rat)=0 then (b:Rat) else (s:Rat)) (r.map λs:Int=>(s:Rat))
  have i:((s:Rat)*(b:Rat)<0) ↔ (s*b<0):=by
   rw [<- q0n]
   exact m0d
  have z:((s:Rat)=0) ↔ (s=0):=Rat.intCast_eq_zero_iff
  have e:(if (s:Rat)=0 then (b:Rat) else (s:Rat))=((if s=0 then b else s:Int):Rat):=by
   by_cases h:s=0
   ·rw [if_pos h,if_pos (z.mpr h)]
   ·rw [if_neg h,if_neg (λw=>h (z.mp w))]
  rw [e,aq6 r]
  congr 1
  simp only [i]
theorem aN3:∀ (l m:List Int) (b:Int),L4 b (l ++ m)=L4 b l+L4 (l.foldl (λb s=>if s=0 then b else s) b) m
 | [],m,b=>by show L4 b m=0+L4 b m;simp
 | s :: r,m,b=>by
  show (if s*b<0 then 1 else 0)+L4 (if s=0 then b else s) (r ++ m)=(if s*b<0 then 1 else 0)+L4 (if s=0 then b else s) r+L4 (r.foldl (λb s=>if s=0 then b else s) (if s=0 then b else s)) m
  rw [aN3 r m];lia
def sg3 (q:Rat):Int:=if 0<q then 1 else if q<0 then -1 else 0
def ag2 (c:Rat) (x:Rtu):Int:=if x.o=0 then sg3 (c-x.u) else if sg3 (c-x.u) ≠ x.o then 0-x.o else x.o*sg3 ((c-x.u)*(c-x.u)-x.v)
theorem ap9 (q:Rat):sg3 q<0 ↔ q<0:=by
 unfold sg3
 by_cases a:0<q
 ·rw [if_pos a];exact ⟨λh=>⋯,λh=>by grind⟩
 ·rw [if_neg a]
  by_cases b:q<0
  ·rw [if_pos b];exact ⟨λ_=>b,λ_=>by decide⟩
  ·rw [if_neg b];exact ⟨λh=>⋯,λh=>absurd h b⟩
theorem ap8 (q:Rat):0<sg3 q ↔ 0<q:=by
 unfold sg3
 by_cases a:0<q
 ·rw [if_pos a];exact ⟨λ_=>a,λ_=>by decide⟩
 ·rw [if_neg a]
  by_cases b:q<0
  ·rw [if_pos b];exact ⟨λh=>⋯,λh=>absurd h a⟩
  ·rw [if_neg b];exact ⟨λh=>⋯,λh=>absurd h a⟩
theorem aD9 (q:Rat):sg3 q=1 ↔ 0<q:=by
 rw [<- ap8]
 have:sg3 q=1 \/ sg3 q=-1 \/ sg3 q=0:=by
  unfold sg3
  split
  ·exact .inl rfl
  ·split
   ·exact .inr (.inl rfl)
   ·exact .inr (.inr rfl)
 lia
theorem aP0 (q:Rat):sg3 q=-1 ↔ q<0:=by
 rw [<- ap9]
 have:sg3 q=1 \/ sg3 q=-1 \/ sg3 q=0:=by
  unfold sg3
  split
  ·exact .inl rfl
  ·split
   ·exact .inr (.inl rfl)
   ·exact .inr (.inr rfl)
 lia
theorem bg1 {c:Rat} {x:Rtu} (h:x.o=0 \/ ((x.o=1 \/ x.o=-1)/\0<x.v)):(ag2 c x<0) ↔ abv c x=true:=by
 unfold ag2 abv
 rcases h with h | ⟨h | h,hv⟩
 ·rw [if_pos h,if_pos h,decide_eq_true_eq,ap9]
  exact ⟨λk=>by grind,λk=>by grind⟩
 ·have q1:¬ ((1:Int)=0):=by decide
  rw [h,if_neg q1,if_neg q1,if_pos (rfl:(1:Int)=1),u0a,decide_eq_true_eq,decide_eq_true_eq]
  by_cases k:0<c-x.u
  ·rw [if_neg (by rw [(aD9 _).mpr k];exact λz=>z rfl),Int.one_mul,ap9]
   exact ⟨λw=>.inr (by grind),λw=>by rcases w with w | w <;> grind⟩
  ·rw [if_pos (λz=>k ((aD9 _).mp z))]
   exact ⟨λ_=>.inl (by grind),λ_=>by decide⟩
 ·have q1:¬ ((-1:Int)=0):=by decide
  have q2:¬ ((-1:Int)=1):=by decide
  rw [h,if_neg q1,if_neg q1,if_neg q2,y0a,decide_eq_true_eq,decide_eq_true_eq]
  by_cases k:c-x.u<0
  ·rw [if_neg (by rw [(aP0 _).mpr k];exact λz=>z rfl)]
   have e:(-1*sg3 ((c-x.u)*(c-x.u)-x.v)<0) ↔ 0<sg3 ((c-x.u)*(c-x.u)-x.v):=by simp
   rw [e,ap8]
   exact ⟨λw=>⟨k,by grind⟩,λw=>by grind⟩
  ·rw [if_pos (λz=>k ((aP0 _).mp z))]
   exact ⟨λw=>⋯,λw=>absurd w.1 k⟩
structure N9 (q:Rat):Prop where
 n:q.num.natAbs<=9
 d:q.den<=6
theorem aj3 (q:Rat):q*((q.den:Nat):Rat)=(q.num:Rat):=by
 have d0:((q.den:Nat):Rat) ≠ 0:=λz=>by
  have:=q.den_pos
  rw [v0f] at z
  omega
 have h:=z0u q
 rw [j0n,q0x] at h
 have e:=y0h (a:=(q.num:Rat)) d0
 rw [h] at e
 exact e
theorem aW8 {u:Rat} (h:N9 u):FpB ⟨0,u,0⟩:=by
 refine ⟨.inl ⟨rfl,rfl⟩,u.den,4,u.den_pos,by show 4+2<=7*1;simp,λq hq=>?_⟩
 have hq':q ∈ [-u,1]:=hq
 rcases z0a.mp hq' with e | e
 ·rw [e]
  refine OvB.neg ⟨u.num,(z0u u).symm,?_⟩
  have:=h.n
  omega
 ·rw [q0m.mp e]
  refine ⟨(u.den:Int),?_,?_⟩
  ·rw [j0n]
   have d0:((u.den:Nat):Rat) ≠ 0:=λz=>by
    have:=u.den_pos
    rw [v0f] at z
    omega
   show (1:Rat)=((u.den:Int):Rat) / ((u.den:Int):Rat)
   rw [q0x,y0j,z0n _ d0]
  ·have:=h.d
   rw [q0k]
   omega
theorem aj7 {u w:Rat} {k:Nat} (h:N9 u) (g:N9 w) (ok:N1 ⟨k,u,w⟩) (k0:k ≠ 0):FpB ⟨k,u,w⟩:=by
 have n2:Fp.n ⟨k,u,w⟩=2:=by unfold Fp.n;rw [if_neg k0]
 have qs:Fp.qs ⟨k,u,w⟩=[u*u+w,-2*u,1]:=by unfold Fp.qs;rw [if_neg k0]
 have du:=u.den_pos
 have dw:=w.den_pos
 have hd:=h.d
 have gd:=g.d
 have hn:=h.n
 have gn:=g.n
 refine ⟨ok,u.den*u.den*w.den,10,j0s (j0s du du) dw,by rw [n2,qs];show 10+3<=7*2;simp,λq hq=>?_⟩
 rw [qs] at hq
 have u0:((u.den:Nat):Rat) ≠ 0:=λz=>by rw [v0f] at z;lia
 have w0:((w.den:Nat):Rat) ≠ 0:=λz=>by rw [v0f] at z;lia
 have eu:=aj3 u
 have ew:=aj3 w
 have D0:(((u.den*u.den*w.den:Nat)):Rat) ≠ 0:=λz=>by
  rw [v0f] at z
  have:=j0s (j0s du du) dw
  omega
 have mk:∀ (x:Rat) (z:Int),x*(((u.den*u.den*w.den:Nat)):Rat)=(z:Rat)->z.natAbs<2 ^ 10->OvB (u.den*u.den*w.den) 10 x:=λx z e b=>⟨z,by
  rw [j0n,<- e]
  show x=x*_ / (((u.den*u.den*w.den:Nat):Int):Rat)
  rw [q0x,Rat.mul_div_cancel D0],b⟩
 have duu:u.den*u.den<=36:=j0f hd hd
 rcases z0a.mp hq with e | e
 ·rw [e]
  refine mk _ (u.num*u.num*w.den+w.num*(u.den*u.den)) ?_ ?_
  ·rw [g0w,q0n,q0n,q0n,q0n,q0x,q0x,y0s,y0s,<- eu,<- ew]
   grind
  ·have a1:(u.num*u.num*(w.den:Int)).natAbs<=81*6:=by
    rw [z0f,z0f,q0k]
    exact j0f (j0f hn hn) gd
   have a2:(w.num*((u.den:Int)*(u.den:Int))).natAbs<=9*36:=by
    rw [z0f,z0f,q0k]
    exact j0f gn duu
   have:=m0t (u.num*u.num*(w.den:Int)) (w.num*((u.den:Int)*(u.den:Int)))
   lia
 ·rcases z0a.mp e with e | e
  ·rw [e]
   refine mk _ (-2*u.num*(u.den*w.den)) ?_ ?_
   ·have m2:((-2:Int):Rat)=-2:=by trivial
    rw [q0n,q0n,q0n,q0x,q0x,y0s,y0s,<- eu,m2]
    grind
   ·rw [z0f,z0f,z0f,q0k,q0k]
    have:=j0f (j0f (q0q (-2:Int).natAbs) hn) (j0f hd gd)
    have e2:(-2:Int).natAbs*9*(6*6)=648:=by decide
    lia
  ·rw [q0m.mp e]
   refine mk _ ((u.den*u.den*w.den:Nat):Int) ?_ ?_
   ·rw [q0x];grind
   ·rw [q0k]
    have:=j0f duu gd
    omega
theorem bL0 (q:Rat) (l:List Rat):qp (q :: l)=a8 q+pX*qp l:=Pf.ext λk=>by
 rw [C3,J2,Y5]
 cases k with
 | zero=>rw [if_pos rfl,if_pos rfl];show q=q+0;grind
 | succ k=>rw [if_neg ⋯,if_neg ⋯];show (qp l).f k=0+(qp l).f k;grind
theorem aN6 (a:Rat):∀ l:List Rat,At a (qp l) (evQ a l)
 | []=>by
  have e:qp []=a8 0:=Pf.ext λk=>by
   rw [J2]
   have:(qp []).f k=0:=az6 [] k (by simp)
   rw [this];split <;> rfl
  rw [e];exact Q3 a 0
 | q :: l=>by
  rw [bL0]
  have h:=(Q3 a q).add ((bN3 a).mul (aN6 a l))
  have e:evQ a (q :: l)=q+a*evQ a l:=rfl
  rw [e];exact h
theorem bO0 {t:Rat->Pf->Rat} (T:Evl t) (a:Rat) (l:List Rat):t a (qp l)=evQ a l:=M9 (T.at' a _ (bz5 l)) (aN6 a l)
theorem bd6 (ws:List Int):zp ws=qp (ws.map λv:Int=>(v:Rat)):=Pf.ext λk=>by
 show ((aZ ws k:Int):Rat)=aQ _ k
 unfold aZ aQ
 rw [q0r]
 cases ws[k]? with
 | none=>rfl
 | some v=>rfl
theorem bN9 {t:Rat->Pf->Rat} (T:Evl t) (a:Rat) (ws:List Int):t a (zp ws)=evQ a (ws.map λv:Int=>(v:Rat)):=by rw [bd6];exact bO0 T a _
theorem bv4 {A S:List Int} (g:m5 A=1) (h:Dvd (zp A) (zp S)):ExZ S A:=by
 obtain ⟨z,⟨n,dz⟩,e⟩:=h
 have e':∀ k,(z*zp A).f k=((aZ S k:Int):Rat):=λk=>by
  have:z*zp A=zp S:=by rw [e];grind
  rw [this];rfl
 obtain ⟨y,hy⟩:=bM4 g dz e'
 refine ⟨y,n,λk hk=>j0k.mp (by rw [<- hy,dz k hk,z0k]),λk=>?_⟩
 have hz:z.f=λi=>(y i:Rat):=funext hy
 rw [<- hz]
 exact (e' k).symm
theorem bb1 {G A a s:Pf} {n:Nat} (lG:Lm G n) (fa:Fn a) (fs:Fn s) (h:Dvd G A) (h1:Dvd A (G*a)) (h2:Dvd A (G*s)) (c:Cop a s):∃ k,k ≠ 0/\A=a8 k*G:=by
 obtain ⟨w,fw,e⟩:=h
 obtain ⟨z0,f0,e0⟩:=h1
 obtain ⟨z1,f1,e1⟩:=h2
 have a0:a=w*z0:=lG.cancel fa (fw.mul f0) (by rw [e0,e];grind)
 have a1:s=w*z1:=lG.cancel fs (fw.mul f1) (by rw [e1,e];grind)
 obtain ⟨u,v,fu,fv,b⟩:=c
 obtain ⟨k,k0,hk⟩:=ar0 (W:=u*z0+v*z1) fw ((fu.mul f0).add (fv.mul f1)) (by rw [a0,a1] at b;grind)
 exact ⟨k,k0,by rw [e,hk];grind⟩
structure CR (c L:Nat) (P0 Q0:List Int) (G:Pf) (Ss:List (List Int)) (A B:List Int):Prop where
 la:Ss.getLast? = some A
 cs:Cs c L P0 Q0 A B
 sq:ab7 ((Ss ++ [B]).map zp)
 gs:∀ S ∈ Ss,Dvd G (zp S)
 gB:Dvd G (zp B)
 ok:∀ S ∈ Ss,v2 S S.length/\m5 S=1/\S.length<=L/\A.length<=S.length/\∀ k,(aZ S k).natAbs<2 ^ (c*(2*(L-S.length)+1))
 h0:(Ss ++ [B])[0]? = some P0
 h1:(Ss ++ [B])[1]? = some Q0
 pen:∀ i X,i+2=Ss.length->Ss[i]? = some X->A.length<X.length
 ln:Ss.length+B.length<=L
theorem CR.start {c L:Nat} {P0 Q0:List Int} {G:Pf} (S:Cs c L P0 Q0 P0 Q0) (hL:Q0.length+1<=L) (gP:m5 P0=1) (d0:Dvd G (zp P0)) (d1:Dvd G (zp Q0)):CR c L P0 Q0 G [P0] P0 Q0 where
 la:=rfl
 cs:=S
 sq:=aP1 (q0q 2)
 gs:=λX h=>by rw [q0m.mp h];exact d0
 gB:=d1
 ok:=λX h=>by
  rw [q0m.mp h]
  exact ⟨S.tA,gP,S.lA,q0q _,S.wA⟩
 h0:=rfl
 h1:=rfl
 pen:=λi X h _=>by simp at h
 ln:=by rw [z0y];lia
theorem CR.step {c L K:Nat} {P0 Q0 A B C Rz Qz:List Int} {many h:Int} {G:Pf} {Ss:List (List Int)} (R:CR c L P0 Q0 G Ss A B) (hP:P0.length=L) (hQ:Q0.length+1=L) (kP:∀ k,(aZ P0 k).natAbs<=K) (kQ:∀ k,(aZ Q0 k).natAbs<=K) (hK:1<=K) (hc:2*(2*L-5)*K<=2 ^ c) (hc1:1<=c)
  (hB:0<B.length) (hm:1<=many) (dv:Dv A B Qz Rz many) (hR:∀ k,aZ Rz k=-h*aZ C k) (hh:1<=h) (tQ:v2 Qz Qz.length) (lQ:2<=Qz.length) (tC:v2 C C.length) (lC:C.length<B.length) (gC:C ≠ []->m5 C=1):CR c L P0 Q0 G (Ss ++ [B]) B C:=by
 have r3:=bC5 dv hm hh hR tQ lQ
 have S:=R.cs
 have S':Cs c L P0 Q0 B C:=Cs.step (g:=-h) (Qf:=zc Qz) (lQ:=Qz.length) S hP hQ kP kQ hK hc hc1 hB (by lia) (λk=>dv k) (ab8 Qz) hR (by lia) tC lC gC
 have lB:=S.lB
 have lA:=S.lA
 have gl:∀ {X},Ss[Ss.length-1]? = some X->X=A:=fun {X} e=>by
  have:=R.la
  rw [u0t,e] at this
  exact Option.some.inj this
 have pos:0<Ss.length:=by
  rcases v0k Ss.length with z | z
  ·have:=R.la
   rw [v0e z] at this
   cases this
  ·exact z
 refine ⟨by simp,S',?_,?_,?_,?_,?_,?_,?_,?_⟩
 ·rw [j0m]
  refine R.sq.snoc λi x y hi hx hy=>?_
  rw [q0e,z0g,z0y] at hi
  have hi':i=Ss.length-1:=by lia
  rw [q0r,z0h (by lia)] at hx
  rw [q0r,j0v (by lia),show i+1-Ss.length=0 by lia] at hy
  cases e:Ss[i]? with
  | none=>rw [e] at hx;cases hx
  | some X =>
   rw [e] at hx
   rw [hi'] at e
   have:=gl e
   rw [this] at hx
   have ex:x=zp A:=(Option.some.inj hx).symm
   have ey:y=zp B:=(Option.some.inj hy).symm
   rw [ex,ey]
   exact r3
 ·intro X hX
  rcases q0t.mp hX with a | a
  ·exact R.gs X a
  ·rw [q0m.mp a];exact R.gB
 ·exact r3.dvd (R.gs A (m0a R.la)) R.gB
 ·intro X hX
  rcases q0t.mp hX with a | a
  ·obtain ⟨a1,a2,a3,a4,a5⟩:=R.ok X a
   exact ⟨a1,a2,a3,by lia,a5⟩
  ·rw [q0m.mp a]
   refine ⟨S.tB,S.gB (λz=>by rw [z] at hB;simp at hB),by lia,q0q _,S'.wA⟩
 ·rw [z0h (by rw [z0g,z0y];exact Nat.lt_succ_of_lt ‹_›)];exact R.h0
 ·rw [z0h (by rw [z0g,z0y];lia)];exact R.h1
 ·intro i X hi hX
  rw [z0g,z0y] at hi
  rw [z0h ⋯,show i=Ss.length-1 by omega] at hX
  rw [gl hX];exact lB
 ·have:=R.ln
  rw [z0g,z0y]
  lia
theorem CR.all {c L:Nat} {P0 Q0 A:List Int} {G:Pf} {Ss:List (List Int)} (R:CR c L P0 Q0 G Ss A []):∀ S ∈ Ss,Dvd (zp A) (zp S):=λS hS=>by
 have sq:ab7 (Ss.map zp):=λi x y z h1 h2 h3=>by
  have up:∀ {j w},(Ss.map zp)[j]? = some w->((Ss ++ [[]]).map zp)[j]? = some w:=fun {j w} e=>by
   rw [j0m,z0h (q0g.mp e).1];exact e
  exact R.sq i x y z (up h1) (up h2) (up h3)
 refine aY5 sq (by rw [m0v,R.la];rfl) (λi x hi hx=>?_) (zp S) (q0w.mpr ⟨S,hS,rfl⟩)
 rw [q0e] at hi
 have h2:((Ss ++ [[]]).map zp)[i+1]? = some (zp A):=by
  rw [q0r,z0h ⋯]
  have:=R.la
  rw [u0t,show Ss.length-1=i+1 by lia] at this
  rw [this];rfl
 have h3:((Ss ++ [[]]).map zp)[i+2]? = some 0:=by
  rw [q0r,j0v (by lia),show i+2-Ss.length=0 by omega]
  show some (zp [])=some 0
  rw [aN9]
 have h1:((Ss ++ [[]]).map zp)[i]? = some x:=by
  rw [j0m,z0h (by rw [q0e];omega)];exact hx
 exact (R.sq i x _ _ h1 h2 h3).dvdx (dvd_refl _) ⟨0,F9,by grind⟩
structure aN8 (ps:List Rat) (L:List (Fp × Nat)):Prop where
 fl:FL L
 fb:∀ x ∈ L,FpB x.1
 tl:U7 ps ps.length
 ex:∃ k,k ≠ 0/\qp ps=a8 k*fP (tfs (L.map rt1))
 cl:ClN 80 ps
 le:ps.length<=11
 n8:nT (L.map rt1)<=8
def ldA (T:List Int):Int:=aZ T (T.length-1)
def ldB (T:List Int):Int:=if T.length % 2=0 then -ldA T else ldA T
structure Chn (Ts:List (List Int)) (L:List (Fp × Nat)):Prop where
 ok:∀ T ∈ Ts,T ≠ []/\v2 T T.length/\T.length<=11/\∀ v ∈ T,z0s v<2 ^ 5000
 ln:1<=Ts.length/\Ts.length<=11
 hd:∃ T0 c,Ts[0]? = some T0/\c ≠ 0/\zp T0=a8 c*aP (tfs (L.map rt1)) 1
 ch:∀ {rs:List Rtu} {m:Nat},(∀ a,NT (L.map rt1) a=rs.countP (abv a)+m)->(∀ r ∈ rs,r.o=0 \/ ((r.o=1 \/ r.o=-1)/\0<r.v)) ->
  ∃ C,(∀ a,chg 0 (Ts.map λT=>evQ a (T.map λv:Int=>(v:Rat)))+C=rs.countP (abv a)+m)/\L4 0 (Ts.map ldA)+C=m/\L4 0 (Ts.map ldB)+C=rs.length+m
 g0:∀ T,Ts[0]? = some T->m5 T=1
theorem aL6:aI9 1 0:=⟨⟨λk hk=>by
 show (1:Pf).f k=0
 rw [B7]
 rw [if_neg ⋯],by rw [B7];decide⟩,1,by decide,λk=>by
 rw [B7]
 split
 ·exact ⟨1,by trivial,by decide⟩
 ·exact OvB.zero _ _⟩
theorem bm1:∀ {L:List (Fp × Nat)},(∀ x ∈ L,FpB x.1/\1<=x.2)->∃ n,aI9 (gP1 (tfs (L.map rt1))) n
 | [],_=>⟨0,aL6⟩
 | x :: r,h=>by
  obtain ⟨n,ih⟩:=bm1 (L:=r) λy hy=>h y (q0b _ hy)
  exact ⟨_,ih.facs (h x q0c).1 (x.2-1)⟩
theorem aN8.gp {ps:List Rat} {L:List (Fp × Nat)} (T:aN8 ps L) (h0:ps ≠ []):∃ g,aI9 (gP1 (tfs (L.map rt1))) g/\g+nT (L.map rt1)+1=ps.length:=by
 obtain ⟨g,hg⟩:=bm1 λx hx=>⟨T.fb x hx,(T.fl.ok x hx).2⟩
 refine ⟨g,hg,?_⟩
 have la:=aa4 T.fl.rtok
 have one:∀ x ∈ tfs (L.map rt1),1<=x.2:=λx hx=>by
  obtain ⟨y,hy,e⟩:=q0w.mp hx
  rw [<- e]
  exact (T.fl.rtok y hy).2
 have lf:Lm (fP (tfs (L.map rt1))) (g+nT (L.map rt1)):=by
  rw [(aM9 one).1]
  exact hg.lm.mul la
 obtain ⟨k,k0,e⟩:=T.ex
 have lk:Lm (a8 k*fP (tfs (L.map rt1))) (g+nT (L.map rt1)):=⟨λi hi=>by rw [C4,lf.dg i hi];grind,by
  have l0:=lf.ld
  rw [C4]
  intro z
  rcases z0x.mp z with y | y
  ·exact k0 y
  ·exact l0 y⟩
 rw [<- e] at lk
 have pos:=j0p.mpr h0
 have lq:Lm (qp ps) (ps.length-1):=⟨λi hi=>by
  show aQ ps i=0
  unfold aQ
  rw [z0m ⋯];rfl,by
  show aQ ps (ps.length-1) ≠ 0
  unfold aQ
  have hl:ps.length-1<ps.length:=⋯
  rw [q0d hl]
  exact T.tl.last ⋯ _ (q0d hl)⟩
 have:=Y1 lk lq
 lia
theorem bk2 {Ts:List (List Int)} (h:∀ T ∈ Ts,T ≠ []/\v2 T T.length):aC5 (Ts.map zp) (Ts.map λT=>T.length-1):=by
 induction Ts with
 | nil=>exact .nil
 | cons T r ih =>
  obtain ⟨a,b⟩:=h T q0c
  exact .cons (au0 b (j0p.mpr a)) (ih λX hX=>h X (q0b _ hX))
theorem bf3:∀ n,sp 1 n=1
 | 0=>rfl
 | n+1=>by show (1:Rat)*sp 1 n=1;rw [bf3 n];trivial
theorem by0:∀ n,sp (-1) n=if n % 2=0 then 1 else -1
 | 0=>rfl
 | n+1=>by
  show (-1:Rat)*sp (-1) n=_
  rw [by0 n]
  by_cases h:n % 2=0
  ·rw [if_pos h,if_neg ⋯];trivial
  ·rw [if_neg h,if_pos (by lia)];trivial
theorem aW2:∀ Ts:List (List Int),lds 1 (Ts.map zp) (Ts.map λT=>T.length-1)=(Ts.map ldA).map λv:Int=>(v:Rat)
 | []=>rfl
 | T :: r=>by
  show (zp T).f (T.length-1)*sp 1 (T.length-1) :: lds 1 (r.map zp) (r.map λT=>T.length-1)=((ldA T:Int):Rat) :: (r.map ldA).map λv:Int=>(v:Rat)
  rw [aW2 r,bf3]
  congr 1
  show ((aZ T (T.length-1):Int):Rat)*1=_
  unfold ldA
  grind
theorem bk4:∀ Ts:List (List Int),(∀ T ∈ Ts,T ≠ [])->lds (-1) (Ts.map zp) (Ts.map λT=>T.length-1)=(Ts.map ldB).map λv:Int=>(v:Rat)
 | [],_=>rfl
 | T :: r,h=>by
  show (zp T).f (T.length-1)*sp (-1) (T.length-1) :: lds (-1) (r.map zp) (r.map λT=>T.length-1)=((ldB T:Int):Rat) :: (r.map ldB).map λv:Int=>(v:Rat)
  rw [bk4 r λX hX=>h X (q0b _ hX),by0]
  congr 1
  have pos:=j0p.mpr (h T q0c)
  show ((aZ T (T.length-1):Int):Rat)*_=_
  unfold ldB ldA
  by_cases z:T.length % 2=0
  ·rw [if_pos z,if_neg ⋯,j0z];grind
  ·rw [if_neg z,if_pos (by lia)];grind
inductive Qts (A:List Int):List (List Int)->List (List Int)->Prop where
 | nil:Qts A [] []
 | cons {S T:List Int} {Ss Ts:List (List Int)} (e:zp S=zp T*zp A) (k:Qts A Ss Ts):Qts A (S :: Ss) (T :: Ts)
theorem Qts.snoc {A:List Int} {Ss Ts:List (List Int)} (h:Qts A Ss Ts) {S T:List Int} (e:zp S=zp T*zp A):Qts A (Ss ++ [S]) (Ts ++ [T]):=by
 induction h with
 | nil=>exact .cons e .nil
 | cons e' _ ih=>exact .cons e' ih
theorem Qts.map {A:List Int} {Ss Ts:List (List Int)} (h:Qts A Ss Ts):Ss.map zp=(Ts.map zp).map (zp A * ·):=by
 induction h with
 | nil=>rfl
 | cons e _ ih =>
  simp only [z0w,ih]
  rw [e]
  congr 1
  grind
theorem Qts.len {A:List Int} {Ss Ts:List (List Int)} (h:Qts A Ss Ts):Ss.length=Ts.length:=by
 induction h with
 | nil=>rfl
 | cons _ _ ih=>simp [ih]
theorem aJ2 {L:List (Fp × Nat)} (F:FL L):∀ x ∈ tfs (L.map rt1),1<=x.2:=λx hx=>by
 obtain ⟨y,hy,e⟩:=q0w.mp hx
 rw [<- e]
 exact (F.rtok y hy).2
theorem bm5 (x:Fp):1<=x.n:=by unfold Fp.n;split <;> omega
theorem bE9 {L:List (Fp × Nat)} (h:nT (L.map rt1)=0):L=[]:=by
 cases L with
 | nil=>rfl
 | cons x r =>
  have:nT ((x :: r).map rt1)=x.1.n+nT (r.map rt1):=rfl
  have:=bm5 x.1
  lia
theorem bc3 {L:List Rtu} {m:Nat} (h:∀ a,0=L.countP (abv a)+m) (hv:∀ r ∈ L,r.o=0 \/ ((r.o=1 \/ r.o=-1)/\0<r.v)):L.length=0/\m=0:=by
 obtain ⟨b,hb,f⟩:=ae1 hv
 have h1:=(f b (by grind)).2
 have h2:=h (-b)
 lia
theorem az9 {P T A:List Int} (e:zp P=zp T*zp A) (g:m5 P=1):m5 T=1:=by
 obtain ⟨d,hd⟩:∃ d,d=m5 T:=⟨_,rfl⟩
 have key:∀ w ∈ T,(d:Int)*(w / (d:Int))=w:=λw hw=>z1k (by rw [hd];exact D3 hw)
 have eT:zp T=a8 ((d:Int):Rat)*zp (T.map λw=>w / (d:Int)):=Pf.ext λk=>by
  rw [C4]
  show ((aZ T k:Int):Rat)=((d:Int):Rat)*((aZ (T.map λw=>w / (d:Int)) k:Int):Rat)
  rw [<- q0n]
  congr 1
  unfold aZ
  rw [q0r]
  cases z:T[k]? with
  | none=>simp
  | some w=>exact (key w (q0p z)).symm
 have eP:∀ k,aZ P k=(d:Int)*aZ (aL5 (T.map λw=>w / (d:Int)) A) k:=λk=>by
  have h1:zp P=a8 ((d:Int):Rat)*zp (aL5 (T.map λw=>w / (d:Int)) A):=by rw [e,eT,bA5];grind
  have h2:=congrArg (λz:Pf=>z.f k) h1
  have h3:((aZ P k:Int):Rat)=((d:Int):Rat)*((aZ (aL5 (T.map λw=>w / (d:Int)) A) k:Int):Rat):=h2.trans (C4 _ _ _)
  rw [<- q0n] at h3
  exact j0k.mp h3
 have h:d ∣ m5 P:=P3 P 0 (v0v _) λw hw=>by
  obtain ⟨k,hk,ek⟩:=y0q hw
  have:aZ P k=w:=by unfold aZ;rw [q0d hk,ek];rfl
  rw [<- this,eP k]
  exact Int.dvd_mul_right _ _
 rw [g] at h
 rw [<- hd]
 exact u0q.mp h
theorem CR.fin {c n:Nat} {P0 Q0 A:List Int} {Ss:List (List Int)} {ps:List Rat} {L:List (Fp × Nat)} {k1 k2:Rat} (R:CR c n P0 Q0 (gP1 (tfs (L.map rt1))) Ss A []) (T:aN8 ps L) (p0:ps ≠ []) (s0:zp P0=a8 k1*fP (tfs (L.map rt1))) (s1:zp Q0=a8 k2*dP (fP (tfs (L.map rt1)))) (hk:0<k1*k2) (A0:A ≠ []) (gA:m5 A=1) (ln:Ss.length<=11) :
  (∀ k,(aZ A k).natAbs<2 ^ 75)/\∀ Ts,Qts A Ss Ts->(∀ T ∈ Ts,T ≠ []/\v2 T T.length/\T.length<=11/\∀ v ∈ T,z0s v<2 ^ 5000)->Chn Ts L:=by
 obtain ⟨g,mg,hg⟩:=T.gp p0
 have one:=aJ2 T.fl
 obtain ⟨f1,f2⟩:=aM9 one
 have tf:=T.fl.tf
 have fns:=TF.fn tf
 have fa:=au8 fns 1
 have fs:=aM8 fns 1
 have all:=R.all
 have apos:=j0p.mpr A0
 have n1:k1 ≠ 0:=λz=>by rw [z] at hk;grind
 have n2:k2 ≠ 0:=λz=>by rw [z] at hk;grind
 have pos:0<Ss.length:=by
  rcases v0k Ss.length with z | z
  ·have:=R.la
   rw [v0e z] at this
   cases this
  ·exact z
 have S0:Ss[0]? = some P0:=by
  have:=R.h0
  rw [z0h pos] at this
  exact this
 have un:∀ {k:Rat} {X Y:Pf},k ≠ 0->Dvd Y (a8 k*X)->Dvd Y X:=fun {k X Y} hk0 ⟨z,fz,e⟩=>⟨a8 k⁻¹*z,(v5 _).mul fz,by
  have ik:=z5 hk0
  have e3:X=a8 k⁻¹*(a8 k*X):=by
   generalize a8 k=D at *
   generalize a8 k⁻¹=D' at *
   grind
  rw [e3,e];grind⟩
 have d0:Dvd (zp A) (gP1 (tfs (L.map rt1))*aP (tfs (L.map rt1)) 1):=by
  have:=all P0 (q0p S0)
  rw [s0,f1] at this
  exact un n1 this
 have d1:Dvd (zp A) (gP1 (tfs (L.map rt1))*sP (tfs (L.map rt1)) 1):=by
  rw [<- f2]
  refine un n2 ?_
  rw [<- s1]
  have h1:=R.h1
  by_cases e:1<Ss.length
  ·rw [z0h e] at h1
   exact all Q0 (q0p h1)
  ·rw [j0v (by exact Nat.not_lt.mp ‹_›),show 1-Ss.length=0 by lia] at h1
   have:[]=Q0:=Option.some.inj h1
   rw [<- this,aN9]
   exact ⟨0,F9,by grind⟩
 have lg:=au0 (show v2 A A.length from R.cs.tA) apos
 refine ⟨λk=>?_,λTs qt okT=>?_⟩
 ·obtain ⟨l,l0,e⟩:=bb1 mg.lm fa fs (R.gs A (m0a R.la)) d0 d1 (aI6 tf 1)
  obtain ⟨B,hB,ov⟩:=mg.ov
  obtain ⟨y,y0,ey⟩:=bG1 hB ov e l0 gA
  have le:=T.le
  refine q0f (bk7 hB ov y0 ey (y:=λk=>aZ A k) (λk=>?_) k) (c9 (by lia))
  have:=congrArg (λz=>Pf.f z k) e
  exact this.trans (C4 _ _ _)
 ·have lT:=qt.len
  have em:=qt.map
  have lTs:1<=Ts.length/\Ts.length<=11:=by lia
  by_cases e2:2<=Ss.length
  ·have sq:ab7 (Ss.map zp):=λi x y z h1 h2 h3=>by
    have up:∀ {j w},(Ss.map zp)[j]? = some w->((Ss ++ [[]]).map zp)[j]? = some w:=fun {j w} e=>by
     rw [j0m,z0h (q0g.mp e).1];exact e
    exact R.sq i x y z (up h1) (up h2) (up h3)
   have S1:Ss[1]? = some Q0:=by
    have:=R.h1
    rw [z0h (by lia)] at this
    exact this
   obtain ⟨T0,T1,l,m,cc,dd,eT,hP,hcd,a0,a1⟩:=aT0 (S:=Ss.map zp) (T:=Ts.map zp) lg (by rw [m0v,R.la];rfl) em (λx hx=>by
    obtain ⟨X,_,rfl⟩:=q0w.mp hx
    exact bz4 X) sq (by rw [q0e];exact e2) (λi x hi hx=>by
    rw [q0e] at hi
    rw [q0r] at hx
    cases e:Ss[i]? with
    | none=>rw [e] at hx;cases hx
    | some X =>
     rw [e] at hx
     have ex:x=zp X:=(Option.some.inj hx).symm
     have pl:=R.pen i X hi e
     refine ⟨X.length-1,by lia,?_⟩
     rw [ex]
     exact au0 (R.ok X (q0p e)).1 (by lia)) T.fl (k1:=k1) (k2:=k2) (by rw [q0r,S0,<- s0];rfl) (by rw [q0r,S1,<- s1];rfl) hk
   have al:=bk2 λX hX=>⟨(okT X hX).1,(okT X hX).2.1⟩
   have al':=al
   rw [eT] at al'
   have g0:∀ T,Ts[0]? = some T->m5 T=1:=λT hT=>by
    cases qt with
    | nil=>cases hT
    | cons e q =>
     cases hT
     have:_=P0:=Option.some.inj S0
     subst this
     exact az9 e (R.ok _ (q0p S0)).2.1
   refine ⟨okT,lTs,?_,fun {rs m'} hr hv=>?_,g0⟩
   ·cases Ts with
    | nil=>simp at eT
    | cons X r =>
     have:zp X=T0:=(List.cons.inj eT).1
     refine ⟨X,cc,rfl,λz=>by rw [z] at hcd;grind,by rw [this,a0]⟩
   ·obtain ⟨t,ht⟩:=bI4
    obtain ⟨C,b1,b2,b3⟩:=aI2 ht hP al' T.fl.rtok tf hcd a0 a1 hr hv
    rw [<- eT] at b1 b2 b3
    refine ⟨C,λa=>?_,?_,?_⟩
    ·have e:(Ts.map zp).map (t a)=Ts.map λX=>evQ a (X.map λv:Int=>(v:Rat)):=by
      rw [j1f]
      exact z1x λX _=>bN9 ht a X
     rw [<- e]
     exact b1 a
    ·rw [aW2] at b2
     rw [aq6];exact b2
    ·rw [bk4 _ λX hX=>(okT X hX).1] at b3
     rw [aq6];exact b3
  ·have l1:Ss.length=1:=by lia
   have q0:Q0=[]:=by
    have h1:=R.h1
    rw [j0v (by exact Nat.not_lt.mp ‹_›),l1] at h1
    exact (Option.some.inj h1).symm
   have sz:sP (tfs (L.map rt1)) 1=0:=by
    have ik:=z5 n2
    have e3:gP1 (tfs (L.map rt1))*sP (tfs (L.map rt1)) 1=gP1 (tfs (L.map rt1))*0:=by
     have e4:a8 k2*(gP1 (tfs (L.map rt1))*sP (tfs (L.map rt1)) 1)=0:=by rw [<- f2,<- s1,q0,aN9]
     have e5:gP1 (tfs (L.map rt1))*sP (tfs (L.map rt1)) 1=a8 k2⁻¹*(a8 k2*(gP1 (tfs (L.map rt1))*sP (tfs (L.map rt1)) 1)):=by
      generalize gP1 (tfs (L.map rt1))*sP (tfs (L.map rt1)) 1=X at *
      generalize a8 k2=D at *
      generalize a8 k2⁻¹=D' at *
      grind
     rw [e5,e4];grind
    exact mg.lm.cancel fs F9 e3
   obtain ⟨u,v,fu,fv,b⟩:=aI6 tf 1
   rw [sz] at b
   obtain ⟨k,k0,ek⟩:=ar0 (h:=aP (tfs (L.map rt1)) 1) (W:=u) fa fu (by grind)
   have nt:nT (L.map rt1)=0:=by
    have l1:=aa4 T.fl.rtok
    have l2:Lm (aP (tfs (L.map rt1)) 1) 0:=by
     rw [ek]
     refine ⟨λi hi=>?_,?_⟩
     ·show (if i=0 then k else 0)=0
      rw [if_neg (by lia)]
     ·show (if 0=0 then k else 0) ≠ 0
      rw [if_pos rfl];exact k0
    exact Y1 l1 l2
   have Ln:=bE9 nt
   subst Ln
   cases Ts with
   | nil=>simp only [m0b] at lT;lia
   | cons X r =>
    cases r with
    | cons Y r=>simp only [z0t] at lT;lia
    | nil =>
     cases Ss with
     | nil=>simp at pos
     | cons Z r =>
      cases r with
      | cons=>simp only [z0t] at l1;lia
      | nil =>
       have eA:Z=A:=Option.some.inj R.la
       cases qt with
       | cons e q =>
        have e0:=e
        rw [eA] at e
        have hX:zp X=1:=lg.cancel (bz4 X) D8 (by
         have:zp A*zp X=zp A:=by
          conv=>rhs;rw [e]
          grind
         rw [this];grind)
        refine ⟨okT,lTs,⟨X,1,rfl,by decide,by rw [hX,k4];show 1=1*(1:Pf);grind⟩,fun {rs m} hr hv=>?_,λT hT=>by
         cases hT
         have:_=P0:=Option.some.inj S0
         subst this
         exact az9 e0 (R.ok _ (q0p S0)).2.1⟩
        obtain ⟨h1,h2⟩:=bc3 (L:=rs) (m:=m) (λa=>hr a) hv
        have rn:=v0e h1
        subst rn
        subst h2
        have c0:∀ x:Rat,chg 0 [x]=0:=λx=>by
         show (if x*0<0 then 1 else 0)+0=0
         rw [if_neg (by grind)]
        have c1:∀ x:Int,L4 0 [x]=0:=λx=>by
         show (if x*0<0 then 1 else 0)+0=0
         rw [if_neg (by simp)]
        exact ⟨0,λa=>c0 _,c1 _,c1 _⟩
end R
set_option maxRecDepth 100000
local macro_rules | `(tactic| simp! [$ls,*]) => `(tactic| simp only [L2.bH3, L2.ipM, L2.bC9, L2.aO6, L2.bB1, L2.aJ5, L2.ar2, L2.bH1, L2.bC7, L2.bf1, L2.tSl, L2.be6, L2.aC9, L2.bC6, L2.bC8, L2.aE6, L2.bl7, L2.J1, z0w, z1z, Option.bind_none, Option.bind_some, Option.join_some, L2.br2, L2.bB4, L2.bB7, L2.tOr, L2.bB2, L2.aJ4, L2.tB, L2.tOp, L2.tUn, L2.bB5, L2.tBM, L2.Z6, L2.tC, L2.tCB, L2.br3, L2.aZ5, L2.t8, L2.bH6, L2.af8, L2.A8, L2.af9, L2.ar1, L2.aZ4, L2.br4, L2.bB0, L2.bB3, L2.tIf, L2.bf2, L2.be7, L2.br5, L2.aD1, L2.be9, L2.be8, L2.aO5, L2.aO4, L2.bB6, L2.ipI, L2.rI, L2.rI0, L2.rU, L2.aE5, L2.aE4, L2.bg8, L2.bg7, L2.rEq, L2.rNe, L2.aP6, L2.aP5, L2.aP4, L2.bD0, L2.bD1, L2.bl5, L2.bl4, L2.bl6, L2.bH2, L2.ap5, L2.cxR, L2.cxX, L2.Cx.nox, L2.Cx.wish, L2.Cx.body, L2.Cx.suite, List.getElem?_cons_zero, v0z, u0z, u0b, Option.some.injEq, L2.V.int.injEq, L2.V.bl.injEq, L2.V.ref.injEq, L2.V.str.injEq, exists_eq_left', exists_eq_left, exists_and_left, true_and, and_true, List.cons.injEq, reduceCtorEq, u0y, if_false, if_true, exists_const, ↓reduceIte, L2.tyV, z0t, m0b, exists_eq, u0s, List.cons_append, List.nil_append, decide_eq_true_eq, not_true_eq_false, not_false_eq_true, m0s, decide_eq_false_iff_not, Bool.not_true, Bool.not_false, and_assoc, false_and, false_or, or_false, $ls,*])
local macro_rules | `(tactic| subst_eqs) => `(tactic| simp! [])
local macro_rules | `(tactic| and_intros) => `(tactic| exact ⟨rfl, rfl, rfl, by trivial, rfl, by trivial, by trivial⟩)
namespace R
open PySem L2 PyProof.Rows
section
variable {P:Program} {w:World} {K:q0a} {mg:Str->Option Value} {base:Heap}
def ab4 (b:Int) (l:List Int):Int:=l.foldl (λb s=>if s=0 then b else s) b
def aU7 (K:q0a):Sp:=λvs H Q _ => ∃ (a:Addr) (ws:List Int),vs=[.ref a]/\SqL K H a (ws.map V.int)/\(∀ v ∈ ws,z0s v<2 ^ 5000)/\ws.length<=100/\Q (.int (L4 0 ws:Nat)) H
abbrev Q7:Stmt:=top 41
theorem F4:i7 ["signs","changes","before","sign"] ["signs"] (c6 Q7):=by and_intros
theorem aw8 {f:Addr} (d:Df K mg "changes_of" Q7 ["signs"] f):Def P w K mg base CX0 1 "changes_of" f ["signs"] (aU7 K):=by
 refine d.ok (N:=["signs","changes","before","sign"]) F4 (λvs H Q E ⟨a,b,h,_⟩=>by rw [h];rfl) (λcdv A outer s H vs Q E hr h=>?_)
 obtain ⟨a,ws,rfl,hS,hb,hl,k⟩:=h
 refine ⟨_,(b9 (d8 (i:=1) F4.nd rfl (z0d rfl) b7)
   (b9 (d8 (i:=2) F4.nd rfl (z0d rfl) b7)
   (b9 (K3 PassesOwn.never rfl (D6 (pv 0)) (i3 (i:=3) F4.nd rfl (z0d rfl)) (b9 (B0 (j3 ag5 (d7 p8 (pv 3) (pv 2)) b7 (j7 _)) (c5 (as0 (i:=1) F4.nd rfl (z0d rfl) b7 bl2)) p9)
   (c5 (d8 (i:=2) F4.nd rfl (z0d rfl) (bE1 (pv 3) (aF2 (pv 2)))))))
   (c5 (i8 (pv 1)))))),?_⟩
 rw [show start ["signs","changes","before","sign"] [.ref a]=[some (.ref a),none,none,none] from rfl]
 subst_eqs
 refine ⟨_,rfl,a,rfl,⟨_,hS⟩,au6 (xs:=ws.map V.int) (λi σ H1=>H1=H/\∃ o,σ=[some (.ref a),some (.int (L4 0 (ws.take i):Nat)),some (.int (ab4 0 (ws.take i))),o]) ⟨rfl,_,rfl⟩ (λi σ H1 _ ⟨e,_⟩=>e ▸ hS) ?_ ?_⟩
 ·rintro i x σ H1 hx ⟨rfl,o,rfl⟩
  rw [q0r] at hx
  cases hw:ws[i]? with
  | none=>rw [hw] at hx;cases hx
  | some v =>
   rw [hw] at hx
   cases hx
   have hm:=q0p hw
   have es:ws.take (i+1)=ws.take i ++ [v]:=by rw [y0y,hw];rfl
   subst_eqs
   have la:ab4 0 (ws.take (i+1))=if v=0 then ab4 0 (ws.take i) else v:=by
    rw [es];unfold ab4;rw [List.foldl_append];rfl
   have cg:L4 0 (ws.take (i+1))=L4 0 (ws.take i)+if v*ab4 0 (ws.take i)<0 then 1 else 0:=by
    rw [es,aN3]
    show _+((if v*ab4 0 (ws.take i)<0 then 1 else 0)+0)=_
    simp
   have lb:(ab4 0 (ws.take i)).natAbs<2 ^ 5000:=by
    have key:∀ (l:List Int) (b:Int),b.natAbs<2 ^ 5000->(∀ v ∈ l,z0s v<2 ^ 5000)->(ab4 b l).natAbs<2 ^ 5000:=λl=>by
     induction l with
     | nil=>intro b h _;exact h
     | cons s r ih =>
      intro b h hl
      show (ab4 (if s=0 then b else s) r).natAbs<_
      refine ih _ ?_ λv hv=>hl v (q0b _ hv)
      split
      ·exact h
      ·exact hl s q0c
    exact key _ 0 (y0g _) λv hv=>hb v (z1j hv)
   have fin:∀ n:Nat,n=L4 0 (ws.take (i+1))->∃ k,ax9 K (V.int v) H1 k/\if k=true then (n:Int)=(L4 0 (ws.take (i+1)):Nat)/\v=ab4 0 (ws.take (i+1))/\∃ x,some (V.int v)=x else (n:Int)=(L4 0 (ws.take (i+1)):Nat)/\ab4 0 (ws.take i)=ab4 0 (ws.take (i+1))/\∃ x,some (V.int v)=x:=λn hn=>by
    refine ⟨_,rfl,?_⟩
    rw [la]
    by_cases z:v=0
    ·rw [if_neg (by rw [z];decide),if_pos z]
     exact ⟨by rw [hn],rfl,_,rfl⟩
    ·rw [if_pos (by rw [bne_iff_ne];exact z),if_neg z]
     exact ⟨by rw [hn],rfl,_,rfl⟩
   refine ⟨G5 (hb v hm) lb (by decide),B1 (λh=>?_) (λh=>?_)⟩
   ·have:=fin (L4 0 (ws.take i)+1) (by rw [cg,if_pos h])
    rw [Int.natCast_add] at this
    exact this
   ·exact fin (L4 0 (ws.take i)) (by rw [cg,if_neg h];rfl)
 ·rintro σ H1 ⟨rfl,o,rfl⟩
  rw [q0e,y0k]
  exact ⟨_,rfl,k⟩
def aK1:Sp:=λvs H Q _ => ∃ a b:Int,vs=[.int a,.int b]/\(a.natAbs<2 ^ 6000 \/ b.natAbs<2 ^ 6000)/\Q (.int (z0r a b)) H
abbrev G6:Stmt:=top 24
theorem W4:i7 ["one","other"] ["one","other"] (c6 G6):=by and_intros
theorem ai9 {f:Addr} (d:Df K mg "common_divisor" G6 ["one","other"] f) (c_SHORT:∃ t,mg "SHORT" = some (.int 6000 t)) (n_abs:mg "abs" = none):Def P w K mg base CX0 1 "common_divisor" f ["one","other"] aK1:=by
  obtain ⟨tS,c_SHORT⟩:=c_SHORT
  refine d.ok (N:=["one","other"]) W4 (λvs H Q E ⟨a,b,h,_⟩=>by rw [h];rfl) (λcdv A outer s H vs Q E hr h=>?_)
  obtain ⟨a,b,rfl,hab,q⟩:=h
  refine ⟨_, (b9 (B0 (PW.pt (ak9 (j3 ag6 (al1 PySem.F.plainAttrs_int PySem.F.slot_int_bit_length PySem.F.type_int_bit_length af3 (pv 1)) (B5 (v := .int 6000) rfl c_SHORT ⟨_, rfl⟩) (j7 _)) (ae8 (j3 ag6 (al1 PySem.F.plainAttrs_int PySem.F.slot_int_bit_length PySem.F.type_int_bit_length af3 (pv 0)) (B5 (v := .int 6000) rfl c_SHORT ⟨_, rfl⟩) (j7 _))))) (c5 aK5) p9)
      (b9 (O7 PassesOwn.never (Z2 (pv 1) (λ_=>rfl)) (c5 (bh3 (i:=0) (j:=1) rfl W4.nd rfl rfl (by decide) rfl rfl (a7 (pv 1) (a7 (d7 M3 (pv 0) (pv 1)) a9)) rfl)))
      (c5 (i8 (d9 V8 rfl n_abs (by trivial) (a7 (pv 0) a9)))))),?_⟩
  rw [show start ["one","other"] [.int a,.int b]=[some (.int a),some (.int b)] from rfl]
  have hno:¬ ((6000:Int)<Builtin.Int.intBits b/\(6000:Int)<Builtin.Int.intBits a):=by
    rintro ⟨h1,h2⟩
    rcases hab with z | z
    · have:=K4 z;omega
    · have:=K4 z;omega
  have main : ∀ {D : aa7} , (∀ x : Int, ∀ y : Int, y = 0 → Int.gcd x y = Int.gcd a b → D.nx [some (.int x), some (.int y)] H) → ak5 (fun σ H_1 Q => Z6 1 σ H_1 fun x H' => ∃ k, ax9 K x H' k ∧ Q k H')
      (br4 0 1 (ar1 (Z6 1) (ar1 (tOp (rI (λx j=>j ≠ 0) λi j=>V.int (i.fmod j)) (Z6 0) (Z6 1)) aZ4))) D [some (.int a),some (.int b)] H:=by
    intro D hD
    refine aJ1 (λσ H1=>H1=H/\∃ x y:Int,σ=[some (.int x),some (.int y)]/\Int.gcd x y=Int.gcd a b) (λσ _=>match σ with | [_,some (.int y)]=>y.natAbs | _=>0) ⟨rfl,a,b,rfl,rfl⟩ ?_ ?_
    · rintro σ H1 ⟨rfl,x,y,rfl,hg⟩
      simp! [ax9]
      split
      · rename_i hy
        have hy':y ≠ 0:=by simpa using hy
        exact ⟨hy',by rw [aM6];exact hg,ad1 x hy'⟩
      · rename_i hy
        have hy':y=0:=by simpa using hy
        exact hD x y hy' hg
    · intro σ H1 Q Q' hQ h
      obtain ⟨v,e1,k,e2,e3⟩:=h
      exact ⟨v,e1,k,e2,hQ _ _ e3⟩
  have fin:∀ x y:Int,y=0->Int.gcd x y=Int.gcd a b->Q (.int (if x<0 then -x else x)) H:=λx y hy hg=>by
    subst hy
    have e:(if x<0 then -x else x)=(Int.gcd a b:Int):=by
      rw [<- hg,Int.gcd_zero_right]
      split <;> lia
    rw [e];exact q
  have nxt:∀ x y:Int,y=0->Int.gcd x y=Int.gcd a b->(br3 (tCB (λxs H Q => ∃ i,xs=[V.int i]/\Q (V.int (if i<0 then -i else i)) H) (ar1 (Z6 0) aZ4)) { nx:=λx H'=>Q V.non H',rt:=Q }) [some (.int x),some (.int y)] H:=λx y hy hg=>by
    subst_eqs
    exact fin x y hy hg
  subst_eqs
  split
  · split
    · exact hno ⟨‹_›,‹_›⟩
    · exact main nxt
  · exact main nxt
def ar5:Sp:=λvs H Q _ => ∃ t b:Int,vs=[.int t,.int b]/\b.natAbs<2 ^ 6000/\b ≠ 0/\aI8 H Q (q0s t b)
abbrev aa0:Stmt:=top 25
theorem ac0:i7 ["top","bottom","shared"] ["top","bottom"] (c6 aa0):=by and_intros
theorem aK7 {f fc:Addr} (d:Df K mg "fraction" aa0 ["top","bottom"] f) (G_common_divisor:Def P w K mg base CX0 1 "common_divisor" fc ["one","other"] aK1):Def P w K mg base CX0 2 "fraction" f ["top","bottom"] ar5:=by
 refine d.ok (N:=["top","bottom","shared"]) ac0 (by rintro vs H Q E ⟨a,b,h,_⟩;rw [h];rfl) (λcdv A outer s H vs Q E hr h=>?_)
 obtain ⟨t,b,rfl,hb,h0,q⟩:=h
 refine ⟨_,(b9 (B0 (j3 Z4 (pv 1) b7 (j7 _)) (c5 aK5) p9)
   (b9 (d8 (i:=2) ac0.nd rfl (z0d rfl) (d5 G_common_divisor hr (a7 (pv 0) (a7 (pv 1) a9)) i5))
   (b9 (B0 (j3 ag5 (pv 1) b7 (j7 _)) (c5 (d8 (i:=2) ac0.nd rfl (z0d rfl) (G4 B6 (pv 2)))) p9)
   (c5 (i8 (q8 (a7 (d7 C8 (pv 0) (pv 2)) (a7 (d7 C8 (pv 1) (pv 2)) a9)))))))),?_⟩
 rw [show start ["top","bottom","shared"] [.int t,.int b]=[some (.int t),some (.int b),none] from rfl]
 simp! [aP2,aK1]
 rw [if_neg h0]
 refine ⟨.inr hb,?_⟩
 have hg:=aa5 (t:=t) h0
 have hgl:=aR3 (a:=t) h0 hb
 by_cases hs:b<0
 ·rw [if_pos hs]
  obtain ⟨e1,e2⟩:=al6 (t:=t) (g:=-(z0r t b:Int)) h0 (by rw [if_pos hs])
  have dv:∀ i,ao6 i (-(z0r t b:Int)):=λi=>ab5 ⋯ (by rw [y0z];exact ab2 hgl)
  refine ⟨dv _,dv _,v4,λr hr'=>?_⟩
  exact q r _ (c7.new hr' _) (by rw [c4];unfold t7;rw [e1,e2])
 ·rw [if_neg hs]
  obtain ⟨e1,e2⟩:=al6 (t:=t) (g:=(z0r t b:Int)) h0 (by rw [if_neg hs])
  have dv:∀ i,ao6 i ((z0r t b:Int)):=λi=>ab5 ⋯ (ab2 hgl)
  refine ⟨dv _,dv _,v4,λr hr'=>?_⟩
  exact q r _ (c7.new hr' _) (by rw [c4];unfold t7;rw [e1,e2])
instance {K:q0a} {H:Hp} {vs:List V} {qs:List Rat}:Coe (v3 H vs qs) (Q4 K H vs qs):=⟨v3.toC⟩
def ak7 (K:q0a):Sp:=λvs H Q _ => ∃ a ws,vs=[.ref a]/\SqL K H a (ws.map V.int)/\(∀ w ∈ ws,z0s w<2 ^ 6000)/\Q (.int (m5 ws)) H
abbrev Q6:Stmt:=top 28
theorem O0:i7 ["wholes","content","whole"] ["wholes"] (c6 Q6):=by and_intros
theorem aw7 {f fc:Addr} (d:Df K mg "content_of" Q6 ["wholes"] f) (G_common_divisor:Def P w K mg base CX0 1 "common_divisor" fc ["one","other"] aK1):Def P w K mg base CX0 2 "content_of" f ["wholes"] (ak7 K):=by
 refine d.ok (N:=["wholes","content","whole"]) O0 (by rintro vs H Q E ⟨a,b,h,_⟩;rw [h];rfl) (λcdv A outer s H vs Q E hr h=>?_)
 obtain ⟨a,ws,rfl,hS,hb,k⟩:=h
 refine ⟨_,(b9 (d8 (i:=1) O0.nd rfl (z0d rfl) b7)
   (b9 (K3 PassesOwn.never rfl (D6 (pv 0)) (i3 (i:=2) O0.nd rfl (z0d rfl)) (b9 (d8 (i:=1) O0.nd rfl (z0d rfl) (d5 G_common_divisor hr (a7 (pv 2) (a7 (pv 1) a9)) i5))
   (c5 (B0 (j3 Z4 (pv 1) b7 (j7 _)) (c5 (i8 b7)) p9))))
   (c5 (i8 (pv 1))))),?_⟩
 rw [show start ["wholes","content","whole"] [.ref a]=[some (.ref a),none,none] from rfl]
 subst_eqs
 refine ⟨_,rfl,a,rfl,⟨_,hS⟩,au6 (xs:=ws.map V.int) (λi σ H1=>H1=H/\∃ o,σ=[some (.ref a),some (.int (m5 (ws.take i):Nat)),o]) ⟨rfl,_,rfl⟩ (λi σ H1 _ ⟨e,_⟩=>e ▸ hS) ?_ ?_⟩
 ·rintro i x σ H1 hx ⟨rfl,o,rfl⟩
  rw [q0r] at hx
  cases hw:ws[i]? with
  | none=>rw [hw] at hx;cases hx
  | some v =>
   rw [hw] at hx
   cases hx
   have hm:=q0p hw
   simp! [aK1]
   have es:ws.take (i+1)=ws.take i ++ [v]:=by rw [y0y,hw];rfl
   have eg:z0r v (m5 (ws.take i):Int)=m5 (ws.take (i+1)):=by rw [es,bb4]
   refine ⟨.inl (q0f (hb v hm) (c9 (by decide))),?_⟩
   rw [eg]
   refine ⟨rfl,B1 (λh1=>?_) (λ_=>?_)⟩
   ·have:m5 (ws.take (i+1))=1:=by lia
    have e1:=bm4 _ this
    rw [e1] at k
    exact k
   ·exact ⟨rfl,_,rfl⟩
 ·rintro σ H1 ⟨rfl,o,rfl⟩
  rw [q0e,y0k]
  exact ⟨_,rfl,k⟩
def ay9 (K:q0a):Sp:=λvs H Q _ => ∃ a xs qs,vs=[.ref a]/\SqL K H a xs/\Q4 K H xs qs/\(∃ W:Nat,ClN W qs/\W<=6000)/\qs.length<=100 /\
 ∀ r l H',c7 H H'->H l=none->H' r=some (.tup [.ref l,.int (m8 qs)])->H' l=some (.lst ((j9 (m8 qs) qs).map V.int))->Q (.ref r) H'
abbrev Y9:Stmt:=top 31
theorem Z8:i7 ["numbers","bottom","number"] ["numbers"] (c6 Y9):=by and_intros
theorem aQ5 {f fc:Addr} (d:Df K mg "cleared" Y9 ["numbers"] f) (G_common_divisor:Def P w K mg base CX0 1 "common_divisor" fc ["one","other"] aK1):Def P w K mg base CX0 2 "cleared" f ["numbers"] (ay9 K):=by
 refine d.ok (N:=["numbers","bottom","number"]) Z8 (by rintro vs H Q E ⟨a,b,c,h,_⟩;rw [h];rfl) (λcdv A outer s H vs Q E hr h=>?_)
 obtain ⟨a,xs,qs,rfl,hS,hN,⟨W,hs,hm⟩,hl,k⟩:=h
 refine ⟨_,(b9 (d8 (i:=1) Z8.nd rfl (u0e rfl) b7)
   (b9 (K3 PassesOwn.never rfl (D6 (pv 0)) (i3 (i:=2) Z8.nd rfl (z0d rfl)) (c5 (d8 (i:=1) Z8.nd rfl (u0e rfl) (d7 p8 (d7 C8 (pv 1) (d5 G_common_divisor hr (a7 (pv 1) (a7 (j4 m6 (pv 2) b7 (λ_ _=>rfl)) a9)) i5)) (j4 m6 (pv 2) b7 (λ_ _=>rfl))))))
   (c5 (i8 (q8 (a7 (M2 (Nc:=["bottom","top","under"]) (caps:=[some 1,none,none]) rfl (Y7.of (osc:=c6 Y9) (N:=["numbers","bottom","number"]) (ks:=["bottom"]) rfl rfl rfl rfl (C5 rfl D5) (by trivial)) (D6 (pv 0)) (λC s₂ H₂ fp pins=>(show PG _ _ (af8 K 2 (A8 (t8 1) (A8 (t8 2) af9))) from by (refine N5 (n:=2) ?_ ?_ ?_ ?_;rfl;(refine k7 ?_ ?_ ?_;(exact (i3 (i:=1) (show v0r (["bottom","top","under"]:List Str) by trivial) rfl (z0d rfl) (u0e rfl)));(refine k7 ?_ ?_ ?_;(exact (i3 (i:=2) (show v0r (["bottom","top","under"]:List Str) by trivial) rfl (z0d rfl) (u0e rfl)));(exact G8);rfl);rfl);rfl;rfl))) (λC s₂ H₂ fp pins=>(d7 p8 (pv 1) (d7 C8 (pv 0) (pv 2))))) (a7 (pv 1) a9))))))),?_⟩
 rw [show start ["numbers","bottom","number"] [.ref a]=[some (.ref a),none,none] from rfl]
 subst_eqs
 have small:∀ q ∈ qs,q.den<2 ^ 6000:=λq hq=>q0f (hs.den hq) (c9 hm)
 have hB:∀ i,0<m8 (qs.take i)/\m8 (qs.take i)<2 ^ 6000:=λi=>by
  exact ⟨V6 _,q0f (hs.take i) (c9 hm)⟩
 refine ⟨_,rfl,a,rfl,⟨_,hS⟩,au6 (xs:=xs) (λi σ H1=>H1=H/\∃ o,σ=[some (.ref a),some (.int (m8 (qs.take i):Nat)),o]) ⟨rfl,_,rfl⟩ (λi σ H1 _ ⟨e,_⟩=>e ▸ hS) ?_ ?_⟩
 ·rintro i x σ H1 hx ⟨rfl,o,rfl⟩
  obtain ⟨p,q,rfl,hq,hp⟩:=hN.getV hx
  obtain ⟨b1,b2⟩:=hB i
  have hd:=small q (q0p hq)
  have hd0:=w5 q
  have es:qs.take (i+1)=qs.take i ++ [q]:=by rw [y0y,hq];rfl
  have gp:(0:Int)<(z0r (m8 (qs.take i):Int) (q.den:Int):Nat):=by
   have:=aa5 (t:=(m8 (qs.take i):Int)) (b:=(q.den:Int)) (by lia);omega
  have el:(m8 (qs.take i):Int).fdiv (z0r (m8 (qs.take i):Int) (q.den:Int):Nat)*(q.den:Int)=(m8 (qs.take (i+1)):Nat):=by
   rw [es,bb0]
   obtain ⟨e,he⟩:=u0j (m8 (qs.take i):Int) (q.den:Int)
   have hg:z0r (m8 (qs.take i):Int) (q.den:Int)=Nat.gcd (m8 (qs.take i)) q.den:=by simp [z0r]
   have h1:(m8 (qs.take i):Int).fdiv (z0r (m8 (qs.take i):Int) (q.den:Int):Nat)=e:=by
    conv=>lhs;arg 1;rw [he]
    exact p7 (by lia)
   rw [h1]
   have h2:Nat.gcd (m8 (qs.take i)) q.den*g0q (m8 (qs.take i)) q.den=m8 (qs.take i)*q.den:=Nat.gcd_mul_lcm _ _
   have h3:((Nat.gcd (m8 (qs.take i)) q.den:Nat):Int)*(g0q (m8 (qs.take i)) q.den:Nat)=(m8 (qs.take i):Int)*(q.den:Int):=by
    rw [<- j0e,h2,j0e]
   rw [<- hg] at h3
   have h4:((z0r (m8 (qs.take i):Int) (q.den:Int):Nat):Int)*(e*q.den)=((z0r (m8 (qs.take i):Int) (q.den:Int):Nat):Int)*(g0q (m8 (qs.take i)) q.den:Nat):=by
    rw [h3,<- z1t,<- he]
   exact Int.eq_of_mul_eq_mul_left ⋯ h4
  simp! [aK1]
  have hd9:(q.den:Int).natAbs<2 ^ 6000:=by rw [q0k];exact hd
  exact ⟨_,hp.sqt,_,at1 q,_,rfl,.inr (ab2 hd9),ab5 (by lia) (aR3 ⋯ (ab2 hd9)),_,hp.sqt,_,at1 q,_,rfl,G5 (m:=6000) (n:=6000) (q0v (aH1 ⋯ (u0j _ _)) (by rw [q0k];exact b2)) hd9,el,_,rfl⟩
 ·rintro σ H1 ⟨rfl,o,rfl⟩
  rw [<- hN.length] at hl
  have e1:qs.take xs.length=qs:=by rw [hN.length,y0k]
  rw [e1]
  simp! [aK1]
  refine ⟨⟨_,hS⟩,λD hD=>?_⟩
  refine U5 xs (λi σ H2 => ∃ o1 o2,σ=[some (.int (m8 qs)),o1,o2]/\c7 H1 H2/\H2 D=some (.lst ((j9 (m8 qs) (qs.take i)).map V.int))) ⟨_,_,rfl,c7.new hD _,c4⟩ (λi σ H2 _ ⟨_,_,_,s2,_⟩=>s2.seq hS) ?_ ?_
  ·rintro i x σ H2 hx ⟨o1,o2,rfl,s2,e2⟩
   have hi:=(q0g.mp hx).1
   obtain ⟨p,q,rfl,hq,hp⟩:=hN.getV hx
   have hd:=small q (q0p hq)
   have hd0:=w5 q
   have hd9:(q.den:Int).natAbs<2 ^ 6000:=by rw [q0k];exact hd
   have hn9:=hs.num (q0p hq)
   have es:qs.take (i+1)=qs.take i ++ [q]:=by rw [y0y,hq];rfl
   subst_eqs
   refine ⟨_,s2.tup hp.sqt,rfl,_,_,rfl,_,_,rfl,rfl,?_⟩
   refine ⟨_,rfl,ab5 (by lia) (ab2 hd9),_,rfl,G5 (m:=6000) (n:=6000) (q0f hn9 (c9 ⋯)) (q0v (aH1 ⋯ (j0x.mpr (T9 (q0p hq)))) (by rw [q0k];have:=(hB qs.length).2;rwa [y0k] at this)),?_⟩
   refine G0.mk hi e2 ?_ ⟨_,_,rfl,(s2.trans (c7.refl _)).over hD _,?_⟩
   ·simp only [q0e,j9,j0j]
    exact q0v (show _<=100 by lia) (by decide)
   ·rw [c4,es]
    simp [j9]
  ·rintro σ H2 ⟨o1,o2,rfl,s2,e2⟩
   rw [e1] at e2
   refine ⟨v4,λp hp=>k p D _ (s2.trans (c7.new hp _)) hD c4 ?_⟩
   rw [g8 (g7 e2 hp)];exact e2
theorem bu2 {qs:List Rat} (hc:m5 (j9 (m8 qs) qs) ≠ 0) :
  let c:Int:=m5 (j9 (m8 qs) qs)
  (q0s c (m8 qs)).num=c/\((q0s c (m8 qs)).den:Int)=m8 qs/\qs=scl (q0s c (m8 qs)) ((j9 (m8 qs) qs).map λv=>v.fdiv c):=by
 intro c
 have hB:=V6 qs
 obtain ⟨h1,h2⟩:=ah4 (n:=c) (d:=(m8 qs:Int)) ⋯ (aI0 qs)
 refine ⟨h1,h2,?_⟩
 unfold scl j9
 rw [j1f,j1f]
 conv=>lhs;rw [<- List.map_id qs]
 refine z1x λq hq=>?_
 show q=q0s c (m8 qs)*(((q.num*(m8 qs:Int).fdiv (q.den:Int)).fdiv c:Int):Rat)
 obtain ⟨e,he⟩:=D3 (ws:=j9 (m8 qs) qs) (q0w.mpr ⟨q,hq,rfl⟩)
 have hc':c ≠ 0:=by show ((m5 (j9 (m8 qs) qs):Nat):Int) ≠ 0;lia
 have e1:(q.num*(m8 qs:Int).fdiv (q.den:Int)).fdiv c=e:=by
  conv=>lhs;arg 1;rw [he]
  exact p7 hc'
 rw [e1]
 conv=>lhs;rw [bd9 hB (T9 hq)]
 rw [he]
 have e2:(e:Rat)=q0s e 1:=by
  have:=z0u (e:Rat)
  rw [Rat.num_intCast,Rat.den_intCast] at this
  exact this.symm
 rw [e2,u0h,j1j]
theorem bu8 {ws:List Int} {v:Int} (h:v ∈ ws) (hv:v ≠ 0):m5 ws ≠ 0:=λz=>by
 obtain ⟨e,he⟩:=D3 h
 rw [z] at he
 simp at he
 exact hv he
theorem aR4 {a g:Int} {n:Nat} (hg:0<g) (hd:g ∣ a) (h:a.natAbs<n):(a.fdiv g).natAbs<n:=q0v (aH1 hg hd) h
theorem aB1 {d:Nat}:∀ (ws:List Int) (c:Nat),d ∣ c->(∀ w ∈ ws,(d:Int) ∣ w)->d ∣ ws.foldl (λc w=>z0r w c) c
 | [],c,h,_=>h
 | w :: r,c,h,hw=>aB1 r _ (Int.dvd_gcd (hw w q0c) (j0x.mpr h)) λx hx=>hw x (q0b _ hx)
theorem bg6 {q:Rat} (h:0<q.num):0<q:=(m0x 0 q).mpr (by
 show (0:Int)*(q.den:Int)<q.num*((1:Nat):Int)
 rw [g0y];simpa using h)
theorem bb5 {ws:List Int} (hc:m5 ws ≠ 0):m5 (ws.map λv=>v.fdiv ((m5 ws:Nat):Int))=1:=by
 obtain ⟨g,hg⟩:∃ g,g=m5 ws:=⟨_,rfl⟩
 obtain ⟨e,he⟩:∃ e,e=m5 (ws.map λv=>v.fdiv ((m5 ws:Nat):Int)):=⟨_,rfl⟩
 have hd:(g*e) ∣ m5 ws:=aB1 ws 0 (v0v _) λw hw=>by
  obtain ⟨y,hy⟩:=D3 hw
  have h1:w.fdiv ((m5 ws:Nat):Int)=y:=by
   conv=>lhs;arg 1;rw [hy]
   exact p7 (by lia)
  obtain ⟨z,hz⟩:=D3 (q0w.mpr ⟨w,hw,rfl⟩:w.fdiv ((m5 ws:Nat):Int) ∈ ws.map λv=>v.fdiv ((m5 ws:Nat):Int))
  rw [h1,<- he] at hz
  exact ⟨z,by rw [hy,<- hg,hz,j0e,z1t]⟩
 rw [<- hg] at hd
 obtain ⟨z,hz⟩:=hd
 have h2:g*1=g*(e*z):=by rw [q1y,<- g0m];exact hz
 have h3:=v0p (show 0<g by lia) h2
 rw [<- he]
 exact u0q.mp ⟨z,h3⟩
def ay7 (K:q0a):Sp:=λvs H Q _ => ∃ a xs qs,vs=[.ref a]/\SqL K H a xs/\Q4 K H xs qs/\∃ W:Nat,ClN W qs/\W<=6000/\1<=W/\qs.length<=100/\U7 qs qs.length /\
 ∀ r rs l s ws H',c7 H H'->H l=none->H' r=some (.tup [.ref rs,.ref l])->SqT K H' rs (t7 s)->H' l=some (.lst (ws.map V.int))->BdN W s->s ≠ 0->(∀ v ∈ ws,z0s v<2 ^ W)->ws.length=qs.length->qs=scl s ws->(ws ≠ []->m5 ws=1)->0<s->Q (.ref r) H'
abbrev ac4:Stmt:=top 32
theorem ae5:i7 ["p","content","wholes","bottom"] ["p"] (c6 ac4):=by and_intros
theorem aQ6 {f fc fk aN:Addr} (d:Df K mg "lifted" ac4 ["p"] f) (G_cleared:Def P w K mg base CX0 2 "cleared" fc ["numbers"] (ay9 K)) (G_content_of:Def P w K mg base CX0 2 "content_of" fk ["wholes"] (ak7 K)) (c_ONE:mg "ONE" = some (.ref aN)) (tN:∀ H,SqT K H aN (t7 1)):Def P w K mg base CX0 3 "lifted" f ["p"] (ay7 K):=by
  refine d.ok (N:=["p","content","wholes","bottom"]) ae5 (by rintro vs H Q E ⟨a,b,c,h,_⟩;rw [h];rfl) (λcdv A outer s H vs Q E hr h=>?_)
  obtain ⟨a,xs,qs,rfl,hS,hN,m,hs,hm,hm1,hl,ht,k⟩:=h
  refine ⟨_, (b9 (P8 (d5 G_cleared hr (a7 (pv 0) a9) i5) (show PG _ _ (af8 K 2 (A8 (t8 2) (A8 (t8 3) af9))) from by (refine N5 (n := 2) ?_ ?_ ?_ ?_; rfl; (refine k7 ?_ ?_ ?_; (exact (i3 (i := 2) ae5.nd rfl (Or.inl rfl))); (refine k7 ?_ ?_ ?_; (exact (i3 (i := 3) ae5.nd rfl (Or.inl rfl))); (exact G8); rfl); rfl); rfl; rfl)))
      (b9 (B0 (P7 (Z2 (pv 2) (λ_=>rfl))) (c5 (i8 (q8 (a7 (B5 (v:=.ref _) rfl c_ONE rfl) (a7 (z8 a9) a9))))) p9)
      (b9 (d8 (i:=1) ae5.nd rfl (Or.inr rfl) (d5 G_content_of hr (a7 (pv 2) a9) i5))
      (c5 (i8 (q8 (a7 (q8 (a7 (pv 1) (a7 (pv 3) a9))) (a7 (M2 (Nc:=["content","whole"]) (caps:=[some 1,none]) rfl (Y7.of (osc:=c6 ac4) (N:=["p","content","wholes","bottom"]) (ks:=["content"]) rfl rfl rfl rfl (C5 rfl D5) (by trivial)) (D6 (pv 2)) (λC s₂ H₂ fp pins=>(i3 (i:=1) (show List.Nodup (["content","whole"]:List Str) by trivial) rfl (Or.inl rfl) (Or.inr rfl))) (λC s₂ H₂ fp pins=>(d7 C8 (pv 1) (pv 0)))) a9)))))))),?_⟩
  rw [show start ["p","content","wholes","bottom"] [.ref a]=[some (.ref a),none,none,none] from rfl]
  simp! [ax9]
  refine ⟨a,xs,qs,rfl,hS,hN,⟨m,hs,hm⟩,hl,λr l H1 s1 hl1 er el=>?_⟩
  have hB:=V6 qs
  have hB1:=hs.l
  have wl:=hs.w
  refine ⟨r,rfl,_,SqT.of er,rfl,_,_,rfl,_,_,rfl,rfl,_,.inl ⟨_,SqL.of el,rfl⟩,B1 (λh0=>?_) (λh0=>?_)⟩
  · have hq : qs = [] := by
      cases qs with
      | nil=>rfl
      | cons q r=>simp [j9] at h0
    subst hq
    refine ⟨by decide,λp hp=>⟨v4,λp1 hp1=>?_⟩⟩
    refine k p1 aN p 1 [] _ (s1.trans ((c7.new hp _).trans (c7.new hp1 _))) (s1.free hp) c4 (tN _) (by rw [g8 (bF4 hp1).symm];exact c4) ⟨Nat.lt_of_lt_of_le (show _<2 ^ 1 by decide) (c9 ⋯),Nat.lt_of_lt_of_le (show _<2 ^ 1 by decide) (c9 ⋯)⟩ (by decide) (by simp) (by simp) rfl (λz=>absurd rfl z) (by decide)
  · have hq:qs ≠ []:=λz=>h0 (by rw [z];rfl)
    have lp:0<qs.length:=List.length_pos_iff.mpr hq
    have hlast:qs.length-1<qs.length:=by lia
    have hne:qs[qs.length-1] ≠ 0:=ht.last (by lia) _ (List.getElem?_eq_getElem hlast)
    have hmem:qs[qs.length-1] ∈ qs:=List.getElem_mem hlast
    have hc:m5 (j9 (m8 qs) qs) ≠ 0:=by
      refine bu8 (List.mem_map.mpr ⟨_,hmem,rfl⟩) ?_
      obtain ⟨e,he⟩:=T9 hmem
      have h0:(qs[qs.length-1].den:Int) ≠ 0:=by have:=qs[qs.length-1].den_nz;lia
      have e1:(m8 qs:Int).fdiv (qs[qs.length-1].den:Int)=(e:Int):=by
        rw [he,Int.natCast_mul];exact p7 h0
      rw [e1]
      refine Int.mul_ne_zero (λz=>hne (at4.mp z)) ?_
      intro z
      have:e=0:=by lia
      rw [this] at he;lia
    obtain ⟨f1,f2,f3⟩:=bu2 hc
    have cpos:(0:Int)<(m5 (j9 (m8 qs) qs):Nat):=by lia
    have cle:m5 (j9 (m8 qs) qs)<2 ^ m:=by
      have hm:qs[qs.length-1].num*(m8 qs:Int).fdiv (qs[qs.length-1].den:Int) ∈ j9 (m8 qs) qs:=List.mem_map.mpr ⟨_,hmem,rfl⟩
      obtain ⟨e,he⟩:=D3 hm
      have w1:=wl _ hm
      rw [he,Int.natAbs_mul,Int.natAbs_natCast] at w1
      have e0:e.natAbs ≠ 0:=λz=>by
        have hz:e=0:=by lia
        rw [hz,Int.mul_zero] at he
        rcases Int.mul_eq_zero.mp he with q1 | q1
        · exact hne (at4.mp q1)
        · obtain ⟨e',he'⟩:=T9 hmem
          have h0:(qs[qs.length-1].den:Int) ≠ 0:=by have:=qs[qs.length-1].den_nz;lia
          have e1:(m8 qs:Int).fdiv (qs[qs.length-1].den:Int)=(e':Int):=by
            rw [he',Int.natCast_mul];exact p7 h0
          rw [e1] at q1
          have:e'=0:=by lia
          rw [this] at he';lia
      exact Nat.lt_of_le_of_lt (Nat.le_mul_of_pos_right _ (by lia)) w1
    refine ⟨l,_,rfl,SqL.of el,λv hv=>Nat.lt_of_lt_of_le (wl v hv) (c9 hm),v4,λp hp=>⟨l,rfl,⟨_,SqL.of (c7.new hp _ _ _ el)⟩,λD hD=>?_⟩⟩
    have sp:=c7.new hp (.tup [.int (m5 (j9 (m8 qs) qs):Nat),.int (m8 qs)])
    refine U5 ((j9 (m8 qs) qs).map V.int) (λi σ H2 => ∃ o,σ=[some (.int (m5 (j9 (m8 qs) qs):Nat)),o]/\c7 (upd H1 p (.tup [.int (m5 (j9 (m8 qs) qs):Nat),.int (m8 qs)])) H2/\H2 D=some (.lst ((((j9 (m8 qs) qs).take i).map λv=>v.fdiv (m5 (j9 (m8 qs) qs):Nat)).map V.int)))
      ⟨_,rfl,c7.new hD _,c4⟩ (λi σ H2 _ ⟨_,_,s2,_⟩=>SqL.of (s2 _ _ (sp _ _ el))) ?_ ?_
    · rintro i x σ H2 hx ⟨o,rfl,s2,e2⟩
      have hi:=(List.getElem?_eq_some_iff.mp hx).1
      rw [List.getElem?_map] at hx
      cases hw:(j9 (m8 qs) qs)[i]? with
      | none=>rw [hw] at hx;cases hx
      | some v =>
        rw [hw] at hx
        cases hx
        subst_eqs
        refine ⟨ab5 (by lia) (by rw [Int.natAbs_natCast];exact ab2 cle (by lia)),G0.mk hi e2 ?_ ⟨_,rfl,s2.over hD _,?_⟩⟩
        · simp only [List.length_map,List.length_take,j9]
          exact Nat.lt_of_le_of_lt (show _<=100 by lia) (by decide)
        · rw [c4,List.take_succ,hw]
          simp
    · rintro σ H2 ⟨o,rfl,s2,e2⟩
      rw [List.length_map,List.take_length] at e2
      refine ⟨v4,λp1 hp1=>?_⟩
      have S:=(s1.trans sp).trans (s2.trans (c7.new hp1 (.tup [.ref p,.ref D])))
      have ep:SqT K (upd H2 p1 (.tup [.ref p,.ref D])) p (t7 (Rat.divInt (m5 (j9 (m8 qs) qs):Nat) (m8 qs))):=by
        refine SqT.of ?_
        rw [g8 (g7 (s2 _ _ c4) hp1),s2 _ _ c4]
        unfold t7
        rw [f1,f2]
      refine k p1 p D _ ((j9 (m8 qs) qs).map λv=>v.fdiv (m5 (j9 (m8 qs) qs):Nat)) _ S (s1.free (bj1 hD)) c4 ep (by rw [g8 (g7 e2 hp1)];exact e2) ⟨?_,?_⟩ ?_ ?_ ?_ f3 (λ_=>bb5 hc) ?_
      · rw [f1,Int.natAbs_natCast];exact cle
      · have:(Rat.divInt (m5 (j9 (m8 qs) qs):Nat) (m8 qs)).den=m8 qs:=by lia
        rw [this];exact hB1
      · intro z
        rw [z] at f1
        have:(0:Rat).num=0:=rfl
        lia
      · intro v hv
        obtain ⟨v',hv',rfl⟩:=List.mem_map.mp hv
        exact aR4 cpos (D3 hv') (wl v' hv')
      · simp only [List.length_map,j9]
      · exact bg6 (by rw [f1];exact cpos)
def aD5 (K:q0a):Sp:=λvs H Q _ => ∃ (a:Addr) (ws:List Int),vs=[.ref a]/\SqL K H a (ws.map V.int)/\ws.length<=100/\∀ m r,v2 ws m->H r=none->Q (.ref r) (upd H r (.lst ((ws.take m).map V.int)))
abbrev ae6:Stmt:=top 29
theorem ah0:i7 ["wholes","many"] ["wholes"] (c6 ae6):=by and_intros
theorem aQ3 {f:Addr} (d:Df K mg "trimmed" ae6 ["wholes"] f) (n_len:mg "len" = none):Def P w K mg base CX0 1 "trimmed" f ["wholes"] (aD5 K):=by
  refine d.ok (N:=["wholes","many"]) ah0 (by rintro vs H Q E ⟨_,_,h,_⟩;rw [h];rfl) (λcdv A outer s H vs Q E hr h=>?_)
  obtain ⟨a,ws,rfl,hS,hl,k⟩:=h
  refine ⟨_, (b9 (d8 (i := 1) ah0.nd rfl (Or.inl rfl) (d9 j5 rfl n_len (by decide +kernel) (a7 (pv 0) a9)))
      (b9 (O7 PassesOwn.never (PW.pt (ak9 (Z2 (pv 1) (λ_=>rfl)) (ae8 (j3 Z4 (j4 v1 (pv 0) (d7 F6 (pv 1) b7) (λ_ _=>rfl)) b7 (j7 _))))) (c5 (as0 (i:=1) ah0.nd rfl (Or.inl rfl) b7 bl0)))
      (c5 (i8 (bi1 br8 (pv 0) bt3 (bt2 (pv 1))))))),?_⟩
  rw [show start ["wholes","many"] [.ref a]=[some (.ref a),none] from rfl]
  refine d6 (λσ H1=>σ=[some (.ref a),some (.int ws.length)]/\H=H1) (λN hN=>?_) ?_
  · subst_eqs
    refine ⟨_,.inl hS,hN _ _ ⟨?_,rfl⟩⟩
    rw [List.length_map]
  rintro σ H1 ⟨rfl,rfl⟩
  refine d6 (λσ H1 => ∃ m:Nat,σ=[some (.ref a),some (.int m)]/\H=H1/\v2 ws m) (λN hN=>?_) ?_
  · refine aq9 (λσ H1=>H=H1/\∃ m:Nat,σ=[some (.ref a),some (.int m)]/\m<=ws.length/\∀ i v,m<=i->ws[i]? = some v->v=0) (λσ _=>match σ with | [_,some (.int y)]=>y.toNat | _=>0) ⟨rfl,ws.length,rfl,Nat.le_refl _,λi v hi h=>by rw [List.getElem?_eq_none hi] at h;cases h⟩ ?_
    rintro σ H1 ⟨rfl,m,rfl,hm,hz⟩
    simp! [ax9]
    refine B1 (λh0=>?_) (λh0=>?_)
    · have h0':m ≠ 0:=λz=>by subst z;simp at h0
      have hlt:m-1<ws.length:=⋯
      have hg:ws[m-1]? = some ws[m-1]:=List.getElem?_eq_getElem hlt
      have ei:((m:Int)-1)=((m-1:Nat):Int):=⋯
      rw [ei]
      refine ⟨_,hS,.int ws[m-1],af6 (by rw [List.getElem?_map,hg];rfl),rfl,B1 (λhn=>?_) (λhn=>?_)⟩
      · have hn':ws[m-1]=0:=by simpa using hn
        refine WhB.mk ?_
        subst_eqs
        refine WhN.mk ⟨rfl,m-1,by rw [ei],by exact Nat.le_of_lt ‹_›,λi v hi e=>?_⟩ ?_
        · by_cases hi':i=m-1
          · subst hi'
            rw [hg] at e
            cases e
            exact hn'
          · exact hz i v (by lia) e
        · show ((m:Int)-1).toNat<(m:Int).toNat
          lia
      · refine hN _ _ ⟨m,rfl,rfl,hm,hz,λ_ v e=>?_⟩
        rw [hg] at e
        cases e
        intro z
        exact hn (by rw [z])
    · have h0' : m = 0 := by
        by_cases z:m=0
        · exact z
        · exact absurd (by simp [z]) h0
      exact hN _ _ ⟨m,rfl,rfl,hm,hz,λh=>absurd h0' h⟩
  rintro σ H1 ⟨m,rfl,rfl,t⟩
  subst_eqs
  refine ⟨_,hS,λp hp=>?_⟩
  rw [bo5 _ (by rw [List.length_map];exact t.le),<- List.map_take]
  exact k m p t hp
theorem aW4 {n k:Nat} (h:k<n):ixN n (k:Int)=some k:=by
 unfold ixN
 rw [if_pos (by simp),if_pos ⋯]
 simp
theorem br7:(3:Nat)<=sizeLine:=by decide
structure WDD (H:Hp) (one other:List Int) (n W1 W2 kst:Nat) (lq lr:Addr) (many:Int) (Qz Rz:List Int) (H3:Hp):Prop where
 same:c7 H H3
 fq:H lq=none
 fr:H lr=none
 nqr:lq ≠ lr
 eq:H3 lq=some (.lst (Qz.map V.int))
 er:H3 lr=some (.lst (Rz.map V.int))
 m1:1<=many
 mb:many.natAbs<2 ^ (kst*W2+1)
 qb:∀ v ∈ Qz,z0s v<2 ^ (W1+kst*(W2+1))
 rb:∀ v ∈ Rz,z0s v<2 ^ (W1+kst*(W2+1))
 kl:kst+Rz.length<=one.length
 ks:kst=0 \/ kst+n<=one.length
 k0:kst=0->Rz.length=one.length
 rt:v2 Rz Rz.length
 ql:Qz.length=one.length-n
 qz:∀ i,i+n<Rz.length->aZ Qz i=0
 qlast:kst ≠ 0->∀ v,Qz[Qz.length-1]? = some v->v ≠ 0
 dv:Dv one other Qz Rz many
 ex:ExZ one other->many=1
theorem bg2 {K:q0a} {l D:Addr} {ws:List Int} {f:Int} {H1:Hp} {Q:VK} {m m2:Nat} (e:H1 l=some (.lst (ws.map V.int))) (hD:H1 D=none) (hl:ws.length<=100) (hf:f.natAbs<2 ^ m2) (hw:∀ v ∈ ws,z0s v<2 ^ m) (hm:m+m2<=20000)
  (k:∀ H2,c7 H1 H2->H2 D=some (.lst ((ws.map (f * ·)).map V.int))->Q (.ref D) H2):ak4 (Itl K l) D [some (.int f),none] (upd H1 D (.lst [])) (t8 1) (tOp (rI IntMulOk λi j=>V.int (i*j)) (Z6 0) (Z6 1)) Q:=by
 refine U5 (ws.map V.int) (λi σ H3 => ∃ o,σ=[some (.int f),o]/\c7 H1 H3/\H3 D=some (.lst (((ws.take i).map (f * ·)).map V.int))) ⟨_,rfl,c7.new hD _,c4⟩ (λi σ H3 _ ⟨_,_,s3,_⟩=>SqL.of (s3 _ _ e)) ?_ ?_
 ·rintro i y σ H3 hy ⟨o,rfl,s3,e3⟩
  have hi:=(q0g.mp hy).1
  obtain ⟨v,hv,rfl⟩:=ad3 hy
  subst_eqs
  refine ⟨G5 hf (hw v (q0p hv)) (by lia),G0.mk hi e3 ?_ ⟨_,rfl,s3.over hD _,?_⟩⟩
  ·simp only [q0e,j0j]
   exact q0v (show _<=100 by lia) (by decide)
  ·rw [c4,y0y,hv]
   simp
 ·rintro σ H3 ⟨o,rfl,s3,e3⟩
  rw [q0e,y0k] at e3
  exact k H3 s3 e3
def bk1 (k:Nat) (σ:L2.St) (H:Hp):Nat:=match σ[k]? with
 | some (some (.ref r))=>(match H r with
  | some (.lst xs)=>xs.length
  | _=>0)
 | _=>0
theorem aL8 {k:Nat} {σ:L2.St} {H:Hp} {r:Addr} {xs:List V} (h:σ[k]? = some (some (.ref r))) (e:H r=some (.lst xs)):bk1 k σ H=xs.length:=by
 unfold bk1;rw [h];simp only [e]
def bf4 (K:q0a):Sp:=λvs H Q _ => ∃ (a b:Addr) (one other:List Int) (n S W1 W2:Nat),vs=[.ref a,.ref b]/\SqL K H a (one.map V.int)/\SqL K H b (other.map V.int)/\one.length<=30/\other.length=n+1/\n<=30/\aZ other n ≠ 0/\v2 one one.length/\one.length<=n+S/\(∀ v ∈ one,z0s v<2 ^ W1)/\(∀ v ∈ other,z0s v<2 ^ W2)/\W1+S*(W2+1)<=5000/\W2<=5000 /\
 ∀ r lq lr many Qz Rz H',c7 H H'->H lq=none->H lr=none->lq ≠ lr->H' r=some (.tup [.int many,.ref lq,.ref lr])->H' lq=some (.lst (Qz.map V.int))->H' lr=some (.lst (Rz.map V.int))->1<=many->many.natAbs<2 ^ (S*W2+1)->(∀ v ∈ Qz,z0s v<2 ^ (W1+S*(W2+1)))->(∀ v ∈ Rz,z0s v<2 ^ (W1+S*(W2+1)))->Rz.length<=n->v2 Rz Rz.length->Qz.length=one.length-n->v2 Qz Qz.length->Dv one other Qz Rz many->(ExZ one other->many=1)->Q (.ref r) H'
abbrev B9:Stmt:=top 36
theorem i9:i7 ["one","other","lead","many","quotient","rest","part","place","factor","further","whole"] ["one","other"] (c6 B9):=by and_intros
theorem aj1 {f f1:Addr} (d:Df K mg "whole_divided" B9 ["one","other"] f) (G_trimmed:Def P w K mg base CX0 1 "trimmed" f1 ["wholes"] (aD5 K)) (n_len:mg "len" = none) (n_max:mg "max" = none) (n_list:mg "list" = none) (n_abs:mg "abs" = none) (n_enumerate:mg "enumerate" = none):Def P w K mg base CX0 2 "whole_divided" f ["one","other"] (bf4 K):=by
  refine d.ok (N:=["one","other","lead","many","quotient","rest","part","place","factor","further","whole"]) i9 (by rintro vs H Q E ⟨_,_,_,_,_,_,_,_,h,_⟩;rw [h];rfl) (λcdv A outer s H vs Q E hr h=>?_)
  obtain ⟨a,b,one,other,n,S,W1,W2,rfl,hS,hS',hl1,hl2,hn,h0,ht1,hS1,hw1,hw2,hT,hT2,k⟩:=h
  refine ⟨_, (b9 (d8 (i := 2) i9.nd rfl (Or.inl rfl) (j4 v1 (pv 1) (G4 B6 b7) (fun _ _ => rfl)))
      (b9 (d8 (i:=3) i9.nd rfl (Or.inl rfl) b7)
      (b9 (d8 (i:=4) i9.nd rfl (Or.inl rfl) (d7 bi7 (z8 (a7 b7 a9)) (d9 (am6 rfl) rfl n_max (by trivial) (a7 b7 (a7 (d7 C9 (d7 F6 (d9 j5 rfl n_len (by trivial) (a7 (pv 0) a9)) (d9 j5 rfl n_len (by trivial) (a7 (pv 1) a9))) b7) a9)))))
      (b9 (d8 (i:=5) i9.nd rfl (Or.inl rfl) (K6 M6 rfl n_list (by trivial) (a7 (pv 0) a9)))
      (b9 (O7 PassesOwn.never (j3 by6 (d9 j5 rfl n_len (by trivial) (a7 (pv 5) a9)) (d9 j5 rfl n_len (by trivial) (a7 (pv 1) a9)) (j7 _)) (b9 (d8 (i:=6) i9.nd rfl (Or.inl rfl) (j4 v1 (pv 5) (G4 B6 b7) (λ_ _=>rfl)))
      (b9 (d8 (i:=7) i9.nd rfl (Or.inl rfl) (d7 F6 (d9 j5 rfl n_len (by trivial) (a7 (pv 5) a9)) (d9 j5 rfl n_len (by trivial) (a7 (pv 1) a9))))
      (b9 (B0 (j3 Z4 (d7 M3 (pv 6) (pv 2)) b7 (j7 _)) (c5 (d8 (i:=6) i9.nd rfl (Or.inl rfl) (d7 C8 (pv 6) (pv 2)))) (b9 (d8 (i:=8) i9.nd rfl (Or.inr rfl) (d9 V8 rfl n_abs (by trivial) (a7 (pv 2) a9)))
      (b9 (d8 (i:=6) i9.nd rfl (Or.inl rfl) (as2 (j3 ag6 (pv 2) b7 (j7 _)) (pv 6) (G4 B6 (pv 6))))
      (b9 (as0 (i:=3) i9.nd rfl (Or.inl rfl) (pv 8) bl1)
      (b9 (ar9 (i₀:=4) i9.nd rfl (Or.inl rfl) (Nc:=["factor","whole"]) (caps:=[some 8,none]) rfl (Y7.of (osc:=c6 B9) (N:=["one","other","lead","many","quotient","rest","part","place","factor","further","whole"]) (ks:=["factor"]) rfl rfl rfl rfl (C5 rfl D5) (by trivial)) (D6 (pv 4)) (λC s₂ H₂ fp pins=>(i3 (i:=1) (show List.Nodup (["factor","whole"]:List Str) by trivial) rfl (Or.inl rfl) (Or.inr rfl))) (λC s₂ H₂ fp pins=>(d7 p8 (pv 0) (pv 1))))
      (c5 (ar9 (i₀:=5) i9.nd rfl (Or.inl rfl) (Nc:=["factor","whole"]) (caps:=[some 8,none]) rfl (Y7.of (osc:=c6 B9) (N:=["one","other","lead","many","quotient","rest","part","place","factor","further","whole"]) (ks:=["factor"]) rfl rfl rfl rfl (C5 rfl D5) (by trivial)) (D6 (pv 5)) (λC s₂ H₂ fp pins=>(i3 (i:=1) (show List.Nodup (["factor","whole"]:List Str) by trivial) rfl (Or.inl rfl) (Or.inr rfl))) (λC s₂ H₂ fp pins=>(d7 p8 (pv 0) (pv 1))))))))))
      (b9 (P8 (pv 6) (aF1 (pv 4) (pv 7) ab9))
      (b9 (K3 PassesOwn.never rfl (aF0 rfl n_enumerate (a7 (pv 1) a9)) (show PG _ _ (af8 K 2 (A8 (t8 9) (A8 (t8 10) af9))) from by (refine N5 (n:=2) ?_ ?_ ?_ ?_;rfl;(refine k7 ?_ ?_ ?_;(exact (i3 (i:=9) i9.nd rfl (Or.inl rfl)));(refine k7 ?_ ?_ ?_;(exact (i3 (i:=10) i9.nd rfl (Or.inl rfl)));(exact G8);rfl);rfl);rfl;rfl)) (c5 (bs8 (pv 5) (d7 C9 (pv 7) (pv 9)) bm2 (d7 p8 (pv 6) (pv 10)) bl0 ab9)))
      (c5 (d8 (i:=5) i9.nd rfl (Or.inl rfl) (d5 G_trimmed hr (a7 (pv 5) a9) i5)))))))))
      (c5 (i8 (q8 (a7 (pv 3) (a7 (pv 4) (a7 (pv 5) a9))))))))))),?_⟩
  rw [show start ["one","other","lead","many","quotient","rest","part","place","factor","further","whole"] [.ref a,.ref b]=[some (.ref a),some (.ref b),none,none,none,none,none,none,none,none,none] from rfl]
  obtain ⟨lead,hlead⟩:∃ z,z=aZ other n:=⟨_,rfl⟩
  have hg:other[n]? = some lead:=by rw [hlead];unfold aZ;rw [List.getElem?_eq_getElem (by lia)];rfl
  have l0:lead ≠ 0:=by rw [hlead];exact h0
  have lb:lead.natAbs<2 ^ W2:=hw2 _ (List.mem_of_getElem? hg)
  refine d6 (λσ H1=>σ=[some (.ref a),some (.ref b),some (.int lead),none,none,none,none,none,none,none,none]/\H=H1) (λN hN=>?_) ?_
  · subst_eqs
    refine ⟨_,hS',_,au2 (x:=.int lead) (by rw [List.length_map,hl2,List.getElem?_map,Nat.add_sub_cancel,hg];rfl),hN _ _ ⟨rfl,rfl⟩⟩
  rintro σ H1 ⟨rfl,rfl⟩
  refine d6 (λσ H1=>σ=[some (.ref a),some (.ref b),some (.int lead),some (.int 1),none,none,none,none,none,none,none]/\H=H1) (λN hN=>?_) ?_
  · subst_eqs
    exact hN _ _ ⟨rfl,rfl⟩
  rintro σ H1 ⟨rfl,rfl⟩
  refine d6 (λσ H1 => ∃ lq,σ=[some (.ref a),some (.ref b),some (.int lead),some (.int 1),some (.ref lq),none,none,none,none,none,none]/\c7 H H1/\H lq=none/\H1 lq=some (.lst ((List.replicate (one.length-n) (0:Int)).map V.int))) (λN hN=>?_) ?_
  · subst_eqs
    refine ⟨by decide,λp hp=>?_⟩
    have Sp:=c7.new hp (.lst [.int 0])
    have ez:(if (((one.map V.int).length:Nat):Int)-(((other.map V.int).length:Nat):Int)+1 > 0 then (((one.map V.int).length:Nat):Int)-(((other.map V.int).length:Nat):Int)+1 else 0)=((one.length-n:Nat):Int):=by
      rw [List.length_map,List.length_map,hl2]
      split <;> lia
    refine ⟨_,.inl (Sp.seq hS),_,.inl (Sp.seq hS'),_,c4,?_⟩
    rw [ez]
    refine ⟨by simp,by lia,?_,λp1 hp1=>hN _ _ ⟨p1,rfl,Sp.trans (c7.new hp1 _),Sp.free hp1,?_⟩⟩
    · have:(([V.int 0]:List V).length*((one.length-n:Nat):Int).toNat)<=100:=by simp;lia
      exact Nat.le_trans this (by decide)
    · rw [c4,Int.toNat_natCast,List.flatten_replicate_singleton,List.map_replicate]
  rintro σ H1 ⟨lq,rfl,s1,fq,eq⟩
  refine d6 (λσ H2 => ∃ lr,σ=[some (.ref a),some (.ref b),some (.int lead),some (.int 1),some (.ref lq),some (.ref lr),none,none,none,none,none]/\c7 H1 H2/\H1 lr=none/\H2 lr=some (.lst (one.map V.int))) (λN hN=>?_) ?_
  · subst_eqs
    refine ⟨_,.inl (s1.seq hS),λl hl=>hN _ _ ⟨l,rfl,c7.new hl _,hl,c4⟩⟩
  rintro σ H2 ⟨lr,rfl,s2,fr,er⟩
  refine d6 (λσ H3 => ∃ lq lr many Qz Rz o6 o7 o8 o9 o10,σ=[some (.ref a),some (.ref b),some (.int lead),some (.int many),some (.ref lq),some (.ref lr),o6,o7,o8,o9,o10]/\c7 H H3/\H lq=none/\H lr=none/\lq ≠ lr/\H3 lq=some (.lst (Qz.map V.int))/\H3 lr=some (.lst (Rz.map V.int))/\1<=many/\many.natAbs<2 ^ (S*W2+1)/\(∀ v ∈ Qz,Int.natAbs v<2 ^ (W1+S*(W2+1)))/\(∀ v ∈ Rz,Int.natAbs v<2 ^ (W1+S*(W2+1)))/\Rz.length<=n/\v2 Rz Rz.length/\Qz.length=one.length-n/\v2 Qz Qz.length/\Dv one other Qz Rz many/\(ExZ one other->many=1)) (λN hN=>?_) ?_
  · have w2p : 1 ≤ W2 := by
      rcases Nat.eq_zero_or_pos W2 with z | z
      · rw [z] at lb;lia
      · exact z
    refine aq9 (λσ H3 => ∃ kst lq lr many Qz Rz o6 o7 o8 o9 o10,σ=[some (.ref a),some (.ref b),some (.int lead),some (.int many),some (.ref lq),some (.ref lr),o6,o7,o8,o9,o10]/\WDD H one other n W1 W2 kst lq lr many Qz Rz H3) (bk1 5) ⟨0,lq,lr,1,_,one,_,_,_,_,_,rfl,⟨s1.trans s2,fq,s1.free fr,g7 eq fr,s2 _ _ eq,er,by decide,by simp,λv hv=>?_,λv hv=>?_,by simp,.inl rfl,λ_=>rfl,ht1,by rw [List.length_replicate],λi _=>?_,λz=>absurd rfl z,λk=>?_,λ_=>rfl⟩⟩ ?_
    · rw [(List.mem_replicate.mp hv).2];exact Nat.two_pow_pos _
    · have:=hw1 v hv
      simpa using this
    · unfold aZ
      rw [List.getElem?_replicate]
      split <;> rfl
    · have : cv (zc (List.replicate (one.length - n) (0 : Int))) (zc other) k = 0 := w8 _ fun i _ => by
        have:zc (List.replicate (one.length-n) (0:Int)) i=0:=by
          unfold zc aZ
          rw [List.getElem?_replicate]
          split <;> rfl
        rw [this];grind
      rw [this]
      show (1:Rat)*_=_
      grind
    clear eq er fq fr s1 s2 lq lr
    rintro σ H3 ⟨kst,lq,lr,many,Qz,Rz,o6,o7,o8,o9,o10,rfl,D⟩
    have hSb:=D.same.seq hS'
    simp only [aJ4,tOp,tCB,ar1,aZ4,Z6,rI0]
    refine ⟨_,rfl,lr,_,rfl,.inl (SqL.of D.er),_,rfl,b,_,rfl,.inl hSb,_,_,rfl,rfl,_,rfl,?_⟩
    rw [List.length_map,List.length_map,hl2]
    refine B1 (λhge=>WhB.mk ?_) (λhlt=>?_)
    · have hge' : n + 1 ≤ Rz.length := by
        have:((n+1:Nat):Int)<=(Rz.length:Int):=by simpa using hge
        lia
      obtain ⟨t,ht⟩:∃ t,Rz.length=n+1+t:=⟨Rz.length-(n+1),by lia⟩
      have htq:t<Qz.length:=by rw [D.ql];have:=D.kl;lia
      obtain ⟨y,hy⟩:∃ y,Rz[Rz.length-1]? = some y:=⟨_,List.getElem?_eq_getElem (by lia)⟩
      have y0:y ≠ 0:=D.rt.last (by lia) y hy
      have yb:=D.rb y (List.mem_of_getElem? hy)
      refine d6 (λσ H4=>σ=[some (.ref a),some (.ref b),some (.int lead),some (.int many),some (.ref lq),some (.ref lr),some (.int y),o7,o8,o9,o10]/\H3=H4) (λN hN=>?_) ?_
      · subst_eqs
        exact ⟨_,SqL.of D.er,_,au2 (x:=.int y) (by rw [List.length_map,List.getElem?_map,hy];rfl),hN _ _ ⟨rfl,rfl⟩⟩
      rintro σ H4 ⟨rfl,rfl⟩
      refine d6 (λσ H4=>σ=[some (.ref a),some (.ref b),some (.int lead),some (.int many),some (.ref lq),some (.ref lr),some (.int y),some (.int (t:Int)),o8,o9,o10]/\H3=H4) (λN hN=>?_) ?_
      · subst_eqs
        refine ⟨_,.inl (SqL.of D.er),_,.inl hSb,hN _ _ ⟨?_,rfl⟩⟩
        rw [List.length_map,List.length_map,hl2,ht,show (((n+1+t:Nat):Int)-((n+1:Nat):Int))=(t:Int) by lia]
      rintro σ H4 ⟨rfl,rfl⟩
      refine d6 (λσ H4 => ∃ lq1 lr1 c d o8,σ=[some (.ref a),some (.ref b),some (.int lead),some (.int (many*c)),some (.ref lq1),some (.ref lr1),some (.int d),some (.int (t:Int)),o8,o9,o10]/\c7 H3 H4/\H lq1=none/\H lr1=none/\lq1 ≠ lr1/\H4 lq1=some (.lst ((Qz.map (c * ·)).map V.int))/\H4 lr1=some (.lst ((Rz.map (c * ·)).map V.int))/\c*y=d*lead/\1<=c/\c.natAbs<2 ^ W2/\d.natAbs<=y.natAbs/\d ≠ 0/\(lead ∣ y->c=1)) (λN hN=>?_) ?_
      · subst_eqs
        have hks:kst<=S:=by rcases D.ks with z | z <;> lia
        have hkm:=Nat.mul_le_mul_right (W2+1) hks
        have hkm2:kst*W2<=kst*(W2+1):=Nat.mul_le_mul_left _ (by simp)
        have one2:(1:Nat)<2 ^ W2:=Nat.lt_of_lt_of_le (show 1<2 ^ 1 by decide) (c9 w2p)
        refine ⟨l0,rfl,B1 (λhd=>?_) (λhd=>?_)⟩
        · refine ⟨ab5 l0 (ab2 lb (by lia)),hN _ _ ⟨lq,lr,1,y.fdiv lead,o8,by rw [Int.mul_one],c7.refl _,D.fq,D.fr,D.nqr,?_,?_,?_,by decide,one2,?_,?_,λ_=>rfl⟩⟩
          · have : Qz.map ((1 : Int) * ·) = Qz := by conv => rhs; rw [← List.map_id Qz]
                                                     exact List.map_congr_left λv _=>Int.one_mul v
            rw [this];exact D.eq
          · have : Rz.map ((1 : Int) * ·) = Rz := by conv => rhs; rw [← List.map_id Rz]
                                                     exact List.map_congr_left λv _=>Int.one_mul v
            rw [this];exact D.er
          · have:=Int.fmod_add_mul_fdiv y lead
            rw [hd] at this
            rw [Int.one_mul,Int.mul_comm];omega
          · have:=Int.fmod_add_mul_fdiv y lead
            rw [hd,Int.zero_add] at this
            conv=>rhs;rw [<- this]
            rw [Int.natAbs_mul]
            exact Nat.le_mul_of_pos_left _ (by lia)
          · intro z
            have:=Int.fmod_add_mul_fdiv y lead
            rw [hd,z] at this
            simp at this
            exact y0 this.symm
        · have hnd:¬ lead ∣ y:=λz=>hd (by simpa using Int.fmod_eq_zero_of_dvd z)
          have fin:∀ d:Int,(if lead<0 then -lead else lead)*y=d*lead->d.natAbs=y.natAbs->IntMulOk many (if lead<0 then -lead else lead)/\(∃ xs,SqL K H3 lq xs)/\∀ (D:Addr),H3 D=none->ak4 (Itl K lq) D [some (V.int (if lead<0 then -lead else lead)),none] (upd H3 D (HO.lst [])) (t8 1) (tOp (rI IntMulOk λi j=>V.int (i*j)) (Z6 0) (Z6 1)) λx H1=>(∃ xs,SqL K H1 lr xs)/\∀ (D:Addr),H1 D=none->ak4 (Itl K lr) D [some (V.int (if lead<0 then -lead else lead)),none] (upd H1 D (HO.lst [])) (t8 1) (tOp (rI IntMulOk λi j=>V.int (i*j)) (Z6 0) (Z6 1)) λx_1 H1=>N [some (V.ref a),some (V.ref b),some (V.int lead),some (V.int (many*if lead<0 then -lead else lead)),some x,some x_1,some (V.int d),some (V.int ↑t),some (V.int (if lead<0 then -lead else lead)),o9,o10] H1:=λd hd1 hd2=>by
            have ab:((if lead<0 then -lead else lead):Int).natAbs=lead.natAbs:=by split <;> simp
            have ab1:(1:Int)<=(if lead<0 then -lead else lead):=by split <;> lia
            generalize (if lead<0 then -lead else lead)=c at ab ab1 hd1 ⊢
            have cb:c.natAbs<2 ^ W2:=by lia
            have hml:=D.kl
            refine ⟨G5 D.mb cb (by lia),⟨_,SqL.of D.eq⟩,λD1 hD1=>bg2 D.eq hD1 (by rw [D.ql];lia) cb D.qb (by lia) λH4 s4 e4=>?_⟩
            refine ⟨⟨_,SqL.of (s4 _ _ D.er)⟩,λD2 hD2=>bg2 (s4 _ _ D.er) hD2 (by lia) cb D.rb ⋯ λH5 s5 e5=>?_⟩
            exact hN _ _ ⟨D1,D2,c,d,_,rfl,s4.trans s5,D.same.free hD1,D.same.free (s4.free hD2),g7 e4 hD2,s5 _ _ e4,e5,hd1,ab1,cb,by lia,λz=>y0 (by lia),λz=>absurd z hnd⟩
          refine B1 (λhp=>fin y ?_ rfl) (λhp=>fin (-y) ?_ (by simp))
          · rw [if_neg (by lia)];exact Int.mul_comm _ _
          · rw [if_pos (by lia),Int.neg_mul,Int.neg_mul,Int.mul_comm]
      rintro σ H4 ⟨lq1,lr1,c,d,o8,rfl,s4,fq1,fr1,nqr1,eq1,er1,hcd,c1,cb,db,d0,cl1⟩
      refine d6 (λσ H5=>σ=[some (.ref a),some (.ref b),some (.int lead),some (.int (many*c)),some (.ref lq1),some (.ref lr1),some (.int d),some (.int (t:Int)),o8,o9,o10]/\c7 H H5/\H5 lq1=some (.lst (((Qz.map (c * ·)).set t d).map V.int))/\H5 lr1=some (.lst ((Rz.map (c * ·)).map V.int))) (λN hN=>?_) ?_
      · subst_eqs
        refine ⟨_,eq1,t,aW4 (by rw [List.length_map,List.length_map];exact htq),hN _ _ ⟨rfl,(D.same.trans s4).over fq1 _,?_,?_⟩⟩
        · rw [c4,List.map_set]
        · rw [g8 nqr1.symm];exact er1
      rintro σ H5 ⟨rfl,s5,eq5,er5⟩
      refine d6 (λσ H6 => ∃ o9 o10,σ=[some (.ref a),some (.ref b),some (.int lead),some (.int (many*c)),some (.ref lq1),some (.ref lr1),some (.int d),some (.int (t:Int)),o8,o9,o10]/\c7 H H6/\H6 lq1=some (.lst (((Qz.map (c * ·)).set t d).map V.int))/\H6 lr1=some (.lst ((w9 0 (Rz.map (c * ·)) t (-d) other other.length).map V.int))) (λN hN=>?_) ?_
      · refine ⟨_,rfl,b,rfl,⟨_,s5.seq hS'⟩,au7 (other.map V.int) (λj σ H6 => ∃ o9 o10,σ=[some (.ref a),some (.ref b),some (.int lead),some (.int (many*c)),some (.ref lq1),some (.ref lr1),some (.int d),some (.int (t:Int)),o8,o9,o10]/\c7 H H6/\H6 lq1=some (.lst (((Qz.map (c * ·)).set t d).map V.int))/\H6 lr1=some (.lst ((w9 0 (Rz.map (c * ·)) t (-d) other j).map V.int))) ⟨_,_,rfl,s5,eq5,er5⟩ (by rintro j σ H6 ⟨_,_,_,s6,_⟩;exact s6.seq hS') ?_ (by rintro σ H6 ⟨o9,o10,rfl,s6,eq6,er6⟩;rw [List.length_map] at er6;exact hN _ _ ⟨o9,o10,rfl,s6,eq6,er6⟩)⟩
        rintro j x σ H6 p hx ⟨o9,o10,rfl,s6,eq6,er6⟩ hp
        obtain ⟨v,hv,rfl⟩:=ad3 hx
        have hj:=(List.getElem?_eq_some_iff.mp hv).1
        have Sp:=c7.new hp (.tup [.int j,.int v])
        have er7:=Sp _ _ er6
        have il:(w9 0 (Rz.map (c * ·)) t (-d) other j).length=Rz.length:=by rw [Z5,List.length_map]
        have hk:t+j<(w9 0 (Rz.map (c * ·)) t (-d) other j).length:=by lia
        have hgk:=List.getElem?_eq_getElem hk
        generalize hz:(w9 0 (Rz.map (c * ·)) t (-d) other j)[t+j]=z at hgk
        have ej:(t:Int)+(j:Int)=((t+j:Nat):Int):=by simp
        have dbw:d.natAbs<2 ^ (W1+kst*(W2+1)):=by lia
        have hks:kst<=S:=by rcases D.ks with z | z <;> lia
        have hkm:=Nat.mul_le_mul_right (W2+1) hks
        subst_eqs
        refine ⟨_,SqT.of c4,rfl,_,_,rfl,_,_,rfl,rfl,_,rfl,_,SqL.of er7,.int z,by rw [ej];exact af6 (by rw [List.getElem?_map,hgk];rfl),v,rfl,G5 dbw (hw2 v (List.mem_of_getElem? hv)) (by lia),z,rfl,_,er7,t+j,by rw [ej];exact aW4 (by rw [List.length_map];exact hk),(s6.trans Sp).over fr1 _,?_,?_⟩
        · rw [g8 nqr1];exact Sp _ _ eq6
        · rw [c4,w9,hv,Option.getD_some,<- am8 _ _ _ _ hgk,List.map_set,Int.neg_mul]
          rfl
      rintro σ H6 ⟨o9,o10,rfl,s6,eq6,er6⟩
      subst_eqs
      obtain ⟨R2,hR2⟩:∃ R2,R2=w9 0 (Rz.map (c * ·)) t (-d) other other.length:=⟨_,rfl⟩
      rw [<- hR2] at er6
      have l2:R2.length=Rz.length:=by rw [hR2,Z5,List.length_map]
      have hRk:∀ k,aZ R2 k=c*aZ Rz k-if t<=k then d*aZ other (k-t) else 0:=λk=>by
        by_cases hk:k<Rz.length
        · have hy1 : (Rz.map (c * ·))[k]? = some (c * aZ Rz k) := by
            rw [List.getElem?_map];unfold aZ
            rw [List.getElem?_eq_getElem hk];rfl
          have:=au4 (Rz.map (c * ·)) t (-d) other _ hy1 other.length
          rw [<- hR2] at this
          conv=>lhs;unfold aZ
          rw [this,Option.getD_some]
          by_cases h1:t<=k
          · rw [if_pos ⟨h1,by lia⟩,if_pos h1,Int.neg_mul];rfl
          · rw [if_neg (λz=>h1 z.1),if_neg h1];simp
        · have e1:aZ R2 k=0:=by unfold aZ;rw [List.getElem?_eq_none (by lia)];rfl
          have e2:aZ Rz k=0:=by unfold aZ;rw [List.getElem?_eq_none (by exact Nat.not_lt.mp ‹_›)];rfl
          have e3:aZ other (k-t)=0:=by unfold aZ;rw [List.getElem?_eq_none (by lia)];rfl
          rw [e1,e2,e3];simp
      have last0:aZ R2 (Rz.length-1)=0:=by
        rw [hRk,if_pos (by lia),show Rz.length-1-t=n by lia,<- hlead]
        have:aZ Rz (Rz.length-1)=y:=by unfold aZ;rw [hy];rfl
        rw [this,hcd];simp
      have hkl:=D.kl
      refine ⟨lr1,R2,rfl,SqL.of er6,by lia,λm r tm hr'=>?_⟩
      have hmlt:m<Rz.length:=by
        rcases Nat.lt_or_ge m Rz.length with z | z
        · exact z
        · have hm:=tm.le
          have hm':m=Rz.length:=by lia
          have hg2:R2[m-1]? = some R2[m-1]:=List.getElem?_eq_getElem ⋯
          refine absurd ?_ (tm.last (by lia) _ hg2)
          unfold aZ at last0
          rw [<- hm',hg2] at last0
          exact last0
      have bits:∀ v ∈ R2,Int.natAbs v<2 ^ (W1+(kst+1)*(W2+1)):=λv hv=>by
        obtain ⟨k,hk⟩:=List.mem_iff_getElem?.mp hv
        have ev:v=aZ R2 k:=by unfold aZ;rw [hk];rfl
        rw [ev,hRk]
        have b1:(c*aZ Rz k).natAbs<2 ^ (W1+kst*(W2+1)+W2):=by
          rw [Int.natAbs_mul,Nat.mul_comm,Nat.pow_add]
          exact Nat.mul_lt_mul'' (ao5 D.rb k) cb
        have b2:(if t<=k then d*aZ other (k-t) else 0).natAbs<2 ^ (W1+kst*(W2+1)+W2):=by
          split
          · rw [Int.natAbs_mul,Nat.pow_add]
            exact Nat.mul_lt_mul'' (by lia) (ao5 hw2 _)
          · exact Nat.two_pow_pos _
        have e:W1+(kst+1)*(W2+1)=W1+kst*(W2+1)+W2+1:=by rw [Nat.succ_mul];lia
        rw [e,Nat.pow_succ]
        lia
      have Sr:=c7.new hr' (.lst ((R2.take m).map V.int))
      have tml:(R2.take m).length=m:=by rw [List.length_take];have:=tm.le;lia
      have bq:∀ v ∈ (Qz.map (c * ·)).set t d,Int.natAbs v<2 ^ (W1+(kst+1)*(W2+1)):=λv hv=>by
        have e:W1+(kst+1)*(W2+1)=W1+kst*(W2+1)+(W2+1):=by rw [Nat.succ_mul];lia
        rcases List.mem_or_eq_of_mem_set hv with h | h
        · obtain ⟨u,hu,rfl⟩:=List.mem_map.mp h
          rw [Int.natAbs_mul,Nat.mul_comm,e,Nat.pow_add]
          exact Nat.mul_lt_mul'' (D.qb u hu) (ab2 cb (by simp))
        · rw [h]
          exact Nat.lt_of_le_of_lt db (ab2 yb (by lia))
      refine WhN.mk ⟨kst+1,lq1,r,many*c,_,R2.take m,_,_,_,_,_,rfl,⟨s6.trans Sr,fq1,s6.free hr',g7 eq6 hr',Sr _ _ eq6,c4,?_,?_,bq,λv hv=>bits v (List.mem_of_mem_take hv),by lia,.inr (by lia),λz=>absurd z (by simp),tm.self,by rw [List.length_set,List.length_map];exact D.ql,λi hi=>?_,λ_ v hv=>?_,?_,λhx=>?_⟩⟩ ?_
      · exact Int.le_trans (show (1:Int)<=1*1 by decide) (Int.mul_le_mul D.m1 c1 (by decide) (by have:=D.m1;lia))
      · rw [Int.natAbs_mul,show (kst+1)*W2+1=(kst*W2+1)+W2 by rw [Nat.succ_mul];lia,Nat.pow_add]
        exact Nat.mul_lt_mul'' D.mb cb
      · rw [tml] at hi
        unfold aZ
        rw [List.getElem?_set,if_neg (by lia),List.getElem?_map]
        have:=D.qz i (by lia)
        unfold aZ at this
        cases g:Qz[i]? with
        | none=>rfl
        | some u =>
          rw [g] at this
          simp only [Option.getD_some] at this
          simp [this]
      · rw [List.length_set,List.length_map,List.getElem?_set] at hv
        by_cases z:t=Qz.length-1
        · rw [if_pos z,if_pos (by rw [List.length_map];omega)] at hv
          cases hv;exact d0
        · rw [if_neg z,List.getElem?_map] at hv
          have hk0:kst ≠ 0:=λw=>by
            have:=D.k0 w
            have:=D.ql
            lia
          cases g:Qz[Qz.length-1]? with
          | none=>rw [g] at hv;cases hv
          | some u =>
            rw [g] at hv
            cases hv
            exact Int.mul_ne_zero (by lia) (D.qlast hk0 u g)
      · refine bv6 D.dv htq (D.qz t (by lia)) λk=>?_
        rw [aY6 tm];exact hRk k
      · have mm:=D.ex hx
        have dv1:=D.dv
        rw [mm] at dv1
        have ey:y=aZ Rz (t+n):=by
          unfold aZ
          rw [show t+n=Rz.length-1 by lia,hy];rfl
        have cc:=cl1 (by rw [hlead,ey];exact bk3 hx dv1 hl2 h0 ht)
        rw [mm,cc];rfl
      · rw [aL8 (r:=r) rfl c4,aL8 (r:=lr) rfl D.er,List.length_map,List.length_map,tml]
        exact hmlt
    · have hlt' : Rz.length ≤ n := by
        have:¬ ((n+1:Nat):Int)<=(Rz.length:Int):=by simpa using hlt
        lia
      have hkS:kst<=S:=by rcases D.ks with z | z <;> lia
      refine hN _ _ ⟨lq,lr,many,Qz,Rz,o6,o7,o8,o9,o10,rfl,D.same,D.fq,D.fr,D.nqr,D.eq,D.er,D.m1,Nat.lt_of_lt_of_le D.mb (c9 (by have:=Nat.mul_le_mul_right W2 hkS;lia)),λv hv=>Nat.lt_of_lt_of_le (D.qb v hv) (c9 (by have:=Nat.mul_le_mul_right (W2+1) hkS;lia)),λv hv=>Nat.lt_of_lt_of_le (D.rb v hv) (c9 (by have:=Nat.mul_le_mul_right (W2+1) hkS;omega)),hlt',D.rt,D.ql,?_,D.dv,D.ex⟩
      refine ⟨Nat.le_refl _,(λi v hi h=>by rw [List.getElem?_eq_none hi] at h;cases h),λhq v hv=>?_⟩
      by_cases z:kst=0
      · have:=D.k0 z
        rw [D.ql] at hq;lia
      · exact D.qlast z v hv
  rintro σ H3 ⟨lq,lr,many,Qz,Rz,o6,o7,o8,o9,o10,rfl,s3,fq,fr,nqr,eq,er,m1,mb,qb,rb,rl,rt,ql,qt,dv,ex⟩
  subst_eqs
  refine ⟨br7,λp hp=>?_⟩
  have Sp:=c7.new hp (.tup [.int many,.ref lq,.ref lr])
  exact k p lq lr many Qz Rz _ (s3.trans Sp) fq fr nqr c4 (Sp _ _ eq) (Sp _ _ er) m1 mb qb rb rl rt ql qt dv ex
def ay5 (K:q0a):Sp:=λvs H Q _ => ∃ (c:Int) (a:Addr) (ws:List Int) (m m2:Nat),vs=[.int c,.ref a]/\SqL K H a (ws.map V.int)/\ws.length<=40/\c.natAbs<2 ^ m2/\(∀ v ∈ ws,z0s v<2 ^ m)/\m+m2<=20000 /\
 ∀ r zs H',c7 H H'->H r=none->H' r=some (.lst (zs.map V.int))->v2 zs zs.length->zs.length<=ws.length->(∀ k,aZ zs k=c*aZ ws k)->Q (.ref r) H'
abbrev G2:Stmt:=top 33
theorem ao7:i7 ["factor","wholes"] ["factor","wholes"] (c6 G2):=by and_intros
theorem ao8 {f f1:Addr} (d:Df K mg "whole_scaled" G2 ["factor","wholes"] f) (G_trimmed:Def P w K mg base CX0 1 "trimmed" f1 ["wholes"] (aD5 K)):Def P w K mg base CX0 2 "whole_scaled" f ["factor","wholes"] (ay5 K):=by
 refine d.ok (N:=["factor","wholes"]) ao7 (by rintro vs H Q E ⟨_,_,_,_,_,h,_⟩;rw [h];rfl) (λcdv A outer s H vs Q E hr h=>?_)
 obtain ⟨c,a,ws,m,m2,rfl,hS,hl,hc,hw,hm,k⟩:=h
 refine ⟨_,(c5 (i8 (d5 G_trimmed hr (a7 (M2 (Nc:=["factor","whole"]) (caps:=[some 0,none]) rfl (Y7.of (osc:=c6 G2) (N:=["factor","wholes"]) (ks:=["factor"]) rfl rfl rfl rfl (C5 rfl D5) (by trivial)) (D6 (pv 1)) (λC s₂ H₂ fp pins=>(i3 (i:=1) (show v0r (["factor","whole"]:List Str) by trivial) rfl (z0d rfl) (u0e rfl))) (λC s₂ H₂ fp pins=>(d7 p8 (pv 0) (pv 1)))) a9) i5))),?_⟩
 rw [show start ["factor","wholes"] [.int c,.ref a]=[some (.int c),some (.ref a)] from rfl]
 subst_eqs
 refine ⟨⟨_,hS⟩,λD hD=>?_⟩
 refine U5 (ws.map V.int) (λi σ H3 => ∃ o,σ=[some (.int c),o]/\c7 H H3/\H3 D=some (.lst (((ws.take i).map (c * ·)).map V.int))) ⟨_,rfl,c7.new hD _,c4⟩ (λi σ H3 _ ⟨_,_,s3,_⟩=>s3.seq hS) ?_ ?_
 ·rintro i y σ H3 hy ⟨o,rfl,s3,e3⟩
  have hi:=(q0g.mp hy).1
  obtain ⟨v,hv,rfl⟩:=ad3 hy
  subst_eqs
  refine ⟨G5 hc (hw v (q0p hv)) (by lia),G0.mk hi e3 ?_ ⟨_,rfl,s3.over hD _,?_⟩⟩
  ·simp only [q0e,j0j]
   exact q0v (show _<=100 by lia) (by decide)
  ·rw [c4,y0y,hv]
   simp
 ·rintro σ H3 ⟨o,rfl,s3,e3⟩
  rw [q0e,y0k] at e3
  refine ⟨D,ws.map (c * ·),rfl,SqL.of e3,by rw [q0e];lia,λn r tn hr'=>?_⟩
  refine k r ((ws.map (c * ·)).take n) _ (s3.trans (c7.new hr' _)) (s3.free hr') c4 tn.self (by rw [j0j,q0e];lia) λk=>?_
  rw [aY6 tn]
  unfold aZ
  rw [q0r]
  cases ws[k]? with
  | none=>simp
  | some v=>simp
theorem bP0 {K:q0a} {l D:Addr} {ws:List Int} {g:Int} {H1:Hp} {Q:VK} (e:H1 l=some (.lst (ws.map V.int))) (hD:H1 D=none) (hl:ws.length<=100) (hg:g ≠ 0) (hb:g.natAbs<2 ^ 6000)
  (k:∀ H2,c7 H1 H2->H2 D=some (.lst ((ws.map λv=>v.fdiv g).map V.int))->Q (.ref D) H2):ak4 (Itl K l) D [some (.int g),none] (upd H1 D (.lst [])) (t8 1) (tOp (rI ao6 λi j=>V.int (i.fdiv j)) (Z6 1) (Z6 0)) Q:=by
 refine U5 (ws.map V.int) (λi σ H3 => ∃ o,σ=[some (.int g),o]/\c7 H1 H3/\H3 D=some (.lst (((ws.take i).map λv=>v.fdiv g).map V.int))) ⟨_,rfl,c7.new hD _,c4⟩ (λi σ H3 _ ⟨_,_,s3,_⟩=>SqL.of (s3 _ _ e)) ?_ ?_
 ·rintro i y σ H3 hy ⟨o,rfl,s3,e3⟩
  have hi:=(q0g.mp hy).1
  obtain ⟨v,hv,rfl⟩:=ad3 hy
  subst_eqs
  refine ⟨ab5 hg (ab2 hb (by decide)),G0.mk hi e3 ?_ ⟨_,rfl,s3.over hD _,?_⟩⟩
  ·simp only [q0e,j0j]
   exact q0v (show _<=100 by lia) (by decide)
  ·rw [c4,y0y,hv]
   simp
 ·rintro σ H3 ⟨o,rfl,s3,e3⟩
  rw [q0e,y0k] at e3
  exact k H3 s3 e3
abbrev Q5:Stmt:=top 37
theorem aw2:i7 ["one","other"] ["one","other"] (c6 Q5):=by and_intros
def WgN (J:Nat->L2.St->Hp->Prop) (m:Nat):L2.St->Hp->Prop:=λσ' H' => ∃ m',m'<m/\J m' σ' H'
def WhG (tb:TS) (D:aa7) (J:Nat->L2.St->Hp->Prop) (m:Nat) (σ:L2.St) (H1:Hp):Prop :=
 ∃ N:L2.St->Hp->Prop,(∀ σ' H',N σ' H'->∃ m',m'<m/\J m' σ' H')/\tb { D with nx:=N,ct:=N,bk:=D.nx } σ H1
theorem WhG.mk {tb:TS} {D:aa7} {J:Nat->L2.St->Hp->Prop} {m:Nat} {σ:L2.St} {H1:Hp} (h:tb { D with nx:=WgN J m,ct:=WgN J m,bk:=D.nx } σ H1):WhG tb D J m σ H1:=⟨_,λ_ _ n=>n,h⟩
theorem WgN.mk {J:Nat->L2.St->Hp->Prop} {m m':Nat} {σ:L2.St} {H:Hp} (l:m'<m) (h:J m' σ H):WgN J m σ H:=⟨_,l,h⟩
theorem aC6 {c:TT} {tb:TS} {D:aa7} {σ:L2.St} {H:Hp} (J:Nat->L2.St->Hp->Prop) (m0:Nat) (h0:J m0 σ H)
  (hs:∀ m σ H,J m σ H->c σ H λb H1=>if b=true then WhG tb D J m σ H1 else D.nx σ H1):ak5 c tb D σ H:=⟨J,⟨_,h0⟩,hs⟩
theorem bm3 {ws:List Int} (t:v2 ws ws.length) (h:ws ≠ []):m5 ws ≠ 0:=λz=>by
 have pos:=j0p.mpr h
 refine W0 t pos ?_
 have hl:ws.length-1<ws.length:=⋯
 have hm:ws[ws.length-1] ∈ ws:=v0u hl
 have:=D3 hm
 rw [z] at this
 unfold aZ
 rw [q0d hl]
 exact Int.zero_dvd.mp this
theorem bu9 {ws:List Int} {m:Nat} (h0:m5 ws ≠ 0) (hb:∀ v ∈ ws,z0s v<2 ^ m):m5 ws<2 ^ m:=by
 obtain ⟨v,hv,v0⟩:∃ v ∈ ws,v ≠ 0:=by
  refine Classical.byContradiction λz=>h0 ?_
  have all:∀ v ∈ ws,v=0:=λv hv=>Classical.byContradiction λh=>z ⟨v,hv,h⟩
  have:0 ∣ m5 ws:=P3 _ 0 (v0v _) λv hv=>by rw [all v hv];exact Int.dvd_zero _
  exact q1n this
 have:=j0t.mpr (D3 hv)
 exact q0v (v0n (by lia) this) (hb v hv)
def aU4 (K:q0a):Sp:=λvs H Q _ => ∃ (a:Addr) (ws:List Int),vs=[.ref a]/\H a=some (.lst (ws.map V.int))/\(∀ v ∈ ws,z0s v<2 ^ 6000)/\ws.length<=40/\v2 ws ws.length /\
 ∀ r zs h H',c7 H H'->H r=none->H' r=some (.lst (zs.map V.int))->zs.length=ws.length->1<=h->(∀ k,aZ ws k=h*aZ zs k)->(ws ≠ []->m5 zs=1)->Q (.ref r) H'
abbrev G3:Stmt:=top 30
theorem aa8:i7 ["wholes","content"] ["wholes"] (c6 G3):=by and_intros
theorem ap2 {f f1:Addr} (d:Df K mg "over_content" G3 ["wholes"] f) (G_content_of:Def P w K mg base CX0 2 "content_of" f1 ["wholes"] (ak7 K)) (n_list:mg "list" = none):Def P w K mg base CX0 3 "over_content" f ["wholes"] (aU4 K):=by
 refine d.ok (N:=["wholes","content"]) aa8 (by rintro vs H Q E ⟨_,_,h,_⟩;rw [h];rfl) (λcdv A outer s H vs Q E hr h=>?_)
 obtain ⟨a,ws,rfl,hS,hb,l40,tz,k⟩:=h
 refine ⟨_,(b9 (d8 (i:=1) aa8.nd rfl (u0e rfl) (d5 G_content_of hr (a7 (pv 0) a9) i5))
   (b9 (B0 (j3 ag5 (pv 1) b7 (j7 _)) (c5 (i8 (K6 M6 rfl n_list (by trivial) (a7 (pv 0) a9)))) p9)
   (c5 (i8 (M2 (Nc:=["content","whole"]) (caps:=[some 1,none]) rfl (Y7.of (osc:=c6 G3) (N:=["wholes","content"]) (ks:=["content"]) rfl rfl rfl rfl (C5 rfl D5) (by trivial)) (D6 (pv 0)) (λC s₂ H₂ fp pins=>(i3 (i:=1) (show v0r (["content","whole"]:List Str) by trivial) rfl (z0d rfl) (u0e rfl))) (λC s₂ H₂ fp pins=>(d7 C8 (pv 1) (pv 0)))))))),?_⟩
 rw [show start ["wholes","content"] [.ref a]=[some (.ref a),none] from rfl]
 subst_eqs
 refine ⟨a,ws,rfl,SqL.of hS,hb,_,rfl,B1 (λh2=>⟨_,.inl (SqL.of hS),λp hp=>?_⟩) (λh2=>⟨⟨_,SqL.of hS⟩,λD hD=>?_⟩)⟩
 ·refine k p ws 1 _ (c7.new hp _) hp c4 rfl (Int.le_refl _) (λk=>by simp) λhw=>?_
  have:=bm3 tz hw
  lia
 ·have g0:m5 ws ≠ 0:=λz=>by rw [z] at h2;exact h2 (by decide)
  have gb:(((m5 ws:Nat)):Int).natAbs<2 ^ 6000:=by rw [q0k];exact bu9 g0 hb
  refine bP0 hS hD (by lia) ⋯ gb λH2 s2 e2=>?_
  have zR:∀ k,aZ ws k=((m5 ws:Nat):Int)*aZ (ws.map λv=>v.fdiv ((m5 ws:Nat):Int)) k:=bm8 g0 λv hv=>D3 hv
  exact k D _ _ H2 s2 hD e2 (q0e _) ⋯ zR λ_=>bb6 rfl g0 (q0e _) zR
def aJ8 (K:q0a):Sp:=λvs H Q _ => ∃ (a:Addr) (ws:List Int),vs=[.ref a]/\SqL K H a (ws.map V.int)/\(∀ v ∈ ws,z0s v<2 ^ 6000)/\ws.length<=40/\v2 ws ws.length /\
 ∀ r zs H',c7 H H'->H r=none->H' r=some (.lst (zs.map V.int))->zs.length=ws.length-1->v2 zs zs.length->(∀ k,aZ zs k=((k+1:Nat):Int)*aZ ws (k+1))->zp zs=dP (zp ws)->Q (.ref r) H'
abbrev J4:Stmt:=top 34
theorem ar6:i7 ["wholes"] ["wholes"] (c6 J4):=by and_intros
theorem as9 {f:Addr} (d:Df K mg "whole_slope" J4 ["wholes"] f) (n_len:mg "len" = none) (n_range:mg "range" = none):Def P w K mg base CX0 1 "whole_slope" f ["wholes"] (aJ8 K):=by
 refine d.ok (N:=["wholes"]) ar6 (by rintro vs H Q E ⟨_,_,h,_⟩;rw [h];rfl) (λcdv A outer s H vs Q E hr h=>?_)
 obtain ⟨a,ws,rfl,hS,hb,l40,tz,k⟩:=h
 refine ⟨_,(c5 (i8 (M2 (Nc:=["wholes","place"]) (caps:=[some 0,none]) rfl (Y7.of (osc:=c6 J4) (N:=["wholes"]) (ks:=["wholes"]) rfl rfl rfl rfl (C5 rfl D5) (by trivial)) (aA1 rfl n_range (a7 b7 (a7 (d9 j5 rfl n_len (by trivial) (a7 (pv 0) a9)) a9))) (λC s₂ H₂ fp pins=>(i3 (i:=1) (show v0r (["wholes","place"]:List Str) by trivial) rfl (z0d rfl) (u0e rfl))) (λC s₂ H₂ fp pins=>(d7 p8 (pv 1) (j4 (by exact v1:IxR _ (aE4 K)) (pv 0) (pv 1) (λ_ _=>rfl))))))),?_⟩
 rw [show start ["wholes"] [.ref a]=[some (.ref a)] from rfl]
 subst_eqs
 refine ⟨_,.inl hS,by simp,⋯,by rw [q0e];simp,by rw [q0e];omega,λD hD=>?_⟩
 have ln:((((ws.map V.int).length:Nat):Int)-1).toNat=ws.length-1:=by rw [q0e];simp
 rw [ln]
 obtain ⟨zs,hzs⟩:∃ zs:List Int,zs=(y0f (ws.length-1)).map λi=>((i+1:Nat):Int)*aZ ws (i+1):=⟨_,rfl⟩
 have lz:zs.length=ws.length-1:=by rw [hzs,q0e,m0u]
 have gz:∀ j,j<ws.length-1->zs[j]? = some (((j+1:Nat):Int)*aZ ws (j+1)):=λj hj=>by rw [hzs,q0r,List.getElem?_range hj];rfl
 have az:∀ j,aZ zs j=((j+1:Nat):Int)*aZ ws (j+1):=λj=>by
  unfold aZ
  rcases y0v j (ws.length-1) with y | y
  ·rw [gz j y];rfl
  ·rw [z0m (by lia),z0m ⋯]
   show (0:Int)=_*0
   simp
 refine bo3 (λj σ H2 => ∃ o,σ=[some (.ref a),o]/\c7 H H2/\H2 D=some (.lst ((zs.take j).map V.int))) ⟨_,rfl,c7.new hD _,c4⟩ ?_ ?_
 ·rintro j σ H2 hj ⟨o,rfl,s2,e2⟩
  subst_eqs
  have hl:j+1<ws.length:=⋯
  have ew:(ws.map V.int)[j+1]? = some (.int (aZ ws (j+1))):=by
   rw [q0r,q0d hl]
   unfold aZ
   rw [q0d hl];rfl
  rw [show (1:Int)+(j:Int)=((j+1:Nat):Int) by lia]
  have bw:=ao5 hb (j+1)
  refine ⟨_,s2.seq hS,_,af6 ew,_,rfl,G5 (m:=10) (n:=6000) (by rw [q0k];lia) bw (by decide),?_⟩
  refine G0.mk hj e2 (N6 (by rw [q0e,j0j];omega)) ⟨_,rfl,s2.over hD _,?_⟩
  rw [c4,Y2 (gz j ⋯),j0m];rfl
 ·rintro σ H2 ⟨o,rfl,s2,e2⟩
  rw [List.take_of_length_le ⋯] at e2
  refine k D zs H2 s2 hD e2 lz ⟨q0q _,λi v hi e=>?_,λhn v e=>?_⟩ az (Pf.ext λj=>?_)
  ·have:=(q0g.mp e).1;omega
  ·have lp:0<zs.length:=by lia
   rw [gz _ ⋯] at e
   cases e
   have lead:=W0 tz ⋯
   rw [show zs.length-1+1=ws.length-1 by lia]
   exact v0b ⋯ lead
  ·show zc zs j=((j+1:Nat):Rat)*zc ws (j+1)
   unfold zc
   rw [az,q0n];rfl
theorem aA0 {b:Int} {m k:Nat} (h:b.natAbs<2 ^ m):(b ^ k).natAbs<2 ^ (m*k+1):=by
 rw [Int.natAbs_pow]
 have:b.natAbs ^ k<=(2 ^ m) ^ k:=u0r (y0p h) k
 rw [<- g0k] at this
 exact q0v this (z1m (by decide) (by simp))
def hw (t b:Int):List Int->Int
 | []=>0
 | v :: S=>hw t b S*t+v*b ^ S.length
theorem bz2 {t b:Int} {W c:Nat} (ht:t.natAbs<2 ^ c) (hb:b.natAbs<2 ^ c):∀ S:List Int,(∀ v ∈ S,z0s v<2 ^ W)->(hw t b S).natAbs<2 ^ (W+c*S.length+S.length)
 | [],_=>by simp only [hw,q1t];exact y0g _
 | v :: S,h=>by
  have ih:=bz2 ht hb S λv hv=>h v (q0b _ hv)
  have hv:=h v q0c
  have h1:(hw t b S*t).natAbs<2 ^ (W+c*S.length+S.length+c):=by
   rw [z0f,y0e]
   exact j0w ih ht
  have h2:(v*b ^ S.length).natAbs<2 ^ (W+c*S.length):=by
   rw [z0f,Int.natAbs_pow,y0e,g0k]
   refine u0m hv (u0r (y0p hb) _) ?_
   exact u0p (y0g _)
  have h3:2 ^ (W+c*S.length)<=2 ^ (W+c*S.length+S.length+c):=c9 (by lia)
  have e:W+c*(v :: S).length+(v :: S).length=W+c*S.length+S.length+c+1:=by rw [z0t,Nat.mul_succ];lia
  rw [e,v0j,hw]
  lia
theorem bl8 {t b:Int} (hb:b ≠ 0):∀ S:List Int,(hw t b S:Rat)=evQ ((t:Rat) / b) (S.map λv:Int=>(v:Rat))*((b:Rat) ^ S.length / b)
 | []=>by simp only [hw,z1z,evQ,Rat.zero_mul];rfl
 | v :: S=>by
  have hb':(b:Rat) ≠ 0:=λz=>hb (by exact_mod_cast z)
  have ih:=bl8 (t:=t) hb S
  have e1:(b:Rat)*(b:Rat)⁻¹=1:=z0n _ hb'
  simp only [hw,z0w,evQ,z0t]
  rw [g0w,q0n,ih,q0n,Rat.intCast_pow,q1e,y0j,y0j,y0j]
  generalize (b:Rat) ^ S.length=B
  generalize evQ _ _=Z
  generalize (b:Rat)⁻¹=c at *
  generalize (b:Rat)=b' at *
  grind
def bC0 (K:q0a):Sp:=λvs H Q _ => ∃ (a:Addr) (ws:List Int) (t b:Int) (W c:Nat),vs=[.ref a,.int t,.int b]/\SqL K H a (ws.map V.int)/\(∀ v ∈ ws,z0s v<2 ^ W)/\t.natAbs<2 ^ c/\b.natAbs<2 ^ c/\W+c*ws.length+ws.length<=100000/\c<=6000/\Q (.int (hw t b ws)) H
abbrev O2:Stmt:=top 35
theorem C6:i7 ["wholes","top","bottom","total","power","whole"] ["wholes","top","bottom"] (c6 O2):=by and_intros
theorem as8 {f:Addr} (d:Df K mg "whole_worth" O2 ["wholes","top","bottom"] f) (n_reversed:mg "reversed" = none):Def P w K mg base CX0 1 "whole_worth" f ["wholes","top","bottom"] (bC0 K):=by
 refine d.ok (N:=["wholes","top","bottom","total","power","whole"]) C6 (by rintro vs H Q E ⟨a,b,m,_,_,_,h,_⟩;rw [h];rfl) (λcdv A outer s H vs Q E hr h=>?_)
 obtain ⟨a,ws,t,b,W,c,rfl,hS,hw1,ht,hb,hW,hc,k⟩:=h
 refine ⟨_,(b9 (d8 (i:=3) C6.nd rfl (z0d rfl) b7)
   (b9 (d8 (i:=4) C6.nd rfl (z0d rfl) b7)
   (b9 (K3 PassesOwn.never rfl (bi0 rfl n_reversed (a7 (pv 0) a9)) (i3 (i:=5) C6.nd rfl (z0d rfl)) (b9 (d8 (i:=3) C6.nd rfl (z0d rfl) (d7 C9 (d7 p8 (pv 3) (pv 1)) (d7 p8 (pv 5) (pv 4))))
   (c5 (as0 (i:=4) C6.nd rfl (z0d rfl) (pv 2) bl1))))
   (c5 (i8 (pv 3)))))),?_⟩
 rw [show start ["wholes","top","bottom","total","power","whole"] [.ref a,.int t,.int b]=[some (.ref a),some (.int t),some (.int b),none,none,none] from rfl]
 subst_eqs
 refine ⟨_,rfl,a,_,rfl,hS,aW9 (xs:=ws.map V.int) (λi σ H1=>H1=H/\∃ o,σ=[some (.ref a),some (.int t),some (.int b),some (.int (hw t b (ws.drop (ws.length-i)))),some (.int (b ^ i)),o]) ⟨rfl,_,by rw [u0w,List.drop_length,Int.pow_zero];rfl⟩ (by rintro i σ H1 _ ⟨rfl,_⟩;exact hS) ?_ ?_⟩
 ·rintro i x σ H1 hi hx ⟨rfl,o,rfl⟩
  obtain ⟨v,hv,rfl⟩:=ad3 hx
  rw [q0e] at hi hv
  have e1:ws.drop (ws.length-(i+1))=v :: ws.drop (ws.length-i):=by
   have h1:ws.length-(i+1)<ws.length:=by lia
   rw [m0y h1,show ws.length-(i+1)+1=ws.length-i by lia]
   congr 1
   have hv':ws[ws.length-(i+1)]? = some v:=by rw [show ws.length-(i+1)=ws.length-1-i by lia];exact hv
   exact (q0g.mp hv').2
  have l1:(ws.drop (ws.length-i)).length=i:=by rw [q1a];lia
  have b1:=bz2 (W:=W) ht hb (ws.drop (ws.length-i)) λu hu=>hw1 u (z1n hu)
  rw [l1] at b1
  have hci:c*i<=c*ws.length:=y0m _ (by exact Nat.le_of_lt ‹_›)
  subst_eqs
  refine ⟨G5 b1 ht (by lia),G5 (hw1 v (q0p hv)) (aA0 hb) (by lia),G5 (aA0 hb) hb (by lia),?_⟩
  rw [e1,hw,l1,q1f]
  exact ⟨rfl,rfl,_,rfl⟩
 ·rintro σ H1 ⟨rfl,o,rfl⟩
  rw [q0e,u0x,List.drop_zero]
  subst_eqs
  exact k
def bnd (B:Mt) (k i j:Nat):Mt:=λr c=>B (if r=k then i else r) (if c=k then j else c)
def mi (B:Mt) (k i j:Nat):Rat:=dt (k+1) (bnd B k i j)
inductive RwZ (H:Hp):List Addr->List (List Int)->Prop where
 | nil:RwZ H [] []
 | cons {p:Addr} {ps:List Addr} {L:List Int} {Ls:List (List Int)} (h:H p=some (.lst (L.map V.int))) (t:RwZ H ps Ls):RwZ H (p :: ps) (L :: Ls)
theorem RwZ.length {H:Hp}:∀ {ts:List Addr} {M:List (List Int)},RwZ H ts M->ts.length=M.length
 | _,_,.nil=>rfl
 | _,_,.cons _ t=>congrArg (· + 1) t.length
theorem RwZ.same {H H':Hp} (s:c7 H H'):∀ {ts:List Addr} {M:List (List Int)},RwZ H ts M->RwZ H' ts M
 | _,_,.nil=>.nil
 | _,_,.cons h t=>.cons (s _ _ h) (t.same s)
theorem RwZ.get {H:Hp}:∀ {ts:List Addr} {M:List (List Int)} {i:Nat} {p:Addr},RwZ H ts M->ts[i]? = some p->∃ L,M[i]? = some L/\H p=some (.lst (L.map V.int))
 | _,_,_,_,.nil,e=>by simp at e
 | _,_,0,_,.cons h _,e=>by cases e;exact ⟨_,rfl,h⟩
 | _,_,i+1,_,.cons _ t,e=>t.get (i:=i) (by simpa using e)
theorem RwZ.append {H:Hp}:∀ {ts us:List Addr} {M N:List (List Int)},RwZ H ts M->RwZ H us N->RwZ H (ts ++ us) (M ++ N)
 | _,_,_,_,.nil,h=>h
 | _,_,_,_,.cons h t,k=>.cons h (t.append k)
theorem RwZ.over {H:Hp} {l:Addr} {o:HO}:∀ {ts:List Addr} {M:List (List Int)},l ∉ ts->RwZ H ts M->RwZ (upd H l o) ts M
 | _,_,_,.nil=>.nil
 | _,_,n,.cons h t=>.cons (by rw [g8 (λz=>n (by rw [<- z];exact q0c))];exact h) (t.over λz=>n (q0b _ z))
def zz (M:List (List Int)) (i j:Nat):Int:=aZ ((M[i]?).getD []) j
structure Eb (n:Nat) (A B:Mt) (at':Nat) (M:List (List Int)) (dv:Int):Prop where
 len:M.length=n
 row:∀ L ∈ M,L.length=n
 ent:∀ i j,at'<=i->i<n->at'<=j->j<n->((zz M i j:Int):Rat)=mi B at' i j
 zer:∀ i j,at'<=i->i<n->j<at'->zz M i j=0
 int:∀ r c,IsI (B r c)
 det:dt n B=dt n A
 led:∀ m,1<=m->m<=at'->dt m B ≠ 0
 div:((dv:Int):Rat)=dt at' B
def sgI (i:Int):Int:=if 0<i then 1 else if i<0 then -1 else 0
theorem bC3 (i:Int):(sgI i).natAbs<2 ^ 5000:=by
 refine q0f (show _<2 ^ 1 from ?_) (c9 (by decide))
 unfold sgI
 split
 ·decide
 ·split <;> decide
def aU3:Sp:=λvs H Q _ => ∃ i:Int,vs=[.int i]/\Q (.int (sgI i)) H
abbrev K0:Stmt:=top 26
theorem ak8:i7 ["whole"] ["whole"] (c6 K0):=by and_intros
theorem al3 {f:Addr} (d:Df K mg "sign_of_whole" K0 ["whole"] f):Def P w K mg base CX0 1 "sign_of_whole" f ["whole"] aU3:=by
 refine d.ok (N:=["whole"]) ak8 (λvs H Q E ⟨i,h,_⟩=>by rw [h];rfl) (λcdv A outer s H vs Q E hr h=>?_)
 obtain ⟨i,rfl,k⟩:=h
 refine ⟨_,(b9 (B0 (j3 ag6 (pv 0) b7 (j7 _)) (c5 (i8 b7)) p9)
   (c5 (i8 (as2 (j3 ag5 (pv 0) b7 (j7 _)) (G4 B6 b7) b7)))),?_⟩
 rw [show start ["whole"] [.int i]=[some (.int i)] from rfl]
 subst_eqs
 unfold sgI at k
 split
 ·rename_i h;rw [if_pos h] at k;exact k
 ·rename_i h;rw [if_neg h] at k
  split
  ·rename_i h2;rw [if_pos h2] at k;exact k
  ·rename_i h2;rw [if_neg h2] at k;exact k
def aJ9 (K:q0a):Sp:=λvs H Q _ => ∃ (a:Addr) (ws:List Int) (t b:Int) (W c:Nat),vs=[.ref a,.int t,.int b]/\SqL K H a (ws.map V.int)/\(∀ v ∈ ws,z0s v<2 ^ W)/\t.natAbs<2 ^ c/\b.natAbs<2 ^ c/\W+c*ws.length+ws.length<=100000/\c<=6000/\Q (.int (sgI (hw t b ws))) H
abbrev ae7:Stmt:=top 40
theorem aP3:i7 ["wholes","top","bottom"] ["wholes","top","bottom"] (c6 ae7):=by and_intros
theorem aQ4 {f f1 f2:Addr} (d:Df K mg "sign_at" ae7 ["wholes","top","bottom"] f) (G_sign_of_whole:Def P w K mg base CX0 1 "sign_of_whole" f1 ["whole"] aU3) (G_whole_worth:Def P w K mg base CX0 1 "whole_worth" f2 ["wholes","top","bottom"] (bC0 K)):Def P w K mg base CX0 2 "sign_at" f ["wholes","top","bottom"] (aJ9 K):=by
 refine d.ok (N:=["wholes","top","bottom"]) aP3 (by rintro vs H Q E ⟨_,_,_,_,_,_,h,_⟩;rw [h];rfl) (λcdv A outer s H vs Q E hr h=>?_)
 obtain ⟨a,ws,t,b,W,c,rfl,hS,h1,h2,h3,h4,h5,k⟩:=h
 refine ⟨_,(c5 (i8 (d5 G_sign_of_whole hr (a7 (d5 G_whole_worth hr (a7 (pv 0) (a7 (pv 1) (a7 (pv 2) a9))) i5) a9) i5))),?_⟩
 rw [show start ["wholes","top","bottom"] [.ref a,.int t,.int b]=[some (.ref a),some (.int t),some (.int b)] from rfl]
 subst_eqs
 exact ⟨a,ws,t,b,W,c,rfl,hS,h1,h2,h3,h4,h5,_,rfl,k⟩
structure ChR (K:q0a) (H:Hp) (a:Addr) (rs:List Addr) (Ts:List (List Int)):Prop where
 at':SqL K H a (rs.map V.ref)
 rw':RwZ H rs Ts
 ok:∀ T ∈ Ts,T ≠ []/\T.length<=11/\∀ v ∈ T,z0s v<2 ^ 5000
 ln:Ts.length<=11
theorem ChR.same {K:q0a} {H H':Hp} {a:Addr} {rs:List Addr} {Ts:List (List Int)} (h:ChR K H a rs Ts) (s:c7 H H'):ChR K H' a rs Ts:=⟨s.seq h.at',h.rw'.same s,h.ok,h.ln⟩
theorem al9 {Ts:List (List Int)} {g:List Int->Int} {i:Nat} {T:List Int} (h:Ts[i]? = some T):(((Ts.take (i+1)).map g).map V.int)=((Ts.take i).map g).map V.int ++ [.int (g T)]:=by
 rw [Y2 h,j0m,j0m];rfl
def bf9 (K:q0a):Sp:=λvs H Q _ => ∃ (a:Addr) (rs:List Addr) (Ts:List (List Int)) (t b:Int) (c:Nat),vs=[.ref a,.int t,.int b]/\ChR K H a rs Ts/\t.natAbs<2 ^ c/\b.natAbs<2 ^ c/\c<=6000/\∀ H',c7 H H'->Q (.int (L4 0 (Ts.map λT=>sgI (hw t b T)):Nat)) H'
abbrev M0:Stmt:=top 42
theorem aw3:i7 ["chain","top","bottom"] ["chain","top","bottom"] (c6 M0):=by and_intros
theorem aw9 {f f1 f2:Addr} (d:Df K mg "changes_at" M0 ["chain","top","bottom"] f) (G_changes_of:Def P w K mg base CX0 1 "changes_of" f1 ["signs"] (aU7 K)) (G_sign_at:Def P w K mg base CX0 2 "sign_at" f2 ["wholes","top","bottom"] (aJ9 K)):Def P w K mg base CX0 3 "changes_at" f ["chain","top","bottom"] (bf9 K):=by
 refine d.ok (N:=["chain","top","bottom"]) aw3 (by rintro vs H Q E ⟨_,_,_,_,_,_,h,_⟩;rw [h];rfl) (λcdv A outer s H vs Q E hr h=>?_)
 obtain ⟨a,rs,Ts,t,b,c,rfl,R,ht,hb,hc,k⟩:=h
 have hu:=hr.units
 refine ⟨_,(c5 (i8 (d5 G_changes_of hr (a7 (M2 (Nc:=["top","bottom","wholes"]) (caps:=[some 1,some 2,none]) rfl (Y7.of (osc:=c6 M0) (N:=["chain","top","bottom"]) (ks:=["top","bottom"]) rfl rfl rfl rfl (C5 rfl (C5 rfl D5)) (by trivial)) (D6 (pv 0)) (λC s₂ H₂ fp pins=>(i3 (i:=2) (show v0r (["top","bottom","wholes"]:List Str) by trivial) rfl (z0d rfl) (u0e rfl))) (λC s₂ H₂ fp pins=>(d5 G_sign_at hr (a7 (pv 2) (a7 (pv 0) (a7 (pv 1) a9))) i5))) a9) i5))),?_⟩
 rw [show start ["chain","top","bottom"] [.ref a,.int t,.int b]=[some (.ref a),some (.int t),some (.int b)] from rfl]
 subst_eqs
 have lr:=R.rw'.length
 refine ⟨⟨_,R.at'⟩,λD hD=>?_⟩
 refine U5 (rs.map V.ref) (λi σ H2 => ∃ o,σ=[some (.int t),some (.int b),o]/\c7 H H2/\H2 D=some (.lst (((Ts.take i).map λT=>sgI (hw t b T)).map V.int))) ⟨_,rfl,c7.new hD _,c4⟩ (λi σ H2 _ ⟨_,_,s2,_⟩=>s2.seq R.at') ?_ ?_
 ·rintro i x σ H2 hx ⟨o,rfl,s2,e2⟩
  have hi:=(q0g.mp hx).1
  rw [q0r] at hx
  cases hp:rs[i]? with
  | none=>rw [hp] at hx;cases hx
  | some p =>
   rw [hp] at hx
   cases hx
   obtain ⟨T,hT,eT⟩:=R.rw'.get hp
   obtain ⟨_,l11,bT⟩:=R.ok T (q0p hT)
   subst_eqs
   have m1:c*T.length<=6000*11:=j0f hc l11
   refine ⟨p,T,t,b,5000,c,rfl,SqL.of (s2 _ _ eT),bT,ht,hb,by lia,hc,?_⟩
   have ln:=R.ln
   refine G0.mk hi e2 (N6 (by rw [q0e,q0e,j0j];lia)) ⟨_,rfl,s2.over hD _,?_⟩
   rw [c4,al9 hT]
 ·rintro σ H2 ⟨o,rfl,s2,e2⟩
  rw [q0e,lr,y0k] at e2
  refine ⟨D,_,rfl,SqL.of e2,λv hv=>?_,?_,k H2 s2⟩
  ·obtain ⟨T,_,rfl⟩:=q0w.mp hv
   exact bC3 _
  ·rw [q0e]
   have:=R.ln
   lia
theorem aG8 {T:List Int} (h:T ≠ []):atI (T.map V.int) (-1)=some (.int (ldA T)):=by
 have pos:=j0p.mpr h
 refine au2 ?_
 rw [q0e,q0r,q0d ⋯]
 unfold ldA aZ
 rw [q0d ⋯];rfl
theorem bk5 {T:List Int} {m:Nat} (h:∀ v ∈ T,z0s v<2 ^ m):(ldA T).natAbs<2 ^ m:=ao5 h _
def ap7 (K:q0a) (g:List Int->Int):Sp:=λvs H Q _ => ∃ (a:Addr) (rs:List Addr) (Ts:List (List Int)),vs=[.ref a]/\ChR K H a rs Ts/\∀ H',c7 H H'->Q (.int (L4 0 (Ts.map g):Nat)) H'
abbrev B4:Stmt:=top 44
theorem ac2:i7 ["chain"] ["chain"] (c6 B4):=by and_intros
theorem ac8 {f f1:Addr} (d:Df K mg "changes_above_all" B4 ["chain"] f) (G_changes_of:Def P w K mg base CX0 1 "changes_of" f1 ["signs"] (aU7 K)):Def P w K mg base CX0 2 "changes_above_all" f ["chain"] (ap7 K ldA):=by
 refine d.ok (N:=["chain"]) ac2 (by rintro vs H Q E ⟨_,_,_,h,_⟩;rw [h];rfl) (λcdv A outer s H vs Q E hr h=>?_)
 obtain ⟨a,rs,Ts,rfl,R,k⟩:=h
 have hu:=hr.units
 refine ⟨_,(c5 (i8 (d5 G_changes_of hr (a7 (M2 (Nc:=["wholes"]) (caps:=[none]) rfl (Y7.of (osc:=c6 B4) (N:=["chain"]) (ks:=[]) rfl rfl rfl rfl D5 (by trivial)) (D6 (pv 0)) (λC s₂ H₂ fp pins=>(i3 (i:=0) (show v0r (["wholes"]:List Str) by trivial) rfl (z0d rfl) (u0e rfl))) (λC s₂ H₂ fp pins=>(j4 (by exact v1:IxR _ (aE4 K)) (pv 0) (G4 B6 b7) (λ_ _=>rfl)))) a9) i5))),?_⟩
 rw [show start ["chain"] [.ref a]=[some (.ref a)] from rfl]
 subst_eqs
 have lr:=R.rw'.length
 refine ⟨⟨_,R.at'⟩,λD hD=>?_⟩
 refine U5 (rs.map V.ref) (λi σ H2 => ∃ o,σ=[o]/\c7 H H2/\H2 D=some (.lst (((Ts.take i).map ldA).map V.int))) ⟨_,rfl,c7.new hD _,c4⟩ (λi σ H2 _ ⟨_,_,s2,_⟩=>s2.seq R.at') ?_ ?_
 ·rintro i x σ H2 hx ⟨o,rfl,s2,e2⟩
  have hi:=(q0g.mp hx).1
  rw [q0r] at hx
  cases hp:rs[i]? with
  | none=>rw [hp] at hx;cases hx
  | some p =>
   rw [hp] at hx
   cases hx
   obtain ⟨T,hT,eT⟩:=R.rw'.get hp
   obtain ⟨n0,l11,bT⟩:=R.ok T (q0p hT)
   subst_eqs
   refine ⟨_,SqL.of (s2 _ _ eT),_,aG8 n0,?_⟩
   have ln:=R.ln
   refine G0.mk hi e2 (N6 (by rw [q0e,q0e,j0j];lia)) ⟨_,rfl,s2.over hD _,?_⟩
   rw [c4,al9 hT]
 ·rintro σ H2 ⟨o,rfl,s2,e2⟩
  rw [q0e,lr,y0k] at e2
  refine ⟨D,_,rfl,SqL.of e2,λv hv=>?_,?_,k H2 s2⟩
  ·obtain ⟨T,hT,rfl⟩:=q0w.mp hv
   exact bk5 (R.ok T hT).2.2
  ·rw [q0e]
   have:=R.ln
   lia
abbrev B3:Stmt:=top 43
theorem ac1:i7 ["chain"] ["chain"] (c6 B3):=by and_intros
theorem ac7 {f f1:Addr} (d:Df K mg "changes_below_all" B3 ["chain"] f) (G_changes_of:Def P w K mg base CX0 1 "changes_of" f1 ["signs"] (aU7 K)) (n_len:mg "len" = none):Def P w K mg base CX0 2 "changes_below_all" f ["chain"] (ap7 K ldB):=by
 refine d.ok (N:=["chain"]) ac1 (by rintro vs H Q E ⟨_,_,_,h,_⟩;rw [h];rfl) (λcdv A outer s H vs Q E hr h=>?_)
 obtain ⟨a,rs,Ts,rfl,R,k⟩:=h
 have hu:=hr.units
 refine ⟨_,(c5 (i8 (d5 G_changes_of hr (a7 (M2 (Nc:=["wholes"]) (caps:=[none]) rfl (Y7.of (osc:=c6 B3) (N:=["chain"]) (ks:=[]) rfl rfl rfl rfl D5 (by trivial)) (D6 (pv 0)) (λC s₂ H₂ fp pins=>(i3 (i:=0) (show v0r (["wholes"]:List Str) by trivial) rfl (z0d rfl) (u0e rfl))) (λC s₂ H₂ fp pins=>(as2 (j3 Z4 (d7 bE5 (d9 (by exact j5:ae3 _ (.builtin "len") (bC9 K)) rfl n_len (by trivial) (a7 (pv 0) a9)) b7) b7 (j7 _)) (G4 B6 (j4 (by exact v1:IxR _ (aE4 K)) (pv 0) (G4 B6 b7) (λ_ _=>rfl))) (j4 (by exact v1:IxR _ (aE4 K)) (pv 0) (G4 B6 b7) (λ_ _=>rfl))))) a9) i5))),?_⟩
 rw [show start ["chain"] [.ref a]=[some (.ref a)] from rfl]
 subst_eqs
 have lr:=R.rw'.length
 refine ⟨⟨_,R.at'⟩,λD hD=>?_⟩
 refine U5 (rs.map V.ref) (λi σ H2 => ∃ o,σ=[o]/\c7 H H2/\H2 D=some (.lst (((Ts.take i).map ldB).map V.int))) ⟨_,rfl,c7.new hD _,c4⟩ (λi σ H2 _ ⟨_,_,s2,_⟩=>s2.seq R.at') ?_ ?_
 ·rintro i x σ H2 hx ⟨o,rfl,s2,e2⟩
  have hi:=(q0g.mp hx).1
  rw [q0r] at hx
  cases hp:rs[i]? with
  | none=>rw [hp] at hx;cases hx
  | some p =>
   rw [hp] at hx
   cases hx
   obtain ⟨T,hT,eT⟩:=R.rw'.get hp
   obtain ⟨n0,l11,bT⟩:=R.ok T (q0p hT)
   subst_eqs
   have ln:=R.ln
   have e1:Builtin.bitAnd (T.length:Int) 1=((T.length % 2:Nat):Int):=by
    clear bT eT hT
    generalize T.length=n at l11
    have:n=0 \/ n=1 \/ n=2 \/ n=3 \/ n=4 \/ n=5 \/ n=6 \/ n=7 \/ n=8 \/ n=9 \/ n=10 \/ n=11:=by lia
    rcases this with rfl | rfl | rfl | rfl | rfl | rfl | rfl | rfl | rfl | rfl | rfl | rfl <;> trivial
   refine ⟨_,.inl (SqL.of (s2 _ _ eT)),rfl,?_⟩
   rw [q0e,e1]
   have fin:∀ v,v=ldB T->G0 D (List.map V.ref rs).length (λi σ H2 => ∃ o,σ=[o]/\c7 H H2/\H2 D=some (HO.lst (List.map V.int (List.map ldB (List.take i Ts))))) i [some (V.ref p)] (V.int v) H2:=λv hv=>by
    refine G0.mk hi e2 (N6 (by rw [q0e,q0e,j0j];lia)) ⟨_,rfl,s2.over hD _,?_⟩
    rw [c4,al9 hT,hv]
   refine B1 (λh=>?_) (λh=>?_)
   ·exact ⟨_,SqL.of (s2 _ _ eT),_,aG8 n0,_,rfl,fin _ (by unfold ldB;rw [if_pos (by lia)])⟩
   ·exact ⟨_,SqL.of (s2 _ _ eT),_,aG8 n0,fin _ (by unfold ldB;rw [if_neg (by lia)])⟩
 ·rintro σ H2 ⟨o,rfl,s2,e2⟩
  rw [q0e,lr,y0k] at e2
  refine ⟨D,_,rfl,SqL.of e2,λv hv=>?_,?_,k H2 s2⟩
  ·obtain ⟨T,hT,rfl⟩:=q0w.mp hv
   have:=bk5 (R.ok T hT).2.2
   unfold ldB
   split
   ·rw [y0z];exact this
   ·exact this
  ·rw [q0e]
   have:=R.ln
   omega
theorem bw4 {x d:Nat} (h:x+d<=8):90*(2*x+1)+(d+1)*(90*(2*x+1)+1)<=5000:=by
 have h1:x=0 \/ x=1 \/ x=2 \/ x=3 \/ x=4 \/ x=5 \/ x=6 \/ x=7 \/ x=8:=by lia
 rcases h1 with rfl | rfl | rfl | rfl | rfl | rfl | rfl | rfl | rfl <;> lia
theorem br0 {s:Rat} {qs:List Rat} {ws:List Int} (e:qs=scl s ws) (t:U7 qs qs.length):v2 ws ws.length:=by
 refine ⟨q0q _,(λi v hi h=>by rw [z0m hi] at h;cases h),λhn v h z=>?_⟩
 subst e
 rw [aq0] at t
 refine t.last hn _ (show (scl s ws)[ws.length-1]? = some (s*(v:Rat)) by unfold scl;rw [q0r,h];rfl) ?_
 rw [z,z0k];grind
def aJ7 (K:q0a):Sp:=λvs H Q _ => ∃ (a b:Addr) (one other:List Int) (n S W1 W2:Nat),vs=[.ref a,.ref b]/\SqL K H a (one.map V.int)/\SqL K H b (other.map V.int)/\one.length<=30/\other.length=n+1/\n<=30/\aZ other n ≠ 0/\v2 one one.length/\one.length<=n+S/\(∀ v ∈ one,z0s v<2 ^ W1)/\(∀ v ∈ other,z0s v<2 ^ W2)/\W1+S*(W2+1)<=5000/\W2<=5000/\ExZ one other /\
 ∀ lq Qz H',c7 H H'->H lq=none->H' lq=some (.lst (Qz.map V.int))->Qz.length=one.length-n->v2 Qz Qz.length->zp one=zp Qz*zp other->(∀ v ∈ Qz,z0s v<2 ^ 5000)->Q (.ref lq) H'
theorem at3 {f f1:Addr} (d:Df K mg "whole_over" Q5 ["one","other"] f) (GD_whole_divided:Def P w K mg base CX0 2 "whole_divided" f1 ["one","other"] (bf4 K)):Def P w K mg base CX0 3 "whole_over" f ["one","other"] (aJ7 K):=by
 have G_whole_divided:=GD_whole_divided
 refine d.ok (N:=["one","other"]) aw2 (by rintro vs H Q E ⟨_,_,_,_,_,_,_,_,h,_⟩;rw [h];rfl) (λcdv A outer s H vs Q E hr h=>?_)
 obtain ⟨a,b,one,other,n,S,W1,W2,rfl,hS,hS',hl1,hl2,hn,h0,ht1,hS1,hw1,hw2,hT,hT2,hx,k⟩:=h
 refine ⟨_,(c5 (i8 (j4 m6 (d5 G_whole_divided hr (a7 (pv 0) (a7 (pv 1) a9)) i5) b7 (λ_ _=>rfl)))),?_⟩
 rw [show start ["one","other"] [.ref a,.ref b]=[some (.ref a),some (.ref b)] from rfl]
 subst_eqs
 refine ⟨a,b,one,other,n,S,W1,W2,rfl,hS,hS',hl1,hl2,hn,h0,ht1,hS1,hw1,hw2,hT,hT2,λr lq lr many Qz Rz H1 s1 fq fr nqr er eq eR m1 mb qb rb rl rt ql qt dv ex=>?_⟩
 refine ⟨r,rfl,_,SqT.of er,_,rfl,k lq Qz H1 s1 fq eq ql qt ?_ λv hv=>q0f (qb v hv) (c9 hT)⟩
 have m1:=ex hx
 subst m1
 obtain ⟨V,nv,hV,e⟩:=hx
 have e1:zp one=fz V*zp other:=Pf.ext e
 have e2:zp one=zp Qz*zp other+zp Rz:=Pf.ext λk=>by
  have:=dv k
  rw [show ((1:Int):Rat)=1 from rfl] at this
  show zc one k=cv (zc Qz) (zc other) k+zc Rz k
  rw [<- this];grind
 have oD:Dg (zc other) (n+1):=by rw [<- hl2];exact ab8 other
 have eD:(fz V-zp Qz)*zp other=zp Rz:=by grind
 have dD:Dg (fz V-zp Qz).f (max nv Qz.length):=λk hk=>by
  rw [C2]
  show (V k:Rat)-zc Qz k=0
  rw [hV k (by lia),ab8 Qz k (by lia),z0k];grind
 have back:=aH4 (f:=(fz V-zp Qz).f) (B:=zc other) (N:=n) dD oD (aT6 h0) (λk hk=>by
  show ((fz V-zp Qz)*zp other).f k=0
  rw [eD]
  exact ab8 Rz k (by lia))
 have z:fz V-zp Qz=0:=Pf.ext λk=>by rw [t4];exact back k (by simp)
 rw [e1]
 grind
def aU8 (K:q0a):Sp:=λvs H Q _ => ∃ (a:Addr) (xs:List V) (ps:List Rat) (L:List (Fp × Nat)),vs=[.ref a]/\SqL K H a xs/\v3 H xs ps/\ps ≠ []/\aN8 ps L/\∀ r rs Ts H',c7 H H'->H' r=some (.lst (rs.map V.ref))->RwZ H' rs Ts->Chn Ts L->Q (.ref r) H'
abbrev V3:Stmt:=top 39
theorem O4:i7 ["p","row","further","rest"] ["p"] (c6 V3):=by and_intros
theorem aK8 {f f1 f2 f3 f4 f5 f6:Addr} (d:Df K mg "chain_of" V3 ["p"] f) (GP_lifted:Def P w K mg base CX0 3 "lifted" f1 ["p"] (ay7 K)) (G_over_content:Def P w K mg base CX0 3 "over_content" f2 ["wholes"] (aU4 K)) (G_whole_slope:Def P w K mg base CX0 1 "whole_slope" f3 ["wholes"] (aJ8 K)) (GD_whole_divided:Def P w K mg base CX0 2 "whole_divided" f4 ["one","other"] (bf4 K)) (G_whole_scaled:Def P w K mg base CX0 2 "whole_scaled" f5 ["factor","wholes"] (ay5 K)) (GD_whole_over:Def P w K mg base CX0 3 "whole_over" f6 ["one","other"] (aJ7 K)):Def P w K mg base CX0 4 "chain_of" f ["p"] (aU8 K):=by
  have G_lifted:=GP_lifted
  have G_whole_divided:=GD_whole_divided
  have G_whole_over:=GD_whole_over
  refine d.ok (N:=["p","row","further","rest"]) O4 (by rintro vs H Q E ⟨_,_,_,_,h,_⟩;rw [h];rfl) (λcdv A outer s H vs Q E hr h=>?_)
  obtain ⟨a,xs,ps,L,rfl,hS,hN,hne,T,k⟩:=h
  have hu:=hr.units
  refine ⟨_, (b9 (d8 (i := 1) O4.nd rfl (Or.inr rfl) (z8 (a7 (j4 m6 (d5 G_lifted hr (a7 (pv 0) a9) i5) b7 (fun _ _ => rfl)) a9)))
      (b9 (d8 (i:=2) O4.nd rfl (Or.inl rfl) (d5 G_over_content hr (a7 (d5 G_whole_slope hr (a7 (j4 v1 (pv 1) b7 (λ_ _=>rfl)) a9) i5) a9) i5))
      (b9 (O7 PassesOwn.never (Z2 (pv 2) (λ_=>rfl)) (b9 (d8 (i:=3) O4.nd rfl (Or.inl rfl) (j4 m6 (d5 G_whole_divided hr (a7 (j4 v1 (pv 1) (G4 B6 b7) (λ_ _=>rfl)) (a7 (pv 2) a9)) i5) b7 (λ_ _=>rfl)))
      (b9 (af0 (an5 PySem.F.plainAttrs_list PySem.F.slot_list_append PySem.F.type_list_append G9 (pv 1) (a7 (pv 2) a9)))
      (c5 (d8 (i:=2) O4.nd rfl (Or.inl rfl) (d5 G_over_content hr (a7 (d5 G_whole_scaled hr (a7 (G4 B6 b7) (a7 (pv 3) a9)) i5) a9) i5))))))
      (c5 (i8 (M2 (Nc:=["row","wholes"]) (caps:=[some 1,none]) rfl (Y7.of (osc:=c6 V3) (N:=["p","row","further","rest"]) (ks:=["row"]) rfl rfl rfl rfl (C5 rfl D5) (by trivial)) (D6 (pv 1)) (λC s₂ H₂ fp pins=>(i3 (i:=1) (show List.Nodup (["row","wholes"]:List Str) by trivial) rfl (Or.inl rfl) (Or.inr rfl))) (λC s₂ H₂ fp pins=>(d5 G_whole_over hr (a7 (pv 1) (a7 (j4 (by exact v1:IxR _ (aE4 K)) (pv 0) (G4 B6 b7) (λ_ _=>rfl)) a9)) i5)))))))),?_⟩
  rw [show start ["p","row","further","rest"] [.ref a]=[some (.ref a),none,none,none] from rfl]
  have lps:0<ps.length:=List.length_pos_iff.mpr hne
  have le11:=T.le
  obtain ⟨k0,k00,ek⟩:=T.ex
  refine d6 (λσ H1 => ∃ D l0 s0 P0,σ=[some (.ref a),some (.ref D),none,none]/\c7 H H1/\H D=none/\H1 D=some (.lst [.ref l0])/\H1 l0=some (.lst (P0.map V.int))/\l0 ≠ D/\0<s0/\(∀ v ∈ P0,Int.natAbs v<2 ^ 80)/\P0.length=ps.length/\ps=scl s0 P0/\m5 P0=1) (λN hN2=>?_) ?_
  · subst_eqs
    refine ⟨a,xs,ps,rfl,hS,hN,80,T.cl,by decide,by decide,by lia,T.tl,λr rs l s ws H1 s1 fl er es el bs s0' wb wl e g sp=>⟨r,rfl,_,SqT.of er,_,rfl,by decide,λD hD=>hN2 _ _ ⟨D,l,s,ws,rfl,s1.trans (c7.new hD _),s1.free hD,c4,?_,g7 el hD,sp,wb,wl,e,g ?_⟩⟩⟩
    · rw [g8 (g7 el hD)];exact el
    · intro z;rw [z] at wl;simp at wl;lia
  rintro σ H1 ⟨D,l0,s0,P0,rfl,s1,fD,eD,el,lD,s00,bP,lP,esc,gP⟩
  have tP:v2 P0 P0.length:=br0 esc T.tl
  have P0n:P0 ≠ []:=λz=>by rw [z] at lP;simp at lP;omega
  refine d6 (λσ H2 => ∃ lB Q0,∃ h:Int,σ=[some (.ref a),some (.ref D),some (.ref lB),none]/\c7 H1 H2/\H1 lB=none/\H2 lB=some (.lst (Q0.map V.int))/\Q0.length+1=ps.length/\v2 Q0 Q0.length/\(Q0 ≠ []->m5 Q0=1)/\(∀ k,(aZ Q0 k).natAbs<2 ^ 84)/\1<=h/\dP (zp P0)=a8 (h:Rat)*zp Q0) (λN hN2=>?_) ?_
  · subst_eqs
    refine ⟨_,SqL.of eD,_,rfl,l0,P0,rfl,SqL.of el,λv hv=>Nat.lt_of_lt_of_le (bP v hv) (c9 (by decide)),by lia,tP,λr zs H2 s2 f2 e2 l2 t2 a2 z2=>?_⟩
    have bz:∀ k,(aZ zs k).natAbs<2 ^ 84:=λk=>by
      rw [a2,Int.natAbs_mul,Int.natAbs_natCast]
      rcases Nat.lt_or_ge (k+1) 11 with y | y
      · have:=ao5 bP (k+1)
        calc (k+1)*(aZ P0 (k+1)).natAbs<=10*(aZ P0 (k+1)).natAbs:=Nat.mul_le_mul_right _ (by lia)
          _<2 ^ 84:=by lia
      · have:aZ P0 (k+1)=0:=by unfold aZ;rw [List.getElem?_eq_none (by lia)];rfl
        rw [this];simp
    refine ⟨r,zs,rfl,e2,λv hv=>Nat.lt_of_lt_of_le (am9 bz v hv) (c9 (by decide)),by lia,t2,λr' qs h H3 s3 f3 e3 l3 h1 a3 g3=>?_⟩
    refine hN2 _ _ ⟨r',qs,h,rfl,s2.trans s3,s2.free f3,e3,by lia,aT8 t2 l3 a3,λz=>g3 λy=>z (List.eq_nil_of_length_eq_zero (by rw [l3,y];rfl)),λk=>?_,h1,?_⟩
    · have:=bz k
      rw [a3,Int.natAbs_mul] at this
      exact Nat.lt_of_le_of_lt (Nat.le_mul_of_pos_left _ (by lia)) this
    · rw [<- z2]
      refine Pf.ext λk=>?_
      rw [C4]
      show zc zs k=_*zc qs k
      unfold zc
      rw [a3,Rat.intCast_mul]
  rintro σ H2 ⟨lB0,Q0,h,rfl,s2,fB,eB0,lQ,tQ,gQ,bQ,h1,edP⟩
  have s12:=s1.trans s2
  have sP:zp P0=a8 (s0⁻¹*k0)*fP (tfs (L.map rt1)):=by
    have e1:qp ps=a8 s0*zp P0:=by rw [esc];exact bD2 s0 P0
    have n0:s0 ≠ 0:=by grind
    have i0:=z5 n0
    have e2:zp P0=a8 s0⁻¹*(a8 s0*zp P0):=by
      generalize a8 s0=X at *
      generalize a8 s0⁻¹=Y at *
      grind
    rw [e2,<- e1,ek,v7];grind
  have hq:(h:Rat) ≠ 0:=af4 (by lia)
  have sQ:zp Q0=a8 ((h:Rat)⁻¹*(s0⁻¹*k0))*dP (fP (tfs (L.map rt1))):=by
    have i0:=z5 hq
    have e2:zp Q0=a8 (h:Rat)⁻¹*(a8 (h:Rat)*zp Q0):=by
      generalize a8 (h:Rat)=X at *
      generalize a8 (h:Rat)⁻¹=Y at *
      grind
    have e3:dP (a8 (s0⁻¹*k0)*fP (tfs (L.map rt1)))=a8 (s0⁻¹*k0)*dP (fP (tfs (L.map rt1))):=bP1 _ _
    rw [e2,<- edP,sP,e3,v7 (h:Rat)⁻¹];generalize a8 (h:Rat)⁻¹=X;generalize a8 (s0⁻¹*k0)=Y;generalize dP (fP (tfs (L.map rt1)))=Z;exact (show ∀ X Y Z:Pf,X*(Y*Z)=X*Y*Z from λX Y Z=>by grind) X Y Z
  obtain ⟨G,hG⟩:∃ G,G=gP1 (tfs (L.map rt1)):=⟨_,rfl⟩
  obtain ⟨g,mg,hg⟩:=T.gp hne
  rw [<- hG] at mg
  have n8:=T.n8
  obtain ⟨f1',f2'⟩:=aM9 (aJ2 T.fl)
  have fns:=TF.fn T.fl.tf
  rw [<- hG] at f1' f2'
  have dG0:Dvd G (zp P0):=⟨a8 (s0⁻¹*k0)*aP (tfs (L.map rt1)) 1,(v5 _).mul (au8 fns 1),by rw [sP,f1'];grind⟩
  have dG1:Dvd G (zp Q0):=⟨a8 ((h:Rat)⁻¹*(s0⁻¹*k0))*R.sP (tfs (L.map rt1)) 1,(v5 _).mul (aM8 fns 1),by rw [sQ,f2'];grind⟩
  have kP:∀ k,(aZ P0 k).natAbs<=2 ^ 84:=λk=>Nat.le_of_lt (Nat.lt_of_lt_of_le (ao5 bP k) (c9 (by decide)))
  have kQ:∀ k,(aZ Q0 k).natAbs<=2 ^ 84:=λk=>Nat.le_of_lt (bQ k)
  have hK:1<=2 ^ 84:=Nat.one_le_two_pow
  have hc:2*(2*ps.length-5)*2 ^ 84<=2 ^ 90:=by
    rw [show (90:Nat)=6+84 by decide,Nat.pow_add 2 6]
    exact Nat.mul_le_mul_right _ (by lia)
  have C0:Cs 90 ps.length P0 Q0 P0 Q0:=⟨tP,tQ,by lia,by lia,gQ,Eu.base,λk=>Nat.lt_of_lt_of_le (ao5 bP k) (c9 (by lia)),λk=>Nat.lt_of_lt_of_le (bQ k) (c9 (by lia))⟩
  have R0:=CR.start C0 (by lia) gP dG0 dG1
  have lenG:∀ {X:List Int},v2 X X.length->X ≠ []->Dvd G (zp X)->g+1<=X.length:=fun {X} tX nX dX=>by
    have pX:=List.length_pos_iff.mpr nX
    have:=bv5 mg.lm (au0 tX pX) dX
    lia
  refine d6 (λσ H3 => ∃ lB rs Ss A o3,σ=[some (.ref a),some (.ref D),some (.ref lB),o3]/\c7 H H3/\H3 D=some (.lst (rs.map V.ref))/\RwZ H3 rs Ss/\CR 90 ps.length P0 Q0 G Ss A []) (λN hN2=>?_) ?_
  · show ak5 _ _ _ _ _
    obtain ⟨J,hJ⟩:∃ J:Nat->L2.St->Hp->Prop,∀ m σ H3,J m σ H3 ↔ ∃ lB rs Ss A B o3,σ=[some (.ref a),some (.ref D),some (.ref lB),o3]/\c7 H H3/\H3 D=some (.lst (rs.map V.ref))/\RwZ H3 rs Ss/\D ∉ rs/\lB ≠ D/\H3 lB=some (.lst (B.map V.int))/\CR 90 ps.length P0 Q0 G Ss A B/\m=B.length:=⟨_,λ_ _ _=>Iff.rfl⟩
    refine aC6 J Q0.length ((hJ _ _ _).mpr ⟨lB0,[l0],[P0],P0,Q0,_,rfl,s12,s2 _ _ eD,.cons (s2 _ _ el) .nil,by simpa using lD.symm,(g7 eD fB).symm,eB0,R0,rfl⟩) ?_
    intro m σ H3 hm
    obtain ⟨lB,rs,Ss,A,B,o3,rfl,s3,eD3,rw3,nD,lBD,eB,R,rfl⟩:=(hJ _ _ _).mp hm
    have lr:=rw3.length
    have S:=R.cs
    subst_eqs
    refine ⟨_,.inl ⟨_,SqL.of eB,rfl⟩,B1 (λhB=>WhG.mk ?_) (λhB=>?_)⟩
    · have hB':B ≠ []:=λz=>by rw [z] at hB;simp at hB
      have bpos:0<B.length:=List.length_pos_iff.mpr hB'
      have lAB:=S.lB
      have lA:=S.lA
      have gB:=lenG S.tB hB' R.gB
      have sl:Ss[Ss.length-1]? = some A:=by rw [<- List.getLast?_eq_getElem?];exact R.la
      have spos:0<Ss.length:=(Nat.zero_lt_of_lt (List.getElem?_eq_some_iff.mp sl).1)
      obtain ⟨pA,hpA⟩:∃ pA,rs[rs.length-1]? = some pA:=⟨_,List.getElem?_eq_getElem (by lia)⟩
      obtain ⟨A',hA',eA⟩:=rw3.get hpA
      rw [lr,sl] at hA'
      cases hA'
      obtain ⟨wd,hwd⟩:∃ wd,wd=90*(2*(ps.length-A.length)+1):=⟨_,rfl⟩
      have sz:=bw4 (x:=ps.length-A.length) (d:=A.length-B.length) (by lia)
      have swA:=S.wA
      have swB:=S.wB
      rw [<- hwd] at sz swA swB
      subst_eqs
      have Dsz:wd<=5000:=Nat.le_trans (Nat.le_add_right _ _) sz
      refine ⟨_,SqL.of eD3,_,au2 (x:=.ref pA) (by rw [List.length_map,List.getElem?_map,hpA];rfl),pA,lB,A,B,B.length-1,A.length-B.length+1,wd,wd,rfl,SqL.of eA,SqL.of eB,by lia,by lia,by lia,W0 S.tB bpos,S.tA,by lia,am9 swA,am9 swB,sz,Dsz,λr6 lq lR many Qz Rz H6 s6 fq fr nqr er6 eq6 eR6 m1 mb qb rb rl rt ql qt dv ex=>?_⟩
      have eD6:=s6 _ _ eD3
      have lRD:lR ≠ D:=(g7 eD3 fr).symm
      have rln:=R.ln
      refine ⟨r6,rfl,_,SqT.of er6,_,rfl,.inl ⟨_,SqL.of eD6⟩,_,eD6,N6 (by rw [List.length_map];lia),?_⟩
      have s7:c7 H (upd H6 D (.lst (rs.map V.ref ++ [.ref lB]))):=(s3.trans s6).over fD _
      have eR7:(upd H6 D (.lst (rs.map V.ref ++ [.ref lB]))) lR=some (.lst (Rz.map V.int)):=by rw [g8 lRD];exact eR6
      have nD7:D ∉ rs ++ [lB]:=λz=>by
        rcases List.mem_append.mp z with y | y
        · exact nD y
        · exact lBD (List.mem_singleton.mp y).symm
      have rw7:RwZ (upd H6 D (.lst (rs.map V.ref ++ [.ref lB]))) (rs ++ [lB]) (Ss ++ [B]):=((rw3.same s6).append (.cons (s6 _ _ eB) .nil)).over nD7
      have eD7:(upd H6 D (.lst (rs.map V.ref ++ [.ref lB]))) D=some (.lst ((rs ++ [lB]).map V.ref)):=by rw [c4,List.map_append];rfl
      generalize upd H6 D (.lst (rs.map V.ref ++ [.ref lB]))=H7 at *
      refine ⟨-1,lR,Rz,wd+(A.length-B.length+1)*(wd+1),1,rfl,SqL.of eR7,by lia,by decide,rb,Nat.le_trans (Nat.add_le_add_right sz 1) (by decide),λr8 zs H8 s8 f8 e8 tz lz hz=>?_⟩
      have bz:∀ v ∈ zs,Int.natAbs v<2 ^ 6000:=am9 λk=>by
        rw [hz k,Int.natAbs_mul]
        have:=ao5 rb k
        have h2:=Nat.lt_of_lt_of_le this (c9 (show wd+(A.length-B.length+1)*(wd+1)<=6000 from Nat.le_trans sz (by decide)))
        simpa using h2
      refine ⟨r8,zs,rfl,e8,bz,by lia,tz,λr9 Cz h9 H9 s9 f9 e9 l9 h91 z9 g9=>?_⟩
      have hRz:∀ k,aZ Rz k=-h9*aZ Cz k:=λk=>by
        have a1:=hz k
        have a2:=z9 k
        rw [Int.neg_mul,<- a2,a1];simp
      have R':=R.step lP lQ kP kQ hK hc (by decide) bpos m1 dv hRz h91 qt (by lia) (aT8 tz l9 z9) (by lia) (λhC=>g9 λz=>hC (List.eq_nil_of_length_eq_zero (by rw [l9,z];rfl)))
      exact WgN.mk (m':=Cz.length) ⋯ ((hJ _ _ _).mpr ⟨r9,rs ++ [lB],Ss ++ [B],B,Cz,_,rfl,s7.trans (s8.trans s9),s9 _ _ (s8 _ _ eD7),rw7.same (s8.trans s9),nD7,(g7 (s8 _ _ eD7) f9).symm,e9,R',rfl⟩)
    · have hB0 : B = [] := by
        cases B with
        | nil=>rfl
        | cons=>simp at hB
      subst hB0
      exact hN2 _ _ ⟨lB,rs,Ss,A,o3,rfl,s3,eD3,rw3,R⟩
  rintro σ H3 ⟨lB,rs,Ss,A,o3,rfl,s3,eD3,rw3,R⟩
  have lr:=rw3.length
  have lA0:A ≠ []:=λz=>by have:=R.cs.lB;rw [z] at this;simp at this
  have apos:=List.length_pos_iff.mpr lA0
  have gA:=(R.ok A (List.mem_of_getLast? R.la)).2.1
  have rln:Ss.length<=11:=by have:=R.ln;simp at this;lia
  have hk:0<(s0⁻¹*k0)*((h:Rat)⁻¹*(s0⁻¹*k0)):=by
    have ih:0<(h:Rat)⁻¹:=Rat.inv_pos.mpr (Rat.intCast_pos.mpr (by lia))
    have is:0<s0⁻¹:=Rat.inv_pos.mpr s00
    generalize (h:Rat)⁻¹=x at ih ⊢
    generalize s0⁻¹=y at is ⊢
    have yk:y*k0 ≠ 0:=λz=>by
      rcases Rat.mul_eq_zero.mp z with z | z
      · rw [z] at is;grind
      · exact k00 z
    have sq:0<(y*k0)*(y*k0):=by
      rcases (show y*k0<0 \/ 0<y*k0 by grind) with z | z
      · have:=Rat.mul_pos (show 0 < -(y*k0) by grind) (show 0 < -(y*k0) by grind)
        grind
      · exact Rat.mul_pos z z
    have:=Rat.mul_pos ih sq
    grind
  have fin:=CR.fin (ps:=ps) (L:=L) (by rw [<- hG];exact R) T hne sP sQ hk lA0 gA rln
  obtain ⟨bA,fin⟩:=fin
  have sl:Ss[Ss.length-1]? = some A:=by rw [<- List.getLast?_eq_getElem?];exact R.la
  have spos:0<Ss.length:=(Nat.zero_lt_of_lt (List.getElem?_eq_some_iff.mp sl).1)
  obtain ⟨pA,hpA⟩:∃ pA,rs[rs.length-1]? = some pA:=⟨_,List.getElem?_eq_getElem (by lia)⟩
  obtain ⟨A',hA',eA⟩:=rw3.get hpA
  rw [lr,sl] at hA'
  cases hA'
  subst_eqs
  refine ⟨⟨_,SqL.of eD3⟩,λD2 hD2=>?_⟩
  refine U5 (rs.map V.ref) (λi σ H5 => ∃ o ts Ts,σ=[some (.ref D),o]/\c7 H3 H5/\H5 D2=some (.lst (ts.map V.ref))/\RwZ H5 ts Ts/\D2 ∉ ts/\Qts A (Ss.take i) Ts/\∀ T ∈ Ts,T ≠ []/\v2 T T.length/\T.length<=11/\∀ v ∈ T,Int.natAbs v<2 ^ 5000) ⟨_,[],[],rfl,c7.new hD2 _,c4,.nil,by simp,.nil,by simp⟩ (λi σ H5 _ ⟨_,_,_,_,s5,_⟩=>SqL.of (s5 _ _ eD3)) ?_ ?_
  · rintro i x σ H5 hx ⟨o,ts,Ts,rfl,s5,e5,rw5,nD5,qt5,ok5⟩
    have hi:=(List.getElem?_eq_some_iff.mp hx).1
    rw [List.getElem?_map] at hx
    cases hp:rs[i]? with
    | none=>rw [hp] at hx;cases hx
    | some p =>
      rw [hp] at hx
      cases hx
      obtain ⟨S,hS',eS⟩:=rw3.get hp
      obtain ⟨tS,gS,lS,lAS,bS⟩:=R.ok S (List.mem_of_getElem? hS')
      have nS:S ≠ []:=λz=>by rw [z] at lAS;simp at lAS;exact lA0 lAS
      have gS':=lenG tS nS (R.gs S (List.mem_of_getElem? hS'))
      subst_eqs
      have lts:=rw5.length
      have lq5:=qt5.len
      rw [List.length_take] at lq5
      refine ⟨_,SqL.of (s5 _ _ eD3),_,au2 (x:=.ref pA) (by rw [List.length_map,List.getElem?_map,hpA];rfl),p,pA,S,A,A.length-1,S.length-A.length+1,90*(2*(ps.length-S.length)+1),75,rfl,SqL.of (s5 _ _ eS),SqL.of (s5 _ _ eA),by lia,by lia,by lia,W0 R.cs.tA apos,tS,by lia,am9 bS,am9 bA,by lia,by decide,bv4 gA (R.all S (List.mem_of_getElem? hS')),λlq Qz H6 s6 f6 e6 l6 t6 z6 b6=>?_⟩
      have nlq:lq ≠ D2:=(g7 e5 f6).symm
      have nm:D2 ∉ ts ++ [lq]:=λz=>by
        rcases List.mem_append.mp z with y | y
        · exact nD5 y
        · exact nlq (List.mem_singleton.mp y).symm
      refine G0.mk hi (s6 _ _ e5) (N6 (by rw [List.length_map];lia)) ⟨_,rfl,(s5.trans s6).over hD2 _,ts ++ [lq],by rw [c4,List.map_append];rfl,Ts ++ [Qz],((rw5.same s6).append (.cons e6 .nil)).over nm,nm,?_,λX hX=>?_⟩
      · rw [Y2 hS']
        exact qt5.snoc z6
      · rcases List.mem_append.mp hX with y | y
        · exact ok5 X y
        · rw [List.mem_singleton.mp y]
          exact ⟨λz=>by rw [z] at l6;simp at l6;lia,t6,by lia,b6⟩
  · rintro σ H5 ⟨o,ts,Ts,rfl,s5,e5,rw5,nD5,qt5,ok5⟩
    rw [List.length_map,lr,List.take_length] at qt5
    exact k D2 ts Ts H5 (s3.trans s5) e5 rw5 (fin Ts qt5 ok5)
end
theorem bB8 {i:Int} {x p:Rat} (hp:0<p) (e:(i:Rat)=x*p):SS ((if 0<i then 1 else if i<0 then -1 else 0:Int):Rat) x:=by
 have hx:∀ y:Rat,(0<y*p ↔ 0<y)/\(y*p<0 ↔ y<0):=λy=>by
  refine ⟨⟨λh=>?_,λh=>z0p h hp⟩,⟨λh=>?_,λh=>?_⟩⟩
  ·refine Classical.byContradiction λz=>?_
   have:0<=-y:=by grind
   have:=z0j this (y0c hp)
   grind
  ·refine Classical.byContradiction λz=>?_
   have:0<=y:=by grind
   have:=z0j this (y0c hp)
   grind
  ·have:=z0p (show 0 < -y by grind) hp
   grind
 obtain ⟨h1,h2⟩:=hx x
 rw [<- e] at h1 h2
 have p1:(0<(i:Rat)) ↔ 0<i:=j0u
 have p2:((i:Rat)<0) ↔ i<0:=m0d
 by_cases a:0<i
 ·rw [if_pos a]
  have xp:=h1.mp (p1.mpr a)
  exact ⟨⟨λz=>absurd z (by decide),λz=>by grind⟩,⟨λ_=>xp,λ_=>by decide⟩⟩
 ·rw [if_neg a]
  by_cases b:i<0
  ·rw [if_pos b]
   have xn:=h2.mp (p2.mpr b)
   exact ⟨⟨λ_=>xn,λ_=>by decide⟩,⟨λz=>absurd z (by decide),λz=>by grind⟩⟩
  ·rw [if_neg b]
   have n1:¬ 0<x:=λz=>a (p1.mp (h1.mpr z))
   have n2:¬ x<0:=λz=>b (p2.mp (h2.mpr z))
   exact ⟨⟨λz=>absurd z (by decide),λz=>absurd z n2⟩,⟨λz=>absurd z (by decide),λz=>absurd z n1⟩⟩
def RtO (r:Rtu):Prop:=N9 r.u/\N9 r.v/\(r.o=0 \/ ((r.o=1 \/ r.o=-1)/\0<r.v))
theorem bt6 {B e:Nat} (hB:0<B) (h:OvB B e 1):B<2 ^ e:=by
 obtain ⟨v,ev,b⟩:=h
 have:v=(B:Int):=by
  have h1:q0s 1 1=q0s v B:=by rw [<- ev];trivial
  have:=(y0b (by decide) ⋯).mp h1
  lia
 rw [this,q0k] at b
 exact b
theorem bE7 (x:Fp):(1:Rat) ∈ x.qs:=by
 unfold Fp.qs
 split <;> simp
structure bq7 (p:Pf) (n:Nat):Prop where
 lm:Lm p n
 ov:∃ B,0<B/\B<=2 ^ (7*n)/\OvP B (7*n+4) p
theorem FpB.cb {x:Fp} (F:FpB x):∃ C e,0<C/\e+x.qs.length<=7*x.n/\C<2 ^ e/\∀ q ∈ x.qs,OvB C e q:=by
 obtain ⟨C,e,hC,le,oq⟩:=F.ov
 exact ⟨C,e,hC,le,bt6 hC (oq 1 (bE7 x)),oq⟩
theorem bq7.fac {p:Pf} {n:Nat} (h:bq7 p n) {x:Fp} (F:FpB x):bq7 (x.f*p) (x.n+n):=by
 refine ⟨(Fp.rf F.ok).lm.mul h.lm,?_⟩
 obtain ⟨B,hB,bB,ov⟩:=h.ov
 obtain ⟨C,e,hC,le,c1,oq⟩:=F.cb
 refine ⟨C*B,j0s hC hB,?_,?_⟩
 ·rw [show 7*(x.n+n)=7*x.n+7*n by lia,y0e]
  exact j0f (z0v (y0p c1) (c9 (by lia))) bB
 ·have k:=OvP.mul hC hB (bg9 oq) ov (az6 x.qs)
  rw [Fp.eqs] at k
  exact k.mono ⋯
theorem bj9:bq7 1 0:=by
 obtain ⟨a,B,hB,ov⟩:=aL6
 exact ⟨a,1,by decide,by decide,λk=>by
  rw [B7]
  split
  ·exact ⟨1,by trivial,by decide⟩
  ·exact OvB.zero _ _⟩
theorem bA8 {ps:List Rat} {n:Nat} (tl:U7 ps ps.length) (lm:Lm (qp ps) n):ps.length=n+1:=by
 have g2:n<ps.length:=Classical.byContradiction λz=>lm.ld (az6 ps _ (by exact Nat.not_lt.mp ‹_›))
 rcases y0v (n+1) ps.length with y | y
 ·exfalso
  have h1:=q0d (l:=ps) (i:=ps.length-1) ⋯
  refine tl.last (by lia) _ h1 ?_
  have h3:aQ ps (ps.length-1)=0:=lm.dg (ps.length-1) ⋯
  unfold aQ at h3
  rw [h1] at h3
  exact h3
 ·lia
structure Pol (ps:List Rat) (k:Rat) (M:Pf) (n:Nat):Prop where
 tl:U7 ps ps.length
 k9:N9 k
 k0:k ≠ 0
 e:qp ps=a8 k*M
 mc:bq7 M n
theorem Pol.len {ps:List Rat} {k:Rat} {M:Pf} {n:Nat} (h:Pol ps k M n):ps.length=n+1:=bA8 h.tl (by rw [h.e];exact h.mc.lm.c h.k0)
theorem N9.ovb {q:Rat} (h:N9 q):OvB q.den 4 q:=⟨q.num,(z0u q).symm,q0v h.n (by decide)⟩
theorem Pol.bits {ps:List Rat} {k:Rat} {M:Pf} {n:Nat} (h:Pol ps k M n):∃ B,0<B/\B<2 ^ (7*n+3)/\∀ q ∈ ps,OvB B (7*n+8) q:=by
 obtain ⟨B,hB,bB,ov⟩:=h.mc.ov
 have kd:=k.den_pos
 have k6:=h.k9.d
 refine ⟨k.den*B,j0s kd hB,?_,bE2 λi=>?_⟩
 ·rw [y0e]
  have:=j0f k6 bB
  have p:=y0g (7*n)
  lia
 ·rw [h.e,C4]
  exact (h.k9.ovb.mul (ov i)).mono (by lia)
theorem Pol.cl {ps:List Rat} {k:Rat} {M:Pf} {n:Nat} (h:Pol ps k M n):ClN (7*n+8) ps:=by
 obtain ⟨B,hB,bB,ov⟩:=h.bits
 exact bc6 hB (q0f bB (c9 (by simp))) ov
theorem bs4 {l:List Rat} {m:Nat} (t:U7 l m):qp (l.take m)=qp l:=Pf.ext λk=>bx0 t k
theorem Pol.mul {ps:List Rat} {k:Rat} {M:Pf} {n:Nat} (h:Pol ps k M n) {x:Fp} (F:FpB x) {m:Nat} (t:U7 (T7 ps x.qs) m):Pol ((T7 ps x.qs).take m) k (x.f*M) (x.n+n) :=
 ⟨br1 t,h.k9,h.k0,by rw [bs4 t,bD3,h.e,Fp.eqs];grind,h.mc.fac F⟩
theorem aV3 {k:Rat} (h:N9 k) (h0:k ≠ 0):Pol [k] k 1 0:=by
 refine ⟨aO3 λx hx=>by cases hx;exact h0,h,h0,Pf.ext λi=>?_,bj9⟩
 rw [C4,B7]
 match i with
 | 0=>show k=k*_;rw [if_pos rfl];grind
 | i+1=>rw [if_neg ⋯];show (0:Rat)=_;grind
structure Drn (ps:List Rat) (L:List (Fp × Nat)) (rs:List Rtu) (few:Nat) (ap:Bool):Prop where
 fl:FL L
 fb:∀ x ∈ L,FpB x.1
 ex:∃ k n,Pol ps k (fP (tfs (L.map rt1))) n
 n8:nT (L.map rt1)+few<=8
 cn:∃ m,∀ a,NT (L.map rt1) a=rs.countP (abv a)+m
 ro:∀ r ∈ rs,RtO r
 ln:rs.length+few<=8
 pl:ap=false->aC3 rs/\(∀ y ∈ L,y.1.k ≠ 2)/\∀ u,u ∈ rs.map (·.u) ↔ (⟨0,u,0⟩:Fp) ∈ L.map (·.1)
 n9:∀ x ∈ L,N9 x.1.u/\N9 x.1.w
 so:ap=false->(rs.map (·.u)).Pairwise (· < ·)
 qd:ap=true->∃ u v,0<v/\rs=[⟨u,-1,v⟩,⟨u,1,v⟩]/\(⟨2,u,-v⟩:Fp) ∈ L.map (·.1)/\∀ y ∈ L,y.1.k=1 \/ y.1=⟨2,u,-v⟩
theorem aG5:N9 0:=⟨by decide,by decide⟩
theorem aX4 {k:Rat} (h:N9 k) (h0:k ≠ 0):Drn [k] [] [] 6 false where
 fl:=bI1
 fb:=λx hx=>by simp at hx
 ex:=⟨k,0,aV3 h h0⟩
 n8:=by decide
 cn:=⟨0,λa=>rfl⟩
 ro:=λr hr=>by simp at hr
 ln:=by decide
 pl:=λ_=>⟨⟨λx hx=>by simp at hx,g0c⟩,λy hy=>by simp at hy,λu=>by simp⟩
 n9:=λx hx=>by simp at hx
 so:=λ_=>.nil
 qd:=λz=>by cases z
theorem bc0 {k u v:Rat} (h:N9 k) (h0:k ≠ 0) (nu:N9 u) (nv:N9 v) (v0:0<v) {ps:List Rat} {m n:Nat} (hm:1<=m) (hp:Pol ps k (wP (⟨2,u,-v⟩:Fp).f m*1) n):Drn ps [(⟨2,u,-v⟩,m)] [⟨u,-1,v⟩,⟨u,1,v⟩] 6 true where
 fl:=⟨λx hx=>by rw [q0m.mp hx];exact ⟨.inr (.inr ⟨rfl,by show -v<0;grind⟩),hm⟩,by simp,λx hx y hy ne=>absurd ((q0m.mp hx).trans (q0m.mp hy).symm) ne⟩
 fb:=λx hx=>by
  rw [q0m.mp hx]
  exact aj7 nu ⟨by show (-v.num).natAbs<=9;rw [y0z];exact nv.n,nv.d⟩ (.inr (.inr ⟨rfl,by show -v<0;grind⟩)) (by decide)
 ex:=⟨k,n,hp⟩
 n8:=q0q 8
 cn:=⟨0,λa=>by
  have e:=(Fp.cnt (x:=⟨2,u,-v⟩) (.inr (.inr ⟨rfl,by show -v<0;grind⟩))).1 a
  have rs:Fp.rs ⟨2,u,-v⟩=[⟨u,-1,v⟩,⟨u,1,v⟩]:=by
   show [(⟨u,-1,- -v⟩:Rtu),⟨u,1,- -v⟩]=_
   rw [Rat.neg_neg]
  rw [rs] at e
  show Fp.N ⟨2,u,-v⟩ a+0=_
  rw [e];rfl⟩
 ro:=λr hr=>by
  simp only [z0a,q1g,or_false] at hr
  rcases hr with rfl | rfl
  ·exact ⟨nu,nv,.inr ⟨.inr rfl,v0⟩⟩
  ·exact ⟨nu,nv,.inr ⟨.inl rfl,v0⟩⟩
 ln:=q0q 8
 pl:=λz=>by cases z
 n9:=λx hx=>by rw [q0m.mp hx];exact ⟨nu,⟨by show (-v.num).natAbs<=9;rw [y0z];exact nv.n,nv.d⟩⟩
 so:=λz=>by cases z
 qd:=λ_=>⟨u,v,v0,rfl,q0m.mpr rfl,λy hy=>.inr (by rw [q0m.mp hy])⟩
theorem bh8 {ps:List Rat} {k:Rat} {M:Pf} {n j:Nat} {x:Fp} (h:Pol ps k (x.f*(wP x.f j*M)) (x.n+n)):Pol ps k (wP x.f (j+1)*M) (x.n+n):=by
 have e:x.f*(wP x.f j*M)=wP x.f (j+1)*M:=by show _=x.f*wP x.f j*M;grind
 rw [e] at h
 exact h
theorem Drn.quad {ps ps':List Rat} {L:List (Fp × Nat)} {rs:List Rtu} {few n:Nat} {ap:Bool} {k:Rat} (D:Drn ps L rs few ap) {u v:Rat} (nu:N9 u) (nv:N9 v) (v0:0<v) {m:Nat} (hm:1<=m) (hf:2<=few) (hp:Pol ps' k (wP (⟨1,u,v⟩:Fp).f m*fP (tfs (L.map rt1))) n):Drn ps' (ak2 ⟨1,u,v⟩ m L) rs (few-2) ap where
 fl:=D.fl.add (.inr (.inl ⟨rfl,v0⟩)) hm λy _ _=>⟨λz=>absurd z (by show (1:Nat) ≠ 2;decide),λ_=>rfl⟩
 fb:=λx hx=>by
  rcases E8 hx with ⟨a,_⟩ | z
  ·rw [a];exact aj7 nu nv (.inr (.inl ⟨rfl,v0⟩)) (by decide)
  ·exact D.fb x z
 ex:=⟨k,n,by rw [aT3];exact hp⟩
 n8:=by
  rw [aV8 _ _ _ D.fl.nd]
  have:=D.n8
  have:Fp.n ⟨1,u,v⟩=2:=rfl
  split <;> lia
 cn:=by
  obtain ⟨c,hc⟩:=D.cn
  have e:=(Fp.cnt (x:=⟨1,u,v⟩) (.inr (.inl ⟨rfl,v0⟩))).1
  have e':∀ a,Fp.N ⟨1,u,v⟩ a=1:=λa=>by rw [e];rfl
  refine ⟨c+if (⟨1,u,v⟩:Fp) ∈ L.map (·.1) then 0 else 1,λa=>?_⟩
  rw [bi9 _ _ _ D.fl.nd,hc,e' a]
  lia
 ro:=D.ro
 ln:=by have:=D.ln;lia
 pl:=λz=>by
  obtain ⟨a,b,c⟩:=D.pl z
  refine ⟨a,λy hy=>?_,λt=>(c t).trans ?_⟩
  ·rcases E8 hy with ⟨a,_⟩ | z
   ·rw [a];show (1:Nat) ≠ 2;decide
   ·exact b y z
  ·rw [K8 _ _ _ D.fl.nd]
   split
   ·exact Iff.rfl
   ·rw [q0t,q0m]
    exact ⟨.inl,λh=>h.resolve_right λz=>by cases z⟩
 n9:=λx hx=>by
  rcases E8 hx with ⟨a,_⟩ | z
  ·rw [a];exact ⟨nu,nv⟩
  ·exact D.n9 x z
 so:=D.so
 qd:=λz=>by
  obtain ⟨u',v',a,b,c,d⟩:=D.qd z
  refine ⟨u',v',a,b,?_,λy hy=>?_⟩
  ·rw [K8 _ _ _ D.fl.nd]
   split
   ·exact c
   ·exact v0a _ c
  ·rcases E8 hy with ⟨e,_⟩ | z
   ·rw [e];exact .inl rfl
   ·exact d y z
theorem Drn.lin {ps ps':List Rat} {L:List (Fp × Nat)} {rs:List Rtu} {few n:Nat} {k:Rat} (D:Drn ps L rs few false) {u:Rat} (nu:N9 u) {m:Nat} (hm:1<=m) (hf:1<=few) (hp:Pol ps' k (wP (⟨0,u,0⟩:Fp).f m*fP (tfs (L.map rt1))) n):Drn ps' (ak2 ⟨0,u,0⟩ m L) (ar8 u rs) (few-1) false where
 fl:=D.fl.add (.inl ⟨rfl,rfl⟩) hm λy hy _=>⟨λz=>absurd z (by show (0:Nat) ≠ 2;decide),λz=>absurd z ((D.pl rfl).2.1 y hy)⟩
 fb:=λx hx=>by
  rcases E8 hx with ⟨a,_⟩ | z
  ·rw [a];exact aW8 nu
  ·exact D.fb x z
 ex:=⟨k,n,by rw [aT3];exact hp⟩
 n8:=by
  rw [aV8 _ _ _ D.fl.nd]
  have:=D.n8
  have:Fp.n ⟨0,u,0⟩=1:=rfl
  split <;> lia
 cn:=by
  obtain ⟨c,hc⟩:=D.cn
  obtain ⟨a,b,i⟩:=D.pl rfl
  have e:=(Fp.cnt (x:=⟨0,u,0⟩) (.inl ⟨rfl,rfl⟩)).1
  refine ⟨c,λt=>?_⟩
  rw [bi9 _ _ _ D.fl.nd,hc,ba3 _ _ a]
  by_cases z:u ∈ rs.map (·.u)
  ·rw [if_pos z,if_pos ((i u).mp z)];simp
  ·rw [if_neg z,if_neg λy=>z ((i u).mpr y),e t]
   show _+c+(List.countP (abv t) [(⟨u,0,0⟩:Rtu)]+0)=_
   lia
 ro:=λr hr=>by
  unfold ar8 at hr
  rcases q0t.mp hr with y | y
  ·rcases q0t.mp y with z | z
   ·exact D.ro r (j0h.mp z).1
   ·rw [q0m.mp z];exact ⟨nu,aG5,.inl rfl⟩
  ·exact D.ro r (j0h.mp y).1
 ln:=by
  have h1:=D.ln
  have h2:=ah9 (λ_=>true) u rs
  have ct:∀ l:List Rtu,List.countP (λ_=>true) l=l.length:=λl=>by rw [g0r];intros;rfl
  rw [ct,ct,ct,ct] at h2
  unfold ar8
  rw [z0g,z0g,z0y]
  lia
 pl:=λ_=>by
  obtain ⟨a,b,i⟩:=D.pl rfl
  refine ⟨ba2 a,λy hy=>?_,λt=>?_⟩
  ·rcases E8 hy with ⟨a,_⟩ | z
   ·rw [a];show (0:Nat) ≠ 2;decide
   ·exact b y z
  ·rw [bs7,i t,K8 _ _ _ D.fl.nd]
   split
   ·rename_i z
    exact ⟨λh=>h.elim (λy=>by rw [y];exact z) id,.inr⟩
   ·rw [q0t,q0m]
    exact ⟨λh=>h.elim (λy=>.inr (by rw [y])) .inl,λh=>h.elim .inr λy=>.inl (by cases y;rfl)⟩
 n9:=λx hx=>by
  rcases E8 hx with ⟨a,_⟩ | z
  ·rw [a];exact ⟨nu,aG5⟩
  ·exact D.n9 x z
 so:=λ_=>by
  have h:=D.so rfl
  unfold ar8
  rw [j0m,j0m]
  have sub:∀ q:Rtu->Bool,((rs.filter q).map (·.u)).Pairwise (· < ·):=λq=>z1q.sublist ((z1w).map _) h
  refine z1p.mpr ⟨z1p.mpr ⟨sub _,List.pairwise_singleton _ _,λa ha b hb=>?_⟩,sub _,λa ha b hb=>?_⟩
  ·obtain ⟨x,hx,e⟩:=q0w.mp ha
   have l:=of_decide_eq_true (j0h.mp hx).2
   have eb:b=u:=q0m.mp hb
   rw [<- e,eb];exact l
  ·obtain ⟨y,hy,e2⟩:=q0w.mp hb
   have l2:=of_decide_eq_true (j0h.mp hy).2
   rcases q0t.mp ha with z | z
   ·obtain ⟨x,hx,e⟩:=q0w.mp z
    have l:=of_decide_eq_true (j0h.mp hx).2
    rw [<- e,<- e2];show x.u<y.u;grind
   ·have ea:a=u:=q0m.mp z
    rw [ea,<- e2];exact l2
 qd:=λz=>by cases z
theorem Drn.told {ps:List Rat} {L:List (Fp × Nat)} {rs:List Rtu} {few:Nat} {ap:Bool} (D:Drn ps L rs few ap) (h:ps.length<=11):aN8 ps L:=by
 obtain ⟨k,n,hp⟩:=D.ex
 have l:=hp.len
 exact ⟨D.fl,D.fb,hp.tl,⟨k,hp.k0,hp.e⟩,hp.cl.mono (by lia),h,by have:=D.n8;lia⟩
end R
namespace L2
open PySem PySem.Spec PyProof.Rows
theorem bc1 {K:q0a} {a D:Addr} {g:TG} {tt:TT} {te:TE} {σ0:St} {H0:Hp} {Q:VK} (xs:List V) (Pv:Nat->St->Hp->Prop) (h0:Pv 0 σ0 H0) (hl:∀ i σ H,i<=xs.length->Pv i σ H->SqL K H a xs)
  (hs:∀ i x σ H,xs[i]? = some x->Pv i σ H->g x σ H λσ4 H4=>tt σ4 H4 λb H4'=>if b=true then te σ4 H4' λy H5=>G0 D xs.length Pv i σ4 y H5 else aY9 xs.length Pv i σ4 H4')
  (hd:∀ σ H,Pv xs.length σ H->Q (.ref D) H):aT5 (Itl K a) D σ0 H0 g tt te Q:=by
 refine ⟨λi m σ H=>m=xs.length-i/\i<=xs.length/\Pv i σ H,⟨xs.length,by simp,j0g _,h0⟩,?_⟩
 rintro i m σ H ⟨rfl,hi,p⟩
 have q:=hl i σ H hi p
 by_cases hlt:i<xs.length
 ·refine .inr ⟨⟨xs,xs[i],q,q0d hlt⟩,?_⟩
  rintro x H3 ⟨rfl,hx⟩
  exact hs i x σ _ (hx xs q) p
 ·have e:i=xs.length:=⋯
  subst e
  exact .inl ⟨⟨xs,q,q0q _⟩,hd σ H p⟩
end L2
namespace R
open PySem L2 PyProof.Rows
theorem Drn.few {ps:List Rat} {L:List (Fp × Nat)} {rs:List Rtu} {few few':Nat} {ap:Bool} (D:Drn ps L rs few ap) (h:few'<=few):Drn ps L rs few' ap:=⟨D.fl,D.fb,D.ex,by have:=D.n8;lia,D.cn,D.ro,by have:=D.ln;lia,D.pl,D.n9,D.so,D.qd⟩
theorem mnz {a b:Rat} (ha:a ≠ 0) (hb:b ≠ 0):a*b ≠ 0:=λz=>(z0x.mp z).elim ha hb
def wrt (x:Fp) (t:Rat):Rat:=if x.k=0 then t-x.u else (t-x.u)*(t-x.u)+x.w
theorem bP5 (a:Rat):At a pX a:=⟨1,D8,by grind⟩
theorem aI4 (a u:Rat):At a (pX-a8 u) (a-u):=(bP5 a).sub (Q3 a u)
theorem bA0 (x:Fp) (t:Rat):At t x.f (wrt x t):=by
 unfold Fp.f wrt
 split
 ·exact aI4 t x.u
 ·exact ((aI4 t x.u).mul (aI4 t x.u)).add (Q3 t x.w)
def aw:List (Fp × Nat)->Rat->Rat
 | [],_=>1
 | x :: r,t=>wrt x.1 t*aw r t
theorem aT2 (t:Rat):At t 1 1:=by rw [<- k4];exact Q3 t 1
theorem bA3 (t:Rat):∀ {L:List (Fp × Nat)},(∀ x ∈ L,1<=x.2)->At t (aP (tfs (L.map rt1)) 1) (aw L t)
 | [],_=>aT2 t
 | x :: r,h=>by
  show At t (if 1<=x.2 then x.1.f*aP (tfs (r.map rt1)) 1 else _) _
  rw [if_pos (h x q0c)]
  exact (bA0 x.1 t).mul (bA3 t λy hy=>h y (q0b _ hy))
theorem bz9 {t:Rat} {f:Pf} {c:Rat} (h:At t f c) (c0:c ≠ 0):∀ m,∃ d,d ≠ 0/\At t (wP f m) d
 | 0=>⟨1,by decide,aT2 t⟩
 | m+1=>by
  obtain ⟨d,d0,hd⟩:=bz9 h c0 m
  exact ⟨c*d,mnz c0 d0,h.mul hd⟩
theorem bz3 {t:Rat}:∀ {L:List (Fp × Nat)},aw L t ≠ 0->∃ d,d ≠ 0/\At t (fP (tfs (L.map rt1))) d
 | [],_=>⟨1,by decide,aT2 t⟩
 | x :: r,h=>by
  have h1:wrt x.1 t ≠ 0:=λz=>h (by show wrt x.1 t*aw r t=0;rw [z];grind)
  have h2:aw r t ≠ 0:=λz=>h (by show wrt x.1 t*aw r t=0;rw [z];grind)
  obtain ⟨c,c0,hc⟩:=bz3 h2
  obtain ⟨d,d0,hd⟩:=bz9 (bA0 x.1 t) h1 x.2
  exact ⟨d*c,mnz d0 c0,hd.mul hc⟩
theorem aq8 {t:Rat} {x:Fp}:∀ {L:List (Fp × Nat)},x ∈ L.map (·.1)->wrt x t=0->aw L t=0
 | [],h,_=>by cases h
 | y :: r,h,z=>by
  show wrt y.1 t*aw r t=0
  rcases z0a.mp h with e | e
  ·have e:x=y.1:=e
   rw [<- e,z];grind
  ·rw [aq8 e z];grind
theorem Drn.nz {ps:List Rat} {L:List (Fp × Nat)} {rs:List Rtu} {few:Nat} {ap:Bool} (D:Drn ps L rs few ap) {t:Rat} (h:aw L t ≠ 0):evQ t ps ≠ 0:=by
 obtain ⟨k,n,hp⟩:=D.ex
 obtain ⟨d,d0,hd⟩:=bz3 h
 have h1:=aN6 t ps
 rw [hp.e] at h1
 have e:=M9 h1 ((Q3 t k).mul hd)
 rw [e]
 exact mnz hp.k0 d0
theorem bz7 {T:List Int} {L:List (Fp × Nat)} {c:Rat} (h:∀ x ∈ L,1<=x.2) (e:zp T=a8 c*aP (tfs (L.map rt1)) 1) (t:Rat):evQ t (T.map λv:Int=>(v:Rat))=c*aw L t:=by
 have h1:=aN6 t (T.map λv:Int=>(v:Rat))
 rw [<- bd6,e] at h1
 exact M9 h1 ((Q3 t c).mul (bA3 t h))
theorem aJ0:∀ (n:Nat) (p:Pf),Dg p.f n->p ≠ 0->∀ zs:List Rat,zs.Nodup->(∀ z ∈ zs,At z p 0)->zs.length<n
 | 0,p,d,h,_,_,_=>absurd (Pf.ext λk=>by rw [d k (j0g _),t4]) h
 | n+1,p,d,h,[],_,_=>Nat.succ_pos n
 | n+1,p,d,h,z :: r,nd,hz=>by
  obtain ⟨c,R,dR,e⟩:=hor z n p d
  have c0:c=0:=M9 (p:=p) (a:=z) ⟨R,⟨n,dR⟩,e⟩ (hz z q0c)
  have e':p=(pX-a8 z)*R:=by rw [e,c0,show a8 (0:Rat)=0 from p0];grind
  have R0:R ≠ 0:=λq=>h (by rw [e',q];grind)
  obtain ⟨n1,n2⟩:=j0r.mp nd
  have:=aJ0 n R dR R0 r n2 λw hw=>by
   obtain ⟨d',hd⟩:=bA1 w (⟨n,dR⟩:Fn R)
   have h1:=(aI4 w z).mul hd
   rw [<- e'] at h1
   have h2:=M9 h1 (hz w (q0b _ hw))
   have wz:w-z ≠ 0:=λq=>n1 (by rw [show z=w by grind];exact hw)
   have d0:d'=0:=by
    rcases z0x.mp h2 with y | y
    ·exact absurd y wz
    ·exact y
   rw [d0] at hd
   exact hd
  rw [z0t];lia
theorem bq8 {T:List Int} (tz:v2 T T.length) (T0:T ≠ []) {zs:List Rat} (nd:zs.Nodup) (h:∀ z ∈ zs,evQ z (T.map λv:Int=>(v:Rat))=0):zs.length<T.length:=by
 have l:=au0 tz (j0p.mpr T0)
 have pos:=j0p.mpr T0
 have d:=l.dg
 rw [show T.length-1+1=T.length by omega] at d
 refine aJ0 T.length (zp T) d l.nz zs nd λz hz=>?_
 have:=aN6 z (T.map λv:Int=>(v:Rat))
 rw [<- bd6,h z hz] at this
 exact this
theorem bL2 {x a m:Rat} (hx:x*x=1) (h1:-m<=a) (h2:a<=m):-m<=x*a:=by
 have:(x-1)*(x+1)=0:=by grind
 rcases z0x.mp this with y | y
 ·have:x=1:=by grind
  rw [this];grind
 ·have:x=-1:=by grind
  rw [this];grind
theorem au5 {β y s g m:Rat} (hβ:0<β) (hy:2*β<=y) (hs:s*s=1) (hg:g*g=1) (hm:0<m):∀ l:List Rat,l ≠ []->(∀ i a,l[i]? = some a->-(β ^ (l.length-1-i)*m)<=a/\a<=β ^ (l.length-1-i)*m)->(∀ a,l.getLast? = some a->g*a=m)->β ^ (l.length-1)*m<=sp s (l.length-1)*g*evQ (s*y) l
 | [],h,_,_=>absurd rfl h
 | [a],_,_,hl=>by
  have:=hl a rfl
  show β ^ 0*m<=sp s 0*g*(a+s*y*0)
  rw [j1g]
  show 1*m<=1*g*(a+s*y*0)
  grind
 | a :: b :: r,_,hb,hl=>by
  have ih:=au5 hβ hy hs hg hm (b :: r) (by simp) (λi c e=>by
   have:=hb (i+1) c (by simpa using e)
   simp only [z0t] at this ⊢
   rw [show r.length+1-1-i=r.length+1+1-1-(i+1) by simp]
   exact this) (λc e=>hl c (by rw [g0d];exact e))
  obtain ⟨a1,a2⟩:=hb 0 a rfl
  simp only [z0t,z0z,u0w] at ih a1 a2 ⊢
  have bp:0<β ^ r.length:=Rat.pow_pos hβ
  rw [q1e] at a1 a2 ⊢
  show _<=s*sp s r.length*g*(a+s*y*evQ (s*y) (b :: r))
  have sq:=aU2 hs r.length
  have hx:(s*sp s r.length*g)*(s*sp s r.length*g)=1:=by
   generalize sp s r.length=x at *
   grind
  have h1:=bL2 hx a1 a2
  generalize evQ (s*y) (b :: r)=E at *
  generalize sp s r.length=x at *
  generalize β ^ r.length=B at *
  have e:s*x*g*(a+s*y*E)=s*x*g*a+y*(x*g*E):=by
   have:s*x*g*(s*y*E)=(s*s)*(y*(x*g*E)):=by grind
   rw [Rat.mul_add,this,hs];grind
  rw [e]
  have h2:2*β*(B*m)<=y*(x*g*E):=by
   have p1:0<=B*m:=y0c (z0p bp hm)
   have q1:=m0c hy p1
   have q2:=j0d ih (show 0<=y by grind)
   exact g0a q1 q2
  grind
structure Rsp (rs:List Rtu) (Z:Rat->Prop):Prop where
 mono:∀ {i j:Nat} {r s:Rtu},i<j->rs[i]? = some r->rs[j]? = some s->∀ c,abv c r=true->abv c s=true
 sep:∀ {i j:Nat} {r s:Rtu},i<j->rs[i]? = some r->rs[j]? = some s->∀ {a b:Rat},abv a r=true->abv b s=false->(1 / 36:Rat)<b-a
 pos:∀ r ∈ rs,∀ c,Z c->abv c r=false->0<ag2 c r
theorem bj2 {u v:Rat} (hu:N9 u) (hv:N9 v) (h:u<v):(1 / 36:Rat)<=v-u:=by
 have eu:=aj3 u
 have ev:=aj3 v
 have du:=u.den_pos
 have dv:=v.den_pos
 have hD:u.den*v.den<=36:=j0f hu.d hv.d
 have Dp:0<u.den*v.den:=j0s du dv
 have e:(v-u)*((u.den*v.den:Nat):Rat)=((v.num*u.den-u.num*v.den:Int):Rat):=by
  rw [g0x,q0n,q0n,q0x,q0x,y0s,<- eu,<- ev];grind
 have Dq:(0:Rat)<((u.den*v.den:Nat):Rat):=by rw [<- q0x];exact j0u.mpr (by lia)
 have D36:((u.den*v.den:Nat):Rat)<=36:=by rw [<- q0x];exact j0c.mpr (show ((u.den*v.den:Nat):Int)<=36 by lia)
 have zp:(0:Rat)<((v.num*u.den-u.num*v.den:Int):Rat):=by rw [<- e];exact z0p (by grind) Dq
 have z1:(1:Rat)<=((v.num*u.den-u.num*v.den:Int):Rat):=by
  have:=j0u.mp zp
  exact j0c.mpr (show (1:Int)<=_ by omega)
 rw [<- e] at z1
 have:=j0d D36 (show 0<=v-u by grind)
 grind
theorem bF6 {v:Rat} (hv:N9 v) (h:0<v):(1 / 36:Rat)<=v:=by
 have:=bj2 aG5 hv h
 grind
theorem bK8 {a v:Rat} (ha:0<a) (hv:(1 / 36:Rat)<=v) (h:v<=a*a):(1 / 36:Rat)<a:=by
 refine Classical.byContradiction λz=>?_
 have z':a<=1 / 36:=by grind
 have:=j0d z' (y0c ha)
 grind
theorem Drn.rsp {ps:List Rat} {L:List (Fp × Nat)} {rs:List Rtu} {few:Nat} {ap:Bool} (D:Drn ps L rs few ap):Rsp rs λc=>aw L c ≠ 0:=by
 cases ap with
 | false =>
  obtain ⟨pl,_,ik⟩:=D.pl rfl
  have so:=D.so rfl
  have o0:∀ {i:Nat} {r:Rtu},rs[i]? = some r->r.o=0:=λe=>(pl.1 _ (q0p e)).1
  have lt:∀ {i j:Nat} {r s:Rtu},i<j->rs[i]? = some r->rs[j]? = some s->r.u<s.u:=fun {i j r s} hij e1 e2=>by
   obtain ⟨h1,g1⟩:=q0g.mp e1
   obtain ⟨h2,g2⟩:=q0g.mp e2
   have:=List.pairwise_iff_getElem.mp so i j (by rw [q0e];exact h1) (by rw [q0e];exact h2) hij
   rw [q1h,q1h,g1,g2] at this
   exact this
  have ab:∀ {c:Rat} {r:Rtu},r.o=0->abv c r=decide (c<r.u):=λh=>by unfold abv;rw [if_pos h]
  refine ⟨fun {i j r s} hij e1 e2 c h=>?_,fun {i j r s} hij e1 e2 {a b} h1 h2=>?_,λr hr c hc h=>?_⟩
  ·rw [ab (o0 e1)] at h
   rw [ab (o0 e2)]
   have:=lt hij e1 e2
   have:=of_decide_eq_true h
   exact decide_eq_true (by grind)
  ·rw [ab (o0 e1)] at h1
   rw [ab (o0 e2)] at h2
   have l:=lt hij e1 e2
   have h1:=of_decide_eq_true h1
   have h2:=of_decide_eq_false h2
   have:=bj2 (D.ro r (q0p e1)).1 (D.ro s (q0p e2)).1 l
   grind
  ·have o:=(pl.1 r hr).1
   rw [ab o] at h
   have h:=of_decide_eq_false h
   unfold ag2
   rw [if_pos o,ap8]
   refine Classical.byContradiction λz=>hc ?_
   refine aq8 ((ik r.u).mp (q0w.mpr ⟨r,hr,rfl⟩)) ?_
   show c-r.u=0
   grind
 | true =>
  obtain ⟨u,v,v0,rfl,mem,_⟩:=D.qd rfl
  have nv:=(D.ro ⟨u,1,v⟩ (by simp)).2.1
  have v36:=bF6 nv v0
  have am:∀ c:Rat,abv c ⟨u,-1,v⟩=(decide (c-u<0) && decide (v<(c-u)*(c-u))):=λc=>rfl
  have ap':∀ c:Rat,abv c ⟨u,1,v⟩=(decide (c-u<=0) || decide ((c-u)*(c-u)<v)):=λc=>rfl
  have two:∀ {i j:Nat} {r s:Rtu},i<j->[(⟨u,-1,v⟩:Rtu),⟨u,1,v⟩][i]? = some r->[(⟨u,-1,v⟩:Rtu),⟨u,1,v⟩][j]? = some s->r=⟨u,-1,v⟩/\s=⟨u,1,v⟩:=fun {i j r s} hij e1 e2=>by
   have:=(q0g.mp e2).1
   have j1:j=1:=by simp at this;lia
   have i0:i=0:=by lia
   subst j1 i0
   exact ⟨(Option.some.inj e1).symm,(Option.some.inj e2).symm⟩
  have nz:∀ c:Rat,aw L c ≠ 0->(c-u)*(c-u) ≠ v:=λc hc z=>hc (aq8 mem (by show (c-u)*(c-u) + -v=0;grind))
  refine ⟨fun {i j r s} hij e1 e2 c h=>?_,fun {i j r s} hij e1 e2 {a b} h1 h2=>?_,λr hr c hc h=>?_⟩
  ·obtain ⟨rfl,rfl⟩:=two hij e1 e2
   rw [am,y0a] at h
   rw [ap',u0a]
   exact .inl (decide_eq_true (by have:=of_decide_eq_true h.1;grind))
  ·obtain ⟨rfl,rfl⟩:=two hij e1 e2
   rw [am,y0a] at h1
   rw [ap',g0z] at h2
   have a1:=of_decide_eq_true h1.1
   have a2:=of_decide_eq_true h1.2
   have b1:=of_decide_eq_false h2.1
   have b2:=of_decide_eq_false h2.2
   have s1:=bK8 (a:=u-a) (v:=v) (by grind) v36 (by grind)
   grind
  ·have n:=nz c hc
   simp only [z0a,q1g,or_false] at hr
   rcases hr with rfl | rfl
   ·rw [am,z1f] at h
    unfold ag2
    show 0<(if (-1:Int)=0 then _ else if sg3 (c-u) ≠ -1 then 0-(-1:Int) else -1*sg3 ((c-u)*(c-u)-v))
    rw [if_neg (by decide)]
    by_cases z:sg3 (c-u)=-1
    ·rw [if_neg (λy=>y z)]
     have c1:=(aP0 _).mp z
     have c2:¬ v<(c-u)*(c-u):=by
      rcases h with h | h
      ·exact absurd c1 (of_decide_eq_false h)
      ·exact of_decide_eq_false h
     have:=(ap9 ((c-u)*(c-u)-v)).mpr (by grind)
     lia
    ·rw [if_pos z];decide
   ·rw [ap',g0z] at h
    have c1:=of_decide_eq_false h.1
    have c2:=of_decide_eq_false h.2
    unfold ag2
    show 0<(if (1:Int)=0 then _ else if sg3 (c-u) ≠ 1 then 0-(1:Int) else 1*sg3 ((c-u)*(c-u)-v))
    rw [if_neg (by decide),if_neg (λy=>y ((aD9 _).mpr (by grind)))]
    have:=(ap8 ((c-u)*(c-u)-v)).mpr (by grind)
    omega
theorem V4 (q:Rtu->Bool):∀ {l:List Rtu},(∀ {i j:Nat} {r s:Rtu},i<j->l[i]? = some r->l[j]? = some s->q r=true->q s=true)->∀ {i:Nat} {r:Rtu},l[i]? = some r->(q r=true ↔ l.length<=i+l.countP q)
 | [],_,i,r,e=>by simp at e
 | x :: t,h,i,r,e=>by
  have ht:∀ {i j:Nat} {r s:Rtu},i<j->t[i]? = some r->t[j]? = some s->q r=true->q s=true:=fun {i j r s} hij e1 e2=>h (i:=i+1) (j:=j+1) ⋯ (by simpa using e1) (by simpa using e2)
  have lc:=z1g (p:=q) (l:=t)
  rw [z0c,z0t]
  by_cases hx:q x=true
  ·have all:∀ y ∈ t,q y=true:=λy hy=>by
    obtain ⟨j,hj,ej⟩:=y0q hy
    exact h (i:=0) (j:=j+1) (r:=x) (s:=y) (by simp) rfl (by rw [v0z,q0d hj,ej]) hx
   rw [if_pos hx,g0r.mpr all]
   refine ⟨λ_=>by simp,λ_=>?_⟩
   rcases z0a.mp (q0p e) with z | z
   ·rw [z];exact hx
   ·exact all r z
  ·rw [if_neg hx]
   cases i with
   | zero =>
    have:x=r:=by simpa using e
    subst this
    exact ⟨λz=>absurd z hx,λz=>by lia⟩
   | succ i =>
    have:=V4 q ht (i:=i) (r:=r) (by simpa using e)
    rw [this];lia
def dom:Nat->Nat->Nat
 | 0,0=>1
 | 0,_+1=>0
 | n+1,0=>10*dom n 0
 | n+1,k+1=>dom n k+10*dom n (k+1)
def Bnd (p:Pf) (e:Nat->Rat):Prop:=∀ k,-(e k)<=p.f k/\p.f k<=e k
def N7 (n k:Nat):Rat:=((dom n k:Nat):Rat)
theorem bF5 (n:Nat):(0:Rat)<=((n:Nat):Rat):=by rw [<- q0x];exact Rat.intCast_nonneg.mpr (by simp)
theorem bL8 {u a m:Rat} (h1:-9<=u) (h2:u<=9) (h3:-m<=a) (h4:a<=m):-(9*m)<=u*a/\u*a<=9*m:=by
 have a1:=z0j (show 0<=9-u by grind) (show 0<=m+a by grind)
 have a2:=z0j (show 0<=9+u by grind) (show 0<=m-a by grind)
 have a3:=z0j (show 0<=9-u by grind) (show 0<=m-a by grind)
 have a4:=z0j (show 0<=9+u by grind) (show 0<=m+a by grind)
 constructor <;> grind
def e9 (e:Nat->Rat) (k:Nat):Rat:=(if k=0 then 0 else e (k-1))+9*e k
theorem Bnd.lin {p:Pf} {e:Nat->Rat} {u:Rat} (h:Bnd p e) (h1:-9<=u) (h2:u<=9):Bnd ((pX-a8 u)*p) (e9 e):=λk=>by
 have ef:((pX-a8 u)*p).f k=(pX*p).f k-u*p.f k:=by
  rw [show (pX-a8 u)*p=pX*p-a8 u*p by grind,C2,C4]
 rw [ef,Y5]
 have m:=bL8 h1 h2 (h k).1 (h k).2
 unfold e9
 by_cases k0:k=0
 ·rw [if_pos k0,if_pos k0];constructor <;> grind
 ·rw [if_neg k0,if_neg k0]
  have:=h (k-1)
  constructor <;> grind
theorem Bnd.c {p:Pf} {e:Nat->Rat} {w:Rat} (h:Bnd p e) (h1:-9<=w) (h2:w<=9):Bnd (a8 w*p) λk=>9*e k:=λk=>by
 rw [C4];exact bL8 h1 h2 (h k).1 (h k).2
theorem Bnd.add {p q:Pf} {e g:Nat->Rat} (h:Bnd p e) (k:Bnd q g):Bnd (p+q) λi=>e i+g i:=λi=>by
 rw [C3]
 have:=h i
 have:=k i
 constructor <;> grind
theorem Bnd.mono {p:Pf} {e g:Nat->Rat} (h:Bnd p e) (l:∀ k,e k<=g k):Bnd p g:=λk=>by
 have:=h k
 have:=l k
 constructor <;> grind
theorem aq4 (n:Nat):N7 (n+1) 0=10*N7 n 0:=by unfold N7;rw [show dom (n+1) 0=10*dom n 0 from rfl,y0s];rfl
theorem am2 (n k:Nat):N7 (n+1) (k+1)=N7 n k+10*N7 n (k+1):=by unfold N7;rw [show dom (n+1) (k+1)=dom n k+10*dom n (k+1) from rfl,u0d,y0s];rfl
theorem aR7 (n k:Nat):0<=N7 n k:=bF5 _
theorem bv9 (n k:Nat):e9 (N7 n) k<=N7 (n+1) k:=by
 unfold e9
 cases k with
 | zero=>rw [if_pos rfl,aq4];have:=aR7 n 0;grind
 | succ k=>rw [if_neg ⋯,am2,show k+1-1=k from rfl];have:=aR7 n (k+1);grind
theorem bo0 (n k:Nat):e9 (e9 (N7 n)) k+9*N7 n k<=N7 (n+2) k:=by
 have p:=aR7 n
 match k with
 | 0 =>
  show (0+9*(0+9*N7 n 0))+9*N7 n 0<=_
  rw [aq4,aq4];have:=p 0;grind
 | 1 =>
  show (e9 (N7 n) 0+9*(N7 n 0+9*N7 n 1))+9*N7 n 1<=_
  rw [show e9 (N7 n) 0=0+9*N7 n 0 from rfl,am2,aq4,am2]
  have:=p 0;have:=p 1;grind
 | k+2 =>
  unfold e9
  rw [if_neg ⋯,if_neg (by simp),am2,am2,am2,show k+2-1=k+1 from rfl,if_neg ⋯,show k+1-1=k from rfl]
  have:=p k;have:=p (k+1);have:=p (k+2)
  grind
theorem aV9 {u:Rat} (h:N9 u):-9<=u/\u<=9:=by
 have e:=aj3 u
 have d:=u.den_pos
 have n:=h.n
 have dq:(1:Rat)<=((u.den:Nat):Rat):=by rw [<- q0x];exact j0c.mpr (show (1:Int)<=_ by omega)
 have a1:(-9:Rat)<=((u.num:Int):Rat):=j0c.mpr (show (-9:Int)<=_ by omega)
 have a2:((u.num:Int):Rat)<=9:=j0c.mpr (show _<=(9:Int) by omega)
 rw [<- e] at a1 a2
 constructor
 ·refine Classical.byContradiction λz=>?_
  have:=j0d dq (show 0<=-u by grind)
  grind
 ·refine Classical.byContradiction λz=>?_
  have:=j0d dq (show 0<=u by grind)
  grind
theorem bI0 {x:Fp} (hu:N9 x.u) (hw:N9 x.w) {p:Pf} {n:Nat} (h:Bnd p (N7 n)):Bnd (x.f*p) (N7 (n+x.n)):=by
 obtain ⟨u1,u2⟩:=aV9 hu
 obtain ⟨w1,w2⟩:=aV9 hw
 unfold Fp.f Fp.n
 split
 ·exact (h.lin u1 u2).mono (bv9 n)
 ·rw [show ((pX-a8 x.u)*(pX-a8 x.u)+a8 x.w)*p=(pX-a8 x.u)*((pX-a8 x.u)*p)+a8 x.w*p by grind]
  exact (((h.lin u1 u2).lin u1 u2).add (h.c w1 w2)).mono (bo0 n)
theorem bw5:Bnd 1 (N7 0):=λk=>by
 rw [B7]
 cases k with
 | zero=>rw [if_pos rfl];show -(1:Rat)<=1/\(1:Rat)<=1;constructor <;> grind
 | succ k=>rw [if_neg ⋯];show -(0:Rat)<=0/\(0:Rat)<=0;constructor <;> grind
theorem bp9:∀ {L:List (Fp × Nat)},(∀ x ∈ L,1<=x.2/\N9 x.1.u/\N9 x.1.w)->Bnd (aP (tfs (L.map rt1)) 1) (N7 (nT (L.map rt1)))
 | [],_=>bw5
 | x :: r,h=>by
  obtain ⟨h1,h2,h3⟩:=h x q0c
  have ih:=bp9 (L:=r) λy hy=>h y (q0b _ hy)
  show Bnd (if 1<=x.2 then x.1.f*aP (tfs (r.map rt1)) 1 else _) (N7 (x.1.n+nT (r.map rt1)))
  rw [if_pos h1,q1b]
  exact bI0 h2 h3 ih
theorem bm6 (x:Fp):x.f.f x.n=1:=by
 unfold Fp.f Fp.n
 have l1:(pX-a8 x.u).f 1=1:=by rw [C2,aP8,J2,if_pos rfl,if_neg ⋯];trivial
 split
 ·exact l1
 ·rw [C3,J2,if_neg ⋯]
  have:((pX-a8 x.u)*(pX-a8 x.u)).f 2=(pX-a8 x.u).f 1*(pX-a8 x.u).f 1:=ad6 (P9 x.u).dg (P9 x.u).dg
  rw [this,l1];trivial
theorem bp8:∀ {L:List (Fp × Nat)},FL L->(aP (tfs (L.map rt1)) 1).f (nT (L.map rt1))=1
 | [],_=>rfl
 | x :: r,h=>by
  have ih:=bp8 h.tail
  show (if 1<=x.2 then x.1.f*aP (tfs (r.map rt1)) 1 else _).f (x.1.n+nT (r.map rt1))=1
  rw [if_pos (h.ok x q0c).2]
  have:(x.1.f*aP (tfs (r.map rt1)) 1).f (x.1.n+nT (r.map rt1))=x.1.f.f x.1.n*(aP (tfs (r.map rt1)) 1).f (nT (r.map rt1)):=ad6 (Fp.rf (h.ok x q0c).1).lm.dg (aa4 h.tail.rtok).dg
  rw [this,bm6,ih];trivial
structure Hd0 (T:List Int) (L:List (Fp × Nat)):Prop where
 c:∃ c,c ≠ 0/\zp T=a8 c*aP (tfs (L.map rt1)) 1
 tz:v2 T T.length
 ne:T ≠ []
 fl:FL L
 n9:∀ x ∈ L,N9 x.1.u/\N9 x.1.w
 n8:nT (L.map rt1)<=8
theorem Hd0.len {T:List Int} {L:List (Fp × Nat)} (h:Hd0 T L):T.length=nT (L.map rt1)+1:=by
 obtain ⟨c,c0,e⟩:=h.c
 have pos:=j0p.mpr h.ne
 have l1:=au0 h.tz pos
 rw [e] at l1
 have l2:Lm (a8 c*aP (tfs (L.map rt1)) 1) (nT (L.map rt1)):=(aa4 h.fl.rtok).c c0
 have:=Y1 l1 l2
 lia
theorem Hd0.ok1 {T:List Int} {L:List (Fp × Nat)} (h:Hd0 T L):∀ x ∈ L,1<=x.2:=λx hx=>(h.fl.ok x hx).2
theorem Hd0.lead {T:List Int} {L:List (Fp × Nat)} (h:Hd0 T L):aZ T (nT (L.map rt1)) ≠ 0/\∀ k,(aZ T k).natAbs<=dom (nT (L.map rt1)) k*(aZ T (nT (L.map rt1))).natAbs:=by
 obtain ⟨c,c0,e⟩:=h.c
 have m:=bp8 h.fl
 have b:=bp9 λx hx=>⟨h.ok1 x hx,h.n9 x hx⟩
 have ev:∀ k,((aZ T k:Int):Rat)=c*(aP (tfs (L.map rt1)) 1).f k:=λk=>by
  have:=congrArg (λz:Pf=>z.f k) e
  exact this.trans (C4 _ _ _)
 have el:((aZ T (nT (L.map rt1)):Int):Rat)=c:=by rw [ev,m];grind
 have l0:aZ T (nT (L.map rt1)) ≠ 0:=λz=>c0 (by rw [<- el,z];rfl)
 refine ⟨l0,λk=>?_⟩
 obtain ⟨b1,b2⟩:=b k
 have ek:=ev k
 rw [<- el] at ek
 generalize aZ T (nT (L.map rt1))=l at *
 generalize aZ T k=w at *
 generalize (aP (tfs (L.map rt1)) 1).f k=f at *
 unfold N7 at b1 b2
 generalize dom (nT (L.map rt1)) k=d at *
 rcases Int.lt_or_lt_of_ne l0 with z | z
 ·have zl:(0:Rat)<=-((l:Int):Rat):=by have:=m0d.mpr z;grind
  have q1:=j0d b1 zl
  have q2:=j0d b2 zl
  have e1:((w:Int):Rat)<=((-l*d:Int):Rat):=by rw [q0n,j0z,q0x,ek];grind
  have e2:((-(-l*d):Int):Rat)<=((w:Int):Rat):=by rw [j0z,q0n,j0z,q0x,ek];grind
  have f1:=j0c.mp e1
  have f2:=j0c.mp e2
  have:d*l.natAbs=(-l*d).natAbs:=by rw [z0f,y0z,q0k,u0g]
  rw [this]
  have p0:0<=-l*(d:Int):=Int.mul_nonneg (by lia) (by simp)
  omega
 ·have zl:(0:Rat)<=((l:Int):Rat):=y0c (j0u.mpr z)
  have q1:=j0d b1 zl
  have q2:=j0d b2 zl
  have e1:((w:Int):Rat)<=((l*d:Int):Rat):=by rw [q0n,q0x,ek];grind
  have e2:((-(l*d):Int):Rat)<=((w:Int):Rat):=by rw [j0z,q0n,q0x,ek];grind
  have f1:=j0c.mp e1
  have f2:=j0c.mp e2
  have:d*l.natAbs=(l*d).natAbs:=by rw [z0f,q0k,u0g]
  rw [this]
  have p0:0<=l*(d:Int):=Int.mul_nonneg (by lia) ⋯
  omega
theorem bv8:∀ n,n<=8->∀ k,1<=k->k<=n->dom n (n-k)<2 ^ (8*k-1):=by
 have:∀ n:Fin 9,∀ k:Fin 9,1<=k.val->k.val<=n.val->dom n (n-k)<2 ^ (8*k.val-1):=by trivial
 intro n hn k h1 h2
 exact this ⟨n,⋯⟩ ⟨k,by lia⟩ h1 h2
theorem aY2 (w:Int):w.natAbs<2 ^ Builtin.Int.intBits w:=by
 unfold Builtin.Int.intBits
 by_cases z:w=0
 ·rw [z];decide
 ·rw [if_neg (by simpa using z)];exact Nat.lt_log2_self
theorem bw6 {w:Int} (h:w ≠ 0):1<=Builtin.Int.intBits w/\2 ^ (Builtin.Int.intBits w-1)<=w.natAbs:=by
 unfold Builtin.Int.intBits
 rw [if_neg (by simpa using h)]
 exact ⟨by simp,by rw [z0z];exact Nat.log2_self_le ⋯⟩
structure Hgh (T:List Int) (n h:Nat):Prop where
 b:∀ k,1<=k->k<=n->(aZ T (n-k)).natAbs<=2 ^ (h*k)*(aZ T n).natAbs
theorem bH5 {w l:Int} (l0:l ≠ 0) {h k:Nat} (hb:(Builtin.Int.intBits w:Int)-(Builtin.Int.intBits l:Int)+1<=(h:Int)*(k:Int)):w.natAbs<=2 ^ (h*k)*l.natAbs:=by
 obtain ⟨l1,l2⟩:=bw6 l0
 have w1:=aY2 w
 have:(Builtin.Int.intBits w:Int)<=((h*k:Nat):Int)+((Builtin.Int.intBits l-1:Nat):Int):=by rw [j0e];omega
 have e:Builtin.Int.intBits w<=h*k+(Builtin.Int.intBits l-1):=⋯
 have p:=c9 e
 rw [y0e] at p
 have:=y0m (2 ^ (h*k)) l2
 lia
theorem bJ5 {w l:Int} {d k:Nat} (hw:w.natAbs<=d*l.natAbs) (hd:d<2 ^ (8*k-1)) (hk:1<=k):(Builtin.Int.intBits w:Int)-(Builtin.Int.intBits l:Int)+1<=8*(k:Int):=by
 have l1:=aY2 l
 have h1:w.natAbs<2 ^ (8*k-1+Builtin.Int.intBits l):=by
  rw [y0e]
  have a:=j0f (y0p hd) (y0p l1)
  rcases v0k l.natAbs with z | z
  ·rw [z,Nat.mul_zero] at hw
   have:=j0s (y0g (8*k-1)) (y0g (Builtin.Int.intBits l))
   lia
  ·have b:=u0m hd (y0p l1) (y0g _)
   have c:=y0m d (y0p l1)
   have d':=u0m hd (q0q (2 ^ Builtin.Int.intBits l)) (y0g _)
   lia
 have:=K4 h1
 lia
structure En where
 l:Int
 h:Int
 b:Int
 cl:Nat
 ch:Nat
 n:Nat
def En.lo (e:En):Rat:=q0s e.l e.b
def En.hi (e:En):Rat:=q0s e.h e.b
structure Y6 (rs:List Rtu) (Z:Rat->Prop) (e:En):Prop where
 bp:0<e.b
 lh:e.l<e.h
 n1:e.n<=100
 bb:e.b<=10 ^ (100-e.n)
 lb:-(512*e.b)<=e.l
 hb:e.h<=512*e.b
 wd:36*9 ^ e.n*(e.h-e.l)<10 ^ e.n*e.b
 el:rs.countP (abv e.lo)=e.cl
 eh:rs.countP (abv e.hi)=e.ch
 zl:Z e.lo
 zh:Z e.hi
theorem aR9 {a b c d:Int} (hb:0<b) (hd:0<d):q0s a b<=q0s c d ↔ a*d<=c*b:=by
 have bq:(0:Rat)<(b:Rat):=j0u.mpr hb
 have dq:(0:Rat)<(d:Rat):=j0u.mpr hd
 rw [j0n,j0n]
 have e1:(a:Rat) / b*b=a:=y0h (q1j bq)
 have e2:(c:Rat) / d*d=c:=y0h (q1j dq)
 have pp:=z0p bq dq
 generalize (a:Rat) / b=x at *
 generalize (c:Rat) / d=y at *
 have key:x<=y ↔ x*(b*d)<=y*(b*d):=⟨λh=>m0c h (y0c pp),λh=>Classical.byContradiction λz=>by
  have:=m0n (show y<x by grind) pp
  grind⟩
 rw [key,<- j0c,q0n,q0n]
 have f1:x*(b*d)=a*d:=by rw [<- z1u,e1]
 have f2:y*(b*d)=c*b:=by rw [j1d (b:Rat),<- z1u,e2]
 rw [f1,f2]
theorem aR8 {a b c d:Int} (hb:0<b) (hd:0<d):q0s a b<q0s c d ↔ a*d<c*b:=by
 have:=aR9 (a:=c) (c:=a) hd hb
 rw [<- Rat.not_le,this];simp
theorem Y6.lt {rs:List Rtu} {Z:Rat->Prop} {e:En} (h:Y6 rs Z e):e.lo<e.hi:=(aR8 h.bp h.bp).mpr (Int.mul_lt_mul_of_pos_right h.lh h.bp)
theorem Y6.cc {rs:List Rtu} {Z:Rat->Prop} {e:En} (h:Y6 rs Z e):e.ch<=e.cl:=by
 rw [<- h.el,<- h.eh]
 exact List.countP_mono_left λx _=>bq1 h.lt x
theorem Y6.two {rs:List Rtu} {Z:Rat->Prop} {e:En} (R:Rsp rs Z) (h:Y6 rs Z e) (k:e.ch+2<=e.cl):e.b<36*(e.h-e.l):=by
 have lc:=z1g (p:=abv e.lo) (l:=rs)
 have el:=h.el
 have eh:=h.eh
 have hi:rs.length-e.cl<rs.length:=by lia
 have hj:rs.length-e.cl+1<rs.length:=by lia
 have e1:=q0d hi
 have e2:=q0d hj
 have a1:=(V4 (abv e.lo) (λhij x y=>R.mono hij x y _) e1).mpr (by lia)
 have a2:abv e.hi rs[rs.length-e.cl+1]=false:=by
  have:=(V4 (abv e.hi) (λhij x y=>R.mono hij x y _) e2)
  cases z:abv e.hi rs[rs.length-e.cl+1] with
  | false=>rfl
  | true=>have:=this.mp z;lia
 have s:=R.sep (y0r _) e1 e2 a1 a2
 unfold En.hi En.lo at s
 rw [j0n,j0n] at s
 have bq:(0:Rat)<(e.b:Rat):=j0u.mpr h.bp
 have s2:(1 / 36:Rat)*(e.b:Rat)<(e.h:Rat)-(e.l:Rat):=by
  have:=m0n s bq
  have f1:(e.h:Rat) / e.b*e.b=e.h:=y0h (q1j bq)
  have f2:(e.l:Rat) / e.b*e.b=e.l:=y0h (q1j bq)
  generalize (e.h:Rat) / e.b=x at *
  generalize (e.l:Rat) / e.b=y at *
  grind
 have s3:((e.b:Int):Rat)<((36*(e.h-e.l):Int):Rat):=by
  rw [q0n,g0x]
  show (e.b:Rat)<36*_
  grind
 exact Rat.intCast_lt_intCast.mp s3
theorem Y6.npos {rs:List Rtu} {Z:Rat->Prop} {e:En} (R:Rsp rs Z) (h:Y6 rs Z e) (k:e.ch+2<=e.cl):1<=e.n:=by
 have w:=h.wd
 have t:=h.two R k
 rcases v0k e.n with z | z
 ·rw [z] at w
  simp only [Int.pow_zero] at w
  lia
 ·exact z
def En.up (e:En) (q:Int) (c:Nat):En:=⟨e.l*(q-1)+e.h,e.h*q,e.b*q,c,e.ch,e.n-1⟩
def En.dn (e:En) (q:Int) (c:Nat):En:=⟨e.l*q,e.l*(q-1)+e.h,e.b*q,e.cl,c,e.n-1⟩
theorem aB3 {a b q:Int} (hb:0<b) (hq:0<q):q0s (a*q) (b*q)=q0s a b :=
 (y0b (v0b ⋯ ⋯) ⋯).mpr (by rw [z1t,u0v q b])
theorem aZ0 {X Y:Int} {q:Int} (h:9*X<10*Y) (q2:2<=q) (q10:q<=10) (x0:0<X):X<q*Y/\(q-1)*X<q*Y:=by
 have y0:0<Y:=by lia
 have a:q=2 \/ q=3 \/ q=4 \/ q=5 \/ q=6 \/ q=7 \/ q=8 \/ q=9 \/ q=10:=by lia
 rcases a with rfl | rfl | rfl | rfl | rfl | rfl | rfl | rfl | rfl <;> lia
theorem Y6.parts {rs:List Rtu} {Z:Rat->Prop} {e:En} (h:Y6 rs Z e) (n0:1<=e.n) {q:Int} (q2:2<=q) (q10:q<=10) {c:Nat} (ec:rs.countP (abv (q0s (e.l*(q-1)+e.h) (e.b*q)))=c) (zc:Z (q0s (e.l*(q-1)+e.h) (e.b*q))):Y6 rs Z (e.up q c)/\Y6 rs Z (e.dn q c)/\(e.up q c).hi=e.hi/\(e.dn q c).lo=e.lo/\(e.up q c).lo=(e.dn q c).hi:=by
 obtain ⟨m,hm⟩:∃ m,e.n=m+1:=⟨e.n-1,by lia⟩
 have bp:=h.bp
 have lh:=h.lh
 have n1:=h.n1
 have bq:0<e.b*q:=u0n bp (by lia)
 have hl:=h.lb
 have hh:=h.hb
 have wd:=h.wd
 have bb:=h.bb
 rw [hm,q1f,q1f] at wd
 have x0:0<36*9 ^ m*(e.h-e.l):=u0n (u0n (by decide) (j1m (by decide))) (by lia)
 obtain ⟨w1,w2⟩:=aZ0 (X:=36*9 ^ m*(e.h-e.l)) (Y:=10 ^ m*e.b) (q:=q) (by
  have e1:36*(9 ^ m*9)*(e.h-e.l)=9*(36*9 ^ m*(e.h-e.l)):=by grind
  have e2:10 ^ m*10*e.b=10*(10 ^ m*e.b):=by grind
  rw [e1,e2] at wd
  exact wd) q2 q10 x0
 have en:e.n-1=m:=by lia
 have b10:e.b*q<=10 ^ (100-m):=by
  rw [show 100-m=100-e.n+1 by lia,q1f]
  exact Int.mul_le_mul bb q10 (by lia) (Int.le_of_lt (j1m (by decide)))
 have pl:e.l*q<e.l*(q-1)+e.h:=by rw [Int.mul_sub,j1j];lia
 have dq:(q-1)*(e.h-e.l)=e.h*q-(e.l*(q-1)+e.h):=by grind
 have ph:e.l*(q-1)+e.h<e.h*q:=by
  have:0<(q-1)*(e.h-e.l):=u0n (by lia) (by lia)
  lia
 have lq:-(512*(e.b*q))<=e.l*q:=by
  have:=v0d hl (show 0<=q by omega)
  grind
 have hq:e.h*q<=512*(e.b*q):=by
  have:=v0d hh (show 0<=q by omega)
  grind
 have eu:(e.up q c).hi=e.hi:=aB3 bp ⋯
 have ed:(e.dn q c).lo=e.lo:=aB3 bp ⋯
 refine ⟨⟨bq,ph,by show e.n-1<=100;lia,by show e.b*q<=10 ^ (100-(e.n-1));rw [en];exact b10,by show -(512*(e.b*q))<=e.l*(q-1)+e.h;lia,hq,?_,ec,by rw [eu];exact h.eh,zc,by rw [eu];exact h.zh⟩,⟨bq,pl,by show e.n-1<=100;omega,by show e.b*q<=10 ^ (100-(e.n-1));rw [en];exact b10,lq,by show e.l*(q-1)+e.h<=512*(e.b*q);lia,?_,by rw [ed];exact h.el,ec,by rw [ed];exact h.zl,zc⟩,eu,ed,rfl⟩
 ·show 36*9 ^ (e.n-1)*(e.h*q-(e.l*(q-1)+e.h))<10 ^ (e.n-1)*(e.b*q)
  rw [en,<- dq]
  have e1:36*9 ^ m*((q-1)*(e.h-e.l))=(q-1)*(36*9 ^ m*(e.h-e.l)):=by grind
  have e2:10 ^ m*(e.b*q)=q*(10 ^ m*e.b):=by grind
  rw [e1,e2];exact w2
 ·show 36*9 ^ (e.n-1)*(e.l*(q-1)+e.h-e.l*q)<10 ^ (e.n-1)*(e.b*q)
  rw [en]
  have e0:e.l*(q-1)+e.h-e.l*q=e.h-e.l:=by grind
  have e2:10 ^ m*(e.b*q)=q*(10 ^ m*e.b):=by grind
  rw [e0,e2];exact w1
theorem bL4 {k:Nat} (h:k<=100):(10:Int) ^ k<=10 ^ 100:=by
 have:=v0q (show 0<10 by decide) h
 exact_mod_cast this
theorem bL3:(512:Int)*10 ^ 100<2 ^ 400:=by trivial
theorem Y6.bits {rs:List Rtu} {Z:Rat->Prop} {e:En} (h:Y6 rs Z e):e.l.natAbs<2 ^ 400/\e.h.natAbs<2 ^ 400/\e.b.natAbs<2 ^ 400:=by
 have bp:=h.bp
 have lh:=h.lh
 have b1:e.b<=10 ^ 100:=j1h h.bb (bL4 (by simp))
 have hl:=h.lb
 have hh:=h.hb
 have p:=bL3
 have e2:((2 ^ 400:Nat):Int)=2 ^ 400:=by trivial
 refine ⟨?_,?_,?_⟩ <;> lia
theorem Y6.bd {rs:List Rtu} {Z:Rat->Prop} {e:En} (h:Y6 rs Z e):BdN 400 e.lo/\BdN 400 e.hi:=by
 obtain ⟨a,b,c⟩:=h.bits
 have bp:=h.bp
 have x:=U9 (t:=e.l) (b:=e.b) ⋯
 have y:=U9 (t:=e.h) (b:=e.b) ⋯
 exact ⟨⟨by unfold En.lo;omega,by unfold En.lo;lia⟩,⟨by unfold En.hi;lia,by unfold En.hi;lia⟩⟩
inductive Stk (rs:List Rtu) (Z:Rat->Prop):List En->Nat->Rat->Prop where
 | nil (x:Rat):Stk rs Z [] 0 x
 | snoc {es:List En} {c:Nat} {y x:Rat} {e:En} (h:Stk rs Z es c y) (he:Y6 rs Z e) (hc:e.ch=c) (hy:e.hi<=y) (hx:x<=e.lo):Stk rs Z (es ++ [e]) e.cl x
theorem Stk.weak {rs:List Rtu} {Z:Rat->Prop} {es:List En} {c:Nat} {y x:Rat} (h:Stk rs Z es c y) (l:x<=y):Stk rs Z es c x:=by
 cases h with
 | nil=>exact .nil x
 | snoc h he hc hy hx=>exact .snoc h he hc hy (g0a l hx)
def msr (es:List En):Nat:=(es.map λe=>1+2*e.n*(e.cl-e.ch)).sum
theorem aq1 (es:List En) (e:En):msr (es ++ [e])=msr es+(1+2*e.n*(e.cl-e.ch)):=by
 unfold msr
 rw [j0m,q1u]
 simp
theorem Stk.last {rs:List Rtu} {Z:Rat->Prop} {es:List En} {c:Nat} {x:Rat} (h:Stk rs Z es c x) (ne:es ≠ []):∃ es' e c' y,es=es' ++ [e]/\e.cl=c/\Stk rs Z es' c' y/\Y6 rs Z e/\e.ch=c'/\e.hi<=y/\x<=e.lo:=by
 cases h with
 | nil=>exact absurd rfl ne
 | snoc h he hc hy hx=>exact ⟨_,_,_,_,rfl,rfl,h,he,hc,hy,hx⟩
structure bK4 (rs:List Rtu) (Z:Rat->Prop) (i:Nat) (p:Rat × Rat):Prop where
 b1:BdN 400 p.1
 b2:BdN 400 p.2
 z1:Z p.1
 z2:Z p.2
 c1:rs.countP (abv p.1)+i=rs.length
 c2:rs.countP (abv p.2)+i+1=rs.length
 cb:∃ l h b:Int,0<b/\b<2 ^ 340/\p.1=q0s l b/\p.2=q0s h b/\-(512*b)<=l/\h<=512*b
structure Fnd (rs:List Rtu) (Z:Rat->Prop) (fs:List (Rat × Rat)) (x:Rat):Prop where
 ok:∀ i p,fs[i]? = some p->bK4 rs Z i p
 up:∀ i p q,fs[i]? = some p->fs[i+1]? = some q->p.2<=q.1
 le:∀ p ∈ fs,p.2<=x
theorem Fnd.weak {rs:List Rtu} {Z:Rat->Prop} {fs:List (Rat × Rat)} {x y:Rat} (h:Fnd rs Z fs x) (l:x<=y):Fnd rs Z fs y:=⟨h.ok,h.up,λp hp=>g0a (h.le p hp) l⟩
theorem Fnd.snoc {rs:List Rtu} {Z:Rat->Prop} {fs:List (Rat × Rat)} {x:Rat} (h:Fnd rs Z fs x) {e:En} (he:Y6 rs Z e) (hx:x<=e.lo) (c:e.cl+fs.length=rs.length) (k:e.cl=e.ch+1):Fnd rs Z (fs ++ [(e.lo,e.hi)]) e.hi where
 ok:=λi p ep=>by
  by_cases hi:i<fs.length
  ·rw [z0h hi] at ep;exact h.ok i p ep
  ·have:=(q0g.mp ep).1
   rw [z0g,z0y] at this
   have hi:i=fs.length:=by lia
   subst hi
   rw [j0v (q0q _),u0x] at ep
   have ep:(e.lo,e.hi)=p:=Option.some.inj ep
   subst ep
   exact ⟨he.bd.1,he.bd.2,he.zl,he.zh,by show rs.countP (abv e.lo)+_=_;rw [he.el];exact c,by show rs.countP (abv e.hi)+_+1=_;rw [he.eh];lia,e.l,e.h,e.b,he.bp,Int.lt_of_le_of_lt (j1h he.bb (bL4 (by simp))) (by trivial),rfl,rfl,he.lb,he.hb⟩
 up:=λi p q ep eq=>by
  have:=(q0g.mp eq).1
  rw [z0g,z0y] at this
  have hi:i<fs.length:=by lia
  rw [z0h hi] at ep
  by_cases hj:i+1<fs.length
  ·rw [z0h hj] at eq;exact h.up i p q ep eq
  ·rw [j0v (by exact Nat.not_lt.mp ‹_›),show i+1-fs.length=0 by lia] at eq
   have eq:(e.lo,e.hi)=q:=Option.some.inj eq
   subst eq
   exact g0a (h.le p (q0p ep)) hx
 le:=λp hp=>by
  have l:=y0c he.lt
  rcases q0t.mp hp with z | z
  ·exact g0a (h.le p z) (g0a hx l)
  ·rw [q0m.mp z];exact m0j
theorem bK4.side {rs:List Rtu} {Z:Rat->Prop} (R:Rsp rs Z) (hv:∀ r ∈ rs,r.o=0 \/ ((r.o=1 \/ r.o=-1)/\0<r.v)) {i:Nat} {p:Rat × Rat} (h:bK4 rs Z i p) {r:Rtu} (er:rs[i]? = some r):ag2 p.1 r<0/\0<ag2 p.2 r:=by
 have m:=q0p er
 have c1:=h.c1
 have c2:=h.c2
 refine ⟨(bg1 (hv r m)).mpr ((V4 (abv p.1) (λhij x y=>R.mono hij x y _) er).mpr (by lia)),R.pos r m _ h.z2 ?_⟩
 have:=V4 (abv p.2) (λhij x y=>R.mono hij x y _) er
 cases z:abv p.2 r with
 | false=>rfl
 | true=>have:=this.mp z;omega
theorem bN4 {w l g:Int} {d:Nat} (hw:w.natAbs<=d*l.natAbs) (hg:g*l=(l.natAbs:Int)):-(((d:Nat):Rat)*((g*l:Int):Rat))<=(w:Rat)/\(w:Rat)<=((d:Nat):Rat)*((g*l:Int):Rat):=by
 have e:((d:Nat):Rat)*((g*l:Int):Rat)=(((d*l.natAbs:Nat):Int):Rat):=by rw [hg,j0e,q0n,q0x,q0x]
 rw [e,<- j0z]
 exact ⟨j0c.mpr ⋯,j0c.mpr ⋯⟩
theorem Hd0.far {T:List Int} {L:List (Fp × Nat)} (h:Hd0 T L) {k:Nat} (hg:Hgh T (nT (L.map rt1)) k) {s:Rat} (hs:s*s=1):∃ x:Rat,x*x=1/\∀ y,2*(((2 ^ k:Nat)):Rat)<=y->0<x*evQ (s*y) (T.map λv:Int=>(v:Rat)):=by
 obtain ⟨l0,_⟩:=h.lead
 have len:=h.len
 obtain ⟨l,hl⟩:∃ l,l=aZ T (nT (L.map rt1)):=⟨_,rfl⟩
 obtain ⟨n,hn⟩:∃ n,n=nT (L.map rt1):=⟨_,rfl⟩
 obtain ⟨hb⟩:=hg
 rw [<- hl] at l0 hb
 rw [<- hn] at len hb
 rw [<- hn] at hl
 obtain ⟨g,gg,gl⟩:∃ g:Int,g*g=1/\g*l=(l.natAbs:Int):=by
  rcases Int.lt_or_lt_of_ne l0 with z | z
  ·exact ⟨-1,rfl,by lia⟩
  ·exact ⟨1,rfl,by lia⟩
 have gq:(g:Rat)*(g:Rat)=1:=by rw [<- q0n,gg];rfl
 have mp:(0:Rat)<((g*l:Int):Rat):=j0u.mpr (by lia)
 have bp:(0:Rat)<((2 ^ k:Nat):Rat):=by rw [<- q0x];exact j0u.mpr (by have:=y0g k;lia)
 have Tn:(T.map λv:Int=>(v:Rat)) ≠ []:=λz=>h.ne (by simpa using z)
 refine ⟨sp s n*g,?_,λy hy=>?_⟩
 ·have:=aU2 hs n
  generalize sp s n=x at *
  grind
 have key:=au5 (β:=((2 ^ k:Nat):Rat)) (y:=y) (s:=s) (g:=(g:Rat)) (m:=((g*l:Int):Rat)) bp hy hs gq mp (T.map λv:Int=>(v:Rat)) Tn (λi a e=>by
  rw [q0e,len]
  obtain ⟨hi,e'⟩:=q0g.mp e
  rw [q0e,len] at hi
  rw [q1h] at e'
  have ei:T[i]'(by lia)=aZ T i:=by unfold aZ;rw [q0d ⋯];rfl
  rw [ei] at e'
  rw [<- e',z0z]
  have hw:(aZ T i).natAbs<=2 ^ (k*(n-i))*l.natAbs:=by
   by_cases z:i=n
   ·subst z;rw [u0x,Nat.mul_zero,Nat.pow_zero,m0f,hl];exact q0q _
   ·have:=hb (n-i) (by lia) (by simp)
    rw [show n-(n-i)=i by lia] at this
    exact this
  have:=bN4 hw gl
  rw [show (((2 ^ k:Nat):Rat) ^ (n-i))=((2 ^ (k*(n-i)):Nat):Rat) by rw [g0k];exact (Rat.natCast_pow _ _).symm]
  exact this) (λa e=>by
  rw [u0t,q0e,len,z0z,q0r] at e
  have:(aZ T n:Rat)=a:=by
   unfold aZ
   cases z:T[n]? with
   | none=>rw [z] at e;cases e
   | some v=>rw [z] at e;exact Option.some.inj e
  rw [<- this,<- hl,q0n])
 rw [q0e,len,z0z] at key
 have pp:(0:Rat)<(((2 ^ k:Nat):Rat) ^ n)*((g*l:Int):Rat):=z0p (Rat.pow_pos bp) mp
 grind
structure bQ0 (rs:List Rtu) (Z:Rat->Prop) (B:Rat):Prop where
 zl:Z (-B)
 zh:Z B
 ab:∀ r ∈ rs,abv (-B) r=true/\abv B r=false
theorem aY3 {x:Fp} {t:Rat}:∀ {L:List (Fp × Nat)},(L.map (·.1)).Nodup->(∀ y ∈ L,N1 y.1)->(∀ y ∈ L,y.1.k=1 \/ y.1=x)->∃ c,0<c/\aw L t=c*if x ∈ L.map (·.1) then (if x.k=1 then 1 else wrt x t) else 1
 | [],_,_,_=>⟨1,by decide,by show (1:Rat)=1*1;trivial⟩
 | y :: r,nd,ok,two=>by
  obtain ⟨n1,n2⟩:=j0r.mp nd
  obtain ⟨c,c0,ih⟩:=aY3 (L:=r) n2 (λz hz=>ok z (q0b _ hz)) (λz hz=>two z (q0b _ hz))
  have oy:=ok y q0c
  by_cases k1:y.1.k=1
  ·have wp:0<wrt y.1 t:=by
    have w0:0<y.1.w:=by rcases oy with ⟨a,_⟩ | ⟨_,b⟩ | ⟨a,_⟩ <;> first | lia | exact b
    unfold wrt
    rw [if_neg ⋯]
    have:0<=(t-y.1.u)*(t-y.1.u):=by
     rcases (show 0<=t-y.1.u \/ 0<=-(t-y.1.u) by grind) with q | q
     ·exact z0j q q
     ·have:=z0j q q;grind
    grind
   refine ⟨wrt y.1 t*c,z0p wp c0,?_⟩
   show wrt y.1 t*aw r t=_
   rw [ih,z1u]
   congr 2
   by_cases e:x=y.1
   ·have xk:x.k=1:=by rw [e];exact k1
    rw [if_pos xk,if_pos (show x ∈ (y :: r).map (·.1) by rw [e];exact q0c)]
    split <;> rfl
   ·by_cases m:x ∈ r.map (·.1)
    ·rw [if_pos m,if_pos (show x ∈ (y :: r).map (·.1) from q0b _ m)]
    ·rw [if_neg m,if_neg (λz:x ∈ (y :: r).map (·.1)=>by
      rcases z0a.mp z with q | q
      ·exact e q
      ·exact m q)]
  ·have e:y.1=x:=(two y q0c).resolve_left k1
   have nm:¬ x ∈ r.map (·.1):=by rw [<- e];exact n1
   rw [if_neg nm] at ih
   refine ⟨c,c0,?_⟩
   show wrt y.1 t*aw r t=_
   rw [ih,if_pos (show x ∈ (y :: r).map (·.1) by rw [<- e];exact q0c),if_neg (by rw [<- e];exact k1),e]
   grind
theorem Drn.bound {ps:List Rat} {L:List (Fp × Nat)} {rs:List Rtu} {few:Nat} {ap:Bool} (D:Drn ps L rs few ap) {T:List Int} (h:Hd0 T L) {k:Nat} (hg:Hgh T (nT (L.map rt1)) k):bQ0 rs (λc=>aw L c ≠ 0) (2*(((2 ^ k:Nat)):Rat)):=by
 obtain ⟨c,c0,ec⟩:=h.c
 have ev:=bz7 h.ok1 ec
 obtain ⟨B,hB⟩:∃ B:Rat,B=2*(((2 ^ k:Nat)):Rat):=⟨_,rfl⟩
 have bp:0<B:=by
  rw [hB]
  have:(0:Rat)<((2 ^ k:Nat):Rat):=by rw [<- q0x];exact j0u.mpr (by have:=y0g k;omega)
  grind
 obtain ⟨x1,q1,f1⟩:=h.far hg (s:=1) (by trivial)
 obtain ⟨x2,q2,f2⟩:=h.far hg (s:=-1) (by trivial)
 rw [<- hB] at f1 f2 ⊢
 have nz1:∀ y,B<=y->aw L y ≠ 0:=λy hy z=>by
  have:=f1 y hy
  rw [show (1:Rat)*y=y by grind,ev,z] at this
  grind
 have nz2:∀ y,B<=y->aw L (-y) ≠ 0:=λy hy z=>by
  have:=f2 y hy
  rw [show (-1:Rat)*y=-y by grind,ev,z] at this
  grind
 refine ⟨nz2 B m0j,nz1 B m0j,λr hr=>?_⟩
 cases ap with
 | false =>
  obtain ⟨pl,_,ik⟩:=D.pl rfl
  have o:=(pl.1 r hr).1
  have z:aw L r.u=0:=aq8 ((ik r.u).mp (q0w.mpr ⟨r,hr,rfl⟩)) (by show r.u-r.u=0;grind)
  have u1:¬ B<=r.u:=λy=>nz1 _ y z
  have u2:¬ B<=-r.u:=λy=>nz2 _ y (by rw [Rat.neg_neg];exact z)
  unfold abv
  rw [if_pos o,if_pos o]
  exact ⟨decide_eq_true (by grind),decide_eq_false (by grind)⟩
 | true =>
  obtain ⟨u,v,v0,rfl,mem,two⟩:=D.qd rfl
  have ru:=D.ro ⟨u,1,v⟩ (by simp)
  obtain ⟨u9,v9,_⟩:=ru
  obtain ⟨ua,ub⟩:=aV9 u9
  obtain ⟨va,vb⟩:=aV9 v9
  have ws:∀ t,∃ d,0<d/\aw L t=d*((t-u)*(t-u) + -v):=λt=>by
   obtain ⟨d,d0,e⟩:=aY3 (x:=⟨2,u,-v⟩) (t:=t) h.fl.nd (λy hy=>(h.fl.ok y hy).1) two
   rw [if_pos mem,if_neg (show (2:Nat) ≠ 1 by decide)] at e
   exact ⟨d,d0,e⟩
  have pos:∀ (x s:Rat),x*x=1->s=1 \/ s=-1->(∀ y,B<=y->0<x*evQ (s*y) (T.map λv:Int=>(v:Rat)))->∀ y,B<=y->v<(s*y-u)*(s*y-u):=λx s hx hs hf y hy=>by
   have a1:=hf y hy
   have a2:=hf (B+30) (by grind)
   rw [ev] at a1 a2
   obtain ⟨d1,p1,e1⟩:=ws (s*y)
   obtain ⟨d2,p2,e2⟩:=ws (s*(B+30))
   rw [e1] at a1
   rw [e2] at a2
   have big:0<(s*(B+30)-u)*(s*(B+30)-u) + -v:=by
    rcases hs with rfl | rfl
    ·have:=z0j (show 0<=B+30-u-21 by grind) (show 0<=B+30-u-21 by grind)
     grind
    ·have:=z0j (show 0<=B+30+u-21 by grind) (show 0<=B+30+u-21 by grind)
     grind
   have a3:=z0p a1 a2
   generalize (s*(B+30)-u)*(s*(B+30)-u) + -v=G at *
   obtain ⟨W,hW⟩:∃ W,W=(s*y-u)*(s*y-u) + -v:=⟨_,rfl⟩
   rw [<- hW] at a3
   have e3:x*(c*(d1*W))*(x*(c*(d2*G)))=(c*c)*(d1*d2*G)*W:=by
    have:x*(c*(d1*W))*(x*(c*(d2*G)))=(x*x)*((c*c)*(d1*d2*G)*W):=by grind
    rw [this,hx];grind
   rw [e3] at a3
   have cc:0<c*c:=by
    rcases (show c<0 \/ 0<c by grind) with z | z
    ·have:=z0p (show 0 < -c by grind) (show 0 < -c by grind);grind
    ·exact z0p z z
   have pf:=z0p cc (z0p (z0p p1 p2) big)
   have Wp:0<W:=Classical.byContradiction λz=>by
    have:=z0j (y0c pf) (show 0<=-W by grind)
    grind
   grind
  have P1:=pos x1 1 q1 (.inl rfl) f1
  have P2:=pos x2 (-1) q2 (.inr rfl) f2
  have b1:=P1 B m0j
  have b2:=P2 B m0j
  have uB:¬ B<=u:=λy=>by have:=P1 u y;grind
  have uB':¬ B<=-u:=λy=>by have:=P2 (-u) y;grind
  simp only [z0a,q1g,or_false] at hr
  rcases hr with rfl | rfl
  ·refine ⟨?_,?_⟩
   ·show (decide (-B-u<0) && decide (v<(-B-u)*(-B-u)))=true
    rw [decide_eq_true (by grind),decide_eq_true (by grind)];rfl
   ·show (decide (B-u<0) && _)=false
    rw [decide_eq_false (by grind)];rfl
  ·refine ⟨?_,?_⟩
   ·show (decide (-B-u<=0) || _)=true
    rw [decide_eq_true (by grind)];rfl
   ·show (decide (B-u<=0) || decide ((B-u)*(B-u)<v))=false
    rw [decide_eq_false (by grind),decide_eq_false (by grind)];rfl
def cK (T:List Int) (n k:Nat):Int:=-((-((Builtin.Int.intBits (aZ T (n-(k+1))):Int)-(Builtin.Int.intBits (aZ T n):Int)+1)).fdiv (1+(k:Int)))
def hI (T:List Int) (n:Nat):Nat->Int
 | 0=>0
 | k+1=>if cK T n k > hI T n k then cK T n k else hI T n k
theorem aN5 {x y:Int} (h:x.natAbs=y.natAbs):Builtin.Int.intBits x=Builtin.Int.intBits y:=by
 unfold Builtin.Int.intBits
 by_cases z:x=0
 ·have:y=0:=by lia
  rw [z,this]
 ·rw [if_neg (by simpa using z),if_neg (by simp;lia),h]
theorem bm0 {T T':List Int} {n:Nat} (h:∀ k,(aZ T k).natAbs=(aZ T' k).natAbs):∀ k,hI T n k=hI T' n k
 | 0=>rfl
 | k+1=>by
  have ih:=bm0 (n:=n) h k
  have c:cK T n k=cK T' n k:=by unfold cK;rw [aN5 (h (n-(k+1))),aN5 (h n)]
  unfold hI
  rw [ih,c]
theorem bh6 {T T':List Int} {a:Pf} {c c':Rat} (t:v2 T T.length) (t':v2 T' T'.length) (g:m5 T=1) (g':m5 T'=1) (e:zp T=a8 c*a) (e':zp T'=a8 c'*a) (c0:c ≠ 0) (c0':c' ≠ 0):∀ k,(aZ T k).natAbs=(aZ T' k).natAbs:=by
 have ic:=z5 c0'
 have e2:zp T=a8 (c*c'⁻¹)*zp T':=by
  rw [e,e',v7]
  generalize a8 c'=x at *
  generalize a8 c'⁻¹=y at *
  grind
 have i0:c'⁻¹ ≠ 0:=λz=>by
  have:=z0n _ c0'
  rw [z] at this
  grind
 have u0:=mnz c0 i0
 rcases (show 0<c*c'⁻¹ \/ 0 < -(c*c'⁻¹) by grind) with z | z
 ·intro k
  rw [aK6 t t' g g' z e2]
 ·have n':∀ k,aZ (T'.map λw=>-w) k=- aZ T' k:=λk=>by
   unfold aZ
   rw [q0r]
   cases T'[k]? <;> simp
  have zn:zp (T'.map λw=>-w)=a8 (-1)*zp T':=Pf.ext λk=>by
   rw [C4]
   show ((aZ _ k:Int):Rat)=-1*((aZ T' k:Int):Rat)
   rw [n',j0z];grind
  have tn:v2 (T'.map λw=>-w) (T'.map λw=>-w).length:=by
   refine ⟨q0q _,λi q hi e=>?_,λh q e=>?_⟩
   ·have:=(q0g.mp e).1;omega
   ·rw [q0e] at h e
    rw [q0r] at e
    cases z:T'[T'.length-1]? with
    | none=>rw [z] at e;cases e
    | some w =>
     rw [z] at e
     have:-w=q:=Option.some.inj e
     have:=t'.last h w z
     lia
  have gn:m5 (T'.map λw=>-w)=1:=by
   have h:m5 (T'.map λw=>-w) ∣ m5 T':=P3 T' 0 (v0v _) λw hw=>by
    have:=D3 (ws:=T'.map λw=>-w) (q0w.mpr ⟨w,hw,rfl⟩)
    exact (Int.dvd_neg).mp this
   rw [g'] at h
   exact u0q.mp h
  intro k
  have:=aK6 t tn g gn z (by
   rw [e2,zn,C7]
   have:a8 (-1:Rat)=0-1:=by rw [C7,k4];grind
   rw [this];grind)
  rw [this,n',y0z]
def En.pt (e:En) (q:Nat):Rat:=q0s (e.l*((q:Int)-1)+e.h) (e.b*(q:Int))
inductive Run (cnt:Rat->Nat) (Zr:Rat->Prop):List En->List (Rat × Rat)->List (Rat × Rat)->Prop where
 | done (fs:List (Rat × Rat)):Run cnt Zr [] fs fs
 | one {e:En} {es:List En} {fs out:List (Rat × Rat)} (k:e.cl=e.ch+1) (h:Run cnt Zr es (fs ++ [(e.lo,e.hi)]) out):Run cnt Zr (e :: es) fs out
 | two {e:En} {es:List En} {fs out:List (Rat × Rat)} {q:Nat} (k:e.ch+2<=e.cl) (q2:2<=q) (hz:∀ j:Nat,2<=j->j<q->Zr (e.pt j)) (hn:¬ Zr (e.pt q)) (h:Run cnt Zr (e.dn q (cnt (e.pt q)) :: e.up q (cnt (e.pt q)) :: es) fs out):Run cnt Zr (e :: es) fs out
 | zero {e:En} {es:List En} {fs out:List (Rat × Rat)} (k:e.cl=e.ch) (h:Run cnt Zr es fs out):Run cnt Zr (e :: es) fs out
theorem Run.uniq {cnt:Rat->Nat} {Zr:Rat->Prop} {es:List En} {fs out:List (Rat × Rat)} (h:Run cnt Zr es fs out):∀ {out'},Run cnt Zr es fs out'->out=out':=by
 induction h with
 | done fs=>intro out' h;cases h;rfl
 | one k h ih =>
  intro out' h'
  cases h' with
  | one k' h'=>exact ih h'
  | two k'=>lia
  | zero k'=>lia
 | @two e es fs out q k q2 hz hn h ih =>
  intro out' h'
  cases h' with
  | one k' h'=>lia
  | @two _ _ _ _ q' k' q2' hz' hn' h' =>
   have:q=q':=by
    rcases Nat.lt_trichotomy q q' with z | z | z
    ·exact absurd (hz' q q2 z) hn
    ·exact z
    ·exact absurd (hz q' q2' z) hn'
   subst this
   exact ih h'
  | zero k'=>lia
 | zero k h ih =>
  intro out' h'
  cases h' with
  | one k' h'=>lia
  | two k'=>lia
  | zero k' h'=>exact ih h'
def e0 (N h:Nat):En:=⟨-(2*2 ^ h),2*2 ^ h,1,N,0,100⟩
def an1 (L:List (Fp × Nat)) (rs:List Rtu) (fs:List (Rat × Rat)):Prop:=∃ (T:List Int) (h:Nat),Hd0 T L/\m5 T=1/\(h:Int)=hI T (nT (L.map rt1)) (nT (L.map rt1))/\Run (λc=>rs.countP (abv c)) (λc=>aw L c=0) [e0 rs.length h] [] fs
theorem aJ3 {L:List (Fp × Nat)} {rs:List Rtu} {fs fs':List (Rat × Rat)} (h:an1 L rs fs) (h':an1 L rs fs'):fs=fs':=by
 obtain ⟨T,k,hd,g,ek,r⟩:=h
 obtain ⟨T',k',hd',g',ek',r'⟩:=h'
 obtain ⟨c,c0,e⟩:=hd.c
 obtain ⟨c',c0',e'⟩:=hd'.c
 have:=bm0 (n:=nT (L.map rt1)) (bh6 hd.tz hd'.tz g g' e e' c0 c0') (nT (L.map rt1))
 have kk:k=k':=by lia
 subst kk
 exact r.uniq r'
theorem bI5 {ps:List Rat} {L:List (Fp × Nat)} {rs:List Rtu} {few:Nat} {ap:Bool} (D:Drn ps L rs few ap) {T:List Int} (h:Hd0 T L) {k:Nat} (k8:k<=8) (hg:Hgh T (nT (L.map rt1)) k):Y6 rs (λc=>aw L c ≠ 0) (e0 rs.length k):=by
 have B:=D.bound h hg
 have d1:∀ a:Int,q0s a 1=(a:Rat):=λa=>by rw [j0n,show ((1:Int):Rat)=1 from rfl,y0j,show (1:Rat)⁻¹=1 by trivial];grind
 have eq:q0s (2*2 ^ k) 1=2*(((2 ^ k:Nat)):Rat):=by
  rw [d1,q0n,show ((2:Int) ^ k)=((2 ^ k:Nat):Int) by rw [Int.natCast_pow];rfl,q0x];rfl
 have eq2:q0s (-(2*2 ^ k)) 1=-(2*(((2 ^ k:Nat)):Rat)):=by
  rw [<- eq,d1,d1,j0z]
 have p1:(1:Int)<=2 ^ k:=j1m (by decide)
 have p2:(2:Int) ^ k<=256:=by
  have:=v0q (show 0<2 by decide) k8
  exact_mod_cast this
 have hl:(e0 rs.length k).lo=-(2*(((2 ^ k:Nat)):Rat)):=eq2
 have hh:(e0 rs.length k).hi=2*(((2 ^ k:Nat)):Rat):=eq
 refine ⟨Int.one_pos,by show -(2*2 ^ k)<2*(2:Int) ^ k;lia,q0q 100,by show (1:Int)<=10 ^ (100-100);decide,by show -(512*1)<=-(2*(2:Int) ^ k);lia,by show 2*(2:Int) ^ k<=512*1;lia,?_,?_,?_,by rw [hl];exact B.zl,by rw [hh];exact B.zh⟩
 ·show 36*9 ^ 100*(2*2 ^ k - -(2*(2:Int) ^ k))<10 ^ 100*1
  have e:(2*2 ^ k - -(2*(2:Int) ^ k))<=1024:=by lia
  have:=Int.mul_le_mul_of_nonneg_left e (show (0:Int)<=36*9 ^ 100 by trivial)
  exact Int.lt_of_le_of_lt this (by trivial)
 ·rw [hl]
  show _=rs.length
  exact g0r.mpr λr hr=>(B.ab r hr).1
 ·rw [hh]
  show _=0
  exact List.countP_eq_zero.mpr λr hr=>by rw [(B.ab r hr).2];decide
theorem bc7 {b k:Int} (hk:0<k):b<=-((-b).fdiv k)*k/\∀ m,b<=m*k->-((-b).fdiv k)<=m:=by
 have h1:=z1d (-b) k
 have h2:=y0t (-b) hk
 have h3:=v0h (-b) hk
 generalize (-b).fdiv k=d at *
 generalize (-b).fmod k=r at *
 refine ⟨by rw [Int.neg_mul,u0v];omega,λm hm=>?_⟩
 refine Classical.byContradiction λz=>?_
 have z':m+1<=-d:=by lia
 have:=v0d z' (Int.le_of_lt hk)
 rw [Int.add_mul,Int.one_mul,Int.neg_mul,u0v d k] at this
 omega
theorem bG8 {a:Rat} (h:a ≠ 0):a⁻¹ ≠ 0:=λz=>by
 have:=z0n _ h
 rw [z] at this
 grind
theorem bh7 {a:Rat} (h:a ≠ 0):∀ n:Nat,a ^ n ≠ 0
 | 0=>by rw [j1g];decide
 | n+1=>by rw [q1e];exact mnz (bh7 h n) h
theorem aN7 {T:List Int} {n k:Nat} {i:Int} (hT:T.length=n+1) (hk:k<=n) (hi:i=-1-(k:Int)):atI (T.map V.int) i=some (.int (aZ T (n-k))):=by
 unfold atI ixN
 rw [q0e,hT,if_neg ⋯,if_pos (by lia)]
 show (T.map V.int)[_]? = _
 rw [q0r,show (i+(((n+1:Nat):Int))).toNat=n-k by lia]
 unfold aZ
 rw [q0d (by lia)]
 rfl
theorem ba4 {l h b:Int} (lh:l<h) (b0:0<b) (m:Nat):((y0f m).map λi=>q0s (l*(((i+2:Nat):Int)-1)+h) (b*((i+2:Nat):Int))).Nodup:=by
 refine z1q.map _ (R:=λi j:Nat=>i ≠ j) ?_ List.nodup_range
 intro i j ne e
 refine ne ?_
 have bi:b*((i+2:Nat):Int) ≠ 0:=v0b ⋯ ⋯
 have bj:b*((j+2:Nat):Int) ≠ 0:=v0b ⋯ ⋯
 have:=(y0b bi bj).mp e
 generalize hx:((i+2:Nat):Int)=x at *
 generalize hy:((j+2:Nat):Int)=y at *
 have e2:(h-l)*b*(y-x)=0:=by grind
 rcases Int.mul_eq_zero.mp e2 with z | z
 ·exact absurd z (v0b ⋯ ⋯)
 ·lia
section
variable {P:Program} {w:World} {K:q0a} {mg:Str->Option Value} {base:Heap}
def aU9 (K:q0a):Sp:=λvs H Q _ => ∃ (a:Addr) (T:List Int) (n:Nat),vs=[.ref a]/\SqL K H a (T.map V.int)/\T.length=n+1/\n<=8/\aZ T n ≠ 0/\(∀ k,(aZ T k).natAbs<=dom n k*(aZ T n).natAbs)/\∀ h:Nat,h<=8->(h:Int)=hI T n n->Hgh T n h->Q (.int (2*2 ^ h)) H
abbrev aa1:Stmt:=top 45
theorem O5:i7 ["wholes","highest","back","bits"] ["wholes"] (c6 aa1):=by and_intros
theorem aK9 {f:Addr} (d:Df K mg "bound_of" aa1 ["wholes"] f) (n_len:mg "len" = none) (n_range:mg "range" = none) (n_max:mg "max" = none):Def P w K mg base CX0 1 "bound_of" f ["wholes"] (aU9 K):=by
 refine d.ok (N:=["wholes","highest","back","bits"]) O5 (by rintro vs H Q E ⟨_,_,_,h,_⟩;rw [h];rfl) (λcdv A outer s H vs Q E hr h=>?_)
 obtain ⟨a,T,n,rfl,hS,hT,n8,l0,hd,k⟩:=h
 have hu:=hr.units
 refine ⟨_,(b9 (d8 (i:=1) O5.nd rfl (z0d rfl) b7)
   (b9 (K3 PassesOwn.never rfl (aA1 rfl n_range (a7 b7 (a7 (d9 j5 rfl n_len (by trivial) (a7 (pv 0) a9)) a9))) (i3 (i:=2) O5.nd rfl (z0d rfl)) (b9 (d8 (i:=3) O5.nd rfl (z0d rfl) (d7 C9 (d7 F6 (al1 PySem.F.plainAttrs_int PySem.F.slot_int_bit_length PySem.F.type_int_bit_length af3 (j4 v1 (pv 0) (d7 F6 (G4 B6 b7) (pv 2)) (λ_ _=>rfl))) (al1 PySem.F.plainAttrs_int PySem.F.slot_int_bit_length PySem.F.type_int_bit_length af3 (j4 v1 (pv 0) (G4 B6 b7) (λ_ _=>rfl)))) b7))
   (c5 (d8 (i:=1) O5.nd rfl (z0d rfl) (d9 (am6 rfl) rfl n_max (by trivial) (a7 (pv 1) (a7 (G4 B6 (d7 C8 (G4 B6 (pv 3)) (pv 2))) a9)))))))
   (c5 (i8 (d7 bE3 b7 (pv 1)))))),?_⟩
 rw [show start ["wholes","highest","back","bits"] [.ref a]=[some (.ref a),none,none,none] from rfl]
 have lT:(T.map V.int).length=n+1:=by rw [q0e];exact hT
 refine d6 (λσ H1=>σ=[some (.ref a),some (.int 0),none,none]/\H1=H) (λN hN=>?_) ?_
 ·subst_eqs
  exact hN _ _ ⟨rfl,rfl⟩
 rintro σ H1 ⟨rfl,rfl⟩
 obtain ⟨I,hI'⟩:∃ I:Nat->L2.St->Hp->Prop,∀ i σ H2,I i σ H2 ↔ ∃ (h:Nat) (o2 o3:Option V),σ=[some (.ref a),some (.int h),o2,o3]/\H2=H1/\h<=8/\(h:Int)=hI T n i/\∀ k,1<=k->k<=i->(aZ T (n-k)).natAbs<=2 ^ (h*k)*(aZ T n).natAbs:=⟨_,λ_ _ _=>Iff.rfl⟩
 refine d6 (λσ H2=>I n σ H2) (λN hN=>?_) ?_
 ·refine ⟨_,rfl,a,_,rfl,.inl hS,1,_,rfl,⟨by decide,by decide,by simp,by lia⟩,U8 I ((hI' _ _ _).mpr ⟨0,_,_,rfl,rfl,by decide,rfl,λk h1 h2=>by lia⟩) ?_ (λσ H2 h2=>hN _ _ ?_)⟩
  ·intro i σ H2 hi h2
   obtain ⟨h,o2,o3,rfl,rfl,h8,hh,hb⟩:=(hI' _ _ _).mp h2
   have hi:i<n:=by lia
   subst_eqs
   have hk1:n-(i+1)<n+1:=by lia
   have a1:atI (T.map V.int) (-1-(1+(i:Int)))=some (.int (aZ T (n-(i+1)))):=aN7 (k:=i+1) hT (by lia) (by lia)
   have a0:atI (T.map V.int) (-1)=some (.int (aZ T n)):=aN7 (k:=0) hT (by simp) (by simp)
   have tb:=bv8 n n8 (i+1) (by simp) ⋯
   have b8:=bJ5 (hd (n-(i+1))) tb ⋯
   refine ⟨_,hS,_,a1,trivial,_,rfl,_,hS,_,a0,trivial,_,rfl,⟨by lia,?_⟩,?_⟩
   ·exact q0f ((j1k (by lia)).mpr (show (1+(i:Int)).natAbs<2 ^ 10 by lia)) (by decide)
   obtain ⟨c1,c2⟩:=bc7 (b:=(Builtin.Int.intBits (aZ T (n-(i+1))):Int)-(Builtin.Int.intBits (aZ T n):Int)+1) (k:=1+(i:Int)) (by lia)
   have c8:=c2 8 (by rw [show (1:Int)+(i:Int)=((i+1:Nat):Int) by lia];exact b8)
   have ec:hI T n (i+1)=if cK T n i > (h:Int) then cK T n i else (h:Int):=by rw [hh];rfl
   unfold cK at ec
   generalize -(-((Builtin.Int.intBits (aZ T (n-(i+1))):Int)-(Builtin.Int.intBits (aZ T n):Int)+1)).fdiv (1+(i:Int))=c at *
   obtain ⟨h',eh',h'8,hh',hc'⟩:∃ h':Nat,(if c > (h:Int) then c else (h:Int))=(h':Int)/\h'<=8/\h<=h'/\c<=(h':Int):=by
    split
    ·exact ⟨c.toNat,by lia,by lia,by lia,by lia⟩
    ·exact ⟨h,rfl,h8,by simp,by lia⟩
   rw [eh']
   refine (hI' _ _ _).mpr ⟨h',_,_,rfl,rfl,h'8,by rw [ec,eh'],λk k1 k2=>?_⟩
   by_cases z:k=i+1
   ·subst z
    refine bH5 l0 (j1h c1 ?_)
    rw [show (1:Int)+(i:Int)=((i+1:Nat):Int) by lia]
    exact v0d hc' (by lia)
   ·have:=hb k k1 (by lia)
    exact z0v this (v0c _ (c9 (v0c _ hh')))
  ·rw [show (((T.map V.int).length:Int)-1).toNat=n by lia] at h2
   exact h2
 rintro σ H2 h2
 obtain ⟨h,o2,o3,rfl,rfl,h8,hh,hb⟩:=(hI' _ _ _).mp h2
 subst_eqs
 exact ⟨⟨by simp,by lia,by decide⟩,by rw [show ((h:Int)).toNat=h by simp];exact k h h8 hh ⟨hb⟩⟩
def aJ6 (K:q0a):Sp:=λvs H Q _ => ∃ (a:Addr) (T:List Int) (l h b:Int),vs=[.ref a,.int l,.int h,.int b]/\SqL K H a (T.map V.int)/\T ≠ []/\v2 T T.length/\T.length<=9/\(∀ v ∈ T,z0s v<2 ^ 5000)/\l<h/\0<b/\l.natAbs<2 ^ 400/\h.natAbs<2 ^ 400/\b.natAbs<2 ^ 400 /\
 ∀ (q:Nat) r H',2<=q->q<=10->(∀ j:Nat,2<=j->j<q->evQ (q0s (l*((j:Int)-1)+h) (b*j)) (T.map λv:Int=>(v:Rat))=0)->evQ (q0s (l*((q:Int)-1)+h) (b*q)) (T.map λv:Int=>(v:Rat)) ≠ 0->c7 H H'->H' r=some (.tup [.int (l*q),.int (l*((q:Int)-1)+h),.int (h*q),.int (b*q)])->Q (.ref r) H'
abbrev L9:Stmt:=top 46
theorem E7:i7 ["wholes","low","high","bottom","parts","point"] ["wholes","low","high","bottom"] (c6 L9):=by and_intros
theorem ap1 {f f1:Addr} (d:Df K mg "point_within" L9 ["wholes","low","high","bottom"] f) (G_whole_worth:Def P w K mg base CX0 1 "whole_worth" f1 ["wholes","top","bottom"] (bC0 K)):Def P w K mg base CX0 2 "point_within" f ["wholes","low","high","bottom"] (aJ6 K):=by
 refine d.ok (N:=["wholes","low","high","bottom","parts","point"]) E7 (by rintro vs H Q E ⟨_,_,_,_,_,h,_⟩;rw [h];rfl) (λcdv A outer s H vs Q E hr h=>?_)
 obtain ⟨a,T,l,h,b,rfl,hS,T0,tz,t9,bT,lh,b0,bl,bh,bb,k⟩:=h
 have hu:=hr.units
 refine ⟨_,(b9 (d8 (i:=4) E7.nd rfl (z0d rfl) b7)
   (b9 (d8 (i:=5) E7.nd rfl (z0d rfl) (d7 C9 (pv 1) (pv 2)))
   (b9 (O7 PassesOwn.never (j3 Z4 (d5 G_whole_worth hr (a7 (pv 0) (a7 (pv 5) (a7 (d7 p8 (pv 3) (pv 4)) a9))) i5) b7 (j7 _)) (b9 (as0 (i:=4) E7.nd rfl (z0d rfl) b7 bl2)
   (c5 (d8 (i:=5) E7.nd rfl (z0d rfl) (d7 C9 (d7 p8 (pv 1) (d7 F6 (pv 4) b7)) (pv 2))))))
   (c5 (i8 (q8 (a7 (d7 p8 (pv 1) (pv 4)) (a7 (pv 5) (a7 (d7 p8 (pv 2) (pv 4)) (a7 (d7 p8 (pv 3) (pv 4)) a9)))))))))),?_⟩
 rw [show start ["wholes","low","high","bottom","parts","point"] [.ref a,.int l,.int h,.int b]=[some (.ref a),some (.int l),some (.int h),some (.int b),none,none] from rfl]
 refine d6 (λσ H1=>σ=[some (.ref a),some (.int l),some (.int h),some (.int b),some (.int 2),none]/\H1=H) (λN hN=>?_) ?_
 ·subst_eqs
  exact hN _ _ ⟨rfl,rfl⟩
 rintro σ H1 ⟨rfl,rfl⟩
 refine d6 (λσ H2=>σ=[some (.ref a),some (.int l),some (.int h),some (.int b),some (.int 2),some (.int (l+h))]/\H2=H1) (λN hN=>?_) ?_
 ·subst_eqs
  exact hN _ _ ⟨rfl,rfl⟩
 rintro σ H2 ⟨rfl,rfl⟩
 obtain ⟨J,hJ⟩:∃ J:Nat->L2.St->Hp->Prop,∀ m σ H3,J m σ H3 ↔ ∃ q:Nat,m+q=20/\2<=q/\σ=[some (.ref a),some (.int l),some (.int h),some (.int b),some (.int q),some (.int (l*((q:Int)-1)+h))]/\H3=H2/\∀ j:Nat,2<=j->j<q->evQ (q0s (l*((j:Int)-1)+h) (b*j)) (T.map λv:Int=>(v:Rat))=0:=⟨_,λ_ _ _=>Iff.rfl⟩
 have q10:∀ q:Nat,2<=q->(∀ j:Nat,2<=j->j<q->evQ (q0s (l*((j:Int)-1)+h) (b*j)) (T.map λv:Int=>(v:Rat))=0)->q<=10:=λq q2 hz=>by
  have:=bq8 tz T0 (zs:=(y0f (q-2)).map λi=>q0s (l*(((i+2:Nat):Int)-1)+h) (b*((i+2:Nat):Int))) (ba4 lh b0 _) (λz hz'=>by
   obtain ⟨i,hi,rfl⟩:=q0w.mp hz'
   exact hz (i+2) (by simp) (by have:=List.mem_range.mp hi;lia))
  rw [q0e,m0u] at this
  lia
 have mulB:∀ (x:Int) (q:Nat),x.natAbs<2 ^ 400->q<=20->IntMulOk x q/\(x*q).natAbs<2 ^ 405:=λx q hx hq=>⟨G5 (m:=400) (n:=5) hx (by rw [q0k];lia),by
  rw [z0f,q0k,show (2:Nat) ^ 405=2 ^ 400*32 from rfl]
  exact j0w hx (by lia)⟩
 have ptB:∀ q:Nat,2<=q->q<=20->(l*((q:Int)-1)+h).natAbs<2 ^ 406:=λq h1 h2=>by
  have:=(mulB l (q-1) bl (by lia)).2
  rw [show (((q-1:Nat):Nat):Int)=(q:Int)-1 by lia] at this
  have e:(2:Nat) ^ 406=2 ^ 405*2:=rfl
  have e2:(2:Nat) ^ 400<=2 ^ 405:=by trivial
  omega
 refine d6 (λσ H3 => ∃ q:Nat,2<=q/\q<=10/\σ=[some (.ref a),some (.int l),some (.int h),some (.int b),some (.int q),some (.int (l*((q:Int)-1)+h))]/\H3=H2/\(∀ j:Nat,2<=j->j<q->evQ (q0s (l*((j:Int)-1)+h) (b*j)) (T.map λv:Int=>(v:Rat))=0)/\evQ (q0s (l*((q:Int)-1)+h) (b*q)) (T.map λv:Int=>(v:Rat)) ≠ 0) (λN hN=>?_) ?_
 ·refine aC6 J 18 ((hJ _ _ _).mpr ⟨2,rfl,by decide,by rw [show l*(((2:Nat):Int)-1)+h=l+h by simp];rfl,rfl,λj h1 h2=>by lia⟩) ?_
  intro m σ H3 h3
  obtain ⟨q,mq,q2,rfl,rfl,hz⟩:=(hJ _ _ _).mp h3
  have q10':=q10 q q2 hz
  obtain ⟨mo,bo⟩:=mulB b q bb (by lia)
  have po:=ptB q q2 ⋯
  have bq0:b*(q:Int) ≠ 0:=v0b (by lia) (by lia)
  have e0:hw (l*((q:Int)-1)+h) (b*q) T=0 ↔ evQ (q0s (l*((q:Int)-1)+h) (b*q)) (T.map λv:Int=>(v:Rat))=0:=by
   have:=bl8 (t:=l*((q:Int)-1)+h) (b:=b*q) bq0 T
   rw [j0n]
   have nz:((b*q:Int):Rat) ≠ 0:=λz=>bq0 (by exact_mod_cast z)
   have nz2:((b*q:Int):Rat) ^ T.length / ((b*q:Int):Rat) ≠ 0:=by
    rw [y0j]
    exact mnz (bh7 nz _) (bG8 nz)
   constructor
   ·intro z
    rw [z] at this
    exact (z0x.mp this.symm).resolve_right nz2
   ·intro z
    rw [z,Rat.zero_mul] at this
    exact_mod_cast this
  subst_eqs
  refine ⟨mo,a,T,_,_,5000,406,rfl,hS,bT,po,q0f bo (c9 (by decide)),by lia,by decide,?_⟩
  refine ⟨rfl,B1 (λz=>WhG.mk ?_) (λz=>hN _ _ ⟨q,q2,q10',rfl,rfl,hz,λy=>z (by rw [e0.mpr y])⟩)⟩
  have z0:=e0.mp (V.int.inj z)
  subst_eqs
  have eq1:(q:Int)+1=((q+1:Nat):Int):=by simp
  have mo2:IntMulOk l ((q:Int)+1-1):=by rw [Int.add_sub_cancel];exact (mulB l q bl ⋯).1
  refine ⟨mo2,WgN.mk (m':=m-1) (by lia) ((hJ _ _ _).mpr ⟨q+1,by lia,by exact Nat.lt_succ_of_lt ‹_›,by rw [<- eq1],rfl,λj h1 h2=>?_⟩)⟩
  by_cases e:j=q
  ·rw [e];exact z0
  ·exact hz j h1 (by lia)
 rintro σ H3 ⟨q,q2,q10',rfl,rfl,hz,nz⟩
 obtain ⟨m1,_⟩:=mulB l q bl (by lia)
 obtain ⟨m2,_⟩:=mulB h q bh ⋯
 obtain ⟨m3,_⟩:=mulB b q bb ⋯
 subst_eqs
 exact ⟨m1,m2,m3,by decide,λp hp=>k q p _ q2 q10' hz nz (c7.new hp _) c4⟩
abbrev aa3:Stmt:=top 51
theorem O6:i7 ["_law_top","_law_bottom","_law_one","_law_other_here"] ["_law_top","_law_bottom"] (c6 aa3):=by and_intros
theorem aL1 {f:Addr} (d:Df K mg "_law_low" aa3 ["_law_top","_law_bottom"] f) (n_abs:mg "abs" = none):Def P w K mg base CX0 1 "_law_low" f ["_law_top","_law_bottom"] ay6:=by
  refine d.ok (N:=["_law_top","_law_bottom","_law_one","_law_other_here"]) O6 (λvs H Q E ⟨a,b,h,_⟩=>by rw [h];rfl) (λcdv A outer s H vs Q E hr h=>?_)
  obtain ⟨t,b,rfl,hb0,hb,k⟩:=h
  refine ⟨_, (b9 (d8 (i := 2) O6.nd rfl (Or.inl rfl) (d9 V8 rfl n_abs (by decide +kernel) (a7 (pv 0) a9)))
      (b9 (d8 (i:=3) O6.nd rfl (Or.inl rfl) (d9 V8 rfl n_abs (by trivial) (a7 (pv 1) a9)))
      (b9 (O7 PassesOwn.never (j3 ag6 (pv 3) b7 (j7 _)) (c5 (bh3 (i:=2) (j:=3) rfl O6.nd rfl rfl (by decide) rfl rfl (a7 (pv 3) (a7 (d7 M3 (pv 2) (pv 3)) a9)) rfl)))
      (b9 (B0 (j3 ag5 (pv 1) b7 (j7 _)) (c5 (d8 (i:=2) O6.nd rfl (Or.inl rfl) (d7 F6 b7 (pv 2)))) p9)
      (c5 (i8 (q8 (a7 (d7 C8 (pv 0) (pv 2)) (a7 (d7 C8 (pv 1) (pv 2)) a9))))))))),?_⟩
  rw [show start ["_law_top","_law_bottom","_law_one","_law_other_here"] [.int t,.int b]=[some (.int t),some (.int b),none,none] from rfl]
  subst_eqs
  refine aJ1 (λσ H1=>H1=H/\∃ x y:Int,σ=[some (.int t),some (.int b),some (.int x),some (.int y)]/\0<=x/\0<=y/\Int.gcd x y=Int.gcd t b) (λσ _=>match σ with | [_,_,_,some (.int y)]=>y.natAbs | _=>0)
    ⟨rfl,_,_,rfl,by split <;> lia,by split <;> lia,?_⟩ ?_ ?_
  · have e1:(if t<0 then -t else t)=(t.natAbs:Int):=by split <;> lia
    have e2:(if b<0 then -b else b)=(b.natAbs:Int):=by split <;> lia
    rw [e1,e2,Int.gcd_eq_natAbs_gcd_natAbs,Int.gcd_eq_natAbs_gcd_natAbs];simp
  · rintro σ H1 ⟨rfl,x,y,rfl,hx,hy,hg⟩
    subst_eqs
    split
    · rename_i hy0
      exact ⟨⋯,hy,Int.fmod_nonneg_of_pos x hy0,by rw [aM6];exact hg,ad1 x ⋯⟩
    · rename_i hy0
      have hy':y=0:=by lia
      subst hy'
      have ex:x=(Int.gcd t b:Int):=by
        rw [Int.gcd_zero_right] at hg
        lia
      have gp:=aa5 (t:=t) hb0
      have gl:=aR3 (a:=t) hb0 hb
      by_cases hs:b<0
      · rw [if_pos hs]
        obtain ⟨e1,e2⟩:=al6 (t:=t) (g:=0-x) hb0 (by rw [if_pos hs,ex];simp)
        have dv:∀ i,ao6 i (0-x):=λi=>ab5 (by lia) (by rw [show 0-x=-x by simp,Int.natAbs_neg,ex];exact ab2 gl)
        refine ⟨dv _,dv _,v4,λr hr'=>?_⟩
        exact k r _ (c7.new hr' _) (by rw [c4];unfold t7;rw [e1,e2])
      · rw [if_neg hs]
        obtain ⟨e1,e2⟩:=al6 (t:=t) (g:=x) hb0 (by rw [if_neg hs,ex])
        have dv:∀ i,ao6 i x:=λi=>ab5 (by lia) (by rw [ex];exact ab2 gl)
        refine ⟨dv _,dv _,v4,λr hr'=>?_⟩
        exact k r _ (c7.new hr' _) (by rw [c4];unfold t7;rw [e1,e2])
  · intro σ H1 Q1 Q2 hQ h
    simp only [bH3,ipM,bC9,aO6,bB1,aJ5,ar2,bH1,bC7,bf1,tSl,be6,aC9,bC6,bC8,aE6,bl7,J1,List.map_cons,List.map_nil,Option.bind_none,Option.bind_some,Option.join_some,br2,bB4,bB7,tOr,bB2,aJ4,tB,tOp,tUn,bB5,tBM,Z6,tC,tCB,br3,aZ5,t8,bH6,af8,A8,af9,ar1,aZ4,br4,bB0,bB3,tIf,bf2,be7,br5,aD1,be9,be8,aO5,aO4,bB6,ipI,rI,rI0,rU,aE5,aE4,bg8,bg7,rEq,rNe,aP6,aP5,aP4,bD0,bD1,bl5,bl4,bl6,bH2,ap5,cxR,cxX,Cx.nox,Cx.wish,Cx.body,Cx.suite,List.getElem?_cons_zero,List.getElem?_cons_succ,List.set_cons_zero,List.set_cons_succ,Option.some.injEq,V.int.injEq,V.bl.injEq,V.ref.injEq,V.str.injEq,exists_eq_left',exists_eq_left,exists_and_left,true_and,and_true,List.cons.injEq,reduceCtorEq,Bool.false_eq_true,if_false,if_true,exists_const,↓reduceIte,tyV,List.length_cons,List.length_nil,exists_eq,List.append_nil,List.cons_append,List.nil_append,decide_eq_true_eq,not_true_eq_false,not_false_eq_true,Bool.not_eq_true',decide_eq_false_iff_not,Bool.not_true,Bool.not_false,and_assoc,false_and,false_or,or_false] at h ⊢
    obtain ⟨v,e1,i,e2,e3⟩:=h
    exact ⟨v,e1,i,e2,hQ _ _ e3⟩
abbrev aa2:Stmt:=top 49
theorem K5:i7 ["_law_script","_law_at","_law_cell","_law_prime","_law_great"] ["_law_script","_law_at"] (c6 aa2):=by and_intros
theorem aL0 {f:Addr} (d:Df K mg "_law_urn" aa2 ["_law_script","_law_at"] f) (n_len:mg "len" = none) (n_abs:mg "abs" = none):Def P w K mg base CX0 1 "_law_urn" f ["_law_script","_law_at"] (by1 K):=by
 refine d.ok (N:=["_law_script","_law_at","_law_cell","_law_prime","_law_great"]) K5 (λvs H Q E ⟨x,y,p,h,_⟩=>by rw [h];rfl) (λcdv A outer s H vs Q E hr h=>?_)
 obtain ⟨a,ns,i,rfl,hS,h0,h64,k⟩:=h
 refine ⟨_,(b9 (d8 (i:=2) K5.nd rfl (z0d rfl) b7)
   (b9 (B0 (j3 ag5 (pv 1) (d9 j5 rfl n_len (by trivial) (a7 (pv 0) a9)) (j7 _)) (c5 (d8 (i:=2) K5.nd rfl (z0d rfl) (j4 v1 (pv 0) (pv 1) (λ_ _=>rfl)))) p9)
   (b9 (d8 (i:=3) K5.nd rfl (z0d rfl) (j4 m6 (q8 (a7 b7 (a7 b7 (a7 b7 (a7 b7 (a7 b7 (a7 b7 (a7 b7 (a7 b7 a9))))))))) (d7 M3 (pv 1) b7) (λ_ _=>rfl)))
   (b9 (d8 (i:=4) K5.nd rfl (z0d rfl) b7)
   (b9 (B0 (j3 by6 (d9 V8 rfl n_abs (by trivial) (a7 (pv 2) a9)) (d7 ac6 b7 b7) (j7 _)) (c5 (d8 (i:=4) K5.nd rfl (z0d rfl) (d9 V8 rfl n_abs (by trivial) (a7 (pv 2) a9)))) p9)
   (c5 (i8 (z8 (a7 (pv 4) (a7 (d7 M3 (d7 ac6 (d7 C9 (d7 C9 (d7 M3 (pv 2) (pv 3)) (d7 p8 b7 (pv 1))) b7) b7) (pv 3)) (a7 (pv 3) a9))))))))))),?_⟩
 rw [show start ["_law_script","_law_at","_law_cell","_law_prime","_law_great"] [.ref a,.int i]=[some (.ref a),some (.int i),none,none,none] from rfl]
 refine d6 (λσ H1=>H1=H/\σ=[some (.ref a),some (.int i),some (.int 0),none,none]) (λN hN=>?_) ?_
 ·subst_eqs
  exact hN _ _ ⟨rfl,rfl⟩
 rintro σ H1 ⟨rfl,rfl⟩
 refine d6 (λσ H2=>H2=H1/\∃ c:Int,σ=[some (.ref a),some (.int i),some (.int c),none,none]) (λN hN=>?_) ?_
 ·subst_eqs
  refine ⟨_,.inl hS,B1 (λhl=>?_) (λ_=>hN _ _ ⟨rfl,_,rfl⟩)⟩
  obtain ⟨c,hc⟩:=bc9 (ns:=ns) h0 (by simpa using hl)
  exact ⟨_,hS,_,hc,hN _ _ ⟨rfl,c,rfl⟩⟩
 rintro σ H2 ⟨rfl,c,rfl⟩
 obtain ⟨pr,hpr,p1,p2⟩:=bh5 h0
 refine d6 (λσ H3=>c7 H2 H3/\σ=[some (.ref a),some (.int i),some (.int c),some (.int pr),none]) (λN hN=>?_) ?_
 ·subst_eqs
  exact ⟨by decide,λp hp=>⟨by decide,_,SqT.of c4,_,hpr,hN _ _ ⟨c7.new hp _,rfl⟩⟩⟩
 rintro σ H3 ⟨s1,rfl⟩
 refine d6 (λσ H4=>H4=H3/\σ=[some (.ref a),some (.int i),some (.int c),some (.int pr),some (.int 0)]) (λN hN=>?_) ?_
 ·subst_eqs
  exact hN _ _ ⟨rfl,rfl⟩
 rintro σ H4 ⟨rfl,rfl⟩
 refine d6 (λσ H5=>H5=H4/\∃ g:Int,0<=g/\σ=[some (.ref a),some (.int i),some (.int c),some (.int pr),some (.int g)]) (λN hN=>?_) ?_
 ·subst_eqs
  exact ⟨⟨by decide,by decide,by decide⟩,B1 (λ_=>hN _ _ ⟨rfl,_,by split <;> omega,rfl⟩) (λ_=>hN _ _ ⟨rfl,_,Int.le_refl _,rfl⟩)⟩
 rintro σ H5 ⟨rfl,g,hg,rfl⟩
 subst_eqs
 have m0:=y0t c (show 0<pr by lia)
 have m1:=v0h c (show 0<pr by lia)
 refine ⟨by lia,bL7 (by decide),⟨by decide,by decide,⋯⟩,⋯,by decide,λr hr'=>?_⟩
 refine k r _ (s1.trans (c7.new hr' _)) (s1.free hr') ⟨g,_,pr,c4,hg,y0t _ ⋯,?_,⋯,⋯⟩
 have:=v0h ((c.fmod pr+65537*i+101) ^ (3:Int).toNat) (show 0<pr by omega)
 omega
abbrev X8:Stmt:=top 50
theorem ai6:i7 ["_law_urn_here","_law_many","_law_drawn"] ["_law_urn_here","_law_many"] (c6 X8):=by and_intros
theorem aG1 {f:Addr} (d:Df K mg "_law_draw" X8 ["_law_urn_here","_law_many"] f):Def P w K mg base CX0 1 "_law_draw" f ["_law_urn_here","_law_many"] V1:=by
  refine d.ok (N:=["_law_urn_here","_law_many","_law_drawn"]) ai6 (λvs H Q E ⟨x,y,h,_⟩=>by rw [h];rfl) (λcdv A outer s H vs Q E hr h=>?_)
  obtain ⟨u,n,rfl,⟨g,m,p,hu,g0,m0,m1,p0,p1⟩,n0,n1,k⟩:=h
  refine ⟨_, (b9 (B0 (j3 ag6 (j4 v1 (pv 0) b7 (fun _ _ => rfl)) b7 (j7 _)) (b9 (d8 (i := 2) ai6.nd rfl (Or.inl rfl) (d7 M3 (j4 v1 (pv 0) b7 (fun _ _ => rfl)) (pv 1)))
      (b9 (P8 (d7 C8 (j4 v1 (pv 0) b7 (λ_ _=>rfl)) (pv 1)) (aF1 (pv 0) b7 ab9))
      (c5 (i8 (pv 2))))) p9)
      (b9 (P8 (d7 M3 (d7 C9 (d7 p8 (j4 v1 (pv 0) b7 (λ_ _=>rfl)) b7) b7) (j4 v1 (pv 0) b7 (λ_ _=>rfl))) (aF1 (pv 0) b7 ab9))
      (c5 (i8 (d7 M3 (d7 C8 (d7 M3 (d7 ac6 (d7 C8 (j4 v1 (pv 0) b7 (λ_ _=>rfl)) b7) b7) b7) b7) (pv 1)))))),?_⟩
  rw [show start ["_law_urn_here","_law_many","_law_drawn"] [.ref u,.int n]=[some (.ref u),some (.int n),none] from rfl]
  have L1:SqL K H u [.int g,.int m,.int p]:=SqL.of hu
  have x0:∀ g m p:Int,atI [V.int g,.int m,.int p] 0=some (.int g):=λ_ _ _=>rfl
  have x1:∀ g m p:Int,atI [V.int g,.int m,.int p] 1=some (.int m):=λ_ _ _=>rfl
  have x2:∀ g m p:Int,atI [V.int g,.int m,.int p] 2=some (.int p):=λ_ _ _=>rfl
  subst_eqs
  have dn:∀ i,ao6 i n:=λi=>ab5 (by lia) (Nat.lt_of_lt_of_le (show n.natAbs<2 ^ 40 by omega) (c9 (by decide)))
  refine ⟨_,L1,_,x0 g m p,_,rfl,B1 (λhg=>?_) (λhg=>?_)⟩
  · refine ⟨_,L1,_,x0 g m p,_,rfl,⋯,_,L1,_,x0 g m p,_,rfl,dn _,_,hu,0,rfl,?_⟩
    exact k _ _ (Int.fmod_nonneg_of_pos _ n0) (Int.fmod_lt_of_pos _ n0) (x9.upd _ _ _) ⟨g.fdiv n,m,p,c4,Int.fdiv_nonneg g0 (by lia),m0,m1,p0,p1⟩
  · have q0:=Int.fmod_nonneg_of_pos (m*60013+12289) p0
    have q1:=Int.fmod_lt_of_pos (m*60013+12289) p0
    have z:SqL K (upd H u (.lst [.int g,.int ((m*60013+12289).fmod p),.int p])) u [.int g,.int ((m*60013+12289).fmod p),.int p]:=SqL.of c4
    have d16:0<=((m*60013+12289).fmod p).fdiv 16/\((m*60013+12289).fmod p).fdiv 16<2 ^ 40:=by
      rw [Int.fdiv_eq_ediv_of_nonneg _ (by decide)]
      omega
    refine ⟨_,L1,_,x1 g m p,_,rfl,by9 (by decide),_,L1,_,x2 g m p,_,rfl,by lia,_,hu,1,rfl,_,z,_,x1 _ _ _,_,rfl,ab5 (by decide) (Nat.lt_of_lt_of_le (show (16:Int).natAbs<2 ^ 40 by decide) (c9 (by decide))),⟨by decide,by decide,⋯⟩,by decide,ab5 (by decide) (Nat.lt_of_lt_of_le (show (8:Int).natAbs<2 ^ 40 by decide) (c9 (by decide))),⋯,?_⟩
    exact k _ _ (Int.fmod_nonneg_of_pos _ n0) (Int.fmod_lt_of_pos _ n0) (x9.upd _ _ _) ⟨g,_,p,c4,g0,q0,⋯,p0,p1⟩
abbrev X7:Stmt:=top 57
theorem aE3:i7 ["_law_urn_here"] ["_law_urn_here"] (c6 X7):=by and_intros
theorem aG0 {f fd:Addr} (d:Df K mg "_law_kind" X7 ["_law_urn_here"] f) (G__law_draw:Def P w K mg base CX0 1 "_law_draw" fd ["_law_urn_here","_law_many"] V1):Def P w K mg base CX0 2 "_law_kind" f ["_law_urn_here"] bf8:=by
 refine d.ok (N:=["_law_urn_here"]) aE3 (λvs H Q E ⟨u,h,_⟩=>by rw [h];rfl) (λcdv A outer s H vs Q E hr h=>?_)
 obtain ⟨u,rfl,hu,k⟩:=h
 refine ⟨_,(c5 (i8 (j4 v1 (z8 (a7 b7 (a7 b7 (a7 b7 (a7 b7 (a7 b7 (a7 b7 (a7 b7 (a7 b7 a9))))))))) (d5 G__law_draw hr (a7 (pv 0) (a7 b7 a9)) i5) (λ_ _=>rfl)))),?_⟩
 rw [show start ["_law_urn_here"] [.ref u]=[some (.ref u)] from rfl]
 simp! [V1]
 refine ⟨by decide,λl hl=>⟨ap6 hu hl,by decide,by decide,λr H' r0 r1 sx hu'=>?_⟩⟩
 have e:=sx l _ c4 (aC7 hu hl)
 have sx':x9 u H H':=x9.trans (c7.x (c7.new hl _) u) sx
 have h3:r=0 \/ r=1 \/ r=2 \/ r=3 \/ r=4 \/ r=5 \/ r=6 \/ r=7:=by lia
 rcases h3 with h | h | h | h | h | h | h | h <;> subst h <;> exact ⟨_,SqL.of e,_,rfl,k _ H' (by decide) sx' hu'⟩
abbrev O3:Stmt:=top 58
theorem ac3:i7 ["_law_urn_here","_law_kind_here","_law_top"] ["_law_urn_here","_law_kind_here"] (c6 O3):=by and_intros
abbrev Q9:Stmt:=top 64
theorem aw4:i7 ["_law_thing"] ["_law_thing"] (c6 Q9):=by and_intros
theorem ax1 {f:Addr} (d:Df K mg "_law_whole" Q9 ["_law_thing"] f) (n_isinstance:mg "isinstance" = none) (n_int:mg "int" = none) (n_bool:mg "bool" = none):Def P w K mg base CX0 1 "_law_whole" f ["_law_thing"] ai3:=by
 refine d.ok (N:=["_law_thing"]) aw4 (λvs H Q E ⟨u,h,_⟩=>by rw [h];rfl) (λcdv A outer s H vs Q E hr h=>?_)
 obtain ⟨i,rfl,k⟩:=h
 refine ⟨_,(c5 (i8 (aQ0 (d9 j8 rfl n_isinstance (by trivial) (a7 (pv 0) (a7 (af1 (v:=.ty "int") rfl n_int (by trivial) rfl) a9))) (aF2 (bi2 (d9 j8 rfl n_isinstance (by trivial) (a7 (pv 0) (a7 (af1 (v:=.ty "bool") rfl n_bool (by trivial) rfl) a9)))))))),?_⟩
 rw [show start ["_law_thing"] [.int i]=[some (.int i)] from rfl]
 subst_eqs
 exact ⟨trivial,_,.of (.int i),_,aM0,bO8 ⟨trivial,_,.of (.int i),_,aG9,k⟩⟩
abbrev G7:Stmt:=top 65
theorem ai5:i7 ["_law_thing"] ["_law_thing"] (c6 G7):=by and_intros
theorem aj0 {f fw fl : Addr} (d : Df K mg "_law_is_number" G7 ["_law_thing"] f) (G__law_whole : Def P w K mg base CX0 1 "_law_whole" fw ["_law_thing"] ai3) (G__law_low : Def P w K mg base CX0 1 "_law_low" fl ["_law_top", "_law_bottom"] ay6) (n_isinstance : mg "isinstance" = none) (n_tuple : mg "tuple" = none) (n_len : mg "len" = none) :
    Def P w K mg base CX0 2 "_law_is_number" f ["_law_thing"] (aU6 K):=by
  refine d.ok (N:=["_law_thing"]) ai5 (λvs H Q E ⟨u,q,h,_⟩=>by rw [h];rfl) (λcdv A outer s H vs Q E hr h=>?_)
  obtain ⟨x,q,rfl,⟨ap,rfl,hS⟩,hd,k⟩:=h
  have hu:=hr.units
  refine ⟨_, (b9 (B0 (PW.pt (aa9 (P7 (M1 (d9 j8 rfl n_isinstance (by decide +kernel) (a7 (pv 0) (a7 (af1 (v := .ty "tuple") rfl n_tuple (by decide +kernel) rfl) a9))))) (aa9 (j3 aA3 (d9 j5 rfl n_len (by decide +kernel) (a7 (pv 0) a9)) b7 (j7 _)) (aa9 (P7 (M1 (d5 G__law_whole hr (a7 (j4 m6 (pv 0) b7 (fun _ _ => rfl)) a9) i5))) (ac5 (P7 (M1 (d5 G__law_whole hr (a7 (j4 m6 (pv 0) b7 (fun _ _ => rfl)) a9) i5)))))))) (c5 (i8 ab0)) p9)
      (c5 (i8 (aQ0 (Y0 ag6 (j4 m6 (pv 0) b7 (λ_ _=>rfl)) b7 (j7 _)) (aF2 (Y0 (aQ2 hu) (d5 G__law_low hr (a7 (j4 m6 (pv 0) b7 (λ_ _=>rfl)) (a7 (j4 m6 (pv 0) b7 (λ_ _=>rfl)) a9)) i5) (pv 0) (j7 _))))))),?_⟩
  rw [show start ["_law_thing"] [.ref ap]=[some (.ref ap)] from rfl]
  have dq:=w5 q
  simp! [ai3,aP2]
  refine ⟨trivial,_,.sqt hS,_,aL9,?_⟩
  simp! [ai3,aP2]
  refine ⟨_,.inr hS,?_⟩
  simp! [ai3,aP2,t7]
  refine B1 (λhh=>absurd rfl hh) (λ_=>?_)
  refine ⟨_,hS,_,at0 q,_,rfl,_,hS,_,at1 q,_,rfl,_,hS,_,at1 q,_,rfl,?_⟩
  rw [if_pos dq]
  refine ⟨_,hS,_,at0 q,_,hS,_,at1 q,_,_,rfl,⋯,hd,λr H' sm hr'=>?_⟩
  rw [Rat.num_divInt_den] at hr'
  refine ⟨N8 q,N8 q,rfl,T8 (SqT.of hr'),T8 (sm.tup hS),aG2 q q,bn9 q,?_⟩
  rw [aX3];exact k H' sm
def spOther:Sp:=λvs H Q _ => ∃ u kd,vs=[.ref u,.int kd]/\v6 H u/\∀ r q H',Sm q->q ≠ 0->x9 u H H'->v6 H' u->H' r=some (.tup (t7 q))->Q (.ref r) H'
abbrev T3:Stmt:=top 59
theorem ag3:i7 ["_law_urn_here","_law_kind_here","_law_found"] ["_law_urn_here","_law_kind_here"] (c6 T3):=by and_intros
def bf5 (K:q0a):Sp:=λvs H Q _ => ∃ a xs qs,vs=[.ref a]/\SqL K H a xs/\v3 H xs qs/\∀ m r H',U7 qs m->c7 H H'->H r=none->H' r=some (.lst (xs.take m))->Q (.ref r) H'
abbrev W5:Stmt:=top 61
theorem ai4:i7 ["_law_numbers","_law_found"] ["_law_numbers"] (c6 W5):=by and_intros
theorem bu4 {α:Type} {xs:List α} {x:α} (h:xs[xs.length-1]? = some x):atI xs (-1)=some x:=by
 have hp:xs.length-1<xs.length:=(q0g.mp h).1
 have e:ixN xs.length (-1)=some (xs.length-1):=by
  unfold ixN
  rw [if_neg (by decide)]
  rw [if_pos ⋯]
  congr 1
  omega
 unfold atI
 rw [e]
 exact h
theorem aF4 {f:Addr} (d:Df K mg "_law_trim" W5 ["_law_numbers"] f) (n_list:mg "list" = none):Def P w K mg base CX0 1 "_law_trim" f ["_law_numbers"] (bf5 K):=by
  refine d.ok (N:=["_law_numbers","_law_found"]) ai4 (λvs H Q E ⟨a,xs,qs,h,_⟩=>by rw [h];rfl) (λcdv A outer s H vs Q E hr h=>?_)
  obtain ⟨a,xs,qs,rfl,hS,hN,k⟩:=h
  have hu:=hr.units
  refine ⟨_, (b9 (d8 (i := 1) ai4.nd rfl (Or.inl rfl) (K6 M6 rfl n_list (by decide +kernel) (a7 (pv 0) a9)))
      (b9 (O7 PassesOwn.never (PW.pt (ak9 (j3 (as5 hu) (pv 1) (z8 a9) (j7 _)) (ae8 (j3 Z4 (j4 m6 (j4 v1 (pv 1) (G4 B6 b7) (λ_ _=>rfl)) b7 (λ_ _=>rfl)) b7 (j7 _))))) (c5 (af0 (al1 PySem.F.plainAttrs_list PySem.F.slot_list_pop PySem.F.type_list_pop bj6 (pv 1)))))
      (c5 (i8 (pv 1))))),?_⟩
  rw [show start ["_law_numbers","_law_found"] [.ref a]=[some (.ref a),none] from rfl]
  subst_eqs
  refine ⟨_,.inl hS,λl hl=>?_⟩
  refine aq9 (λσ H1=>σ=[some (.ref a),some (.ref l)]/\∃ m,m<=qs.length/\(∀ (i:Nat) (q:Rat),m<=i->qs[i]? = some q->q=0)/\c7 H H1/\H1 l=some (.lst (xs.take m))) (λσ H1=>match H1 l with | some (.lst ys)=>ys.length | _=>0)
    ⟨rfl,qs.length,Nat.le_refl _,λi q hi e=>?_,c7.new hl _,?_⟩ ?_
  · rw [List.getElem?_eq_none hi] at e;cases e
  · rw [c4,<- hN.length,List.take_length]
  · rintro σ H1 ⟨rfl,m,hm,hz,sm,e1⟩
    have hml:(xs.take m).length=m:=by rw [List.length_take,hN.length];lia
    subst_eqs
    refine ⟨by decide,λp hp=>?_⟩
    have n1:v3 H1 (xs.take m) (qs.take m):=(hN.mono sm.tups).take m
    have pl:p ≠ l:=(g7 e1 hp).symm
    have e2:upd H1 p (.lst []) l=some (.lst (xs.take m)):=by rw [g8 pl.symm];exact e1
    have n2:v3 (upd H1 p (.lst [])) (xs.take m) (qs.take m):=n1.mono (L5.new hp)
    refine ⟨P4 (qs.take m),P4 [],rfl,O9 (SqL.of e2) n2,O9 (SqL.of c4) .nil,aj2 _ _,Nat.le_trans (aq2 _) (by decide),?_⟩
    rw [ak0]
    by_cases h0:m=0
    · subst h0
      simp only [List.take_zero,decide_true,Bool.not_true,Bool.false_eq_true,if_false]
      refine ⟨false,rfl,B1 (λh=>absurd h (by decide)) λ_=>k 0 l _ ⟨Nat.zero_le _,hz,λh=>absurd rfl h⟩ (sm.trans (c7.new hp _)) hl ?_⟩
      rw [e2]
    · have hlt:m-1<qs.length:=by lia
      have hne:qs.take m ≠ []:=λz=>by
        have:=congrArg List.length z
        rw [List.length_take,List.length_nil] at this
        lia
      simp only [hne,decide_false,Bool.not_false]
      obtain ⟨pv,hv,hpv⟩:=n2.get (i:=m-1) (q:=qs[m-1]) (by rw [List.getElem?_take_of_lt (by lia)];exact List.getElem?_eq_getElem hlt)
      refine ⟨true,rfl,B1 (λ_=>?_) (λh=>absurd rfl h)⟩
      refine ⟨_,SqL.of e2,_,bu4 (by rw [hml];exact hv),_,rfl,_,SqT.of hpv,_,at0 _,rfl,?_⟩
      refine B1 (λhn=>?_) (λhn=>?_)
      · have hn':qs[m-1].num=0:=V.int.inj hn
        refine WhB.mk ?_
        subst_eqs
        refine ⟨.inl ⟨_,SqL.of e2⟩,_,e2,_,by rw [hml];exact hv,WhN.mk ⟨rfl,m-1,by exact Nat.le_of_lt ‹_›,λi q hi e=>?_,(sm.trans (c7.new hp _)).over hl _,?_⟩ ?_⟩
        · by_cases hi':i=m-1
          · subst hi'
            rw [List.getElem?_eq_getElem hlt] at e
            cases e
            exact at4.mp hn'
          · exact hz i q (by lia) e
        · rw [c4,List.dropLast_eq_take,hml,List.take_take,Nat.min_eq_left (by simp)]
        · rw [c4]
          simp only [e1,List.length_dropLast]
          lia
      · have hn':qs[m-1] ≠ 0:=λz=>hn (by rw [z];rfl)
        exact k m l _ ⟨hm,hz,λ_ q e=>by rw [List.getElem?_eq_getElem hlt] at e;cases e;exact hn'⟩ (sm.trans (c7.new hp _)) hl e2
structure BtN (k:Nat) (q:Rat):Prop where
 n:q.num.natAbs<2 ^ 20000
 d:q.den<2 ^ k
theorem BtN.d' {n:Nat} {q:Rat} (b:BtN n q):(q.den:Int).natAbs<2 ^ n:=by rw [q0k];exact b.d
theorem BdN.t {n:Nat} {q:Rat} (b:BdN n q) (h:n<=20000):BtN n q:=⟨q0f b.n (c9 h),b.d⟩
theorem BdN.d' {n:Nat} {q:Rat} (b:BdN n q):(q.den:Int).natAbs<2 ^ n:=by rw [q0k];exact b.d
theorem v3.set {H:Hp}:∀ {vs:List V} {qs:List Rat} (k:Nat) {p:Addr} {q:Rat},v3 H vs qs->H p=some (.tup (t7 q))->v3 H (vs.set k (.ref p)) (qs.set k q)
 | _,_,_,_,_,.nil,_=>.nil
 | _,_,0,_,_,.cons _ t,h=>.cons h t
 | _,_,k+1,_,_,.cons h' t,h=>.cons h' (t.set k h)
theorem v3.rep {H:Hp} {p:Addr} {q:Rat} (h:H p=some (.tup (t7 q))):∀ n,v3 H (z0e n (.ref p)) (z0e n q)
 | 0=>.nil
 | n+1=>.cons h (v3.rep h n)
def P6 (K:q0a) (op:Rat->Rat->Rat):Sp:=λvs H Q _ => ∃ (x y:V) (p q:Rat) (m n:Nat),vs=[x,y]/\Num K H x p/\Num K H y q/\BtN m p/\BtN n q/\m+n<=6000/\aI8 H Q (op p q)
theorem bI7 {p q:Rat} {m n:Nat} (bp:BtN m p) (bq:BtN n q) (h:m+n<=6000):((p.den:Int)*q.den).natAbs<2 ^ 6000:=by
 rw [z0f]
 have:=j0w bp.d' bq.d'
 rw [<- y0e] at this
 exact q0f this (c9 h)
theorem aH5 (p q:Rat):(p.den:Int)*q.den ≠ 0:=j1b (u0n (w5 p) (w5 q))
abbrev W9:Stmt:=top 52
theorem aE1:i7 ["_law_one","_law_other_here"] ["_law_one","_law_other_here"] (c6 W9):=by and_intros
theorem aF8 {f fl:Addr} (d:Df K mg "_law_plus" W9 ["_law_one","_law_other_here"] f) (G__law_low:Def P w K mg base CX0 1 "_law_low" fl ["_law_top","_law_bottom"] ay6):Def P w K mg base CX0 2 "_law_plus" f ["_law_one","_law_other_here"] (P6 K (· + ·)):=by
 refine d.ok (N:=["_law_one","_law_other_here"]) aE1 (by rintro vs H Q E ⟨x,y,p,q,m,n,h,_⟩;rw [h];rfl) (λcdv A outer s H vs Q E hr h=>?_)
 obtain ⟨x,y,p,q,m,n,rfl,⟨ap,rfl,hp⟩,⟨aq,rfl,hq⟩,bp,bq,hmn,k⟩:=h
 refine ⟨_,(c5 (i8 (d5 G__law_low hr (a7 (d7 C9 (d7 p8 (j4 m6 (pv 0) b7 (λ_ _=>rfl)) (j4 m6 (pv 1) b7 (λ_ _=>rfl))) (d7 p8 (j4 m6 (pv 1) b7 (λ_ _=>rfl)) (j4 m6 (pv 0) b7 (λ_ _=>rfl)))) (a7 (d7 p8 (j4 m6 (pv 0) b7 (λ_ _=>rfl)) (j4 m6 (pv 1) b7 (λ_ _=>rfl))) a9)) i5))),?_⟩
 rw [show start ["_law_one","_law_other_here"] [.ref ap,.ref aq]=[some (.ref ap),some (.ref aq)] from rfl]
 subst_eqs
 refine ⟨_,hp,_,at0 p,_,hq,_,at1 q,_,rfl,_,rfl,G5 bp.n bq.d' (by lia),_,hq,_,at0 q,_,hp,_,at1 p,_,rfl,_,rfl,G5 bq.n bp.d' (by lia),_,hp,_,at1 p,_,hq,_,at1 q,_,rfl,_,rfl,G5 bp.d' bq.d' (by lia),?_⟩
 refine ⟨_,_,rfl,aH5 p q,bI7 bp bq hmn,?_⟩
 rw [<- av7]
 exact k
abbrev T2:Stmt:=top 54
theorem aw5:i7 ["_law_one","_law_other_here"] ["_law_one","_law_other_here"] (c6 T2):=by and_intros
theorem ax3 {f fl:Addr} (d:Df K mg "_law_times" T2 ["_law_one","_law_other_here"] f) (G__law_low:Def P w K mg base CX0 1 "_law_low" fl ["_law_top","_law_bottom"] ay6):Def P w K mg base CX0 2 "_law_times" f ["_law_one","_law_other_here"] (P6 K (· * ·)):=by
 refine d.ok (N:=["_law_one","_law_other_here"]) aw5 (by rintro vs H Q E ⟨x,y,p,q,m,n,h,_⟩;rw [h];rfl) (λcdv A outer s H vs Q E hr h=>?_)
 obtain ⟨x,y,p,q,m,n,rfl,⟨ap,rfl,hp⟩,⟨aq,rfl,hq⟩,bp,bq,hmn,k⟩:=h
 refine ⟨_,(c5 (i8 (d5 G__law_low hr (a7 (d7 p8 (j4 m6 (pv 0) b7 (λ_ _=>rfl)) (j4 m6 (pv 1) b7 (λ_ _=>rfl))) (a7 (d7 p8 (j4 m6 (pv 0) b7 (λ_ _=>rfl)) (j4 m6 (pv 1) b7 (λ_ _=>rfl))) a9)) i5))),?_⟩
 rw [show start ["_law_one","_law_other_here"] [.ref ap,.ref aq]=[some (.ref ap),some (.ref aq)] from rfl]
 subst_eqs
 refine ⟨_,hp,_,at0 p,_,hq,_,at0 q,_,rfl,_,rfl,G5 bp.n bq.n ⋯,_,hp,_,at1 p,_,hq,_,at1 q,_,rfl,_,rfl,G5 bp.d' bq.d' ⋯,?_⟩
 refine ⟨_,_,rfl,aH5 p q,bI7 bp bq hmn,?_⟩
 rw [<- at7]
 exact k
def aD7 (K:q0a):Sp:=λvs H Q _ => ∃ x y p q,vs=[x,y]/\Num K H x p/\Num K H y q/\BdN 6000 p/\BdN 6000 q/\Q (.bl (decide (p<q))) H
abbrev T4:Stmt:=top 56
theorem aw6:i7 ["_law_one","_law_other_here"] ["_law_one","_law_other_here"] (c6 T4):=by and_intros
theorem ax4 {f:Addr} (d:Df K mg "_law_below" T4 ["_law_one","_law_other_here"] f):Def P w K mg base CX0 1 "_law_below" f ["_law_one","_law_other_here"] (aD7 K):=by
 refine d.ok (N:=["_law_one","_law_other_here"]) aw6 (λvs H Q E ⟨x,y,p,q,h,_⟩=>by rw [h];rfl) (λcdv A outer s H vs Q E hr h=>?_)
 obtain ⟨x,y,p,q,rfl,⟨ap,rfl,hp⟩,⟨aq,rfl,hq⟩,bp,bq,k⟩:=h
 refine ⟨_,(c5 (i8 (Y0 ag5 (d7 p8 (j4 m6 (pv 0) b7 (λ_ _=>rfl)) (j4 m6 (pv 1) b7 (λ_ _=>rfl))) (d7 p8 (j4 m6 (pv 1) b7 (λ_ _=>rfl)) (j4 m6 (pv 0) b7 (λ_ _=>rfl))) (j7 _)))),?_⟩
 rw [show start ["_law_one","_law_other_here"] [.ref ap,.ref aq]=[some (.ref ap),some (.ref aq)] from rfl]
 subst_eqs
 refine ⟨_,hp,_,at0 p,_,hq,_,at1 q,_,rfl,_,rfl,G5 bp.n bq.d',_,hq,_,at0 q,_,hp,_,at1 p,_,rfl,_,rfl,G5 bq.n bp.d',?_⟩
 have e:(p<q) ↔ (p.num*(q.den:Int)<q.num*(p.den:Int)):=m0x p q
 simp only [e] at k
 exact k
theorem bd0 {Ts:List (List Int)} {g:List Int->Int} {e:List Int->Rat} (h:∀ T,SS ((g T:Int):Rat) (e T)):aC4 ((Ts.map g).map λv:Int=>(v:Rat)) (Ts.map e):=by
 induction Ts with
 | nil=>exact .nil
 | cons T r ih=>exact .cons (h T) ih
theorem Chn.chr {K:q0a} {H:Hp} {a:Addr} {rs:List Addr} {Ts:List (List Int)} {L:List (Fp × Nat)} (h:Chn Ts L) (e:H a=some (.lst (rs.map V.ref))) (r:RwZ H rs Ts):ChR K H a rs Ts:=⟨SqL.of e,r,λT hT=>⟨(h.ok T hT).1,(h.ok T hT).2.2.1,(h.ok T hT).2.2.2⟩,h.ln.2⟩
theorem bJ0 {t b:Int} (hb:0<b) (Ts:List (List Int)):L4 0 (Ts.map λT=>sgI (hw t b T))=chg 0 (Ts.map λT=>evQ (q0s t b) (T.map λv:Int=>(v:Rat))):=by
 rw [aq6]
 refine aS9 (bd0 λT=>?_) (aD2 0)
 have d0:b ≠ 0:=⋯
 have e:=bl8 (t:=t) (b:=b) d0 T
 rw [<- j0n] at e
 have dq:(0:Rat)<(b:Rat):=j0u.mpr hb
 have pp:∀ n:Nat,(0:Rat)<(b:Rat) ^ n:=λn=>by
  induction n with
  | zero=>rw [j1g];decide
  | succ n ih=>rw [q1e];exact z0p ih dq
 refine bB8 ?_ e
 rw [y0j]
 exact z0p (pp _) (q1z.mpr dq)
theorem aW1 {n:Nat} (h:n<=3000):n<sizeLine:=q0v h (by decide)
inductive Ens (H:Hp) (κ:Int):List V->List En->Prop where
 | nil:Ens H κ [] []
 | cons {p:Addr} {e:En} {vs:List V} {es:List En} (h:H p=some (.tup [.int e.l,.int e.h,.int e.b,.int ((e.cl:Int)+κ),.int ((e.ch:Int)+κ)])) (t:Ens H κ vs es):Ens H κ (.ref p :: vs) (e :: es)
theorem Ens.mono {H H':Hp} {κ:Int} {vs:List V} {es:List En} (s:L5 H H') (h:Ens H κ vs es):Ens H' κ vs es:=by
 induction h with
 | nil=>exact .nil
 | cons a _ ih=>exact .cons (s _ _ a) ih
theorem Ens.length {H:Hp} {κ:Int} {vs:List V} {es:List En} (h:Ens H κ vs es):vs.length=es.length:=by
 induction h with
 | nil=>rfl
 | cons _ _ ih=>simp [ih]
theorem Ens.snoc {H:Hp} {κ:Int} {vs:List V} {es:List En} (h:Ens H κ vs es) {p:Addr} {e:En} (hp:H p=some (.tup [.int e.l,.int e.h,.int e.b,.int ((e.cl:Int)+κ),.int ((e.ch:Int)+κ)])):Ens H κ (vs ++ [.ref p]) (es ++ [e]):=by
 induction h with
 | nil=>exact .cons hp .nil
 | cons a _ ih=>exact .cons a ih
theorem Ens.pop {H:Hp} {κ:Int}:∀ {vs:List V} {es:List En} {e:En},Ens H κ vs (es ++ [e])->∃ vs' p,vs=vs' ++ [.ref p]/\Ens H κ vs' es/\H p=some (.tup [.int e.l,.int e.h,.int e.b,.int ((e.cl:Int)+κ),.int ((e.ch:Int)+κ)])
 | _,[],e,.cons h .nil=>⟨[],_,rfl,.nil,h⟩
 | _,x :: r,e,.cons h t=>by
  obtain ⟨vs',p,rfl,a,b⟩:=Ens.pop (es:=r) t
  exact ⟨_ :: vs',p,rfl,.cons h a,b⟩
inductive Sts (H:Hp):List V->List (Rat × Rat)->Prop where
 | nil:Sts H [] []
 | cons {p pl ph:Addr} {x:Rat × Rat} {vs:List V} {fs:List (Rat × Rat)} (h:H p=some (.tup [.ref pl,.ref ph])) (hl:H pl=some (.tup (t7 x.1))) (hh:H ph=some (.tup (t7 x.2))) (t:Sts H vs fs):Sts H (.ref p :: vs) (x :: fs)
theorem Sts.mono {H H':Hp} {vs:List V} {fs:List (Rat × Rat)} (s:L5 H H') (h:Sts H vs fs):Sts H' vs fs:=by
 induction h with
 | nil=>exact .nil
 | cons a b c _ ih=>exact .cons (s _ _ a) (s _ _ b) (s _ _ c) ih
theorem Sts.length {H:Hp} {vs:List V} {fs:List (Rat × Rat)} (h:Sts H vs fs):vs.length=fs.length:=by
 induction h with
 | nil=>rfl
 | cons _ _ _ _ ih=>simp [ih]
theorem Sts.snoc {H:Hp} {vs:List V} {fs:List (Rat × Rat)} (h:Sts H vs fs) {p pl ph:Addr} {x:Rat × Rat} (hp:H p=some (.tup [.ref pl,.ref ph])) (hl:H pl=some (.tup (t7 x.1))) (hh:H ph=some (.tup (t7 x.2))):Sts H (vs ++ [.ref p]) (fs ++ [x]):=by
 induction h with
 | nil=>exact .cons hp hl hh .nil
 | cons a b c _ ih=>exact .cons a b c ih
theorem Stk.c0 {rs:List Rtu} {Z:Rat->Prop} {es:List En} {c:Nat} {x:Rat} (h:Stk rs Z es c x) (e:es=[]):c=0:=by
 cases h with
 | nil=>rfl
 | snoc=>simp at e
theorem nw2 {H:Hp} {a:Addr} (o:HO) (h:H a=none):∃ H',upd H a o=H'/\c7 H H'/\H' a=some o:=⟨_,rfl,c7.new h o,c4⟩
theorem bn1:∀ es:List En,es.length<=msr es
 | []=>q0q _
 | e :: r=>by
  have:=bn1 r
  show r.length+1<=(1+2*e.n*(e.cl-e.ch))+msr r
  lia
theorem RwZ.head {H:Hp} {as:List Addr} {Ts:List (List Int)} {T0:List Int} (r:RwZ H as Ts) (e:Ts[0]? = some T0):∃ a0 as',as=a0 :: as'/\H a0=some (.lst (T0.map V.int)):=by
 cases r with
 | nil=>cases e
 | cons h t=>cases e;exact ⟨_,_,rfl,h⟩
def by2 (K:q0a) (C:Addr):Sp:=λvs H Q E => ∃ (a:Addr) (xs:List V) (ps:List Rat),vs=[.ref a]/\SqL K H a xs/\v3 H xs ps/\(ps=[]->E (.ref C) none H)/\(ps ≠ []->∃ (L:List (Fp × Nat)) (rs:List Rtu) (few:Nat) (ap:Bool),Drn ps L rs few ap/\ps.length<=9/\∀ r ws fs x H',c7 H H'->H r=none->H' r=some (.lst ws)->Sts H' ws fs->Fnd rs (λc=>aw L c ≠ 0) fs x->fs.length=rs.length->an1 L rs fs->Q (.ref r) H')
abbrev L8:Stmt:=top 47
theorem j6:i7 ["p","chain","bound","found","ahead","low","high","bottom","at_low","at_high","at_point","point"] ["p"] (c6 L8):=by and_intros
theorem ao9 {f f1 f2 f3 f4 f5 f6 f7 C:Addr} (d:Df K mg "stretches_of" L8 ["p"] f) (G_chain_of:Def P w K mg base CX0 4 "chain_of" f1 ["p"] (aU8 K)) (G_bound_of:Def P w K mg base CX0 1 "bound_of" f2 ["wholes"] (aU9 K)) (G_changes_below_all:Def P w K mg base CX0 2 "changes_below_all" f3 ["chain"] (ap7 K ldB)) (G_changes_above_all:Def P w K mg base CX0 2 "changes_above_all" f4 ["chain"] (ap7 K ldA)) (G_changes_at:Def P w K mg base CX0 3 "changes_at" f5 ["chain","top","bottom"] (bf9 K)) (G_point_within:Def P w K mg base CX0 2 "point_within" f6 ["wholes","low","high","bottom"] (aJ6 K)) (G_fraction:Def P w K mg base CX0 2 "fraction" f7 ["top","bottom"] ar5) (x_NoPolynomial:ExT K mg "NoPolynomial" C):Def P w K mg base (CXR P w) 5 "stretches_of" f ["p"] (by2 K C):=by
  refine d.okR (N:=["p","chain","bound","found","ahead","low","high","bottom","at_low","at_high","at_point","point"]) j6 (by rintro vs H Q E ⟨_,_,_,h,_⟩;rw [h];rfl) (λcdv A outer s H vs Q E hr h=>?_)
  obtain ⟨a,xs,ps,rfl,hS,hN,k0,k1⟩:=h
  refine ⟨_, (b9 (B0 (P7 (Z2 (pv 0) (fun _ => rfl))) (c5 (bh2 x_NoPolynomial.ox PySem.F.excBase_ValueError rfl rfl x_NoPolynomial.m ba1 (a7 Y4 a9))) p9)
      (b9 (d8 (i:=1) j6.nd rfl (Or.inl rfl) (d5 G_chain_of hr (a7 (pv 0) a9) i5))
      (b9 (d8 (i:=2) j6.nd rfl (Or.inl rfl) (d5 G_bound_of hr (a7 (j4 v1 (pv 1) b7 (λ_ _=>rfl)) a9) i5))
      (b9 (d8 (i:=3) j6.nd rfl (Or.inl rfl) (z8 a9))
      (b9 (d8 (i:=4) j6.nd rfl (Or.inl rfl) (z8 (a7 (q8 (a7 (G4 B6 (pv 2)) (a7 (pv 2) (a7 b7 (a7 (d5 G_changes_below_all hr (a7 (pv 1) a9) i5) (a7 (d5 G_changes_above_all hr (a7 (pv 1) a9) i5) a9)))))) a9)))
      (b9 (PS.nox (O7 PassesOwn.never (Z2 (pv 4) (λ_=>rfl)) (b9 (P8 (al1 PySem.F.plainAttrs_list PySem.F.slot_list_pop PySem.F.type_list_pop bj6 (pv 4)) (show PG _ _ (af8 K 5 (A8 (t8 5) (A8 (t8 6) (A8 (t8 7) (A8 (t8 8) (A8 (t8 9) af9)))))) from by (refine N5 (n:=5) ?_ ?_ ?_ ?_;rfl;(refine k7 ?_ ?_ ?_;(exact (i3 (i:=5) j6.nd rfl (Or.inl rfl)));(refine k7 ?_ ?_ ?_;(exact (i3 (i:=6) j6.nd rfl (Or.inl rfl)));(refine k7 ?_ ?_ ?_;(exact (i3 (i:=7) j6.nd rfl (Or.inl rfl)));(refine k7 ?_ ?_ ?_;(exact (i3 (i:=8) j6.nd rfl (Or.inl rfl)));(refine k7 ?_ ?_ ?_;(exact (i3 (i:=9) j6.nd rfl (Or.inl rfl)));(exact G8);rfl);rfl);rfl);rfl);rfl);rfl;rfl)))
      (c5 (B0 (j3 Z4 (d7 F6 (pv 8) (pv 9)) b7 (j7 _)) (c5 (af0 (an5 PySem.F.plainAttrs_list PySem.F.slot_list_append PySem.F.type_list_append G9 (pv 3) (a7 (q8 (a7 (d5 G_fraction hr (a7 (pv 5) (a7 (pv 7) a9)) i5) (a7 (d5 G_fraction hr (a7 (pv 6) (a7 (pv 7) a9)) i5) a9))) a9)))) (c5 (B0 (j3 ag6 (d7 F6 (pv 8) (pv 9)) b7 (j7 _)) (b9 (P8 (d5 G_point_within hr (a7 (j4 v1 (pv 1) b7 (λ_ _=>rfl)) (a7 (pv 5) (a7 (pv 6) (a7 (pv 7) a9)))) i5) (show PG _ _ (af8 K 4 (A8 (t8 5) (A8 (t8 11) (A8 (t8 6) (A8 (t8 7) af9))))) from by (refine N5 (n:=4) ?_ ?_ ?_ ?_;rfl;(refine k7 ?_ ?_ ?_;(exact (i3 (i:=5) j6.nd rfl (Or.inl rfl)));(refine k7 ?_ ?_ ?_;(exact (i3 (i:=11) j6.nd rfl (Or.inl rfl)));(refine k7 ?_ ?_ ?_;(exact (i3 (i:=6) j6.nd rfl (Or.inl rfl)));(refine k7 ?_ ?_ ?_;(exact (i3 (i:=7) j6.nd rfl (Or.inl rfl)));(exact G8);rfl);rfl);rfl);rfl);rfl;rfl)))
      (b9 (d8 (i:=10) j6.nd rfl (Or.inl rfl) (d5 G_changes_at hr (a7 (pv 1) (a7 (pv 11) (a7 (pv 7) a9))) i5))
      (b9 (af0 (an5 PySem.F.plainAttrs_list PySem.F.slot_list_append PySem.F.type_list_append G9 (pv 4) (a7 (q8 (a7 (pv 11) (a7 (pv 6) (a7 (pv 7) (a7 (pv 10) (a7 (pv 9) a9)))))) a9)))
      (c5 (af0 (an5 PySem.F.plainAttrs_list PySem.F.slot_list_append PySem.F.type_list_append G9 (pv 4) (a7 (q8 (a7 (pv 5) (a7 (pv 11) (a7 (pv 7) (a7 (pv 8) (a7 (pv 10) a9)))))) a9))))))) p9)))))))
      (c5 (i8 (pv 3))))))))),?_⟩
  rw [show start ["p","chain","bound","found","ahead","low","high","bottom","at_low","at_high","at_point","point"] [.ref a]=[some (.ref a),none,none,none,none,none,none,none,none,none,none,none] from rfl]
  refine d6 (λσ H1=>σ=[some (.ref a),none,none,none,none,none,none,none,none,none,none,none]/\H=H1/\ps ≠ []) (λN hN2=>?_) ?_
  · simp! [ax9]
    refine ⟨_,.inl ⟨_,hS,rfl⟩,B1 (λh0=>?_) (λh0=>hN2 _ _ ⟨rfl,rfl,λz=>h0 ?_⟩)⟩
    · refine ⟨by decide,k0 ?_⟩
      cases ps with
      | nil=>rfl
      | cons q t=>cases hN;simp at h0
    · rw [z] at hN;cases hN;rfl
  rintro σ H1 ⟨rfl,rfl,hne⟩
  obtain ⟨L,rs,few,ap,Dr,l9,k⟩:=k1 hne
  have T:=Dr.told (by lia)
  refine d6 (λσ H1 => ∃ D as Ts,σ=[some (.ref a),some (.ref D),none,none,none,none,none,none,none,none,none,none]/\c7 H H1/\ChR K H1 D as Ts/\Chn Ts L) (λN hN2=>?_) ?_
  · subst_eqs
    exact ⟨a,xs,ps,L,rfl,hS,hN,hne,T,λr as Ts H1 s1 e1 rw1 ch=>hN2 _ _ ⟨r,as,Ts,rfl,s1,ch.chr e1 rw1,ch⟩⟩
  rintro σ H1 ⟨D,as,Ts,rfl,s1,R,ch⟩
  obtain ⟨mm,cn⟩:=Dr.cn
  have hv:∀ r ∈ rs,r.o=0 \/ ((r.o=1 \/ r.o=-1)/\0<r.v):=λr h=>(Dr.ro r h).2.2
  obtain ⟨C',c1,c2,c3⟩:=ch.ch cn hv
  have RS:=Dr.rsp
  obtain ⟨T0,c,eT0,hc0,ec⟩:=ch.hd
  have okT:=ch.ok T0 (List.mem_of_getElem? eT0)
  have H0:Hd0 T0 L:=⟨⟨c,hc0,ec⟩,okT.2.1,okT.1,T.fl,Dr.n9,T.n8⟩
  have gT:=ch.g0 T0 eT0
  have lT:=H0.len
  have n8:=T.n8
  obtain ⟨ld0,ldd⟩:=H0.lead
  have l8:rs.length<=8:=by have:=Dr.ln;lia
  have evT:=bz7 H0.ok1 ec
  have zT:∀ t,evQ t (T0.map λv:Int=>(v:Rat))=0 ↔ aw L t=0:=λt=>by
    rw [evT t]
    exact ⟨λz=>(Rat.mul_eq_zero.mp z).resolve_left hc0,λz=>by rw [z,Rat.mul_zero]⟩
  obtain ⟨a0,as',eas,h0⟩:=R.rw'.head eT0
  have hat0:atI (as.map V.ref) 0=some (.ref a0):=by rw [eas];simp [atI,ixN]
  obtain ⟨κ,hκ⟩:∃ κ:Int,κ=(mm:Int)-(C':Int):=⟨_,rfl⟩
  obtain ⟨n,hn⟩:∃ n,n=nT (L.map rt1):=⟨_,rfl⟩
  refine d6 (λσ H2 => ∃ h:Nat,σ=[some (.ref a),some (.ref D),some (.int (2*2 ^ h)),none,none,none,none,none,none,none,none,none]/\H2=H1/\h<=8/\(h:Int)=hI T0 (nT (L.map rt1)) (nT (L.map rt1))/\Hgh T0 (nT (L.map rt1)) h) (λN hN2=>?_) ?_
  · subst_eqs
    exact ⟨_,R.at',_,hat0,a0,T0,_,rfl,SqL.of h0,lT,n8,ld0,ldd,λh h8 hh hg=>hN2 _ _ ⟨h,rfl,rfl,h8,hh,hg⟩⟩
  rintro σ H2 ⟨h,rfl,rfl,h8,hh,hg⟩
  have EN0:=bI5 Dr H0 h8 hg
  refine d6 (λσ H3 => ∃ lf,σ=[some (.ref a),some (.ref D),some (.int (2*2 ^ h)),some (.ref lf),none,none,none,none,none,none,none,none]/\c7 H2 H3/\H2 lf=none/\H3 lf=some (.lst [])) (λN hN2=>?_) ?_
  · subst_eqs
    exact ⟨by decide,λp hp=>hN2 _ _ ⟨p,rfl,c7.new hp _,hp,c4⟩⟩
  rintro σ H3 ⟨lf,rfl,s3,flf,ef⟩
  have R3:=R.same s3
  refine d6 (λσ H4 => ∃ la p,σ=[some (.ref a),some (.ref D),some (.int (2*2 ^ h)),some (.ref lf),some (.ref la),none,none,none,none,none,none,none]/\c7 H2 H4/\H2 la=none/\la ≠ lf/\H4 lf=some (.lst [])/\H4 la=some (.lst [.ref p])/\Ens H4 κ [.ref p] [e0 rs.length h]) (λN hN2=>?_) ?_
  · subst_eqs
    refine ⟨D,as,Ts,rfl,R3,λH4 s4=>⟨D,as,Ts,rfl,R3.same s4,λH5 s5=>⟨by decide,λp hp=>⟨by decide,λla hla=>?_⟩⟩⟩⟩
    have X1:=c7.new hp (.tup [.int (-(2*2 ^ h)),.int (2*2 ^ h),.int 1,.int (L4 0 (Ts.map ldB):Nat),.int (L4 0 (Ts.map ldA):Nat)])
    have X2:=c7.new hla (.lst [.ref p])
    have S5:=s4.trans s5
    have ef5:=X1 _ _ (S5 _ _ ef)
    refine hN2 _ _ ⟨la,p,rfl,s3.trans (S5.trans (X1.trans X2)),s3.free (S5.free (X1.free hla)),g7 ef5 hla |>.symm,X2 _ _ ef5,c4,.cons ?_ .nil⟩
    have e1:((L4 0 (Ts.map ldB):Nat):Int)=((rs.length:Nat):Int)+κ:=by lia
    have e2:((L4 0 (Ts.map ldA):Nat):Int)=((0:Nat):Int)+κ:=by lia
    refine (X2 p _ c4).trans ?_
    rw [e1,e2]
    rfl
  rintro σ H4 ⟨la,p,rfl,s4,fla,laf,ef4,ea4,en4⟩
  obtain ⟨J,hJ⟩:∃ J:Nat->L2.St->Hp->Prop,∀ m σ H5,J m σ H5 ↔ ∃ (o5 o6 o7 o8 o9 o10 o11:Option V) (es:List En) (vs ws:List V) (fs:List (Rat × Rat)) (c:Nat) (x:Rat),σ=[some (.ref a),some (.ref D),some (.int (2*2 ^ h)),some (.ref lf),some (.ref la),o5,o6,o7,o8,o9,o10,o11]/\c7 H2 H5/\H5 la=some (.lst vs)/\Ens H5 κ vs es/\H5 lf=some (.lst ws)/\Sts H5 ws fs/\Stk rs (λc=>aw L c ≠ 0) es c x/\Fnd rs (λc=>aw L c ≠ 0) fs x/\c+fs.length=rs.length/\(∀ out,Run (λc=>rs.countP (abv c)) (λc=>aw L c=0) es.reverse fs out->Run (λc=>rs.countP (abv c)) (λc=>aw L c=0) [e0 rs.length h] [] out)/\m=msr es/\m<=2000:=⟨_,λ_ _ _=>Iff.rfl⟩
  refine d6 (λσ H5 => ∃ (o5 o6 o7 o8 o9 o10 o11:Option V) (ws:List V) (fs:List (Rat × Rat)) (x:Rat),σ=[some (.ref a),some (.ref D),some (.int (2*2 ^ h)),some (.ref lf),some (.ref la),o5,o6,o7,o8,o9,o10,o11]/\c7 H2 H5/\H5 lf=some (.lst ws)/\Sts H5 ws fs/\Fnd rs (λc=>aw L c ≠ 0) fs x/\fs.length=rs.length/\Run (λc=>rs.countP (abv c)) (λc=>aw L c=0) [e0 rs.length h] [] fs) (λN hN2=>?_) ?_
  · have m0:msr [e0 rs.length h]<=2000:=by show (1+2*100*(rs.length-0))+0<=2000;lia
    refine aC6 J (msr [e0 rs.length h]) ((hJ _ _ _).mpr ⟨_,_,_,_,_,_,_,[e0 rs.length h],_,[],[],rs.length,(e0 rs.length h).lo,rfl,s4,ea4,en4,ef4,.nil,?_,⟨λi p e=>by simp at e,λi p q e=>by simp at e,λp hp=>by simp at hp⟩,rfl,λout h=>h,rfl,m0⟩) ?_
    · exact Stk.snoc (es:=[]) (e:=e0 rs.length h) (.nil (e0 rs.length h).hi) EN0 rfl Rat.le_refl Rat.le_refl
    intro m σ H5 h5
    obtain ⟨o5,o6,o7,o8,o9,o10,o11,es,vs,ws,fs,c,x,rfl,s5,ea,en,efw,st,stk,fnd,cc,run,rfl,m2⟩:=(hJ _ _ _).mp h5
    have lvs:=en.length
    have les:=bn1 es
    simp! [ax9]
    refine ⟨_,.inl ⟨_,SqL.of ea,rfl⟩,B1 (λhB=>WhG.mk ?_) (λhB=>?_)⟩
    · have ne : es ≠ [] := fun z => by
        rw [z] at lvs
        rw [List.eq_nil_of_length_eq_zero lvs] at hB
        cases hB
      obtain ⟨es',e,c',y,rfl,ecl,stk',he,hc',hy,hx⟩:=stk.last ne
      obtain ⟨vs',q,rfl,en',eq⟩:=en.pop
      have hd:(vs' ++ [V.ref q]).dropLast=vs':=List.dropLast_concat
      have le':vs'.length=es'.length:=en'.length
      rw [List.length_append,List.length_singleton] at les
      have mapp:=aq1 es' e
      refine d6 (λσ H6=>σ=[some (.ref a),some (.ref D),some (.int (2*2 ^ h)),some (.ref lf),some (.ref la),some (.int e.l),some (.int e.h),some (.int e.b),some (.int ((e.cl:Int)+κ)),some (.int ((e.ch:Int)+κ)),o10,o11]/\c7 H2 H6/\H6 la=some (.lst vs')/\Ens H6 κ vs' es'/\H6 lf=some (.lst ws)/\Sts H6 ws fs) (λN hN3=>?_) ?_
      · subst_eqs
        refine ⟨.inl ⟨_,SqL.of ea⟩,_,ea,_,by rw [List.length_append,List.length_singleton,Nat.add_sub_cancel,List.getElem?_append_right (Nat.le_refl _),Nat.sub_self];rfl,?_⟩
        rw [hd]
        have tp:L5 H5 (upd H5 la (.lst vs')):=L5.lst ea
        refine ⟨_,rfl,_,SqT.of (tp _ _ eq),rfl,_,_,rfl,_,_,rfl,_,_,rfl,_,_,rfl,_,_,rfl,rfl,hN3 _ _ ⟨rfl,s5.over fla _,c4,en'.mono tp,by rw [g8 laf.symm];exact efw,st.mono tp⟩⟩
      clear ea en eq efw st
      rintro σ H6 ⟨rfl,s6,ea,en,efw,st⟩
      have lws:=st.length
      have ed:(e.cl:Int)+κ-((e.ch:Int)+κ)=(e.cl:Int)-(e.ch:Int):=by lia
      have ecc:=he.cc
      have lfs:fs.length<=8:=by lia
      have rev1:(es' ++ [e]).reverse=e :: es'.reverse:=by rw [List.reverse_append];rfl
      refine ⟨_,rfl,_,rfl,_,_,rfl,rfl,rfl,_,rfl,B1 (λz=>?_) (λz=>?_)⟩
      · have z1 : e.cl = e.ch + 1 := by
          have:=V.int.inj (of_decide_eq_true z)
          lia
        obtain ⟨_,_,bb⟩:=he.bits
        have b0:e.b ≠ 0:=by have:=he.bp;lia
        have b6:e.b.natAbs<2 ^ 6000:=Nat.lt_of_lt_of_le bb (c9 (by decide))
        subst_eqs
        refine ⟨.inl ⟨_,SqL.of efw⟩,e.l,e.b,rfl,b6,b0,λpl H7 s7 e7=>⟨e.h,e.b,rfl,b6,b0,λph H8 s8 e8=>⟨v4,λp hp=>?_⟩⟩⟩
        obtain ⟨H9,y9,X9,g9⟩:=nw2 (.tup [.ref pl,.ref ph]) hp
        rw [y9]
        have S69:=s7.trans (s8.trans X9)
        have efw9:=S69 _ _ efw
        have ea9:=S69 _ _ ea
        have tp:L5 H9 (upd H9 lf (.lst (ws ++ [.ref p]))):=L5.lst efw9
        refine ⟨ws,efw9,N6 (by lia),WgN.mk (m':=msr es') (by lia) ((hJ _ _ _).mpr ⟨_,_,_,_,_,_,_,es',vs',ws ++ [.ref p],fs ++ [(e.lo,e.hi)],c',e.hi,rfl,(s6.trans S69).over flf _,by rw [g8 laf];exact ea9,(en.mono S69.tups).mono tp,c4,?_,stk'.weak hy,fnd.snoc he hx (by lia) z1,by rw [List.length_append,List.length_singleton];lia,λout ho=>run out (by rw [rev1];exact .one z1 ho),rfl,by lia⟩)⟩
        exact ((st.mono S69.tups).mono tp).snoc (x:=(e.lo,e.hi)) (tp _ _ g9) (tp _ _ ((s8.trans X9) _ _ e7)) (tp _ _ (X9 _ _ e8))
      · have z1:e.cl ≠ e.ch+1:=λy=>z (decide_eq_true (by show V.int ((e.cl:Int)+κ-((e.ch:Int)+κ))=V.int 1;rw [ed,y];congr 1;lia))
        refine ⟨_,rfl,_,rfl,_,_,rfl,rfl,_,_,rfl,rfl,_,rfl,B1 (λz2=>?_) (λz2=>?_)⟩
        · have z3 : e.ch + 2 ≤ e.cl := by
            have:=of_decide_eq_true z2
            lia
          have npos:=he.npos RS z3
          obtain ⟨bl,bh,bb⟩:=he.bits
          have R6:=R.same s6
          refine d6 (λσ H7 => ∃ q:Nat,σ=[some (.ref a),some (.ref D),some (.int (2*2 ^ h)),some (.ref lf),some (.ref la),some (.int (e.l*q)),some (.int (e.h*q)),some (.int (e.b*q)),some (.int ((e.cl:Int)+κ)),some (.int ((e.ch:Int)+κ)),o10,some (.int (e.l*((q:Int)-1)+e.h))]/\c7 H6 H7/\2<=q/\q<=10/\(∀ j:Nat,2<=j->j<q->aw L (e.pt j)=0)/\aw L (e.pt q) ≠ 0) (λN hN3=>?_) ?_
          · subst_eqs
            refine ⟨_,R6.at',_,hat0,a0,T0,e.l,e.h,e.b,rfl,SqL.of (s6 _ _ h0),H0.ne,H0.tz,by lia,okT.2.2.2,he.lh,he.bp,bl,bh,bb,λq r H7 q2 q10 hz nz s7 e7=>?_⟩
            exact ⟨r,rfl,_,SqT.of e7,rfl,_,_,rfl,_,_,rfl,_,_,rfl,_,_,rfl,rfl,hN3 _ _ ⟨q,rfl,s7,q2,q10,λj h1 h2=>(zT _).mp (hz j h1 h2),λy=>nz ((zT _).mpr y)⟩⟩
          rintro σ H7 ⟨q,rfl,s7,q2,q10,hz,nz⟩
          obtain ⟨cnt,hcnt⟩:∃ cnt,cnt=rs.countP (abv (e.pt q)):=⟨_,rfl⟩
          obtain ⟨ku,kd,hu',hd',hud⟩:=he.parts npos (q:=(q:Int)) (by lia) (by lia) (c:=cnt) hcnt.symm nz
          refine d6 (λσ H8=>σ=[some (.ref a),some (.ref D),some (.int (2*2 ^ h)),some (.ref lf),some (.ref la),some (.int (e.l*q)),some (.int (e.h*q)),some (.int (e.b*q)),some (.int ((e.cl:Int)+κ)),some (.int ((e.ch:Int)+κ)),some (.int ((cnt:Int)+κ)),some (.int (e.l*((q:Int)-1)+e.h))]/\c7 H6 H8) (λN hN3=>?_) ?_
          · subst_eqs
            obtain ⟨t1,_,t3⟩:=ku.bits
            refine ⟨D,as,Ts,_,_,400,rfl,R6.same s7,t1,t3,by decide,λH8 s8=>hN3 _ _ ⟨?_,s7.trans s8⟩⟩
            have bp:0<e.b*(q:Int):=ku.bp
            rw [bJ0 bp]
            have:=c1 (e.pt q)
            rw [<- hcnt] at this
            have e2:((chg 0 (Ts.map λT=>evQ (Rat.divInt (e.l*((q:Int)-1)+e.h) (e.b*q)) (T.map λv:Int=>(v:Rat))):Nat):Int)=(cnt:Int)+κ:=by
              have:chg 0 (Ts.map λT=>evQ (Rat.divInt (e.l*((q:Int)-1)+e.h) (e.b*q)) (T.map λv:Int=>(v:Rat)))+C'=cnt+mm:=this
              lia
            rw [e2]
          rintro σ H8 ⟨rfl,s8⟩
          have cu:=ku.cc
          have cd:=kd.cc
          subst_eqs
          have ea8:=s8 _ _ ea
          refine ⟨.inl ⟨_,SqL.of ea8⟩,by decide,λp1 hp1=>?_⟩
          obtain ⟨H9,y9,X9,g9⟩:=nw2 (.tup [.int (e.l*((q:Int)-1)+e.h),.int (e.h*q),.int (e.b*q),.int ((cnt:Int)+κ),.int ((e.ch:Int)+κ)]) hp1
          rw [y9]
          have S9:=s8.trans X9
          have ea9:=X9 _ _ ea8
          refine ⟨vs',ea9,aW1 (by lia),?_⟩
          obtain ⟨HA,yA⟩:∃ HA,upd H9 la (.lst (vs' ++ [.ref p1]))=HA:=⟨_,rfl⟩
          have tA:L5 H9 HA:=by rw [<- yA];exact L5.lst ea9
          have eaA:HA la=some (.lst (vs' ++ [.ref p1])):=by rw [<- yA];exact c4
          have sA:c7 H2 HA:=by rw [<- yA];exact (s6.trans S9).over fla _
          have efA:HA lf=some (.lst ws):=by rw [<- yA,g8 laf.symm];exact S9 _ _ efw
          rw [yA]
          refine ⟨.inl ⟨_,SqL.of eaA⟩,by decide,λp2 hp2=>?_⟩
          obtain ⟨HB,yB,XB,gB⟩:=nw2 (.tup [.int (e.l*q),.int (e.l*((q:Int)-1)+e.h),.int (e.b*q),.int ((e.cl:Int)+κ),.int ((cnt:Int)+κ)]) hp2
          rw [yB]
          have eaB:=XB _ _ eaA
          have tB':L5 HB (upd HB la (.lst (vs' ++ [.ref p1] ++ [.ref p2]))):=L5.lst eaB
          have tAB:=(S9.tups.trans tA).trans (XB.tups.trans tB')
          have e1:Y6 rs (λc=>aw L c ≠ 0) (e.up q cnt):=ku
          have mm1:msr (es' ++ [e.up q cnt] ++ [e.dn q cnt])+1<=msr (es' ++ [e]):=by
            rw [aq1,aq1,aq1]
            show msr es'+(1+2*(e.n-1)*(cnt-e.ch))+(1+2*(e.n-1)*(e.cl-cnt))+1<=msr es'+(1+2*e.n*(e.cl-e.ch))
            have cu:e.ch<=cnt:=cu
            have cd:cnt<=e.cl:=cd
            obtain ⟨n',hn'⟩:∃ n',e.n=n'+1:=⟨e.n-1,by lia⟩
            obtain ⟨x1,hx1⟩:∃ x1,cnt=e.ch+x1:=⟨cnt-e.ch,by lia⟩
            obtain ⟨x2,hx2⟩:∃ x2,e.cl=cnt+x2:=⟨e.cl-cnt,by lia⟩
            have q1:cnt-e.ch=x1:=by lia
            have q2:e.cl-cnt=x2:=by lia
            have q3:e.cl-e.ch=x1+x2:=by lia
            have q4:2<=x1+x2:=by lia
            rw [q1,q2,q3,hn',Nat.add_sub_cancel,Nat.mul_add (2*(n'+1)) x1 x2,Nat.mul_add 2 n' 1,Nat.add_mul,Nat.add_mul]
            lia
          have rev2:(es' ++ [e.up q cnt] ++ [e.dn q cnt]).reverse=e.dn q cnt :: e.up q cnt :: es'.reverse:=by rw [List.reverse_append,List.reverse_append];rfl
          refine ⟨_,eaB,aW1 (by rw [List.length_append,List.length_singleton];lia),WgN.mk (m':=msr (es' ++ [e.up q cnt] ++ [e.dn q cnt])) (by lia) ((hJ _ _ _).mpr ⟨_,_,_,_,_,_,_,es' ++ [e.up q cnt] ++ [e.dn q cnt],_,ws,fs,e.cl,x,rfl,(sA.trans XB).over fla _,c4,?_,by rw [g8 laf.symm];exact XB _ _ efA,st.mono tAB,?_,fnd,by lia,λout ho=>run out ?_,rfl,by lia⟩)⟩
          · exact ((en.mono tAB).snoc (e:=e.up q cnt) ((tA.trans (XB.tups.trans tB')) _ _ g9)).snoc (e:=e.dn q cnt) (tB' _ _ gB)
          · have k1:Stk rs (λc=>aw L c ≠ 0) (es' ++ [e.up q cnt]) cnt (e.up q cnt).lo:=Stk.snoc (e:=e.up q cnt) stk' ku hc' (by rw [hu'];exact hy) Rat.le_refl
            exact Stk.snoc (e:=e.dn q cnt) k1 kd rfl (by rw [hud];exact Rat.le_refl) (by rw [hd'];exact hx)
          · rw [rev1]
            rw [rev2] at ho
            have:=Run.two (cnt:=λc=>rs.countP (abv c)) (Zr:=λc=>aw L c=0) (e:=e) (es:=es'.reverse) (fs:=fs) (out:=out) (q:=q) z3 q2 hz nz
            rw [<- hcnt] at this
            exact this ho
        · have z3 : e.cl = e.ch := by
            have:¬ ((1:Int)<(e.cl:Int)+κ-((e.ch:Int)+κ)):=λy=>z2 (decide_eq_true y)
            lia
          refine WgN.mk (m':=msr es') ⋯ ((hJ _ _ _).mpr ⟨_,_,_,_,_,_,_,es',vs',ws,fs,c',y,rfl,s6,ea,en,efw,st,stk',fnd.weak (Rat.le_trans hx (Rat.le_trans (Rat.le_of_lt he.lt) hy)),by lia,λout ho=>run out (by rw [rev1];exact .zero z3 ho),rfl,⋯⟩)
    · have ne : es = [] := List.eq_nil_of_length_eq_zero (by
        rw [<- lvs]
        cases vs with
        | nil=>rfl
        | cons=>exact absurd rfl hB)
      have c0:=stk.c0 ne
      subst ne
      refine hN2 _ _ ⟨_,_,_,_,_,_,_,ws,fs,x,rfl,s5,efw,st,fnd,by lia,run fs (.done fs)⟩
  rintro σ H5 ⟨o5,o6,o7,o8,o9,o10,o11,ws,fs,x,rfl,s5,efw,st,fnd,lfs,run⟩
  subst_eqs
  exact k lf ws fs x H5 (s1.trans s5) (s1.free flf) efw st fnd lfs ⟨T0,h,H0,gT,hh,run⟩
def sgQ (q:Rat):Int:=if 0<q then 1 else if q<0 then -1 else 0
theorem bC2 (q:Rat):(if q.num > 0 then (1:Int) else 0)-(if q.num<0 then 1 else 0)=sgQ q:=by
 unfold sgQ
 have h1:(0<q) ↔ q.num > 0:=by
  rw [m0x]
  show (0:Int)*(q.den:Int)<q.num*((1:Nat):Int) ↔ _
  rw [g0y];simp
 have h2:(q<0) ↔ q.num<0:=by
  rw [m0x]
  show q.num*((1:Nat):Int)<(0:Int)*(q.den:Int) ↔ _
  rw [g0y];simp
 by_cases a:q.num > 0
 ·rw [if_pos a,if_neg ⋯,if_pos (h1.mpr a)];rfl
 ·rw [if_neg a,if_neg (λz=>a (h1.mp z))]
  by_cases b:q.num<0
  ·rw [if_pos b,if_pos (h2.mpr b)];rfl
  ·rw [if_neg b,if_neg (λz=>b (h2.mp z))];rfl
def by3 (K:q0a):Sp:=λvs H Q _ => ∃ x q,vs=[x]/\Num K H x q/\Q (.int (sgQ q)) H
abbrev W6:Stmt:=top 55
theorem aE0:i7 ["_law_number_here"] ["_law_number_here"] (c6 W6):=by and_intros
theorem aF5 {f:Addr} (d:Df K mg "_law_sign" W6 ["_law_number_here"] f) (n_int:mg "int" = none):Def P w K mg base CX0 1 "_law_sign" f ["_law_number_here"] (by3 K):=by
 refine d.ok (N:=["_law_number_here"]) aE0 (by rintro vs H Q E ⟨_,_,h,_⟩;rw [h];rfl) (λcdv A outer s H vs Q E hr h=>?_)
 obtain ⟨x,q,rfl,⟨a,rfl,ha⟩,k⟩:=h
 refine ⟨_,(c5 (i8 (d7 F6 (K6 am7 rfl n_int (by trivial) (a7 (Y0 ag6 (j4 m6 (pv 0) b7 (λ_ _=>rfl)) b7 (j7 _)) a9)) (K6 am7 rfl n_int (by trivial) (a7 (Y0 ag5 (j4 m6 (pv 0) b7 (λ_ _=>rfl)) b7 (j7 _)) a9))))),?_⟩
 rw [show start ["_law_number_here"] [.ref a]=[some (.ref a)] from rfl]
 subst_eqs
 refine ⟨_,ha,_,at0 q,_,rfl,_,ha,_,at0 q,_,rfl,?_⟩
 rw [<- bC2] at k
 exact k
abbrev X0:Stmt:=top 53
theorem aE2:i7 ["_law_one","_law_other_here"] ["_law_one","_law_other_here"] (c6 X0):=by and_intros
theorem aF9 {f fl:Addr} (d:Df K mg "_law_less" X0 ["_law_one","_law_other_here"] f) (G__law_low:Def P w K mg base CX0 1 "_law_low" fl ["_law_top","_law_bottom"] ay6):Def P w K mg base CX0 2 "_law_less" f ["_law_one","_law_other_here"] (P6 K (· - ·)):=by
 refine d.ok (N:=["_law_one","_law_other_here"]) aE2 (by rintro vs H Q E ⟨x,y,p,q,m,n,h,_⟩;rw [h];rfl) (λcdv A outer s H vs Q E hr h=>?_)
 obtain ⟨x,y,p,q,m,n,rfl,⟨ap,rfl,hp⟩,⟨aq,rfl,hq⟩,bp,bq,hmn,k⟩:=h
 refine ⟨_,(c5 (i8 (d5 G__law_low hr (a7 (d7 F6 (d7 p8 (j4 m6 (pv 0) b7 (λ_ _=>rfl)) (j4 m6 (pv 1) b7 (λ_ _=>rfl))) (d7 p8 (j4 m6 (pv 1) b7 (λ_ _=>rfl)) (j4 m6 (pv 0) b7 (λ_ _=>rfl)))) (a7 (d7 p8 (j4 m6 (pv 0) b7 (λ_ _=>rfl)) (j4 m6 (pv 1) b7 (λ_ _=>rfl))) a9)) i5))),?_⟩
 rw [show start ["_law_one","_law_other_here"] [.ref ap,.ref aq]=[some (.ref ap),some (.ref aq)] from rfl]
 subst_eqs
 refine ⟨_,hp,_,at0 p,_,hq,_,at1 q,_,rfl,_,rfl,G5 bp.n bq.d' ⋯,_,hq,_,at0 q,_,hp,_,at1 p,_,rfl,_,rfl,G5 bq.n bp.d' ⋯,_,hp,_,at1 p,_,hq,_,at1 q,_,rfl,_,rfl,G5 bp.d' bq.d' ⋯,?_⟩
 refine ⟨_,_,rfl,aH5 p q,bI7 bp bq hmn,?_⟩
 rw [<- aO7]
 exact k
theorem OvB.bt {B W e:Nat} {q:Rat} (h:OvB B W q) (hB:0<B) (hBe:B<2 ^ e) (hW:W<=20000):BtN e q:=by
 obtain ⟨v,rfl,b⟩:=h
 have:=U9 (t:=v) (b:=(B:Int)) ⋯
 rw [q0k] at this
 exact ⟨q0v this.1 (q0f b (c9 hW)),q0v this.2 hBe⟩
def aD6 (K:q0a):Sp:=λvs H Q _ => ∃ (a b:Addr) (xs ys:List V) (ps qs:List Rat) (B C V' W e:Nat),vs=[.ref a,.ref b]/\SqL K H a xs/\SqL K H b ys/\v3 H xs ps/\v3 H ys qs/\(∀ q ∈ ps,OvB B V' q)/\(∀ q ∈ qs,OvB C W q)/\0<B/\0<C/\B*C<2 ^ e/\1<=e/\2*e<=6000/\V'+W<=19000/\ps.length<=20/\qs.length<=20 /\
 ∀ m r zs H',U7 (T7 ps qs) m->(∀ q ∈ T7 ps qs,OvB (B*C) (V'+W+400) q)->c7 H H'->H r=none->H' r=some (.lst zs)->v3 H' zs ((T7 ps qs).take m)->Q (.ref r) H'
abbrev F8:Stmt:=top 62
theorem z7:i7 ["_law_p","_law_q","_law_found","_law_i","_law_one","_law_j","_law_other_here"] ["_law_p","_law_q"] (c6 F8):=by and_intros
theorem ah2 {f fp f1 f2:Addr} (d:Df K mg "_law_poly_times" F8 ["_law_p","_law_q"] f) (G__law_plus:Def P w K mg base CX0 2 "_law_plus" fp ["_law_one","_law_other_here"] (P6 K (· + ·))) (G__law_times:Def P w K mg base CX0 2 "_law_times" f1 ["_law_one","_law_other_here"] (P6 K (· * ·))) (G__law_trim:Def P w K mg base CX0 1 "_law_trim" f2 ["_law_numbers"] (bf5 K)) (n_len:mg "len" = none) (n_enumerate:mg "enumerate" = none):Def P w K mg base CX0 3 "_law_poly_times" f ["_law_p","_law_q"] (aD6 K):=by
 refine d.ok (N:=["_law_p","_law_q","_law_found","_law_i","_law_one","_law_j","_law_other_here"]) z7 (by rintro vs H Q E ⟨_,_,_,_,_,_,_,_,_,_,_,h,_⟩;rw [h];rfl) (λcdv A outer s H vs Q E hr h=>?_)
 obtain ⟨a,b,xs,ys,ps,qs,B,C,V',W,e,rfl,hS,hS',hN,hN',hs,hs',hB,hC,hBC,he1,he,hVW,hl,hl',k⟩:=h
 have hBCp:=j0s hB hC
 have hBe:B<2 ^ e:=q0v (q1k _ hC) hBC
 have hCe:C<2 ^ e:=q0v (y0u _ hB) hBC
 have hu:=hr.units
 refine ⟨_,(b9 (B0 (PW.pt (aa9 (j3 (aQ2 hu) (pv 0) (z8 a9) (j7 _)) (ac5 (j3 (aQ2 hu) (pv 1) (z8 a9) (j7 _))))) (c5 (i8 (z8 a9))) p9)
   (b9 (d8 (i:=2) z7.nd rfl (z0d rfl) (d7 bi7 (z8 (a7 (q8 (a7 b7 (a7 b7 a9))) a9)) (d7 F6 (d7 C9 (d9 j5 rfl n_len (by trivial) (a7 (pv 0) a9)) (d9 j5 rfl n_len (by trivial) (a7 (pv 1) a9))) b7)))
   (b9 (K3 PassesOwn.never rfl (aF0 rfl n_enumerate (a7 (pv 0) a9)) (show PG _ _ (af8 K 2 (A8 (t8 3) (A8 (t8 4) af9))) from by (refine N5 (n:=2) ?_ ?_ ?_ ?_;rfl;(refine k7 ?_ ?_ ?_;(exact (i3 (i:=3) z7.nd rfl (z0d rfl)));(refine k7 ?_ ?_ ?_;(exact (i3 (i:=4) z7.nd rfl (z0d rfl)));(exact G8);rfl);rfl);rfl;rfl)) (c5 (K3 PassesOwn.never rfl (aF0 rfl n_enumerate (a7 (pv 1) a9)) (show PG _ _ (af8 K 2 (A8 (t8 5) (A8 (t8 6) af9))) from by (refine N5 (n:=2) ?_ ?_ ?_ ?_;rfl;(refine k7 ?_ ?_ ?_;(exact (i3 (i:=5) z7.nd rfl (z0d rfl)));(refine k7 ?_ ?_ ?_;(exact (i3 (i:=6) z7.nd rfl (z0d rfl)));(exact G8);rfl);rfl);rfl;rfl)) (c5 (P8 (d5 G__law_plus hr (a7 (j4 v1 (pv 2) (d7 C9 (pv 3) (pv 5)) (λ_ _=>rfl)) (a7 (d5 G__law_times hr (a7 (pv 4) (a7 (pv 6) a9)) i5) a9)) i5) (aF1 (pv 2) (d7 C9 (pv 3) (pv 5)) ab9))))))
   (c5 (i8 (d5 G__law_trim hr (a7 (pv 2) a9) i5)))))),?_⟩
 rw [show start ["_law_p","_law_q","_law_found","_law_i","_law_one","_law_j","_law_other_here"] [.ref a,.ref b]=[some (.ref a),some (.ref b),none,none,none,none,none] from rfl]
 subst_eqs
 have tl0:U7 ([]:List Rat) 0:=⟨q0q _,λi q _ e=>by simp at e,λh=>absurd rfl h⟩
 refine ⟨by decide,λp hp=>?_⟩
 have S1:=c7.new hp (.lst [])
 refine ⟨P4 ps,P4 [],rfl,O9 (S1.seq hS) (hN.mono S1.tups),O9 (SqL.of c4) .nil,aj2 _ _,z0v (aq2 _) (by decide),?_⟩
 rw [ak0]
 refine ⟨_,rfl,B1 (λh=>⟨by decide,λr hr'=>?_⟩) (λh=>?_)⟩
 ·have e:T7 ps qs=[]:=by rw [T7,if_pos (.inl (by simpa using h))]
  rw [e] at k
  exact k 0 r [] _ tl0 (by simp) (S1.trans (c7.new hr' _)) (S1.free hr') c4 .nil
 have np:ps ≠ []:=λz=>h (by simp [z])
 refine ⟨by decide,λp2 hp2=>?_⟩
 have S2:=S1.trans (c7.new hp2 (.lst []))
 refine ⟨P4 qs,P4 [],rfl,O9 (S2.seq hS') (hN'.mono S2.tups),O9 (SqL.of c4) .nil,aj2 _ _,z0v (aq2 _) (by decide),?_⟩
 rw [ak0]
 refine ⟨_,rfl,B1 (λh=>⟨by decide,λr hr'=>?_⟩) (λh=>?_)⟩
 ·have e:T7 ps qs=[]:=by rw [T7,if_pos (.inr (by simpa using h))]
  rw [e] at k
  exact k 0 r [] _ tl0 (by simp) (S2.trans (c7.new hr' _)) (S2.free hr') c4 .nil
 have nq:qs ≠ []:=λz=>h (by simp [z])
 have lx:=hN.length
 have ly:=hN'.length
 have lp:0<ps.length:=j0p.mpr np
 have lq:0<qs.length:=j0p.mpr nq
 refine ⟨v4,λp3 hp3=>⟨aO9,λp4 hp4=>?_⟩⟩
 have S3:=S2.trans (c7.new hp3 (.tup [.int 0,.int 1]))
 have S4:=S3.trans (c7.new hp4 (.lst [.ref p3]))
 refine ⟨_,.inl (S4.seq hS),_,.inl (S4.seq hS'),_,c4,by lia,by lia,?_,λl hl0=>?_⟩
 ·simp only [z0t,m0b]
  exact z0v (show _<=40 by lia) (by decide)
 have hz:(z0e ((xs.length:Int)+(ys.length:Int)-1).toNat [V.ref p3]).flatten=z0e (ps.length+qs.length-1) (V.ref p3):=by
  have e:((xs.length:Int)+(ys.length:Int)-1).toNat=ps.length+qs.length-1:=by lia
  rw [e,List.flatten_replicate_singleton]
 rw [hz]
 have S5:=S4.trans (c7.new hl0 (.lst (z0e (ps.length+qs.length-1) (.ref p3))))
 have hlH:H l=none:=S4.free hl0
 have ez:(upd (upd (upd (upd (upd H p (.lst [])) p2 (.lst [])) p3 (.tup [.int 0,.int 1])) p4 (.lst [.ref p3])) l (.lst (z0e (ps.length+qs.length-1) (.ref p3)))) p3=some (.tup (t7 0)):=c7.new hl0 _ _ _ (c7.new hp4 _ _ _ c4)
 refine ⟨_,rfl,a,rfl,⟨_,S5.seq hS⟩,au7 xs (λi σ H2 => ∃ o3 o4 o5 o6,σ=[some (.ref a),some (.ref b),some (.ref l),o3,o4,o5,o6]/\c7 H H2/\∃ zs,H2 l=some (.lst zs)/\v3 H2 zs (B8 0 (z0e (ps.length+qs.length-1) (0:Rat)) ps qs i)/\∀ v ∈ B8 0 (z0e (ps.length+qs.length-1) (0:Rat)) ps qs i,OvB (B*C) (V'+W+i*qs.length) v)
  ⟨_,_,_,_,rfl,S5,_,c4,v3.rep ez _,λv hv=>by rw [(List.mem_replicate.mp hv).2];exact OvB.zero _ _⟩ (λi σ H2 ⟨_,_,_,_,_,s2,_⟩=>s2.seq hS) ?_ ?_⟩
 ·rintro i x σ H2 r hx ⟨o3,o4,o5,o6,rfl,s2,zs,e2,n2,b2⟩ hr'
  obtain ⟨px,q,rfl,hq,hpx⟩:=hN.getV hx
  have hi:=(q0g.mp hq).1
  have sr:=c7.new hr' (.tup [.int i,.ref px])
  refine ⟨_,_,rfl,SqT.of c4,rfl,_,_,rfl,_,_,rfl,rfl,?_⟩
  refine ⟨_,rfl,b,rfl,⟨_,(s2.trans sr).seq hS'⟩,au7 ys (λj σ H4 => ∃ o5 o6,σ=[some (.ref a),some (.ref b),some (.ref l),some (.int i),some (.ref px),o5,o6]/\c7 H H4/\∃ zs,H4 l=some (.lst zs)/\v3 H4 zs (w9 0 (B8 0 (z0e (ps.length+qs.length-1) (0:Rat)) ps qs i) i q qs j)/\∀ v ∈ w9 0 (B8 0 (z0e (ps.length+qs.length-1) (0:Rat)) ps qs i) i q qs j,OvB (B*C) (V'+W+(i*qs.length+j)) v)
   ⟨_,_,rfl,s2.trans sr,_,sr _ _ e2,n2.mono sr.tups,b2⟩ (λi σ H2 ⟨_,_,_,s2,_⟩=>s2.seq hS') ?_ ?_⟩
  ·rintro j y σ H4 t hy ⟨o5,o6,rfl,s4,zs4,e4,n4,b4⟩ ht
   obtain ⟨py,q',rfl,hq',hpy⟩:=hN'.getV hy
   have hj:=(q0g.mp hq').1
   have st:=c7.new ht (.tup [.int j,.ref py])
   have e5:=st _ _ e4
   have hF:i+j<(w9 0 (B8 0 (z0e (ps.length+qs.length-1) (0:Rat)) ps qs i) i q qs j).length:=by
    rw [Z5,al2,v0m];lia
   have eg:=q0d hF
   obtain ⟨pv,hv,hpv⟩:=(n4.mono st.tups).get eg
   have ec:(i:Int)+(j:Int)=((i+j:Nat):Int):=by simp
   have hc:i*qs.length+j<400:=by
    have h1:i*qs.length<=19*qs.length:=v0c _ (by lia)
    lia
   subst_eqs
   have o1:=hs q (q0p hq)
   have o2:=hs' q' (q0p hq')
   have sq:=o1.bt hB hBe (by lia)
   have sq':=o2.bt hC hCe (by lia)
   refine ⟨_,SqT.of c4,rfl,_,_,rfl,_,_,rfl,rfl,_,rfl,_,SqL.of e5,_,(by rw [ec];exact af6 hv),?_⟩
   refine ⟨_,_,q,q',e,e,rfl,⟨px,rfl,SqT.of (st _ _ (s4 _ _ hpx))⟩,⟨py,rfl,SqT.of (st _ _ (s4 _ _ hpy))⟩,sq,sq',by lia,λr1 H5 s5 er1=>?_⟩
   have bold:=b4 _ (v0u hF)
   refine ⟨_,_,_,_,e,e,rfl,⟨pv,rfl,SqT.of (s5 _ _ hpv)⟩,⟨r1,rfl,SqT.of er1⟩,bold.bt hBCp hBC (by lia),(o1.mul o2).bt hBCp hBC (by lia),⋯,λr2 H6 s6 er2=>?_⟩
   have e6:=s6 _ _ (s5 _ _ e5)
   have lz:zs4.length=(w9 0 (B8 0 (z0e (ps.length+qs.length-1) (0:Rat)) ps qs i) i q qs j).length:=n4.length
   have n6:v3 H6 zs4 (w9 0 (B8 0 (z0e (ps.length+qs.length-1) (0:Rat)) ps qs i) i q qs j):=((n4.mono st.tups).mono s5.tups).mono s6.tups
   have estep:w9 0 (B8 0 (z0e (ps.length+qs.length-1) (0:Rat)) ps qs i) i q qs (j+1)=N0 (w9 0 (B8 0 (z0e (ps.length+qs.length-1) (0:Rat)) ps qs i) i q qs j) (i+j) (q*q'):=by
    rw [w9,hq'];rfl
   refine ⟨_,rfl,_,e6,i+j,?_,(s4.trans (st.trans (s5.trans s6))).over hlH _,_,c4,?_,?_⟩
   ·rw [ec]
    unfold ixN
    rw [if_pos (by lia),if_pos (by rw [lz];lia)]
    rfl
   ·rw [estep,<- am8 _ _ _ _ eg]
    exact (n6.set (i+j) er2).mono (L5.lst e6)
   ·rw [estep]
    intro v hv'
    exact (bd1 hBCp b4 ((o1.mul o2).mono (by simp)) v hv').mono (by lia)
  ·rintro σ H4 ⟨o5,o6,rfl,s4,zs4,e4,n4,b4⟩
   refine ⟨_,_,_,_,rfl,s4,zs4,e4,?_,?_⟩
   ·rw [ly] at n4
    rw [B8,hq];exact n4
   ·rw [ly] at b4
    rw [B8,hq]
    intro v hv
    refine (b4 v hv).mono ?_
    have e:(i+1)*qs.length=i*qs.length+qs.length:=by grind
    lia
 ·rintro σ H2 ⟨o3,o4,o5,o6,rfl,s2,zs,e2,n2,b2⟩
  rw [lx] at n2 b2
  have em:T7 ps qs=B8 0 (z0e (ps.length+qs.length-1) 0) ps qs ps.length:=by rw [T7,if_neg (by simp [np,nq])]
  rw [<- em] at n2 b2
  refine ⟨_,rfl,l,zs,_,rfl,SqL.of e2,n2,λm r H3 tl s3 hr' e3=>?_⟩
  refine k m r _ _ tl (λv hv=>(b2 v hv).mono ?_) (s2.trans s3) (s2.free hr') e3 ((n2.take m).mono s3.tups)
  have:ps.length*qs.length<=20*20:=j0f hl hl'
  lia
theorem by8 {t b:Int} (h1:1<=b) (h6:b<=6) (h:t.natAbs<=9):N9 (q0s t b):=by
 have:=U9 (t:=t) (b:=b) (by lia)
 exact ⟨by lia,by lia⟩
theorem N9.neg {q:Rat} (h:N9 q):N9 (-q):=⟨by show (-q.num).natAbs<=9;rw [y0z];exact h.n,h.d⟩
theorem N9.bt {q:Rat} (h:N9 q):BtN 4 q:=⟨q0v h.n (q0f (show 9<2 ^ 4 by decide) (c9 (by decide))),q0v h.d (by decide)⟩
theorem az3 {q:Rat} (h:0<q.num):0<q:=(m0x 0 q).mpr (by
 show (0:Int)*(q.den:Int)<q.num*((1:Nat):Int)
 rw [g0y];simpa using h)
theorem bF7 {q:Rat} (h:N9 q) (q0:q ≠ 0):∃ q',[V.int (if q.num<0 then -q.num else q.num),V.int q.den]=t7 q'/\N9 q'/\0<q':=by
 have n0:q.num ≠ 0:=λz=>q0 (q1s.mp z)
 by_cases z:q.num<0
 ·refine ⟨-q,?_,h.neg,az3 (by show 0 < -q.num;omega)⟩
  show _=[V.int (-q.num),V.int q.den]
  rw [if_pos z]
 ·refine ⟨q,?_,h,az3 (by lia)⟩
  show _=[V.int q.num,V.int q.den]
  rw [if_neg z]
def ak6:Sp:=λvs H Q _ => ∃ u kd,vs=[.ref u,.int kd]/\v6 H u/\(kd=0 \/ kd=1)/\∀ r q H',N9 q->x9 u H H'->v6 H' u->H' r=some (.tup (t7 q))->Q (.ref r) H'
theorem ap3 {f fd fl:Addr} (d:Df K mg "_law_number" O3 ["_law_urn_here","_law_kind_here"] f) (G__law_draw:Def P w K mg base CX0 1 "_law_draw" fd ["_law_urn_here","_law_many"] V1) (G__law_low:Def P w K mg base CX0 1 "_law_low" fl ["_law_top","_law_bottom"] ay6) (n_int:mg "int" = none):Def P w K mg base CX0 2 "_law_number" f ["_law_urn_here","_law_kind_here"] ak6:=by
 refine d.ok (N:=["_law_urn_here","_law_kind_here","_law_top"]) ac3 (λvs H Q E ⟨u,kd,h,_⟩=>by rw [h];rfl) (λcdv A outer s H vs Q E hr h=>?_)
 obtain ⟨u,kd,rfl,hu,hk,k⟩:=h
 refine ⟨_,(b9 (B0 (j3 Z4 (pv 1) b7 (j7 _)) (b9 (d8 (i:=2) ac3.nd rfl (z0d rfl) (d7 C9 (d7 p8 (d5 G__law_draw hr (a7 (pv 0) (a7 (d7 ac6 b7 b7) a9)) i5) (d7 ac6 b7 b7)) (d5 G__law_draw hr (a7 (pv 0) (a7 (d7 ac6 b7 b7) a9)) i5)))
   (c5 (i8 (d5 G__law_low hr (a7 (d7 p8 (pv 2) (j4 v1 (z8 (a7 b7 (a7 (G4 B6 b7) a9))) (d5 G__law_draw hr (a7 (pv 0) (a7 b7 a9)) i5) (λ_ _=>rfl))) (a7 (d7 C9 b7 (d7 p8 (d5 G__law_draw hr (a7 (pv 0) (a7 (d7 ac6 b7 b7) a9)) i5) (d7 ac6 b7 b7))) a9)) i5)))) p9)
   (c5 (i8 (d5 G__law_low hr (a7 (d7 F6 (d5 G__law_draw hr (a7 (pv 0) (a7 b7 a9)) i5) b7) (a7 (d7 C9 b7 (d7 p8 (d5 G__law_draw hr (a7 (pv 0) (a7 b7 a9)) i5) (K6 am7 rfl n_int (by trivial) (a7 (Y0 Z4 (pv 1) b7 (j7 _)) a9)))) a9)) i5)))),?_⟩
 rw [show start ["_law_urn_here","_law_kind_here","_law_top"] [.ref u,.int kd]=[some (.ref u),some (.int kd),none] from rfl]
 simp! [V1,aP2]
 refine B1 (λhk2=>absurd hk2 (by lia)) (λhk2=>?_)
 refine ⟨hu,by decide,by decide,λr2 H2 a2 b2 s2 u2=>⟨u2,by decide,by decide,λr3 H3 a3 b3 s3 u3=>⟨bL7 (by lia),?_⟩⟩⟩
 have hz:∃ z:Int,z=r3*(if kd=0 then 1 else 0)/\0<=z/\z<=5:=by
  refine ⟨_,rfl,?_,?_⟩ <;> split <;> lia
 obtain ⟨z,ez,z0,z6⟩:=hz
 rw [<- ez]
 refine ⟨_,_,rfl,by lia,q0f (show (1+z).natAbs<2 ^ 64 by omega) (c9 (by decide)),λr H' sm hr'=>?_⟩
 exact k r _ H' (by8 (by lia) (by lia) (by lia)) (s2.trans (s3.trans (c7.x sm u))) (c7.urn sm u3) hr'
def ar4:Sp:=λvs H Q _ => ∃ u kd,vs=[.ref u,.int kd]/\v6 H u/\(kd=0 \/ kd=1)/\∀ r q H',N9 q->q ≠ 0->x9 u H H'->v6 H' u->H' r=some (.tup (t7 q))->Q (.ref r) H'
theorem at2 {f fd fl:Addr} (d:Df K mg "_law_other" T3 ["_law_urn_here","_law_kind_here"] f) (G__law_draw:Def P w K mg base CX0 1 "_law_draw" fd ["_law_urn_here","_law_many"] V1) (GP__law_number:Def P w K mg base CX0 2 "_law_number" fl ["_law_urn_here","_law_kind_here"] ak6):Def P w K mg base CX0 3 "_law_other" f ["_law_urn_here","_law_kind_here"] ar4:=by
 refine d.ok (N:=["_law_urn_here","_law_kind_here","_law_found"]) ag3 (λvs H Q E ⟨u,kd,h,_⟩=>by rw [h];rfl) (λcdv A outer s H vs Q E hr h=>?_)
 obtain ⟨u,kd,rfl,hu,hk,k⟩:=h
 have G__law_number:=GP__law_number
 refine ⟨_,(b9 (d8 (i:=2) ag3.nd rfl (z0d rfl) (d5 G__law_number hr (a7 (pv 0) (a7 (pv 1) a9)) i5))
   (b9 (B0 (j3 Z4 (j4 m6 (pv 2) b7 (λ_ _=>rfl)) b7 (j7 _)) (c5 (i8 (q8 (a7 (d7 C9 b7 (d5 G__law_draw hr (a7 (pv 0) (a7 b7 a9)) i5)) (a7 b7 a9))))) p9)
   (c5 (i8 (pv 2))))),?_⟩
 rw [show start ["_law_urn_here","_law_kind_here","_law_found"] [.ref u,.int kd]=[some (.ref u),some (.int kd),none] from rfl]
 simp! [V1]
 refine ⟨u,kd,rfl,hu,hk,λr q H1 sm s1 u1 e1=>?_⟩
 refine ⟨r,rfl,_,SqT.of e1,_,at0 q,rfl,B1 (λ_=>?_) (λhn=>?_)⟩
 ·refine ⟨u1,by decide,by decide,λr2 H2 a2 b2 s2 u2=>⟨v4,λl hl=>?_⟩⟩
  have hd:=ah4 (n:=1+r2) (d:=1) (by decide) (by simp)
  refine k l (q0s (1+r2) 1) _ (by8 (by decide) (by decide) (by lia)) ?_ (s1.trans (s2.trans (c7.x (c7.new hl _) u))) (ap6 u2 hl) ?_
  ·intro z
   rw [z] at hd
   have:(0:Rat).num=0:=rfl
   omega
  ·rw [c4]
   unfold t7
   rw [hd.1,hd.2]
 ·refine k r q H1 sm (λz=>hn ?_) s1 u1 e1
  rw [z];rfl
def aK2:Sp:=λvs H Q _ => ∃ u kd,vs=[.ref u,.int kd]/\v6 H u/\(kd=0 \/ kd=1)/\∀ r q H',N9 q->0<q->x9 u H H'->v6 H' u->H' r=some (.tup (t7 q))->Q (.ref r) H'
abbrev T5:Stmt:=top 60
theorem ag4:i7 ["_law_urn_here","_law_kind_here","_law_found"] ["_law_urn_here","_law_kind_here"] (c6 T5):=by and_intros
theorem ax5 {f f1:Addr} (d:Df K mg "_law_above" T5 ["_law_urn_here","_law_kind_here"] f) (GP__law_other:Def P w K mg base CX0 3 "_law_other" f1 ["_law_urn_here","_law_kind_here"] ar4) (n_abs:mg "abs" = none):Def P w K mg base CX0 4 "_law_above" f ["_law_urn_here","_law_kind_here"] aK2:=by
 refine d.ok (N:=["_law_urn_here","_law_kind_here","_law_found"]) ag4 (by rintro vs H Q E ⟨_,_,h,_⟩;rw [h];rfl) (λcdv A outer s H vs Q E hr h=>?_)
 obtain ⟨u,kd,rfl,hu,hk,k⟩:=h
 have G__law_other:=GP__law_other
 refine ⟨_,(b9 (d8 (i:=2) ag4.nd rfl (z0d rfl) (d5 G__law_other hr (a7 (pv 0) (a7 (pv 1) a9)) i5))
   (c5 (i8 (q8 (a7 (d9 V8 rfl n_abs (by trivial) (a7 (j4 m6 (pv 2) b7 (λ_ _=>rfl)) a9)) (a7 (j4 m6 (pv 2) b7 (λ_ _=>rfl)) a9)))))),?_⟩
 rw [show start ["_law_urn_here","_law_kind_here","_law_found"] [.ref u,.int kd]=[some (.ref u),some (.int kd),none] from rfl]
 subst_eqs
 refine ⟨u,kd,rfl,hu,hk,λr q H1 nk q0 s1 u1 e1=>?_⟩
 obtain ⟨q',e',n',p'⟩:=bF7 nk q0
 refine ⟨r,rfl,_,SqT.of e1,_,at0 q,_,rfl,r,rfl,_,SqT.of e1,_,at1 q,v4,λp hp=>?_⟩
 refine k p q' _ n' p' (s1.trans (c7.x (c7.new hp _) u)) (ap6 u1 hp) ?_
 rw [c4,e']
theorem aV0 (q:Rat):sgQ q=sg3 q:=rfl
def aI7 (H:Hp) (v:V) (r:Rtu):Prop:=∃ t pu pw,v=.ref t/\H t=some (.tup [.ref pu,.int r.o,.ref pw])/\H pu=some (.tup (t7 r.u))/\H pw=some (.tup (t7 r.v))
theorem aI7.mono {H H':Hp} {v:V} {r:Rtu} (s:L5 H H') (h:aI7 H v r):aI7 H' v r:=by
 obtain ⟨t,pu,pw,e,a,b,c⟩:=h
 exact ⟨t,pu,pw,e,s _ _ a,s _ _ b,s _ _ c⟩
inductive Rts (H:Hp):List V->List Rtu->Prop where
 | nil:Rts H [] []
 | cons {v:V} {r:Rtu} {vs:List V} {rs:List Rtu} (h:aI7 H v r) (t:Rts H vs rs):Rts H (v :: vs) (r :: rs)
theorem Rts.mono {H H':Hp} {vs:List V} {rs:List Rtu} (s:L5 H H') (h:Rts H vs rs):Rts H' vs rs:=by
 induction h with
 | nil=>exact .nil
 | cons a _ ih=>exact .cons (a.mono s) ih
theorem Rts.length {H:Hp} {vs:List V} {rs:List Rtu} (h:Rts H vs rs):vs.length=rs.length:=by
 induction h with
 | nil=>rfl
 | cons _ _ ih=>simp [ih]
theorem Rts.append {H:Hp} {vs ws:List V} {rs ss:List Rtu} (h:Rts H vs rs) (k:Rts H ws ss):Rts H (vs ++ ws) (rs ++ ss):=by
 induction h with
 | nil=>exact k
 | cons a _ ih=>exact .cons a ih
theorem Rts.get {H:Hp}:∀ {vs:List V} {rs:List Rtu} {i:Nat} {v:V},Rts H vs rs->vs[i]? = some v->∃ r,rs[i]? = some r/\aI7 H v r
 | _,_,_,_,.nil,e=>by simp at e
 | _,_,0,_,.cons h _,ev=>by cases ev;exact ⟨_,rfl,h⟩
 | _,_,i+1,_,.cons _ t,ev=>t.get (i:=i) (by simpa using ev)
theorem N9.bd {q:Rat} (h:N9 q):BdN 4 q:=⟨q0v h.n (by decide),q0v h.d (by decide)⟩
theorem aZ8 (q:Rat):sg3 q=1 \/ sg3 q=-1 \/ sg3 q=0:=by
 unfold sg3
 split
 ·exact .inl rfl
 ·split
  ·exact .inr (.inl rfl)
  ·exact .inr (.inr rfl)
def bf6 (K:q0a):Sp:=λvs H Q _ => ∃ x c y r,vs=[x,y]/\Num K H x c/\aI7 H y r/\BdN 500 c/\RtO r/\∀ H',c7 H H'->Q (.int (ag2 c r)) H'
abbrev W7:Stmt:=top 67
theorem L7:i7 ["_law_c","_law_root","_law_d","_law_u","_law_often","_law_v"] ["_law_c","_law_root"] (c6 W7):=by and_intros
theorem aF6 {f f1 f2 f3:Addr} (d:Df K mg "_law_side" W7 ["_law_c","_law_root"] f) (G__law_less:Def P w K mg base CX0 2 "_law_less" f1 ["_law_one","_law_other_here"] (P6 K (· - ·))) (G__law_sign:Def P w K mg base CX0 1 "_law_sign" f2 ["_law_number_here"] (by3 K)) (G__law_times:Def P w K mg base CX0 2 "_law_times" f3 ["_law_one","_law_other_here"] (P6 K (· * ·))):Def P w K mg base CX0 3 "_law_side" f ["_law_c","_law_root"] (bf6 K):=by
  refine d.ok (N:=["_law_c","_law_root","_law_d","_law_u","_law_often","_law_v"]) L7 (by rintro vs H Q E ⟨_,_,_,_,h,_⟩;rw [h];rfl) (λcdv A outer s H vs Q E hr h=>?_)
  obtain ⟨x,c,y,r,rfl,⟨ac,rfl,hc⟩,⟨t,pu,pw,rfl,et,eu,ev⟩,bc,⟨nu,nv,ho⟩,k⟩:=h
  refine ⟨_, (b9 (P8 (pv 1) (show PG _ _ (af8 K 3 (A8 (t8 3) (A8 (t8 4) (A8 (t8 5) af9)))) from by (refine N5 (n := 3) ?_ ?_ ?_ ?_; rfl; (refine k7 ?_ ?_ ?_; (exact (i3 (i := 3) L7.nd rfl (Or.inl rfl))); (refine k7 ?_ ?_ ?_; (exact (i3 (i := 4) L7.nd rfl (Or.inl rfl))); (refine k7 ?_ ?_ ?_; (exact (i3 (i := 5) L7.nd rfl (Or.inl rfl))); (exact G8); rfl); rfl); rfl); rfl; rfl)))
      (b9 (d8 (i:=2) L7.nd rfl (Or.inl rfl) (d5 G__law_less hr (a7 (pv 0) (a7 (pv 3) a9)) i5))
      (b9 (B0 (j3 Z4 (pv 4) b7 (j7 _)) (c5 (i8 (d5 G__law_sign hr (a7 (pv 2) a9) i5))) p9)
      (b9 (B0 (j3 aA3 (d5 G__law_sign hr (a7 (pv 2) a9) i5) (pv 4) (j7 _)) (c5 (i8 (d7 F6 b7 (pv 4)))) p9)
      (c5 (i8 (d7 p8 (pv 4) (d5 G__law_sign hr (a7 (d5 G__law_less hr (a7 (d5 G__law_times hr (a7 (pv 2) (a7 (pv 2) a9)) i5) (a7 (pv 5) a9)) i5) a9) i5)))))))),?_⟩
  rw [show start ["_law_c","_law_root","_law_d","_law_u","_law_often","_law_v"] [.ref ac,.ref t]=[some (.ref ac),some (.ref t),none,none,none,none] from rfl]
  subst_eqs
  have bd:BtN 505 (c-r.u):=(BdN.sub bc nu.bd).t (by decide)
  have bdd:BtN 1010 ((c-r.u)*(c-r.u)):=((BdN.sub bc nu.bd).mul (BdN.sub bc nu.bd)).t (by decide)
  refine ⟨_,SqT.of et,rfl,_,_,rfl,_,_,rfl,_,_,rfl,rfl,_,_,c,r.u,500,4,rfl,⟨ac,rfl,hc⟩,⟨pu,rfl,SqT.of eu⟩,bc.t (by decide),nu.bt,by decide,λrd H1 s1 e1=>⟨rfl,?_⟩⟩
  unfold ag2 at k
  by_cases o0:r.o=0
  · rw [if_pos (by rw [o0])]
    simp only [if_pos o0] at k
    exact ⟨_,_,rfl,⟨rd,rfl,SqT.of e1⟩,k _ s1⟩
  rw [if_neg (λz=>o0 (V.int.inj z))]
  simp only [if_neg o0] at k
  refine ⟨_,_,rfl,⟨rd,rfl,SqT.of e1⟩,rfl,?_⟩
  rw [aV0]
  by_cases so:sg3 (c-r.u)=r.o
  · rw [if_neg (λz=>z (by rw [so]))]
    simp only [if_neg (λz=>z so:¬ (sg3 (c-r.u) ≠ r.o))] at k
    refine ⟨_,_,_,_,505,505,rfl,⟨rd,rfl,SqT.of e1⟩,⟨rd,rfl,SqT.of e1⟩,bd,bd,by decide,λr2 H2 s2 e2=>⟨_,_,_,r.v,1010,4,rfl,⟨r2,rfl,SqT.of e2⟩,⟨pw,rfl,SqT.of (s2 _ _ (s1 _ _ ev))⟩,bdd,nv.bt,by decide,λr3 H3 s3 e3=>⟨_,_,rfl,⟨r3,rfl,SqT.of e3⟩,_,rfl,_,rfl,by9 ?_,k _ (s1.trans (s2.trans s3))⟩⟩⟩
    rw [aV0]
    rcases aZ8 ((c-r.u)*(c-r.u)-r.v) with z | z | z <;> rw [z] <;> decide
  · rw [if_pos (λz=>so (V.int.inj z))]
    simp only [if_pos so] at k
    exact ⟨_,rfl,k _ s1⟩
structure PRt (u:Addr) (H:Hp) (lp lr:Addr) (ps:List Rat) (rs:List Rtu):Prop where
 pu:lp ≠ u
 ru:lr ≠ u
 p:∃ xs,H lp=some (.lst xs)/\v3 H xs ps
 r:∃ ts,H lr=some (.lst ts)/\Rts H ts rs
theorem PRt.samex {u:Addr} {H H':Hp} {lp lr:Addr} {ps:List Rat} {rs:List Rtu} (h:PRt u H lp lr ps rs) (s:x9 u H H') (hu:v6 H u):PRt u H' lp lr ps rs:=by
 obtain ⟨a,b,⟨xs,e,n⟩,ts,f,t⟩:=h
 exact ⟨a,b,⟨xs,s _ _ e a,n.mono (s.tups hu)⟩,ts,s _ _ f b,t.mono (s.tups hu)⟩
theorem PRt.same {u:Addr} {H H':Hp} {lp lr:Addr} {ps:List Rat} {rs:List Rtu} (h:PRt u H lp lr ps rs) (s:c7 H H'):PRt u H' lp lr ps rs:=by
 obtain ⟨a,b,⟨xs,e,n⟩,ts,f,t⟩:=h
 exact ⟨a,b,⟨xs,s _ _ e,n.mono s.tups⟩,ts,s _ _ f,t.mono s.tups⟩
theorem nwu {H:Hp} {u a:Addr} (o:HO) (h:H a=none) (hu:v6 H u):∃ H',upd H a o=H'/\c7 H H'/\H' a=some o/\v6 H' u/\a ≠ u:=⟨_,rfl,c7.new h o,c4,ap6 hu h,aC7 hu h⟩
theorem aL4 {K:q0a} {H1:Hp} {lp lq:Addr} {xs ys:List V} {ps:List Rat} {k:Rat} {M:Pf} {n:Nat} {x:Fp} {Q E} (e1:H1 lp=some (.lst xs)) (n1:v3 H1 xs ps) (e2:H1 lq=some (.lst ys)) (n2:v3 H1 ys x.qs) (hp:Pol ps k M n) (F:FpB x) (hn:n<=10)
  (h:∀ r zs ps' H',c7 H1 H'->H1 r=none->H' r=some (.lst zs)->v3 H' zs ps'->Pol ps' k (x.f*M) (x.n+n)->Q (.ref r) H'):aD6 K [.ref lp,.ref lq] H1 Q E:=by
 obtain ⟨B,hB,bB,ov⟩:=hp.bits
 obtain ⟨C,e,hC,le,c1,oq⟩:=F.cb
 have l1:=hp.len
 have xn:x.n<=2:=by unfold Fp.n;split <;> simp
 have lx:x.qs.length<=3:=by unfold Fp.qs;split <;> simp
 have hBC:B*C<2 ^ 100:=by
  refine q0f (j0w bB c1) ?_
  rw [<- y0e]
  exact c9 (by lia)
 exact ⟨lp,lq,xs,ys,ps,x.qs,B,C,_,e,100,rfl,SqL.of e1,SqL.of e2,n1,n2,ov,oq,hB,hC,hBC,by decide,by decide,by lia,by lia,by lia,λm r zs H' tm _ s' f' e' n'=>h r zs _ H' s' f' e' n' (hp.mul F tm)⟩
theorem Rts.mem {H:Hp} {vs:List V} {rs:List Rtu} {i:Nat} {v:V} (h:Rts H vs rs) (e:vs[i]? = some v):∃ r,rs[i]? = some r/\r ∈ rs/\aI7 H v r:=by
 obtain ⟨r,hr,ra⟩:=h.get e
 exact ⟨r,hr,q0p hr,ra⟩
theorem bo4 {K:q0a} {D lr:Addr} {H:Hp} {ts:List V} {rs:List Rtu} {tt:TT} {c:Option V} {Q:VK} (f:Rtu->Bool) (er:H lr=some (.lst ts)) (hR:Rts H ts rs) (hD:H D=none) (ll:rs.length<=20)
  (ht:∀ H1 x r (Q':Bool->Hp->Prop),c7 H H1->r ∈ rs->aI7 H1 x r->Q' (f r) H1->tt [c,some x] H1 Q')
  (k:∀ H' ds,c7 H H'->H' D=some (.lst ds)->Rts H' ds (rs.filter f)->Q (.ref D) H'):aT5 (Itl K lr) D [c,none] (upd H D (.lst [])) (t8 1) tt (Z6 1) Q:=by
 have lt:=hR.length
 refine bc1 ts (λj σ H1=>(∃ o,σ=[c,o])/\c7 H H1/\∃ ds,H1 D=some (.lst ds)/\Rts H1 ds ((rs.take j).filter f)) ⟨⟨_,rfl⟩,c7.new hD _,[],c4,.nil⟩ (λj σ H1 _ h=>SqL.of (h.2.1 _ _ er)) ?_ ?_
 ·rintro j x σ H1 hx ⟨⟨o,rfl⟩,s1,ds,ed,rd⟩
  have hj:=(q0g.mp hx).1
  obtain ⟨r,hr,rm,ra⟩:=hR.mem hx
  have tk:rs.take (j+1)=rs.take j ++ [r]:=by rw [y0y,hr];rfl
  have ld:=rd.length
  have lf:=g0s f (rs.take j)
  rw [j0j] at lf
  refine ht H1 x r _ s1 rm (ra.mono s1.tups) ?_
  cases e:f r with
  | true =>
   rw [if_pos rfl]
   refine ⟨x,rfl,G0.mk hj ed (N6 (by lia)) ⟨⟨_,rfl⟩,s1.over hD _,ds ++ [x],c4,?_⟩⟩
   rw [tk,List.filter_append]
   have e2:[r].filter f=[r]:=by rw [y0d,e];rfl
   rw [e2]
   exact (rd.append (.cons (ra.mono s1.tups) .nil)).mono (L5.lst ed)
  | false =>
   rw [if_neg (by decide)]
   refine aY9.mk hj ⟨⟨_,rfl⟩,s1,ds,ed,?_⟩
   rw [tk,List.filter_append]
   have e2:[r].filter f=[]:=by rw [y0d,e];rfl
   rw [e2,u0s]
   exact rd
 ·rintro σ H1 ⟨⟨o,rfl⟩,s1,ds,ed,rd⟩
  rw [lt,y0k] at rd
  exact k H1 ds s1 ed rd
def bf7 (K:q0a):Sp:=λvs H Q _ => ∃ (u:Addr) (kd:Int) (room:Nat),vs=[.ref u,.int kd,.int room]/\v6 H u/\(kd=0 \/ kd=1)/\4<=room/\room<=10/\∀ r lp lr ps rs L ap H',x9 u H H'->v6 H' u->H' r=some (.tup [.ref lp,.ref lr])->PRt u H' lp lr ps rs->Drn ps L rs 0 ap->ps.length<=room+1->Q (.ref r) H'
abbrev A9:Stmt:=top 68
theorem d4:i7 ["_law_urn_here","_law_kind_here","_law_room","_law_p","_law_roots","_law_apart","_law_few","_law_turn","_law_often","_law_factor","_law_plain","_law_degree","_law_u","_law_v","_law_step","_law_ahead"] ["_law_urn_here","_law_kind_here","_law_room"] (c6 A9):=by and_intros
theorem ah3 {f f1 f2 f3 f4 f5 f6 f7 f8 f9:Addr} (d:Df K mg "_law_drawn_seen" A9 ["_law_urn_here","_law_kind_here","_law_room"] f) (G__law_draw:Def P w K mg base CX0 1 "_law_draw" f1 ["_law_urn_here","_law_many"] V1) (GP__law_number:Def P w K mg base CX0 2 "_law_number" f2 ["_law_urn_here","_law_kind_here"] ak6) (GP__law_other:Def P w K mg base CX0 3 "_law_other" f3 ["_law_urn_here","_law_kind_here"] ar4) (G__law_above:Def P w K mg base CX0 4 "_law_above" f4 ["_law_urn_here","_law_kind_here"] aK2) (G__law_poly_times:Def P w K mg base CX0 3 "_law_poly_times" f5 ["_law_p","_law_q"] (aD6 K)) (G__law_less:Def P w K mg base CX0 2 "_law_less" f6 ["_law_one","_law_other_here"] (P6 K (· - ·))) (G__law_times:Def P w K mg base CX0 2 "_law_times" f7 ["_law_one","_law_other_here"] (P6 K (· * ·))) (G__law_plus:Def P w K mg base CX0 2 "_law_plus" f8 ["_law_one","_law_other_here"] (P6 K (· + ·))) (G__law_below:Def P w K mg base CX0 1 "_law_below" f9 ["_law_one","_law_other_here"] (aD7 K)) (n_range:mg "range" = none) (n_len:mg "len" = none):Def P w K mg base CX0 5 "_law_drawn_seen" f ["_law_urn_here","_law_kind_here","_law_room"] (bf7 K):=by
 have G__law_number:=GP__law_number
 have G__law_other:=GP__law_other
 refine d.ok (N:=["_law_urn_here","_law_kind_here","_law_room","_law_p","_law_roots","_law_apart","_law_few","_law_turn","_law_often","_law_factor","_law_plain","_law_degree","_law_u","_law_v","_law_step","_law_ahead"]) d4 (by rintro vs H Q E ⟨_,_,_,h,_⟩;rw [h];rfl) (λcdv A outer s H vs Q E hr h=>?_)
 obtain ⟨u,kd,room,rfl,hU,hk,r4,r10,k⟩:=h
 have hu:=hr.units
 refine ⟨_,(b9 (d8 (i:=3) d4.nd rfl (z0d rfl) (z8 (a7 (d5 G__law_other hr (a7 (pv 0) (a7 (pv 1) a9)) i5) a9)))
   (b9 (d8 (i:=4) d4.nd rfl (z0d rfl) (z8 a9))
   (b9 (d8 (i:=5) d4.nd rfl (z0d rfl) (Y0 Z4 (d5 G__law_draw hr (a7 (pv 0) (a7 b7 a9)) i5) b7 (j7 _)))
   (b9 (B0 (M1 (pv 5)) (b9 (P8 (q8 (a7 (d5 G__law_number hr (a7 (pv 0) (a7 (pv 1) a9)) i5) (a7 (d5 G__law_above hr (a7 (pv 0) (a7 (pv 1) a9)) i5) a9))) (show PG _ _ (af8 K 2 (A8 (t8 12) (A8 (t8 13) af9))) from by (refine N5 (n:=2) ?_ ?_ ?_ ?_;rfl;(refine k7 ?_ ?_ ?_;(exact (i3 (i:=12) d4.nd rfl (u0e rfl)));(refine k7 ?_ ?_ ?_;(exact (i3 (i:=13) d4.nd rfl (z0d rfl)));(exact G8);rfl);rfl);rfl;rfl)))
   (b9 (d8 (i:=4) d4.nd rfl (z0d rfl) (z8 (a7 (q8 (a7 (pv 12) (a7 (G4 B6 b7) (a7 (pv 13) a9)))) (a7 (q8 (a7 (pv 12) (a7 b7 (a7 (pv 13) a9)))) a9))))
   (c5 (K3 PassesOwn.never rfl (Z3 rfl n_range (a7 (d7 C9 b7 (d5 G__law_draw hr (a7 (pv 0) (a7 b7 a9)) i5)) a9)) (i3 (i:=7) d4.nd rfl (z0d rfl)) (c5 (d8 (i:=3) d4.nd rfl (z0d rfl) (d5 G__law_poly_times hr (a7 (pv 3) (a7 (z8 (a7 (d5 G__law_less hr (a7 (d5 G__law_times hr (a7 (pv 12) (a7 (pv 12) a9)) i5) (a7 (pv 13) a9)) i5) (a7 (d5 G__law_times hr (a7 (q8 (a7 (G4 B6 b7) (a7 b7 a9))) (a7 (pv 12) a9)) i5) (a7 (q8 (a7 b7 (a7 b7 a9))) a9)))) a9)) i5))))))) p9)
   (b9 (d8 (i:=6) d4.nd rfl (z0d rfl) b7)
   (b9 (K3 PassesOwn.never rfl (Z3 rfl n_range (a7 (d5 G__law_draw hr (a7 (pv 0) (a7 b7 a9)) i5) a9)) (i3 (i:=7) d4.nd rfl (z0d rfl)) (b9 (d8 (i:=8) d4.nd rfl (z0d rfl) (d7 C9 b7 (d5 G__law_draw hr (a7 (pv 0) (a7 b7 a9)) i5)))
   (b9 (P8 (q8 (a7 (d5 G__law_number hr (a7 (pv 0) (a7 (pv 1) a9)) i5) (a7 (d5 G__law_above hr (a7 (pv 0) (a7 (pv 1) a9)) i5) a9))) (show PG _ _ (af8 K 2 (A8 (t8 12) (A8 (t8 13) af9))) from by (refine N5 (n:=2) ?_ ?_ ?_ ?_;rfl;(refine k7 ?_ ?_ ?_;(exact (i3 (i:=12) d4.nd rfl (u0e rfl)));(refine k7 ?_ ?_ ?_;(exact (i3 (i:=13) d4.nd rfl (z0d rfl)));(exact G8);rfl);rfl);rfl;rfl)))
   (b9 (d8 (i:=9) d4.nd rfl (z0d rfl) (z8 (a7 (q8 (a7 (d7 F6 b7 (j4 m6 (pv 12) b7 (λ_ _=>rfl))) (a7 (j4 m6 (pv 12) b7 (λ_ _=>rfl)) a9))) (a7 (q8 (a7 b7 (a7 b7 a9))) a9))))
   (b9 (d8 (i:=10) d4.nd rfl (z0d rfl) (aQ0 (Y0 ag6 (d5 G__law_draw hr (a7 (pv 0) (a7 b7 a9)) i5) b7 (j7 _)) (aF2 (bi2 (pv 5)))))
   (b9 (B0 (P7 (M1 (pv 10))) (c5 (d8 (i:=9) d4.nd rfl (z0d rfl) (z8 (a7 (d5 G__law_plus hr (a7 (d5 G__law_times hr (a7 (pv 12) (a7 (pv 12) a9)) i5) (a7 (pv 13) a9)) i5) (a7 (d5 G__law_times hr (a7 (q8 (a7 (G4 B6 b7) (a7 b7 a9))) (a7 (pv 12) a9)) i5) (a7 (q8 (a7 b7 (a7 b7 a9))) a9)))))) p9)
   (b9 (d8 (i:=11) d4.nd rfl (z0d rfl) (d7 F6 (d9 j5 rfl n_len (by trivial) (a7 (pv 9) a9)) b7))
   (c5 (B0 (PW.pt (ak9 (j3 by5 (d7 C9 (d7 F6 (d9 j5 rfl n_len (by trivial) (a7 (pv 3) a9)) b7) (d7 p8 (pv 8) (pv 11))) (pv 2) (j7 _)) (ae8 (j3 by5 (pv 11) (pv 6) (j7 _))))) (b9 (d8 (i:=6) d4.nd rfl (z0d rfl) (d7 F6 (pv 6) (pv 11)))
   (b9 (K3 PassesOwn.never rfl (Z3 rfl n_range (a7 (pv 8) a9)) (i3 (i:=14) d4.nd rfl (z0d rfl)) (c5 (d8 (i:=3) d4.nd rfl (z0d rfl) (d5 G__law_poly_times hr (a7 (pv 3) (a7 (pv 9) a9)) i5))))
   (c5 (B0 (M1 (pv 10)) (b9 (aE8 (i₀:=15) d4.nd rfl (z0d rfl) (Nc:=["_law_u","_law_root"]) (caps:=[some 12,none]) rfl (Y7.of (osc:=c6 A9) (N:=["_law_urn_here","_law_kind_here","_law_room","_law_p","_law_roots","_law_apart","_law_few","_law_turn","_law_often","_law_factor","_law_plain","_law_degree","_law_u","_law_v","_law_step","_law_ahead"]) (ks:=["_law_u"]) rfl rfl rfl rfl (C5 rfl D5) (by trivial)) (D6 (pv 4)) (λC s₂ H₂ fp pins=>(i3 (i:=1) (show v0r (["_law_u","_law_root"]:List Str) by trivial) rfl (z0d rfl) (u0e rfl))) (λC s₂ H₂ fp pins=>(M1 (d5 G__law_below hr (a7 (j4 (by exact m6:IxR _ (bg8 K)) (pv 1) b7 (λ_ _=>rfl)) (a7 (pv 0) a9)) i5))) (λC s₂ H₂ fp pins=>(pv 1)))
   (c5 (d8 (i:=4) d4.nd rfl (z0d rfl) (d7 as6 (d7 as6 (pv 15) (z8 (a7 (q8 (a7 (pv 12) (a7 b7 (a7 (q8 (a7 b7 (a7 b7 a9))) a9)))) a9))) (ba7 (Nc:=["_law_u","_law_root"]) (caps:=[some 12,none]) rfl (Y7.of (osc:=c6 A9) (N:=["_law_urn_here","_law_kind_here","_law_room","_law_p","_law_roots","_law_apart","_law_few","_law_turn","_law_often","_law_factor","_law_plain","_law_degree","_law_u","_law_v","_law_step","_law_ahead"]) (ks:=["_law_u"]) rfl rfl rfl rfl (C5 rfl D5) (by trivial)) (D6 (pv 4)) (λC s₂ H₂ fp pins=>(i3 (i:=1) (show v0r (["_law_u","_law_root"]:List Str) by trivial) rfl (z0d rfl) (u0e rfl))) (λC s₂ H₂ fp pins=>(M1 (d5 G__law_below hr (a7 (pv 0) (a7 (j4 (by exact m6:IxR _ (bg8 K)) (pv 1) b7 (λ_ _=>rfl)) a9)) i5))) (λC s₂ H₂ fp pins=>(pv 1))))))) p9)))) p9)))))))))
   (c5 (i8 (q8 (a7 (pv 3) (a7 (pv 4) a9))))))))))),?_⟩
 rw [show start ["_law_urn_here","_law_kind_here","_law_room","_law_p","_law_roots","_law_apart","_law_few","_law_turn","_law_often","_law_factor","_law_plain","_law_degree","_law_u","_law_v","_law_step","_law_ahead"] [.ref u,.int kd,.int room]=[some (.ref u),some (.int kd),some (.int room),none,none,none,none,none,none,none,none,none,none,none,none,none] from rfl]
 refine d6 (λσ H1 => ∃ lp q0,σ=[some (.ref u),some (.int kd),some (.int room),some (.ref lp),none,none,none,none,none,none,none,none,none,none,none,none]/\x9 u H H1/\v6 H1 u/\lp ≠ u/\N9 q0/\q0 ≠ 0/\∃ xs,H1 lp=some (.lst xs)/\v3 H1 xs [q0]) (λN hN=>?_) ?_
 ·subst_eqs
  refine ⟨u,kd,rfl,hU,hk,λr q H1 nq q0 s1 u1 e1=>⟨aO9,λp hp=>?_⟩⟩
  obtain ⟨H2,y2,S2,g2,u2,n2⟩:=nwu (.lst [.ref r]) hp u1
  rw [y2]
  exact hN _ _ ⟨p,q,rfl,s1.trans (c7.x S2 u),u2,n2,nq,q0,_,g2,.cons (S2 _ _ e1) .nil⟩
 rintro σ H1 ⟨lp,q0,rfl,s1,u1,lpu,n9,hq0,xs,ep,np⟩
 refine d6 (λσ H2 => ∃ lr,σ=[some (.ref u),some (.int kd),some (.int room),some (.ref lp),some (.ref lr),none,none,none,none,none,none,none,none,none,none,none]/\x9 u H H2/\v6 H2 u/\PRt u H2 lp lr [q0] []) (λN hN=>?_) ?_
 ·subst_eqs
  refine ⟨by decide,λp hp=>?_⟩
  obtain ⟨H2,y2,S2,g2,u2,n2⟩:=nwu (.lst []) hp u1
  rw [y2]
  exact hN _ _ ⟨p,rfl,s1.trans (c7.x S2 u),u2,lpu,n2,⟨_,S2 _ _ ep,np.mono S2.tups⟩,_,g2,.nil⟩
 clear s1 u1 ep np
 rintro σ H2 ⟨lr,rfl,s2,u2,R2⟩
 refine d6 (λσ H3 => ∃ ap:Bool,σ=[some (.ref u),some (.int kd),some (.int room),some (.ref lp),some (.ref lr),some (.bl ap),none,none,none,none,none,none,none,none,none,none]/\x9 u H H3/\v6 H3 u/\PRt u H3 lp lr [q0] []) (λN hN=>?_) ?_
 ·simp! [V1]
  exact ⟨u2,by decide,by decide,λr H3 _ _ s3 u3=>⟨rfl,hN _ _ ⟨_,rfl,s2.trans s3,u3,R2.samex s3 u2⟩⟩⟩
 clear s2 u2 R2
 rintro σ H3 ⟨ap,rfl,s3,u3,R3⟩
 refine d6 (λσ H4 => ∃ lp lr ps rs L o7 o12 o13,σ=[some (.ref u),some (.int kd),some (.int room),some (.ref lp),some (.ref lr),some (.bl ap),none,o7,none,none,none,none,o12,o13,none,none]/\x9 u H H4/\v6 H4 u/\PRt u H4 lp lr ps rs/\Drn ps L rs 6 ap/\ps.length<=5) (λN hN=>?_) ?_
 ·refine ⟨_,rfl,_,rfl,B1 (λhap=>?_) (λhap=>?_)⟩
  ·subst hap
   refine d6 (λσ H4 => ∃ pu pv q v,σ=[some (.ref u),some (.int kd),some (.int room),some (.ref lp),some (.ref lr),some (.bl true),none,none,none,none,none,none,some (.ref pu),some (.ref pv),none,none]/\x9 u H H4/\v6 H4 u/\PRt u H4 lp lr [q0] []/\N9 q/\N9 v/\0<v/\H4 pu=some (.tup (t7 q))/\H4 pv=some (.tup (t7 v))) (λN hN=>?_) ?_
   ·subst_eqs
    refine ⟨u,kd,rfl,u3,hk,λr q H4 nq s4 u4 e4=>⟨u,kd,rfl,u4,hk,λr2 v H5 nv v0 s5 u5 e5=>⟨v4,λp hp=>?_⟩⟩⟩
    obtain ⟨H6,y6,S6,g6,u6,_⟩:=nwu (.tup [.ref r,.ref r2]) hp u5
    rw [y6]
    have R6:=((R3.samex s4 u3).samex s5 u4).same S6
    exact ⟨_,SqT.of g6,rfl,_,_,rfl,_,_,rfl,rfl,hN _ _ ⟨r,r2,q,v,rfl,s3.trans (s4.trans (s5.trans (c7.x S6 u))),u6,R6,nq,nv,v0,S6 _ _ (s5.tups u4 _ _ e4),S6 _ _ e5⟩⟩
   clear s3 u3 R3
   rintro σ H4 ⟨pu,pv,q,v,rfl,s4,u4,R4,nq,nv,v0,eu,ev⟩
   refine d6 (λσ H5 => ∃ lr,σ=[some (.ref u),some (.int kd),some (.int room),some (.ref lp),some (.ref lr),some (.bl true),none,none,none,none,none,none,some (.ref pu),some (.ref pv),none,none]/\x9 u H H5/\v6 H5 u/\PRt u H5 lp lr [q0] [⟨q,-1,v⟩,⟨q,1,v⟩]/\H5 pu=some (.tup (t7 q))/\H5 pv=some (.tup (t7 v))) (λN hN=>?_) ?_
   ·subst_eqs
    refine ⟨by decide,λp1 h1=>?_⟩
    obtain ⟨A1,y1,S1,g1,U1,_⟩:=nwu (.tup [.ref pu,.int (-1),.ref pv]) h1 u4
    rw [y1]
    refine ⟨by decide,λp2 h2=>?_⟩
    obtain ⟨A2,y2,S2,g2,U2,_⟩:=nwu (.tup [.ref pu,.int 1,.ref pv]) h2 U1
    rw [y2]
    refine ⟨by decide,λp3 h3=>?_⟩
    obtain ⟨A3,y3,S3,g3,U3,n3⟩:=nwu (.lst [.ref p1,.ref p2]) h3 U2
    rw [y3]
    have S:=S1.trans (S2.trans S3)
    have R':=R4.same S
    exact hN _ _ ⟨p3,rfl,s4.trans (c7.x S u),U3,⟨R'.pu,n3,R'.p,_,g3,.cons ⟨p1,pu,pv,rfl,(S2.trans S3) _ _ g1,S _ _ eu,S _ _ ev⟩ (.cons ⟨p2,pu,pv,rfl,S3 _ _ g2,S _ _ eu,S _ _ ev⟩ .nil)⟩,S _ _ eu,S _ _ ev⟩
   clear s4 u4 R4 eu ev
   rintro σ H5 ⟨lr,rfl,s5,u5,R5,eu,ev⟩
   have F2:FpB ⟨2,q,-v⟩:=aj7 nq nv.neg (.inr (.inr ⟨rfl,by show -v<0;grind⟩)) (by decide)
   have bq:BtN 4 q:=nq.bt
   have bv:BtN 4 v:=nv.bt
   have bqq:BtN 8 (q*q):=(nq.bd.mul nq.bd).t (by decide)
   obtain ⟨J,hJ⟩:∃ J:Nat->L2.St->Hp->Prop,∀ t σ H6,J t σ H6 ↔ ∃ (o7:Option V) (lp:Addr) (ps:List Rat),σ=[some (.ref u),some (.int kd),some (.int room),some (.ref lp),some (.ref lr),some (.bl true),none,o7,none,none,none,none,some (.ref pu),some (.ref pv),none,none]/\x9 u H5 H6/\v6 H6 u/\PRt u H6 lp lr ps [⟨q,-1,v⟩,⟨q,1,v⟩]/\Pol ps q0 (wP (⟨2,q,-v⟩:Fp).f t*1) (t*2):=⟨_,λ_ _ _=>Iff.rfl⟩
   have w0:wP (⟨2,q,-v⟩:Fp).f 0*1=1:=by show (1:Pf)*1=1;grind
   refine ⟨_,rfl,u,_,rfl,u5,by decide,by decide,λr H6 r0 r2 s6 u6=>⟨1,r,rfl,rfl,1+r,rfl,by lia,by lia,U8 J ((hJ _ _ _).mpr ⟨_,lp,[q0],rfl,s6,u6,R5.samex s6 u5,by rw [w0];exact aV3 n9 hq0⟩) ?_ ?_⟩⟩
   ·intro t σ H7 ht h
    obtain ⟨o7,lp,ps,rfl,s7,u7,R7,hp⟩:=(hJ _ _ _).mp h
    have ht:t<2:=by lia
    obtain ⟨xs,ep,np⟩:=R7.p
    have eu7:=s7.tups u5 _ _ eu
    have ev7:=s7.tups u5 _ _ ev
    subst_eqs
    refine ⟨_,_,q,q,4,4,rfl,⟨pu,rfl,SqT.of eu7⟩,⟨pu,rfl,SqT.of eu7⟩,bq,bq,by decide,λr8 H8 s8 e8=>⟨_,_,_,v,8,4,rfl,⟨r8,rfl,SqT.of e8⟩,⟨pv,rfl,SqT.of (s8 _ _ ev7)⟩,bqq,bv,by decide,λr9 H9 s9 e9=>⟨v4,λp1 h1=>?_⟩⟩⟩
    have u9:=c7.urn s9 (c7.urn s8 u7)
    obtain ⟨HA,yA,SA,gA,uA,_⟩:=nwu (.tup [.int (-2),.int 1]) h1 u9
    rw [yA]
    refine ⟨_,_,(-2:Rat),q,1,4,rfl,⟨p1,rfl,SqT.of gA⟩,⟨pu,rfl,SqT.of (SA _ _ (s9 _ _ (s8 _ _ eu7)))⟩,⟨by decide,by decide⟩,bq,by decide,λrB HB sB eB=>⟨v4,λp2 h2=>?_⟩⟩
    have uB:=c7.urn sB uA
    obtain ⟨HC,yC,SC,gC,uC,_⟩:=nwu (.tup [.int 1,.int 1]) h2 uB
    rw [yC]
    refine ⟨by decide,λp3 h3=>?_⟩
    obtain ⟨HD,yD,SD,gD,uD,_⟩:=nwu (.lst [.ref r9,.ref rB,.ref p2]) h3 uC
    rw [yD]
    have S9D:=SA.trans (sB.trans (SC.trans SD))
    have S7D:=s8.trans (s9.trans S9D)
    have nqs:v3 HD [.ref r9,.ref rB,.ref p2] (⟨2,q,-v⟩:Fp).qs:=by
     show v3 HD _ [q*q + -v,-2*q,1]
     rw [<- Rat.sub_eq_add_neg]
     exact .cons (S9D _ _ e9) (.cons ((SC.trans SD) _ _ eB) (.cons (show _=some (.tup (t7 1)) from SD _ _ gC) .nil))
    refine aL4 (S7D _ _ ep) (np.mono S7D.tups) gD nqs hp F2 (by lia) λr' zs ps' H' s' f' e' n' hp'=>(hJ _ _ _).mpr ⟨_,r',ps',rfl,s7.trans (c7.x (S7D.trans s') u),c7.urn s' uD,⟨?_,R7.ru,⟨_,e',n'⟩,(R7.same (S7D.trans s')).r⟩,?_⟩
    ·exact aC7 uD f'
    ·have:=bh8 hp'
     rw [show Fp.n ⟨2,q,-v⟩+t*2=(t+1)*2 by show 2+t*2=_;lia] at this
     exact this
   ·intro σ H7 h
    obtain ⟨o7,lp,ps,rfl,s7,u7,R7,hp⟩:=(hJ _ _ _).mp h
    have l7:=hp.len
    exact hN _ _ ⟨lp,lr,ps,_,_,_,_,_,rfl,s5.trans s7,u7,R7,bc0 n9 hq0 nq nv v0 (by lia) hp,by lia⟩
  ·have e:ap=false:=by simpa using hap
   subst e
   exact hN _ _ ⟨lp,lr,[q0],[],[],_,_,_,rfl,s3,u3,R3,aX4 n9 hq0,by show 1<=5;decide⟩
 clear s3 u3 R3
 rintro σ H4 ⟨lp,lr,ps,rs,L,o7,o12,o13,rfl,s4,u4,R4,D4,l4⟩
 refine d6 (λσ H5=>σ=[some (.ref u),some (.int kd),some (.int room),some (.ref lp),some (.ref lr),some (.bl ap),some (.int ((6:Nat):Int)),o7,none,none,none,none,o12,o13,none,none]/\H5=H4) (λN hN=>?_) ?_
 ·subst_eqs
  exact hN _ _ ⟨rfl,rfl⟩
 rintro σ H5 ⟨rfl,rfl⟩
 obtain ⟨I,hI⟩:∃ I:Nat->L2.St->Hp->Prop,∀ i σ H6,I i σ H6 ↔ ∃ (o7 o8 o9 o10 o11 o12 o13 o14 o15:Option V) (lp lr:Addr) (ps:List Rat) (rs:List Rtu) (L:List (Fp × Nat)) (few:Nat),σ=[some (.ref u),some (.int kd),some (.int room),some (.ref lp),some (.ref lr),some (.bl ap),some (.int (few:Int)),o7,o8,o9,o10,o11,o12,o13,o14,o15]/\x9 u H H6/\v6 H6 u/\PRt u H6 lp lr ps rs/\Drn ps L rs few ap/\ps.length<=room+1:=⟨_,λ_ _ _=>Iff.rfl⟩
 refine d6 (λσ H6 => ∃ i,I i σ H6) (λN hN=>?_) ?_
 ·refine ⟨_,rfl,u,_,rfl,u4,by decide,by decide,λr H6 r0 r6 s6 u6=>⟨r,rfl,by lia,by lia,U8 I ((hI _ _ _).mpr ⟨_,_,_,_,_,_,_,_,_,lp,lr,ps,rs,L,6,rfl,s4.trans s6,u6,R4.samex s6 u4,D4,by lia⟩) ?_ (λσ H7 h=>hN _ _ ⟨_,h⟩)⟩⟩
  clear s4 u4 R4 D4 l4 u6 s6
  rintro i σ H7 hi h
  obtain ⟨o7,o8,o9,o10,o11,o12,o13,o14,o15,lp,lr,ps,rs,L,few,rfl,s7,u7,R7,D7,l7⟩:=(hI _ _ _).mp h
  simp only [t8,u0z,u0b]
  refine d6 (λσ H8 => ∃ m:Nat,σ=[some (.ref u),some (.int kd),some (.int room),some (.ref lp),some (.ref lr),some (.bl ap),some (.int (few:Int)),some (.int (0+(i:Int))),some (.int (m:Int)),o9,o10,o11,o12,o13,o14,o15]/\x9 u H H8/\v6 H8 u/\PRt u H8 lp lr ps rs/\1<=m/\m<=3) (λN hN=>?_) ?_
  ·simp! [V1]
   refine ⟨u7,by decide,by decide,λr H8 r0 r3 s8 u8=>?_⟩
   obtain ⟨m,rfl⟩:∃ m:Nat,r=(m:Int):=⟨r.toNat,by lia⟩
   exact hN _ _ ⟨m+1,by rw [show (1:Int)+(m:Int)=((m+1:Nat):Int) by lia],s7.trans s8,u8,R7.samex s8 u7,by simp,by lia⟩
  clear s7 u7 R7
  rintro σ H8 ⟨m,rfl,s8,u8,R8,m1,m3⟩
  refine d6 (λσ H9 => ∃ pu pv q v,σ=[some (.ref u),some (.int kd),some (.int room),some (.ref lp),some (.ref lr),some (.bl ap),some (.int (few:Int)),some (.int (0+(i:Int))),some (.int (m:Int)),o9,o10,o11,some (.ref pu),some (.ref pv),o14,o15]/\x9 u H H9/\v6 H9 u/\PRt u H9 lp lr ps rs/\N9 q/\N9 v/\0<v/\H9 pu=some (.tup (t7 q))/\H9 pv=some (.tup (t7 v))) (λN hN=>?_) ?_
  ·subst_eqs
   refine ⟨u,kd,rfl,u8,hk,λr q H4 nq s4 u4 e4=>⟨u,kd,rfl,u4,hk,λr2 v H5 nv v0 s5 u5 e5=>⟨v4,λp hp=>?_⟩⟩⟩
   obtain ⟨H6,y6,S6,g6,u6,_⟩:=nwu (.tup [.ref r,.ref r2]) hp u5
   rw [y6]
   have R6:=((R8.samex s4 u8).samex s5 u4).same S6
   exact ⟨_,SqT.of g6,rfl,_,_,rfl,_,_,rfl,rfl,hN _ _ ⟨r,r2,q,v,rfl,s8.trans (s4.trans (s5.trans (c7.x S6 u))),u6,R6,nq,nv,v0,S6 _ _ (s5.tups u4 _ _ e4),S6 _ _ e5⟩⟩
  clear s8 u8 R8
  rintro σ H9 ⟨pu,pv,q,v,rfl,s9,u9,R9,nq,nv,v0,eu,ev⟩
  refine d6 (λσ HA => ∃ lf,σ=[some (.ref u),some (.int kd),some (.int room),some (.ref lp),some (.ref lr),some (.bl ap),some (.int (few:Int)),some (.int (0+(i:Int))),some (.int (m:Int)),some (.ref lf),o10,o11,some (.ref pu),some (.ref pv),o14,o15]/\x9 u H HA/\v6 HA u/\PRt u HA lp lr ps rs/\HA pu=some (.tup (t7 q))/\HA pv=some (.tup (t7 v))/\lf ≠ u/\∃ ys,HA lf=some (.lst ys)/\v3 HA ys (⟨0,q,0⟩:Fp).qs) (λN hN=>?_) ?_
  ·subst_eqs
   refine ⟨_,SqT.of eu,_,at0 q,_,rfl,_,SqT.of eu,_,at1 q,v4,λp1 h1=>?_⟩
   obtain ⟨A1,y1,S1,g1,U1,_⟩:=nwu (.tup [.int (0-q.num),.int q.den]) h1 u9
   rw [y1]
   refine ⟨v4,λp2 h2=>?_⟩
   obtain ⟨A2,y2,S2,g2,U2,_⟩:=nwu (.tup [.int 1,.int 1]) h2 U1
   rw [y2]
   refine ⟨v4,λp3 h3=>?_⟩
   obtain ⟨A3,y3,S3,g3,U3,n3⟩:=nwu (.lst [.ref p1,.ref p2]) h3 U2
   rw [y3]
   rw [Int.zero_sub] at g1
   have S:=S1.trans (S2.trans S3)
   exact hN _ _ ⟨p3,rfl,s9.trans (c7.x S u),U3,R9.same S,S _ _ eu,S _ _ ev,n3,_,g3,(.cons (q:=-q) ((S2.trans S3) p1 _ g1) (.cons (show _=some (.tup (t7 1)) from S3 p2 _ g2) .nil))⟩
  clear s9 u9 R9 eu ev
  rintro σ HA ⟨lf,rfl,sA,uA,RA,eu,ev,lfu,efA⟩
  refine d6 (λσ HB => ∃ pl:Bool,σ=[some (.ref u),some (.int kd),some (.int room),some (.ref lp),some (.ref lr),some (.bl ap),some (.int (few:Int)),some (.int (0+(i:Int))),some (.int (m:Int)),some (.ref lf),some (.bl pl),o11,some (.ref pu),some (.ref pv),o14,o15]/\(pl=true->ap=false)/\x9 u H HB/\v6 HB u/\PRt u HB lp lr ps rs/\HB pu=some (.tup (t7 q))/\HB pv=some (.tup (t7 v))/\lf ≠ u/\∃ ys,HB lf=some (.lst ys)/\v3 HB ys (⟨0,q,0⟩:Fp).qs) (λN hN=>?_) ?_
  ·simp! [V1]
   obtain ⟨ys,e,ny⟩:=efA
   refine ⟨uA,by decide,by decide,λr HB r0 r3 sB uB=>?_⟩
   have go:∀ pl:Bool,(pl=true->ap=false)->N [some (.ref u),some (.int kd),some (.int room),some (.ref lp),some (.ref lr),some (.bl ap),some (.int (few:Int)),some (.int (0+(i:Int))),some (.int (m:Int)),some (.ref lf),some (.bl pl),o11,some (.ref pu),some (.ref pv),o14,o15] HB:=λpl hpl=>hN _ _ ⟨pl,rfl,hpl,sA.trans sB,uB,RA.samex sB uA,sB.tups uA _ _ eu,sB.tups uA _ _ ev,lfu,ys,sB _ _ e lfu,ny.mono (sB.tups uA)⟩
   refine B1 (λ_=>go _ λz=>?_) (λ_=>go _ λz=>by cases z)
   simpa using z
  clear sA uA RA eu ev efA
  rintro σ HB ⟨pl,rfl,hpl,sB,uB,RB,eu,ev,_,efB⟩
  have bq:BtN 4 q:=nq.bt
  have bv:BtN 4 v:=nv.bt
  have bqq:BtN 8 (q*q):=(nq.bd.mul nq.bd).t (by decide)
  refine d6 (λσ HC => ∃ lf x,σ=[some (.ref u),some (.int kd),some (.int room),some (.ref lp),some (.ref lr),some (.bl ap),some (.int (few:Int)),some (.int (0+(i:Int))),some (.int (m:Int)),some (.ref lf),some (.bl pl),o11,some (.ref pu),some (.ref pv),o14,o15]/\x=(if pl=true then (⟨0,q,0⟩:Fp) else ⟨1,q,v⟩)/\x9 u H HC/\v6 HC u/\PRt u HC lp lr ps rs/\HC pu=some (.tup (t7 q))/\∃ ys,HC lf=some (.lst ys)/\v3 HC ys x.qs) (λN hN=>?_) ?_
  ·subst_eqs
   refine B1 (λh0=>?_) (λh0=>?_)
   ·subst h0
    refine ⟨_,_,q,q,4,4,rfl,⟨pu,rfl,SqT.of eu⟩,⟨pu,rfl,SqT.of eu⟩,bq,bq,by decide,λr8 H8 s8 e8=>⟨_,_,_,v,8,4,rfl,⟨r8,rfl,SqT.of e8⟩,⟨pv,rfl,SqT.of (s8 _ _ ev)⟩,bqq,bv,by decide,λr9 H9 s9 e9=>⟨v4,λp1 h1=>?_⟩⟩⟩
    have u9:=c7.urn s9 (c7.urn s8 uB)
    obtain ⟨HA,yA,SA,gA,uA,_⟩:=nwu (.tup [.int (-2),.int 1]) h1 u9
    rw [yA]
    refine ⟨_,_,(-2:Rat),q,1,4,rfl,⟨p1,rfl,SqT.of gA⟩,⟨pu,rfl,SqT.of (SA _ _ (s9 _ _ (s8 _ _ eu)))⟩,⟨by decide,by decide⟩,bq,by decide,λrB HB sB' eB=>⟨v4,λp2 h2=>?_⟩⟩
    have uB:=c7.urn sB' uA
    obtain ⟨HC,yC,SC,gC,uC,_⟩:=nwu (.tup [.int 1,.int 1]) h2 uB
    rw [yC]
    refine ⟨by decide,λp3 h3=>?_⟩
    obtain ⟨HD,yD,SD,gD,uD,_⟩:=nwu (.lst [.ref r9,.ref rB,.ref p2]) h3 uC
    rw [yD]
    have S9D:=SA.trans (sB'.trans (SC.trans SD))
    have S7D:=s8.trans (s9.trans S9D)
    exact hN _ _ ⟨p3,_,rfl,rfl,sB.trans (c7.x S7D u),uD,RB.same S7D,S7D _ _ eu,_,gD,.cons (S9D _ _ e9) (.cons ((SC.trans SD) _ _ eB) (.cons (show _=some (.tup (t7 1)) from SD _ _ gC) .nil))⟩
   ·have h1:pl=true:=by simpa using h0
    subst h1
    exact hN _ _ ⟨lf,_,rfl,rfl,sB,uB,RB,eu,efB⟩
  clear sB uB RB eu ev efB
  rintro σ HC ⟨lf,x,rfl,ex,sC,uC,RC,eu,ys,ef,nf⟩
  have FB:FpB x:=by
   rw [ex]
   split
   ·exact aW8 nq
   ·exact aj7 nq nv (.inr (.inl ⟨rfl,v0⟩)) (by decide)
  have xn:x.qs.length=x.n+1:=by rw [ex];split <;> rfl
  have xn2:1<=x.n/\x.n<=2:=by unfold Fp.n;split <;> simp
  have ly:=nf.length
  refine d6 (λσ HD=>σ=[some (.ref u),some (.int kd),some (.int room),some (.ref lp),some (.ref lr),some (.bl ap),some (.int (few:Int)),some (.int (0+(i:Int))),some (.int (m:Int)),some (.ref lf),some (.bl pl),some (.int (x.n:Int)),some (.ref pu),some (.ref pv),o14,o15]/\HD=HC) (λN hN=>?_) ?_
  ·subst_eqs
   exact ⟨_,.inl (SqL.of ef),hN _ _ ⟨by rw [show ((ys.length:Int)-1)=(x.n:Int) by lia],rfl⟩⟩
  rintro σ HD ⟨rfl,rfl⟩
  obtain ⟨k0,n,hp⟩:=D7.ex
  have lps:=hp.len
  obtain ⟨xs,ep,np⟩:=RC.p
  have lx:=np.length
  have mo:IntMulOk (m:Int) (x.n:Int):=G5 (m:=10) (n:=10) (by rw [q0k];lia) (by rw [q0k];lia) (by decide)
  have stay:I (i+1) [some (.ref u),some (.int kd),some (.int room),some (.ref lp),some (.ref lr),some (.bl ap),some (.int (few:Int)),some (.int (0+(i:Int))),some (.int (m:Int)),some (.ref lf),some (.bl pl),some (.int (x.n:Int)),some (.ref pu),some (.ref pv),o14,o15] HD:=(hI _ _ _).mpr ⟨_,_,_,_,_,_,_,_,_,lp,lr,ps,rs,L,few,rfl,sC,uC,RC,D7,l7⟩
  refine ⟨_,rfl,_,_,rfl,.inl (SqL.of ep),_,_,rfl,rfl,_,rfl,_,rfl,_,_,rfl,rfl,mo,_,_,rfl,rfl,_,rfl,_,_,rfl,rfl,_,rfl,B1 (λh1=>⟨_,rfl,_,rfl,_,_,rfl,rfl,_,rfl,B1 (λh2=>?_) (λh2=>stay)⟩) (λh1=>B1 (λz=>by cases z) (λ_=>stay))⟩
  have h1:=of_decide_eq_true h1
  have h2:=of_decide_eq_true h2
  clear stay
  refine d6 (λσ HE=>σ=[some (.ref u),some (.int kd),some (.int room),some (.ref lp),some (.ref lr),some (.bl ap),some (.int ((few-x.n:Nat):Int)),some (.int (0+(i:Int))),some (.int (m:Int)),some (.ref lf),some (.bl pl),some (.int (x.n:Int)),some (.ref pu),some (.ref pv),o14,o15]/\HE=HD) (λN hN=>?_) ?_
  ·subst_eqs
   exact hN _ _ ⟨by rw [show ((few:Int)-(x.n:Int))=((few-x.n:Nat):Int) by lia],rfl⟩
  rintro σ HE ⟨rfl,rfl⟩
  have hmx:m*x.n+n<=room:=by
   have:((m*x.n:Nat):Int)=(m:Int)*(x.n:Int):=j0e _ _
   lia
  obtain ⟨J,hJ⟩:∃ J:Nat->L2.St->Hp->Prop,∀ t σ HF,J t σ HF ↔ ∃ (o14:Option V) (lp:Addr) (ps:List Rat),σ=[some (.ref u),some (.int kd),some (.int room),some (.ref lp),some (.ref lr),some (.bl ap),some (.int ((few-x.n:Nat):Int)),some (.int (0+(i:Int))),some (.int (m:Int)),some (.ref lf),some (.bl pl),some (.int (x.n:Int)),some (.ref pu),some (.ref pv),o14,o15]/\c7 HE HF/\v6 HF u/\PRt u HF lp lr ps rs/\Pol ps k0 (wP x.f t*fP (tfs (L.map rt1))) (t*x.n+n):=⟨_,λ_ _ _=>Iff.rfl⟩
  have w0:wP x.f 0*fP (tfs (L.map rt1))=fP (tfs (L.map rt1)):=by show (1:Pf)*_=_;grind
  refine d6 (λσ HF=>J m σ HF) (λN hN=>?_) ?_
  ·refine ⟨_,rfl,_,rfl,by simp,by lia,U8 J ((hJ _ _ _).mpr ⟨_,lp,ps,rfl,c7.refl _,uC,RC,by rw [w0,Nat.zero_mul,j1e];exact hp⟩) ?_ (λσ HF h=>hN _ _ ?_)⟩
   ·intro t σ HF ht h
    obtain ⟨o14,lp,ps,rfl,sF,uF,RF,hp⟩:=(hJ _ _ _).mp h
    have ht:t<m:=by lia
    obtain ⟨xs,ep,np⟩:=RF.p
    have tm:(t+1)*x.n<=m*x.n:=v0c _ ht
    rw [m0h,m0f] at tm
    subst_eqs
    refine aL4 ep np (sF _ _ ef) (nf.mono sF.tups) hp FB (by lia) λr' zs ps' H' s' f' e' n' hp'=>(hJ _ _ _).mpr ⟨_,r',ps',rfl,sF.trans s',c7.urn s' uF,⟨aC7 uF f',RF.ru,⟨_,e',n'⟩,(RF.same s').r⟩,?_⟩
    have:=bh8 hp'
    rw [show x.n+(t*x.n+n)=(t+1)*x.n+n by rw [m0h,m0f];lia] at this
    exact this
   ·have e:((m:Int)).toNat=m:=by simp
    rw [e] at h
    exact h
  clear hp lps lx
  rintro σ HF hF
  obtain ⟨o14,lp,ps,rfl,sF,uF,RF,hp⟩:=(hJ _ _ _).mp hF
  have lps:=hp.len
  have euF:=sF _ _ eu
  refine ⟨_,rfl,_,rfl,B1 (λhpl1=>?_) (λhpl1=>?_)⟩
  ·subst hpl1
   have ap0:=hpl rfl
   subst ap0
   obtain ⟨ts,er,hR⟩:=RF.r
   have lts:=hR.length
   have lr8:=D7.ln
   have hO:=D7.ro
   have b6:∀ {y:Rat},N9 y->BdN 6000 y:=λh=>h.bd.mono (by decide)
   subst_eqs
   refine ⟨⟨_,SqL.of er⟩,λD1 hD1=>bo4 (λr=>decide (r.u<q)) er hR hD1 (by lia) ?_ ?_⟩
   ·rintro H1 y r Q' s1 rm ⟨a,pu',pw,rfl,ea,eu',_⟩ k'
    subst_eqs
    exact ⟨_,SqT.of ea,_,rfl,_,_,r.u,q,rfl,⟨pu',rfl,SqT.of eu'⟩,⟨pu,rfl,SqT.of (s1 _ _ euF)⟩,b6 (hO r rm).1,b6 nq,_,rfl,k'⟩
   rintro H1 d1 s1 e1 R1
   have u1:=c7.urn s1 uF
   have l1:=R1.length
   have lf1:=g0s (λr:Rtu=>decide (r.u<q)) rs
   refine ⟨v4,λp1 h1=>?_⟩
   obtain ⟨A1,y1,X1,g1,U1,_⟩:=nwu (.tup [.int 0,.int 1]) h1 u1
   rw [y1]
   refine ⟨by decide,λp2 h2=>?_⟩
   obtain ⟨A2,y2,X2,g2,U2,_⟩:=nwu (.tup [.ref pu,.int 0,.ref p1]) h2 U1
   rw [y2]
   refine ⟨by decide,λp3 h3=>?_⟩
   obtain ⟨A3,y3,X3,g3,U3,_⟩:=nwu (.lst [.ref p2]) h3 U2
   rw [y3]
   have X13:=X1.trans (X2.trans X3)
   refine ⟨D1,rfl,d1,X13 _ _ e1,_,g3,y0p (N6 (by rw [z0y];lia)),λp4 h4=>?_⟩
   obtain ⟨A4,y4,X4,g4,U4,_⟩:=nwu (.lst (d1 ++ [.ref p2])) h4 U3
   rw [y4]
   have X14:=X13.trans X4
   have sF4:=s1.trans X14
   have rn:aI7 A4 (.ref p2) ⟨q,0,0⟩:=⟨p2,pu,p1,rfl,(X3.trans X4) _ _ g2,sF4 _ _ euF,(X2.trans (X3.trans X4)) _ _ g1⟩
   refine ⟨⟨_,SqL.of (sF4 _ _ er)⟩,λD2 hD2=>bo4 (λr=>decide (q<r.u)) (sF4 _ _ er) (hR.mono sF4.tups) hD2 (by lia) ?_ ?_⟩
   ·rintro H1 y r Q' s1 rm ⟨a,pu',pw,rfl,ea,eu',_⟩ k'
    subst_eqs
    exact ⟨_,SqT.of ea,_,rfl,_,_,q,r.u,rfl,⟨pu,rfl,SqT.of (s1 _ _ (sF4 _ _ euF))⟩,⟨pu',rfl,SqT.of eu'⟩,b6 nq,b6 (hO r rm).1,_,rfl,k'⟩
   rintro H5 d2 s5 e5 R5
   have l5:=R5.length
   have lf5:=g0s (λr:Rtu=>decide (q<r.u)) rs
   refine ⟨D2,rfl,_,s5 _ _ g4,d2,e5,y0p (N6 (by rw [z0g,z0y];lia)),λp6 h6=>?_⟩
   obtain ⟨A6,y6,X6,g6,U6,n6⟩:=nwu (.lst (d1 ++ [.ref p2] ++ d2)) h6 (c7.urn s5 U4)
   rw [y6]
   have S:=sF4.trans (s5.trans X6)
   have ex:x=⟨0,q,0⟩:=ex
   subst ex
   have hf:1<=few:=by have:Fp.n ⟨0,q,0⟩=1:=rfl;lia
   have R':=RF.same S
   refine (hI _ _ _).mpr ⟨_,_,_,_,_,_,_,_,_,lp,p6,ps,ar8 q rs,_,_,rfl,sC.trans (c7.x (sF.trans S) u),U6,⟨R'.pu,n6,R'.p,_,g6,?_⟩,D7.lin nq m1 hf hp,by lia⟩
   exact ((R1.mono (X14.trans (s5.trans X6)).tups).append (.cons (rn.mono (s5.trans X6).tups) .nil)).append (R5.mono X6.tups)
  ·have e:pl=false:=by simpa using hpl1
   subst e
   have ex:x=⟨1,q,v⟩:=ex
   subst ex
   exact (hI _ _ _).mpr ⟨_,_,_,_,_,_,_,_,_,lp,lr,ps,rs,_,_,rfl,sC.trans (c7.x sF u),uF,RF,D7.quad nq nv v0 m1 (by show 2<=few;have:Fp.n ⟨1,q,v⟩=2:=rfl;lia) hp,by lia⟩
 rintro σ H6 ⟨i,h⟩
 obtain ⟨o7,o8,o9,o10,o11,o12,o13,o14,o15,lp,lr,ps,rs,L,few,rfl,s7,u7,R7,D7,l7⟩:=(hI _ _ _).mp h
 subst_eqs
 refine ⟨v4,λp hp=>?_⟩
 obtain ⟨A1,y1,S1,g1,U1,_⟩:=nwu (.tup [.ref lp,.ref lr]) hp u7
 rw [y1]
 exact k p lp lr ps rs L ap _ (s7.trans (c7.x S1 u)) U1 g1 (R7.same S1) (D7.few (j0g _)) l7
theorem BdN.ovb {c:Nat} {r:Rat} (h:BdN c r):OvB r.den c r:=⟨r.num,(z0u r).symm,h.n⟩
theorem bm9 {B W c:Nat} {r:Rat} (hB:0<B) (hc:BdN c r):∀ l:List Rat,(∀ q ∈ l,OvB B W q)->OvB (B*r.den ^ l.length) (W+(c+1)*l.length) (evQ r l)
 | [],_=>OvB.zero _ _
 | q :: l,h=>by
  have ih:=bm9 hB hc l λx hx=>h x (q0b _ hx)
  have dp:=r.den_pos
  have d1:r.den ^ (l.length+1)<2 ^ (c*(l.length+1)):=by
   rw [g0k]
   exact Nat.pow_lt_pow_left hc.d (by lia)
  have h1:=(h q q0c).up hB (C:=r.den ^ (l.length+1)) (c:=c*(l.length+1)) (u0p dp) d1
  have h2:=hc.ovb.mul ih
  rw [show r.den*(B*r.den ^ l.length)=B*r.den ^ (l.length+1) by rw [v0j];grind] at h2
  show OvB (B*r.den ^ (l.length+1)) (W+(c+1)*(l.length+1)) (q+r*evQ r l)
  have e:W+(c+1)*(l.length+1)=(W+(c+1)*l.length+c)+1:=by rw [m0g];lia
  rw [e]
  refine OvB.add (j0s hB (u0p dp)) (h1.mono ?_) (h2.mono ?_)
  ·rw [m0g,m0h];lia
  ·lia
def ay8 (K:q0a):Sp:=λvs H Q _ => ∃ (a:Addr) (x:V) (xs:List V) (qs:List Rat) (r:Rat) (B W c b:Nat),vs=[.ref a,x]/\SqL K H a xs/\v3 H xs qs/\(∀ q ∈ qs,OvB B W q)/\0<B/\B<2 ^ b/\Num K H x r/\BdN c r/\qs.length<=20/\b+c*(qs.length+1)+c+b<=6000/\W+(c+1)*(qs.length+1)<=20000/\aI8 H Q (evQ r qs)
abbrev Q8:Stmt:=top 63
theorem O1:i7 ["_law_p","_law_x","_law_found","_law_number_here"] ["_law_p","_law_x"] (c6 Q8):=by and_intros
theorem ax0 {f fp ft:Addr} (d:Df K mg "_law_worth" Q8 ["_law_p","_law_x"] f) (G__law_plus:Def P w K mg base CX0 2 "_law_plus" fp ["_law_one","_law_other_here"] (P6 K (· + ·))) (G__law_times:Def P w K mg base CX0 2 "_law_times" ft ["_law_one","_law_other_here"] (P6 K (· * ·))) (n_reversed:mg "reversed" = none):Def P w K mg base CX0 3 "_law_worth" f ["_law_p","_law_x"] (ay8 K):=by
 refine d.ok (N:=["_law_p","_law_x","_law_found","_law_number_here"]) O1 (by rintro vs H Q E ⟨_,_,_,_,_,_,_,_,_,h,_⟩;rw [h];rfl) (λcdv A outer s H vs Q E hr h=>?_)
 obtain ⟨a,x,xs,qs,r,B,W,c,b,rfl,hS,hN,hq,hB,hb,⟨ax,rfl,hx⟩,hc,l20,hD,hT,k⟩:=h
 refine ⟨_,(b9 (d8 (i:=2) O1.nd rfl (z0d rfl) (q8 (a7 b7 (a7 b7 a9))))
   (b9 (K3 PassesOwn.never rfl (bi0 rfl n_reversed (a7 (pv 0) a9)) (i3 (i:=3) O1.nd rfl (z0d rfl)) (c5 (d8 (i:=2) O1.nd rfl (z0d rfl) (d5 G__law_plus hr (a7 (d5 G__law_times hr (a7 (pv 2) (a7 (pv 1) a9)) i5) (a7 (pv 3) a9)) i5))))
   (c5 (i8 (pv 2))))),?_⟩
 rw [show start ["_law_p","_law_x","_law_found","_law_number_here"] [.ref a,.ref ax]=[some (.ref a),some (.ref ax),none,none] from rfl]
 subst_eqs
 have hxl:=hN.length
 have dp:=r.den_pos
 refine ⟨v4,λp0 hp0=>?_⟩
 have S0:=c7.new hp0 (.tup [.int 0,.int 1])
 refine ⟨_,rfl,a,_,rfl,S0.seq hS,aW9 (xs:=xs) (λi σ H1 => ∃ p o,σ=[some (.ref a),some (.ref ax),some (.ref p),o]/\c7 H H1/\H1 p=some (.tup (t7 (evQ r (qs.drop (qs.length-i)))))) ⟨p0,_,rfl,S0,by rw [c4,u0w,List.drop_length];rfl⟩ (by rintro i σ H1 _ ⟨_,_,_,s1,_⟩;exact s1.seq hS) ?_ ?_⟩
 ·rintro i y σ H1 hi hy ⟨p,o,rfl,s1,e1⟩
  obtain ⟨py,q,rfl,hqy,hpy⟩:=hN.getV hy
  have hqm:=hq q (q0p hqy)
  rw [hxl] at hqy hi
  have et:qs.drop (qs.length-(i+1))=q :: qs.drop (qs.length-i):=by
   have h1:qs.length-(i+1)<qs.length:=by lia
   rw [m0y h1,show qs.length-(i+1)+1=qs.length-i by lia]
   congr 1
   have hq':qs[qs.length-(i+1)]? = some q:=by rw [show qs.length-(i+1)=qs.length-1-i by lia];exact hqy
   exact (q0g.mp hq').2
  have ld:(qs.drop (qs.length-i)).length=i:=by rw [q1a];lia
  have o0:=bm9 hB hc (qs.drop (qs.length-i)) λx hx=>hq x (z1n hx)
  rw [ld] at o0
  have hdi:r.den ^ i<2 ^ (c*qs.length+1):=by
   have h1:r.den ^ i<=(2 ^ c) ^ i:=u0r (y0p hc.d) i
   rw [<- g0k] at h1
   have h2:c*i<=c*qs.length:=y0m _ (by exact Nat.le_of_lt ‹_›)
   exact q0v (z0v h1 (c9 h2)) (z1m (by decide) (by simp))
  have hBd:B*r.den ^ i<2 ^ (b+(c*qs.length+1)):=by rw [y0e];exact j0w hb hdi
  have ci:(c+1)*i<=(c+1)*qs.length:=y0m _ ⋯
  rw [m0g] at hD hT
  have bt0:BtN (b+(c*qs.length+1)) (evQ r (qs.drop (qs.length-i))):=o0.bt (j0s hB (u0p dp)) hBd (by lia)
  have bt1:BtN (b+(c*qs.length+1)+c) (evQ r (qs.drop (qs.length-i))*r):=(o0.mul hc.ovb).bt (j0s (j0s hB (u0p dp)) dp) (by rw [y0e];exact j0w hBd hc.d) (by lia)
  have bq:BtN b q:=hqm.bt hB hb (by lia)
  subst_eqs
  have e9:evQ r (qs.drop (qs.length-i))*r+q=evQ r (qs.drop (qs.length-(i+1))):=by rw [et,evQ];grind
  have c1:1<=c:=by
   have:=hc.d
   rcases v0k c with z | z
   ·rw [z] at this;lia
   ·exact z
  refine ⟨_,_,_,_,_,c,rfl,⟨p,rfl,SqT.of e1⟩,⟨ax,rfl,s1.tup hx⟩,bt0,hc.t (by lia),by lia,λp1 H2 s2 e2=>?_⟩
  refine ⟨_,_,_,_,_,b,rfl,⟨p1,rfl,SqT.of e2⟩,⟨py,rfl,SqT.of (s2 _ _ (s1 _ _ hpy))⟩,bt1,bq,by lia,λp2 H3 s3 e3=>?_⟩
  have hres:H3 p2=some (.tup (t7 (evQ r (qs.drop (qs.length-(i+1)))))):=by
   rw [e3]
   show some (HO.tup (t7 (evQ r (qs.drop (qs.length-i))*r+q)))=_
   rw [e9]
  first
   | exact ⟨p2,rfl,s1.trans (s2.trans s3),hres⟩
   | exact ⟨s1.trans (s2.trans s3),p2,rfl,hres⟩
   | exact ⟨p2,s1.trans (s2.trans s3),hres⟩
   | exact ⟨_,p2,rfl,s1.trans (s2.trans s3),hres⟩
   | exact ⟨p2,⟨_,rfl⟩,s1.trans (s2.trans s3),hres⟩
 ·rintro σ H1 ⟨p,o,rfl,s1,e1⟩
  rw [hxl,u0x,List.drop_zero] at e1
  subst_eqs
  exact k p H1 s1 e1
open PySem L2 PyProof.Rows PyProof
theorem bt9 {p q:Rat} (h:t7 p=t7 q):p=q:=by
 unfold t7 at h
 simp only [List.cons.injEq,V.int.injEq,and_true] at h
 exact Rat.ext h.1 (by have:=h.2;lia)
open Classical in
noncomputable def inE (H:Hp) (L0:List Rat):Value->Bool
 | .ref t=>decide (∃ xs,H t=some (.lst xs)/\v3 H xs L0)
 | _=>false
open PySem L2 PyProof.Rows PyProof
def bO3 (K:q0a):R2:=λx y H Q => ∃ px q0 p xs qs,x=.ref px/\H px=some (.tup (t7 q0))/\y=.ref p/\SqL K H p xs/\v3 H xs qs/\Q (.bl (qs.any λq=>decide (q=q0))) H
open Classical in
noncomputable def inT (H:Hp) (q0:Rat):Value->Bool
 | .ref t=>decide (H t=some (.tup (t7 q0)))
 | _=>false
theorem bl3 {H:Hp} {q0 q:Rat} {t:Addr} (e:H t=some (.tup (t7 q))):inT H q0 (.ref t)=decide (q=q0):=by
 unfold inT
 rw [decide_eq_decide]
 refine ⟨λh=>?_,λh=>by rw [<- h];exact e⟩
 rw [e] at h
 injection h with h
 injection h with h
 exact bt9 h
theorem aY4 {H:Hp} {q0:Rat}:∀ {xs:List V} {qs:List Rat} {us:List Value},v3 H xs qs->n5 xs us->us.any (inT H q0)=qs.any λq=>decide (q=q0)
 | _,_,_,.nil,.nil=>rfl
 | _,_,_,.cons e t,.cons r rr=>by
  cases (show _=Value.ref _ from r)
  rw [List.any_cons,List.any_cons,bl3 e,aY4 t rr]
theorem bE4 {X:Cx} (hu:X.A.units+64<cLine):OpR X (compareOp .In) (bO3 X.K):=by
 intro pins s σ H x y v u Q I rx ry h
 obtain ⟨px,q0,p,xs,qs,rfl,e0,rfl,hq,hN,q⟩:=h
 cases ry
 cases (show v=Value.ref px from rx)
 obtain ⟨its,r,pl,hz⟩:=I.list hq
 refine SeqAt.in_listAt (inT H q0) pl.isList (λw hw=>?_) ⟨.bl _,H,I,rfl,?_⟩
 ·have key:∀ {xs:List V} {qs:List Rat} {us:List Value},v3 H xs qs->n5 xs us->w ∈ us->∃ t q,w=.ref t/\H t=some (.tup (t7 q)):=fun {xs qs us} R V' hw=>by
   induction R generalizing us with
   | nil=>cases V';cases hw
   | cons e t ih =>
    cases V' with
    | cons r rr =>
     rcases z0a.mp hw with z | z
     ·rw [z]
      cases (show _=Value.ref _ from r)
      exact ⟨_,_,rfl,e⟩
     ·exact ih rr z
  obtain ⟨t,q',rfl,e⟩:=key hN r (by simpa using hw)
  rw [bl3 e]
  have:=bn6 (A:=X.A.in1) I (T8 (SqT.of e)) (T8 (SqT.of e0)) (aG2 _ _) (u:=.ref t) (v:=.ref px) rfl rfl (by
   have:=bn9 q'
   show X.A.units+1+_<_
   lia)
  rw [aN0] at this
  exact this
 ·rw [show its.toArray.any (inT H q0)=its.any (inT H q0) by simp,aY4 hN r]
  exact q
def ag0 (j i:Nat):List V:=[V.bl (decide (j=i)),V.bl (decide (j=i+1)),V.bl (decide (j=i+2)),V.bl (decide (j=i+3))]
abbrev S7:Stmt:=top 66
theorem F5:i7 ["_law_e","_law_told","_law_names"] ["_law_e"] (c6 S7):=by and_intros
theorem ax2 {a:CAd} {f:Addr} (d:Df K mg "_law_which" S7 ["_law_e"] f) (X:XTx K mg a) (n_isinstance:mg "isinstance" = none) (n_ValueError:mg "ValueError" = none):bx5 P w K mg base 1 "_law_which" f ["_law_e"] (aD4 K a):=by
  obtain ⟨x_NoFraction,x_NoPolynomial,x_NoStretch,x_NoRow,x_NoPair,x_NoBack,x_NoForm,x_NoParts,x_NoDegree,x_NoSteps,x_NoBox,x_NoGain,x_NoText,x_NoLine,x_NoName,x_NoDeed⟩:=X
  refine d.okX (N:=["_law_e","_law_told","_law_names"]) F5 (λvs H Q E ⟨u,q,j,h,_⟩=>by rw [h];rfl) (λcdv A outer s H vs Q E hr h=>?_)
  obtain ⟨e,C,j,rfl,kt,hj,he,k⟩:=h
  refine ⟨_, (b9 (d8 (i := 1) F5.nd rfl (Or.inl rfl) (z8 (a7 (d9 j8 rfl n_isinstance (by decide +kernel) (a7 (pv 0) (a7 (B5 (v := .ref _) rfl x_NoFraction.m rfl) a9))) (a7 (d9 j8 rfl n_isinstance (by decide +kernel) (a7 (pv 0) (a7 (B5 (v := .ref _) rfl x_NoPolynomial.m rfl) a9))) (a7 (d9 j8 rfl n_isinstance (by decide +kernel) (a7 (pv 0) (a7 (B5 (v := .ref _) rfl x_NoStretch.m rfl) a9))) (a7 (d9 j8 rfl n_isinstance (by decide +kernel) (a7 (pv 0) (a7 (B5 (v := .ref _) rfl x_NoRow.m rfl) a9))) a9))))))
      (b9 (d8 (i:=1) F5.nd rfl (Or.inl rfl) (d7 as6 (pv 1) (z8 (a7 (d9 j8 rfl n_isinstance (by trivial) (a7 (pv 0) (a7 (B5 (v:=.ref _) rfl x_NoPair.m rfl) a9))) (a7 (d9 j8 rfl n_isinstance (by trivial) (a7 (pv 0) (a7 (B5 (v:=.ref _) rfl x_NoBack.m rfl) a9))) (a7 (d9 j8 rfl n_isinstance (by trivial) (a7 (pv 0) (a7 (B5 (v:=.ref _) rfl x_NoForm.m rfl) a9))) (a7 (d9 j8 rfl n_isinstance (by trivial) (a7 (pv 0) (a7 (B5 (v:=.ref _) rfl x_NoParts.m rfl) a9))) a9)))))))
      (b9 (d8 (i:=1) F5.nd rfl (Or.inl rfl) (d7 as6 (pv 1) (z8 (a7 (d9 j8 rfl n_isinstance (by trivial) (a7 (pv 0) (a7 (B5 (v:=.ref _) rfl x_NoDegree.m rfl) a9))) (a7 (d9 j8 rfl n_isinstance (by trivial) (a7 (pv 0) (a7 (B5 (v:=.ref _) rfl x_NoSteps.m rfl) a9))) (a7 (d9 j8 rfl n_isinstance (by trivial) (a7 (pv 0) (a7 (B5 (v:=.ref _) rfl x_NoBox.m rfl) a9))) (a7 (d9 j8 rfl n_isinstance (by trivial) (a7 (pv 0) (a7 (B5 (v:=.ref _) rfl x_NoGain.m rfl) a9))) a9)))))))
      (b9 (d8 (i:=1) F5.nd rfl (Or.inl rfl) (d7 as6 (pv 1) (z8 (a7 (d9 j8 rfl n_isinstance (by trivial) (a7 (pv 0) (a7 (B5 (v:=.ref _) rfl x_NoText.m rfl) a9))) (a7 (d9 j8 rfl n_isinstance (by trivial) (a7 (pv 0) (a7 (B5 (v:=.ref _) rfl x_NoLine.m rfl) a9))) (a7 (d9 j8 rfl n_isinstance (by trivial) (a7 (pv 0) (a7 (B5 (v:=.ref _) rfl x_NoName.m rfl) a9))) (a7 (d9 j8 rfl n_isinstance (by trivial) (a7 (pv 0) (a7 (B5 (v:=.ref _) rfl x_NoDeed.m rfl) a9))) a9)))))))
      (b9 (d8 (i:=2) F5.nd rfl (Or.inl rfl) Y4)
      (b9 (B0 (PW.pt (aa9 (j3 aA3 (an5 PySem.F.plainAttrs_list PySem.F.slot_list_count PySem.F.type_list_count bj8 (pv 1) (a7 ab0 a9)) b7 (j7 _)) (ac5 (P7 (M1 (d9 j8 rfl n_isinstance (by trivial) (a7 (pv 0) (a7 (af1 (v:=.ty "ValueError") rfl n_ValueError (by trivial) rfl) a9)))))))) (c5 (i8 Y4)) p9)
      (c5 (i8 (j4 v1 (an5 PySem.F.plainAttrs_str PySem.F.slot_str_split PySem.F.type_str_split bj5 (pv 2) (a7 Y4 a9)) (an5 PySem.F.plainAttrs_list PySem.F.slot_list_index PySem.F.type_list_index bj7 (pv 1) (a7 ab0 a9)) (λ_ _=>rfl)))))))))),?_⟩
  rw [show start ["_law_e","_law_told","_law_names"] [.ref e]=[some (.ref e),none,none] from rfl]
  have ty:∀ {H':Hp},c7 H H'->TyX K H' (.ref e) (.ref C):=λsm=>.exc (sm _ _ he) kt.ec
  refine d6 (λσ H1 => ∃ l,σ=[some (.ref e),some (.ref l),none]/\c7 H H1/\H1 l=some (.lst (ag0 j 0))) (λN hN=>?_) ?_
  · subst_eqs
    exact ⟨trivial,_,ty (c7.refl _),_,kt.k_NoFraction,trivial,_,ty (c7.refl _),_,kt.k_NoPolynomial,trivial,_,ty (c7.refl _),_,kt.k_NoStretch,trivial,_,ty (c7.refl _),_,kt.k_NoRow,by decide,λl h=>hN _ _ ⟨l,rfl,c7.new h _,c4⟩⟩
  rintro σ H1 ⟨l1,rfl,sA1,eA1⟩
  refine d6 (λσ H2 => ∃ l,σ=[some (.ref e),some (.ref l),none]/\c7 H H2/\H2 l=some (.lst (ag0 j 0 ++ ag0 j 4))) (λN hN=>?_) ?_
  · subst_eqs
    exact ⟨trivial,_,ty sA1,_,kt.k_NoPair,trivial,_,ty sA1,_,kt.k_NoBack,trivial,_,ty sA1,_,kt.k_NoForm,trivial,_,ty sA1,_,kt.k_NoParts,by decide,λp hp=>⟨_,(g8 (g7 eA1 hp)).trans eA1,_,c4,(show (8:Nat)<=sizeLine from by decide),λl h=>hN _ _ ⟨l,rfl,(sA1.trans (c7.new hp _)).trans (c7.new h _),c4⟩⟩⟩
  rintro σ H2 ⟨l2,rfl,sA2,eA2⟩
  refine d6 (λσ H2 => ∃ l,σ=[some (.ref e),some (.ref l),none]/\c7 H H2/\H2 l=some (.lst (ag0 j 0 ++ ag0 j 4 ++ ag0 j 8))) (λN hN=>?_) ?_
  · subst_eqs
    exact ⟨trivial,_,ty sA2,_,kt.k_NoDegree,trivial,_,ty sA2,_,kt.k_NoSteps,trivial,_,ty sA2,_,kt.k_NoBox,trivial,_,ty sA2,_,kt.k_NoGain,by decide,λp hp=>⟨_,(g8 (g7 eA2 hp)).trans eA2,_,c4,(show (12:Nat)<=sizeLine from by decide),λl h=>hN _ _ ⟨l,rfl,(sA2.trans (c7.new hp _)).trans (c7.new h _),c4⟩⟩⟩
  rintro σ H3 ⟨l3,rfl,sA3,eA3⟩
  refine d6 (λσ H2 => ∃ l,σ=[some (.ref e),some (.ref l),none]/\c7 H H2/\H2 l=some (.lst (ag0 j 0 ++ ag0 j 4 ++ ag0 j 8 ++ ag0 j 12))) (λN hN=>?_) ?_
  · subst_eqs
    exact ⟨trivial,_,ty sA3,_,kt.k_NoText,trivial,_,ty sA3,_,kt.k_NoLine,trivial,_,ty sA3,_,kt.k_NoName,trivial,_,ty sA3,_,kt.k_NoDeed,by decide,λp hp=>⟨_,(g8 (g7 eA3 hp)).trans eA3,_,c4,(show (16:Nat)<=sizeLine from by decide),λl h=>hN _ _ ⟨l,rfl,(sA3.trans (c7.new hp _)).trans (c7.new h _),c4⟩⟩⟩
  rintro σ H4 ⟨l4,rfl,sA4,eA4⟩
  have eT:H4 l4=some (.lst (told j)):=eA4
  clear eA4
  subst_eqs
  refine ⟨.inl ⟨_,SqL.of eT⟩,_,eT,rfl,ay3 j hj,rfl,?_⟩
  rw [aO2 j hj]
  refine B1 (λhh=>absurd rfl hh) (λ_=>?_)
  refine ⟨trivial,_,ty sA4,_,kt.kV,?_⟩
  refine B1 (λhh=>absurd hh (by decide)) (λ_=>?_)
  refine ⟨by trivial,by trivial,by trivial,by trivial,by rw [an6];decide,λl hl=>?_⟩
  have eT':(upd H4 l (.lst ((af2 "fraction polynomial stretch row pair back form parts degree steps box gain text line name deed" " ").map V.str))) l4=some (.lst (told j)):=(g8 (g7 eT hl)).trans eT
  refine ⟨.inl ⟨_,SqL.of eT'⟩,_,eT',rfl,ay3 j hj,_,be5 j hj,_,SqL.of c4,_,bu0 hj,?_⟩
  exact k _ (sA4.trans (c7.new hl _))
theorem Sts.get {H:Hp}:∀ {vs:List V} {fs:List (Rat × Rat)} {i:Nat} {v:V},Sts H vs fs->vs[i]? = some v->∃ p pl ph x,v=.ref p/\fs[i]? = some x/\H p=some (.tup [.ref pl,.ref ph])/\H pl=some (.tup (t7 x.1))/\H ph=some (.tup (t7 x.2))
 | _,_,_,_,.nil,e=>by simp at e
 | _,_,0,_,.cons a b c _,ev=>by cases ev;exact ⟨_,_,_,_,rfl,rfl,a,b,c⟩
 | _,_,i+1,_,.cons _ _ _ t,ev=>t.get (i:=i) (by simpa using ev)
def dSt (x:Rat × Rat):D:=.tup [N8 x.1,N8 x.2]
theorem Sts.isDs {K:q0a} {H:Hp} {vs:List V} {fs:List (Rat × Rat)} (h:Sts H vs fs):ae2 K H vs (fs.map dSt):=by
 induction h with
 | nil=>exact .nil
 | cons a b c _ ih=>exact .cons (.tup (SqT.of a) (.cons (T8 (SqT.of b)) (.cons (T8 (SqT.of c)) .nil))) ih
def by4 (K:q0a):Sp:=λvs H Q _ => ∃ (lp lr lf:Addr) (xs ts ws:List V) (ps:List Rat) (rs:List Rtu) (L:List (Fp × Nat)) (few:Nat) (ap:Bool) (fs:List (Rat × Rat)) (x:Rat),vs=[.ref lp,.ref lr,.ref lf]/\H lp=some (.lst xs)/\v3 H xs ps/\H lr=some (.lst ts)/\Rts H ts rs/\H lf=some (.lst ws)/\Sts H ws fs/\fs.length=rs.length/\Drn ps L rs few ap/\ps.length<=9/\Fnd rs (λc=>aw L c ≠ 0) fs x/\∀ H',c7 H H'->Q (.bl true) H'
abbrev w4:Stmt:=top 69
theorem y7:i7 ["_law_p","_law_roots","_law_found","_law_last","_law_one","_law_root"] ["_law_p","_law_roots","_law_found"] (c6 w4):=by and_intros
theorem ab6 {f f1 f2 f3 f4:Addr} (d:Df K mg "_law_are_stretches" w4 ["_law_p","_law_roots","_law_found"] f) (G__law_is_number:Def P w K mg base CX0 2 "_law_is_number" f1 ["_law_thing"] (aU6 K)) (G__law_below:Def P w K mg base CX0 1 "_law_below" f2 ["_law_one","_law_other_here"] (aD7 K)) (G__law_worth:Def P w K mg base CX0 3 "_law_worth" f3 ["_law_p","_law_x"] (ay8 K)) (G__law_side:Def P w K mg base CX0 3 "_law_side" f4 ["_law_c","_law_root"] (bf6 K)) (n_isinstance:mg "isinstance" = none) (n_list:mg "list" = none) (n_tuple:mg "tuple" = none) (n_len:mg "len" = none) (n_zip:mg "zip" = none) (n_all:mg "all" = none):Def P w K mg base CX0 4 "_law_are_stretches" f ["_law_p","_law_roots","_law_found"] (by4 K):=by
  refine d.ok (N:=["_law_p","_law_roots","_law_found","_law_last","_law_one","_law_root"]) y7 (by rintro vs H Q E ⟨_,_,_,_,_,_,_,_,_,_,_,_,_,h,_⟩;rw [h];rfl) (λcdv A outer s H vs Q E hr h=>?_)
  obtain ⟨lp,lr,lf,xs,ts,ws,ps,rs,L,few,ap,fs,x,rfl,ep,np,er,hR,ef,st,lfs,Dr,l9,fnd,k⟩:=h
  have hu:=hr.units
  refine ⟨_, (b9 (B0 (PW.pt (aa9 (P7 (M1 (d9 j8 rfl n_isinstance (by decide +kernel) (a7 (pv 2) (a7 (af1 (v := .ty "list") rfl n_list (by decide +kernel) rfl) a9))))) (ac5 (j3 aA3 (d9 j5 rfl n_len (by decide +kernel) (a7 (pv 2) a9)) (d9 j5 rfl n_len (by decide +kernel) (a7 (pv 1) a9)) (j7 _))))) (c5 (i8 ab0)) p9)
      (b9 (d8 (i:=3) y7.nd rfl (Or.inl rfl) aF3)
      (b9 (K3 PassesOwn.never rfl (bD8 rfl n_zip (a7 (pv 2) (a7 (pv 1) a9))) (show PG _ _ (af8 K 2 (A8 (t8 4) (A8 (t8 5) af9))) from by (refine N5 (n:=2) ?_ ?_ ?_ ?_;rfl;(refine k7 ?_ ?_ ?_;(exact (i3 (i:=4) y7.nd rfl (Or.inl rfl)));(refine k7 ?_ ?_ ?_;(exact (i3 (i:=5) y7.nd rfl (Or.inl rfl)));(exact G8);rfl);rfl);rfl;rfl)) (b9 (B0 (PW.pt (aa9 (P7 (M1 (d9 j8 rfl n_isinstance (by trivial) (a7 (pv 4) (a7 (af1 (v:=.ty "tuple") rfl n_tuple (by trivial) rfl) a9))))) (aa9 (j3 aA3 (d9 j5 rfl n_len (by trivial) (a7 (pv 4) a9)) b7 (j7 _)) (ac5 (P7 (M1 (d9 (bp5 rfl) rfl n_all (by trivial) (a7 (M2 (Nc:=["_law_end"]) (caps:=[none]) rfl (Y7.of (osc:=c6 w4) (N:=["_law_p","_law_roots","_law_found","_law_last","_law_one","_law_root"]) (ks:=[]) rfl rfl rfl rfl D5 (by trivial)) (bh9 (pv 4)) (λC s₂ H₂ fp pins=>(i3 (i:=0) (show List.Nodup (["_law_end"]:List Str) by trivial) rfl (Or.inl rfl) (Or.inr rfl))) (λC s₂ H₂ fp pins=>(d5 G__law_is_number hr (a7 (pv 0) a9) i5))) a9)))))))) (c5 (i8 ab0)) p9)
      (b9 (B0 (PW.pt (ak9 (j3 aV7 (pv 3) aF3 (j7 _)) (ae8 (M1 (d5 G__law_below hr (a7 (j4 m6 (pv 4) b7 (λ_ _=>rfl)) (a7 (pv 3) a9)) i5))))) (c5 (i8 ab0)) p9)
      (b9 (B0 (PW.pt (aa9 (j3 (bE4 hu) (q8 (a7 b7 (a7 b7 a9))) (M2 (Nc:=["_law_p","_law_end"]) (caps:=[some 0,none]) rfl (Y7.of (osc:=c6 w4) (N:=["_law_p","_law_roots","_law_found","_law_last","_law_one","_law_root"]) (ks:=["_law_p"]) rfl rfl rfl rfl (C5 rfl D5) (by trivial)) (bh9 (pv 4)) (λC s₂ H₂ fp pins=>(i3 (i:=1) (show List.Nodup (["_law_p","_law_end"]:List Str) by trivial) rfl (Or.inl rfl) (Or.inr rfl))) (λC s₂ H₂ fp pins=>(d5 G__law_worth hr (a7 (pv 0) (a7 (pv 1) a9)) i5))) rfl) (ac5 (P7 (bh0 ag5 ag5 (d5 G__law_side hr (a7 (j4 m6 (pv 4) b7 (λ_ _=>rfl)) (a7 (pv 5) a9)) i5) b7 (d5 G__law_side hr (a7 (j4 m6 (pv 4) b7 (λ_ _=>rfl)) (a7 (pv 5) a9)) i5)))))) (c5 (i8 ab0)) p9)
      (c5 (d8 (i:=3) y7.nd rfl (Or.inl rfl) (j4 m6 (pv 4) b7 (λ_ _=>rfl))))))))
      (c5 (i8 ab0))))),?_⟩
  rw [show start ["_law_p","_law_roots","_law_found","_law_last","_law_one","_law_root"] [.ref lp,.ref lr,.ref lf]=[some (.ref lp),some (.ref lr),some (.ref lf),none,none,none] from rfl]
  have lts:=hR.length
  have lws:=st.length
  have idf:IsD K H (.ref lf) (.lst (fs.map dSt)):=.lst (SqL.of ef) st.isDs
  have RS:=Dr.rsp
  have hv:∀ r ∈ rs,r.o=0 \/ ((r.o=1 \/ r.o=-1)/\0<r.v):=λr h=>(Dr.ro r h).2.2
  have l8:rs.length<=8:=by have:=Dr.ln;lia
  refine d6 (λσ H1=>σ=[some (.ref lp),some (.ref lr),some (.ref lf),none,none,none]/\H1=H) (λN hN=>?_) ?_
  · subst_eqs
    refine ⟨trivial,_,idf.ty,_,aR0 idf,B1 (λh=>by cases h) (λ_=>⟨_,.inl (SqL.of ef),_,.inl (SqL.of er),rfl,B1 (λh=>absurd (by rw [lws,lts,lfs]) h) (λ_=>hN _ _ ⟨rfl,rfl⟩)⟩)⟩
  rintro σ H1 ⟨rfl,rfl⟩
  refine d6 (λσ H2=>σ=[some (.ref lp),some (.ref lr),some (.ref lf),some .non,none,none]/\H2=H1) (λN hN=>?_) ?_
  · subst_eqs
    exact hN _ _ ⟨rfl,rfl⟩
  rintro σ H2 ⟨rfl,rfl⟩
  obtain ⟨I,hI⟩:∃ I:Nat->L2.St->Hp->Prop,∀ i σ H3,I i σ H3 ↔ ∃ (v:V) (o4 o5:Option V),σ=[some (.ref lp),some (.ref lr),some (.ref lf),some v,o4,o5]/\c7 H2 H3/\((i=0/\v=.non) \/ ∃ j y,i=j+1/\fs[j]? = some y/\∃ b,v=.ref b/\H3 b=some (.tup (t7 y.2))):=⟨_,λ_ _ _=>Iff.rfl⟩
  refine d6 (λσ H3 => ∃ i,I i σ H3) (λN hN=>?_) ?_
  · refine ⟨_,rfl,_,rfl,_,_,rfl,⟨_,SqL.of ef⟩,⟨_,SqL.of er⟩,bv2 ws ts I ((hI _ _ _).mpr ⟨_,_,_,rfl,c7.refl _,.inl ⟨rfl,rfl⟩⟩) ?_ ?_ ?_⟩
    · intro i σ H3 h3
      obtain ⟨_,_,_,_,s3,_⟩:=(hI _ _ _).mp h3
      exact ⟨SqL.of (s3 _ _ ef),SqL.of (s3 _ _ er)⟩
    · intro i x' y σ H3 p hx hy h3 hp
      obtain ⟨v,o4,o5,rfl,s3,hv3⟩:=(hI _ _ _).mp h3
      have hi:=(List.getElem?_eq_some_iff.mp hx).1
      obtain ⟨pt,pl,ph,z,rfl,ez,ept,epl,eph⟩:=(st.mono s3.tups).get hx
      obtain ⟨r,er',rm,ra⟩:=hR.mem hy
      have ra3:=ra.mono s3.tups
      have fo:=fnd.ok i z ez
      have sd:=fo.side RS hv er'
      have rO:=Dr.ro r rm
      obtain ⟨HA,yA,XA,gA⟩:=nw2 (.tup [.ref pt,y]) hp
      rw [yA]
      refine ⟨p,_,rfl,SqT.of gA,rfl,_,_,rfl,_,_,rfl,rfl,?_⟩
      simp only [List.set_cons_zero,List.set_cons_succ]
      have sA:=s3.trans XA
      have eptA:=XA _ _ ept
      have eplA:=XA _ _ epl
      have ephA:=XA _ _ eph
      have idt:IsD K HA (.ref pt) (dSt z):=.tup (SqT.of eptA) (.cons (T8 (SqT.of eplA)) (.cons (T8 (SqT.of ephA)) .nil))
      refine d6 (λσ HB=>σ=[some (.ref lp),some (.ref lr),some (.ref lf),some v,some (.ref pt),some y]/\c7 HA HB) (λN hN=>?_) ?_
      · subst_eqs
        refine ⟨trivial,_,idt.ty,_,aM1 idt,B1 (λh=>by cases h) (λ_=>⟨_,.inr (SqT.of eptA),rfl,B1 (λh=>absurd rfl h) (λ_=>?_)⟩)⟩
        refine ⟨⟨_,SqT.of eptA⟩,λD hD=>bo2 [.ref pl,.ref ph] (λj σ HB=>(∃ o,σ=[o])/\c7 HA HB/\HB D=some (.lst (List.replicate j (.bl true)))) ⟨⟨_,rfl⟩,c7.new hD _,c4⟩ (λj σ HB _ h=>SqT.of (h.2.1 _ _ eptA)) ?_ ?_⟩
        · rintro j x1 σ HB hx1 ⟨⟨o,rfl⟩,sB,eD⟩
          have hj:=(List.getElem?_eq_some_iff.mp hx1).1
          obtain ⟨px,qx,rfl,epx,bx⟩:∃ px qx,x1=.ref px/\HA px=some (.tup (t7 qx))/\BdN 400 qx:=by
            match j,hj,hx1 with
            | 0,_,e=>cases e;exact ⟨pl,_,rfl,eplA,fo.b1⟩
            | 1,_,e=>cases e;exact ⟨ph,_,rfl,ephA,fo.b2⟩
          subst_eqs
          refine ⟨_,qx,rfl,⟨px,rfl,SqT.of (sB _ _ epx)⟩,by rw [Int.natAbs_natCast];exact Nat.lt_of_lt_of_le bx.d (c9 (by decide)),λHC sC=>G0.mk hj (sC _ _ eD) (by rw [List.length_replicate];exact N6 (by simp only [List.length_cons,List.length_nil] at hj;lia)) ⟨⟨_,rfl⟩,(sB.trans sC).over hD _,?_⟩⟩
          rw [c4,List.replicate_succ']
        · rintro σ HB ⟨⟨o,rfl⟩,sB,eD⟩
          exact ⟨D,rfl,[true,true],SqL.of eD,B1 (λh=>by cases h) (λ_=>hN _ _ ⟨rfl,sB⟩)⟩
      rintro σ HB ⟨rfl,sB⟩
      have eptB:=sB _ _ eptA
      have eplB:=sB _ _ eplA
      have ephB:=sB _ _ ephA
      refine d6 (λσ HC=>σ=[some (.ref lp),some (.ref lr),some (.ref lf),some v,some (.ref pt),some y]/\HC=HB) (λN hN=>?_) ?_
      · subst_eqs
        rcases hv3 with ⟨_,rfl⟩ | ⟨j,w',rfl,ew,b,rfl,eb⟩
        · rw [if_neg (by simp)]
          exact hN _ _ ⟨rfl,rfl⟩
        · rw [if_pos (by simp)]
          have up:=fnd.up j w' z ew ez
          have bw:=(fnd.ok j w' ew).b2
          refine ⟨_,SqT.of eptB,_,rfl,_,_,z.1,w'.2,rfl,⟨pl,rfl,SqT.of eplB⟩,⟨b,rfl,SqT.of (sB _ _ (XA _ _ eb))⟩,fo.b1.mono (by decide),bw.mono (by decide),_,rfl,B1 (λh=>?_) (λ_=>hN _ _ ⟨rfl,rfl⟩)⟩
          have:=of_decide_eq_true h
          grind
      rintro σ HC ⟨rfl,rfl⟩
      have S2C:=sA.trans sB
      obtain ⟨k0,n,hp'⟩:=Dr.ex
      have lps:=hp'.len
      obtain ⟨Bm,hBm,bBm,ov⟩:=hp'.bits
      have n1:=Dr.nz fo.z1
      have n2:=Dr.nz fo.z2
      refine d6 (λσ HD=>σ=[some (.ref lp),some (.ref lr),some (.ref lf),some v,some (.ref pt),some y]/\c7 HC HD) (λN hN=>?_) ?_
      · subst_eqs
        refine ⟨v4,λp0 hp0=>?_⟩
        obtain ⟨HE,yE,XE,gE⟩:=nw2 (.tup [.int 0,.int 1]) hp0
        rw [yE]
        refine ⟨⟨_,SqT.of (XE _ _ eptB)⟩,λD hD=>bo2 [.ref pl,.ref ph] (λj σ HB=>(∃ o,σ=[some (.ref lp),o])/\c7 HE HB/\∃ zs,HB D=some (.lst zs)/\v3 HB zs ([evQ z.1 ps,evQ z.2 ps].take j)) ⟨⟨_,rfl⟩,c7.new hD _,[],c4,.nil⟩ (λj σ HB _ h=>SqT.of (h.2.1 _ _ (XE _ _ eptB))) ?_ ?_⟩
        · rintro j x1 σ HF hx1 ⟨⟨o,rfl⟩,sF,zs,eD,nz⟩
          have hj:=(List.getElem?_eq_some_iff.mp hx1).1
          have hj2:j<2:=hj
          obtain ⟨px,qx,rfl,epx,bx,tk⟩:∃ px qx,x1=.ref px/\HE px=some (.tup (t7 qx))/\BdN 400 qx/\[evQ z.1 ps,evQ z.2 ps].take (j+1)=[evQ z.1 ps,evQ z.2 ps].take j ++ [evQ qx ps]:=by
            match j,hj,hx1 with
            | 0,_,e=>cases e;exact ⟨pl,_,rfl,XE _ _ eplB,fo.b1,rfl⟩
            | 1,_,e=>cases e;exact ⟨ph,_,rfl,XE _ _ ephB,fo.b2,rfl⟩
          have S2F:=S2C.trans (XE.trans sF)
          have lz:=nz.length
          rw [List.length_take] at lz
          subst_eqs
          refine ⟨lp,_,xs,ps,qx,Bm,_,400,7*n+3,rfl,SqL.of (S2F _ _ ep),np.mono S2F.tups,ov,hBm,bBm,⟨px,rfl,SqT.of (sF _ _ epx)⟩,bx,by lia,by lia,by lia,λr' HG sG eG=>G0.mk hj (sG _ _ eD) (N6 (by lia)) ⟨⟨_,rfl⟩,(sF.trans sG).over hD _,zs ++ [.ref r'],c4,?_⟩⟩
          rw [tk]
          exact ((nz.mono sG.tups).append (.cons eG .nil)).mono (L5.lst (sG _ _ eD))
        · rintro σ HF ⟨⟨o,rfl⟩,sF,zs,eD,nz⟩
          have S2F:=S2C.trans (XE.trans sF)
          refine ⟨p0,0,D,zs,_,rfl,sF _ _ gE,rfl,SqL.of eD,nz,?_⟩
          have an:([evQ z.1 ps,evQ z.2 ps].take [V.ref pl,V.ref ph].length).any (λq=>decide (q=0))=false:=by
            show ([evQ z.1 ps,evQ z.2 ps]).any (λq=>decide (q=0))=false
            simp [n1,n2]
          rw [an]
          refine ⟨_,rfl,B1 (λh=>by cases h) (λ_=>?_)⟩
          have S3F:=XA.trans (sB.trans (XE.trans sF))
          refine ⟨_,SqT.of (S3F _ _ ept),_,rfl,_,z.1,y,r,rfl,⟨pl,rfl,SqT.of (S3F _ _ epl)⟩,ra3.mono S3F.tups,fo.b1.mono (by decide),rO,λHG sG=>⟨_,rfl,B1 (λ_=>?_) (λh=>absurd sd.1 h)⟩⟩
          have S3G:=S3F.trans sG
          exact ⟨_,SqT.of (S3G _ _ ept),_,rfl,_,z.2,y,r,rfl,⟨ph,rfl,SqT.of (S3G _ _ eph)⟩,ra3.mono S3G.tups,fo.b2.mono (by decide),rO,λHH sH=>⟨_,rfl,B1 (λh=>absurd sd.2 h) (λ_=>hN _ _ ⟨rfl,XE.trans (sF.trans (sG.trans sH))⟩)⟩⟩
      rintro σ HD ⟨rfl,sD⟩
      subst_eqs
      exact ⟨_,SqT.of (sD _ _ eptB),_,rfl,(hI _ _ _).mpr ⟨_,_,_,rfl,S2C.trans sD,.inr ⟨i,z,rfl,ez,ph,rfl,sD _ _ ephB⟩⟩⟩
    · intro σ H3 h3
      exact hN _ _ ⟨_,h3⟩
  rintro σ H3 ⟨i,h3⟩
  obtain ⟨v,o4,o5,rfl,s3,_⟩:=(hI _ _ _).mp h3
  subst_eqs
  exact k _ s3
end
end R
set_option maxRecDepth 100000
local macro_rules | `(tactic| simp_wf) => `(tactic| first | rfl | decide | exact .inl rfl | (intro _; rfl))
namespace R
open PySem L2 PyProof.Rows
theorem bd8 (x:Fp) (h:Lm x.f x.n):∀ m,Dg (wP x.f m).f (m*x.n+1)/\(wP x.f m).f (m*x.n)=1
 | 0=>⟨λk hk=>by rw [show wP x.f 0=1 from rfl,B7,if_neg (by lia)],by rw [show wP x.f 0=1 from rfl,B7,if_pos (by simp)]⟩
 | m+1=>by
  obtain ⟨a,b⟩:=bd8 x h m
  rw [show wP x.f (m+1)=x.f*wP x.f m from rfl,show (m+1)*x.n=x.n+m*x.n by rw [m0h,m0f];lia]
  refine ⟨λk hk=>(Dg.cv h.dg a) k (by lia),?_⟩
  have:(x.f*wP x.f m).f (x.n+m*x.n)=x.f.f x.n*(wP x.f m).f (m*x.n):=ad6 h.dg a
  rw [this,bm6,b];trivial
theorem aM7:∀ {L:List (Fp × Nat)},FL L->∃ n,Dg (fP (tfs (L.map rt1))).f (n+1)/\(fP (tfs (L.map rt1))).f n=1
 | [],_=>⟨0,λk hk=>by rw [show fP (tfs (([]:List (Fp × Nat)).map rt1))=1 from rfl,B7,if_neg ⋯],by rw [show fP (tfs (([]:List (Fp × Nat)).map rt1))=1 from rfl,B7,if_pos rfl]⟩
 | x :: r,h=>by
  obtain ⟨n,a,b⟩:=aM7 h.tail
  obtain ⟨c,d⟩:=bd8 x.1 (Fp.rf (h.ok x q0c).1).lm x.2
  refine ⟨x.2*x.1.n+n,λk hk=>(Dg.cv c a) k (by lia),?_⟩
  have:(wP x.1.f x.2*fP (tfs (r.map rt1))).f (x.2*x.1.n+n)=(wP x.1.f x.2).f (x.2*x.1.n)*(fP (tfs (r.map rt1))).f n:=ad6 c a
  show (wP x.1.f x.2*fP (tfs (r.map rt1))).f (x.2*x.1.n+n)=1
  rw [this,d,b];trivial
theorem Drn.last {ps:List Rat} {L:List (Fp × Nat)} {rs:List Rtu} {few:Nat} {ap:Bool} (D:Drn ps L rs few ap):∃ k,N9 k/\k ≠ 0/\ps[ps.length-1]? = some k/\ps ≠ []:=by
 obtain ⟨k,n,hp⟩:=D.ex
 obtain ⟨m,a,b⟩:=aM7 D.fl
 have l1:=hp.mc.lm
 have l2:Lm (fP (tfs (L.map rt1))) m:=⟨a,by rw [b];decide⟩
 have nm:=Y1 l1 l2
 subst nm
 have len:=hp.len
 have e:=congrArg (λz:Pf=>z.f n) hp.e
 have e2:aQ ps n=k*(fP (tfs (L.map rt1))).f n:=e.trans (C4 _ _ _)
 rw [b] at e2
 have lt:n<ps.length:=⋯
 refine ⟨k,hp.k9,hp.k0,?_,λz=>by rw [z] at len;cases len⟩
 rw [show ps.length-1=n by lia,q0d lt]
 unfold aQ at e2
 rw [q0d lt] at e2
 have e3:ps[n]=k*1:=e2
 rw [e3]
 congr 1
 grind
theorem bp7 {xs:List V} {v:V} (h:xs[xs.length-1]? = some v):atI xs (-1)=some v:=by
 have l:=(q0g.mp h).1
 unfold atI ixN
 rw [if_neg (by decide),if_pos (by lia)]
 show xs[_]? = _
 rw [show ((-1:Int)+(xs.length:Int)).toNat=xs.length-1 by lia]
 exact h
theorem aX2:∀ fs:List (Rat × Rat),K9 (fs.map dSt) (fs.map dSt)=true
 | []=>by simp [K9]
 | x :: r=>by
  have:eqD (dSt x) (dSt x)=true:=by simp [dSt,N8,eqD,K9,eqV]
  rw [z0w,K9,this,aX2 r];rfl
theorem bn8:∀ fs:List (Rat × Rat),ah7 (fs.map dSt)<=10
 | []=>by simp [ah7]
 | x :: r=>by
  have:=bn8 r
  have:dpD (dSt x)<=10:=by simp [dSt,N8,dpD,ah7]
  rw [z0w,ah7];lia
theorem bI6 (fs:List (Rat × Rat)):dpD (.lst (fs.map dSt))<=60:=by
 have:=bn8 fs
 rw [dpD];lia
def dTL (fs:List (Rat × Rat)):D:=.tup [.v (.str "told"),.lst (fs.map dSt)]
section
variable {P:Program} {w:World} {K:q0a} {mg:Str->Option Value} {base:Heap}
def aK0 (K:q0a):Sp:=λvs H Q _ => ∃ (a:Addr) (xs:List V) (ps:List Rat),vs=[.ref a]/\SqL K H a xs/\v3 H xs ps/\(ps=[]->∀ r H',c7 H H'->H' r=some (.tup [.str "refused",.str "polynomial"])->Q (.ref r) H')/\(ps ≠ []->∃ (L:List (Fp × Nat)) (rs:List Rtu) (few:Nat) (ap:Bool),Drn ps L rs few ap/\ps.length<=9/\∀ q r ws fs x H',c7 H H'->H' q=some (.tup [.str "told",.ref r])->H r=none->H' r=some (.lst ws)->Sts H' ws fs->Fnd rs (λc=>aw L c ≠ 0) fs x->fs.length=rs.length->an1 L rs fs->Q (.ref q) H')
abbrev W8:Stmt:=top 70
theorem Z9:i7 ["_law_p","_law_e","_law_found"] ["_law_p"] (c6 W8):=by and_intros
theorem aF7 {a:CAd} {f fw fg:Addr} (d:Df K mg "_law_said" W8 ["_law_p"] f) (G_stretches_of:Def P w K mg base (CXR P w) 5 "stretches_of" fg ["p"] (by2 K a.c_NoPolynomial)) (G__law_which:bx5 P w K mg base 1 "_law_which" fw ["_law_e"] (aD4 K a)) (x_RestError:ExT K mg "RestError" a.c_RestError) (kt:bK3 K a a.c_NoPolynomial 1):Def P w K mg base CX0 6 "_law_said" f ["_law_p"] (aK0 K):=by
  refine d.ok (N:=["_law_p","_law_e","_law_found"]) Z9 (by rintro vs H Q E ⟨_,_,_,h,_⟩;rw [h];rfl) (λcdv A outer s H vs Q E hr h=>?_)
  obtain ⟨b,xs,ps,rfl,hS,hN,k2,k1⟩:=h
  refine ⟨_, (b9 (bD5 (i := 1) (C := a.c_RestError) rfl rfl rfl Z9.nd rfl rfl rfl x_RestError.m (fun E xe pn hx => (c5 (d8 (i := 2) Z9.nd rfl (Or.inl rfl) (d5 G_stretches_of hr (a7 (pv 0) a9) hx)))) (fun b => (c5 (i8 (q8 (a7 Y4 (a7 (bt4 G__law_which (hr.toX.mark _) (a7 (pv 1) a9)) a9)))))))
      (c5 (i8 (q8 (a7 Y4 (a7 (pv 2) a9)))))),?_⟩
  rw [show start ["_law_p","_law_e","_law_found"] [.ref b]=[some (.ref b),none,none] from rfl]
  simp! [bK6,aD4]
  refine ⟨b,xs,ps,rfl,hS,hN,λp0=>⟨kt.ex,λe he=>⟨_,rfl,e,rfl,_,1,kt,by decide,c4,λH2 s2=>⟨v4,λp hp=>k2 p0 p _ ((c7.new he _).trans (s2.trans (c7.new hp _))) c4⟩⟩⟩,λpn=>?_⟩
  obtain ⟨L,rs,few,ap,D,l9,k⟩:=k1 pn
  refine ⟨L,rs,few,ap,D,l9,λr ws fs x H1 s1 f1 e1 st fn lf td=>⟨v4,λp hp=>?_⟩⟩
  have S:=c7.new hp (.tup [.str "told",.ref r])
  exact k p r ws fs x _ (s1.trans S) c4 f1 (S _ _ e1) (st.mono S.tups) fn lf td
abbrev az2:Stmt:=top 71
theorem V2:i7 ["_law_script","_law_at","_law_urn_here","_law_handed","_law_kept","_law_turn","_law_p","_law_roots","_law_word","_law_found"] ["_law_script"] (c6 az2):=by and_intros
theorem bE8 {f g1 g2 g3 g4 g5:Addr} {fd:FuncData} (F:Fun K "law" "law" az2 f fd) (G__law_urn:Def P w K mg base CX0 1 "_law_urn" g1 ["_law_script","_law_at"] (by1 K)) (G__law_kind:Def P w K mg base CX0 2 "_law_kind" g2 ["_law_urn_here"] bf8) (G__law_drawn_seen:Def P w K mg base CX0 5 "_law_drawn_seen" g3 ["_law_urn_here","_law_kind_here","_law_room"] (bf7 K)) (G__law_said:Def P w K mg base CX0 6 "_law_said" g4 ["_law_p"] (aK0 K)) (G__law_are_stretches:Def P w K mg base CX0 4 "_law_are_stretches" g5 ["_law_p","_law_roots","_law_found"] (by4 K))
  (n_range:mg "range" = none) (n_max:mg "max" = none) (n_min:mg "min" = none) (n_len:mg "len" = none) (n_list:mg "list" = none):ak3 P w K mg base CX0 7 f fd ["_law_script"] (aU5 K):=by
 refine F.ok (N:=["_law_script","_law_at","_law_urn_here","_law_handed","_law_kept","_law_turn","_law_p","_law_roots","_law_word","_law_found"]) V2 (λvs H Q E ⟨x,y,h,_⟩=>by rw [h];rfl) (λcdv A outer s H vs Q E hr h=>?_)
 obtain ⟨as,ns,rfl,hS,h63,k⟩:=h
 have hu:=hr.units
 refine ⟨_,(@b9 _ _ _ _ _ (@K3 _ _ _ _ _ _ _ _ PassesOwn.never rfl (@Z3 _ _ _ _ _ _ rfl n_range (@a7 _ _ _ _ _ (@d9 _ _ _ _ _ _ _ _ _ (am6 rfl) rfl n_max (by trivial) (@a7 _ _ _ _ _ b7 (@a7 _ _ _ _ _ (@d9 _ _ _ _ _ _ _ _ _ (bc8 rfl) rfl n_min (by trivial) (@a7 _ _ _ _ _ b7 (@a7 _ _ _ _ _ (@d9 _ _ _ _ _ _ _ _ _ j5 rfl n_len (by trivial) (@a7 _ _ _ _ _ (pv 0) a9 (by simp_wf)) (by simp_wf) (by simp_wf) (by simp_wf) (by simp_wf)) a9 (by simp_wf)) (by simp_wf)) (by simp_wf) (by simp_wf) (by simp_wf) (by simp_wf)) a9 (by simp_wf)) (by simp_wf)) (by simp_wf) (by simp_wf) (by simp_wf) (by simp_wf)) a9 (by simp_wf)) (by simp_wf)) (i3 (i:=1) V2.nd rfl (z0d rfl)) (@b9 _ _ _ _ _ (@d8 _ _ 2 _ _ _ _ V2.nd rfl (z0d rfl) (@d5 _ _ _ _ _ _ _ _ _ _ _ _ _ _ G__law_urn hr (@a7 _ _ _ _ _ (pv 0) (@a7 _ _ _ _ _ (pv 1) a9 (by simp_wf)) (by simp_wf)) i5 (by simp_wf) (by simp_wf) (by simp_wf) (by simp_wf) (by simp_wf)) (by simp_wf) (by simp_wf)) (@b9 _ _ _ _ _ (@P8 _ _ _ _ _ _ (@d5 _ _ _ _ _ _ _ _ _ _ _ _ _ _ G__law_drawn_seen hr (@a7 _ _ _ _ _ (pv 2) (@a7 _ _ _ _ _ (@d7 _ _ _ _ _ _ _ _ M3 (@d5 _ _ _ _ _ _ _ _ _ _ _ _ _ _ G__law_kind hr (@a7 _ _ _ _ _ (pv 2) a9 (by simp_wf)) i5 (by simp_wf) (by simp_wf) (by simp_wf) (by simp_wf) (by simp_wf)) b7) (@a7 _ _ _ _ _ b7 a9 (by simp_wf)) (by simp_wf)) (by simp_wf)) i5 (by simp_wf) (by simp_wf) (by simp_wf) (by simp_wf) (by simp_wf)) (show PG _ _ (af8 K 2 (A8 (t8 6) (A8 (t8 7) af9))) from by (refine N5 (n:=2) ?_ ?_ ?_ ?_;rfl;(refine k7 ?_ ?_ ?_;(exact (i3 (i:=6) V2.nd rfl (z0d rfl))) ;(refine k7 ?_ ?_ ?_;(exact (i3 (i:=7) V2.nd rfl (z0d rfl))) ;(exact G8) ;rfl) ;rfl) ;rfl;rfl)) (by simp_wf) (by simp_wf) (by simp_wf)) (@b9 _ _ _ _ _ (@d8 _ _ 3 _ _ _ _ V2.nd rfl (z0d rfl) (@K6 _ _ _ _ _ _ _ _ _ M6 rfl n_list (by trivial) (@a7 _ _ _ _ _ (pv 6) a9 (by simp_wf)) (by simp_wf) (by simp_wf) (by simp_wf) (by simp_wf)) (by simp_wf) (by simp_wf)) (@b9 _ _ _ _ _ (@d8 _ _ 4 _ _ _ _ V2.nd rfl (z0d rfl) aF3 (by simp_wf) (by simp_wf)) (@c5 _ _ _ (@K3 _ _ _ _ _ _ _ _ PassesOwn.never rfl (@Z3 _ _ _ _ _ _ rfl n_range (@a7 _ _ _ _ _ b7 a9 (by simp_wf)) (by simp_wf)) (i3 (i:=5) V2.nd rfl (z0d rfl)) (@b9 _ _ _ _ _ (@P8 _ _ _ _ _ _ (@d5 _ _ _ _ _ _ _ _ _ _ _ _ _ _ G__law_said hr (@a7 _ _ _ _ _ (pv 3) a9 (by simp_wf)) i5 (by simp_wf) (by simp_wf) (by simp_wf) (by simp_wf) (by simp_wf)) (show PG _ _ (af8 K 2 (A8 (t8 8) (A8 (t8 9) af9))) from by (refine N5 (n:=2) ?_ ?_ ?_ ?_;rfl;(refine k7 ?_ ?_ ?_;(exact (i3 (i:=8) V2.nd rfl (z0d rfl))) ;(refine k7 ?_ ?_ ?_;(exact (i3 (i:=9) V2.nd rfl (z0d rfl))) ;(exact G8) ;rfl) ;rfl) ;rfl;rfl)) (by simp_wf) (by simp_wf) (by simp_wf)) (@b9 _ _ _ _ _ (@B0 _ _ _ _ _ _ _ _ (@PW.pt _ _ _ (@aa9 _ _ _ _ _ _ _ (@j3 _ _ _ _ _ _ _ _ aA3 (pv 8) Y4 (j7 _)) (@aa9 _ _ _ _ _ _ _ (@P7 _ _ _ _ (@M1 _ _ _ (@d5 _ _ _ _ _ _ _ _ _ _ _ _ _ _ G__law_are_stretches hr (@a7 _ _ _ _ _ (pv 6) (@a7 _ _ _ _ _ (pv 7) (@a7 _ _ _ _ _ (pv 9) a9 (by simp_wf)) (by simp_wf)) (by simp_wf)) i5 (by simp_wf) (by simp_wf) (by simp_wf) (by simp_wf) (by simp_wf)) (by simp_wf))) (@ac5 _ _ _ _ (@j3 _ _ _ _ _ _ _ _ (as5 hu) (pv 3) (pv 6) (j7 _)))))) (@c5 _ _ _ (@i8 _ _ _ _ ab0)) p9) (@b9 _ _ _ _ _ (@B0 _ _ _ _ _ _ _ _ (@PW.pt _ _ _ (@ak9 _ _ _ _ _ _ _ (@j3 _ _ _ _ _ _ _ _ aV7 (pv 4) aF3 (j7 _)) (@ae8 _ _ _ _ (@j3 _ _ _ _ _ _ _ _ (as5 hu) (pv 9) (pv 4) (j7 _))))) (@c5 _ _ _ (@i8 _ _ _ _ ab0)) p9) (@b9 _ _ _ _ _ (@d8 _ _ 4 _ _ _ _ V2.nd rfl (z0d rfl) (@K6 _ _ _ _ _ _ _ _ _ M6 rfl n_list (by trivial) (@a7 _ _ _ _ _ (pv 9) a9 (by simp_wf)) (by simp_wf) (by simp_wf) (by simp_wf) (by simp_wf)) (by simp_wf) (by simp_wf)) (@b9 _ _ _ _ _ (@af0 _ _ _ _ (@an5 _ _ _ _ _ _ _ _ _ _ _ _ PySem.F.plainAttrs_list PySem.F.slot_list_append PySem.F.type_list_append G9 (pv 9) (@a7 _ _ _ _ _ (@q8 _ _ _ _ _ (@a7 _ _ _ _ _ (@q8 _ _ _ _ _ (@a7 _ _ _ _ _ b7 (@a7 _ _ _ _ _ b7 a9 (by simp_wf)) (by simp_wf))) (@a7 _ _ _ _ _ (@q8 _ _ _ _ _ (@a7 _ _ _ _ _ b7 (@a7 _ _ _ _ _ b7 a9 (by simp_wf)) (by simp_wf))) a9 (by simp_wf)) (by simp_wf))) a9 (by simp_wf)) (by simp_wf) (by simp_wf) (by simp_wf) (by simp_wf) (by simp_wf)) (by simp_wf)) (@c5 _ _ _ (@B0 _ _ _ _ _ _ _ _ (@PW.pt _ _ _ (@aa9 _ _ _ _ _ _ _ (@j3 _ _ _ _ _ _ _ _ (as5 hu) (@d5 _ _ _ _ _ _ _ _ _ _ _ _ _ _ G__law_said hr (@a7 _ _ _ _ _ (@z8 _ _ _ _ a9) a9 (by simp_wf)) i5 (by simp_wf) (by simp_wf) (by simp_wf) (by simp_wf) (by simp_wf)) (@q8 _ _ _ _ _ (@a7 _ _ _ _ _ Y4 (@a7 _ _ _ _ _ Y4 a9 (by simp_wf)) (by simp_wf))) (j7 _)) (@ac5 _ _ _ _ (@j3 _ _ _ _ _ _ _ _ (as5 hu) (@d5 _ _ _ _ _ _ _ _ _ _ _ _ _ _ G__law_said hr (@a7 _ _ _ _ _ (@z8 _ _ _ _ (@a7 _ _ _ _ _ (@j4 _ _ _ _ _ _ _ v1 (pv 6) (@G4 _ _ _ _ _ _ B6 b7) (λ_ _=>rfl)) a9 (by simp_wf))) a9 (by simp_wf)) i5 (by simp_wf) (by simp_wf) (by simp_wf) (by simp_wf) (by simp_wf)) (@q8 _ _ _ _ _ (@a7 _ _ _ _ _ Y4 (@a7 _ _ _ _ _ (@z8 _ _ _ _ a9) a9 (by simp_wf)) (by simp_wf))) (j7 _))))) (@c5 _ _ _ (@i8 _ _ _ _ ab0)) p9))))))) (by simp_wf))))))) (by simp_wf)) (@c5 _ _ _ (@i8 _ _ _ _ ab0))),?_⟩
 rw [show start ["_law_script","_law_at","_law_urn_here","_law_handed","_law_kept","_law_turn","_law_p","_law_roots","_law_word","_law_found"] [.ref as]=[some (.ref as),none,none,none,none,none,none,none,none,none] from rfl]
 have hlen:(((ns.map V.int).length:Nat):Int)=(ns.length:Int):=by rw [q0e]
 obtain ⟨I,hI⟩:∃ I:Nat->L2.St->Hp->Prop,∀ i σ H1,I i σ H1 ↔ ∃ o1 o2 o3 o4 o5 o6 o7 o8 o9,σ=[some (.ref as),o1,o2,o3,o4,o5,o6,o7,o8,o9]/\SqL K H1 as (ns.map V.int):=⟨_,λ_ _ _=>Iff.rfl⟩
 refine ⟨_,rfl,as,_,rfl,.inl hS,4,_,rfl,1,_,rfl,_,rfl,?_,?_,U8 I ((hI _ _ _).mpr ⟨_,_,_,_,_,_,_,_,_,rfl,hS⟩) ?_ ?_⟩
 ·rw [hlen];split <;> split <;> simp
 ·rw [hlen];split <;> split <;> lia
 ·intro i σ H1 hi hI1
  obtain ⟨o1,o2,o3,o4,o5,o6,o7,o8,o9,rfl,hS1⟩:=(hI _ _ _).mp hI1
  rw [hlen] at hi
  have hi4:i<4:=by
   revert hi
   split <;> split <;> lia
  simp only [t8,u0z,u0b]
  refine d6 (λσ H2 => ∃ u,σ=[some (.ref as),some (.int (0+(i:Int))),some (.ref u),o3,o4,o5,o6,o7,o8,o9]/\c7 H1 H2/\H1 u=none/\v6 H2 u) (λN hN=>?_) ?_
  ·subst_eqs
   exact ⟨as,ns,_,rfl,hS1,by simp,by lia,λu H2 s2 hu0 hu2=>hN _ _ ⟨u,rfl,s2,hu0,hu2⟩⟩
  rintro σ H2 ⟨u,rfl,s2,fu,u2⟩
  have sx2:=c7.x s2 u
  refine d6 (λσ H4 => ∃ lp lr ps rs L ap,σ=[some (.ref as),some (.int (0+(i:Int))),some (.ref u),o3,o4,o5,some (.ref lp),some (.ref lr),o8,o9]/\x9 u H1 H4/\v6 H4 u/\PRt u H4 lp lr ps rs/\Drn ps L rs 0 ap/\ps.length<=9) (λN hN=>?_) ?_
  ·subst_eqs
   refine ⟨u,rfl,u2,λkd H3 hr3 s3 u3=>⟨kd,rfl,by decide,u,_,8,rfl,u3,?_,by decide,by decide,λr lp lr ps rs L ap H4 s4 u4 e4 R4 D4 l4=>⟨r,rfl,_,SqT.of e4,rfl,_,_,rfl,_,_,rfl,rfl,hN _ _ ⟨lp,lr,ps,rs,L,ap,rfl,sx2.trans (s3.trans s4),u4,R4,D4,l4⟩⟩⟩⟩
   rcases hr3 with rfl | rfl | rfl
   ·exact .inl rfl
   ·exact .inr rfl
   ·exact .inl rfl
  clear sx2 u2 s2
  rintro σ H4 ⟨lp,lr,ps,rs,L,ap,rfl,s4,u4,R4,D4,l4⟩
  obtain ⟨xs,ep,np⟩:=R4.p
  obtain ⟨ts,er,hR⟩:=R4.r
  obtain ⟨k0,k9,k00,klast,pn⟩:=D4.last
  have lxs:=np.length
  refine d6 (λσ H5 => ∃ lh,σ=[some (.ref as),some (.int (0+(i:Int))),some (.ref u),some (.ref lh),o4,o5,some (.ref lp),some (.ref lr),o8,o9]/\c7 H4 H5/\H5 lh=some (.lst xs)) (λN hN=>?_) ?_
  ·subst_eqs
   exact ⟨xs,.inl (SqL.of ep),λp0 hp0=>hN _ _ ⟨p0,rfl,c7.new hp0 _,c4⟩⟩
  rintro σ H5 ⟨lh,rfl,s5,eh⟩
  have ep:=s5 _ _ ep
  have er:=s5 _ _ er
  have np:=np.mono s5.tups
  have hR:=hR.mono s5.tups
  refine d6 (λσ H6=>σ=[some (.ref as),some (.int (0+(i:Int))),some (.ref u),some (.ref lh),some .non,o5,some (.ref lp),some (.ref lr),o8,o9]/\H6=H5) (λN hN=>?_) ?_
  ·subst_eqs
   exact hN _ _ ⟨rfl,rfl⟩
  rintro σ H6 ⟨rfl,rfl⟩
  obtain ⟨B,hB⟩:∃ B:Nat->L2.St->Hp->Prop,∀ t σ H7,B t σ H7 ↔ ∃ (vk:V) (o5 o8 o9:Option V),σ=[some (.ref as),some (.int (0+(i:Int))),some (.ref u),some (.ref lh),some vk,o5,some (.ref lp),some (.ref lr),o8,o9]/\c7 H6 H7/\(vk=.non \/ ∃ lk ws fs,vk=.ref lk/\H7 lk=some (.lst ws)/\Sts H7 ws fs/\an1 L rs fs):=⟨_,λ_ _ _=>Iff.rfl⟩
  refine ⟨2,rfl,by decide,by decide,U8 B ((hB _ _ _).mpr ⟨_,_,_,_,rfl,c7.refl _,.inl rfl⟩) ?_ ?_⟩
  ·intro t σ H7 ht hB7
   obtain ⟨vk,o5,o8,o9,rfl,s7,hvk⟩:=(hB _ _ _).mp hB7
   simp only [t8,u0z,u0b]
   refine d6 (λσ H8 => ∃ r ws fs x,σ=[some (.ref as),some (.int (0+(i:Int))),some (.ref u),some (.ref lh),some vk,some (.int (0+(t:Int))),some (.ref lp),some (.ref lr),some (.str "told"),some (.ref r)]/\c7 H7 H8/\H7 r=none/\H8 r=some (.lst ws)/\Sts H8 ws fs/\Fnd rs (λc=>aw L c ≠ 0) fs x/\fs.length=rs.length/\an1 L rs fs) (λN hN=>?_) ?_
   ·subst_eqs
    refine ⟨lh,xs,ps,rfl,SqL.of (s7 _ _ eh),np.mono s7.tups,λz=>absurd z pn,λ_=>⟨L,rs,0,ap,D4,l4,λq r ws fs x H8 s8 eq fr er' st fn lf td=>?_⟩⟩
    exact ⟨q,rfl,_,SqT.of eq,rfl,_,_,rfl,_,_,rfl,rfl,hN _ _ ⟨r,ws,fs,x,rfl,s8,fr,er',st,fn,lf,td⟩⟩
   rintro σ H8 ⟨r,ws,fs,x,rfl,s8,fr,erw,st,fn,lf,td⟩
   have S8:=s7.trans s8
   have lws:=st.length
   have l8:rs.length<=8:=by have:=D4.ln;omega
   refine d6 (λσ H9=>σ=[some (.ref as),some (.int (0+(i:Int))),some (.ref u),some (.ref lh),some vk,some (.int (0+(t:Int))),some (.ref lp),some (.ref lr),some (.str "told"),some (.ref r)]/\c7 H8 H9) (λN hN=>?_) ?_
   ·subst_eqs
    refine ⟨rfl,?_⟩
    first
     | refine B1 (λz=>absurd rfl z) (λ_=>?_)
     | skip
    refine ⟨lp,lr,r,xs,ts,ws,ps,rs,L,0,ap,fs,x,rfl,S8 _ _ ep,np.mono S8.tups,S8 _ _ er,hR.mono S8.tups,erw,st,lf,D4,l4,fn,λH9 s9=>?_⟩
    refine ⟨true,rfl,B1 (λz=>by cases z) (λ_=>?_)⟩
    have S9:=S8.trans s9
    refine ⟨P4 ps,P4 ps,rfl,O9 (SqL.of (S9 _ _ eh)) (np.mono S9.tups),O9 (SqL.of (S9 _ _ ep)) (np.mono S9.tups),aj2 _ _,z0v (aq2 _) (by decide),?_⟩
    rw [ak0,decide_eq_true rfl]
    exact ⟨false,rfl,B1 (λh=>absurd h (by decide)) (λ_=>hN _ _ ⟨rfl,s9⟩)⟩
   rintro σ H9 ⟨rfl,s9⟩
   have erw9:=s9 _ _ erw
   have st9:=st.mono s9.tups
   have S9:=S8.trans s9
   refine d6 (λσ HA=>σ=[some (.ref as),some (.int (0+(i:Int))),some (.ref u),some (.ref lh),some vk,some (.int (0+(t:Int))),some (.ref lp),some (.ref lr),some (.str "told"),some (.ref r)]/\HA=H9) (λN hN=>?_) ?_
   ·subst_eqs
    rcases hvk with rfl | ⟨lk,ws',fs',rfl,ek,st',td'⟩
    ·rw [if_neg (by simp)]
     exact hN _ _ ⟨rfl,rfl⟩
    ·rw [if_pos (by simp)]
     have eqf:=aJ3 td' td
     subst eqf
     have s79:=s8.trans s9
     refine ⟨.lst (fs'.map dSt),.lst (fs'.map dSt),rfl,.lst (SqL.of erw9) st9.isDs,.lst (SqL.of (s79 _ _ ek)) (st'.mono s79.tups).isDs,aL2 _,bI6 _,?_⟩
     have:eqD (.lst (fs'.map dSt)) (.lst (fs'.map dSt))=true:=by rw [eqD];exact aX2 fs'
     rw [this]
     exact ⟨false,rfl,B1 (λh=>absurd h (by decide)) (λ_=>hN _ _ ⟨rfl,rfl⟩)⟩
   rintro σ HA ⟨rfl,rfl⟩
   refine d6 (λσ HB => ∃ lk,σ=[some (.ref as),some (.int (0+(i:Int))),some (.ref u),some (.ref lh),some (.ref lk),some (.int (0+(t:Int))),some (.ref lp),some (.ref lr),some (.str "told"),some (.ref r)]/\c7 HA HB/\lk ≠ r/\HB lk=some (.lst ws)) (λN hN=>?_) ?_
   ·subst_eqs
    exact ⟨_,.inl (SqL.of erw9),λl hl=>hN _ _ ⟨l,rfl,c7.new hl _,(g7 erw9 hl).symm,c4⟩⟩
   rintro σ HB ⟨lk,rfl,sB,lkr,ek⟩
   have erB:=sB _ _ erw9
   have stB:=st9.mono sB.tups
   refine d6 (λσ HC=>σ=[some (.ref as),some (.int (0+(i:Int))),some (.ref u),some (.ref lh),some (.ref lk),some (.int (0+(t:Int))),some (.ref lp),some (.ref lr),some (.str "told"),some (.ref r)]/\c7 H7 HC/\HC lk=some (.lst ws)/\Sts HC ws fs) (λN hN=>?_) ?_
   ·subst_eqs
    refine ⟨.inl ⟨_,SqL.of erB⟩,v4,λp0 h0=>?_⟩
    obtain ⟨E1,y1,X1,_⟩:=nw2 (.tup [.int 0,.int 1]) h0
    rw [y1]
    refine ⟨v4,λp1 h1=>?_⟩
    obtain ⟨E2,y2,X2,_⟩:=nw2 (.tup [.int 1,.int 1]) h1
    rw [y2]
    refine ⟨v4,λp2 h2=>?_⟩
    obtain ⟨E3,y3,X3,_⟩:=nw2 (.tup [.ref p0,.ref p1]) h2
    rw [y3]
    have XX:=X1.trans (X2.trans X3)
    have er3:=XX _ _ erB
    exact ⟨ws,er3,N6 (by lia),hN _ _ ⟨rfl,(s8.trans (s9.trans (sB.trans XX))).over fr _,by rw [g8 lkr];exact XX _ _ ek,(stB.mono XX.tups).mono (L5.lst er3)⟩⟩
   rintro σ HC ⟨rfl,sC,ekC,stC⟩
   have S6C:=s7.trans sC
   subst_eqs
   refine ⟨by decide,λp0 h0=>?_⟩
   obtain ⟨E1,y1,X1,g1⟩:=nw2 (.lst []) h0
   rw [y1]
   refine ⟨p0,[],[],rfl,SqL.of g1,.nil,λ_ q HE sE eE=>⟨v4,λp1 h1=>?_⟩,λz=>absurd rfl z⟩
   obtain ⟨E2,y2,X2,g2⟩:=nw2 (.tup [.str "refused",.str "polynomial"]) h1
   rw [y2]
   refine ⟨ad5 "refused" "polynomial",ad5 "refused" "polynomial",rfl,aM5 (SqT.of (X2 _ _ eE)),aM5 (SqT.of g2),bi8 _ _ _ _,bv7 _ _,?_⟩
   rw [bn4]
   have SE:=X1.trans (sE.trans X2)
   have S6E:=S6C.trans SE
   have npE:=np.mono S6E.tups
   have epE:=S6E _ _ ep
   obtain ⟨pk,hpk,epk⟩:∃ pk,xs[xs.length-1]? = some (.ref pk)/\E2 pk=some (.tup (t7 k0)):=by
    obtain ⟨v,hv⟩:∃ v,xs[xs.length-1]? = some v:=⟨_,q0d (by have:=j0p.mpr pn;lia)⟩
    obtain ⟨py,q',rfl,hq',hpy⟩:=npE.getV hv
    rw [lxs,klast] at hq'
    cases hq'
    exact ⟨py,hv,hpy⟩
   have hat:atI xs (-1)=some (.ref pk):=bp7 hpk
   refine ⟨false,rfl,B1 (λh=>absurd h (by decide)) (λ_=>⟨_,SqL.of epE,_,hat,aO9,λp3 h3=>?_⟩)⟩
   obtain ⟨E3,y3,X3,g3⟩:=nw2 (.lst [.ref pk]) h3
   rw [y3]
   refine ⟨p3,[.ref pk],[k0],rfl,SqL.of g3,.cons (X3 _ _ epk) .nil,λz=>(by cases z),λ_=>⟨[],[],6,false,aX4 k9 k00,(by show 1<=9;decide),λq' r' ws' fs' x' HF sF eq' fr' er' st' fn' lf' td'=>⟨by decide,λp4 h4=>?_⟩⟩⟩
   obtain ⟨E4,y4,X4,g4⟩:=nw2 (.lst []) h4
   rw [y4]
   refine ⟨v4,λp5 h5=>?_⟩
   obtain ⟨E5,y5,X5,g5⟩:=nw2 (.tup [.str "told",.ref p4]) h5
   rw [y5]
   have wn:ws'=[]:=v0e (by rw [st'.length];exact lf')
   subst wn
   have X45:=X4.trans X5
   refine ⟨dTL [],dTL [],rfl,.tup (SqT.of (X45 _ _ eq')) (.cons (.v rfl) (.cons (.lst (SqL.of (X45 _ _ er')) .nil) .nil)),.tup (SqT.of g5) (.cons (.v rfl) (.cons (.lst (SqL.of (X5 _ _ g4)) .nil) .nil)),by decide,by decide,?_⟩
   have SF:=SE.trans (X3.trans (sF.trans X45))
   exact ⟨false,by decide,B1 (λh=>absurd h (by decide)) (λ_=>(hB _ _ _).mpr ⟨_,_,_,_,rfl,S6C.trans SF,.inr ⟨lk,ws,fs,rfl,SF _ _ ekC,stC.mono SF.tups,td⟩⟩)⟩
  ·intro σ H7 h7
   obtain ⟨vk,o5,o8,o9,rfl,s7,_⟩:=(hB _ _ _).mp h7
   exact (hI _ _ _).mpr ⟨_,_,_,_,_,_,_,_,_,rfl,(s4.trans (c7.x (s5.trans s7) u)).seq fu hS1⟩
 ·intro σ H1 hI1
  obtain ⟨o1,o2,o3,o4,o5,o6,o7,o8,o9,rfl,_⟩:=(hI _ _ _).mp hI1
  subst_eqs
  exact k _
end
end R
set_option maxRecDepth 100000
namespace PySem.W.Fast
def tw5067465737588576746:=0
def tw747129894385391700:=0
def tw17486972279491819349:=0
def tw4937482089799450835:=0
def tw6614666151720565313:=0
def tw9947839181411708121:=0
def tw8373828542305240283:=0
def tw9871806018845238336:=0
def tw13186048101790255064:=0
def tw16993181673584710353:=0
def tw14798596986778341948:=0
def tw11927327650971085681:=0
def tw5051353339972595571:=0
def tw3438526181769457738:=0
def tw16635381882827823334:=0
def tw16843427585382046820:=0
def tw5446821252223703265:=0
def tw2032077307243011811:=0
def tw17420048523218317580:=0
def tw16511420047824450781:=0
def tw3595035251427476430:=0
def tw14122853943310054832:=0
def tw12454295898016595335:=0
def tw13579598792358758654:=0
def tw6296184963411410691:=0
def tw2187011499613017982:=0
def tw4743796709909864231:=0
def tw6099570171904016138:=0
def tw14879791899854697911:=0
def tw4109402956218700640:=0
def tw4478989560161842522:=0
def tw12342924777805833884:=0
def tw16934351676029032692:=0
def tw7522189391930068950:=0
def tw11761940687416541962:=0
def tw3073828546154478474:=0
def tw10727216830278439347:=0
def tw15458105948937947160:=0
def tw12281320846808811357:=0
def tw15103621044422801021:=0
def tw8649334107024583631:=0
def tw10470007617709442359:=0
def tw16481144450835510964:=0
def tw1666604846847209164:=0
def tw1357684961491391178:=0
def tw1696030895389488199:=0
def tw17851612465547604427:=0
def tw10992203093018456966:=0
def tw14763626844224686238:=0
def tw17160616380213420641:=0
def tw5134317019728815904:=0
def tw4608438314856691940:=0
def tw1834332010023057492:=0
def tw7486499430364778310:=0
def tw9864570374679679279:=0
def tw2342264929243512991:=0
def tw4989347161763986083:=0
def tw5617687298815144924:=0
def tw268992461704258581:=0
def tw14703995457775214990:=0
def tw250551158372687609:=0
def tw2907493860790587275:=0
def tw6809758089986840039:=0
def tw4836016955191329001:=0
def tw17983580189603023974:=0
def tw12289635394507728343:=0
def tw1929447773219836031:=0
def tw5838574316187270516:=0
def tw6530552301019486071:=0
def tw6987228457528850446:=0
def tw5244520377421615110:=0
def tw8180204011854515330:=0
def tw16326532841035487668:=0
def tw886065230506587274:=0
def tw16558104872030424801:=0
def tw18174897521868126544:=0
def tw12218260091221531987:=0
def tw6849923294197115232:=0
def tw7382545768052436765:=0
def tw8230568451663141387:=0
def tw2021072789696104755:=0
def tw12809089641166589846:=0
def tw2925313798376812393:=0
def tw1637781823009961219:=0
def tw225321440394957525:=0
def tw14084125808547437415:=0
def tw17200462919378655761:=0
def tw1977525490986667707:=0
def tw3961607956946704813:=0
def tw1867538257749910983:=0
def tw2953552975450503280:=0
def tw16633050961051179600:=0
def tw16522415381717031759:=0
def tw16123850028459097393:=0
def tw15066215988504761252:=0
def tw18200543181026657213:=0
def tw13996704320633568724:=0
def tw15779249577775166542:=0
def tw10799962159518206948:=0
def tw11804602398920540121:=0
def tw3285364690604211733:=0
def tw2484063284798554520:=0
def tw11519301837595604175:=0
def tw2092378659801092361:=0
def tw13665453059452015533:=0
def tw12657127428471816398:=0
def tw12681237303510047004:=0
def tw8102644292635086544:=0
def tw13560980997781660371:=0
def tw17181068622477711411:=0
def tw5370546161190996668:=0
def tw15064967408173300913:=0
def tw5752912956731431850:=0
def tw2494944685360425841:=0
def tw7342238147952128238:=0
def tw6643501921558998958:=0
def tw15805757364501245515:=0
def tw11370843408895706036:=0
def tw16520648670070089585:=0
def tw9882737783180721167:=0
def tw1976618419218606694:=0
def tw13285983864526513393:=0
def tw14627344201640074129:=0
def tw7348225273316468166:=0
def tw12400151938085232869:=0
def tw2368978310368168617:=0
def tw1481329302567127092:=0
def tw4291878007815312998:=0
def tw14805990801999812570:=0
def tw7974678071596760208:=0
def tw3579391432308075214:=0
def tw8279282124820963601:=0
def tw17939506247082633824:=0
def tw745999491483368143:=0
def tw12604183488992387681:=0
def tw17494623555234718595:=0
def tw11111399838710077114:=0
def tw8940528416105864112:=0
def tw9939706311378584787:=0
def tw8874208921477882977:=0
def tw13036920886733674006:=0
def tw4942465522874386840:=0
def tw11238742864426592527:=0
def tw12638641214640711897:=0
def tw8152485370153279932:=0
def tw6428007232779679057:=0
def tw9869745361942861444:=0
def tw608837641688041439:=0
def tw18358737153998956898:=0
def tw5740474935829330844:=0
def tw16567247634914624384:=0
def tw14500375342902146862:=0
def tw4268289997255010747:=0
def tw16153779662416007403:=0
def tw2678353974783958079:=0
def tw13583779951577652458:=0
def tw11824403634439418894:=0
def tw4678311747580315826:=0
def tw11834246009008741321:=0
def tw7302807932026714945:=0
def tw11269708617791299363:=0
def tw9125611333680943088:=0
def tw10127913049647412975:=0
def tw10896207845026174989:=0
def tw10824853737052677596:=0
def tw9871210692196603213:=0
def tw16696402010652959387:=0
def tw12077242932397209353:=0
def tw6292361965578793480:=0
def tw3342754062516179466:=0
def tw8633879740729744702:=0
def tw9281930576451658721:=0
def tw17522354732894425150:=0
def tw13185596402833444910:=0
def tw7820225956060219758:=0
def tw12234539807745884438:=0
def tw5057713689669116520:=0
def tw6013895566837199473:=0
def tw13622819228662606148:=0
def tw16881202321663690223:=0
def tw11358310493181766281:=0
def tw9371582361872819791:=0
def tw12711320082182050974:=0
def tw17763368008150671491:=0
def tw11779337245617568143:=0
def tw387160674784678696:=0
def tw9772037691728887072:=0
def tw15586183943932736457:=0
def tw9709775997155853782:=0
def tw5703047546607002943:=0
def tw3952191897694016129:=0
def tw53328863302958435:=0
def tw1679664697342388559:=0
def tw14125961681310692120:=0
def tw10010391987363225674:=0
def tw15170639500985769064:=0
def tw16778264512914603709:=0
def tw9702009972819321829:=0
def tw398745150074079177:=0
def tw11819906648266229028:=0
def tw4433800744124830157:=0
def tw15632387031128919002:=0
def tw8258056505175763769:=0
def tw1863832943307994130:=0
def tw33242964006776564:=0
def tw1316573220104000351:=0
def tw7105482103468805492:=0
def tw1761052829128993993:=0
def tw5131952957324012655:=0
def tw9739501927308070168:=0
def tw17883006762161596633:=0
def tw9395440607791043327:=0
def tw11334352214149288515:=0
def tw11586685221624451771:=0
def tw9098900004784407961:=0
def tw2524498265693730773:=0
def tw1349902387724372617:=0
def tw10888102287045684150:=0
def tw3087766328538537404:=0
def tw9228343773500647496:=0
def tw14135995655301592788:=0
def tw1093950237514620053:=0
def tw3980893174115318949:=0
def tw8790457841376642860:=0
def tw7171714101757798969:=0
def tw8105976013070865659:=0
def tw11098680629786858342:=0
def tw5919337909863417999:=0
def tw14950223818356770018:=0
def tw3132667121563848392:=0
def tw10987195632379028949:=0
def tw14566792881632785570:=0
def tw16478062859396062013:=0
def tw15787764489289156628:=0
def tw1067544746748963181:=0
def tw3924667158500336959:=0
def tw11888082864296190444:=0
def tw3657228820019762438:=0
def tw11305500857568872556:=0
def tw16982440107211116677:=0
def tw6053279980040775253:=0
def tw14469927371037051604:=0
def tw5368462852960704717:=0
def tw10737974298026495147:=0
def tw16843951453146932201:=0
def tw11588334066907671915:=0
def tw4058674089695903872:=0
def tw12775130244385708467:=0
def tw13973575555005256256:=0
def tw4161965509091845716:=0
def tw11126353883170074449:=0
def tw5754863929295911749:=0
def tw664548313450515298:=0
def tw13969367160656549092:=0
def tw2258791362201584699:=0
def tw8517782193269640312:=0
def tw1411088916150935844:=0
def tw7781222891266336315:=0
def tw10952875668186124245:=0
def tw14370529957363098316:=0
def tw7228094257948531358:=0
def tw13900125078148638065:=0
def tw4260065105871823428:=0
def tw6859932337299920403:=0
def tw1798485813380055739:=0
def tw8807005623146729209:=0
def tw17179414132194888107:=0
def tw13690138282654040142:=0
def tw7609636252159277181:=0
def tw18168094327283390121:=0
def tw10423117219617698908:=0
def tw10335550871501353281:=0
def tw3121120530371606571:=0
def tw8009200319665516767:=0
def tw14890886088300985288:=0
def tw968429682226005738:=0
def tw12873290610425808897:=0
def tw8897795592071765531:=0
def tw14039741892267582507:=0
def tw14452668196240234314:=0
def tw1682051857304728354:=0
def tw10163021059800269270:=0
def tw17131779940610634475:=0
def tw2605130486451592388:=0
def tw15316919666599579365:=0
def tw4278681578886021484:=0
def tw11241806934902536287:=0
def tw4902240719922021540:=0
def tw9314963417227239730:=0
def tw5508173850529242097:=0
def tw11870030077537215061:=0
def tw11393080134966756925:=0
def tw3302568046388913536:=0
def tw15487993205083207959:=0
def tw2150294740132064114:=0
def tw13393144882284717183:=0
def tw9772333179526001434:=0
def tw14451313273258955905:=0
def tw16846468423669445903:=0
def tw17991453422253642804:=0
def tw12737551043641768743:=0
def tw2059148489619485956:=0
def tw15193124702853436641:=0
def tw1813595587908792047:=0
def tw15111690067509173518:=0
def tw1599655906864803917:=0
def tw1393134191170397580:=0
def tw5830025693846098736:=0
def tw12826760929588036064:=0
def tw16029701229110672655:=0
def tw17247611931916620687:=0
def tw4921973071784574718:=0
def tw2896296014045524489:=0
def tw16190730373450890366:=0
def tw3740726103621941075:=0
def tw9131834059279575387:=0
def tw8497014365655541025:=0
def tw4109444263153890242:=0
def tw4858096760651795869:=0
def tw14229413438502932834:=0
def tw12106574568599164346:=0
def tw14263677716233503183:=0
def tw2889634822430923622:=0
def tw3453607779746250657:=0
def tw16978030678009368056:=0
def tw18239199756478670140:=0
def tw3415001022364235986:=0
def tw9339454399005198535:=0
def tw2722698958731920062:=0
def tw12560645381814397542:=0
def tw9939162961696132842:=0
def tw15003527475372926286:=0
def tw16256881342506442446:=0
def tw308534034407204969:=0
def tw4657500305350140687:=0
def tw16290230064848661159:=0
def tw8255779972518699561:=0
def tw11121033286028032695:=0
def tw14034265220563390778:=0
def tw18019385543836680468:=0
def tw12218000611146216407:=0
def tw9259901994405799040:=0
def tw7103784185142556245:=0
end PySem.W.Fast
namespace R
open PySem L2 PyProof.Rows
section
variable {l:q1r} {w:World} {K:q0a} {h:Heap} {mg:Str->Option Value}
structure Gd (K:q0a) (nm:Str) (st:Stmt) (f:Addr):Prop where
 a:j0q K mainGlobals nm=some (some (.ref f))
 F:∃ fd,Fun K nm nm st f fd
theorem Gd.df {nm:Str} {st:Stmt} {f:Addr} {ps:List Str} (X:K.In h) (G:h.Ns mainGlobals mg) (g:Gd K nm st f) (hb:∀ (kV doc pm:Value) (an:Option Addr) (cdv ct:Value) (us:List Value),us.length=ps.length->bindArgs (v0t nm nm (af5 st) (M4 st) (c6 st) .none kV doc pm an cdv ct) ⟨us,[]⟩=pure (ps.zip us)):Df K mg nm st ps f:=by
 obtain ⟨a,_,F⟩:=g
 exact ⟨⟨_,F,F.binds hb⟩,u0k X G a⟩
structure Gx (K:q0a) (nm:Str) (C:Addr):Prop where
 m:j0q K mainGlobals nm=some (some (.ref C))
 x:z1r K C [.type "ValueError",.type "Exception",.type "BaseException",.type "object"] "ValueError.__new__" = true
 e:aw0 K C
theorem Gx.t {nm:Str} {C:Addr} (X:K.In h) (G:h.Ns mainGlobals mg) (g:Gx K nm C):ExT K mg nm C:=⟨u0k X G g.m,⟨g.x⟩,g.e⟩
theorem lS {us:List Value} {n:Nat} (h:us.length=n+1):∃ a r,us=a :: r/\r.length=n:=by
 cases us with
 | nil=>cases h
 | cons a r=>exact ⟨a,r,rfl,Nat.succ.inj h⟩
theorem K7 {us:List Value} (h:us.length=1):∃ a0,us=[a0]:=by
 obtain ⟨_,r,rfl,h⟩:=lS h
 cases r with
 | nil=>exact ⟨_,rfl⟩
 | cons=>cases h
theorem N2 {us:List Value} (h:us.length=2):∃ a0,∃ a1,us=[a0,a1]:=by
 obtain ⟨_,_,rfl,g⟩:=lS h
 obtain ⟨_,rfl⟩:=K7 g
 exact ⟨_,_,rfl⟩
theorem aL7 {us:List Value} (h:us.length=3):∃ a0,∃ a1,∃ a2,us=[a0,a1,a2]:=by
 obtain ⟨_,_,rfl,g⟩:=lS h
 obtain ⟨_,_,rfl⟩:=N2 g
 exact ⟨_,_,_,rfl⟩
theorem bM0 {us:List Value} (h:us.length=4):∃ a0,∃ a1,∃ a2,∃ a3,us=[a0,a1,a2,a3]:=by
 obtain ⟨_,_,rfl,g⟩:=lS h
 obtain ⟨_,_,_,rfl⟩:=aL7 g
 exact ⟨_,_,_,_,rfl⟩
theorem bJ7 {fa f_changes_of f_common_divisor f_fraction f_content_of f_cleared f_lifted f_trimmed f_whole_divided f_whole_scaled f_whole_over f_over_content f_whole_slope f_whole_worth f_sign_of_whole f_sign_at f_changes_at f_changes_above_all f_changes_below_all f_chain_of f_bound_of f_point_within f__law_low f__law_urn f__law_draw f__law_kind f__law_number f__law_whole f__law_is_number f__law_other f__law_trim f__law_plus f__law_times f__law_below f_stretches_of f__law_sign f__law_less f__law_poly_times f__law_above f__law_side f__law_drawn_seen f__law_worth f__law_which f__law_are_stretches f__law_said f_law:Addr} {C_NoFraction C_NoPolynomial C_NoStretch C_NoRow C_NoPair C_NoBack C_NoForm C_NoParts C_NoDegree C_NoSteps C_NoBox C_NoGain C_NoText C_NoLine C_NoName C_NoDeed C_RestError:Addr} {t_SHORT:Tok} {A_ONE:Addr} {td_ONE:Option Addr} {ts_ONE:Array (Option Value)} {tn_ONE:Nat} {tt0_ONE tt1_ONE:Tok}
  (X:K.In h) (G:h.Ns mainGlobals mg) (hfa:mg "law" = some (.ref fa))
  (g_changes_of:Gd K "changes_of" Q7 f_changes_of)
  (g_common_divisor:Gd K "common_divisor" G6 f_common_divisor)
  (g_fraction:Gd K "fraction" aa0 f_fraction)
  (g_content_of:Gd K "content_of" Q6 f_content_of)
  (g_cleared:Gd K "cleared" Y9 f_cleared)
  (g_lifted:Gd K "lifted" ac4 f_lifted)
  (g_trimmed:Gd K "trimmed" ae6 f_trimmed)
  (g_whole_divided:Gd K "whole_divided" B9 f_whole_divided)
  (g_whole_scaled:Gd K "whole_scaled" G2 f_whole_scaled)
  (g_whole_over:Gd K "whole_over" Q5 f_whole_over)
  (g_over_content:Gd K "over_content" G3 f_over_content)
  (g_whole_slope:Gd K "whole_slope" J4 f_whole_slope)
  (g_whole_worth:Gd K "whole_worth" O2 f_whole_worth)
  (g_sign_of_whole:Gd K "sign_of_whole" K0 f_sign_of_whole)
  (g_sign_at:Gd K "sign_at" ae7 f_sign_at)
  (g_changes_at:Gd K "changes_at" M0 f_changes_at)
  (g_changes_above_all:Gd K "changes_above_all" B4 f_changes_above_all)
  (g_changes_below_all:Gd K "changes_below_all" B3 f_changes_below_all)
  (g_chain_of:Gd K "chain_of" V3 f_chain_of)
  (g_bound_of:Gd K "bound_of" aa1 f_bound_of)
  (g_point_within:Gd K "point_within" L9 f_point_within)
  (g__law_low:Gd K "_law_low" aa3 f__law_low)
  (g__law_urn:Gd K "_law_urn" aa2 f__law_urn)
  (g__law_draw:Gd K "_law_draw" X8 f__law_draw)
  (g__law_kind:Gd K "_law_kind" X7 f__law_kind)
  (g__law_number:Gd K "_law_number" O3 f__law_number)
  (g__law_whole:Gd K "_law_whole" Q9 f__law_whole)
  (g__law_is_number:Gd K "_law_is_number" G7 f__law_is_number)
  (g__law_other:Gd K "_law_other" T3 f__law_other)
  (g__law_trim:Gd K "_law_trim" W5 f__law_trim)
  (g__law_plus:Gd K "_law_plus" W9 f__law_plus)
  (g__law_times:Gd K "_law_times" T2 f__law_times)
  (g__law_below:Gd K "_law_below" T4 f__law_below)
  (g_stretches_of:Gd K "stretches_of" L8 f_stretches_of)
  (g__law_sign:Gd K "_law_sign" W6 f__law_sign)
  (g__law_less:Gd K "_law_less" X0 f__law_less)
  (g__law_poly_times:Gd K "_law_poly_times" F8 f__law_poly_times)
  (g__law_above:Gd K "_law_above" T5 f__law_above)
  (g__law_side:Gd K "_law_side" W7 f__law_side)
  (g__law_drawn_seen:Gd K "_law_drawn_seen" A9 f__law_drawn_seen)
  (g__law_worth:Gd K "_law_worth" Q8 f__law_worth)
  (g__law_which:Gd K "_law_which" S7 f__law_which)
  (g__law_are_stretches:Gd K "_law_are_stretches" w4 f__law_are_stretches)
  (g__law_said:Gd K "_law_said" W8 f__law_said)
  (g_law:Gd K "law" az2 f_law)
  (z_ValueError:j0q K mainGlobals "ValueError" = some none)
  (z_abs:j0q K mainGlobals "abs" = some none)
  (z_all:j0q K mainGlobals "all" = some none)
  (z_bool:j0q K mainGlobals "bool" = some none)
  (z_enumerate:j0q K mainGlobals "enumerate" = some none)
  (z_int:j0q K mainGlobals "int" = some none)
  (z_isinstance:j0q K mainGlobals "isinstance" = some none)
  (z_len:j0q K mainGlobals "len" = some none)
  (z_list:j0q K mainGlobals "list" = some none)
  (z_max:j0q K mainGlobals "max" = some none)
  (z_min:j0q K mainGlobals "min" = some none)
  (z_range:j0q K mainGlobals "range" = some none)
  (z_reversed:j0q K mainGlobals "reversed" = some none)
  (z_tuple:j0q K mainGlobals "tuple" = some none)
  (z_zip:j0q K mainGlobals "zip" = some none)
  (y_SHORT:j0q K mainGlobals "SHORT" = some (some (.int 6000 t_SHORT)))
  (y_ONE:j0q K mainGlobals "ONE" = some (some (.ref A_ONE)))
  (u_ONE:K.lookup A_ONE=some ⟨.type "tuple",td_ONE,.seq #[.int 1 tt0_ONE,.int 1 tt1_ONE] tn_ONE,ts_ONE⟩)
  (h_NoFraction:Gx K "NoFraction" C_NoFraction)
  (h_NoPolynomial:Gx K "NoPolynomial" C_NoPolynomial)
  (h_NoStretch:Gx K "NoStretch" C_NoStretch)
  (h_NoRow:Gx K "NoRow" C_NoRow)
  (h_NoPair:Gx K "NoPair" C_NoPair)
  (h_NoBack:Gx K "NoBack" C_NoBack)
  (h_NoForm:Gx K "NoForm" C_NoForm)
  (h_NoParts:Gx K "NoParts" C_NoParts)
  (h_NoDegree:Gx K "NoDegree" C_NoDegree)
  (h_NoSteps:Gx K "NoSteps" C_NoSteps)
  (h_NoBox:Gx K "NoBox" C_NoBox)
  (h_NoGain:Gx K "NoGain" C_NoGain)
  (h_NoText:Gx K "NoText" C_NoText)
  (h_NoLine:Gx K "NoLine" C_NoLine)
  (h_NoName:Gx K "NoName" C_NoName)
  (h_NoDeed:Gx K "NoDeed" C_NoDeed)
  (h_RestError:Gx K "RestError" C_RestError)
  (kt_NoPolynomial:bK3 K (⟨C_NoFraction,C_NoPolynomial,C_NoStretch,C_NoRow,C_NoPair,C_NoBack,C_NoForm,C_NoParts,C_NoDegree,C_NoSteps,C_NoBox,C_NoGain,C_NoText,C_NoLine,C_NoName,C_NoDeed,C_RestError⟩:CAd) C_NoPolynomial 1) :
  ∃ fd:FuncData,(∀ (s:Shared) (v:Value),BindsTo s fd ⟨[v],[]⟩ [("_law_script",v)])/\∀ base:Heap,K.In base->base.Ns mainGlobals mg->ak3 l.prog w K mg base CX0 7 fa fd ["_law_script"] (aU5 K):=by
 have e:=hfa.symm.trans (u0k X G g_law.a)
 cases e
 obtain ⟨_,F_law⟩:=g_law.F
 obtain ⟨oc,od,kV,doc,pm,an,cdv,ct,osl,rfl,_,_⟩:=F_law.ex
 have d_changes_of:Df K mg "changes_of" Q7 ["signs"] f_changes_of:=g_changes_of.df X G λ_ _ _ _ _ _ us hl=>by obtain ⟨_,rfl⟩:=K7 hl;rfl
 have d_common_divisor:Df K mg "common_divisor" G6 ["one","other"] f_common_divisor:=g_common_divisor.df X G λ_ _ _ _ _ _ us hl=>by obtain ⟨_,_,rfl⟩:=N2 hl;rfl
 have d_fraction:Df K mg "fraction" aa0 ["top","bottom"] f_fraction:=g_fraction.df X G λ_ _ _ _ _ _ us hl=>by obtain ⟨_,_,rfl⟩:=N2 hl;rfl
 have d_content_of:Df K mg "content_of" Q6 ["wholes"] f_content_of:=g_content_of.df X G λ_ _ _ _ _ _ us hl=>by obtain ⟨_,rfl⟩:=K7 hl;rfl
 have d_cleared:Df K mg "cleared" Y9 ["numbers"] f_cleared:=g_cleared.df X G λ_ _ _ _ _ _ us hl=>by obtain ⟨_,rfl⟩:=K7 hl;rfl
 have d_lifted:Df K mg "lifted" ac4 ["p"] f_lifted:=g_lifted.df X G λ_ _ _ _ _ _ us hl=>by obtain ⟨_,rfl⟩:=K7 hl;rfl
 have d_trimmed:Df K mg "trimmed" ae6 ["wholes"] f_trimmed:=g_trimmed.df X G λ_ _ _ _ _ _ us hl=>by obtain ⟨_,rfl⟩:=K7 hl;rfl
 have d_whole_divided:Df K mg "whole_divided" B9 ["one","other"] f_whole_divided:=g_whole_divided.df X G λ_ _ _ _ _ _ us hl=>by obtain ⟨_,_,rfl⟩:=N2 hl;rfl
 have d_whole_scaled:Df K mg "whole_scaled" G2 ["factor","wholes"] f_whole_scaled:=g_whole_scaled.df X G λ_ _ _ _ _ _ us hl=>by obtain ⟨_,_,rfl⟩:=N2 hl;rfl
 have d_whole_over:Df K mg "whole_over" Q5 ["one","other"] f_whole_over:=g_whole_over.df X G λ_ _ _ _ _ _ us hl=>by obtain ⟨_,_,rfl⟩:=N2 hl;rfl
 have d_over_content:Df K mg "over_content" G3 ["wholes"] f_over_content:=g_over_content.df X G λ_ _ _ _ _ _ us hl=>by obtain ⟨_,rfl⟩:=K7 hl;rfl
 have d_whole_slope:Df K mg "whole_slope" J4 ["wholes"] f_whole_slope:=g_whole_slope.df X G λ_ _ _ _ _ _ us hl=>by obtain ⟨_,rfl⟩:=K7 hl;rfl
 have d_whole_worth:Df K mg "whole_worth" O2 ["wholes","top","bottom"] f_whole_worth:=g_whole_worth.df X G λ_ _ _ _ _ _ us hl=>by obtain ⟨_,_,_,rfl⟩:=aL7 hl;rfl
 have d_sign_of_whole:Df K mg "sign_of_whole" K0 ["whole"] f_sign_of_whole:=g_sign_of_whole.df X G λ_ _ _ _ _ _ us hl=>by obtain ⟨_,rfl⟩:=K7 hl;rfl
 have d_sign_at:Df K mg "sign_at" ae7 ["wholes","top","bottom"] f_sign_at:=g_sign_at.df X G λ_ _ _ _ _ _ us hl=>by obtain ⟨_,_,_,rfl⟩:=aL7 hl;rfl
 have d_changes_at:Df K mg "changes_at" M0 ["chain","top","bottom"] f_changes_at:=g_changes_at.df X G λ_ _ _ _ _ _ us hl=>by obtain ⟨_,_,_,rfl⟩:=aL7 hl;rfl
 have d_changes_above_all:Df K mg "changes_above_all" B4 ["chain"] f_changes_above_all:=g_changes_above_all.df X G λ_ _ _ _ _ _ us hl=>by obtain ⟨_,rfl⟩:=K7 hl;rfl
 have d_changes_below_all:Df K mg "changes_below_all" B3 ["chain"] f_changes_below_all:=g_changes_below_all.df X G λ_ _ _ _ _ _ us hl=>by obtain ⟨_,rfl⟩:=K7 hl;rfl
 have d_chain_of:Df K mg "chain_of" V3 ["p"] f_chain_of:=g_chain_of.df X G λ_ _ _ _ _ _ us hl=>by obtain ⟨_,rfl⟩:=K7 hl;rfl
 have d_bound_of:Df K mg "bound_of" aa1 ["wholes"] f_bound_of:=g_bound_of.df X G λ_ _ _ _ _ _ us hl=>by obtain ⟨_,rfl⟩:=K7 hl;rfl
 have d_point_within:Df K mg "point_within" L9 ["wholes","low","high","bottom"] f_point_within:=g_point_within.df X G λ_ _ _ _ _ _ us hl=>by obtain ⟨_,_,_,_,rfl⟩:=bM0 hl;rfl
 have d__law_low:Df K mg "_law_low" aa3 ["_law_top","_law_bottom"] f__law_low:=g__law_low.df X G λ_ _ _ _ _ _ us hl=>by obtain ⟨_,_,rfl⟩:=N2 hl;rfl
 have d__law_urn:Df K mg "_law_urn" aa2 ["_law_script","_law_at"] f__law_urn:=g__law_urn.df X G λ_ _ _ _ _ _ us hl=>by obtain ⟨_,_,rfl⟩:=N2 hl;rfl
 have d__law_draw:Df K mg "_law_draw" X8 ["_law_urn_here","_law_many"] f__law_draw:=g__law_draw.df X G λ_ _ _ _ _ _ us hl=>by obtain ⟨_,_,rfl⟩:=N2 hl;rfl
 have d__law_kind:Df K mg "_law_kind" X7 ["_law_urn_here"] f__law_kind:=g__law_kind.df X G λ_ _ _ _ _ _ us hl=>by obtain ⟨_,rfl⟩:=K7 hl;rfl
 have d__law_number:Df K mg "_law_number" O3 ["_law_urn_here","_law_kind_here"] f__law_number:=g__law_number.df X G λ_ _ _ _ _ _ us hl=>by obtain ⟨_,_,rfl⟩:=N2 hl;rfl
 have d__law_whole:Df K mg "_law_whole" Q9 ["_law_thing"] f__law_whole:=g__law_whole.df X G λ_ _ _ _ _ _ us hl=>by obtain ⟨_,rfl⟩:=K7 hl;rfl
 have d__law_is_number:Df K mg "_law_is_number" G7 ["_law_thing"] f__law_is_number:=g__law_is_number.df X G λ_ _ _ _ _ _ us hl=>by obtain ⟨_,rfl⟩:=K7 hl;rfl
 have d__law_other:Df K mg "_law_other" T3 ["_law_urn_here","_law_kind_here"] f__law_other:=g__law_other.df X G λ_ _ _ _ _ _ us hl=>by obtain ⟨_,_,rfl⟩:=N2 hl;rfl
 have d__law_trim:Df K mg "_law_trim" W5 ["_law_numbers"] f__law_trim:=g__law_trim.df X G λ_ _ _ _ _ _ us hl=>by obtain ⟨_,rfl⟩:=K7 hl;rfl
 have d__law_plus:Df K mg "_law_plus" W9 ["_law_one","_law_other_here"] f__law_plus:=g__law_plus.df X G λ_ _ _ _ _ _ us hl=>by obtain ⟨_,_,rfl⟩:=N2 hl;rfl
 have d__law_times:Df K mg "_law_times" T2 ["_law_one","_law_other_here"] f__law_times:=g__law_times.df X G λ_ _ _ _ _ _ us hl=>by obtain ⟨_,_,rfl⟩:=N2 hl;rfl
 have d__law_below:Df K mg "_law_below" T4 ["_law_one","_law_other_here"] f__law_below:=g__law_below.df X G λ_ _ _ _ _ _ us hl=>by obtain ⟨_,_,rfl⟩:=N2 hl;rfl
 have d_stretches_of:Df K mg "stretches_of" L8 ["p"] f_stretches_of:=g_stretches_of.df X G λ_ _ _ _ _ _ us hl=>by obtain ⟨_,rfl⟩:=K7 hl;rfl
 have d__law_sign:Df K mg "_law_sign" W6 ["_law_number_here"] f__law_sign:=g__law_sign.df X G λ_ _ _ _ _ _ us hl=>by obtain ⟨_,rfl⟩:=K7 hl;rfl
 have d__law_less:Df K mg "_law_less" X0 ["_law_one","_law_other_here"] f__law_less:=g__law_less.df X G λ_ _ _ _ _ _ us hl=>by obtain ⟨_,_,rfl⟩:=N2 hl;rfl
 have d__law_poly_times:Df K mg "_law_poly_times" F8 ["_law_p","_law_q"] f__law_poly_times:=g__law_poly_times.df X G λ_ _ _ _ _ _ us hl=>by obtain ⟨_,_,rfl⟩:=N2 hl;rfl
 have d__law_above:Df K mg "_law_above" T5 ["_law_urn_here","_law_kind_here"] f__law_above:=g__law_above.df X G λ_ _ _ _ _ _ us hl=>by obtain ⟨_,_,rfl⟩:=N2 hl;rfl
 have d__law_side:Df K mg "_law_side" W7 ["_law_c","_law_root"] f__law_side:=g__law_side.df X G λ_ _ _ _ _ _ us hl=>by obtain ⟨_,_,rfl⟩:=N2 hl;rfl
 have d__law_drawn_seen:Df K mg "_law_drawn_seen" A9 ["_law_urn_here","_law_kind_here","_law_room"] f__law_drawn_seen:=g__law_drawn_seen.df X G λ_ _ _ _ _ _ us hl=>by obtain ⟨_,_,_,rfl⟩:=aL7 hl;rfl
 have d__law_worth:Df K mg "_law_worth" Q8 ["_law_p","_law_x"] f__law_worth:=g__law_worth.df X G λ_ _ _ _ _ _ us hl=>by obtain ⟨_,_,rfl⟩:=N2 hl;rfl
 have d__law_which:Df K mg "_law_which" S7 ["_law_e"] f__law_which:=g__law_which.df X G λ_ _ _ _ _ _ us hl=>by obtain ⟨_,rfl⟩:=K7 hl;rfl
 have d__law_are_stretches:Df K mg "_law_are_stretches" w4 ["_law_p","_law_roots","_law_found"] f__law_are_stretches:=g__law_are_stretches.df X G λ_ _ _ _ _ _ us hl=>by obtain ⟨_,_,_,rfl⟩:=aL7 hl;rfl
 have d__law_said:Df K mg "_law_said" W8 ["_law_p"] f__law_said:=g__law_said.df X G λ_ _ _ _ _ _ us hl=>by obtain ⟨_,rfl⟩:=K7 hl;rfl
 have n_ValueError:=j0a X G z_ValueError
 have n_abs:=j0a X G z_abs
 have n_all:=j0a X G z_all
 have n_bool:=j0a X G z_bool
 have n_enumerate:=j0a X G z_enumerate
 have n_int:=j0a X G z_int
 have n_isinstance:=j0a X G z_isinstance
 have n_len:=j0a X G z_len
 have n_list:=j0a X G z_list
 have n_max:=j0a X G z_max
 have n_min:=j0a X G z_min
 have n_range:=j0a X G z_range
 have n_reversed:=j0a X G z_reversed
 have n_tuple:=j0a X G z_tuple
 have n_zip:=j0a X G z_zip
 have c_SHORT:=u0k X G y_SHORT
 have c_ONE:=u0k X G y_ONE
 have t_ONE:∀ H:Hp,SqT K H A_ONE [.int 1,.int 1]:=λH=>.inr ⟨_,_,_,u_ONE,rfl,rfl,(show 2<=sizeLine by decide),(.cons ⟨_,rfl⟩ (.cons ⟨_,rfl⟩ .nil))⟩
 have X_NoFraction:=h_NoFraction.t X G
 have X_NoPolynomial:=h_NoPolynomial.t X G
 have X_NoStretch:=h_NoStretch.t X G
 have X_NoRow:=h_NoRow.t X G
 have X_NoPair:=h_NoPair.t X G
 have X_NoBack:=h_NoBack.t X G
 have X_NoForm:=h_NoForm.t X G
 have X_NoParts:=h_NoParts.t X G
 have X_NoDegree:=h_NoDegree.t X G
 have X_NoSteps:=h_NoSteps.t X G
 have X_NoBox:=h_NoBox.t X G
 have X_NoGain:=h_NoGain.t X G
 have X_NoText:=h_NoText.t X G
 have X_NoLine:=h_NoLine.t X G
 have X_NoName:=h_NoName.t X G
 have X_NoDeed:=h_NoDeed.t X G
 have X_RestError:=h_RestError.t X G
 have XX:XTx K mg (⟨C_NoFraction,C_NoPolynomial,C_NoStretch,C_NoRow,C_NoPair,C_NoBack,C_NoForm,C_NoParts,C_NoDegree,C_NoSteps,C_NoBox,C_NoGain,C_NoText,C_NoLine,C_NoName,C_NoDeed,C_RestError⟩:CAd):=⟨X_NoFraction,X_NoPolynomial,X_NoStretch,X_NoRow,X_NoPair,X_NoBack,X_NoForm,X_NoParts,X_NoDegree,X_NoSteps,X_NoBox,X_NoGain,X_NoText,X_NoLine,X_NoName,X_NoDeed⟩
 refine ⟨v0t "law" "law" (af5 az2) (M4 az2) (c6 az2) .none kV doc pm an cdv ct,λs v=>.of_eq rfl,λbase _ _=>?_⟩
 have G_changes_of:=aw8 (P:=l.prog) (w:=w) (base:=base) d_changes_of
 have G_common_divisor:=ai9 (P:=l.prog) (w:=w) (base:=base) d_common_divisor ⟨_,c_SHORT⟩ n_abs
 have G_fraction:=aK7 (P:=l.prog) (w:=w) (base:=base) d_fraction G_common_divisor
 have G_content_of:=aw7 (P:=l.prog) (w:=w) (base:=base) d_content_of G_common_divisor
 have G_cleared:=aQ5 (P:=l.prog) (w:=w) (base:=base) d_cleared G_common_divisor
 have GP_lifted:=aQ6 (P:=l.prog) (w:=w) (base:=base) d_lifted G_cleared G_content_of c_ONE t_ONE
 have G_trimmed:=aQ3 (P:=l.prog) (w:=w) (base:=base) d_trimmed n_len
 have GD_whole_divided:=aj1 (P:=l.prog) (w:=w) (base:=base) d_whole_divided G_trimmed n_len n_max n_list n_abs n_enumerate
 have G_whole_scaled:=ao8 (P:=l.prog) (w:=w) (base:=base) d_whole_scaled G_trimmed
 have G_over_content:=ap2 (P:=l.prog) (w:=w) (base:=base) d_over_content G_content_of n_list
 have G_whole_slope:=as9 (P:=l.prog) (w:=w) (base:=base) d_whole_slope n_len n_range
 have G_whole_worth:=as8 (P:=l.prog) (w:=w) (base:=base) d_whole_worth n_reversed
 have G_sign_of_whole:=al3 (P:=l.prog) (w:=w) (base:=base) d_sign_of_whole
 have G_sign_at:=aQ4 (P:=l.prog) (w:=w) (base:=base) d_sign_at G_sign_of_whole G_whole_worth
 have G_changes_at:=aw9 (P:=l.prog) (w:=w) (base:=base) d_changes_at G_changes_of G_sign_at
 have G_changes_above_all:=ac8 (P:=l.prog) (w:=w) (base:=base) d_changes_above_all G_changes_of
 have G_changes_below_all:=ac7 (P:=l.prog) (w:=w) (base:=base) d_changes_below_all G_changes_of n_len
 have GD_whole_over:=at3 (P:=l.prog) (w:=w) (base:=base) d_whole_over GD_whole_divided
 have G_chain_of:=aK8 (P:=l.prog) (w:=w) (base:=base) d_chain_of GP_lifted G_over_content G_whole_slope GD_whole_divided G_whole_scaled GD_whole_over
 have G_bound_of:=aK9 (P:=l.prog) (w:=w) (base:=base) d_bound_of n_len n_range n_max
 have G_point_within:=ap1 (P:=l.prog) (w:=w) (base:=base) d_point_within G_whole_worth
 have G__law_low:=aL1 (P:=l.prog) (w:=w) (base:=base) d__law_low n_abs
 have G__law_urn:=aL0 (P:=l.prog) (w:=w) (base:=base) d__law_urn n_len n_abs
 have G__law_draw:=aG1 (P:=l.prog) (w:=w) (base:=base) d__law_draw
 have G__law_kind:=aG0 (P:=l.prog) (w:=w) (base:=base) d__law_kind G__law_draw
 have G__law_whole:=ax1 (P:=l.prog) (w:=w) (base:=base) d__law_whole n_isinstance n_int n_bool
 have G__law_is_number:=aj0 (P:=l.prog) (w:=w) (base:=base) d__law_is_number G__law_whole G__law_low n_isinstance n_tuple n_len
 have G__law_trim:=aF4 (P:=l.prog) (w:=w) (base:=base) d__law_trim n_list
 have G__law_plus:=aF8 (P:=l.prog) (w:=w) (base:=base) d__law_plus G__law_low
 have G__law_times:=ax3 (P:=l.prog) (w:=w) (base:=base) d__law_times G__law_low
 have G__law_below:=ax4 (P:=l.prog) (w:=w) (base:=base) d__law_below
 have G_stretches_of:=ao9 (P:=l.prog) (w:=w) (base:=base) d_stretches_of G_chain_of G_bound_of G_changes_below_all G_changes_above_all G_changes_at G_point_within G_fraction X_NoPolynomial
 have G__law_sign:=aF5 (P:=l.prog) (w:=w) (base:=base) d__law_sign n_int
 have G__law_less:=aF9 (P:=l.prog) (w:=w) (base:=base) d__law_less G__law_low
 have G__law_poly_times:=ah2 (P:=l.prog) (w:=w) (base:=base) d__law_poly_times G__law_plus G__law_times G__law_trim n_len n_enumerate
 have GP__law_number:=ap3 (P:=l.prog) (w:=w) (base:=base) d__law_number G__law_draw G__law_low n_int
 have GP__law_other:=at2 (P:=l.prog) (w:=w) (base:=base) d__law_other G__law_draw GP__law_number
 have G__law_above:=ax5 (P:=l.prog) (w:=w) (base:=base) d__law_above GP__law_other n_abs
 have G__law_side:=aF6 (P:=l.prog) (w:=w) (base:=base) d__law_side G__law_less G__law_sign G__law_times
 have G__law_drawn_seen:=ah3 (P:=l.prog) (w:=w) (base:=base) d__law_drawn_seen G__law_draw GP__law_number GP__law_other G__law_above G__law_poly_times G__law_less G__law_times G__law_plus G__law_below n_range n_len
 have G__law_worth:=ax0 (P:=l.prog) (w:=w) (base:=base) d__law_worth G__law_plus G__law_times n_reversed
 have G__law_which:=ax2 (P:=l.prog) (w:=w) (base:=base) d__law_which XX n_isinstance n_ValueError
 have G__law_are_stretches:=ab6 (P:=l.prog) (w:=w) (base:=base) d__law_are_stretches G__law_is_number G__law_below G__law_worth G__law_side n_isinstance n_list n_tuple n_len n_zip n_all
 have G__law_said:=aF7 (P:=l.prog) (w:=w) (base:=base) d__law_said G_stretches_of G__law_which X_RestError kt_NoPolynomial
 exact bE8 (P:=l.prog) (w:=w) (base:=base) F_law G__law_urn G__law_kind G__law_drawn_seen G__law_said G__law_are_stretches n_range n_max n_min n_len n_list
end
theorem bN8 {l:q1r} {q:Program} {loose:List Str} {XP:(Str->Option Value)->Heap->Prop} {YP:World->Heap->Prop} {d:DefRec} {K:Params->q0a} (hn:l.most=some 63) (hdf:d.params.defaults=[])
  (hY:∀ (w:World) (h:Heap),YP w h->(K w.params).In h)
  (F:∀ (w:World) (mg:Str->Option Value) (fa:Addr) (h:Heap),(K w.params).In h->h.Ns mainGlobals mg->mg d.name=some (.ref fa) ->
   ∃ fd:FuncData,(∀ (s:Shared) (u:Value),BindsTo s fd ⟨[u],[]⟩ [("_law_script",u)])/\∀ base:Heap,(K w.params).In base->base.Ns mainGlobals mg->ak3 l.prog w (K w.params) mg base CX0 7 fa fd ["_law_script"] (aU5 (K w.params))) :
  PySem.W.WalkO q loose XP YP l.row.toRowW d [] (λf vs=>PySem.call f vs) :=
 L2.aT7 (n:=63) (k:=7) (x := "_law_script") (CX:=λ_=>CX0) (sp:=λw=>aU5 (K w.params)) hn (by decide) hdf ⟨rfl,by decide,by decide⟩ hY F (λ_ _ a ns hl _ hS=>⟨a,ns,rfl,hS,hl,λ_=>rfl⟩) λ_ _ _ _ _ z=>z
end R
local macro_rules | `(tactic|left) => `(tactic|exact ⟨by k_is, _, L2.bH7 (by k_is) (by k_is) (by k_is)⟩)
local macro_rules | `(tactic|right) => `(tactic|exact ⟨by k_is, by k_exc, by (refine ⟨?_, ?_, ?_, ?_, ?_, ?_⟩ <;> first | k_is | kernel_rfl)⟩)
open PySem PySem.W PyProof.Rows
set_option maxRecDepth 100000 in
theorem PySem.Challenge.cw_restward_k11_stretches_told_holds : PySem.Challenge.rw_restward_k11_stretches_told.Holds := by
  w_on;o_law;k_head;(case hw=>w_witness2)
  k_fill
  refine R.bN8 (l:=PySem.Challenge.rw_restward_k11_stretches_told) rfl rfl (λw h Y=>PySem.W.kIn_of Y) ?F
  case F =>
    intro w mg fa h KX G hmg
    refine' R.bJ7 KX G hmg ?g_changes_of ?g_common_divisor ?g_fraction ?g_content_of ?g_cleared ?g_lifted ?g_trimmed ?g_whole_divided ?g_whole_scaled ?g_whole_over ?g_over_content ?g_whole_slope ?g_whole_worth ?g_sign_of_whole ?g_sign_at ?g_changes_at ?g_changes_above_all ?g_changes_below_all ?g_chain_of ?g_bound_of ?g_point_within ?g__law_low ?g__law_urn ?g__law_draw ?g__law_kind ?g__law_number ?g__law_whole ?g__law_is_number ?g__law_other ?g__law_trim ?g__law_plus ?g__law_times ?g__law_below ?g_stretches_of ?g__law_sign ?g__law_less ?g__law_poly_times ?g__law_above ?g__law_side ?g__law_drawn_seen ?g__law_worth ?g__law_which ?g__law_are_stretches ?g__law_said ?g_law ?z_ValueError ?z_abs ?z_all ?z_bool ?z_enumerate ?z_int ?z_isinstance ?z_len ?z_list ?z_max ?z_min ?z_range ?z_reversed ?z_tuple ?z_zip ?y_SHORT ?y_ONE ?u_ONE ?h_NoFraction ?h_NoPolynomial ?h_NoStretch ?h_NoRow ?h_NoPair ?h_NoBack ?h_NoForm ?h_NoParts ?h_NoDegree ?h_NoSteps ?h_NoBox ?h_NoGain ?h_NoText ?h_NoLine ?h_NoName ?h_NoDeed ?h_RestError ?kt_NoPolynomial
    (case g_changes_of=>left)
    (case g_common_divisor=>left)
    (case g_fraction=>left)
    (case g_content_of=>left)
    (case g_cleared=>left)
    (case g_lifted=>left)
    (case g_trimmed=>left)
    (case g_whole_divided=>left)
    (case g_whole_scaled=>left)
    (case g_whole_over=>left)
    (case g_over_content=>left)
    (case g_whole_slope=>left)
    (case g_whole_worth=>left)
    (case g_sign_of_whole=>left)
    (case g_sign_at=>left)
    (case g_changes_at=>left)
    (case g_changes_above_all=>left)
    (case g_changes_below_all=>left)
    (case g_chain_of=>left)
    (case g_bound_of=>left)
    (case g_point_within=>left)
    (case g__law_low=>left)
    (case g__law_urn=>left)
    (case g__law_draw=>left)
    (case g__law_kind=>left)
    (case g__law_number=>left)
    (case g__law_whole=>left)
    (case g__law_is_number=>left)
    (case g__law_other=>left)
    (case g__law_trim=>left)
    (case g__law_plus=>left)
    (case g__law_times=>left)
    (case g__law_below=>left)
    (case g_stretches_of=>left)
    (case g__law_sign=>left)
    (case g__law_less=>left)
    (case g__law_poly_times=>left)
    (case g__law_above=>left)
    (case g__law_side=>left)
    (case g__law_drawn_seen=>left)
    (case g__law_worth=>left)
    (case g__law_which=>left)
    (case g__law_are_stretches=>left)
    (case g__law_said=>left)
    (case g_law=>left)
    (case z_ValueError=>k_is)
    (case z_abs=>k_is)
    (case z_all=>k_is)
    (case z_bool=>k_is)
    (case z_enumerate=>k_is)
    (case z_int=>k_is)
    (case z_isinstance=>k_is)
    (case z_len=>k_is)
    (case z_list=>k_is)
    (case z_max=>k_is)
    (case z_min=>k_is)
    (case z_range=>k_is)
    (case z_reversed=>k_is)
    (case z_tuple=>k_is)
    (case z_zip=>k_is)
    (case y_SHORT=>k_is)
    (case y_ONE=>k_is);(case u_ONE=>k_is)
    (case h_NoFraction=>right)
    (case h_NoPolynomial=>right)
    (case h_NoStretch=>right)
    (case h_NoRow=>right)
    (case h_NoPair=>right)
    (case h_NoBack=>right)
    (case h_NoForm=>right)
    (case h_NoParts=>right)
    (case h_NoDegree=>right)
    (case h_NoSteps=>right)
    (case h_NoBox=>right)
    (case h_NoGain=>right)
    (case h_NoText=>right)
    (case h_NoLine=>right)
    (case h_NoName=>right)
    (case h_NoDeed=>right)
    (case h_RestError=>right)
    (case kt_NoPolynomial=>(refine ⟨?_,?_,?_,?_,?_,?_,?_,?_,?_,?_,?_,?_,?_,?_,?_,?_,?_,?_,?_⟩ <;> first | kernel_rfl | (refine ⟨?_,?_,?_,?_,?_,?_⟩ <;> first | k_is | kernel_rfl)))
