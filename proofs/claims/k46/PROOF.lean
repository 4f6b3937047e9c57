import PyProof.Rows.All
import Wide.All
import OpenK.AllK
import Wide.FinOn
import PyProof.EqAt
import PyProof.EqKinds
import PyProof.TupleCall
import KE.KTryMore
import KE.KIsNot
import PyProof.MeetsStr
import PyProof.Rows.RuleM_int
import PyProof.CompFree
import PyProof.WalksEnum
import PyProof.EnumMake
import PyProof.NeKinds
import PyProof.ConsumeWalk
import PyProof.CompMap
import PyProof.Rows.EqBoolInt
import KE.IntBitsLaws
import PyProof.ZipIter
import PyProof.Rows.ZipGen
import PyProof.MinMaxWalk
import PyProof.WalkInts
import PyProof.Rows.CallKwBuiltin
import PyProof.CompUse
import KE.KRevIter
import PyProof.Rows.Range3
import PyProof.NsDelKeeps
import PyProof.SumAny
import PyProof.TupleIter
import PyProof.WalksMore
import PyProof.ListRange
import PyProof.CollectStr
import PyProof.TupleOfStr
import PySem.Challenge.RW_restward_k46_walks_and_turns
open PySem.W renaming Frag→q0a,kitOne→z0h,mg_none_of→z0u,nsIn→z0y,kia_one→j0s,keepIn→y0m,mg_of→v0h,fnOf→v0p,hideAll_get→v0t,findIn→u0n,cellsFrom_some→u0v,methodObj→g0z,instObj→m0j,hideAll→m0k,OpenLaw→m0m,lookIn→m0u,codeIn→m0v,excIn→m0z
open Nat renaming lt_of_lt_of_le→q0b,le_refl→q0h,lt_of_le_of_lt→q0p,ne_of_lt→q0q,le_trans→q0s,pow_add→z0f,mul_lt_mul''→z0g,zero_le→z0s,mul_le_mul_left→z0v,mul_pos→j0a,pow_le_pow_right→j0f,lt_or_ge→j0h,le_succ→j0j,lt_succ_self→j0n,lt_irrefl→j0r,le_add_right→y0j,ne_of_gt→y0q,le_mul_of_pos_right→y0v,mul_le_mul→y0y,le_mul_of_pos_left→v0a,le_of_lt→v0b,mul_succ→v0e,two_pow_pos→v0g,lt_succ_of_lt→v0j,mul_le_mul_right→v0k,pow_succ→v0r,mul_comm→v0z,lcm→g0b,eq_zero_or_pos→g0v,mul_lt_mul_of_pos_right→g0w,le_of_dvd→g0y,succ_mul→m0d,add_comm→m0e,add_sub_cancel_left→m0h,Coprime→q1p,mul_one→q1q,one_mul→q1s,pow_pos→q1t
open List renaming mem_of_getElem?→q0c,getElem?_eq_getElem→q0d,length_map→q0e,getElem?_eq_some_iff→q0g,mem_append_right→q0k,getElem?_map→q0m,size_toArray→q0r,mem_cons_of_mem→q0u,length_take→q0v,replicate→z0a,mem_cons_self→z0c,mem_singleton→z0d,mem_map→z0e,mem_cons→z0m,getElem?_eq_none→z0p,Nodup→z0q,range→z0r,mem_append→z0t,length_append→z0z,mem_iff_getElem?→j0b,getElem?_append_right→j0c,map_cons→j0d,getElem?_append_left→j0e,length_cons→j0m,mem_or_eq_of_mem_set→j0p,mem_of_mem_take→j0w,length_range→y0b,nodup_cons→y0c,length_set→y0d,filterMap_cons→y0f,take_length→y0k,length_replicate→y0n,getElem?_zipWith→y0p,foldl_cons→y0r,map_append→y0t,getElem?_replicate→y0u,getElem?_range→y0w,length_singleton→v0f,lookup_cons→v0q,replicate_succ→v0u,length_zipWith→v0v,zipWith→u0b,length_drop→u0c,length_pos_iff→u0f,getElem?_take_of_lt→u0j,mem_range→u0m,getElem?_cons_succ→u0p,flatten_cons→u0r,ext_getElem?→u0s,getElem?_set→u0t,getElem?_set_self→u0u,take_of_length_le→u0x,zipWith_cons_cons→u0y,mem_flatten→g0a,mem_append_left→g0d,getElem?_set_ne→g0e,append_nil→g0g,of_mem_zip→g0h,take_succ→g0s,mem_filterMap→g0u,all_cons→g0x,getElem?_zip_eq_some→m0c,all_eq_true→m0f,not_mem_nil→m0g,forIn_nil→m0x,map_congr_left→q1c,zipWith_append→q1d,length_flatten→q1e,map_nil→q1g
open PySem.Heap renaming lt_size→q0f,get?_push_of_some→q0j,get?_push_size→z0b,size_push→z0n,get?_update_other→j0x,SameBut→v0c,IsTuple→v0d,get?_update_self→v0y,FlyingW→q1h
open Bool renaming false_ne_true→q0t,and_eq_true→j0u,not_eq_true'→v0x,eq_iff_iff→g0f,or_eq_true→m0n
open Int renaming natAbs_natCast→q0w,gcd→q0y,natAbs_mul→z0k,gcd_dvd_right→j0q,natCast_mul→j0t,gcd_dvd_left→j0v,natAbs→j0y,mul_comm→y0g,dvd_trans→y0h,gcd_eq_natAbs_gcd_natAbs→y0x,fmod_nonneg_of_pos→y0z,natAbs_neg→v0n,fmod_lt_of_pos→v0w,natAbs_dvd_natAbs→u0a,dvd_mul_left→u0d,natCast_dvd_natCast→u0q,mul_pos→u0w,toNat→g0c,lt_or_le→g0j,ne_of_gt→g0k,mul_ne_zero→g0p,mul_nonneg→g0r,mul_neg→g0t,natAbs_add_le→m0a,toNat_natCast→m0b,mul_assoc→q1a,toNat_of_nonneg→q1f,gcd_comm→q1j,le_of_lt→q1k,zero_add→q1m,mul_one→q1n,dvd_gcd→q1r
open Or renaming inl→q0x,inr→z0w
open Rat renaming divInt→q0z,num_divInt_den→z0j,intCast_inj→z0x,mul_inv_cancel→j0g,divInt_eq_div→j0k,intCast_mul→j0z,divInt_mul_divInt→y0a,intCast_neg→y0e,divInt_eq_divInt_iff→y0s,div_def→v0m,intCast_zero→v0s,neg_num→u0e,mul_eq_zero→u0g,div_mul_cancel→u0k,neg_den→u0z,num_intCast→g0m,den_intCast→g0n,mul_comm→g0q,num_eq_zero→m0p,intCast_add→m0q,one_mul→m0s,mul_one→m0t,divInt_add_divInt→m0w,divInt_mul_right→m0y
open Option renaming isSome_iff_exists→u0h,map_some→m0r
open Array renaming length_toList→q1b
set_option Elab.async false
set_option linter.all false
local macro_rules | `(def $i:declId $s:optDeclSig $v:declVal) => `(noncomputable def $i:declId $s:optDeclSig $v:declVal)
local macro_rules | `(abbrev $i:declId $s:optDeclSig $v:declVal) => `(noncomputable abbrev $i:declId $s:optDeclSig $v:declVal)
local macro_rules | `(⋯) => `(by omega)
set_option maxHeartbeats 0
noncomputable section
-- CHANGE: your row's module here,as the last of these rows
set_option maxRecDepth 100000
namespace L2
open PySem PySem.Spec PyProof.Rows
abbrev Key:=Sum Int Str
def bt8:Key->Value->Bool
 | .inl k,v=>Value.isInt k v
 | .inr x,v=>Value.isStrOf x v
def bC1 (w:World):Key->Int
 | .inl k=>hashInt k
 | .inr x=>hashStr w x
theorem M8:∀ {k:Key} {v:Value},bt8 k v=true->(∃ i t,k=Sum.inl i/\v=Value.int i t) \/ (∃ x t,k=Sum.inr x/\v=Value.str x t)
 | .inl i,v,h=>by
  obtain ⟨t,e⟩:=Value.isInt_shape (k:=i) (v:=v) h;exact .inl ⟨i,t,rfl,e⟩
 | .inr x,v,h=>by
  obtain ⟨t,e⟩:=Value.isStrOf_shape (x:=x) (v:=v) h;exact .inr ⟨x,t,rfl,e⟩
theorem bx7 (a b:Int):decide ((Sum.inl a:Key)=Sum.inl b)=(a == b):=by
 by_cases e:a=b
 ·subst e;simp
 ·have h:¬ (Sum.inl a:Key)=Sum.inl b:=λq=>e (Sum.inl.inj q)
  rw [decide_eq_false h];exact (beq_eq_false_iff_ne.mpr e).symm
theorem bx4 (a b:Str):decide ((Sum.inr a:Key)=Sum.inr b)=decide (a=b):=by
 by_cases e:a=b
 ·subst e;simp
 ·have h:¬ (Sum.inr a:Key)=Sum.inr b:=λq=>e (Sum.inr.inj q)
  rw [decide_eq_false h,decide_eq_false e]
theorem bx6 (a:Int) (b:Str):decide ((Sum.inl a:Key)=Sum.inr b)=false:=decide_eq_false (λq=>nomatch q)
theorem bx5 (a:Str) (b:Int):decide ((Sum.inr a:Key)=Sum.inl b)=false:=decide_eq_false (λq=>nomatch q)
def aO5 (prog:Program) (w:World):PySem.KeyKind prog w Key where
 is:=bt8
 hash:=bC1 w
 inj:=λv a b ha hb=>by
  rcases M8 ha with ⟨i,t,rfl,rfl⟩ | ⟨x,t,rfl,rfl⟩
  ·rcases M8 hb with ⟨j,u,rfl,e⟩ | ⟨y,u,rfl,e⟩
   ·injection e with e1 _;rw [e1]
   ·exact nomatch e
  ·rcases M8 hb with ⟨j,u,rfl,e⟩ | ⟨y,u,rfl,e⟩
   ·exact nomatch e
   ·injection e with e1 _;rw [e1]
 byValue:=λk v h=>by
  rcases M8 h with ⟨i,t,rfl,rfl⟩ | ⟨x,t,rfl,rfl⟩ <;> rfl
 pyHash:=λhv h=>by
  rcases M8 hv with ⟨i,t,rfl,rfl⟩ | ⟨x,t,rfl,rfl⟩
  ·exact wpAny_pyHash_int h
  ·exact wpAny_pyHash_str h
 eqBool:=λhu hv h=>by
  rcases M8 hu with ⟨i,t,rfl,rfl⟩ | ⟨x,t,rfl,rfl⟩
  ·rcases M8 hv with ⟨j,u,rfl,rfl⟩ | ⟨y,u,rfl,rfl⟩
   ·rw [bx7] at h;exact wpAny_eqBool_int h
   ·rw [bx6] at h;exact SeqAt.EqAt.int_str i t y u _ _ _ _ h
  ·rcases M8 hv with ⟨j,u,rfl,rfl⟩ | ⟨y,u,rfl,rfl⟩
   ·rw [bx5] at h;exact SeqAt.EqAt.str_int x t j u _ _ _ _ h
   ·rw [bx4] at h;exact wpAny_eqBool_str h
 «strs» := λk x t v h=>by
  rcases M8 h with ⟨i,u,rfl,e⟩ | ⟨y,u,rfl,e⟩
  ·exact nomatch e
  ·injection e with e1 _
   subst e1
   cases v <;> rfl
inductive V where
 | non | bl (b:Bool) | int (i:Int) | str (x:Str) | byt (b:Array UInt8) | flt (b:UInt64) | ref (a:Addr) | ty (n:String)
 deriving DecidableEq
def G2:V->Value->Prop
 | .non,u=>u=Value.none
 | .bl b,u=>u=Value.bool b
 | .int i,u => ∃ t,u=Value.int i t
 | .str x,u => ∃ t,u=Value.str x t
 | .byt b,u => ∃ t,u=Value.bytes b t
 | .flt b,u => ∃ t,u=Value.float b t
 | .ref a,u=>u=Value.ref a
 | .ty n,u=>u=Value.type n
abbrev A7:List V->List Value->Prop:=Paired G2
theorem A7.length {xs:List V} {us:List Value} (r:A7 xs us):xs.length=us.length:=Paired.length r
theorem A7.get:∀ {xs:List V} {us:List Value} {i:Nat} {x:V},A7 xs us->xs[i]? = some x->∃ u,us[i]? = some u/\G2 x u
 | _,_,_,_,.nil,e=>by simp at e
 | _,_,0,_,.cons r _,e=>by simp at e;subst e;exact ⟨_,rfl,r⟩
 | _,_,i+1,x,.cons _ t,e=>by
  obtain ⟨u,h1,h2⟩:=A7.get (i:=i) (x:=x) t (by simpa using e)
  exact ⟨u,by simpa using h1,h2⟩
theorem A7.set {x:V} {u:Value} (r:G2 x u):∀ {xs:List V} {us:List Value} (i:Nat),A7 xs us->A7 (xs.set i x) (us.set i u)
 | _,_,_,.nil=>.nil
 | _,_,0,.cons _ t=>.cons r t
 | _,_,i+1,.cons q t=>.cons q (A7.set r i t)
theorem A7.append:∀ {xs ys:List V} {us ws:List Value},A7 xs us->A7 ys ws->A7 (xs ++ ys) (us ++ ws)
 | _,_,_,_,.nil,s=>s
 | _,_,_,_,.cons r t,s=>.cons r (A7.append t s)
theorem A7.take:∀ {xs:List V} {us:List Value} (n:Nat),A7 xs us->A7 (xs.take n) (us.take n)
 | _,_,0,_=>.nil
 | _,_,_+1,.nil=>.nil
 | _,_,n+1,.cons r t=>.cons r (A7.take n t)
theorem A7.drop:∀ {xs:List V} {us:List Value} (n:Nat),A7 xs us->A7 (xs.drop n) (us.drop n)
 | _,_,0,r=>r
 | _,_,_+1,.nil=>.nil
 | _,_,n+1,.cons _ t=>A7.drop n t
def bz2:Option V->Option Value->Prop
 | some v,some u=>G2 v u
 | none,none=>True
 | _,_=>False
def KV {κ:Type}:List (κ × V)->List (κ × Value)->Prop:=Paired λ(p:κ × V) (q:κ × Value)=>p.1=q.1/\G2 p.2 q.2
def kV:Key->V
 | .inl i=>.int i
 | .inr x=>.str x
inductive HO where
  | lst (xs:List V)
  | tup (xs:List V)
  | dK (kvs:List (Key × V)) | dT (kvs:List (List Key × V))
  | set (S:Int->Bool) (n:Nat)
  | ins (C dx:Addr) (fs:List (Str × V))
  | own (x:Addr)
  | xd (fs:List (Str × V))
  | met (f x:Addr)
  | rng (lo hi:Int)
  | frz (o:Obj) (u:HO)
  | tbl (ps:Array Value)
  | ext (φ:Heap->Prop)
abbrev Hp:=Addr->Option HO
def upd (H:Hp) (a:Addr) (o:HO):Hp:=λb=>if b=a then some o else H b
theorem c6 {H:Hp} {a:Addr} {o:HO}:upd H a o a=some o:=by unfold upd;rw [if_pos rfl]
theorem i8 {H:Hp} {a b:Addr} {o:HO} (h:b ≠ a):upd H a o b=H b:=by unfold upd;rw [if_neg h]
theorem bt7 {H:Hp} {a b:Addr} {o u:HO} (h:H a=some o) (h':H b=some u) (d:o ≠ u):a ≠ b:=by
 intro e;subst e;rw [h] at h';exact d (Option.some.inj h')
theorem j3 {H:Hp} {a b:Addr} {o:HO} (h:H a=some o) (h':H b=none):a ≠ b:=by
 intro e;subst e;rw [h] at h';cases h'
section
variable (P:Program) (w:World)
def O8 (H:Hp) (h:Heap) (a:Addr):HO->Prop
 | .lst xs=>xs.length<=sizeLine/\∃ (its:List Value) (n:Nat),A7 xs its/\h.get? a=some { cls:=.type "list",data:=.seq its.toArray n }
 | .tup xs=>xs.length<=sizeLine/\∃ its:List Value,A7 xs its/\IsTup h a its.toArray
 | .dK kvs=>kvs.length<=sizeLine/\(a == sysModules)=false/\∃ vs,KV kvs vs/\h.DictOf (aO5 P w) a vs
 | .dT kvs=>kvs.length<=sizeLine/\(a == sysModules)=false/\∃ xs:List (List Key × Addr × Value),
   Paired (λ(p:List Key × V) (q:List Key × Addr × Value)=>p.1=q.1/\H q.2.1=some (.tup (p.1.map kV))/\G2 p.2 q.2.2) kvs xs /\
   ∃ o es ep,h.get? a=some o/\o.ExactDict/\o.data=.dict es ep/\es.toList=xs.map (entryOfKey (tupleKind (aO5 P w)))/\(xs.map (·.1)).Nodup
 | .set S n=>h.SetOf (intKind P w) a S n
 | .ins C dx fs=>H dx=some (.own a)/\fs.length<=1000/\dx ≠ a/\h.get? a=some (m0j C dx) /\
   ∃ mA,h.Ns1 dx mA/\(∀ f,bz2 (fs.lookup f) (mA f))/\PySem.Within mA (fs.map (·.1))
 | .own _ => ∃ o,h.get? a=some o
 | .xd fs => ∃ mA,h.Ns1 a mA/\∀ f,bz2 (fs.lookup f) (mA f)
 | .rng lo hi => ∃ t u v,h.get? a=some { cls:=.type "range",data:=.fields #[.int lo t,.int hi u,.int 1 v] }
 | .frz o u=>h.get? a=some o/\O8 H h a u
 | .tbl ps=>h.get? a=some { cls:=.none,data:=.fields ps }
 | .met f x=>h.get? a=some (g0z (.ref f) (.ref x))
 | .ext φ=>φ h/\(∃ o,h.get? a=some o)/\∀ h1 h2:Heap,φ h1->(∀ o,h1.get? a=some o->h2.get? a=some o)->φ h2
def HOk (H:Hp) (h:Heap):Prop:=∀ a o,H a=some o->O8 P w H h a o
end
section
variable {P:Program} {w:World} {H H':Hp} {h h':Heap} {a:Addr} {o:HO}
theorem O8.lt (x:O8 P w H h a o):a<h.objs.size:=by
 cases o with
 | lst xs=>obtain ⟨_,_,_,_,e⟩:=x;exact q0f e
 | tup xs=>obtain ⟨_,_,_,p⟩:=x;exact p.lt
 | dK kvs=>obtain ⟨_,_,_,_,o,_,_,e,_⟩:=x;exact q0f e
 | dT kvs=>obtain ⟨_,_,_,_,o,_,_,e,_⟩:=x;exact q0f e
 | set S n=>obtain ⟨o,_,_,_,e,_⟩:=x;exact q0f e
 | ins C dx fs=>obtain ⟨_,_,_,e,_⟩:=x;exact q0f e
 | own y=>obtain ⟨_,e⟩:=x;exact q0f e
 | xd fs=>obtain ⟨_,⟨_,_,_,e,_⟩,_⟩:=x;exact q0f e
 | rng lo hi=>obtain ⟨_,_,_,e⟩:=x;exact q0f e
 | frz ob u=>obtain ⟨e,_⟩:=x;exact q0f e
 | tbl ps=>exact q0f (show h.get? a=some _ from x)
 | met f y=>exact q0f (show h.get? a=some _ from x)
 | ext φ=>obtain ⟨_,⟨_,e⟩,_⟩:=x;exact q0f e
theorem Paired.mapP {α β:Type} {F G:α->β->Prop}:∀ {l₁:List α} {l₂:List β},Paired F l₁ l₂->(∀ a b,F a b->G a b)->Paired G l₁ l₂
 | _,_,.nil,_=>.nil
 | _,_,.cons r t,f=>.cons (f _ _ r) (Paired.mapP t f)
theorem O8.stay (x:O8 P w H h a o) (k:∀ b u,(b=a \/ H b=some (.own a))->h.get? b=some u->h'.get? b=some u)
  (ho:∀ b,H b=some (.own a)->H' b=some (.own a)) (ht:∀ b xs,H b=some (.tup xs)->H' b=some (.tup xs)):O8 P w H' h' a o:=by
 induction o with
 | lst xs=>obtain ⟨z,its,n,r,e⟩:=x;exact ⟨z,its,n,r,k _ _ (.inl rfl) e⟩
 | tup xs=>obtain ⟨z,its,r,ob,e,c⟩:=x;exact ⟨z,its,r,ob,k _ _ (.inl rfl) e,c⟩
 | dK kvs=>obtain ⟨z,y,vs,r,ob,es,ep,e,c⟩:=x;exact ⟨z,y,vs,r,ob,es,ep,k _ _ (.inl rfl) e,c⟩
 | dT kvs =>
  obtain ⟨z,y,xs,r,ob,es,ep,e,c⟩:=x;exact ⟨z,y,xs,Paired.mapP r λp q z=>⟨z.1,ht _ _ z.2.1,z.2.2⟩,ob,es,ep,k _ _ (.inl rfl) e,c⟩
 | set S n=>obtain ⟨ob,es,ep,t,e,c⟩:=x;exact ⟨ob,es,ep,t,k _ _ (.inl rfl) e,c⟩
 | ins C dx fs =>
  obtain ⟨d,z,ne,e,mA,⟨od,es,ep,e2,c⟩,r⟩:=x;exact ⟨ho _ d,z,ne,k _ _ (.inl rfl) e,mA,⟨od,es,ep,k _ _ (.inr d) e2,c⟩,r⟩
 | own y=>obtain ⟨ob,e⟩:=x;exact ⟨ob,k _ _ (.inl rfl) e⟩
 | xd fs=>obtain ⟨mA,⟨od,es,ep,e,c⟩,r⟩:=x;exact ⟨mA,⟨od,es,ep,k _ _ (.inl rfl) e,c⟩,r⟩
 | rng lo hi=>obtain ⟨t,u,v,e⟩:=x;exact ⟨t,u,v,k _ _ (.inl rfl) e⟩
 | frz ob u ih=>obtain ⟨e,q⟩:=x;exact ⟨k _ _ (.inl rfl) e,ih q⟩
 | tbl ps =>
  have e:h.get? a=some { cls:=.none,data:=.fields ps }:=x
  show h'.get? a=some { cls:=.none,data:=.fields ps };exact k a _ (.inl rfl) e
 | met f y =>
  have e:h.get? a=some (g0z (.ref f) (.ref y)):=x
  show h'.get? a=some (g0z (.ref f) (.ref y));exact k a _ (.inl rfl) e
 | ext φ=>obtain ⟨p,⟨o,e⟩,st⟩:=x;exact ⟨st _ _ p λo q=>k _ _ (.inl rfl) q,⟨o,k _ _ (.inl rfl) e⟩,st⟩
theorem HOk.lt (x:HOk P w H h) (e:H a=some o):a<h.objs.size:=(x a o e).lt
theorem HOk.fresh (x:HOk P w H h) (e:h.objs.size<=a):H a=none:=by
 cases q:H a with
 | none=>rfl
 | some u=>exact absurd (q0b (x.lt q) e) (j0r _)
theorem HOk.kept (x:HOk P w H h) (k:∀ b u,h.get? b=some u->h'.get? b=some u):HOk P w H h':=λa o e =>
 (x a o e).stay (λb u _ q=>k b u q) (λ_ q=>q) λ_ _ q=>q
theorem HOk.laid (x:HOk P w H h) (k:∀ b u,h.get? b=some u->h'.get? b=some u) (hp:h.objs.size<=a) (new:O8 P w (upd H a o) h' a o):HOk P w (upd H a o) h':=λb u e=>by
 have hn:=x.fresh hp
 by_cases hb:b=a
 ·subst hb;rw [c6] at e;cases e;exact new
 ·rw [i8 hb] at e
  exact (x b u e).stay (λc v _ q=>k c v q) (λc q=>by rw [i8 (j3 q hn)];exact q) λc xs q=>by rw [i8 (j3 q hn)];exact q
end
def Rd (H:Hp) (a:Addr) (u:HO):Prop:=H a=some u \/ ∃ o,H a=some (.frz o u)
theorem Rd.ok {P:Program} {w:World} {H:Hp} {h:Heap} {a:Addr} {u:HO} (r:Rd H a u) (x:HOk P w H h):O8 P w H h a u:=by
 rcases r with r | ⟨o,r⟩
 ·exact x a u r
 ·obtain ⟨_,q⟩:=x a _ r
  exact q
def Mut:Option HO->Prop
 | some (.lst _)=>True
 | some (.dK _)=>True
 | some (.dT _)=>True
 | some (.set _ _)=>True
 | some (.ins _ _ _)=>True
 | some (.ext _)=>True
 | _=>False
section
variable {P:Program} {w:World} {H:Hp} {h h':Heap} {x e:Addr} {o':HO}
theorem HOk.write (ok:HOk P w H h) (mu:Mut (H x)) (he:e=x \/ H e=some (.own x)) (k:∀ b u,b ≠ e->h.get? b=some u->h'.get? b=some u) (heo:∃ u,h'.get? e=some u)
  (new:O8 P w (upd H x o') h' x o'):HOk P w (upd H x o') h':=λb u q=>by
 have nown:∀ c y,H c=some (.own y)->c ≠ x:=λc y r z=>by subst z;rw [r] at mu;exact mu
 have ntup:∀ c xs,H c=some (.tup xs)->c ≠ x:=λc xs r z=>by subst z;rw [r] at mu;exact mu
 by_cases hb:b=x
 ·subst hb;rw [c6] at q;cases q;exact new
 ·rw [i8 hb] at q
  by_cases hbe:b=e
  ·have q':H b=some (.own x):=by
    rcases he with z | z
    ·exact absurd (hbe.trans z) hb
    ·rw [hbe];exact z
   rw [q] at q';cases q';obtain ⟨v,hv⟩:=heo;exact ⟨v,by rw [hbe];exact hv⟩
  ·refine (ok b u q).stay (λc v hc r=>k c v ?_ r) (λc r=>by rw [i8 (nown c b r)];exact r) λc xs r=>by rw [i8 (ntup c xs r)];exact r
   rcases hc with rfl | hc
   ·exact hbe
   ·rintro rfl
    rcases he with z | z
    ·exact nown c b hc z
    ·rw [hc] at z;cases z;exact hb rfl
end
structure Un (fs ex:List Addr) (H H':Hp) (h h':Heap):Prop where
 keep:∀ b o,h.get? b=some o->H b=none->b ∉ fs->b ∉ ex->h'.get? b=some o
 slot:∀ b o,h.get? b=some o->H b=none->b ∈ fs->b ∉ ex->∃ sl,h'.get? b=some { o with slots:=sl }
 free:∀ b o,h.get? b=some o->H b=none->b ∉ ex->H' b=none
 there:∀ b o,h.get? b=some o->b ∉ ex->∃ o',h'.get? b=some o'
 tups:∀ b xs,H b=some (.tup xs)->H' b=some (.tup xs)
 frzs:∀ b o u,H b=some (.frz o u)->H' b=some (.frz o u)
 tbls:∀ b ps,H b=some (.tbl ps)->∃ more,H' b=some (.tbl (ps ++ more))
section
variable {fs fs' ex ex':List Addr} {H H1 H2:Hp} {h h1 h2 h':Heap} {a x e:Addr} {o:HO}
theorem Un.any (u:Un fs ex H H1 h h1) {b:Addr} {ob:Obj} (q:h.get? b=some ob) (n:H b=none) (hx:b ∉ ex):∃ sl,h1.get? b=some { ob with slots:=sl }:=by
 by_cases hb:b ∈ fs
 ·exact u.slot b ob q n hb hx
 ·exact ⟨ob.slots,u.keep b ob q n hb hx⟩
theorem Un.kept (k:∀ b u,h.get? b=some u->h'.get? b=some u):Un fs ex H H h h' :=
 ⟨λb ob q _ _ _=>k b ob q,λb ob q _ _ _=>⟨ob.slots,k b ob q⟩,λ_ _ _ n _=>n,λb ob q _=>⟨ob,k b ob q⟩,λ_ _ q=>q,λ_ _ _ q=>q,λ_ ps q=>⟨#[],by rw [q];simp⟩⟩
theorem Un.refl:Un fs ex H H h h:=Un.kept λ_ _ q=>q
theorem Un.laid (k:∀ b u,h.get? b=some u->h'.get? b=some u) (hp:h.objs.size<=a) (hn:H a=none):Un fs ex H (upd H a o) h h' where
 keep:=λb u q _ _ _=>k b u q
 slot:=λb u q _ _ _=>⟨u.slots,k b u q⟩
 free:=λb u q n _=>by rw [i8 (q0q (q0b (q0f q) hp))];exact n
 there:=λb u q _=>⟨u,k b u q⟩
 tups:=λb xs q=>by rw [i8 (j3 q hn)];exact q
 frzs:=λb u xs q=>by rw [i8 (j3 q hn)];exact q
 tbls:=λb ps q=>⟨#[],by rw [i8 (j3 q hn),q];simp⟩
theorem Un.write (mu:Mut (H x)) (he:e=x \/ H e=some (.own x)) (k:∀ b u,b ≠ e->h.get? b=some u->h'.get? b=some u) (heo:∃ u,h'.get? e=some u):Un fs ex H (upd H x o) h h':=by
 have hx:∀ b,H b=none->b ≠ x:=λb n z=>by subst z;rw [n] at mu;exact mu
 have hb:∀ b,H b=none->b ≠ e:=λb n z=>by
  subst z;rcases he with r | r
  ·exact hx b n r
  ·rw [n] at r;cases r
 have hm:∀ b u,H b=some u->¬ Mut (some u)->b ≠ x:=λb u q nm z=>by subst z;rw [q] at mu;exact nm mu
 refine ⟨λb u q n _ _=>k b u (hb b n) q,λb u q n _ _=>⟨u.slots,k b u (hb b n) q⟩,λb u q n _=>by rw [i8 (hx b n)];exact n,λb u q _=>?_,
  λb xs q=>by rw [i8 (hm b _ q λz=>z)];exact q,λb u xs q=>by rw [i8 (hm b _ q λz=>z)];exact q,λb ps q=>⟨#[],by rw [i8 (hm b _ q λz=>z),q];simp⟩⟩
 by_cases hbe:b=e
 ·subst hbe;exact heo
 ·exact ⟨u,k b u hbe q⟩
end
def trk (h:Heap) (H:Hp):List Addr:=(z0r h.objs.size).filter λa=>(H a).isSome
def aO9 (h:Heap) (H:Hp):Heap:=m0k h (trk h H)
theorem be3 (h:Heap) (H:Hp):(aO9 h H).objs.size=h.objs.size:=PySem.W.hideAll_size _ _
theorem bk8 {h:Heap} {H:Hp} {b:Addr} {o:Obj} (e:h.get? b=some o) (n:H b=none):(aO9 h H).get? b=some o :=
 v0t _ e λhm=>by
  have q:(H b).isSome=true:=(List.mem_filter.mp hm).2;rw [n] at q;simp at q
theorem bq1 {h:Heap} {H:Hp} {b:Addr} {o:Obj} (e:(aO9 h H).get? b=some o):h.get? b=some o/\H b=none:=by
 have e':h.get? b=some o:=PySem.W.of_hideAll (trk h H) e;refine ⟨e',?_⟩
 cases q:H b with
 | none=>rfl
 | some x =>
  have hm:b ∈ trk h H:=List.mem_filter.mpr ⟨u0m.mpr (q0f e'),by simp [q]⟩
  have z:(aO9 h H).get? b=none:=PySem.W.hideAll_none (trk h H) hm;rw [z] at e;cases e
def bs6 (g h:Heap) (L:Addr):List (Addr × Obj):=(z0r h.objs.size).filterMap λa=>if a=L \/ (g.get? a).isSome=true then none else (h.get? a).map λo=>(a,o)
def ay6 (g h:Heap) (L d:Addr):List (Addr × Obj):=(bs6 g h L).filter λp=>decide (p.1 ≠ d)
structure Mod (K:q0a) (mg:Str->Option Value) (base:Heap):Prop where
 kin:K.In base
 glob:base.Ns mainGlobals mg
 blt:∃ mb,base.Ns builtinsNs mb/\∀ x:Str,x ≠ "__name__"->mb x=bootBuiltins x
 nolimit:base.NoLimit
structure Cx where
 prog:Program
 w:World
 K:q0a
 mg:Str->Option Value
 base:Heap
 A:Around
 N:List Str
 s₀:Shared
 H₀:Hp
 env:Env
 outer:List Env
 stack:List Env
 ex:List Addr
 fn:Str->Bool
 calm:Bool
 pn:List (Addr × Obj)
 xe:Value->Shared->Prop
def frs (l:List Env):List Addr:=l.filterMap (·.frame)
abbrev Cx.fs (X:Cx):List Addr:=frs X.outer
def Vis (sc:Scope) (x:Str):Prop:=sc.names.lookup x=some .local \/ sc.names.lookup x=some .cell \/ sc.names.lookup x=some .free
def Loc (sc:Scope) (x:Str):Prop:=sc.names.lookup x=some .local \/ sc.names.lookup x=some .cell
def bB5 (env:Env) (h:Heap) (m:Str->Option Value) (x:Str) (u:Value):Prop :=
 (env.kindOf x=some .local/\m x=some u) \/ ((env.kindOf x=some .cell \/ env.kindOf x=some .free)/\∃ c,env.cells.lookup x=some c/\h.IsCell c (some u))
structure Cx.Ok (X:Cx):Prop where
 mod:Mod X.K X.mg X.base
 kind:X.env.scope.kind=.function
 glob:X.env.globals=mainGlobals
 blt:X.env.builtins=builtinsNs
 above:X.s₀.heap.objs.size<=X.env.locals
 inj:∀ x y c,X.env.cells.lookup x=some c->X.env.cells.lookup y=some c->x=y
 has:∀ x,(X.env.kindOf x=some .cell \/ X.env.kindOf x=some .free)->∃ c,X.env.cells.lookup x=some c
 cab:∀ x c,X.fn x=true->X.env.cells.lookup x=some c->X.s₀.heap.objs.size<=c
 hd:X.calm=true->X.A.handled=none
 frames:X.A.frames=some X.stack
 stk:X.stack=X.outer \/ (X.stack=X.env :: X.outer/\X.env.frame=some X.env.locals)
 exf:∀ b ∈ X.ex,b ≠ X.env.locals/\∀ x c,X.env.cells.lookup x=some c->c ≠ b
 bs:∀ b o,X.base.get? b=some o->X.s₀.heap.get? b=some o/\X.H₀ b=none
 bsz:X.base.objs.size<=X.s₀.heap.objs.size
 noex:∀ b o,X.base.get? b=some o->b ∉ X.ex
 exfs:∀ b ∈ X.ex,b ∉ X.fs
 funs:X.s₀.heap.FunFrames X.base X.outer
 frf:∀ b ∈ X.fs,X.H₀ b=none
structure Inv (X:Cx) (pins:List (Addr × Obj)) (σ:List (Option V)) (H:Hp) (s:Shared):Prop where
 ok:X.Ok
 os:s.os=X.s₀.os
 bare:AllBare s.gens
 base:Un X.fs X.ex X.H₀ H X.s₀.heap s.heap
 loc:∃ m,s.heap.Ns X.env.locals m/\∀ (i:Nat) (x:Str) (v:V),X.N[i]? = some x->σ[i]? = some (some v)->Vis X.env.scope x->∃ u,G2 v u/\bB5 X.env s.heap m x u
 cell:∀ x c,X.env.cells.lookup x=some c->∃ v,s.heap.IsCell c v
 free:H X.env.locals=none
 freeC:∀ x c,X.env.cells.lookup x=some c->H c=none
 pin:∀ p ∈ X.pn ++ pins,s.heap.get? p.1=some p.2/\H p.1=none/\p.1 ≠ X.env.locals/\p.1 ∉ X.fs/\∀ v,p.2.data ≠ .cell v
 hok:HOk X.prog X.w H s.heap
 len:σ.length=X.N.length
section
variable {X:Cx} {pins:List (Addr × Obj)} {σ:List (Option V)} {H H':Hp} {s:Shared} {h':Heap}
theorem Cx.Ok.nofr (ok:X.Ok) {b:Addr} {o:Obj} (e:X.base.get? b=some o):b ∉ X.fs:=λhb=>by
 have:=(ok.funs.mem hb).1;rw [e] at this;cases this
theorem Inv.bs (I:Inv X pins σ H s):∀ b o,X.base.get? b=some o->s.heap.get? b=some o/\H b=none:=λb o e =>
 ⟨I.base.keep b o (I.ok.bs b o e).1 (I.ok.bs b o e).2 (I.ok.nofr e) (I.ok.noex b o e),I.base.free b o (I.ok.bs b o e).1 (I.ok.bs b o e).2 (I.ok.noex b o e)⟩
theorem Inv.bk (I:Inv X pins σ H s):∀ b o,X.base.get? b=some o->s.heap.get? b=some o:=λb o e=>(I.bs b o e).1
theorem Inv.mod (I:Inv X pins σ H s):Mod X.K X.mg X.base:=I.ok.mod
theorem Inv.kIn (I:Inv X pins σ H s):X.K.In s.heap:=I.ok.mod.kin.keeps I.bk
theorem Inv.fr (I:Inv X pins σ H s):∃ m,Fr X.base X.env.locals s.heap m :=
 let ⟨m,hn,_⟩:=I.loc
 ⟨m,hn,I.bk,q0s I.ok.bsz I.ok.above⟩
theorem Inv.lt (I:Inv X pins σ H s):X.env.locals<s.heap.objs.size:=let ⟨_,hn,_⟩:=I.loc;hn.lt
theorem Inv.sz (I:Inv X pins σ H s):X.s₀.heap.objs.size<=s.heap.objs.size:=q0s I.ok.above (v0b I.lt)
theorem Inv.nofs (I:Inv X pins σ H s) {a:Addr} (h:s.heap.objs.size<=a):a ∉ X.fs:=λhb=>by
 obtain ⟨_,o,ho,_⟩:=I.ok.funs.mem hb;exact absurd (q0b (q0f ho) (q0s I.sz h)) (j0r _)
theorem Inv.cne (I:Inv X pins σ H s):∀ x c,X.env.cells.lookup x=some c->c ≠ X.env.locals:=λx c e z=>by
 obtain ⟨v,o,ho,hd⟩:=I.cell x c e;obtain ⟨m,⟨o',es,ep,ho',hd',_⟩,_⟩:=I.loc;rw [z,ho'] at ho;cases ho;rw [hd'] at hd;cases hd
theorem Inv.funs (I:Inv X pins σ H s):s.heap.FunFrames X.base X.outer:=by
 have all:∀ (l:List Env),(∀ b ∈ frs l,b ∈ X.fs)->X.s₀.heap.FunFrames X.base l->s.heap.FunFrames X.base l:=by
  intro l
  induction l with
  | nil=>intro _ _;trivial
  | cons env r ih =>
   intro hs hl;obtain ⟨hk,⟨L,o,hf,hn,ho,hd⟩,hr⟩:=hl;have hL:L ∈ X.fs:=hs L (by unfold frs;rw [y0f,hf];exact z0c)
   obtain ⟨sl,e⟩:=I.base.slot L o ho (I.ok.frf L hL) hL λz=>I.ok.exfs L z hL;exact ⟨hk,⟨L,_,hf,hn,e,hd⟩,ih (λb hb=>hs b (by unfold frs;rw [y0f,hf];exact q0u _ hb)) hr⟩
 exact all X.outer (λ_ hb=>hb) I.ok.funs
theorem Inv.stack (I:Inv X pins σ H s):s.heap.FunFrames X.base X.stack:=by
 rcases I.ok.stk with e | ⟨e,hf⟩
 ·rw [e];exact I.funs
 ·rw [e]
  obtain ⟨m,hn,_⟩:=I.loc;refine .cons (by rw [I.ok.kind];decide) hf hn ?_ I.funs
  exact Heap.get?_none_of_le (q0s I.ok.bsz I.ok.above)
theorem Inv.stkSub (I:Inv X pins σ H s):∀ b ∈ frs X.stack,b ∈ X.env.locals :: X.fs:=λb hb=>by
 rcases I.ok.stk with e | ⟨e,hf⟩
 ·rw [e] at hb;exact q0u _ hb
 ·rw [e] at hb
  unfold frs at hb;rw [y0f,hf] at hb;exact hb
theorem Inv.stkFree (I:Inv X pins σ H s):∀ b ∈ frs X.stack,H b=none:=λb hb=>by
 rcases z0m.mp (I.stkSub b hb) with e | hb
 ·rw [e];exact I.free
 ·obtain ⟨_,o,ho,_⟩:=I.ok.funs.mem hb
  exact I.base.free b o ho (I.ok.frf b hb) λz=>I.ok.exfs b z hb
theorem Inv.step {g':Array GenState} {t':Nat} {d':Drawn} {ch:List Addr} (I:Inv X pins σ H s)
  (hch:∀ b ∈ ch,(b ∈ X.ex \/ X.s₀.heap.objs.size<=b)/\b ≠ X.env.locals/\(∀ x c,X.env.cells.lookup x=some c->c ≠ b)/\∀ p ∈ X.pn ++ pins,p.1 ≠ b)
  (keep:∀ b o,b ≠ X.env.locals->b ∉ X.fs->b ∉ ch->s.heap.get? b=some o->H b=none->h'.get? b=some o)
  (slot:∀ b o,b ≠ X.env.locals->b ∈ X.fs->b ∉ ch->s.heap.get? b=some o->H b=none->∃ sl,h'.get? b=some { o with slots:=sl }) (free:∀ b o,b ∉ ch->s.heap.get? b=some o->H b=none->H' b=none)
  (there:∀ b o,b ∉ ch->s.heap.get? b=some o->∃ o',h'.get? b=some o')
  (tups:∀ b xs,H b=some (.tup xs)->H' b=some (.tup xs)) (frzs:∀ b o u,H b=some (.frz o u)->H' b=some (.frz o u)) (tbls:∀ b ps,H b=some (.tbl ps)->∃ more,H' b=some (.tbl (ps ++ more)))
  (ns:∀ m,s.heap.Ns X.env.locals m->h'.Ns X.env.locals m) (hok:HOk X.prog X.w H' h') (hg:AllBare g') :
  Inv X pins σ H' { s with heap:=h',gens:=g',drawn:=d',toks:=t' }:=by
 have neL:∀ b o,X.s₀.heap.get? b=some o->b ≠ X.env.locals:=λb o e=>q0q (q0b (q0f e) I.ok.above)
 have neC:∀ b o,X.s₀.heap.get? b=some o->b ∉ X.ex->b ∉ ch:=λb o e hx hb=>by
  rcases (hch b hb).1 with z | z
  ·exact hx z
  ·exact absurd (q0b (q0f e) z) (j0r _)
 have cellK:∀ x c,X.env.cells.lookup x=some c->∀ v,s.heap.IsCell c v->h'.IsCell c v:=λx c e v ⟨o,ho,hd⟩=>by
  have nch:c ∉ ch:=λz=>(hch c z).2.2.1 x c e rfl
  by_cases hc:c ∈ X.fs
  ·obtain ⟨sl,q⟩:=slot c o (I.cne x c e) hc nch ho (I.freeC x c e)
   exact ⟨_,q,hd⟩
  ·exact ⟨o,keep c o (I.cne x c e) hc nch ho (I.freeC x c e),hd⟩
 refine ⟨I.ok,I.os,hg,⟨λb o e n hb hx=>?_,λb o e n hb hx=>?_,λb o e n hx=>?_,λb o e hx=>?_,λb xs e=>tups b xs (I.base.tups b xs e),λb o xs e=>frzs b o xs (I.base.frzs b o xs e),λb ps e=>?_⟩,?_,λx c e=>?_,?_,λx c e=>?_,λp hp=>?_,hok,I.len⟩
 ·exact keep b o (neL b o e) hb (neC b o e hx) (I.base.keep b o e n hb hx) (I.base.free b o e n hx)
 ·obtain ⟨sl,e1⟩:=I.base.slot b o e n hb hx
  obtain ⟨sl',e2⟩:=slot b _ (neL b o e) hb (neC b o e hx) e1 (I.base.free b o e n hx);exact ⟨sl',e2⟩
 ·obtain ⟨o',e1⟩:=I.base.there b o e hx
  exact free b o' (neC b o e hx) e1 (I.base.free b o e n hx)
 ·obtain ⟨o',e1⟩:=I.base.there b o e hx
  exact there b o' (neC b o e hx) e1
 ·obtain ⟨m1,e1⟩:=I.base.tbls b ps e
  obtain ⟨m2,e2⟩:=tbls b _ e1;exact ⟨m1 ++ m2,by rw [e2,Array.append_assoc]⟩
 ·obtain ⟨m,hn,hl⟩:=I.loc
  refine ⟨m,ns m hn,λi x v e1 e2 e3=>?_⟩;obtain ⟨u,r,l⟩:=hl i x v e1 e2 e3;refine ⟨u,r,?_⟩;rcases l with l | ⟨k,c,e,z⟩
  ·exact .inl l
  ·exact .inr ⟨k,c,e,cellK x c e _ z⟩
 ·obtain ⟨v,z⟩:=I.cell x c e
  exact ⟨v,cellK x c e v z⟩
 ·obtain ⟨m,⟨o,_,_,ho,_⟩,_⟩:=I.loc
  exact free _ o (λz=>(hch _ z).2.1 rfl) ho I.free
 ·obtain ⟨v,o,ho,hd⟩:=I.cell x c e
  exact free c o (λz=>(hch c z).2.2.1 x c e rfl) ho (I.freeC x c e)
 ·obtain ⟨e,n,ne,nf,d⟩:=I.pin p hp
  have nch:p.1 ∉ ch:=λz=>(hch p.1 z).2.2.2 p hp rfl;exact ⟨keep p.1 p.2 ne nf nch e n,free p.1 p.2 nch e n,ne,nf,d⟩
theorem Inv.un {t':Nat} (I:Inv X pins σ H s) (u:Un X.fs [] H H' s.heap h') (hok:HOk X.prog X.w H' h'):Inv X pins σ H' { s with heap:=h',toks:=t' }:=by
 obtain ⟨m,⟨o,es,ep,ho,r⟩,_⟩:=id I.loc;obtain ⟨sl,hL⟩:=u.any ho I.free (by simp)
 exact I.step (g':=s.gens) (d':=s.drawn) (ch:=[]) (λ_ z=>nomatch z) (λb o _ hb _ e n=>u.keep b o e n hb (by simp)) (λb o _ hb _ e n=>u.slot b o e n hb (by simp)) (λb o _ e n=>u.free b o e n (by simp)) (λb o _ e=>u.there b o e (by simp)) u.tups u.frzs u.tbls (λm' hm=>by
  obtain ⟨o',es',ep',ho',r'⟩:=hm;rw [ho] at ho';cases ho';exact ⟨_,es',ep',hL,r'⟩) hok I.bare
theorem Inv.call {g':Array GenState} {t':Nat} {d':Drawn} {ch:List Addr} (I:Inv X pins σ H s) (u:Un (frs X.stack) ch H H' s.heap h') (hok:HOk X.prog X.w H' h') (hg:AllBare g')
  (hch:∀ b ∈ ch,(b ∈ X.ex \/ X.s₀.heap.objs.size<=b)/\b ≠ X.env.locals/\(∀ x c,X.env.cells.lookup x=some c->c ≠ b)/\∀ p ∈ X.pn ++ pins,p.1 ≠ b) :
  Inv X pins σ H' { s with heap:=h',gens:=g',drawn:=d',toks:=t' }:=by
 obtain ⟨m,⟨o,es,ep,ho,r⟩,_⟩:=id I.loc;obtain ⟨sl,hL⟩:=u.any ho I.free λz=>(hch _ z).2.1 rfl
 exact I.step (ch:=ch) hch (λb o hL hb hc e n=>u.keep b o e n (λz=>(z0m.mp (I.stkSub b z)).elim hL hb) hc) (λb o _ _ hc e n=>u.any e n hc) (λb o hc e n=>u.free b o e n hc) (λb o hc e=>u.there b o e hc) u.tups u.frzs u.tbls (λm' hm=>by
  obtain ⟨o',es',ep',ho',r'⟩:=hm;rw [ho] at ho';cases ho';exact ⟨_,es',ep',hL,r'⟩) hok hg
theorem Inv.turned {t':Nat} {it:Addr} (I:Inv X pins σ H s) (k:∀ b o,b ≠ it->s.heap.get? b=some o->h'.get? b=some o) (hn:H it=none) (hL:it ≠ X.env.locals)
  (h1:it ∈ X.ex \/ X.s₀.heap.objs.size<=it) (h2:∀ x c,X.env.cells.lookup x=some c->c ≠ it) (h3:∀ p ∈ X.pn ++ pins,p.1 ≠ it):Inv X pins σ H { s with heap:=h',toks:=t' }:=by
 have nit:∀ b u,H b=some u->b ≠ it:=λb u e z=>by rw [z,hn] at e;cases e
 refine I.step (g':=s.gens) (d':=s.drawn) (ch:=[it]) (λb hb=>?_) (λb o _ _ hc e _=>k b o (λz=>hc (by simp [z])) e) (λb o _ _ hc e _=>⟨o.slots,k b o (λz=>hc (by simp [z])) e⟩) (λ_ _ _ _ n=>n)
  (λb o hc e=>⟨o,k b o (λz=>hc (by simp [z])) e⟩) (λ_ _ e=>e) (λ_ _ _ e=>e) (λb ps e=>⟨#[],by rw [e];simp⟩) (λm hm=>?_) (λb u e=>?_) I.bare
 ·have e:b=it:=by simpa using hb
  subst e;exact ⟨h1,hL,h2,h3⟩
 ·obtain ⟨o,es,ep,ho,r⟩:=hm
  exact ⟨o,es,ep,k _ o (Ne.symm hL) ho,r⟩
 ·refine (I.hok b u e).stay (λc v hc q=>k c v ?_ q) (λ_ q=>q) λ_ _ q=>q
  rcases hc with z | z
  ·rw [z];exact nit b u e
  ·exact nit c _ z
theorem Inv.tok (I:Inv X pins σ H s) (t:Nat):Inv X pins σ H { s with toks:=t }:=I.un (h':=s.heap) (t':=t) Un.refl I.hok
theorem Inv.kept {t':Nat} (I:Inv X pins σ H s) (k:∀ b u,s.heap.get? b=some u->h'.get? b=some u):Inv X pins σ H { s with heap:=h',toks:=t' }:=I.un (Un.kept k) (I.hok.kept k)
theorem Inv.laid {a:Addr} {o:HO} {t':Nat} (I:Inv X pins σ H s) (k:∀ b u,s.heap.get? b=some u->h'.get? b=some u) (hp:s.heap.objs.size<=a) (new:O8 X.prog X.w (upd H a o) h' a o) :
  Inv X pins σ (upd H a o) { s with heap:=h',toks:=t' }:=I.un (Un.laid k hp (I.hok.fresh hp)) (I.hok.laid k hp new)
theorem Inv.write {x e:Addr} {o:HO} {t':Nat} (I:Inv X pins σ H s) (mu:Mut (H x)) (he:e=x \/ H e=some (.own x)) (k:∀ b u,b ≠ e->s.heap.get? b=some u->h'.get? b=some u) (heo:∃ u,h'.get? e=some u)
  (new:O8 X.prog X.w (upd H x o) h' x o):Inv X pins σ (upd H x o) { s with heap:=h',toks:=t' }:=I.un (Un.write mu he k heo) (I.hok.write mu he k heo new)
theorem Inv.weak {σ':List (Option V)} (I:Inv X pins σ H s) (hl:σ'.length=σ.length) (w:∀ (i:Nat) v,σ'[i]? = some (some v)->σ[i]? = some (some v)):Inv X pins σ' H s :=
 ⟨I.ok,I.os,I.bare,I.base,let ⟨m,hn,hl'⟩:=I.loc;⟨m,hn,λi x v e1 e2 e3=>hl' i x v e1 (w i v e2) e3⟩,I.cell,I.free,I.freeC,I.pin,I.hok,hl.trans I.len⟩
theorem Inv.pins_of {pins':List (Addr × Obj)} (I:Inv X pins σ H s) (h:∀ p ∈ pins',s.heap.get? p.1=some p.2/\H p.1=none/\p.1 ≠ X.env.locals/\p.1 ∉ X.fs/\∀ v,p.2.data ≠ .cell v):Inv X pins' σ H s :=
 ⟨I.ok,I.os,I.bare,I.base,I.loc,I.cell,I.free,I.freeC,λp hp=>(z0t.mp hp).elim (λz=>I.pin p (g0d _ z)) (h p),I.hok,I.len⟩
theorem aS2 {N:List Str} (hN:N.Nodup) {i j:Nat} {x:Str} (a:N[i]? = some x) (b:N[j]? = some x):i=j:=by
 obtain ⟨h1,e1⟩:=q0g.mp a;obtain ⟨h2,e2⟩:=q0g.mp b;exact (List.getElem_inj hN).mp (e1.trans e2.symm)
theorem bc3 {M:Model} {A:Around} {E:Value->Shared->Prop} {i:Nat} {x:Str} {v:V} {u:Value} {Q:Unit->Shared->Prop} (I:Inv X pins σ H s) (hN:X.N.Nodup) (hi:X.N[i]? = some x) (hx:Loc X.env.scope x) (r:G2 v u)
  (h:∀ s',Inv X pins (σ.set i (some v)) H s'->(∃ a,v0c a s.heap s'.heap/\(a=X.env.locals \/ X.env.cells.lookup x=some a))->Q () s') (hf:X.fn x=true \/ X.env.scope.names.lookup x=some .local:=by first | exact .inl rfl | exact .inr rfl | assumption):wpAny M A (storeName X.env x u) Q E s:=by
 obtain ⟨m,hn,hl⟩:=id I.loc;have hcls:(X.env.scope.kind == .class || (X.env.scope.kind == .module && X.env.locals != X.env.globals))=false:=by rw [I.ok.kind];rfl
 have hiσ:i<σ.length:=by rw [I.len];exact (q0g.mp hi).1
 have cne:=I.cne
 have tracked:∀ {a:Addr} {h':Heap},(∃ o,s.heap.get? a=some o/\H a=none)->v0c a s.heap h'->HOk X.prog X.w H h':=fun {a h'} ha hs b ob e=>by
  obtain ⟨_,_,hfree⟩:=ha;refine (I.hok b ob e).stay (λc w' hc q=>(hs.2 c ?_).trans q) (λ_ q=>q) λ_ _ q=>q;rintro rfl;rcases hc with rfl | hc
  ·rw [hfree] at e;cases e
  ·rw [hfree] at hc;cases hc
 rcases hx with hk | hk
 ·refine wpAny_storeName_local hk hn (λh' hn' hs=>?_) hcls
  obtain ⟨oL,_,_,hoL,_⟩:=id hn;refine h _ ⟨I.ok,I.os,I.bare,⟨λb o e n hb hx=>?_,λb o e n hb hx=>?_,I.base.free,λb o e hx=>?_,I.base.tups,I.base.frzs,I.base.tbls⟩,⟨_,hn',λj y v' e1 e2 e3=>?_⟩,λy c e=>?_,I.free,I.freeC,λp hp=>?_,tracked ⟨oL,hoL,I.free⟩ hs,by simpa using I.len⟩ ⟨_,hs,.inl rfl⟩
  ·exact (hs.2 b (q0q (q0b (q0f e) I.ok.above))).trans (I.base.keep b o e n hb hx)
  ·obtain ⟨sl,e1⟩:=I.base.slot b o e n hb hx
   exact ⟨sl,(hs.2 b (q0q (q0b (q0f e) I.ok.above))).trans e1⟩
  ·obtain ⟨o',e1⟩:=I.base.there b o e hx
   exact ⟨o',(hs.2 b (q0q (q0b (q0f e) I.ok.above))).trans e1⟩
  ·by_cases hj:j=i
   ·subst hj
    rw [hi] at e1;cases e1;rw [u0u hiσ] at e2
    cases e2
    exact ⟨u,r,.inl ⟨hk,by simp⟩⟩
   ·rw [g0e (Ne.symm hj)] at e2
    obtain ⟨u',r',q⟩:=hl j y v' e1 e2 e3;refine ⟨u',r',?_⟩;rcases q with ⟨k,e⟩ | ⟨k,c,e,z⟩
    ·refine .inl ⟨k,?_⟩
     have:y ≠ x:=λe=>hj (aS2 hN e1 (e ▸ hi))
     simp [this,e]
    ·exact .inr ⟨k,c,e,z.sameBut hs (cne y c e)⟩
  ·obtain ⟨w',z⟩:=I.cell y c e
   exact ⟨w',z.sameBut hs (cne y c e)⟩
  ·obtain ⟨e,n,ne,nf,d⟩:=I.pin p hp
   exact ⟨(hs.2 p.1 ne).trans e,n,ne,nf,d⟩
 ·have hfn:X.fn x=true:=by
   rcases hf with z | z
   ·exact z
   ·rw [z] at hk;cases hk
  obtain ⟨c,hc⟩:=I.ok.has x (.inl hk);obtain ⟨w',z⟩:=I.cell x c hc;refine wpAny_storeName_cell I.ok.kind hk hc z (λh' hc' hs=>?_);obtain ⟨oc,hoc,hocd⟩:=id z;refine h { s with heap:=h' } ⟨I.ok,I.os,I.bare,⟨λb o e n hb hx=>?_,λb o e n hb hx=>?_,I.base.free,λb o e hx=>?_,I.base.tups,I.base.frzs,I.base.tbls⟩,⟨m,hn.sameBut hs (Ne.symm (cne x c hc)),λj y v' e1 e2 e3=>?_⟩,λy c' e=>?_,I.free,I.freeC,λp hp=>?_,tracked ⟨oc,hoc,I.freeC x c hc⟩ hs,by simpa using I.len⟩ ⟨c,hs,.inr hc⟩
  ·exact (hs.2 b (q0q (q0b (q0f e) (I.ok.cab x c hfn hc)))).trans (I.base.keep b o e n hb hx)
  ·obtain ⟨sl,e1⟩:=I.base.slot b o e n hb hx
   exact ⟨sl,(hs.2 b (q0q (q0b (q0f e) (I.ok.cab x c hfn hc)))).trans e1⟩
  ·obtain ⟨o',e1⟩:=I.base.there b o e hx
   exact ⟨o',(hs.2 b (q0q (q0b (q0f e) (I.ok.cab x c hfn hc)))).trans e1⟩
  ·by_cases hj:j=i
   ·subst hj
    rw [hi] at e1;cases e1;rw [u0u hiσ] at e2
    cases e2
    exact ⟨u,r,.inr ⟨.inl hk,c,hc,hc'⟩⟩
   ·rw [g0e (Ne.symm hj)] at e2
    obtain ⟨u',r',q⟩:=hl j y v' e1 e2 e3;refine ⟨u',r',?_⟩;rcases q with q | ⟨k,c',e,z'⟩
    ·exact .inl q
    ·refine .inr ⟨k,c',e,z'.sameBut hs ?_⟩
     rintro rfl;exact hj (aS2 hN e1 (I.ok.inj _ _ _ e hc ▸ hi))
  ·by_cases hcc:c'=c
   ·subst hcc;exact ⟨_,hc'⟩
   ·obtain ⟨w2,z2⟩:=I.cell y c' e
    exact ⟨w2,z2.sameBut hs hcc⟩
  ·obtain ⟨e,n,ne,nf,d⟩:=I.pin p hp
   refine ⟨(hs.2 p.1 ?_).trans e,n,ne,nf,d⟩;intro q;rw [q,hoc] at e;have q':oc=p.2:=Option.some.inj e;exact d w' (by rw [<- q'];exact hocd)
theorem ak6 {M:Model} {A:Around} {E:Value->Shared->Prop} {i:Nat} {x:Str} {v:V} {u:Value} {Q:Unit->Shared->Prop} (I:Inv X pins σ H s) (hN:X.N.Nodup) (hi:X.N[i]? = some x) (hx:Loc X.env.scope x) (r:G2 v u)
  (h:∀ s',Inv X pins (σ.set i (some v)) H s'->Q () s') (hf:X.fn x=true \/ X.env.scope.names.lookup x=some .local:=by first | exact .inl rfl | exact .inr rfl | assumption):wpAny M A (storeName X.env x u) Q E s :=
 bc3 I hN hi hx r (λs' I' _=>h s' I') hf
theorem Inv.call' {s':Shared} {ch:List Addr} (I:Inv X pins σ H s) (ho:s'.os=s.os) (u:Un (frs X.stack) ch H H' s.heap s'.heap) (hok:HOk X.prog X.w H' s'.heap) (hg:AllBare s'.gens)
  (hch:∀ b ∈ ch,(b ∈ X.ex \/ X.s₀.heap.objs.size<=b)/\b ≠ X.env.locals/\(∀ x c,X.env.cells.lookup x=some c->c ≠ b)/\∀ p ∈ X.pn ++ pins,p.1 ≠ b):Inv X pins σ H' s':=by
 obtain ⟨h',g',d',t',o'⟩:=s';have e:o'=s.os:=ho;subst e;exact I.call (g':=g') (t':=t') (d':=d') u hok hg hch
end
abbrev XK:=Value->Option Addr->Hp->Prop
abbrev St:=List (Option V)
abbrev VK:=V->Hp->Prop
abbrev TE:=St->Hp->VK->Prop
abbrev TT:=St->Hp->(Bool->Hp->Prop)->Prop
abbrev TA:=St->Hp->(List V->Hp->Prop)->Prop
structure ar4 where
 nx:St->Hp->Prop
 rt:VK
 bk:St->Hp->Prop:=λ_ _=>False
 ct:St->Hp->Prop:=λ_ _=>False
abbrev TS:=ar4->St->Hp->Prop
def EP (X:Cx) (pins:List (Addr × Obj)) (σ:St) (Q:VK) (u:Value) (s':Shared):Prop:=∃ v H',Inv X pins σ H' s'/\G2 v u/\Q v H'
def TP (X:Cx) (pins:List (Addr × Obj)) (σ:St) (Q:Bool->Hp->Prop) (b:Bool) (s':Shared):Prop:=∃ H',Inv X pins σ H' s'/\Q b H'
def AP (X:Cx) (pins:List (Addr × Obj)) (σ:St) (Q:List V->Hp->Prop) (us:List Value) (s':Shared):Prop:=∃ vs H',Inv X pins σ H' s'/\A7 vs us/\Q vs H'
def SP (X:Cx) (pins:List (Addr × Obj)) (D:ar4) (f:Flow) (s':Shared):Prop :=
 match f with
 | .next => ∃ σ' H',Inv X pins σ' H' s'/\D.nx σ' H'
 | .brk => ∃ σ' H',Inv X pins σ' H' s'/\D.bk σ' H'
 | .cont => ∃ σ' H',Inv X pins σ' H' s'/\D.ct σ' H'
 | .ret u => ∃ v σ' H',Inv X pins σ' H' s'/\G2 v u/\D.rt v H'
def PE (X:Cx) (e:Expr) (t:TE):Prop :=
 ∀ (pins:List (Addr × Obj)) (s:Shared) (σ:St) (H:Hp) (Q:VK),Inv X pins σ H s->t σ H Q->wpAny (model X.prog X.w) X.A (eval e X.env) (EP X pins σ Q) X.xe s
def PT (X:Cx) (e:Expr) (t:TT):Prop :=
 ∀ (pins:List (Addr × Obj)) (s:Shared) (σ:St) (H:Hp) (Q:Bool->Hp->Prop),Inv X pins σ H s->t σ H Q->wpAny (model X.prog X.w) X.A (isTrue e X.env (eval e X.env)) (TP X pins σ Q) X.xe s
def PW (X:Cx) (e:Expr) (t:TT):Prop :=
 ∀ (whole:Sem Value) (pins:List (Addr × Obj)) (s:Shared) (σ:St) (H:Hp) (Q:Bool->Hp->Prop),Inv X pins σ H s->t σ H Q->wpAny (model X.prog X.w) X.A (isTrue e X.env whole) (TP X pins σ Q) X.xe s
theorem PW.pt {X:Cx} {e:Expr} {t:TT} (h:PW X e t):PT X e t:=h _
def PA (X:Cx) (es:List Expr) (t:TA):Prop :=
 ∀ (pos:Pos) (pins:List (Addr × Obj)) (s:Shared) (σ:St) (H:Hp) (Q:List V->Hp->Prop),Inv X pins σ H s->t σ H Q->wpAny (model X.prog X.w) X.A (spliced (backTo pos (starEach es X.env))) (AP X pins σ Q) X.xe s
def PS (X:Cx) (st:Stmt) (t:TS):Prop :=
 ∀ (pins:List (Addr × Obj)) (s:Shared) (σ:St) (H:Hp) (D:ar4),Inv X pins σ H s->t D σ H->wpAny (model X.prog X.w) X.A (exec st X.env) (SP X pins D) X.xe s
def PSs (X:Cx) (st:List Stmt) (t:TS):Prop :=
 ∀ (pins:List (Addr × Obj)) (s:Shared) (σ:St) (H:Hp) (D:ar4),Inv X pins σ H s->t D σ H->wpAny (model X.prog X.w) X.A (execs st X.env) (SP X pins D) X.xe s
theorem thn {α:Type} {t:Sem α} {Q Q':α->Shared->Prop} {M:Model} {A:Around} {E:Value->Shared->Prop} {s:Shared} (h:wpAny M A t Q E s) (hQ:∀ a s,Q a s->Q' a s):wpAny M A t Q' E s:=wpAny_mono h hQ λ_ _ x=>x
section
variable {X:Cx}
def O1 (i:Nat):TE:=λσ H Q => ∃ v,σ[i]? = some (some v)/\Q v H
def tC (v:V):TE:=λ_ H Q=>Q v H
theorem bw1 {i:Nat} {x:Str} {pos:Pos} (hN:X.N[i]? = some x) (hv:Vis X.env.scope x) (hd:(x == ("__debug__" : Str))=false:=by decide) (hcd:(x == ("__classdict__" : Str))=false:=by decide):PE X (.Name x pos) (O1 i):=by
 intro pins s σ H Q I h;obtain ⟨v,e,h⟩:=h;obtain ⟨m,hn,hl⟩:=I.loc;obtain ⟨u,r,l⟩:=hl i x v hN e hv;have fin:EP X pins σ Q u s:=⟨v,H,I,r,h⟩;rcases l with ⟨hk,hm⟩ | ⟨hk,c,hc,hcell⟩
 ·exact wpAny_Name (wpAny_loadName_local I.ok.kind hk hn hm fin) hd
 ·rcases hk with hk | hk
  ·exact wpAny_Name (wpAny_loadName_cell I.ok.kind hk hc hcell fin) hd
  ·exact wpAny_Name (wpAny_loadName_free I.ok.kind hk hc hcell fin hcd) hd
theorem b9 {i j pos}:PE X (.Constant (.int i) j pos) (tC (.int i)):=λ_ _ _ H _ I h=>wpAny_Constant_int ⟨.int i,H,I.tok _,⟨_,rfl⟩,h⟩
theorem ae9 {b j pos}:PE X (.Constant (.bool b) j pos) (tC (.bl b)):=λ_ _ _ H _ I h=>Constant_bool ⟨.bl b,H,I,rfl,h⟩
theorem aV6 {j pos}:PE X (.Constant .none j pos) (tC .non):=λ_ _ _ H _ I h=>Constant_none ⟨.non,H,I,rfl,h⟩
theorem af8 {x j pos}:PE X (.Constant (.str x) j pos) (tC (.str x)):=λ_ _ _ H _ I h=>Calls.Constant_str ⟨.str x,H,I.tok _,⟨_,rfl⟩,h⟩
def Gl (X:Cx) (x:Str):Prop:=X.env.kindOf x=some .globalImplicit
theorem au0 {E:Value->Shared->Prop} {pins:List (Addr × Obj)} {s:Shared} {σ:St} {H:Hp} {x:Str} {u:Value} {pos:Pos} {Q:Value->Shared->Prop} (I:Inv X pins σ H s) (hg:Gl X x) (hm:X.mg x=some u) (h:Q u s)
  (hd:(x == ("__debug__" : Str))=false:=by decide):wpAny (model X.prog X.w) X.A (eval (.Name x pos) X.env) Q E s :=
 Calls.Name_function_global I.ok.kind hg (Calls.loadGlobal_global (by rw [I.ok.glob];exact I.mod.glob.keeps I.bk) hm h) hd
theorem aj0 {E:Value->Shared->Prop} {pins:List (Addr × Obj)} {s:Shared} {σ:St} {H:Hp} {x:Str} {u:Value} {pos:Pos} {Q:Value->Shared->Prop} (I:Inv X pins σ H s) (hg:Gl X x) (hm:X.mg x=none) (hv:bootBuiltins x=some u) (h:Q u s)
  (hn:x ≠ "__name__" := by decide) (hd:(x == ("__debug__" : Str))=false:=by decide):wpAny (model X.prog X.w) X.A (eval (.Name x pos) X.env) Q E s:=by
 obtain ⟨mb,h1,h2⟩:=I.mod.blt;exact Calls.Name_function_global I.ok.kind hg (Calls.loadGlobal_builtin (by rw [I.ok.glob];exact I.mod.glob.keeps I.bk) hm (by rw [I.ok.blt];exact h1.keeps I.bk) ((h2 x hn).trans hv) h) hd
theorem F8 {x:Str} {v:V} {u:Value} {pos:Pos} (hg:Gl X x) (hm:X.mg x=some u) (r:G2 v u) (hd:(x == ("__debug__" : Str))=false:=by decide):PE X (.Name x pos) (tC v) :=
 λ_ _ _ H _ I h=>au0 I hg hm ⟨v,H,I,r,h⟩ hd
theorem ae8 {x:Str} {v:V} {u:Value} {pos:Pos} (hg:Gl X x) (hm:X.mg x=none) (hv:bootBuiltins x=some u) (r:G2 v u) (hn:x ≠ "__name__" := by decide) (hd:(x == ("__debug__" : Str))=false:=by decide):PE X (.Name x pos) (tC v) :=
 λ_ _ _ H _ I h=>aj0 I hg hm hv ⟨v,H,I,r,h⟩ hn hd
variable {a b:Expr} {ta tb:TE} {pos:Pos}
def PC (X:Cx) (op:CmpOp) (a b:Expr) (t:TE):Prop :=
 ∀ (pins:List (Addr × Obj)) (s:Shared) (σ:St) (H:Hp) (Q:VK),Inv X pins σ H s->t σ H Q ->
  wpAny (model X.prog X.w) X.A (eval a X.env) (λv s₁=>wpAny (model X.prog X.w) X.A (eval b X.env) (λu s₂=>wpAny (model X.prog X.w) X.A (compareOp op v u) (EP X pins σ Q) X.xe s₂) X.xe s₁) X.xe s
def tB (t:TE):TT:=λσ H Q=>t σ H λx H1 => ∃ c,x=.bl c/\Q c H1
theorem V4 {e:Expr} {t:TE} (h:PE X e t) (he:∀ whole,isTrue e X.env whole=(do let v <- whole;standAt e.pos;holding [v] (truthy v)):=by intro _;rfl):PT X e (tB t):=by
 intro pins s σ H Q I hw;refine isTrue_plain (thn (h pins s σ H _ I hw) λv s1 zq=>?_) (he _);obtain ⟨x,H1,I1,r1,q1⟩:=zq;obtain ⟨d,rfl,q⟩:=q1
 cases r1
 exact wpAny_truthy_bool ⟨H1,I1,q⟩
variable {tA tB':TT} {ay6:List Expr}
def bv2 (t u:TT):TT:=λσ H Q=>t σ H λc H1=>if c=true then u σ H1 Q else Q false H1
def tOr (t u:TT):TT:=λσ H Q=>t σ H λc H1=>if c=true then Q true H1 else u σ H1 Q
def bv0 (t:TT):TT:=λσ H Q=>t σ H λc H1=>Q (!c) H1
theorem aM2 (ha:PT X a tA):PW X (.BoolOp .And [a] pos) tA:=by
 intro wh pins s σ H Q I h;refine isTrue_and (thn (ha pins s σ H Q I h) λc s1 e=>?_)
 cases c with
 | true=>exact isTrue_and_nil e
 | false=>exact e
theorem af6 (ha:PT X a tA):PW X (.BoolOp .Or [a] pos) tA:=by
 intro wh pins s σ H Q I h;refine isTrue_or (thn (ha pins s σ H Q I h) λc s1 e=>?_)
 cases c with
 | false=>exact isTrue_or_nil e
 | true=>exact e
theorem aV5 (ha:PT X a tA) (hb:PW X (.BoolOp .And (b :: ay6) pos) tB'):PW X (.BoolOp .And (a :: b :: ay6) pos) (bv2 tA tB'):=by
 intro wh pins s σ H Q I h;refine isTrue_and (thn (ha pins s σ H _ I h) λc s1 zq=>?_);obtain ⟨H1,I1,q1⟩:=zq
 cases c with
 | true=>exact hb wh pins s1 σ H1 Q I1 q1
 | false=>exact ⟨H1,I1,q1⟩
theorem ad1 (ha:PT X a tA) (hb:PW X (.BoolOp .Or (b :: ay6) pos) tB'):PW X (.BoolOp .Or (a :: b :: ay6) pos) (tOr tA tB'):=by
 intro wh pins s σ H Q I h;refine isTrue_or (thn (ha pins s σ H _ I h) λc s1 zq=>?_);obtain ⟨H1,I1,q1⟩:=zq
 cases c with
 | true=>exact ⟨H1,I1,q1⟩
 | false=>exact hb wh pins s1 σ H1 Q I1 q1
theorem V5 (ha:PT X a tA):PT X (.UnaryOp .Not a pos) (bv0 tA):=by
 intro pins s σ H Q I h;exact isTrue_not (ha pins s σ H (λc H1=>Q (!c) H1) I h)
def bh4 (ta tb:TE):TE:=λσ H Q=>ta σ H λx H1 => ∃ c,x=.bl c/\if c=true then tb σ H1 Q else Q (.bl false) H1
def bh0 (ta:TE):TE:=λσ H Q=>ta σ H λx H1 => ∃ c,x=.bl c/\Q (.bl (!c)) H1
theorem aM5 {op} {t:TE} (h:PE X a t):PE X (.BoolOp op [a] pos) t:=λpins s σ H Q I hw=>BoolOp_one (h pins s σ H Q I hw)
theorem aM6 (ha:PE X a ta) (hb:PE X (.BoolOp .And (b :: ay6) pos) tb):PE X (.BoolOp .And (a :: b :: ay6) pos) (bh4 ta tb):=by
 intro pins s σ H Q I h;refine BoolOp_and (thn (ha pins s σ H _ I h) λv s1 zq=>?_);obtain ⟨x,H1,I1,r1,q1⟩:=zq;obtain ⟨c,rfl,q1⟩:=q1
 cases r1
 refine wpAny_truthy_bool ?_
 cases c with
 | true=>exact hb pins s1 σ H1 Q I1 q1
 | false=>exact ⟨.bl false,H1,I1,rfl,q1⟩
theorem bw2 (ha:PE X a ta):PE X (.UnaryOp .Not a pos) (bh0 ta):=by
 intro pins s σ H Q I h;refine UnaryOp_ (thn (ha pins s σ H _ I h) λv s1 zq=>?_);obtain ⟨x,H1,I1,r1,q1⟩:=zq;obtain ⟨c,rfl,q1⟩:=q1
 cases r1
 exact not_of (wpAny_truthy_bool ⟨.bl (!c),H1,I1,rfl,q1⟩)
def tIf (t:TT) (ta tb:TE):TE:=λσ H Q=>t σ H λc H1=>if c=true then ta σ H1 Q else tb σ H1 Q
theorem ag9 {c:Expr} (hc:PT X c tA) (ha:PE X a ta) (hb:PE X b tb):PE X (.IfExp c a b pos) (tIf tA ta tb):=by
 intro pins s σ H Q I h;refine wpAny_IfExp (thn (hc pins s σ H _ I h) λd s1 zq=>?_);obtain ⟨H1,I1,q1⟩:=zq
 cases d with
 | true=>exact ha pins s1 σ H1 Q I1 q1
 | false=>exact hb pins s1 σ H1 Q I1 q1
end
def SqL (K:q0a) (H:Hp) (a:Addr) (xs:List V):Prop :=
 Rd H a (.lst xs) \/
  ∃ (o:Obj) (its:Array Value) (n:Nat),K.lookup a=some o/\o.cls=.type "list"/\o.dict=none/\o.data=.seq its n/\its.size<=sizeLine/\A7 xs its.toList
def SqT (K:q0a) (H:Hp) (a:Addr) (xs:List V):Prop :=
 Rd H a (.tup xs) \/
  ∃ (o:Obj) (its:Array Value) (n:Nat),K.lookup a=some o/\o.cls=.type "tuple"/\o.data=.seq its n/\its.size<=sizeLine/\A7 xs its.toList
def bC3:Value->Option V
 | .none=>some .non
 | .bool b=>some (.bl b)
 | .int i _=>some (.int i)
 | .str x _=>some (.str x)
 | .bytes b _=>some (.byt b)
 | .float b _=>some (.flt b)
 | .ref a=>some (.ref a)
 | .type n=>some (.ty n)
 | _=>none
theorem G2.abs {x:V} {u:Value} (r:G2 x u):bC3 u=some x:=by
 cases x with
 | non=>cases r;rfl
 | bl _=>cases r;rfl
 | int _=>obtain ⟨t,rfl⟩:=r;rfl
 | str _=>obtain ⟨t,rfl⟩:=r;rfl
 | byt _=>obtain ⟨t,rfl⟩:=r;rfl
 | flt _=>obtain ⟨t,rfl⟩:=r;rfl
 | ref _=>cases r;rfl
 | ty _=>cases r;rfl
theorem G2.inj {x y:V} {u:Value} (r:G2 x u) (q:G2 y u):x=y:=Option.some.inj (r.abs.symm.trans q.abs)
theorem A7.inj {xs ys:List V} {us:List Value} (a:A7 xs us) (b:A7 ys us):xs=ys:=by
 induction a generalizing ys with
 | nil=>cases b;rfl
 | cons r t ih=>
  cases b with
  | cons r' t'=>rw [r.inj r',ih t']
section
variable {X:Cx} {pins:List (Addr × Obj)} {σ:St} {H:Hp} {s:Shared} {a:Addr} {xs ys:List V}
theorem SqL.of {K:q0a} (h:H a=some (.lst xs)):SqL K H a xs:=.inl (.inl h)
theorem SqT.of {K:q0a} (h:H a=some (.tup xs)):SqT K H a xs:=.inl (.inl h)
theorem Inv.list (I:Inv X pins σ H s) (h:SqL X.K H a xs):∃ its:List Value,A7 xs its/\PlainL s.heap a its.toArray/\xs.length<=sizeLine:=by
 rcases h with h | ⟨o,its,n,hk,hc,hd,hs,hz,r⟩
 ·obtain ⟨z,its,n,r,e⟩:=h.ok I.hok
  exact ⟨its,r,⟨_,n,e,rfl,rfl,rfl⟩,z⟩
 ·refine ⟨its.toList,r,⟨o,n,I.kIn a o hk,hc,hd,by simpa using hs⟩,?_⟩
  have e:=r.length;simp only [q1b] at e
  lia
theorem Inv.tuple (I:Inv X pins σ H s) (h:SqT X.K H a xs):∃ its:List Value,A7 xs its/\IsTup s.heap a its.toArray/\xs.length<=sizeLine:=by
 rcases h with h | ⟨o,its,n,hk,hc,hs,hz,r⟩
 ·obtain ⟨z,its,r,p⟩:=h.ok I.hok
  exact ⟨its,r,p,z⟩
 ·refine ⟨its.toList,r,⟨o,I.kIn a o hk,hc,n,by simpa using hs⟩,?_⟩
  have e:=r.length;simp only [q1b] at e;omega
theorem Inv.list_inj (I:Inv X pins σ H s) (h:SqL X.K H a xs) (h':SqL X.K H a ys):xs=ys:=by
 obtain ⟨its,r,⟨o,n,e,_,_,d⟩,_⟩:=I.list h;obtain ⟨its',r',⟨o',n',e',_,_,d'⟩,_⟩:=I.list h';rw [e] at e';cases e';rw [d] at d'
 injection d' with d1 _
 have:its=its':=by simpa using congrArg Array.toList d1
 subst this;exact r.inj r'
theorem Inv.tuple_inj (I:Inv X pins σ H s) (h:SqT X.K H a xs) (h':SqT X.K H a ys):xs=ys:=by
 obtain ⟨its,r,⟨o,e,_,n,d⟩,_⟩:=I.tuple h;obtain ⟨its',r',⟨o',e',_,n',d'⟩,_⟩:=I.tuple h';rw [e] at e';cases e';rw [d] at d'
 injection d' with d1 _
 have:its=its':=by simpa using congrArg Array.toList d1
 subst this;exact r.inj r'
end
abbrev Cx.wish (X:Cx) (E:Value->Shared->Prop):Cx:={ X with xe:=E }
abbrev Cx.nox (X:Cx):Cx:=X.wish λ_ _=>False
theorem Cx.Ok.wish {X:Cx} (ok:X.Ok) (E:Value->Shared->Prop):(X.wish E).Ok :=
 ⟨ok.mod,ok.kind,ok.glob,ok.blt,ok.above,ok.inj,ok.has,ok.cab,ok.hd,ok.frames,ok.stk,ok.exf,ok.bs,ok.bsz,ok.noex,ok.exfs,ok.funs,ok.frf⟩
theorem Cx.Ok.unwish {X:Cx} {E:Value->Shared->Prop} (ok:(X.wish E).Ok):X.Ok :=
 ⟨ok.mod,ok.kind,ok.glob,ok.blt,ok.above,ok.inj,ok.has,ok.cab,ok.hd,ok.frames,ok.stk,ok.exf,ok.bs,ok.bsz,ok.noex,ok.exfs,ok.funs,ok.frf⟩
section
variable {X:Cx} {pins:List (Addr × Obj)} {σ:St} {H:Hp} {s:Shared} {E:Value->Shared->Prop}
theorem Inv.wish (I:Inv X pins σ H s) (E:Value->Shared->Prop):Inv (X.wish E) pins σ H s:=⟨I.ok.wish E,I.os,I.bare,I.base,I.loc,I.cell,I.free,I.freeC,I.pin,I.hok,I.len⟩
theorem Inv.unwish (I:Inv (X.wish E) pins σ H s):Inv X pins σ H s:=⟨I.ok.unwish,I.os,I.bare,I.base,I.loc,I.cell,I.free,I.freeC,I.pin,I.hok,I.len⟩
theorem SP.unwish {D:ar4} {f:Flow} {s':Shared} (h:SP (X.wish E) pins D f s'):SP X pins D f s':=by
 cases f with
 | next=>obtain ⟨σ',H',I,q⟩:=h;exact ⟨σ',H',I.unwish,q⟩
 | brk=>obtain ⟨σ',H',I,q⟩:=h;exact ⟨σ',H',I.unwish,q⟩
 | cont=>obtain ⟨σ',H',I,q⟩:=h;exact ⟨σ',H',I.unwish,q⟩
 | ret u=>obtain ⟨v,σ',H',I,r,q⟩:=h;exact ⟨v,σ',H',I.unwish,r,q⟩
theorem PSs.nox {st:List Stmt} {t:TS} (h:PSs X.nox st t):PSs X st t:=λpins s σ H D I hw =>
 wpAny_mono (h pins s σ H D (I.wish _) hw) (λ_ _ q=>q.unwish) λ_ _ z=>False.elim z
end
section
variable {X:Cx} {st:Stmt} {ay6:List Stmt} {t u:TS} {e:Expr} {te:TE} {pos:Pos}
def bh1:TS:=λD σ H=>D.nx σ H
def bn7 (t u:TS):TS:=λD σ H=>t { D with nx:=u D } σ H
theorem o0:PSs X [] bh1:=λ_ _ σ H _ I h=>wpAny_execs_nil ⟨σ,H,I,h⟩
theorem c7 (h1:PS X st t) (h2:PSs X ay6 u):PSs X (st :: ay6) (bn7 t u):=by
 intro pins s σ H D I h;refine wpAny_execs_cons (thn (h1 pins s σ H { D with nx:=u D } I h) λf s1 q=>?_)
 cases f with
 | next =>
  obtain ⟨σ',H',I',q⟩:=q;exact h2 pins s1 σ' H' D I' q
 | ret v=>exact q
 | brk=>exact q
 | cont=>exact q
theorem d4 (h1:PS X st t):PSs X [st] t:=by
 intro pins s σ H D I h;refine wpAny_execs_cons (thn (h1 pins s σ H D I h) λf s1 q=>?_)
 cases f with
 | next=>exact wpAny_execs_nil q
 | ret v=>exact q
 | brk=>exact q
 | cont=>exact q
theorem Inv.quiet {pins:List (Addr × Obj)} {σ:St} {H:Hp} {s:Shared} (I:Inv X pins σ H s):interactive X.env=false:=by simp [interactive,I.ok.kind]
def bh3 (te:TE):TS:=λD σ H=>te σ H λ_ H1=>D.nx σ H1
theorem W4 (he:PE X e te) (hs:swapsWith e none pos.line X.env=pure false:=by rfl):PS X (.Expr e pos) (bh3 te):=by
 intro pins s σ H D I h;exact wpAny_Expr_any (thn (he pins s σ H _ I h) λv s1 ⟨x,H1,I1,r1,q1⟩=>⟨σ,H1,I1,q1⟩) I.quiet hs
def bn8 (te:TE):TS:=λD σ H=>te σ H D.rt
theorem j2 (he:PE X e te):PS X (.Return (some e) pos) (bn8 te):=by
 intro pins s σ H D I h;exact wpAny_Return_some (thn (he pins s σ H _ I h) λv s1 ⟨x,H1,I1,r1,q1⟩=>⟨x,σ,H1,I1,r1,q1⟩)
def bv1 (c:TT) (t u:TS):TS:=λD σ H=>c σ H λb H1=>if b=true then t D σ H1 else u D σ H1
theorem E7 {c:Expr} {a b:List Stmt} {tc:TT} (hc:PT X c tc) (ha:PSs X a t) (hb:PSs X b u):PS X (.If c a b pos) (bv1 tc t u):=by
 intro pins s σ H D I h;refine wpAny_If (thn (hc pins s σ H _ I h) λd s1 zq=>?_);obtain ⟨H1,I1,q1⟩:=zq
 cases d with
 | true=>exact ha pins s1 σ H1 D I1 q1
 | false=>exact hb pins s1 σ H1 D I1 q1
def aU2:TS:=λ_ _ _=>False
theorem aR3:PS X st aU2:=λ_ _ _ _ _ _ h=>h.elim
end
abbrev TG:=V->St->Hp->(St->Hp->Prop)->Prop
abbrev TGs:=List V->St->Hp->(St->Hp->Prop)->Prop
def PG (X:Cx) (target:Expr) (t:TG):Prop :=
 ∀ (pins:List (Addr × Obj)) (s:Shared) (σ:St) (H:Hp) (v:V) (u:Value) (Q:St->Hp->Prop),Inv X pins σ H s->G2 v u->t v σ H Q ->
  wpAny (model X.prog X.w) X.A (assign target X.env u) (λ_ s' => ∃ σ' H',Inv X pins σ' H' s'/\Q σ' H') X.xe s
def PGs (X:Cx) (ts:List Expr) (t:TGs):Prop :=
 ∀ (pins:List (Addr × Obj)) (s:Shared) (σ:St) (H:Hp) (vs:List V) (us:List Value) (Q:St->Hp->Prop),Inv X pins σ H s->A7 vs us->t vs σ H Q ->
  wpAny (model X.prog X.w) X.A (assignInOrder ((assignEach ts X.env).map (·.2)) us) (λ_ s' => ∃ σ' H',Inv X pins σ' H' s'/\Q σ' H') X.xe s
abbrev bz1:=V->V->V->Hp->(Hp->Prop)->Prop
def bB3 (X:Cx) (t:bz1):Prop :=
 ∀ (pins:List (Addr × Obj)) (s:Shared) (σ:St) (H:Hp) (o i v:V) (ov iv u:Value) (Q:Hp->Prop),Inv X pins σ H s->G2 o ov->G2 i iv->G2 v u->t o i v H Q ->
  wpAny (model X.prog X.w) X.A (setItem ov iv u) (λ_ s' => ∃ H',Inv X pins σ H' s'/\Q H') X.xe s
section
variable {X:Cx} {pos:Pos}
def t4 (i:Nat):TG:=λv σ H Q=>Q (σ.set i (some v)) H
theorem d5 {i:Nat} {x:Str} (hN:X.N.Nodup) (hi:X.N[i]? = some x) (hx:Loc X.env.scope x) (hf:X.fn x=true \/ X.env.scope.names.lookup x=some .local:=by first | exact .inl rfl | exact .inr rfl | assumption):PG X (.Name x pos) (t4 i):=by
 intro pins s σ H v u Q I r h;exact wpAny_assign_Name (ak6 I hN hi hx r (λs' I'=>⟨_,H,I',h⟩) hf)
def U3:TGs:=λvs σ H Q=>vs=[]/\Q σ H
def w9 (t:TG) (u:TGs):TGs:=λvs σ H Q => ∃ v r,vs=v :: r/\t v σ H λσ' H'=>u r σ' H' Q
theorem C6:PGs X [] U3:=by
 intro pins s σ H vs us Q I r h;obtain ⟨e,h⟩:=h;subst e
 cases r
 exact assignInOrder_nil ⟨σ,H,I,h⟩
theorem j1 {e:Expr} {es:List Expr} {t:TG} {u:TGs} (h1:PG X e t) (h2:PGs X es u)
  (hs:(assignEach (e :: es) X.env).map (·.2)=assign e X.env :: (assignEach es X.env).map (·.2):=by rfl):PGs X (e :: es) (w9 t u):=by
 intro pins s σ H vs us Q I r h;obtain ⟨v,vr,e1,h⟩:=h;subst e1
 cases r with
 | cons r rr =>
  rw [hs];refine assignInOrder_cons (thn (h1 pins s σ H _ _ _ I r h) λ_ s1 zq=>?_);obtain ⟨σ1,H1,I1,q1⟩:=zq;exact h2 pins s1 σ1 H1 _ _ Q I1 rr q1
def U2 (K:q0a) (n:Nat) (t:TGs):TG:=λv σ H Q => ∃ a xs,v=.ref a/\SqT K H a xs/\xs.length=n/\t xs σ H Q
theorem F4 {es:List Expr} {k:Nat} {t:TGs} {n:Nat} (hc:X.calm=true) (h:PGs X es t)
  (hn:(assignEach es X.env).length=n:=by rfl) (hst:(assignEach es X.env).findIdx? (·.1)=none:=by rfl):PG X (.Tuple es k pos) (U2 X.K n t):=by
 intro pins s σ H v u Q I r hw;obtain ⟨a,xs,e1,hq,hl,hw⟩:=hw;subst e1
 cases r
 obtain ⟨its,rv,ht,hz⟩:=I.tuple hq;refine assign_Tuple_tuple (I.ok.hd hc) ht (by simp [hn,<- hl,rv.length]) hst λh' hx=>?_
 have I1:Inv X pins σ H { s with heap:=h' }:=I.kept (t':=s.toks) λb o e=>hx b o (q0q (q0f e)) e;exact h pins _ σ H xs _ Q I1 (by simpa using rv) hw
def aW9 (to ti:TE) (t:bz1):TG:=λv σ H Q=>to σ H λo H1=>ti σ H1 λi H2=>t o i v H2 λH3=>Q σ H3
theorem V7 {o i:Expr} {to ti:TE} {t:bz1} (ho:PE X o to) (hi:PE X i ti) (hs:bB3 X t)
  (ha:∀ v,assign (.Subscript o i pos) X.env v=(do
   let ov <- holding [v] (eval o X.env)
   let iv <- holding [v,ov] (eval i X.env)
   standAt pos
   holding [v,ov,iv] (setItem ov iv v)
   release [v,ov,iv] []):=by intro _;rfl):PG X (.Subscript o i pos) (aW9 to ti t):=by
 intro pins s σ H v u Q I r h;rw [ha];refine wpAny_bind (wpAny_holding (thn (ho pins s σ H _ I h) λov s1 zq=>?_));obtain ⟨x,H1,I1,r1,q1⟩:=zq;refine wpAny_bind (wpAny_holding (thn (hi pins s1 σ H1 _ I1 q1) λiv s2 zq=>?_));obtain ⟨y,H2,I2,r2,q2⟩:=zq;refine wpAny_bind (wpAny_standAt (wpAny_bind (wpAny_holding (thn (hs pins s2 σ H2 x y v ov iv u _ I2 r1 r2 r q2) λ_ s3 zq=>?_))));obtain ⟨H3,I3,q3⟩:=zq;exact wpAny_release ⟨σ,H3,I3,q3⟩
def aU3 (te:TE) (g:TG):TS:=λD σ H=>te σ H λx H1=>g x σ H1 D.nx
theorem K7 {tg e : Expr} {te : TE} {g : TG} (he : PE X e te) (hg : PG X tg g) (hs : swapsWithSole [tg] e pos.line X.env = pure false := by rfl) (hw : swappedStores [tg] e X.env = pure none := by rfl)
    (h1:(assignEach [tg] X.env).map (·.2)=[assign tg X.env]:=by rfl):PS X (.Assign [tg] e pos) (aU3 te g):=by
  intro pins s σ H D I h;refine wpAny_Assign_stores (thn (he pins s σ H _ I h) λv s1 zq=>?_) hs hw;obtain ⟨x,H1,I1,r1,q1⟩:=zq;rw [h1];exact thn (hg pins s1 σ H1 x v _ I1 r1 q1) λ_ s2 q=>q
theorem i9 {i:Nat} {x:Str} {e:Expr} {te:TE} {pos':Pos} (hN:X.N.Nodup) (hi:X.N[i]? = some x) (hx:Loc X.env.scope x) (he:PE X e te) (hs:swapsWith e (some (.Name x pos')) pos.line X.env=pure false:=by rfl) (hf:X.fn x=true \/ X.env.scope.names.lookup x=some .local:=by first | exact .inl rfl | exact .inr rfl | assumption) :
  PS X (.Assign [.Name x pos'] e pos) (aU3 te (t4 i)):=by
 intro pins s σ H D I h;refine wpAny_Assign_Name (thn (he pins s σ H _ I h) λv s1 zq=>?_) hs;obtain ⟨y,H1,I1,r1,q1⟩:=zq;exact ak6 I1 hN hi hx r1 (λs2 I2=>⟨_,H1,I2,q1⟩) hf
def bn9 (i j:Nat) (ta:TA):TS:=λD σ H=>ta σ H λvs H1 => ∃ v w,vs=[v,w]/\D.nx ((σ.set i (some v)).set j (some w)) H1
theorem av4 {i j:Nat} {x y:Str} {a b:Expr} {ta:TA} {px py pt:Pos} {kt k2 pt2} (hc:X.calm=true) (hN:X.N.Nodup) (hi:X.N[i]? = some x) (hj:X.N[j]? = some y) (hij:i ≠ j)
  (hx:X.env.scope.names.lookup x=some .local) (hy:X.env.scope.names.lookup y=some .local) (ha:PA X [a,b] ta)
  (hw:swappedStores [.Tuple [.Name x px,.Name y py] kt pt] (.Tuple [a,b] k2 pt2) X.env=pure (some [x,y]))
  (hs:swapsWithSole [.Tuple [.Name x px,.Name y py] kt pt] (.Tuple [a,b] k2 pt2) pos.line X.env=pure false:=by rfl) :
  PS X (.Assign [.Tuple [.Name x px,.Name y py] kt pt] (.Tuple [a,b] k2 pt2) pos) (bn9 i j ta):=by
 intro pins s σ H D I h;rw [exec_Assign_arm];refine wpAny_bind (wpAny_standAt ?_);rw [hs];refine wpAny_bind (wpAny_pure ?_);rw [if_neg (by decide)]
 refine wpAny_bind (Tuple_ (thn (ha _ pins s σ H _ I h) λus s1 zq=>?_));obtain ⟨vs,H1,I1,r1,q1⟩:=zq;obtain ⟨v,w,e1,q1⟩:=q1;subst e1
 obtain ⟨u1,u2,rfl,rv,rw'⟩:∃ u1 u2,us=[u1,u2]/\G2 v u1/\G2 w u2:=by
  cases r1 with
  | cons p q =>
   cases q with
   | cons p' q' =>
    cases q'
    exact ⟨_,_,rfl,p,p'⟩
 refine wpAny_newObj_type ?_ (by show 2<=sizeLine;decide)
 have I2:Inv X pins σ H1 { s1 with heap:=s1.heap.push { cls:=.type "tuple",data:=.seq [u1,u2].toArray } }:=I1.kept (t':=s1.toks) λb o e=>q0j _ e
 rw [hw];refine wpAny_bind (wpAny_pure ?_)
 show wpAny (model X.prog X.w) X.A (do rule "assign.swapped-stores";let items <- unpackItems (.ref s1.heap.objs.size) 2 none;assignInOrder [λv=>bindName X.env y v,λv=>bindName X.env x v] items.reverse;pure Flow.next) _ _ _
 refine wpAny_bind (wpAny_rule (wpAny_bind (unpackItems_tuple (items:=#[u1,u2]) (I.ok.hd hc) (IsTup.new s1.heap _) λh' hx'=>?_)));have I3:=I2.kept (h':=h') (t':=s1.toks) λb o e=>hx' b o (q0q (q0f e)) e
 show wpAny _ _ (assignInOrder [λv=>bindName X.env y v,λv=>bindName X.env x v] [u2,u1] >>= λ_=>pure Flow.next) _ _ _;refine wpAny_bind (assignInOrder_cons (wpAny_bindName (ak6 I3 hN hj (.inl hy) rw' (λs2 I4=>?_) (.inr hy))));refine assignInOrder_cons (wpAny_bindName (ak6 I4 hN hi (.inl hx) rv (λs3 I5=>assignInOrder_nil (wpAny_pure ?_)) (.inr hx)));rw [List.set_comm _ _ (Ne.symm hij)] at I5;exact ⟨_,H1,I5,q1⟩
def aJ7 (c:TT) (tb:TS):TS:=λD σ H => ∃ W:Nat->St->Hp->Prop,(∃ m,W m σ H)/\∀ m σ H,W m σ H ->
 c σ H λb H1=>if b=true then ∃ N:St->Hp->Prop,(∀ σ' H',N σ' H'->∃ m',m'<m/\W m' σ' H')/\tb { D with nx:=N,ct:=N,bk:=D.nx } σ H1 else D.nx σ H1
theorem aB7 {c:Expr} {body:List Stmt} {tc:TT} {tb:TS} (hp:PassesOwn (model X.prog X.w) X.A X.env X.xe) (hc:PT X c tc) (hb:PSs X body tb):PS X (.While c body [] pos) (aJ7 tc tb):=by
 intro pins s σ H D I h;obtain ⟨W,⟨m0,w0⟩,turn⟩:=h;refine wpAny_While (codeAny_whileLoop (λn s' => ∃ σ' H',Inv X pins σ' H' s'/\W n σ' H') ?_ m0 ⟨σ,H,I,w0⟩);rintro n s1 ⟨σ1,H1,I1,w1⟩;refine wpAny_passesOwn hp (thn (hc pins s1 σ1 H1 _ I1 (turn n σ1 H1 w1)) λb s2 zq=>?_);obtain ⟨H2,I2,q2⟩:=zq
 cases b with
 | true =>
  obtain ⟨N,hN,q2⟩:=q2;rw [if_pos rfl];refine wpAny_passesOwn hp (thn (hb pins s2 σ1 H2 _ I2 q2) λf s3 q3=>?_)
  cases f with
  | next =>
   obtain ⟨σ3,H3,I3,n3⟩:=q3;obtain ⟨m',hm,w3⟩:=hN σ3 H3 n3;exact ⟨m',hm,σ3,H3,I3,w3⟩
  | cont =>
   obtain ⟨σ3,H3,I3,n3⟩:=q3;obtain ⟨m',hm,w3⟩:=hN σ3 H3 n3;exact ⟨m',hm,σ3,H3,I3,w3⟩
  | brk=>exact q3
  | ret v=>exact q3
 | false =>
  rw [if_neg q0t];exact wpAny_execs_nil ⟨σ1,H2,I2,q2⟩
end
structure It where
 go:Nat->Hp->Prop
 yld:Nat->Hp->V->Hp->Prop
 stop:Nat->Hp->Prop
def aj8 (X:Cx) (pins:List (Addr × Obj)) (H:Hp) (b:Addr):Prop :=
 H b=none/\b ≠ X.env.locals/\b ∉ X.fs/\(b ∈ X.ex \/ X.s₀.heap.objs.size<=b)/\(∀ x c,X.env.cells.lookup x=some c->c ≠ b)/\∀ p ∈ X.pn ++ pins,p.1 ≠ b
theorem Inv.fpOk {X:Cx} {pins:List (Addr × Obj)} {σ:St} {H H':Hp} {s:Shared} {b:Addr} (I:Inv X pins σ H s) (hb:s.heap.objs.size<=b) (hn:H' b=none):aj8 X pins H' b:=by
 refine ⟨hn,y0q (q0b I.lt hb),I.nofs hb,.inr (q0s I.sz hb),λx c e z=>?_,λp hp z=>?_⟩
 ·obtain ⟨v,q⟩:=I.cell x c e
  exact absurd (q0b q.lt (by rw [z];exact hb)) (j0r _)
 ·exact absurd (q0b (q0f (I.pin p hp).1) (by rw [z];exact hb)) (j0r _)
structure bf9 (P:Program) (w:World) (K:q0a) (tg:Expr) (J:It) (fp:List Addr) (it:Addr) (tn:Nat->Heap->Prop):Prop where
 mem:it ∈ fp
 obj:∀ i h,tn i h->∀ b ∈ fp,∃ o,h.get? b=some o/\∀ v,o.data ≠ .cell v
 keep:∀ i h h',tn i h->(∀ b ∈ fp,∀ o,h.get? b=some o->h'.get? b=some o)->tn i h'
 item:∀ (X:Cx),X.prog=P->X.w=w->X.K=K->X.calm=true->∀ (i:Nat) (pins:List (Addr × Obj)) (s:Shared) (σ:St) (H:Hp) (E:Value->Shared->Prop),Inv X pins σ H s->(∀ b ∈ fp,aj8 X pins H b)->tn i s.heap->J.go i H ->
  wpAny (model P w) X.A (pyNext (.ref it)) (λr s1 => ∃ u,r=some u /\
   wpAny (model P w) X.A (letOwnedTupleGo tg (.ref it) u) (λ_ s2 => ∃ x H',Inv X pins σ H' s2/\G2 x u/\J.yld i H x H'/\tn (i+1) s2.heap/\∀ b ∈ fp,H' b=none) E s1) E s
 done:∀ (X:Cx),X.prog=P->X.w=w->X.K=K->X.calm=true->∀ (i:Nat) (pins:List (Addr × Obj)) (s:Shared) (σ:St) (H:Hp) (E:Value->Shared->Prop),Inv X pins σ H s->(∀ b ∈ fp,aj8 X pins H b)->tn i s.heap->J.stop i H ->
  wpAny (model P w) X.A (pyNext (.ref it)) (λr s1=>r=none/\Inv X pins σ H s1) E s
 self:∀ (A:Around) (i:Nat) (s:Shared) (Q:Value->Shared->Prop) (E:Value->Shared->Prop),tn i s.heap->Q (.ref it) s->wpAny (model P w) A (pyIter (.ref it)) Q E s
abbrev TI:=St->Hp->(It->Hp->Prop)->Prop
def PIE (X:Cx) (pins:List (Addr × Obj)) (σ:St) (tg:Expr) (R:It->Hp->Prop) (itv:Value) (s2:Shared):Prop :=
 ∃ (it:Addr) (fp:List Addr) (tn:Nat->Heap->Prop) (J:It) (H':Hp),itv=.ref it/\Inv X pins σ H' s2/\bf9 X.prog X.w X.K tg J fp it tn/\tn 0 s2.heap/\(∀ b ∈ fp,aj8 X pins H' b)/\R J H'
def PI (X:Cx) (tg iter:Expr) (wi:TI):Prop :=
 ∀ (pins:List (Addr × Obj)) (s:Shared) (σ:St) (H:Hp) (R:It->Hp->Prop),Inv X pins σ H s->wi σ H R ->
  wpAny (model X.prog X.w) X.A (eval iter X.env) (λv s1=>wpAny (model X.prog X.w) X.A (pyIter v) (PIE X pins σ tg R) X.xe s1) X.xe s
theorem bt9 {M : Model} {A : Around} {E : Value → Shared → Prop} {s : Shared} {tg : Expr} {it : Addr} {u : Value} {o : Obj} {n : String} {vs : Array Value} {Q : Unit → Shared → Prop} (ho : s.heap.get? it = some o) (hc : o.cls = .type n) (hd : o.data = .fields vs)
    (hn:["enumerate","zip","dict_itemiterator","dict_reverseitemiterator","odict_iterator","itertools.zip_longest","itertools.pairwise"].contains n=false) (hQ:Q () s):wpAny M A (letOwnedTupleGo tg (.ref it) u) Q E s:=by
  unfold letOwnedTupleGo
  cases tg <;> first
    | exact wpAny_pure hQ
    | (cases u <;> first
        | exact wpAny_pure hQ
        | (refine wpAny_bind (wpAny_load ho ?_)
           rw [hc,hd]
           show wpAny M A (if (["enumerate","zip","dict_itemiterator","dict_reverseitemiterator","odict_iterator","itertools.zip_longest","itertools.pairwise"].contains n && vs[0]? == some (rawInt _))=true then _ else _) Q E s
           rw [if_neg (by intro h;rw [hn,Bool.false_and] at h;cases h)]
           exact wpAny_pure hQ))
def Itl (K:q0a) (a:Addr):It :=
 ⟨λi H => ∃ xs x,SqL K H a xs/\xs[i]? = some x,λi H x H'=>H'=H/\∀ xs,SqL K H a xs->xs[i]? = some x,λi H => ∃ xs,SqL K H a xs/\xs.length<=i⟩
def Itr (lo:Int) (n:Nat):It:=⟨λi _=>i<n,λi H x H'=>H'=H/\x=.int (lo+i),λi _=>n<=i⟩
theorem bc0 {P:Program} {w:World} {K:q0a} {tg:Expr} (a it:Addr):bf9 P w K tg (Itl K a) [it] it (λi h=>h.IsListIter it a i) where
 mem:=by simp
 obj:=λi h st b hb=>by
  have e:b=it:=by simpa using hb
  subst e;obtain ⟨o,e,c,d⟩:=st;exact ⟨o,e,λv z=>by rw [d] at z;cases z⟩
 keep:=λi h h' st k=>st.at λo e=>k it (by simp) o e
 item:=by
  intro X hP hw hK hc i pins s σ H E I hf st hg;subst hP hw hK;obtain ⟨xs,x,hq,hx⟩:=hg;obtain ⟨its,rv,p,hz⟩:=I.list hq;obtain ⟨u,hu,ru⟩:=rv.get hx;obtain ⟨f0,f1,f2,f3,f4,f5⟩:=hf it (by simp)
  refine wpAny_pyNext_list_item st p.isList (x:=u) (by simpa using hu) λh' st' sb=>?_
  have I1:Inv X pins σ H { s with heap:=h' }:=I.turned (t':=s.toks) (λb o hb e=>(sb.2 b hb).trans e) f0 f1 f3 f4 f5;obtain ⟨o,e,c,d⟩:=id st';exact ⟨u,rfl,bt9 (s:={ s with heap:=h' }) e c d (by decide) ⟨x,H,I1,ru,⟨rfl,λys hy=>by rw [I.list_inj hy hq];exact hx⟩,st',λb hb=>(hf b hb).1⟩⟩
 done:=by
  intro X hP hw hK hc i pins s σ H E I hf st hg;subst hP hw hK;obtain ⟨xs,hq,hx⟩:=hg;obtain ⟨its,rv,p,hz⟩:=I.list hq;obtain ⟨f0,f1,f2,f3,f4,f5⟩:=hf it (by simp)
  have hl:=rv.length;exact wpAny_pyNext_list_end (I.ok.hd hc) st p.isList (by simp;lia) λh' eb=>⟨rfl,I.turned (t':=s.toks) (λb o hb e=>eb b o hb e) f0 f1 f3 f4 f5⟩
 self:=λ_ _ _ _ _ st h=>wpAny_pyIter_listiter st h
theorem aT8 {P:Program} {w:World} {K:q0a} {tg:Expr} (it:Addr) (lo:Int) (n:Nat):bf9 P w K tg (Itr lo n) [it] it (λi h=>IsRangeIter h it (lo+(i:Nat)*1) ((n:Int)-(i:Nat)) 1) where
 mem:=by simp
 obj:=λi h st b hb=>by
  have e:b=it:=by simpa using hb
  subst e
  exact ⟨_,st,λv z=>by
   have z':Data.fields _=Data.cell v:=z
   cases z'⟩
 keep:=λi h h' st k=>k it (by simp) _ st
 item:=by
  intro X hP hw hK hc i pins s σ H E I hf st hg;subst hP hw hK;obtain ⟨f0,f1,f2,f3,f4,f5⟩:=hf it (by simp)
  have W:=Walks.range (prog:=X.prog) (w:=X.w) (I.ok.hd hc) it lo 1 n;refine W.item i s _ _ hg st λv h' tk hv st' kk=>?_;obtain ⟨t,rfl⟩:=hv;have I1:Inv X pins σ H { s with heap:=h',toks:=tk }:=I.turned (λb o hb e=>kk b o (by simpa using hb) e) f0 f1 f3 f4 f5
  refine ⟨_,rfl,bt9 (s:={ s with heap:=h',toks:=tk }) (n := "range_iterator") st' rfl rfl (by decide) ⟨.int (lo+i),H,I1,⟨t,?_⟩,⟨rfl,rfl⟩,st',λb hb=>(hf b hb).1⟩⟩
  rw [q1n]
 done:=by
  intro X hP hw hK hc i pins s σ H E I hf st hg;subst hP hw hK;obtain ⟨f0,f1,f2,f3,f4,f5⟩:=hf it (by simp)
  exact wpAny_pyNext_range_end (I.ok.hd hc) st (by have:n<=i:=hg;lia) λh' eb=>⟨rfl,I.turned (t':=s.toks) (λb o hb e=>eb b o hb e) f0 f1 f3 f4 f5⟩
 self:=λ_ _ _ _ _ st h=>wpAny_pyIter_rangeiter st h
section
variable {X:Cx} {tg:Expr}
def am0 (K:q0a) (tl:TE):TI:=λσ H R=>tl σ H λx H1 => ∃ a,x=.ref a/\(∃ xs,SqL K H1 a xs)/\R (Itl K a) H1
theorem A5 {l:Expr} {tl:TE} (hl:PE X l tl):PI X tg l (am0 X.K tl):=by
 intro pins s σ H R I h;refine thn (hl pins s σ H _ I h) λv s1 zq=>?_;obtain ⟨x,H1,I1,r1,q1⟩:=zq;obtain ⟨a,e,⟨xs,hq⟩,q⟩:=q1;subst e
 cases r1
 obtain ⟨its,rv,p,hz⟩:=I1.list hq;refine wpAny_pyIter_list p.isList ?_;refine ⟨s1.heap.objs.size,[s1.heap.objs.size],_,_,H1,rfl,I1.kept (t':=s1.toks) λb o e=>q0j _ e,bc0 a _,⟨_,z0b _ rfl,rfl,rfl⟩,λb hb=>?_,q⟩;have e:b=s1.heap.objs.size:=by simpa using hb
 subst e;exact I1.fpOk (q0h _) (I1.hok.fresh (q0h _))
theorem aR0 {pins:List (Addr × Obj)} {σ:St} {H:Hp} {s:Shared} {R:It->Hp->Prop} {E:Value->Shared->Prop} {lo hi:Int} {t u v:Tok} {tk:Nat} (I:Inv X pins σ H s) (h1:-(2 ^ 62)<=lo) (h2:lo<2 ^ 62) (h3:-(2 ^ 62)<=hi) (h4:hi<2 ^ 62)
  (q:R (Itr lo (hi-lo).toNat) H):wpAny (model X.prog X.w) X.A (pyIter (.ref s.heap.objs.size)) (PIE X pins σ tg R) E { s with heap:=s.heap.push { cls:=.type "range",data:=.fields #[.int lo t,.int hi u,.int 1 v] },toks:=tk }:=by
 refine wpAny_pyIter_range (IsRange.new ..) (small_one h1 h2 h3 h4) ?_;have I1:Inv X pins σ H { s with heap:=s.heap.push { cls:=.type "range",data:=.fields #[.int lo t,.int hi u,.int 1 v] },toks:=tk }:=I.kept λb o e=>q0j _ e
 refine ⟨(s.heap.push { cls:=.type "range",data:=.fields #[.int lo t,.int hi u,.int 1 v] }).objs.size,[(s.heap.push { cls:=.type "range",data:=.fields #[.int lo t,.int hi u,.int 1 v] }).objs.size],_,_,H,rfl,
  I1.kept (t':=tk) λb o e=>q0j _ e,aT8 _ lo (hi-lo).toNat,?_,λb hb=>?_,q⟩
 ·have e1:lo+((0:Nat):Int)*1=lo:=by simp
  have e2:(((hi-lo).toNat:Nat):Int)-((0:Nat):Int)=Builtin.Range.rangeSize lo hi 1:=by rw [rangeSize_one];split <;> lia
  show IsRangeIter _ _ (lo+((0:Nat):Int)*1) ((((hi-lo).toNat:Nat):Int)-((0:Nat):Int)) 1;rw [e1,e2];exact z0b _ rfl
 ·have e:b=(s.heap.push { cls:=.type "range",data:=.fields #[.int lo t,.int hi u,.int 1 v] }).objs.size:=by simpa using hb
  subst e;exact I1.fpOk (q0h _) (I1.hok.fresh (q0h _))
def bk6 (ta:TA):TI:=λσ H R=>ta σ H λvs H1 => ∃ j:Int,vs=[.int j]/\-(2 ^ 62)<=j/\j<2 ^ 62/\R (Itr 0 j.toNat) H1
def bk5 (ta:TA):TI:=λσ H R=>ta σ H λvs H1 => ∃ i j:Int,vs=[.int i,.int j]/\(-(2 ^ 62)<=i/\i<2 ^ 62/\-(2 ^ 62)<=j/\j<2 ^ 62)/\R (Itr i (j-i).toNat) H1
theorem E4 {a:Expr} {ta:TA} {p pos:Pos} (hg:Gl X "range") (hm:X.mg "range" = none) (ha:PA X [a] ta) (hs:starEach [a] X.env=[(false,eval a X.env)]:=by rfl):PI X tg (.Call (.Name "range" p) [a] [] pos) (bk6 ta):=by
 intro pins s σ H R I h;refine Call_ (aj0 I hg hm boot_range (PyProof.Rows.callWith_type1 (thn (ha pos pins s σ H _ I h) λus s1 zq=>?_) hs rfl));obtain ⟨vs,H1,I1,r1,q1⟩:=zq;obtain ⟨j,e,q1,q2,q⟩:=q1;subst e
 cases r1 with
 | cons r rr =>
  cases rr
  obtain ⟨t,rfl⟩:=r;exact call_range_1 (aR0 I1 (by simp) (by simp) q1 q2 (by simpa using q))
theorem av5 {a b:Expr} {ta:TA} {p pos:Pos} (hg:Gl X "range") (hm:X.mg "range" = none) (ha:PA X [a,b] ta) (hs:starEach [a,b] X.env=[(false,eval a X.env),(false,eval b X.env)]:=by rfl) (hs2:starEach [b] X.env=[(false,eval b X.env)]:=by rfl) :
  PI X tg (.Call (.Name "range" p) [a,b] [] pos) (bk5 ta):=by
 intro pins s σ H R I h;refine Call_ (aj0 I hg hm boot_range (PyProof.Rows.callWith_type1 (thn (ha pos pins s σ H _ I h) λus s1 zq=>?_) (by rw [hs,hs2]) (by rw [hs2];rfl)))
 obtain ⟨vs,H1,I1,r1,q1⟩:=zq;obtain ⟨i,j,e,⟨q1,q2,q3,q4⟩,q⟩:=q1;subst e
 cases r1 with
 | cons r rr =>
  cases rr with
  | cons r' rr =>
   cases rr
   obtain ⟨t,rfl⟩:=r;obtain ⟨t',rfl⟩:=r';exact call_range_2 (aR0 I1 q1 q2 q3 q4 q)
def bB8 (wi:TI) (g:TG) (tb:TS):TS:=λD σ H=>wi σ H λJ H1 => ∃ W:Nat->Nat->St->Hp->Prop,(∃ m,W 0 m σ H1)/\∀ i m σ H,W i m σ H ->
 (J.stop i H/\D.nx σ H) \/ (J.go i H/\∃ N:St->Hp->Prop,(∀ σ' H',N σ' H'->∃ m',m'<m/\W (i+1) m' σ' H')/\∀ x H',J.yld i H x H'->g x σ H' λσ2 H2=>tb { D with nx:=N,ct:=N,bk:=D.nx } σ2 H2)
def aM4 (fp:List Addr) (h:Heap):List (Addr × Obj):=fp.filterMap λb=>(h.get? b).map λo=>(b,o)
theorem B6 {fp:List Addr} {h:Heap} {b:Addr} {o:Obj} (hb:b ∈ fp) (e:h.get? b=some o):(b,o) ∈ aM4 fp h:=g0u.mpr ⟨b,hb,by rw [e];rfl⟩
theorem bd4 {fp:List Addr} {h:Heap} {p:Addr × Obj} (hp:p ∈ aM4 fp h):p.1 ∈ fp/\h.get? p.1=some p.2:=by
 obtain ⟨b,hb,e⟩:=g0u.mp hp
 cases q:h.get? b with
 | none=>rw [q] at e;cases e
 | some o =>
  rw [q] at e;have e':(b,o)=p:=Option.some.inj e;subst e';exact ⟨hb,q⟩
theorem Inv.pinned {pins:List (Addr × Obj)} {σ:St} {H:Hp} {s:Shared} {fp:List Addr} (I:Inv X pins σ H s) (hf:∀ b ∈ fp,aj8 X pins H b) (ho:∀ b ∈ fp,∃ o,s.heap.get? b=some o/\∀ v,o.data ≠ .cell v):Inv X (pins ++ aM4 fp s.heap) σ H s :=
 I.pins_of λp hp=>(z0t.mp hp).elim (λz=>I.pin p (q0k _ z)) λz=>by
  obtain ⟨hb,e⟩:=bd4 z;obtain ⟨f0,f1,f2,_⟩:=hf p.1 hb;obtain ⟨o,e',d⟩:=ho p.1 hb;rw [e] at e';cases e';exact ⟨e,f0,f1,f2,d⟩
theorem Inv.unpinned {pins pl:List (Addr × Obj)} {σ:St} {H:Hp} {s:Shared} (I:Inv X (pins ++ pl) σ H s):Inv X pins σ H s:=I.pins_of λp hp=>I.pin p (q0k _ (g0d _ hp))
theorem P6 {iter:Expr} {body:List Stmt} {wi:TI} {g:TG} {tb:TS} {pos:Pos} (hp:PassesOwn (model X.prog X.w) X.A X.env X.xe) (hc:X.calm=true) (hi:PI X tg iter wi) (hg:PG X tg g) (hb:PSs X body tb)
  (hs:∀ x,foldedSetIterable iter X.env x=pure x:=by intro _;rfl):PS X (.For tg iter body [] pos) (bB8 wi g tb):=by
 intro pins s σ H D I h;refine wpAny_For (thn (hi pins s σ H _ I h) λv s1 h1=>thn h1 λitv s2 h2=>?_) hs;obtain ⟨it,fp,tn,J,H2,e,I2,T,st2,f2,W,⟨m0,w0⟩,turn⟩:=h2;subst e
 -- what stays true of the iterator's objects through the loop
 have stat:∀ {H':Hp},(∀ b ∈ fp,H' b=none)->∀ b ∈ fp,aj8 X pins H' b:=λhn b hb=>⟨hn b hb,(f2 b hb).2⟩;refine codeAny_forLoop_any (λn s' => ∃ i σ' H',Inv X pins σ' H' s'/\tn i s'.heap/\(∀ b ∈ fp,H' b=none)/\W i n σ' H') ?_ m0 ⟨0,σ,H2,I2,st2,λb hb=>(f2 b hb).1,w0⟩;rintro n s3 ⟨i,σ3,H3,I3,st3,fr3,w3⟩;rcases turn i n σ3 H3 w3 with ⟨stop,qn⟩ | ⟨go,N,hN,step⟩
 ·refine wpAny_passesOwn hp (thn (T.done X rfl rfl rfl hc i pins s3 σ3 H3 X.xe I3 (stat fr3) st3 stop) λr s4 zq=>?_)
  obtain ⟨hr,I4⟩:=zq;subst hr;exact wpAny_execs_nil ⟨σ3,H3,I4,qn⟩
 ·refine wpAny_passesOwn hp (thn (T.item X rfl rfl rfl hc i pins s3 σ3 H3 X.xe I3 (stat fr3) st3 go) λr s4 zq=>?_)
  obtain ⟨u,hr,h4⟩:=zq;subst hr;refine wpAny_passesOwn hp (thn h4 λ_ s5 zq=>?_);obtain ⟨x,H5,I5,r5,y5,st5,fr5⟩:=zq;have I5':=I5.pinned (stat fr5) (T.obj _ _ st5);refine wpAny_passesOwn hp (thn (hg _ s5 σ3 H5 x u _ I5' r5 (step x H5 y5)) λ_ s6 zq=>?_);obtain ⟨σ6,H6,I6,q6⟩:=zq;refine wpAny_passesOwn hp (thn (hb _ s6 σ6 H6 _ I6 q6) λf s7 q7=>?_)
  have again:∀ {σ7:St} {H7:Hp},Inv X (pins ++ aM4 fp s5.heap) σ7 H7 s7->N σ7 H7->∃ m,m<n/\∃ i σ' H',Inv X pins σ' H' s7/\tn i s7.heap/\(∀ b ∈ fp,H' b=none)/\W i m σ' H':=fun {σ7 H7} I7 n7=>by
   obtain ⟨m',hm,w7⟩:=hN σ7 H7 n7;refine ⟨m',hm,i+1,σ7,H7,I7.unpinned,T.keep _ _ _ st5 λb hb o e=>(I7.pin (b,o) (q0k _ (q0k _ (B6 hb e)))).1,λb hb=>?_,w7⟩;obtain ⟨o,e,d⟩:=T.obj _ _ st5 b hb;exact (I7.pin (b,o) (q0k _ (q0k _ (B6 hb e)))).2.1
  cases f with
  | next=>obtain ⟨σ7,H7,I7,n7⟩:=q7;exact again I7 n7
  | cont=>obtain ⟨σ7,H7,I7,n7⟩:=q7;exact again I7 n7
  | brk=>obtain ⟨σ7,H7,I7,q7⟩:=q7;exact ⟨σ7,H7,I7.unpinned,q7⟩
  | ret v=>obtain ⟨x7,σ7,H7,I7,r7,q7⟩:=q7;exact ⟨x7,σ7,H7,I7.unpinned,r7,q7⟩
end
theorem au1 {K:q0a} {a:Addr} {xs:List V} {g:TG} {tb:TS} {D:ar4} {σ:St} {H:Hp} (Pv:Nat->St->Hp->Prop) (h0:Pv 0 σ H) (hl:∀ i σ H,i<=xs.length->Pv i σ H->SqL K H a xs)
  (hs:∀ i x σ H,xs[i]? = some x->Pv i σ H->g x σ H λσ2 H2=>tb { D with nx:=Pv (i+1),ct:=Pv (i+1),bk:=D.nx } σ2 H2) (hd:∀ σ H,Pv xs.length σ H->D.nx σ H) :
  ∃ W:Nat->Nat->St->Hp->Prop,(∃ m,W 0 m σ H)/\∀ i m σ H,W i m σ H ->
   ((Itl K a).stop i H/\D.nx σ H) \/ ((Itl K a).go i H/\∃ N:St->Hp->Prop,(∀ σ' H',N σ' H'->∃ m',m'<m/\W (i+1) m' σ' H')/\∀ x H',(Itl K a).yld i H x H'->g x σ H' λσ2 H2=>tb { D with nx:=N,ct:=N,bk:=D.nx } σ2 H2):=by
 refine ⟨λi m σ H=>m=xs.length-i/\i<=xs.length/\Pv i σ H,⟨xs.length,by simp,z0s _,h0⟩,?_⟩
 rintro i m σ H ⟨rfl,hi,p⟩;have q:=hl i σ H hi p
 by_cases hlt:i<xs.length
 ·refine .inr ⟨⟨xs,xs[i],q,by simp [hlt]⟩,Pv (i+1),λσ' H' p'=>⟨xs.length-(i+1),⋯,rfl,hlt,p'⟩,λx H' y=>?_⟩
  obtain ⟨e,y⟩:=y;subst e;exact hs i x σ _ (y xs q) p
 ·have e:i=xs.length:=by lia
  subst e;exact .inl ⟨⟨xs,q,q0h _⟩,hd σ H p⟩
theorem T9 {lo:Int} {n:Nat} {g:TG} {tb:TS} {D:ar4} {σ:St} {H:Hp} (Pv:Nat->St->Hp->Prop) (h0:Pv 0 σ H)
  (hs:∀ i σ H,i<n->Pv i σ H->g (.int (lo+i)) σ H λσ2 H2=>tb { D with nx:=Pv (i+1),ct:=Pv (i+1),bk:=D.nx } σ2 H2) (hd:∀ σ H,Pv n σ H->D.nx σ H) :
  ∃ W:Nat->Nat->St->Hp->Prop,(∃ m,W 0 m σ H)/\∀ i m σ H,W i m σ H ->
   ((Itr lo n).stop i H/\D.nx σ H) \/ ((Itr lo n).go i H/\∃ N:St->Hp->Prop,(∀ σ' H',N σ' H'->∃ m',m'<m/\W (i+1) m' σ' H')/\∀ x H',(Itr lo n).yld i H x H'->g x σ H' λσ2 H2=>tb { D with nx:=N,ct:=N,bk:=D.nx } σ2 H2):=by
 refine ⟨λi m σ H=>m=n-i/\i<=n/\Pv i σ H,⟨n,by simp,z0s _,h0⟩,?_⟩
 rintro i m σ H ⟨rfl,hi,p⟩
 by_cases hlt:i<n
 ·refine .inr ⟨hlt,Pv (i+1),λσ' H' p'=>⟨n-(i+1),⋯,rfl,hlt,p'⟩,λx H' y=>?_⟩
  obtain ⟨e,y⟩:=y;subst e y;exact hs i σ _ hlt p
 ·have e:i=n:=by lia
  subst e;exact .inl ⟨q0h _,hd σ H p⟩
theorem aP7 {c:TT} {tb:TS} {D:ar4} {σ:St} {H:Hp} (Pv:St->Hp->Prop) (μ:St->Hp->Nat) (h0:Pv σ H)
  (hs:∀ σ H,Pv σ H->c σ H λb H1=>if b=true then tb { D with nx:=λσ' H'=>Pv σ' H'/\μ σ' H'<μ σ H,ct:=λσ' H'=>Pv σ' H'/\μ σ' H'<μ σ H,bk:=D.nx } σ H1 else D.nx σ H1)
  (mono:∀ σ H Q Q',(∀ b H1,Q b H1->Q' b H1)->c σ H Q->c σ H Q'):aJ7 c tb D σ H:=by
 refine ⟨λm σ H=>m=μ σ H/\Pv σ H,⟨_,rfl,h0⟩,?_⟩;rintro m σ H ⟨rfl,p⟩;refine mono σ H _ _ (λb H1 q=>?_) (hs σ H p)
 cases b with
 | true=>exact ⟨_,λσ' H' ⟨p',l⟩=>⟨_,l,rfl,p'⟩,q⟩
 | false=>exact q
abbrev R2:=V->V->Hp->VK->Prop
def OpR (X:Cx) (f:Value->Value->Sem Value) (r:R2):Prop :=
 ∀ (pins:List (Addr × Obj)) (s:Shared) (σ:St) (H:Hp) (x y:V) (v u:Value) (Q:VK),Inv X pins σ H s->G2 x v->G2 y u->r x y H Q ->
  wpAny (model X.prog X.w) X.A (f v u) (EP X pins σ Q) X.xe s
def UnR (X:Cx) (f:Value->Sem Value) (r:V->Hp->VK->Prop):Prop :=
 ∀ (pins:List (Addr × Obj)) (s:Shared) (σ:St) (H:Hp) (x:V) (v:Value) (Q:VK),Inv X pins σ H s->G2 x v->r x H Q ->
  wpAny (model X.prog X.w) X.A (f v) (EP X pins σ Q) X.xe s
def aa9 (X:Cx) (f:Value) (r:List V->Hp->VK->Prop):Prop :=
 ∀ (pins:List (Addr × Obj)) (s:Shared) (σ:St) (H:Hp) (xs:List V) (us:List Value) (Q:VK),Inv X pins σ H s->A7 xs us->r xs H Q ->
  wpAny (model X.prog X.w) X.A (call f us) (EP X pins σ Q) X.xe s
def bC4 (X:Cx) (r:V->Hp->(Bool->Hp->Prop)->Prop):Prop :=
 ∀ (pins:List (Addr × Obj)) (s:Shared) (σ:St) (H:Hp) (x:V) (v:Value) (Q:Bool->Hp->Prop),Inv X pins σ H s->G2 x v->r x H Q ->
  wpAny (model X.prog X.w) X.A (truthy v) (TP X pins σ Q) X.xe s
def tOp (r:R2) (ta tb:TE):TE:=λσ H Q=>ta σ H λx H1=>tb σ H1 λy H2=>r x y H2 Q
def tUn (r:V->Hp->VK->Prop) (ta:TE):TE:=λσ H Q=>ta σ H λx H1=>r x H1 Q
def rI (C:Int->Int->Prop) (g:Int->Int->V):R2:=λx y H Q => ∃ i j,x=.int i/\y=.int j/\C i j/\Q (g i j) H
def rI0 (g:Int->Int->V):R2:=λx y H Q => ∃ i j,x=.int i/\y=.int j/\Q (g i j) H
def rU (g:Int->V):V->Hp->VK->Prop:=λx H Q => ∃ i,x=.int i/\Q (g i) H
section
variable {X:Cx} {a b c:Expr} {ta tb tc:TE} {pos:Pos}
theorem by5 (ha:PE X a ta) (hb:PE X b tb) {pins:List (Addr × Obj)} {s:Shared} {σ:St} {H:Hp} {R:V->V->Hp->Prop} (I:Inv X pins σ H s)
  (h:ta σ H λx H1=>tb σ H1 λy H2=>R x y H2) {Q:Value->Shared->Prop} {f:Value->Value->Sem Value}
  (hf:∀ v u s2 x y H2,Inv X pins σ H2 s2->G2 x v->G2 y u->R x y H2->wpAny (model X.prog X.w) X.A (f v u) Q X.xe s2) :
  wpAny (model X.prog X.w) X.A (eval a X.env) (λv s₁=>wpAny (model X.prog X.w) X.A (eval b X.env) (λu s₂=>wpAny (model X.prog X.w) X.A (f v u) Q X.xe s₂) X.xe s₁) X.xe s:=by
 refine thn (ha pins s σ H _ I h) λv s1 zq=>?_;obtain ⟨x,H1,I1,r1,q1⟩:=zq;refine thn (hb pins s1 σ H1 _ I1 q1) λu s2 zq=>?_;obtain ⟨y,H2,I2,r2,q2⟩:=zq;exact hf v u s2 x y H2 I2 r1 r2 q2
theorem i5 {op:Operator} {r:R2} (ho:OpR X (binaryOp op) r) (ha:PE X a ta) (hb:PE X b tb):PE X (.BinOp a op b pos) (tOp r ta tb):=by
 intro pins s σ H Q I h;exact wpAny_BinOp (by5 ha hb I h λv u s2 x y H2 I2 rx ry q=>ho pins s2 σ H2 x y v u Q I2 rx ry q)
theorem aa0 {op:UnaryOp} {r:V->Hp->VK->Prop} (ho:UnR X (unaryOp op) r) (ha:PE X a ta):PE X (.UnaryOp op a pos) (tUn r ta):=by
 intro pins s σ H Q I h;exact UnaryOp_ (thn (ha pins s σ H _ I h) λv s1 ⟨x,H1,I1,r1,q1⟩=>ho pins s1 σ H1 x v Q I1 r1 q1)
theorem opI {f:Value->Value->Sem Value} {C:Int->Int->Prop} {g:Int->Int->Int}
  (rule:∀ (i j:Int) (t u:Tok) (s:Shared) (Q:Value->Shared->Prop) (E:Value->Shared->Prop),C i j->Q (.int (g i j) s.toks) { s with toks:=s.toks+1 }->wpAny (model X.prog X.w) X.A (f (.int i t) (.int j u)) Q E s) :
  OpR X f (rI C λi j=>.int (g i j)):=by
 intro pins s σ H x y v u Q I rx ry h;obtain ⟨i,j,rfl,rfl,hc,q⟩:=h;obtain ⟨t,rfl⟩:=rx;obtain ⟨t',rfl⟩:=ry;exact rule i j t t' s _ _ hc ⟨.int (g i j),H,I.tok _,⟨_,rfl⟩,q⟩
theorem bA3 {f:Value->Value->Sem Value} {g:Int->Int->Int}
  (rule:∀ (i j:Int) (t u:Tok) (s:Shared) (Q:Value->Shared->Prop) (E:Value->Shared->Prop),Q (.int (g i j) s.toks) { s with toks:=s.toks+1 }->wpAny (model X.prog X.w) X.A (f (.int i t) (.int j u)) Q E s) :
  OpR X f (rI0 λi j=>.int (g i j)):=by
 intro pins s σ H x y v u Q I rx ry h;obtain ⟨i,j,rfl,rfl,q⟩:=h;obtain ⟨t,rfl⟩:=rx;obtain ⟨t',rfl⟩:=ry;exact rule i j t t' s _ _ ⟨.int (g i j),H,I.tok _,⟨_,rfl⟩,q⟩
theorem bp5 {f:Value->Value->Sem Value} {g:Int->Int->Bool}
  (rule:∀ (i j:Int) (t u:Tok) (s:Shared) (Q:Value->Shared->Prop) (E:Value->Shared->Prop),Q (.bool (g i j)) s->wpAny (model X.prog X.w) X.A (f (.int i t) (.int j u)) Q E s) :
  OpR X f (rI0 λi j=>.bl (g i j)):=by
 intro pins s σ H x y v u Q I rx ry h;obtain ⟨i,j,rfl,rfl,q⟩:=h;obtain ⟨t,rfl⟩:=rx;obtain ⟨t',rfl⟩:=ry;exact rule i j t t' s _ _ ⟨.bl (g i j),H,I,rfl,q⟩
def bz7 (i j:Int):Prop:=0<=j/\j<=1000000/\i.natAbs<2 ^ 64
theorem E9:OpR X (binaryOp .Add) (rI0 λi j=>.int (i+j)):=bA3 λ_ _ _ _ _ _ _ q=>add_int q
theorem U1:OpR X (binaryOp .Sub) (rI0 λi j=>.int (i-j)):=bA3 λ_ _ _ _ _ _ _ q=>sub_int q
theorem S9:OpR X (binaryOp .Mod) (rI (λ_ j=>j ≠ 0) λi j=>.int (i.fmod j)):=opI λ_ _ _ _ _ _ _ hc q=>mod_int' hc q
theorem Y4:OpR X (binaryOp .Pow) (rI bz7 λi j=>.int (i ^ j.toNat)):=opI λ_ _ _ _ _ _ _ hc q=>pow_int_small hc.1 hc.2.1 hc.2.2 q
theorem unI {f:Value->Sem Value} {g:Int->Int}
  (rule:∀ (i:Int) (t:Tok) (s:Shared) (Q:Value->Shared->Prop) (E:Value->Shared->Prop),Q (.int (g i) s.toks) { s with toks:=s.toks+1 }->wpAny (model X.prog X.w) X.A (f (.int i t)) Q E s) :
  UnR X f (rU λi=>.int (g i)):=by
 intro pins s σ H x v Q I rx h;obtain ⟨i,rfl,q⟩:=h;obtain ⟨t,rfl⟩:=rx;exact rule i t s _ _ ⟨.int (g i),H,I.tok _,⟨_,rfl⟩,q⟩
theorem Q5:UnR X (unaryOp .USub) (rU λi=>.int (-i)):=unI λ_ _ _ _ _ q=>neg_int q
def aQ7:V->V->Bool
 | .non,.non=>true | .non,.int _=>true | .int _,.non=>true | .non,.bl _=>true | .bl _,.non=>true | .non,.str _=>true | .str _,.non=>true
 | .int _,.int _=>true | .bl _,.bl _=>true | .str _,.str _=>true | .byt _,.byt _=>true
 | .int _,.str _=>true | .str _,.int _=>true | .bl _,.str _=>true | .str _,.bl _=>true
 | _,_=>false
def rEq:R2:=λx y H Q=>aQ7 x y=true/\Q (.bl (decide (x=y))) H
def rNe:R2:=λx y H Q=>aQ7 x y=true/\Q (.bl (!decide (x=y))) H
theorem ba5 {i j:Int}:decide (V.int i=V.int j)=(i == j):=by
 rw [g0f]
 simp
theorem bm3 {i j:Bool}:decide (V.bl i=V.bl j)=(i == j):=by
 rw [g0f]
 simp
theorem ba4 {i j:Str}:decide (V.str i=V.str j)=(i == j):=by
 rw [g0f]
 simp
theorem ba6 {i j:Array UInt8}:decide (V.byt i=V.byt j)=(i.toList == j.toList):=by
 rw [g0f]
 cases i
 cases j
 simp
theorem F1 {pins:List (Addr × Obj)} {σ:St} {H:Hp} {s:Shared} {Q:VK} {k k':Bool} (I:Inv X pins σ H s) (q:Q (.bl k) H) (e:k=k'):EP X pins σ Q (.bool k') s:=by
 subst e;exact ⟨.bl k,H,I,rfl,q⟩
theorem Q3:OpR X (compareOp .Eq) rEq:=by
 intro pins s σ H x y v u Q I rx ry h;obtain ⟨hs,q⟩:=h
 cases x with
 | non =>
  cases rx
  cases y with
  | non=>cases ry;exact PySem.EqNone.eq_none_none (F1 I q (by simp))
  | bl j=>cases ry;exact PySem.EqNone.eq_none_bool (F1 I q (by simp))
  | int j=>obtain ⟨t',rfl⟩:=ry;exact PySem.EqNone.eq_none_int (F1 I q (by simp))
  | str j=>obtain ⟨t',rfl⟩:=ry;exact PySem.EqNone.eq_none_str (F1 I q (by simp))
  | _=>exact absurd (show false=true from hs) q0t
 | bl i =>
  cases rx
  cases y with
  | non=>cases ry;exact PySem.EqNone.eq_bool_none (F1 I q (by simp))
  | bl j=>cases ry;exact eq_bool (F1 I q bm3)
  | str j=>obtain ⟨t',rfl⟩:=ry;exact PySem.EqMixed.eq_bool_str (F1 I q (by simp))
  | _=>exact absurd (show false=true from hs) q0t
 | int i =>
  obtain ⟨t,rfl⟩:=rx
  cases y with
  | non=>cases ry;exact PySem.EqNone.eq_int_none (F1 I q (by simp))
  | int j=>obtain ⟨t',rfl⟩:=ry;exact eq_int (F1 I q ba5)
  | str j=>obtain ⟨t',rfl⟩:=ry;exact PySem.EqMixed.eq_int_str (F1 I q (by simp))
  | _=>exact absurd (show false=true from hs) q0t
 | str i =>
  obtain ⟨t,rfl⟩:=rx
  cases y with
  | non=>cases ry;exact PySem.EqNone.eq_str_none (F1 I q (by simp))
  | bl j=>cases ry;exact PySem.EqMixed.eq_str_bool (F1 I q (by simp))
  | int j=>obtain ⟨t',rfl⟩:=ry;exact PySem.EqMixed.eq_str_int (F1 I q (by simp))
  | str j=>obtain ⟨t',rfl⟩:=ry;exact eq_str (F1 I q ba4)
  | _=>exact absurd (show false=true from hs) q0t
 | byt i =>
  obtain ⟨t,rfl⟩:=rx
  cases y with
  | byt j=>obtain ⟨t',rfl⟩:=ry;exact PySem.W.eq_bytes (F1 I q ba6)
  | _=>exact absurd (show false=true from hs) q0t
 | _=>cases y <;> exact absurd (show false=true from hs) q0t
theorem ap7:OpR X (compareOp .NotEq) rNe:=by
 intro pins s σ H x y v u Q I rx ry h;obtain ⟨hs,q⟩:=h
 cases x with
 | non =>
  cases rx
  cases y with
  | non=>cases ry;exact PySem.EqNone.ne_none_none (F1 I q (by simp))
  | bl j=>cases ry;exact PySem.EqNone.ne_none_bool (F1 I q (by simp))
  | int j=>obtain ⟨t',rfl⟩:=ry;exact PySem.EqNone.ne_none_int (F1 I q (by simp))
  | str j=>obtain ⟨t',rfl⟩:=ry;exact PySem.EqNone.ne_none_str (F1 I q (by simp))
  | _=>exact absurd (show false=true from hs) q0t
 | bl i =>
  cases rx
  cases y with
  | non=>cases ry;exact PySem.EqNone.ne_bool_none (F1 I q (by simp))
  | bl j=>cases ry;exact ne_bool (F1 I q (congrArg not bm3))
  | str j=>obtain ⟨t',rfl⟩:=ry;exact PySem.EqMixed.ne_bool_str (F1 I q (by simp))
  | _=>exact absurd (show false=true from hs) q0t
 | int i =>
  obtain ⟨t,rfl⟩:=rx
  cases y with
  | non=>cases ry;exact PySem.EqNone.ne_int_none (F1 I q (by simp))
  | int j=>obtain ⟨t',rfl⟩:=ry;exact ne_int (F1 I q (congrArg not ba5))
  | str j=>obtain ⟨t',rfl⟩:=ry;exact PySem.EqMixed.ne_int_str (F1 I q (by simp))
  | _=>exact absurd (show false=true from hs) q0t
 | str i =>
  obtain ⟨t,rfl⟩:=rx
  cases y with
  | non=>cases ry;exact PySem.EqNone.ne_str_none (F1 I q (by simp))
  | bl j=>cases ry;exact PySem.EqMixed.ne_str_bool (F1 I q (by simp))
  | int j=>obtain ⟨t',rfl⟩:=ry;exact PySem.EqMixed.ne_str_int (F1 I q (by simp))
  | str j=>obtain ⟨t',rfl⟩:=ry;exact ne_str (F1 I q (congrArg not ba4))
  | _=>exact absurd (show false=true from hs) q0t
 | byt i =>
  obtain ⟨t,rfl⟩:=rx
  cases y with
  | byt j=>obtain ⟨t',rfl⟩:=ry;exact PySem.W.ne_bytes (F1 I q (congrArg not ba6))
  | _=>exact absurd (show false=true from hs) q0t
 | _=>cases y <;> exact absurd (show false=true from hs) q0t
theorem al4:OpR X (compareOp .Lt) (rI0 λi j=>.bl (decide (i<j))):=bp5 λ_ _ _ _ _ _ _ q=>lt_int q
theorem bA1:OpR X (compareOp .LtE) (rI0 λi j=>.bl (decide (i<=j))):=bp5 λ_ _ _ _ _ _ _ q=>le_int q
theorem aj9:OpR X (compareOp .Gt) (rI0 λi j=>.bl (decide (j<i))):=bp5 λ_ _ _ _ _ _ _ q=>gt_int q
theorem bA2:OpR X (compareOp .GtE) (rI0 λi j=>.bl (decide (j<=i))):=bp5 λ_ _ _ _ _ _ _ q=>ge_int q
theorem bw5:OpR X (compareOp .Is) (λx y H Q=>y=.non/\Q (.bl (decide (x=.non))) H):=by
 intro pins s σ H x y v u Q I rx ry h;obtain ⟨rfl,q⟩:=h
 cases ry
 refine is_none_gen (F1 I q ?_)
 cases x <;> first
  | (cases rx;rfl)
  | (obtain ⟨t,rfl⟩:=rx;rfl)
theorem j8 (b:Expr) {op:CmpOp} (h:op ≠ .In:=by decide) (h2:op ≠ .NotIn:=by decide):behindInMarks op b=false:=by
 have e1:(op == CmpOp.In)=false:=by cases op <;> first | rfl | exact absurd rfl h
 have e2:(op == CmpOp.NotIn)=false:=by cases op <;> first | rfl | exact absurd rfl h2
 cases b <;> simp [behindInMarks,e1,e2]
theorem G3 {op:CmpOp} {r:R2} (ho:OpR X (compareOp op) r) (ha:PE X a ta) (hb:PE X b tb) (hm:behindInMarks op b=false):PE X (.Compare a [op] [b] pos) (tOp r ta tb):=by
 intro pins s σ H Q I h;exact wpAny_Compare1 (by5 ha hb I h λv u s2 x y H2 I2 rx ry q=>ho pins s2 σ H2 x y v u Q I2 rx ry q) hm
def bg9 (t:TE):TT:=λσ H Q=>t σ H λx H' => ∃ k,x=.bl k/\Q k H'
theorem l9 {op:CmpOp} {r:R2} (ho:OpR X (compareOp op) r) (ha:PE X a ta) (hb:PE X b tb) (hm:behindInMarks op b=false):PT X (.Compare a [op] [b] pos) (bg9 (tOp r ta tb)):=by
 intro pins s σ H Q I h
 refine wpAny_isTrue_Compare1 (thn (ha pins s σ H _ I h) λv s1 ⟨x,H1,I1,r1,q1⟩=>thn (hb pins s1 σ H1 _ I1 q1) λu s2 ⟨y,H2,I2,r2,q2⟩ =>
  thn (ho pins s2 σ H2 x y v u _ I2 r1 r2 q2) λc s3 ⟨z,H3,I3,r3,k,e,q3⟩=>?_) hm
 subst e
 cases r3
 exact wpAny_truthy_bool ⟨H3,I3,q3⟩
def aX7 (K:q0a) (x:V) (H:Hp) (k:Bool):Prop :=
 match x with
 | .non=>k=false
 | .bl b=>k=b
 | .int i=>k=(i != 0)
 | .str y=>y.length<=sizeLine/\k=((y.length:Int) != 0)
 | .byt y=>y.size<=sizeLine/\k=((y.size:Int) != 0)
 | .ref p=>(∃ xs,SqL K H p xs/\k = !xs.isEmpty) \/ (∃ xs,SqT K H p xs/\k = !xs.isEmpty) \/ ∃ kvs,H p=some (.dK kvs)/\k = !kvs.isEmpty
 | _=>False
theorem aW8 {κ:Type} {kvs:List (κ × V)} {vs:List (κ × Value)} (r:KV kvs vs):(!vs.isEmpty) = !kvs.isEmpty:=by
 cases r <;> rfl
theorem aD1 {xs:List V} {its:List Value} (r:A7 xs its):(!its.toArray.isEmpty) = !xs.isEmpty:=by
 cases r <;> simp
theorem aw4:(sizeLine:Nat)<2 ^ 63:=by rw [sizeLine_eq];decide
theorem bu7:bC4 X (λx H Q => ∃ k,aX7 X.K x H k/\Q k H):=by
 intro pins s σ H x v Q I rx h;obtain ⟨k,e,q⟩:=h;have hl:=aw4;have hs:sizeLine=16777216:=sizeLine_eq
 cases x with
 | non =>
  cases rx
  have e':k=false:=e;subst e';exact truthy_none ⟨H,I,q⟩
 | bl b =>
  cases rx
  have e':k=b:=e;subst e';exact wpAny_truthy_bool ⟨H,I,q⟩
 | int i =>
  obtain ⟨t,rfl⟩:=rx;have e':k=(i != 0):=e;subst e';exact PySem.P.truthy_int ⟨H,I,q⟩
 | str y =>
  obtain ⟨t,rfl⟩:=rx;obtain ⟨hy,e'⟩:y.length<=sizeLine/\k=((y.length:Int) != 0):=e;subst e';exact PySem.P.truthy_str (by lia) ⟨H,I.tok _,q⟩
 | byt y =>
  obtain ⟨t,rfl⟩:=rx;obtain ⟨hy,e'⟩:y.size<=sizeLine/\k=((y.size:Int) != 0):=e;subst e';exact PySem.W.truthy_bytes (by lia) ⟨H,I.tok _,q⟩
 | ref p =>
  cases rx
  have e':(∃ xs,SqL X.K H p xs/\k = !xs.isEmpty) \/ (∃ xs,SqT X.K H p xs/\k = !xs.isEmpty) \/ ∃ kvs,H p=some (.dK kvs)/\k = !kvs.isEmpty:=e;rcases e' with ⟨xs,hx,e'⟩ | ⟨xs,hx,e'⟩ | ⟨kvs,hx,e'⟩
  ·subst e'
   obtain ⟨its,r,pl,hz⟩:=I.list hx;have hlen:=r.length;exact wpAny_truthy_list pl.isList (by simp only [q0r];lia) ⟨H,I.tok _,by rw [aD1 r];exact q⟩
  ·subst e'
   obtain ⟨its,r,pl,hz⟩:=I.tuple hx;have hlen:=r.length;exact truthy_tuple pl (by simp only [q0r];omega) ⟨H,I.tok _,by rw [aD1 r];exact q⟩
  ·subst e'
   obtain ⟨hz,hS,vs,r,m⟩:kvs.length<=sizeLine/\(p == sysModules)=false/\∃ vs,KV kvs vs/\s.heap.DictOf (aO5 X.prog X.w) p vs:=I.hok p _ hx;have hlen:kvs.length=vs.length:=Paired.length r;exact wpAny_truthy_dict hS m (by lia) ⟨H,I.tok _,by rw [aW8 r];exact q⟩
 | _=>exact (show False from e).elim
theorem as9 (ha:PE X a ta) (he:∀ whole,isTrue a X.env whole=(do let v <- whole;standAt a.pos;holding [v] (truthy v))) :
  PT X a (λσ H Q=>ta σ H λx H' => ∃ k,aX7 X.K x H' k/\Q k H'):=by
 intro pins s σ H Q I h;exact isTrue_plain (thn (ha pins s σ H _ I h) λv s1 ⟨x,H1,I1,r1,q1⟩=>bu7 pins s1 σ H1 x v Q I1 r1 q1) (he _)
theorem ap0 {x:V} {us:List Value} (r:A7 [x] us):∃ u,us=[u]/\G2 x u:=by
 cases r with
 | cons r1 r2=>cases r2;exact ⟨_,rfl,r1⟩
theorem bz9 {x y:V} {us:List Value} (r:A7 [x,y] us):∃ u w',us=[u,w']/\G2 x u/\G2 y w':=by
 cases r with
 | cons r1 r2 =>
  cases r2 with
  | cons r3 r4=>cases r4;exact ⟨_,_,rfl,r1,r3⟩
theorem ad5:aa9 X (.builtin "abs") (λxs H Q => ∃ i,xs=[.int i]/\Q (.int (if i<0 then -i else i)) H):=by
 intro pins s σ H xs us Q I r h;obtain ⟨i,rfl,q⟩:=h;obtain ⟨u,rfl,t,rfl⟩:=ap0 r;exact call_abs_int λu tk=>⟨.int (if i<0 then -i else i),H,I.tok _,⟨_,rfl⟩,q⟩
theorem bf5 (hc:X.calm=true):aa9 X (.builtin "max") (λxs H Q => ∃ i j,xs=[.int i,.int j]/\Q (.int (if j > i then j else i)) H):=by
 intro pins s σ H xs us Q I r h;obtain ⟨i,j,rfl,q⟩:=h;obtain ⟨u,w',rfl,⟨t,rfl⟩,⟨t',rfl⟩⟩:=bz9 r;refine max_two_ints (I.ok.hd hc) λh' tk k=>⟨_,H,I.kept k,?_,q⟩
 by_cases hj:j > i
 ·rw [if_pos hj,if_pos hj];exact ⟨_,rfl⟩
 ·rw [if_neg hj,if_neg hj];exact ⟨_,rfl⟩
theorem M0:aa9 X (.type "int") (λxs H Q=>(∃ i,xs=[.int i]/\Q (.int i) H) \/ ∃ k,xs=[.bl k]/\Q (.int (if k then 1 else 0)) H):=by
 intro pins s σ H xs us Q I r h;rcases h with ⟨i,rfl,q⟩ | ⟨k,rfl,q⟩
 ·obtain ⟨u,rfl,t,rfl⟩:=ap0 r
  exact call_int_int ⟨.int i,H,I,⟨_,rfl⟩,q⟩
 ·obtain ⟨u,rfl,r1⟩:=ap0 r
  cases r1
  exact call_int_bool ⟨.int (if k then 1 else 0),H,I.tok _,⟨_,rfl⟩,q⟩
end
structure bz5 (h:Heap) (x dx C:Addr) (mA:Str->Option Value):Prop where
 obj:h.get? x=some (m0j C dx)
 ns:h.Ns1 dx mA
 ne:dx ≠ x
theorem bd9 {h:Heap} {dx:Addr} {mA:Str->Option Value} (n:h.Ns1 dx mA):∃ od,h.get? dx=some od/\∀ name,m0u name od=some (mA name):=by
 obtain ⟨o,es,ep,ho,hd,hk,_,hm⟩:=n;refine ⟨o,ho,λname=>?_⟩;have e:=hm name;unfold nsFind findBy at e;rw [<- Array.find?_toList] at e;unfold m0u;rw [hd]
 dsimp only
 split
 ·rename_i y q
  rw [q] at e;exact congrArg some e
 ·rename_i q
  rw [q] at e
  have a:es.toList.any (·.refKey)=false:=by
   rw [List.any_eq_false];intro y hy;obtain ⟨z,t,hkey⟩:=hk y (Array.mem_toList_iff.mp hy)
   simp [DictEntry.refKey,hkey]
  have a':¬ es.toList.any (·.refKey)=true:=by rw [a];exact q0t
  rw [if_neg a'];exact congrArg some e
theorem bz5.look {h:Heap} {x dx C:Addr} {mA:Str->Option Value} (I:bz5 h x dx C mA):∃ od,PySem.W.InstAt h x (m0j C dx) C (some od)/\∀ name,m0u name od=some (mA name) :=
 let ⟨od,ho,hl⟩:=bd9 I.ns
 ⟨od,⟨I.obj,rfl,rfl,ho⟩,hl⟩
section
variable {P:Program} {w:World} {H H':Hp} {h h':Heap} {a C dx:Addr} {fs fs':List (Str × V)}
theorem br1 (hok:HOk P w H h) (e:H a=some (.ins C dx fs)):∃ mA,bz5 h a dx C mA/\(∀ f,bz2 (fs.lookup f) (mA f))/\PySem.Within mA (fs.map (·.1))/\fs.length<=1000/\H dx=some (.own a):=by
 obtain ⟨d,z,ne,ob,mA,n,r,q⟩:=(show O8 P w H h a (.ins C dx fs) from hok a _ e);exact ⟨mA,⟨ob,n,ne⟩,r,q,z,d⟩
end
structure Cls (K:q0a) (C:Addr):Prop where
 pg:PySem.W.plainGet K C Str.empty=true
 hd:PySem.W.hasDictIn K C=true
 po:PySem.W.plainOver K C=true
 sa:u0n K (.ref C) "__setattr__" = some (some (.builtin "object.__setattr__"))
theorem Cls.get {K:q0a} {C:Addr} (c:Cls K C) (f:Str):PySem.W.plainGet K C f=true:=c.pg
structure Con (K:q0a) (C:Addr) (f:Str) (v:V) (u:Value):Prop where
 at_:u0n K (.ref C) f=some (some u)
 rel:G2 v u
 get:PySem.W.specialIn K u "__get__" = some none
 cp:PySem.W.copiedNames.contains f=false
structure Meth (K:q0a) (C:Addr) (m:Str) (f:Addr):Prop where
 at_:u0n K (.ref C) m=some (some (.ref f))
 fn:PySem.W.isFn K (.ref f)=true
 kp:y0m K (.ref f)=true
section
variable {X:Cx} {pins:List (Addr × Obj)} {σ:St} {H:Hp} {s:Shared} {A:Around} {E:Value->Shared->Prop} {Q:Value->Shared->Prop} {c:Value} {b:Bool}
inductive ax1 (K:q0a) (H:Hp):V->Value->Prop where
 | non:ax1 K H .non (.type "NoneType")
 | bl (x:Bool):ax1 K H (.bl x) (.type "bool")
 | int (i:Int):ax1 K H (.int i) (.type "int")
 | str (x:Str):ax1 K H (.str x) (.type "str")
 | flt (x:UInt64):ax1 K H (.flt x) (.type "float")
 | lst {a:Addr} {xs:List V} (e:H a=some (.lst xs)):ax1 K H (.ref a) (.type "list")
 | frz {a:Addr} {o:Obj} {xs:List V} (e:H a=some (.frz o (.lst xs))):ax1 K H (.ref a) (.type "list")
 | tup {a:Addr} {xs:List V} (e:H a=some (.tup xs)):ax1 K H (.ref a) (.type "tuple")
 | dK {a:Addr} {kvs:List (Key × V)} (e:H a=some (.dK kvs)):ax1 K H (.ref a) (.type "dict")
 | dT {a:Addr} {kvs:List (List Key × V)} (e:H a=some (.dT kvs)):ax1 K H (.ref a) (.type "dict")
 | ins {a C dx:Addr} {fs:List (Str × V)} (e:H a=some (.ins C dx fs)) (cl:Cls K C) (ha:u0n K (.ref C) "__class__" = some (some (.builtin "object.__class__")))
   (hn:PySem.W.specialIn K (.builtin "object.__class__") "__get__" = some (some (.builtin "getset_descriptor.__get__"))) (htk:PySem.W.takesIn K (.builtin "object.__class__")=some true)
   (hm:PySem.W.mroIn K C (.type "object")=some true):ax1 K H (.ref a) (.ref C)
theorem be1 {x:V} {u t:Value} (I:Inv X pins σ H s) (rx:G2 x u) (ty:ax1 X.K H x t) (e:z0h X.K t c=some b) (h:∀ tk,Q (.bool b) { s with toks:=tk }) :
  wpAny (model X.prog X.w) A (call (.builtin "isinstance") [u,c]) Q E s:=by
 cases ty with
 | non=>cases (show u=Value.none from rx);exact j0s PySem.W.kitx_none I.kIn True.intro e (λz=>nomatch z) h
 | bl y=>cases (show u=Value.bool y from rx);exact j0s PySem.W.kitx_bool I.kIn True.intro e (λz=>nomatch z) h
 | int i=>obtain ⟨t,q⟩:=(show ∃ t,u=Value.int i t from rx);cases q;exact j0s PySem.W.kitx_int I.kIn True.intro e (λz=>nomatch z) h
 | str y=>obtain ⟨t,q⟩:=(show ∃ t,u=Value.str y t from rx);cases q;exact j0s PySem.W.kitx_str I.kIn True.intro e (λz=>nomatch z) h
 | flt y=>obtain ⟨t,q⟩:=(show ∃ t,u=Value.float y t from rx);cases q;exact j0s PySem.W.kitx_float I.kIn True.intro e (λz=>nomatch z) h
 | @lst a xs ea =>
  cases (show u=Value.ref a from rx)
  obtain ⟨_,_,n,_,h1⟩:=(show O8 X.prog X.w H s.heap a (.lst xs) from I.hok a _ ea);exact j0s PySem.W.kitx_list I.kIn ⟨_,h1,rfl⟩ e (λz=>nomatch z) h
 | @frz a ob xs ea =>
  cases (show u=Value.ref a from rx)
  obtain ⟨_,_,_,n,_,h1⟩:=(show O8 X.prog X.w H s.heap a (.frz ob (.lst xs)) from I.hok a _ ea);exact j0s PySem.W.kitx_list I.kIn ⟨_,h1,rfl⟩ e (λz=>nomatch z) h
 | @tup a xs ea =>
  cases (show u=Value.ref a from rx)
  obtain ⟨_,_,_,p⟩:=(show O8 X.prog X.w H s.heap a (.tup xs) from I.hok a _ ea);obtain ⟨o,h1,h2,_⟩:=p;exact j0s PySem.W.kitx_tuple I.kIn ⟨o,h1,h2⟩ e (λz=>nomatch z) h
 | @dK a kvs ea =>
  cases (show u=Value.ref a from rx)
  obtain ⟨_,_,vs,_,p⟩:=(show O8 X.prog X.w H s.heap a (.dK kvs) from I.hok a _ ea);obtain ⟨o,es,ep,h1,h2,_⟩:=p;exact j0s PySem.W.kitx_dict I.kIn ⟨o,h1,h2.1⟩ e (λz=>nomatch z) h
 | @dT a kvs ea =>
  cases (show u=Value.ref a from rx)
  obtain ⟨_,_,xs,_,o,es,ep,h1,h2,_⟩:=(show O8 X.prog X.w H s.heap a (.dT kvs) from I.hok a _ ea);exact j0s PySem.W.kitx_dict I.kIn ⟨o,h1,h2.1⟩ e (λz=>nomatch z) h
 | @ins a C dx fs ea cl ha hn htk hm =>
  cases (show u=Value.ref a from rx)
  obtain ⟨mA,O,_⟩:=br1 I.hok ea;obtain ⟨od,J,_⟩:=O.look;exact j0s (PySem.W.kitx_own (cl.get _) cl.hd ha hn htk hm) I.kIn J e (λz=>nomatch z) h
end
structure ad7 (k:Nat) (A:Around):Prop where
 hd:A.handled=none
 dp:A.depth+3*k+5<recursionLimit
 un:A.units+16*k+200<cLine
theorem ad7.mono {j k:Nat} {A:Around} (r:ad7 k A) (h:j<=k):ad7 j A:=⟨r.hd,by have:=r.dp;lia,by have:=r.un;lia⟩
theorem ad7.deeper {k:Nat} {A:Around} (r:ad7 (k+1) A) (env:Env):ad7 k (A.deeper env) :=
 ⟨r.hd,by have:=r.dp;show A.depth+1+3*k+5<_;lia,by have:=r.un;show A.units+3+16*k+200<_;lia⟩
theorem ad7.depth {k:Nat} {A:Around} (r:ad7 k A):A.depth<recursionLimit:=by have:=r.dp;lia
theorem ad7.units {k:Nat} {A:Around} (r:ad7 k A):A.units+64<cLine:=by have:=r.un;lia
def ak4:TA:=λ_ H Q=>Q [] H
def P2 (ta:TE) (tr:TA):TA:=λσ H Q=>ta σ H λx H1=>tr σ H1 λxs H2=>Q (x :: xs) H2
section
variable {X:Cx} {e:Expr} {es:List Expr} {te:TE} {t:TA} {pos:Pos}
theorem b8:PA X [] ak4:=λ_ _ _ _ H Q I h=>Calls.spliced_nil ⟨[],H,I,.nil,h⟩
theorem b7 (ha:PE X e te) (hr:PA X es t) (hs:starEach (e :: es) X.env=(false,eval e X.env) :: starEach es X.env:=by rfl):PA X (e :: es) (P2 te t):=by
 intro pos pins s σ H Q I h;rw [hs]
 show wpAny _ _ (spliced ((false,eval e X.env) :: backTo pos (starEach es X.env))) _ _ s;refine Calls.spliced_cons (thn (ha pins s σ H _ I h) λu s1 zq=>?_);obtain ⟨x,H1,I1,r1,q1⟩:=zq;refine thn (hr pos pins s1 σ H1 _ I1 q1) λus s2 zq=>?_;obtain ⟨xs,H2,I2,r2,q2⟩:=zq;exact ⟨x :: xs,H2,I2,.cons r1 r2,q2⟩
def bu9 (t:TA):TE:=λσ H Q=>t σ H λxs H1=>xs.length<=sizeLine/\∀ p,H1 p=none->Q (.ref p) (upd H1 p (.tup xs))
def bc2 (t:TA):TE:=λσ H Q=>t σ H λxs H1=>xs.length<=sizeLine/\∀ p,H1 p=none->Q (.ref p) (upd H1 p (.lst xs))
theorem m6 {x1} (h:PA X es t):PE X (.Tuple es x1 pos) (bu9 t):=by
 intro pins s σ H Q I hq;refine wpAny_Tuple_spliced (thn (h pos pins s σ H _ I hq) λus s1 ⟨xs,H1,I1,r,z,q⟩=>⟨by rw [<- r.length];exact z,?_⟩)
 have hf:H1 s1.heap.objs.size=none:=I1.hok.fresh (q0h _);refine ⟨.ref s1.heap.objs.size,upd H1 s1.heap.objs.size (.tup xs),I1.laid (t':=s1.toks) (λb u e=>q0j _ e) (q0h _) ?_,rfl,q _ hf⟩;exact ⟨z,us,r,⟨_,z0b _ rfl,rfl,_,rfl⟩⟩
theorem C5 (h:PA X es t):PE X (.List es pos) (bc2 t):=by
 intro pins s σ H Q I hq;refine wpAny_List_spliced (thn (h pos pins s σ H _ I hq) λus s1 ⟨xs,H1,I1,r,z,q⟩=>⟨by rw [<- r.length];exact z,?_⟩)
 have hf:H1 s1.heap.objs.size=none:=I1.hok.fresh (q0h _);refine ⟨.ref s1.heap.objs.size,upd H1 s1.heap.objs.size (.lst xs),I1.laid (t':=s1.toks) (λb u e=>q0j _ e) (q0h _) ?_,rfl,q _ hf⟩;exact ⟨z,us,0,r,z0b _ rfl⟩
end
abbrev Sp:=List V->Hp->VK->XK->Prop
abbrev CXT:=List Env->Hp->Shared->XK->Value->Shared->Prop
structure bg0 (P:Program) (w:World) (K:q0a) (mg:Str->Option Value) (base:Heap) (A:Around) (outer:List Env) (s:Shared) (H:Hp):Prop where
 frames:A.frames=some outer
 mod:Mod K mg base
 bs:∀ b o,base.get? b=some o->s.heap.get? b=some o/\H b=none
 bsz:base.objs.size<=s.heap.objs.size
 funs:s.heap.FunFrames base outer
 frf:∀ b ∈ frs outer,H b=none
 hok:HOk P w H s.heap
 bare:AllBare s.gens
def CE (outer:List Env) (P:Program) (w:World) (H:Hp) (s:Shared) (Q:VK) (u:Value) (s':Shared):Prop :=
 ∃ v H',s'.os=s.os/\AllBare s'.gens/\Un (frs outer) [] H H' s.heap s'.heap/\HOk P w H' s'.heap/\G2 v u/\Q v H'
def CR (CX:CXT) (outer:List Env) (P:Program) (w:World) (H:Hp) (s:Shared) (Q:VK) (E:XK) (r:Result) (s':Shared):Prop :=
 match r with
 | .ok (.ret u)=>CE outer P w H s Q u s'
 | .ok _=>False
 | .error e=>CX outer H s E e s'
structure an0 (P:Program) (w:World) (K:q0a) (mg:Str->Option Value) (base:Heap) (CX:CXT) (k:Nat) (f:Addr) (fd:FuncData) (ps:List Str) (sp:Sp):Prop where
 len:∀ vs H Q E,sp vs H Q E->vs.length=ps.length
 run:∀ (A:Around) (outer:List Env) (s:Shared) (H:Hp) (args:Args) (us:List Value) (vs:List V) (Q:VK) (E:XK),ad7 k A->bg0 P w K mg base A outer s H->BindsTo s fd args (ps.zip us)->A7 vs us->sp vs H Q E ->
  codeAny (model P w) A (.call (.ref f) args) (CR CX outer P w H s Q E) s
theorem an0.mono {P:Program} {w:World} {K:q0a} {mg:Str->Option Value} {base:Heap} {CX:CXT} {j k:Nat} {f:Addr} {fd:FuncData} {ps:List Str} {sp:Sp} (F:an0 P w K mg base CX j f fd ps sp) (h:j<=k) :
  an0 P w K mg base CX k f fd ps sp:=⟨F.len,λA outer s H args us vs Q E hr=>F.run A outer s H args us vs Q E (hr.mono h)⟩
section
variable {X:Cx} {pins:List (Addr × Obj)} {σ:St} {H:Hp} {s s':Shared}
theorem Inv.env0 (I:Inv X pins σ H s):bg0 X.prog X.w X.K X.mg X.base X.A X.stack s H :=
 ⟨I.ok.frames,I.ok.mod,I.bs,q0s I.ok.bsz I.sz,I.stack,I.stkFree,I.hok,I.bare⟩
theorem Inv.after {Q:VK} {u:Value} (I:Inv X pins σ H s) (h:CE X.stack X.prog X.w H s Q u s'):EP X pins σ Q u s':=by
 obtain ⟨v,H',os,bare,un,hok,r,q⟩:=h;obtain ⟨hh,g,d,t,os'⟩:=s';obtain rfl:os'=s.os:=os;exact ⟨v,H',I.call (h':=hh) (g':=g) (d':=d) (t':=t) (ch:=[]) un hok bare (λb z=>absurd z (by simp)),r,q⟩
end
def bt2 (sp:Sp) (dvs:List V) (E:XK) (t:TA):TE:=λσ H Q=>t σ H λvs H1=>sp (vs ++ dvs) H1 Q E
def an1 (K:q0a) (fd:FuncData) (ps:List Str) (ds:List Value):Prop :=
 ∀ (s:Shared) (us:List Value),K.In s.heap->(us ++ ds).length=ps.length->BindsTo s fd ⟨us,[]⟩ (ps.zip (us ++ ds))
theorem an1.all {K:q0a} {fd:FuncData} {ps:List Str} (h:∀ us:List Value,us.length=ps.length->bindArgs fd ⟨us,[]⟩=pure (ps.zip us)):an1 K fd ps []:=λs us _ hl=>by
 rw [g0g] at hl ⊢;exact .of_eq (h us hl)
def ax2 (CX:CXT) (X:Cx) (E:XK):Prop:=∀ (pins:List (Addr × Obj)) (σ:St) (H:Hp) (s:Shared) (e:Value) (s':Shared),Inv X pins σ H s->CX X.stack H s E e s'->X.xe e s'
section
variable {X:Cx} {CX:CXT} {k:Nat} {f C:Addr} {fd:FuncData} {ps:List Str} {sp:Sp} {dvs:List V} {ds:List Value} {E:XK} {x m:Str} {p pos apos:Pos} {e o:Expr} {es:List Expr} {ta:TE} {t:TA}
theorem bv5 {pins:List (Addr × Obj)} {σ:St} {H:Hp} {s:Shared} {Q:VK} {us:List Value} {vs:List V} (F:an0 X.prog X.w X.K X.mg X.base CX k f fd ps sp) (hr:ad7 k X.A) (hb:an1 X.K fd ps ds) (hd:A7 dvs ds) (hx:ax2 CX X E)
  (I:Inv X pins σ H s) (r:A7 vs us) (h:sp (vs ++ dvs) H Q E):wpAny (model X.prog X.w) X.A (call (.ref f) us) (EP X pins σ Q) X.xe s:=by
 have r2:A7 (vs ++ dvs) (us ++ ds):=r.append hd;have hl:(us ++ ds).length=ps.length:=by rw [<- r2.length];exact F.len _ _ _ _ h
 refine wpAny_call (codeAny_mono (F.run X.A X.stack s H ⟨us,[]⟩ (us ++ ds) (vs ++ dvs) Q E hr I.env0 (hb s us I.kIn hl) r2 h) λr s' hq=>?_)
 cases r with
 | error e=>exact hx pins σ H s e s' I hq
 | ok fl =>
  cases fl with
  | ret u=>exact I.after hq
  | next=>exact False.elim hq
  | brk=>exact False.elim hq
  | cont=>exact False.elim hq
theorem bp4 (F:an0 X.prog X.w X.K X.mg X.base CX k f fd ps sp) (hr:ad7 k X.A) (hg:Gl X x) (hm:X.mg x=some (.ref f)) (hk:y0m X.K (.ref f)=true) (hb:an1 X.K fd ps ds) (hd:A7 dvs ds) (hx:ax2 CX X E)
  (ha:PA X (e :: es) t) (hdb:(x == ("__debug__" : Str))=false:=by decide) (he:starEach (e :: es) X.env=(false,eval e X.env) :: starEach es X.env:=by rfl) (hpl:(backTo pos (starEach es X.env)).any (·.1)=false:=by rfl) :
  PE X (.Call (.Name x p) (e :: es) [] pos) (bt2 sp dvs E t):=by
 intro pins s σ H Q I h;refine wpAny_Call_Name_kw (au0 I hg hm ?_ hdb);refine PySem.W.callWith_K (h₀:=X.base) I.ok.mod.kin hk (thn (ha pos pins s σ H _ I h) λus s1 ⟨vs,H1,I1,r,q⟩=>⟨I1.kIn,?_⟩) he hpl;exact bv5 F hr hb hd hx I1 r q
structure Mk (K:q0a) (C f:Addr):Prop where
 makes:PySem.W.makesIn K C=true
 init:u0n K (.ref C) "__init__" = some (some (.ref f))
 fn:PySem.W.isFn K (.ref f)=true
 kp:y0m K (.ref C)=true
end
section
variable {X:Cx} {CX:CXT} {k:Nat} {f C:Addr} {fd:FuncData} {ps ks:List Str} {sp:Sp} {E:XK} {x m:Str} {p pos apos kpos:Pos} {e o:Expr} {es:List Expr} {kws:List Keyword} {te ta:TE} {t tk:TA} {nm:Option Str}
structure KBinds (K:q0a) (fd:FuncData) (ps ks:List Str) (g:List Value->List Value->List Value) (gV:List V->List V->List V):Prop where
 to:∀ (s:Shared) (us ws:List Value),K.In s.heap->(g us ws).length=ps.length->BindsTo s fd ⟨us,ks.zip ws⟩ (ps.zip (g us ws))
 rel:∀ {vs:List V} {us:List Value} {zs:List V} {ws:List Value},A7 vs us->A7 zs ws->A7 (gV vs zs) (g us ws)
variable {g:List Value->List Value->List Value} {gV:List V->List V->List V}
end
structure j4 (N P:List Str) (sc:Scope):Prop where
 kind:sc.kind=.function
 co:sc.isCoroutine=false
 gen:sc.isGenerator=false
 nd:N.Nodup
 pre:N.take P.length=P
 par:∀ x ∈ P,sc.names.lookup x=some .local \/ sc.names.lookup x=some .cell
 nofree:∀ y ∈ sc.names,y.2 ≠ .free
theorem aI5 {kindOf:Str->Option NameKind} {x:Str}:∀ {binds:List (Str × Value)} {m:Str->Option Value},(∀ v,(x,v) ∉ binds)->bindL kindOf binds m x=m x
 | [],_,_=>rfl
 | (n,v) :: r,m,h=>by
  unfold bindL;rw [aI5 λw hw=>h w (q0u _ hw)]
  split
  ·have:x ≠ n:=by rintro rfl;exact h v z0c
   simp [this]
  ·rfl
theorem aI7 {kindOf:Str->Option NameKind} {x:Str}:∀ {binds:List (Str × Value)} {m:Str->Option Value},(∀ v,(x,v) ∉ binds)->bindC kindOf binds m x=m x
 | [],_,_=>rfl
 | (n,v) :: r,m,h=>by
  unfold bindC;rw [aI7 λw hw=>h w (q0u _ hw)]
  split
  ·rfl
  ·have:x ≠ n:=by rintro rfl;exact h v z0c
   simp [this]
theorem aI6 {kindOf:Str->Option NameKind} {x:Str} {v:Value}:∀ {P:List Str} {vs:List Value} {i:Nat} {m:Str->Option Value},P.Nodup->P[i]? = some x->vs[i]? = some v->kindOf x=some .local ->
  bindL kindOf (P.zip vs) m x=some v
 | [],_,_,_,_,h,_,_=>by simp at h
 | _ :: _,[],_,_,_,_,h,_=>by simp at h
 | p :: P,w :: vs,0,m,nd,h1,h2,hk=>by
  simp at h1 h2;subst h1;subst h2
  show bindL kindOf ((p,w) :: P.zip vs) m p=_;unfold bindL;rw [aI5 λv hv=>(y0c.mp nd).1 (g0h hv).1,if_pos hk]
  simp
 | p :: P,w :: vs,i+1,m,nd,h1,h2,hk=>by
  show bindL kindOf ((p,w) :: P.zip vs) m x=_;unfold bindL;exact aI6 (i:=i) (y0c.mp nd).2 (by simpa using h1) (by simpa using h2) hk
theorem aI8 {kindOf:Str->Option NameKind} {x:Str} {v:Value}:∀ {P:List Str} {vs:List Value} {i:Nat} {m:Str->Option Value},P.Nodup->P[i]? = some x->vs[i]? = some v->kindOf x ≠ some .local ->
  bindC kindOf (P.zip vs) m x=some v
 | [],_,_,_,_,h,_,_=>by simp at h
 | _ :: _,[],_,_,_,_,h,_=>by simp at h
 | p :: P,w :: vs,0,m,nd,h1,h2,hk=>by
  simp at h1 h2;subst h1;subst h2
  show bindC kindOf ((p,w) :: P.zip vs) m p=_;unfold bindC;rw [aI7 λv hv=>(y0c.mp nd).1 (g0h hv).1,if_neg hk]
  simp
 | p :: P,w :: vs,i+1,m,nd,h1,h2,hk=>by
  show bindC kindOf ((p,w) :: P.zip vs) m x=_;unfold bindC;exact aI8 (i:=i) (y0c.mp nd).2 (by simpa using h1) (by simpa using h2) hk
def start (N:List Str) (vs:List V):St:=vs.map some ++ z0a (N.length-vs.length) none
def az5 (CX:CXT) (P:Program) (w:World) (K:q0a) (mg:Str->Option Value) (base:Heap) (N:List Str) (qual:Str) (scope:Scope) (f:Addr) (cd:Value) (A:Around) (outer:List Env) (s:Shared) (H:Hp) (E:XK):Cx where
 prog:=P
 w:=w
 K:=K
 mg:=mg
 base:=base
 A:=A.deeper (envOfC qual scope s.heap.objs.size f cd)
 N:=N
 s₀:=s
 H₀:=H
 env:=envOfC qual scope s.heap.objs.size f cd
 outer:=outer
 stack:=envOfC qual scope s.heap.objs.size f cd :: outer
 ex:=[]
 calm:=true
 fn:=λ_=>true
 pn:=[]
 xe:=λe s'=>wpAny (model P w) (A.deeper (envOfC qual scope s.heap.objs.size f cd)) (leaving (envOfC qual scope s.heap.objs.size f cd) e) (λ_ s''=>CX outer H s E e s'') (λe' s''=>CX outer H s E e' s'') s'
theorem aT3 {sc:Scope} {n:Nat} {x:Str} (h:sc.names.lookup x=some .cell):∃ c,(cellsFrom n sc.names []).lookup x=some c:=by
 have q:=u0v sc.names n [] (.inl h);exact u0h.mp q
theorem aH6 {CX:CXT} {P:Program} {w:World} {K:q0a} {mg:Str->Option Value} {base:Heap} {N ps:List Str} {qual:Str} {scope:Scope} {f:Addr} {cd:Value} {A:Around} {outer:List Env} {s s1:Shared} {H:Hp} {E:XK} {us:List Value} {vs:List V}
  (S:j4 N ps scope) (hd:A.handled=none) (e0:bg0 P w K mg base A outer s H) (hl:vs.length=ps.length) (r:A7 vs us)
  (x:InCallC s s.heap.objs.size (bindL (envOfC qual scope s.heap.objs.size f cd).kindOf (ps.zip us) λ_=>none) (cellsFrom (s.heap.objs.size+1) scope.names []) (bindC (envOfC qual scope s.heap.objs.size f cd).kindOf (ps.zip us) λ_=>none) s1) :
  Inv (az5 CX P w K mg base N qual scope f cd A outer s H E) [] (start N vs) H s1:=by
 have hpl:ps.length<=N.length:=by have:=congrArg List.length S.pre;rw [q0v] at this;lia
 obtain ⟨h1,tk,rfl,hk⟩:=x.done;have noA:∀ b:Addr,b ∉ (az5 CX P w K mg base N qual scope f cd A outer s H E).ex:=λb z=>absurd (show b ∈ ([]:List Addr) from z) (by simp)
 refine ⟨⟨e0.mod,S.kind,rfl,rfl,q0h _,λy z c h1 h2=>?_,λy hy=>?_,λy c _ h=>?_,λ_=>hd,Around.frames_deeper e0.frames,.inr ⟨rfl,rfl⟩,λb z=>absurd z (noA b),e0.bs,e0.bsz,λb _ _=>noA b,λb z=>absurd z (noA b),e0.funs,e0.frf⟩,
  rfl,e0.bare,Un.kept hk,⟨_,x.toInCall.ns,λi y v h1 h2 h3=>?_⟩,λy c h=>⟨_,x.cell y c h⟩,e0.hok.fresh (q0h _),λy c h=>?_,λp hp=>absurd (show p ∈ ([]:List (Addr × Obj)) from hp) (by simp),e0.hok.kept hk,?_⟩
 ·exact name_of_addr x.apart (PySem.mem_of_lookup h1) (PySem.mem_of_lookup h2)
 ·have hy:scope.names.lookup y=some .cell \/ scope.names.lookup y=some .free:=hy
  rcases hy with hy | hy
  ·exact aT3 hy
  ·exact absurd rfl (S.nofree _ (PySem.mem_of_lookup hy))
 ·exact v0b (x.above y c (PySem.mem_of_lookup h))
 ·have hi:i<vs.length:=by
   unfold start at h2
   by_cases hi:i<vs.length
   ·exact hi
   ·rw [j0c (by simpa using hi)] at h2
    rw [y0u] at h2
    split at h2 <;> cases h2
  have ha:vs[i]? = some v:=by
   unfold start at h2;rw [j0e (by simpa using hi),q0m] at h2
   cases e:vs[i]? with
   | none=>rw [e] at h2;cases h2
   | some a=>rw [e] at h2;cases h2;rfl
  obtain ⟨u,hu,rv⟩:=r.get ha
  have hp:ps[i]? = some y:=by
   rw [<- S.pre,u0j (by lia)];exact h1
  have ndP:ps.Nodup:=by rw [<- S.pre];exact S.nd.sublist (List.take_sublist _ _)
  refine ⟨u,rv,?_⟩;rcases S.par y (q0c hp) with k | k
  ·exact .inl ⟨k,aI6 ndP hp hu k⟩
  ·obtain ⟨c,e⟩:=aT3 (n:=s.heap.objs.size+1) k
   refine .inr ⟨.inl k,c,e,?_⟩;have q:=x.cell y c e;rw [aI8 ndP hp hu (by show scope.names.lookup y ≠ _;rw [k];decide)] at q
   exact q
 ·exact e0.hok.fresh (v0b (x.above y c (PySem.mem_of_lookup h)))
 ·unfold start
  show _=N.length;rw [z0z,q0e,y0n]
  lia
theorem bu0 {CX:CXT} {P:Program} {w:World} {K:q0a} {mg:Str->Option Value} {base:Heap} {k:Nat} {f:Addr} {name qual:Str} {params:Arguments} {body:List Stmt} {scope:Scope} {dV kV doc pm cdv ct oc:Value} {an od:Option Addr}
  {osl:Array (Option Value)} {N ps:List Str} {sp:Sp} (lk:K.lookup f=some ⟨oc,od,.func (v0p name qual params body scope dV kV doc pm an cdv ct),osl⟩) (hcd:m0v K cdv qual=true) (S:j4 N ps scope)
  (len:∀ vs H Q E,sp vs H Q E->vs.length=ps.length)
  (hbody:∀ (A:Around) (outer:List Env) (s:Shared) (H:Hp) (vs:List V) (Q:VK) (E:XK),ad7 k (A.deeper (envOfC qual scope s.heap.objs.size f cdv))->sp vs H Q E ->
   ∃ t,PSs (az5 CX P w K mg base N qual scope f cdv A outer s H E) body t/\t { nx:=λ_ H'=>Q .non H',rt:=Q } (start N vs) H) :
  an0 P w K mg base CX (k+1) f (v0p name qual params body scope dV kV doc pm an cdv ct) ps sp:=by
 refine ⟨len,λA outer s H args us vs Q E hr e0 hb r hsp=>?_⟩;have hl:=len _ _ _ _ hsp;have KX:K.In s.heap:=e0.mod.kin.keeps λb o e=>(e0.bs b o e).1;have lim:s.heap.NoLimit:=e0.mod.nolimit.keeps λb o e=>(e0.bs b o e).1
 have hkind:∀ y ∈ ps.zip us,scope.names.lookup y.1=some .local \/ (scope.names.lookup y.1=some .cell/\((cellsFrom (s.heap.objs.size+1) scope.names []).lookup y.1).isSome=true):=λ⟨n,v⟩ hy=>by
  rcases S.par n (g0h hy).1 with q | q
  ·exact .inl q
  ·exact .inr ⟨q,u0v _ _ _ (.inl q)⟩
 refine codeAny_call_function hr.depth (KX _ _ lk) rfl S.co S.gen rfl (PySem.W.codeRec_of KX hcd) (hb _ _ _ _ ?_);refine wpAny_newFunctionEnv_cells S.kind hkind λenv he s1 x=>?_;subst he;refine ⟨lim.keeps x.toInCall.keep,codeAny_func ?_⟩;obtain ⟨t,ht,hq⟩:=hbody A outer s H vs Q E (hr.deeper _) hsp;have I:Inv (az5 CX P w K mg base N qual scope f cdv A outer s H E) [] (start N vs) H s1:=aH6 S hr.hd e0 hl r x;refine wpAny_mono (ht [] s1 (start N vs) H _ I hq) (λfl s' hs=>?_) λe s' hs=>hs
 have fin:∀ {σ':St} {H':Hp} {v:V} {u:Value},Inv (az5 CX P w K mg base N qual scope f cdv A outer s H E) [] σ' H' s'->G2 v u->Q v H'->CE outer P w H s Q u s' :=
  fun {σ' H' v u} J rv q=>⟨v,H',J.os,J.bare,J.base,J.hok,rv,q⟩
 cases fl with
 | ret u =>
  obtain ⟨v,σ',H',J,rv,q⟩:=hs;exact fin J rv q
 | next =>
  obtain ⟨σ',H',J,q⟩:=hs;exact fin (v:=V.non) (u:=Value.none) J rfl q
 | brk =>
  obtain ⟨_,_,_,q⟩:=hs;exact False.elim q
 | cont =>
  obtain ⟨_,_,_,q⟩:=hs;exact False.elim q
section
variable {X:Cx} {x:Str} {p pos:Pos} {e:Expr} {es:List Expr} {t:TA} {id T:String} {r:List V->Hp->VK->Prop}
def tCB (r:List V->Hp->VK->Prop) (t:TA):TE:=λσ H Q=>t σ H λvs H1=>r vs H1 Q
theorem i7 (hc : aa9 X (.builtin id) r) (hg : Gl X x) (hm : X.mg x = none) (hv : bootBuiltins x = some (.builtin id)) (ha : PA X (e :: es) t) (hn : x ≠ "__name__" := by decide) (hdb : (x == ("__debug__" : Str)) = false := by decide)
    (he:starEach (e :: es) X.env=(false,eval e X.env) :: starEach es X.env:=by rfl) (hpl:(backTo pos (starEach es X.env)).any (·.1)=false:=by rfl):PE X (.Call (.Name x p) (e :: es) [] pos) (tCB r t):=by
  intro pins s σ H Q I h;refine wpAny_Call_Name_kw (aj0 I hg hm hv ?_ hn hdb);exact PyProof.Rows.callWith_builtin1 (thn (ha pos pins s σ H _ I h) λus s1 ⟨vs,H1,I1,r1,q1⟩=>hc pins s1 σ H1 vs us Q I1 r1 q1) he hpl
theorem C8 (hc : aa9 X (.type T) r) (hg : Gl X x) (hm : X.mg x = none) (hv : bootBuiltins x = some (.type T)) (ha : PA X (e :: es) t) (hn : x ≠ "__name__" := by decide) (hdb : (x == ("__debug__" : Str)) = false := by decide)
    (he:starEach (e :: es) X.env=(false,eval e X.env) :: starEach es X.env:=by rfl) (hpl:(backTo pos (starEach es X.env)).any (·.1)=false:=by rfl):PE X (.Call (.Name x p) (e :: es) [] pos) (tCB r t):=by
  intro pins s σ H Q I h;refine wpAny_Call_Name_kw (aj0 I hg hm hv ?_ hn hdb);exact PyProof.Rows.callWith_type1 (thn (ha pos pins s σ H _ I h) λus s1 ⟨vs,H1,I1,r1,q1⟩=>hc pins s1 σ H1 vs us Q I1 r1 q1) he hpl
end
end L2
namespace HT
open PySem PyProof.Rows
section
open PySem.SeqAt
open PySem.AutoSeq1 (wpAny_loadPart')
open PySem.MeetsSeq PySem.MeetsSeq2 PySem.MeetsSeq3
end
section
variable {prog:Program} {w:World} {A:Around} {E:Value->Shared->Prop} {s:Shared}
def sIx (n d:Nat):Option Int->Nat
 | none=>d
 | some v=>if v<0 then (v+(n:Int)).toNat else min v.toNat n
end
end HT
namespace L2
open PySem PySem.Spec PyProof.Rows
abbrev TO:=St->Hp->(Option Int->Hp->Prop)->Prop
def PO (X:Cx) (e:Option Expr) (t:TO):Prop :=
 ∀ (pins:List (Addr × Obj)) (s:Shared) (σ:St) (H:Hp) (Q:Option Int->Hp->Prop),Inv X pins σ H s->t σ H Q ->
  wpAny (model X.prog X.w) X.A (evalPart e X.env) (λu s' => ∃ o H',Inv X pins σ H' s'/\IsPart u o/\Q o H') X.xe s
def ab0:TO:=λ_ H Q=>Q none H
def ar8 (t:TE):TO:=λσ H Q=>t σ H λx H1 => ∃ i,x=.int i/\Q (some i) H1
section
variable {X:Cx} {e:Expr} {te:TE} {lo hi:Option Expr} {tl th:TO} {pos p2:Pos}
theorem ac1:PO X none ab0:=by
 intro pins s σ H Q I h;rw [evalPart_none];exact wpAny_pure ⟨none,H,I,.none,h⟩
theorem W6 (h:PE X e te):PO X (some e) (ar8 te):=by
 intro pins s σ H Q I hw;rw [evalPart_some];refine thn (h pins s σ H _ I hw) λu s1 zq=>?_;obtain ⟨x,H1,I1,r1,q1⟩:=zq;obtain ⟨i,rfl,q⟩:=q1;obtain ⟨t,rfl⟩:=r1;exact ⟨some i,H1,I1,.int i t,q⟩
def SlR (X:Cx) (r:V->Option Int->Option Int->Hp->VK->Prop):Prop :=
 ∀ (pins:List (Addr × Obj)) (s:Shared) (σ:St) (H:Hp) (x:V) (v vl vu:Value) (lo hi:Option Int) (sl:Addr) (Q:VK),Inv X pins σ H s->G2 x v->s.heap.IsSliceOf sl vl vu .none->IsPart vl lo->IsPart vu hi->r x lo hi H Q ->
  ∃ T id,typeLookup (.type T) "__getitem__" = pure (some (.builtin id))/\s.TypeIs v T/\wpAny (model X.prog X.w) X.A (getItem v (.ref sl)) (EP X pins σ Q) X.xe s
def tSl (r:V->Option Int->Option Int->Hp->VK->Prop) (te:TE) (tl th:TO):TE:=λσ H Q=>te σ H λx H1=>tl σ H1 λl H2=>th σ H2 λu H3=>r x l u H3 Q
theorem U8 {r:V->Option Int->Option Int->Hp->VK->Prop} (hr:SlR X r) (he:PE X e te) (hl:PO X lo tl) (hu:PO X hi th):PE X (.Subscript e (.Slice lo hi none p2) pos) (tSl r te tl th):=by
 intro pins s σ H Q I h;refine Subscript_ (thn (he pins s σ H _ I h) λv s1 zq=>?_);obtain ⟨x,H1,I1,r1,q1⟩:=zq;refine wpAny_Slice (thn (hl pins s1 σ H1 _ I1 q1) λvl s2 ⟨l,H2,I2,pl,q2⟩=>thn (hu pins s2 σ H2 _ I2 q2) λvu s3 zq=>?_);obtain ⟨u,H3,I3,pu,q3⟩:=zq;rw [evalPart_none];refine wpAny_pure ?_;have I4:Inv X pins σ H3 { s3 with heap:=s3.heap.push { cls:=.type "slice",data:=.fields #[vl,vu,.none] } }:=I3.kept (t':=s3.toks) λb ob q=>q0j _ q
 obtain ⟨T,id,hT,ht,hg⟩:=hr pins { s3 with heap:=s3.heap.push { cls:=.type "slice",data:=.fields #[vl,vu,.none] } } σ H3 x v vl vu l u s3.heap.objs.size Q I4 r1 (Heap.IsSliceOf.new ..) pl pu q3
 show wpAny (model X.prog X.w) X.A (subscriptTail e (.Slice lo hi none p2) v (.ref s3.heap.objs.size)) (EP X pins σ Q) X.xe { s3 with heap:=s3.heap.push { cls:=.type "slice",data:=.fields #[vl,vu,.none] } }
 exact tail_any (ops:=[.ref s3.heap.objs.size,v]) ht hT hg (by with_unfolding_all rfl)
def ao9 (xs:List V) (lo hi:Option Int):List V:=(xs.drop (HT.sIx xs.length 0 lo)).take (HT.sIx xs.length xs.length hi-HT.sIx xs.length 0 lo)
theorem ay4 (xs:List V) (lo hi:Option Int):(ao9 xs lo hi).length<=xs.length:=by
 unfold ao9;rw [q0v,u0c]
 lia
end
def ixN (n:Nat) (i:Int):Option Nat:=if 0<=i then (if i<n then some i.toNat else none) else if -(n:Int)<=i then some (i+n).toNat else none
def atI {α:Type} (xs:List α) (i:Int):Option α:=(ixN xs.length i).bind λj=>xs[j]?
theorem aZ7 {n:Nat} {i:Int} {j:Nat} (h:ixN n i=some j):seqIndex? i n=some j/\j<n/\-(n:Int)<=i/\i<n:=by
 unfold ixN at h
 by_cases h0:0<=i
 ·rw [if_pos h0] at h
  by_cases h1:i<n
  ·rw [if_pos h1] at h
   have e:i.toNat=j:=Option.some.inj h;exact ⟨by rw [seqIndex_of h0 h1,e],by lia,by lia,h1⟩
  ·rw [if_neg h1] at h;cases h
 ·rw [if_neg h0] at h
  by_cases h1:-(n:Int)<=i
  ·rw [if_pos h1] at h
   have e:(i+n).toNat=j:=Option.some.inj h;exact ⟨by rw [seqIndex_neg (by lia) h1,e],by lia,h1,by lia⟩
  ·rw [if_neg h1] at h;cases h
theorem bb1 {α:Type} {xs:List α} {i:Int} {v:α} (h:atI xs i=some v):∃ j,seqIndex? i xs.length=some j/\xs[j]? = some v/\j<xs.length/\-(xs.length:Int)<=i/\i<xs.length:=by
 unfold atI at h
 cases e:ixN xs.length i with
 | none=>rw [e] at h;cases h
 | some j =>
  rw [e] at h;obtain ⟨h1,h2,h3,h4⟩:=aZ7 e;exact ⟨j,h1,h,h2,h3,h4⟩
theorem v9 {α:Type} {xs:List α} {j:Nat} {v:α} (h:xs[j]? = some v):atI xs (j:Int)=some v:=by
 have hj:j<xs.length:=(q0g.mp h).1
 have e:ixN xs.length (j:Int)=some j:=by
  unfold ixN;rw [if_pos (by simp),if_pos ⋯];simp
 unfold atI;rw [e];exact h
def bs8 (b:Expr):Prop:=∀ o i,subscripted b false o i=operate [o,i] (getItem o i)
def IxR (X:Cx) (r:R2):Prop :=
 ∀ (value slice:Expr) (pins:List (Addr × Obj)) (s:Shared) (σ:St) (H:Hp) (x y:V) (v u:Value) (Q:VK),Inv X pins σ H s->G2 x v->G2 y u->r x y H Q ->
  subscripted slice false v u=operate [v,u] (getItem v u)->wpAny (model X.prog X.w) X.A (subscriptTail value slice v u) (EP X pins σ Q) X.xe s
def MtR (X:Cx) (id:String) (r:V->List V->Hp->VK->Prop):Prop :=
 ∀ (pins:List (Addr × Obj)) (s:Shared) (σ:St) (H:Hp) (x:V) (xs:List V) (v:Value) (us:List Value) (Q:VK),Inv X pins σ H s->G2 x v->A7 xs us->r x xs H Q ->
  wpAny (model X.prog X.w) X.A (call (.builtin id) (v :: us)) (EP X pins σ Q) X.xe s
section
variable {X:Cx} {a b:Expr} {ta tb:TE} {pos:Pos}
theorem j6 {r:R2} (hr:IxR X r) (ha:PE X a ta) (hb:PE X b tb) (hs:bs8 b):PE X (.Subscript a b pos) (tOp r ta tb):=by
 intro pins s σ H Q I h;exact Subscript_ (by5 ha hb I h λv u s2 x y H2 I2 rx ry q=>hr a b pins s2 σ H2 x y v u Q I2 rx ry q (hs _ _))
def al1 (K:q0a):R2:=λx y H Q => ∃ p xs i v,x=.ref p/\y=.int i/\SqL K H p xs/\atI xs i=some v/\Q v H
def bc7 (K:q0a):R2:=λx y H Q => ∃ p xs i v,x=.ref p/\y=.int i/\SqT K H p xs/\atI xs i=some v/\Q v H
theorem j9:IxR X (al1 X.K):=by
 intro value slice pins s σ H x y v u Q I rx ry h hs;obtain ⟨p,xs,i,z,rfl,rfl,hq,he,q⟩:=h
 cases rx
 obtain ⟨t,rfl⟩:=ry;obtain ⟨its,r,pl,hz⟩:=I.list hq;obtain ⟨j,h1,h2,h3,h4,h5⟩:=bb1 he;obtain ⟨w,ew,rw'⟩:=r.get h2;have hl:=r.length;have hn:=aw4;have fin:EP X pins σ Q w s:=⟨z,H,I,rw',q⟩
 by_cases h0:0<=i
 ·have hj:i.toNat=j:=by
   rw [seqIndex_of h0 h5] at h1;exact Option.some.inj h1
  exact item_listR pl.isList h0 (by lia) (by rw [hj];simpa using ew) fin hs
 ·have hj:(i+(its.toArray.size:Int)).toNat=j:=by
   rw [seqIndex_neg (by lia) h4] at h1
   rw [q0r,<- hl];exact Option.some.inj h1
  exact subscriptTail_builtinR (x:=w) pl.isList.typeIs slot_list_getitem.lookup
   (wpAny_getItem_list_neg (Q:=λr s'=>r=w/\EP X pins σ Q r s') pl.isList ⋯ (by rw [q0r] <;> lia) (by lia) (by rw [hj];simpa using ew) ⟨rfl,fin⟩) hs
theorem y3:IxR X (bc7 X.K):=by
 intro value slice pins s σ H x y v u Q I rx ry h hs;obtain ⟨p,xs,i,z,rfl,rfl,hq,he,q⟩:=h
 cases rx
 obtain ⟨t,rfl⟩:=ry;obtain ⟨its,r,pl,hz⟩:=I.tuple hq;obtain ⟨j,h1,h2,h3,h4,h5⟩:=bb1 he;obtain ⟨w,ew,rw'⟩:=r.get h2;have hl:=r.length;have hn:=aw4;have fin:EP X pins σ Q w s:=⟨z,H,I,rw',q⟩
 exact subscriptTail_builtinR (x:=w) pl.typeIs slot_tuple_getitem.lookup
  (getItem_tuple (j:=j) (Q:=λr s'=>r=w/\EP X pins σ Q r s') pl (by lia) (by lia) (by rw [q0r,<- hl];exact h1) (by simpa using ew) ⟨rfl,fin⟩) hs
theorem aW6 (its:List Value) (n j:Nat) (u:Value):Obj.mapSeq (·.setIfInBounds j u) { cls:=.type "list",data:=.seq its.toArray n }={ cls:=.type "list",data:=.seq (its.set j u).toArray n }:=by
 simp [Obj.mapSeq]
theorem Inv.lst {pins:List (Addr × Obj)} {σ:St} {H:Hp} {s:Shared} {p:Addr} {xs:List V} (I:Inv X pins σ H s) (h:H p=some (.lst xs)) :
  ∃ (its:List Value) (n:Nat),A7 xs its/\s.heap.get? p=some { cls:=.type "list",data:=.seq its.toArray n }/\xs.length<=sizeLine:=by
 obtain ⟨z,its,n,r,e⟩:=I.hok p _ h;exact ⟨its,n,r,e,z⟩
theorem Inv.lstUpd {pins:List (Addr × Obj)} {σ:St} {H:Hp} {s:Shared} {p:Addr} {xs ys:List V} {its its':List Value} {n n':Nat} {f:Obj->Obj} (I:Inv X pins σ H s) (h:H p=some (.lst xs))
  (ho:s.heap.get? p=some { cls:=.type "list",data:=.seq its.toArray n }) (hf:f { cls:=.type "list",data:=.seq its.toArray n }={ cls:=.type "list",data:=.seq its'.toArray n' }) (r:A7 ys its') (hz:ys.length<=sizeLine) (t:Nat) :
  Inv X pins σ (upd H p (.lst ys)) { s with heap:=s.heap.update p f,toks:=t }:=by
 have e:(s.heap.update p f).get? p=some { cls:=.type "list",data:=.seq its'.toArray n' }:=by
  rw [v0y f ho (by rw [hf] <;> rfl),hf]
 refine I.write (x:=p) (e:=p) (by rw [h];trivial) (.inl rfl) (λb u hb q=>(j0x _ _ (Ne.symm hb)).trans q) ⟨_,e⟩ ?_
 exact ⟨hz,its',n',r,e⟩
def aB6:V->V->V->Hp->(Hp->Prop)->Prop:=λo i v H Q => ∃ p xs k j,o=.ref p/\i=.int k/\H p=some (.lst xs)/\ixN xs.length k=some j/\Q (upd H p (.lst (xs.set j v)))
theorem K2:bB3 X aB6:=by
 intro pins s σ H o i v ov iv u Q I ro ri rv h;obtain ⟨p,xs,k,j,rfl,rfl,hp,hj,q⟩:=h
 cases ro
 obtain ⟨t,rfl⟩:=ri;obtain ⟨its,n,r,ho,hz⟩:=I.lst hp;obtain ⟨h1,h2,h3,h4⟩:=aZ7 hj;have hl:=r.length;have hn:=aw4
 have I':Inv X pins σ (upd H p (.lst (xs.set j v))) { s with heap:=s.heap.update p (Obj.mapSeq (·.setIfInBounds j u)) } :=
  I.lstUpd hp ho (aW6 its n j u) (r.set rv j) (by rw [y0d];exact hz) s.toks
 by_cases h0:0<=k
 ·have hk:k.toNat=j:=by
   rw [seqIndex_of h0 h4] at h1;exact Option.some.inj h1
  exact PySem.W.ki_setAt ho h0 (by lia) (by rw [q0r,<- hl];exact h4) (by rw [hk];exact ⟨_,I',q⟩)
 ·have hk:(k+(its.toArray.size:Int)).toNat=j:=by
   rw [seqIndex_neg (by lia) h3] at h1
   rw [q0r,<- hl];exact Option.some.inj h1
  exact PySem.W.ki_setBack ho ⋯ (by rw [q0r,<- hl];exact h3) (by lia) (by rw [hk];exact ⟨_,I',q⟩)
theorem aK5 (lo hi:Option Int) (n:Nat):(sliceBounds lo hi none n).1=((HT.sIx n 0 lo:Nat):Int)/\(sliceBounds lo hi none n).2.1=((HT.sIx n n hi:Nat):Int)/\(sliceBounds lo hi none n).2.2=1:=by
 refine ⟨?_,?_,rfl⟩
 ·cases lo with
  | none=>simp [sliceBounds,HT.sIx]
  | some i =>
   simp only [sliceBounds,HT.sIx,Option.getD_none,show (1:Int) > 0 by decide,if_true]
   by_cases h:i<0
   ·simp only [h,if_true] <;> lia
   ·simp only [h,if_false] <;> lia
 ·cases hi with
  | none=>simp [sliceBounds,HT.sIx]
  | some i =>
   simp only [sliceBounds,HT.sIx,Option.getD_none,show (1:Int) > 0 by decide,if_true]
   by_cases h:i<0
   ·simp only [h,if_true] <;> omega
   ·simp only [h,if_false] <;> omega
theorem aE8 (its:List Value) (lo hi:Option Int):slicePick its.toArray lo hi none=((its.drop (HT.sIx its.length 0 lo)).take (HT.sIx its.length its.length hi-HT.sIx its.length 0 lo)).toArray:=by
 obtain ⟨h1,h2,h3⟩:=aK5 lo hi its.toArray.size;unfold slicePick;rw [h1,h2,h3];simp only [sliceRange_one,pick_run,q0r] <;> rfl
def as7 (K:q0a):V->Option Int->Option Int->Hp->VK->Prop:=λx lo hi H Q => ∃ a xs,x=.ref a/\SqL K H a xs/\∀ p,H p=none->Q (.ref p) (upd H p (.lst (ao9 xs lo hi)))
theorem Y9:SlR X (as7 X.K):=by
 intro pins s σ H x v vl vu lo hi sl Q I rx hs pl pu h;obtain ⟨a,xs,rfl,hx,q⟩:=h
 cases rx
 obtain ⟨its,r,ht,hz⟩:=I.list hx;have hlen:=r.length;refine ⟨"list",_,slot_list_getitem.lookup,ht.isList.typeIs,?_⟩
 refine wpAny_getItem_list_slice ht.isList hs pl pu .none (by simp) ?_ (by rw [q0r] <;> lia)
 rw [aE8,<- hlen];refine ⟨.ref s.heap.objs.size,_,I.laid (t':=s.toks) (o:=.lst (ao9 xs lo hi)) (λb ob q=>q0j _ q) (q0h _) ?_,rfl,q _ (I.hok.fresh (q0h _))⟩;exact ⟨q0s (ay4 xs lo hi) hz,_,0,(r.drop (HT.sIx xs.length 0 lo)).take (HT.sIx xs.length xs.length hi-HT.sIx xs.length 0 lo),z0b _ rfl⟩
def af3:V->Bool
 | .non=>true
 | .bl _=>true
 | .int _=>true
 | .str _=>true
 | _=>false
def eqV:V->V->Bool
 | .non,.non=>true
 | .bl a,.bl b=>a == b
 | .bl a,.int b=>(if a then 1 else 0) == b
 | .int a,.bl b=>a == (if b then 1 else 0)
 | .int a,.int b=>a == b
 | .str a,.str b=>a == b
 | _,_=>false
theorem bl3 {A:Around} {s:Shared} {y x:V} {u v:Value} (ry:G2 y u) (rx:G2 x v) (fy:af3 y=true) (fx:af3 x=true):SeqAt.EqAt A s u v (eqV y x):=by
 cases y with
 | non =>
  cases ry
  cases x with
  | non=>cases rx;exact SeqAt.EqAt.same _
  | bl b=>cases rx;exact SeqAt.EqAt.none_bool b
  | int b=>obtain ⟨t,rfl⟩:=rx;exact SeqAt.EqAt.none_int b t
  | str b=>obtain ⟨t,rfl⟩:=rx;exact SeqAt.EqAt.none_str b t
  | _=>exact absurd (show false=true from fx) q0t
 | bl a =>
  cases ry
  cases x with
  | non=>cases rx;exact SeqAt.EqAt.bool_none a
  | bl b=>cases rx;exact SeqAt.EqAt.bool_bool a b
  | int b=>obtain ⟨t,rfl⟩:=rx;exact SeqAt.EqAt.bool_int a b t
  | str b=>obtain ⟨t,rfl⟩:=rx;exact SeqAt.EqAt.bool_str a b t
  | _=>exact absurd (show false=true from fx) q0t
 | int a =>
  obtain ⟨t',rfl⟩:=ry
  cases x with
  | non=>cases rx;exact SeqAt.EqAt.int_none a t'
  | bl b=>cases rx;exact SeqAt.EqAt.int_bool a t' b
  | int b=>obtain ⟨t,rfl⟩:=rx;exact SeqAt.EqAt.int_int a t' b t
  | str b=>obtain ⟨t,rfl⟩:=rx;exact SeqAt.EqAt.int_str a t' b t
  | _=>exact absurd (show false=true from fx) q0t
 | str a =>
  obtain ⟨t',rfl⟩:=ry
  cases x with
  | non=>cases rx;exact SeqAt.EqAt.str_none a t'
  | bl b=>cases rx;exact SeqAt.EqAt.str_bool a t' b
  | int b=>obtain ⟨t,rfl⟩:=rx;exact SeqAt.EqAt.str_int a t' b t
  | str b=>obtain ⟨t,rfl⟩:=rx;exact SeqAt.EqAt.str_str a t' b t
  | _=>exact absurd (show false=true from fx) q0t
 | _=>exact absurd (show false=true from fy) q0t
def eqU (x:V) (u:Value):Bool:=match u with
 | .none=>eqV .non x
 | .bool b=>eqV (.bl b) x
 | .int i _=>eqV (.int i) x
 | .str z _=>eqV (.str z) x
 | _=>false
theorem aX2 {x y:V} {u:Value} (r:G2 y u) (f:af3 y=true):eqU x u=eqV y x:=by
 cases y with
 | non=>cases r;rfl
 | bl b=>cases r;rfl
 | int i=>obtain ⟨t,rfl⟩:=r;rfl
 | str z=>obtain ⟨t,rfl⟩:=r;rfl
 | _=>exact absurd (show false=true from f) q0t
theorem aD0 {A:Around} {s:Shared} {x:V} {v:Value} (rx:G2 x v) (fx:af3 x=true):∀ {xs:List V} {us:List Value},A7 xs us->xs.all af3=true->∀ u ∈ us,SeqAt.EqAt A s u v (eqU x u)
 | _,_,.nil,_=>λu hu=>by cases hu
 | y :: xs,u :: us,.cons r t,f=>λu' hu=>by
  rw [g0x,j0u] at f;rcases z0m.mp hu with rfl | hu
  ·rw [aX2 r f.1];exact bl3 r rx f.1 fx
  ·exact aD0 rx fx t f.2 u' hu
theorem k6:aa9 X (.builtin "len") (λxs H Q => ∃ p ys,xs=[.ref p]/\(SqL X.K H p ys \/ SqT X.K H p ys)/\Q (.int ys.length) H):=by
 intro pins s σ H xs us Q I r h;obtain ⟨p,ys,rfl,hq,q⟩:=h;obtain ⟨u,rfl,rx⟩:=ap0 r
 cases rx
 have hn:=aw4;rcases hq with hq | hq
 ·obtain ⟨its,r',pl,hz⟩:=I.list hq
  have hlen:=r'.length;exact Calls.call_len_list pl.isList (by simp only [q0r] <;> lia) ⟨.int ys.length,H,I.tok _,⟨s.toks+1,by rw [q0r,hlen]⟩,q⟩
 ·obtain ⟨its,r',pl,hz⟩:=I.tuple hq
  have hlen:=r'.length;exact len_tuple pl (by simp only [q0r] <;> omega) ⟨.int ys.length,H,I.tok _,⟨s.toks+1,by rw [q0r,hlen]⟩,q⟩
theorem M9:aa9 X (.type "list") (λxs H Q => ∃ p ys,xs=[.ref p]/\(SqL X.K H p ys \/ SqT X.K H p ys)/\∀ l,H l=none->Q (.ref l) (upd H l (.lst ys))):=by
 intro pins s σ H xs us Q I r h;obtain ⟨p,ys,rfl,hq,q⟩:=h;obtain ⟨u,rfl,rx⟩:=ap0 r
 cases rx
 have fin:∀ (its:List Value),A7 ys its->ys.length<=sizeLine->∀ (h':Heap) (c':Nat),(∀ b o',s.heap.get? b=some o'->h'.get? b=some o') ->
   h'.get? s.heap.objs.size=some { cls:=.type "list",dict:=none,data:=.seq its.toArray c',slots:=#[] }->EP X pins σ Q (.ref s.heap.objs.size) { s with heap:=h' }:=λits r' hz h' c' kp e =>
  ⟨.ref s.heap.objs.size,_,I.laid (t':=s.toks) kp (q0h _) (show O8 X.prog X.w _ h' _ (.lst ys) from ⟨hz,its,c',r',e⟩),rfl,q _ (I.hok.fresh (q0h _))⟩
 rcases hq with hq | hq
 ·obtain ⟨its,r',pl,hz⟩:=I.list hq
  have hlen:=r'.length;obtain ⟨o,ho,hc,n,hd⟩:=pl.isList;exact call_list_seq p (.inl rfl) ho hc hd (λh' c' kp e=>fin its r' hz h' c' kp e) (by simp only [q0r] <;> omega)
 ·obtain ⟨its,r',pl,hz⟩:=I.tuple hq
  have hlen:=r'.length;obtain ⟨o,ho,hc,n,hd⟩:=pl;exact call_list_seq p (.inr rfl) ho hc hd (λh' c' kp e=>fin its r' hz h' c' kp e) (by simp only [q0r] <;> omega)
theorem aG0:aa9 X (.type "tuple") (λxs H Q => ∃ p ys,xs=[.ref p]/\((SqL X.K H p ys/\∀ l,H l=none->Q (.ref l) (upd H l (.tup ys))) \/ (SqT X.K H p ys/\Q (.ref p) H))):=by
 intro pins s σ H xs us Q I r h;obtain ⟨p,ys,rfl,h⟩:=h;obtain ⟨u,rfl,rx⟩:=ap0 r
 cases rx
 rcases h with ⟨hq,q⟩ | ⟨hq,q⟩
 ·obtain ⟨its,r',pl,hz⟩:=I.list hq
  have hlen:=r'.length;refine call_tuple_list pl.isList (λh' kp=>?_) (by simp only [q0r] <;> omega)
  have I1:Inv X pins σ H { s with heap:=h' }:=I.kept (t':=s.toks) kp
  have I2:Inv X pins σ (upd H h'.objs.size (.tup ys)) { s with heap:=h'.push { cls:=.type "tuple",data:=.seq its.toArray } } :=
   I1.laid (t':=s.toks) (λb o e=>q0j _ e) (q0h _) (show O8 X.prog X.w _ _ _ (.tup ys) from ⟨hz,its,r',IsTup.new _ _⟩)
  exact ⟨.ref h'.objs.size,_,I2,rfl,q _ (I1.hok.fresh (q0h _))⟩
 ·obtain ⟨its,r',pl,hz⟩:=I.tuple hq
  exact call_tuple_same pl ⟨.ref p,H,I,rfl,q⟩
def tyV (K:PySem.W.Frag) (T:String) (x:V) (H:Hp):Prop:=match x with
  | .str _=>T = "str"
  | .int _=>T = "int"
  | .ref p => (T = "list" ∧ ∃ xs, SqL K H p xs) ∨ (T = "tuple" ∧ ∃ o, K.lookup p = some o ∧ o.cls = .type "tuple" ∧ o.dict = none) ∨
      (T = "dict"/\((∃ kvs,H p=some (.dK kvs)) \/ ∃ kvs,H p=some (.dT kvs))) \/ (T = "set"/\∃ S n,H p=some (.set S n))
  | _=>False
theorem bg5 {pins:List (Addr × Obj)} {σ:St} {H:Hp} {s:Shared} {T:String} {x:V} {v:Value} (I:Inv X pins σ H s) (r:G2 x v) (ty:tyV X.K T x H) :
  s.TypeIs v T/\∀ a,v=.ref a->∃ ob,s.heap.get? a=some ob/\ob.dict=none:=by
 cases x with
 | str z =>
  obtain ⟨t,rfl⟩:=r
  cases (show T = "str" from ty)
  exact ⟨typeIs_str s z t,λ_ e=>nomatch e⟩
 | int i =>
  obtain ⟨t,rfl⟩:=r
  cases (show T = "int" from ty)
  exact ⟨typeIs_int s i t,λ_ e=>nomatch e⟩
 | ref p =>
  cases r
  rcases ty with ⟨rfl,xs,hq⟩ | ⟨rfl,o,hk,hc,hd⟩ | ⟨rfl,hk⟩ | ⟨rfl,S,n,hk⟩
  ·obtain ⟨its,_,pl,_⟩:=I.list hq
   refine ⟨pl.isList.typeIs,λa e=>?_⟩
   cases e
   obtain ⟨o,n,e,c,hd,_⟩:=pl;exact ⟨o,e,hd⟩
  ·refine ⟨⟨o,I.kIn p o hk,hc⟩,λa e=>?_⟩
   cases e
   exact ⟨o,I.kIn _ o hk,hd⟩
  ·have z:∃ o,s.heap.get? p=some o/\o.ExactDict:=by
    rcases hk with ⟨kvs,hk⟩ | ⟨kvs,hk⟩
    ·obtain ⟨_,_,_,_,o,_,_,e,ex,_⟩:=I.hok p _ hk
     exact ⟨o,e,ex⟩
    ·obtain ⟨_,_,_,_,o,_,_,e,ex,_⟩:=I.hok p _ hk
     exact ⟨o,e,ex⟩
   obtain ⟨o,e,ex⟩:=z;refine ⟨⟨o,e,ex.1⟩,λa e2=>?_⟩
   cases e2
   exact ⟨o,e,ex.2.1⟩
  ·obtain ⟨o,_,_,_,e,ex,_⟩:=I.hok p _ hk
   refine ⟨⟨o,e,ex.1⟩,λa e2=>?_⟩
   cases e2
   exact ⟨o,e,ex.2.1⟩
 | _=>exact False.elim ty
def bo0 (K:q0a) (T:String) (r:V->List V->Hp->VK->Prop) (to:TE):TE:=λσ H Q=>to σ H λx H1=>tyV K T x H1/\r x [] H1 Q
def tBM (K:q0a) (T:String) (r:V->List V->Hp->VK->Prop) (to:TE) (t:TA):TE:=λσ H Q=>to σ H λx H1=>tyV K T x H1/\t σ H1 λxs H2=>r x xs H2 Q
variable {o e:Expr} {es:List Expr} {to:TE} {t:TA} {name:Str} {apos cpos:Pos} {T id:String} {r:V->List V->Hp->VK->Prop}
theorem av6 (pa:PlainAttrs T) (slot:Slot T name id) (hty:typeOf (.builtin id)=pure (.type "method_descriptor")) (hm:MtR X id r) (ho:PE X o to)
  (hbase:attributeBase o name X.env (eval o X.env)=eval o X.env:=by rfl) (hline:(apos.endLine == cpos.line)=true:=by rfl):PE X (.Call (.Attribute o name apos) [] [] cpos) (bo0 X.K T r to):=by
 intro pins s σ H Q I h;refine wpAny_Call_method0_late hbase hline (thn (ho pins s σ H _ I h) λv s1 zq=>?_);obtain ⟨x,H1,I1,r1,ty,q1⟩:=zq;obtain ⟨h1,h2⟩:=bg5 I1 r1 ty;exact ⟨T,id,pa,slot,hty,h1,h2,Calls.callWith_builtin rfl (PySem.evalArgs_none (hm pins s1 σ H1 x [] v [] Q I1 r1 .nil q1))⟩
theorem at3 (pa:PlainAttrs T) (slot:Slot T name id) (hty:typeOf (.builtin id)=pure (.type "method_descriptor")) (hm:MtR X id r) (ho:PE X o to) (ha:PA X (e :: es) t)
  (hbase:attributeBase o name X.env (eval o X.env)=eval o X.env:=by rfl)
  (hfew:((backTo cpos (starEach (e :: es) X.env)).all (λx => !x.1) && (backToKw cpos (keywordEach [] X.env)).all (λx=>x.1.isSome)
   && decide ((e :: es).length+([]:List Keyword).length+(if ([]:List Keyword).isEmpty then 0 else 1)<30))=true:=by rfl)
  (hline:(apos.endLine == cpos.line)=true:=by rfl) (hs:starEach (e :: es) X.env=(false,eval e X.env) :: starEach es X.env:=by rfl) (hplain:(backTo cpos (starEach es X.env)).any (·.1)=false:=by rfl) :
  PE X (.Call (.Attribute o name apos) (e :: es) [] cpos) (tBM X.K T r to t):=by
 intro pins s σ H Q I h;refine wpAny_Call_method_late hbase hfew hline rfl (thn (ho pins s σ H _ I h) λv s1 zq=>?_);obtain ⟨x,H1,I1,r1,ty,q1⟩:=zq;obtain ⟨h1,h2⟩:=bg5 I1 r1 ty;refine ⟨T,id,pa,slot,hty,h1,h2,?_⟩;have hA:=ha cpos pins s1 σ H1 _ I1 q1;rw [hs] at hA ⊢;refine Calls.callWith_builtin (by show (false || (backTo cpos (starEach es X.env)).any (·.1))=false;rw [hplain] <;> rfl) (Calls.evalArgs_plain ?_)
 refine thn hA λus s2 zq=>?_;obtain ⟨vs,H2,I2,r2,q2⟩:=zq;exact hm pins s2 σ H2 x vs v us Q I2 r1 r2 q2
end
def MtM (X:Cx) (id:String) (r:V->List V->Hp->VK->Prop):Prop :=
 ∀ (pins:List (Addr × Obj)) (s:Shared) (σ:St) (H:Hp) (x:V) (xs:List V) (v:Value) (us:List Value) (Q:VK),Inv X pins σ H s->G2 x v->A7 xs us->r x xs H Q ->
  wpAny (model X.prog X.w) X.A (call (.builtin id) (v :: us)) (EP X pins σ Q) X.xe s
theorem A7.one {x:V} {us:List Value} (h:A7 [x] us):∃ u,us=[u]/\G2 x u:=by
 cases h with
 | cons r t=>cases t;exact ⟨_,rfl,r⟩
theorem A7.two {x y:V} {us:List Value} (h:A7 [x,y] us):∃ u v,us=[u,v]/\G2 x u/\G2 y v:=by
 cases h with
 | cons r t=>
  cases t with
  | cons q z=>cases z;exact ⟨_,_,rfl,r,q⟩
theorem A7.zero:∀ {us:List Value},A7 [] us->us=[]
 | _,.nil=>rfl
theorem A7.dropLast {xs:List V} {us:List Value} (h:A7 xs us):A7 xs.dropLast us.dropLast:=by
 induction h with
 | nil=>exact .nil
 | cons r t ih =>
  cases t with
  | nil=>exact .nil
  | cons q t'=>exact .cons r ih
theorem A7.rep {xs:List V} {us:List Value} (h:A7 xs us):∀ k:Nat,A7 (z0a k xs).flatten (z0a k us).flatten
 | 0=>.nil
 | k+1=>by
  rw [v0u,v0u,u0r,u0r];exact A7.append h (A7.rep h k)
theorem aX1 {α:Type} (l:List α):l.eraseIdx (l.length-1)=l.dropLast:=by
 induction l with
 | nil=>rfl
 | cons a r ih =>
  cases r with
  | nil=>rfl
  | cons b r =>
   have e:(a :: b :: r).length-1=((b :: r).length-1)+1:=by
    have h1:(a :: b :: r).length=r.length+2:=rfl;have h2:(b :: r).length=r.length+1:=rfl
    simp
   rw [e,List.eraseIdx_cons_succ,ih]
   all_goals rfl
theorem aH8 (its:List Value):∀ (k:Nat) (acc:List Value),
  List.foldl (λx1 x2=>x1 ++ x2) acc.toArray (z0a k its.toArray)=(acc ++ (z0a k its).flatten).toArray
 | 0,acc=>by simp
 | k+1,acc=>by
  have e:acc.toArray ++ its.toArray=(acc ++ its).toArray:=by simp
  have e2:(acc ++ its) ++ (z0a k its).flatten=acc ++ (z0a (k+1) its).flatten:=by
   rw [v0u,u0r,List.append_assoc]
  rw [<- e2,<- aH8 its k (acc ++ its),<- e,v0u,y0r]
section
variable {X:Cx} {pins:List (Addr × Obj)} {σ:St} {H:Hp} {s:Shared} {l b:Addr} {xs ys zs:List V}
theorem Inv.lset {its its':List Value} {n:Nat} {f:Array Value->Array Value} {t':Nat} (I:Inv X pins σ H s) (hH:H l=some (.lst xs))
  (e:s.heap.get? l=some { cls:=.type "list",data:=.seq its.toArray n }) (hf:f its.toArray=its'.toArray) (hv:A7 ys its') (hz:ys.length<=sizeLine) :
  Inv X pins σ (upd H l (.lst ys)) { s with heap:=s.heap.update l (Obj.mapSeq f),toks:=t' }:=by
 have q:=PySem.IsL.update e f;rw [hf] at q;refine I.write (x:=l) (e:=l) (by rw [hH];exact trivial) (.inl rfl) (λb' u hb hu=>(j0x s.heap (Obj.mapSeq f) (Ne.symm hb)).trans hu) ⟨_,q⟩ ?_
 exact ⟨hz,its',_,hv,q⟩
theorem Inv.lnew {its:List Value} {t':Nat} (I:Inv X pins σ H s) (hv:A7 ys its) (hz:ys.length<=sizeLine) :
  Inv X pins σ (upd H s.heap.objs.size (.lst ys)) { s with heap:=s.heap.push { cls:=.type "list",data:=.seq its.toArray },toks:=t' } :=
 I.laid (λ_ _ q=>q0j _ q) (q0h _) ⟨hz,its,0,hv,z0b _ rfl⟩
theorem Inv.fresh (I:Inv X pins σ H s):H s.heap.objs.size=none:=I.hok.fresh (q0h _)
theorem Inv.lstM (I:Inv X pins σ H s) (hH:H l=some (.lst xs)):xs.length<=sizeLine/\∃ (its:List Value) (n:Nat),A7 xs its/\xs.length=its.length/\s.heap.get? l=some { cls:=.type "list",data:=.seq its.toArray n }:=by
 obtain ⟨z,its,n,r,e⟩:=I.hok l _ hH;exact ⟨z,its,n,r,r.length,e⟩
theorem bj3 {n:Nat} (h:n<=sizeLine):Builtin.List.listTooLong n=false:=by
 unfold Builtin.List.listTooLong;exact decide_eq_false (by lia)
end
section
variable {X:Cx}
def aM1:V->List V->Hp->VK->Prop:=λx vs H Q => ∃ l xs y,x=.ref l/\vs=[y]/\H l=some (.lst xs)/\xs.length<sizeLine/\Q .non (upd H l (.lst (xs ++ [y])))
theorem N6:MtM X "list.append" aM1:=by
 intro pins s σ H x vs v us Q I rx rv h;obtain ⟨l,xs,y,rfl,rfl,hH,hz,q⟩:=h
 cases rx
 obtain ⟨u,rfl,ru⟩:=rv.one;obtain ⟨z,its,n,r,hl,e⟩:=I.lstM hH;refine call_meets F.slot_list_append ⟨_,e,rfl⟩ F.entry_list_append (F.args_list_append_2 _ _) (PySem.list_append l its.toArray n u (by rw [q0r];lia)) ⟨e,?_⟩
 refine ⟨.non,_,I.lset (its':=its ++ [u]) hH e (by simp) (r.append (.cons ru .nil)) ?_,rfl,q⟩
 rw [z0z,v0f]
 lia
def rExtend:V->List V->Hp->VK->Prop:=λx vs H Q => ∃ l b xs zs,x=.ref l/\vs=[.ref b]/\H l=some (.lst xs)/\H b=some (.lst zs)/\xs.length+zs.length<=sizeLine/\Q .non (upd H l (.lst (xs ++ zs)))
def bv8:V->List V->Hp->VK->Prop:=λx vs H Q => ∃ l xs y,x=.ref l/\vs=[]/\H l=some (.lst xs)/\xs[xs.length-1]? = some y/\Q y (upd H l (.lst xs.dropLast))
theorem bw9:MtM X "list.pop" bv8:=by
 intro pins s σ H x vs v us Q I rx rv h;obtain ⟨l,xs,y,rfl,rfl,hH,hy,q⟩:=h
 cases rx
 have hus:=rv.zero;subst hus;obtain ⟨z,its,n,r,hl,e⟩:=I.lstM hH;obtain ⟨u,hu,ru⟩:=r.get hy
 have hy':its.toArray[its.toArray.size-1]? = some u:=by
  show its.toArray[its.length-1]? = some u;rw [<- Array.getElem?_toList,<- hl];exact hu
 refine call_meets F.slot_list_pop ⟨_,e,rfl⟩ F.entry_list_pop (F.args_list_pop_1 _) (MeetsSeq.list_pop_last l its.toArray n u hy' (by rw [q0r];lia)) ⟨e,?_⟩
 refine ⟨y,_,I.lset (its':=its.dropLast) hH e ?_ r.dropLast ?_,ru,q⟩
 ·show its.toArray.eraseIdxIfInBounds (its.toArray.size-1)=its.dropLast.toArray
  rw [q0r,List.eraseIdxIfInBounds_toArray,aX1]
 ·rw [List.length_dropLast]
  lia
def aL9:R2:=λx y H Q => ∃ l b xs zs,x=.ref l/\y=.ref b/\H l=some (.lst xs)/\H b=some (.lst zs)/\xs.length+zs.length<=sizeLine/\∀ p,H p=none->Q (.ref p) (upd H p (.lst (xs ++ zs)))
theorem aa4:OpR X (binaryOp .Add) aL9:=by
 intro pins s σ H x y v u Q I rx ry h;obtain ⟨l,b,xs,zs,rfl,rfl,hH,hB,hz,q⟩:=h
 cases rx
 cases ry
 obtain ⟨z,its,n,r,hl,e⟩:=I.lstM hH;obtain ⟨z2,its2,n2,r2,hl2,e2⟩:=I.lstM hB;refine PySem.P.add_list e e2 ?_ (by rw [q0r,q0r];lia)
 have ea:its.toArray ++ its2.toArray=(its ++ its2).toArray:=by simp
 rw [ea];exact ⟨.ref _,_,I.lnew (t':=s.toks) (r.append r2) (by rw [z0z];omega),rfl,q _ I.fresh⟩
def bv7:R2:=λx y H Q => ∃ l k xs,x=.ref l/\y=.int k/\H l=some (.lst xs)/\-(2 ^ 63)<=k/\k<2 ^ 63/\xs.length*k.toNat<=sizeLine /\
 ∀ p,H p=none->Q (.ref p) (upd H p (.lst (z0a k.toNat xs).flatten))
theorem bq7 {α:Type} (xs:List α) (k:Nat):(z0a k xs).flatten.length=k*xs.length:=by
 induction k with
 | zero=>simp
 | succ k ih=>rw [v0u,u0r,z0z,ih,m0d,m0e]
theorem bw4:OpR X (binaryOp .Mult) bv7:=by
 intro pins s σ H x y v u Q I rx ry h;obtain ⟨l,k,xs,rfl,rfl,hH,h1,h2,hz,q⟩:=h
 cases rx
 obtain ⟨t,rfl⟩:=ry;obtain ⟨z,its,n,r,hl,e⟩:=I.lstM hH;have hlen:its.toArray.size*k.toNat<=sizeLine:=by rw [q0r,<- hl];exact hz
 have hcap:¬ its.toArray.size*k.toNat > (2 ^ 63-1) / 8:=by
  have:(sizeLine:Nat)<=(2 ^ 63-1) / 8:=by decide
  lia
 have hfit:¬ (!Builtin.List.listFitsIndex k)=true:=by
  rw [fitsIndex_both h1 h2];exact q0t
 have hlong:¬ Builtin.List.listTooLong (its.toArray.size*k.toNat)=true:=by
  rw [bj3 hlen];exact q0t
 have hnew:List.foldl (λx1 x2=>x1 ++ x2) #[] (z0a (if its.toArray.isEmpty=true then 0 else k.toNat) its.toArray)=(z0a k.toNat its).flatten.toArray:=by
  have f0:∀ m:Nat,List.foldl (λx1 x2=>x1 ++ x2) #[] (z0a m its.toArray)=(z0a m its).flatten.toArray:=λm=>by
   have:=aH8 its m [];rw [List.nil_append] at this;exact this
  rw [f0]
  cases its with
  | nil=>simp
  | cons a r'=>rw [if_neg (by simp)]
 refine wpAny_binaryOp_repeat_ref (T := "list") (U := "int") (by decide) ⟨_,e,rfl⟩ (λs'=>typeIs_int s' k t) noFill_list_mul F.fills_int_mul F.slot_int_rmul repeat_list F.slot_int_index.lookup
  (call_meets F.slot_int_rmul (typeIs_int s k t) F.entry_int_rmul (F.args_int_rmul_2 _ _) (int___rmul___int_list k t l its.toArray n)
   ⟨e,rfl,⟨_,e,rfl⟩,call_meets F.slot_list_mul ⟨_,e,rfl⟩ F.entry_list_mul (F.args_list_mul_2 _ _) (AutoListH.list___mul___list_int_3 l its.toArray n k t hfit hcap hlong) ⟨e,?_⟩⟩)
 rw [hnew];exact ⟨.ref _,_,I.lnew (t':=s.toks) (r.rep k.toNat) (by rw [bq7,v0z];exact hz),rfl,q _ I.fresh⟩
end
end L2
namespace Att
open PySem PySem.W PySem.Calls PyProof.Rows
theorem az4 {P:Params} {h:Heap}:∀ (ns:List Int) (vs:List Value),WellAll P h vs (ns.map WData.int)->IntsAre vs ns:=by
 intro ns
 induction ns with
 | nil =>
  intro vs w;rw [q1g] at w
  cases w
  exact .nil
 | cons n ns ih =>
  intro vs w;rw [j0d] at w
  cases w with
  | cons a b =>
   cases a
   exact .cons _ _ (ih _ b)
theorem bc4 {l:OpenLaw} {n:Nat} (hn:l.most=some n) {P:Params} {h:Heap} {args:List WData} {vals:List Value}
  (hpre:l.row.toRowW.claim.pre args=true) (hwl:WellAll P h vals args) :
  ∃ a vs ns,vals=[Value.ref a]/\args=[WData.list (ns.map WData.int)]/\h.get? a=some { cls:=.type "list",data:=.seq vs.toArray }/\IntsAre vs ns/\ns.length<=n:=by
 have hsh:WShape.hasAll [] args [.list .int]=true:=(pre_splitW hpre).1;have hc:l.pre.holds [] { args:=args }=true:=(pre_splitW hpre).2;obtain ⟨d,r,rfl,h1,h2⟩:=hasAllW_cons hsh;obtain rfl:=hasAllW_nil h2;obtain ⟨xs,rfl,h3⟩:=hasW_list h1;obtain ⟨ns,rfl⟩:=items_int h3
 have hlen:ns.length<=n:=by
  unfold OpenLaw.pre at hc
  have h4:(WTm.not (.lt (.lit (.int (n:Int))) (.len (.arg 0)))).holds [] { args:=[.list (ns.map .int)] }=true:=by
   have h4:=(holds_andW hc).1;rw [hn] at h4;exact h4
  have h5:=condW_of h4 (w_not (w_lt w_lit (w_len_list (w_arg rfl))));rw [q0e] at h5;refine Nat.le_of_not_lt λq=>?_;have q':(n:Int)<((ns.length:Nat):Int):=⋯
  first
   | (rw [decide_eq_true q'] at h5;exact absurd h5 (by decide))
   | (simp at h5;omega)
 cases hwl with
 | cons w1 w2 =>
  cases w2
  cases w1 with
  | list ho hall=>exact ⟨_,_,ns,rfl,rfl,ho,az4 ns _ hall,hlen⟩
theorem bc9 (l:OpenLaw) (args:List WData):l.row.toRowW.claim.post args (.bool true) args=true :=
 postW_of (r:=l.row.toRowW) (X:=(true == true))
  (show WShape.has [] (.bool true) .bool=true by first | rfl | decide | simp [WShape.has,WShape.arms,WShape.armsAll])
  (show (WTm.eq .res (.lit (.bool true))).value [] { args:=args,res:=some (.bool true),after:=args }=some (.bool (true == true)) from w_eq_bool (w_res rfl) w_lit) rfl
theorem attach_call {l:OpenLaw} {n:Nat} {q:Program} {loose:List Str} {XP:(Str->Option Value)->Heap->Prop} {YP:World->Heap->Prop} {d:DefRec}
  (hn:l.most=some n) (hdf:d.params.defaults=[])
  (call:∀ (w:World) (s₀ s₁:Shared) (mg mb:Str->Option Value) (fa:Addr) (o:Obj) (pm cd doc:Value) (a:Addr) (vs:List Value) (ns:List Int),
   Ground q loose [] XP w s₀ mg mb s₁.heap->YP w s₁.heap ->
   s₁.heap.get? fa=some o->o.data=.func (docDef d.name d.params d.body d.scope pm cd doc)->s₁.heap.CodeRec cd d.name->mg d.name=some (.ref fa) ->
   s₁.heap.get? a=some { cls:=.type "list",data:=.seq vs.toArray }->IntsAre vs ns->ns.length<=n->s₁.gens = #[] ->
   codeAny (model l.prog w) callerA (.call (.ref fa) ⟨[.ref a],[]⟩) (λr s'=>r=.ok (.ret (.bool true))/\OldK s₁.heap s'.heap/\s'.os=s₁.os/\AllBare s'.gens) s₁) :
  WalkO q loose XP YP l.row.toRowW d [] (λf vs=>PySem.call f vs):=by
 intro w s₀ s₁ mg mb G Y fa o pm cd doc dV kV ho hd hcd hD hmg hg args vals as hpre hlay hrd hwl hlo;obtain rfl:dV=.none:=Dflts.none hD hdf;obtain rfl:kV=.none:=Dflts.noKw hD;obtain ⟨a,vs,ns,rfl,rfl,hobj,hints,hlen⟩:=bc4 hn hpre hwl;refine enter_call (codeAny_mono (call w s₀ s₁ mg mb fa o pm cd doc a vs ns G Y ho (fd_plain hd) hcd hmg hobj hints hlen hg) λr s' hq=>?_);obtain ⟨rfl,h2,h3,h4⟩:=hq;exact ⟨.inl ⟨.bool true,.bool true,[],rfl,λ_=>rfl,.bool true,bc9 l _,λ_=>⟨List.Pairwise.nil,λ_ hm=>(nomatch hm)⟩⟩,h2,h3,h4⟩
end Att
namespace L2
open PySem PySem.Spec PyProof.Rows
theorem aG4:∀ {vs:List Value} {ns:List Int},IntsAre vs ns->A7 (ns.map V.int) vs
 | _,_,.nil=>.nil
 | _,_,.cons n t h=>.cons ⟨t,rfl⟩ (aG4 h)
def bz4 (H:Hp):Prop:=∀ b,H b=none \/ ∃ o xs,H b=some (.frz o (.lst xs))
theorem bk1 {P:Program} {w:World} {K:q0a} {mg mb:Str->Option Value} {CX:CXT} {k:Nat} {fa a:Addr} {fd:FuncData} {x:Str} {sp:Sp} {s₁:Shared} {vs:List Value} {ns:List Int}
  (KX:K.In s₁.heap) (hns:s₁.heap.Ns mainGlobals mg) (hb:s₁.heap.Ns builtinsNs mb) (hbb:∀ x:Str,x ≠ "__name__"->mb x=bootBuiltins x) (hlim:s₁.heap.NoLimit) (hg:s₁.gens = #[])
  (ha:s₁.heap.get? a=some { cls:=.type "list",data:=.seq vs.toArray }) (hi:IntsAre vs ns) (hl:ns.length<=sizeLine) (hr:ad7 k callerA)
  (F:∀ base:Heap,K.In base->base.Ns mainGlobals mg->an0 P w K mg base CX k fa fd [x] sp) (hbind:∀ (s:Shared) (u:Value),BindsTo s fd ⟨[u],[]⟩ [(x,u)])
  (hsp:∀ H:Hp,bz4 H->SqL K H a (ns.map V.int)->sp [.ref a] H (λv _=>v=.bl true) λ_ _ _=>False)
  (hCX:∀ H e s',CX [] H s₁ (λ_ _ _=>False) e s'->False) :
  codeAny (model P w) callerA (.call (.ref fa) ⟨[.ref a],[]⟩) (λr s'=>r=.ok (.ret (.bool true))/\OldK s₁.heap s'.heap/\s'.os=s₁.os/\AllBare s'.gens) s₁:=by
 have rv:=aG4 hi;have lenV:=hi.length
 -- from an abstract heap in which nothing but the script may be tracked
 have core:∀ H:Hp,bz4 H->SqL K H a (ns.map V.int)->HOk P w H s₁.heap->(∀ b,H b ≠ none->b=a)->(H a ≠ none->K.lookup a=none) ->
   codeAny (model P w) callerA (.call (.ref fa) ⟨[.ref a],[]⟩) (λr s'=>r=.ok (.ret (.bool true))/\OldK s₁.heap s'.heap/\s'.os=s₁.os/\AllBare s'.gens) s₁:=by
  intro H hO hS hok hA hK;have base_of:∀ {b:Addr} {o:Obj},s₁.heap.get? b=some o->H b=none->(aO9 s₁.heap H).get? b=some o:=λe n=>bk8 e n
  have noA:∀ {b:Addr} {o:Obj} {es:Array DictEntry} {ep:Nat},s₁.heap.get? b=some o->o.data=.dict es ep->H b=none:=fun {b o es ep} e d=>by
   cases q:H b with
   | none=>rfl
   | some u =>
    have e':b=a:=hA b (by rw [q];simp)
    subst e';rw [ha] at e;cases e;have d':Data.seq vs.toArray _=Data.dict es ep:=d
    cases d'
  have nsK:∀ {b:Addr} {m:Str->Option Value},s₁.heap.Ns b m->(aO9 s₁.heap H).Ns b m:=fun {b m} ⟨o,es,ep,e,d,r⟩=>⟨o,es,ep,base_of e (noA e d),d,r⟩
  have hKb:K.In (aO9 s₁.heap H):=λb o e=>base_of (KX b o e) (by
   cases q:H b with
   | none=>rfl
   | some u =>
    have e':b=a:=hA b (by rw [q];simp)
    subst e';rw [hK (by rw [q];simp)] at e;cases e)
  have hM:Mod K mg (aO9 s₁.heap H):=⟨hKb,nsK hns,⟨mb,nsK hb,hbb⟩,let ⟨mc,h1,h2⟩:=hlim;⟨mc,nsK h1,h2⟩⟩;have e0:bg0 P w K mg (aO9 s₁.heap H) callerA [] s₁ H:=⟨rfl,hM,λb o e=>bq1 e,Nat.le_of_eq (be3 _ _),trivial,λb hb=>absurd (show b ∈ ([]:List Addr) from hb) (by simp),hok,.of_eq hg⟩
  refine codeAny_mono ((F _ hKb (nsK hns)).run callerA [] s₁ H ⟨[.ref a],[]⟩ [.ref a] [.ref a] _ _ hr e0 (hbind s₁ (.ref a)) (.cons rfl .nil) (hsp H hO hS)) λr s' h=>?_
  cases r with
  | error e=>exact (hCX H e s' h).elim
  | ok fl =>
   cases fl with
   | next=>exact False.elim h
   | brk=>exact False.elim h
   | cont=>exact False.elim h
   | ret u =>
    obtain ⟨v,H',os,bare,un,hok',r',q⟩:=h;have q':v=.bl true:=q;subst q';obtain rfl:u=Value.bool true:=r';refine ⟨rfl,OldK.of_keep λb o e=>?_,os,bare⟩
    cases q:H b with
    | none=>exact un.keep b o e q (by intro z;exact absurd (show b ∈ ([]:List Addr) from z) (by simp)) (by simp)
    | some u =>
     rcases hO b with z | ⟨ob,xs,z⟩
     ·rw [q] at z;cases z
     ·have z2:=un.frzs b ob _ z
      obtain ⟨e1,_⟩:=hok b _ z;obtain ⟨e2,_⟩:=hok' b _ z2;rw [e] at e1;cases e1;exact e2
 cases hk:K.lookup a with
 | some o =>
  -- the script is one of the module's own objects
  have e:=KX a o hk;rw [ha] at e
  cases e
  refine core (λ_=>none) (λ_=>.inl rfl) (.inr ⟨_,vs.toArray,_,hk,rfl,rfl,rfl,by rw [q0r,lenV];exact hl,by simpa using rv⟩) (λb u z=>by have z':(none:Option HO)=some u:=z;cases z') (λb z=>absurd rfl z) λz=>absurd rfl z
 | none =>
  refine core (λb=>if b=a then some (.frz { cls:=.type "list",data:=.seq vs.toArray } (.lst (ns.map V.int))) else none) (λb=>?_) (.inl (.inr ⟨{ cls:=.type "list",data:=.seq vs.toArray },if_pos rfl⟩)) (λb u z=>?_) (λb z=>?_) λ_=>hk
  ·by_cases hb:b=a
   ·exact .inr ⟨_,_,if_pos hb⟩
   ·exact .inl (if_neg hb)
  ·by_cases hb:b=a
   ·have z':=(if_pos hb).symm.trans z
    cases z'
    subst hb;exact ⟨ha,by rw [q0e];exact hl,vs,_,rv,ha⟩
   ·have z':=(if_neg hb).symm.trans z
    cases z'
  ·by_cases hb:b=a
   ·exact hb
   ·exact absurd (if_neg hb) z
abbrev KOf {K:q0a} {h:Heap} (_:K.In h):q0a:=K
theorem aX9 {l:m0m} {n k:Nat} {q:Program} {loose:List Str} {XP:(Str->Option Value)->Heap->Prop} {YP:World->Heap->Prop} {d:DefRec} {K:Params->q0a} {CX:World->CXT} {sp:World->Sp} {x:Str}
  (hn:l.most=some n) (hn2:n<=sizeLine) (hdf:d.params.defaults=[]) (hr:ad7 k callerA)
  (hY:∀ (w:World) (h:Heap),YP w h->(K w.params).In h)
  (F:∀ (w:World) (mg:Str->Option Value) (fa:Addr) (h:Heap),(K w.params).In h->h.Ns mainGlobals mg->mg d.name=some (.ref fa) ->
   ∃ fd:FuncData,(∀ (s:Shared) (u:Value),BindsTo s fd ⟨[u],[]⟩ [(x,u)]) /\
    ∀ base:Heap,(K w.params).In base->base.Ns mainGlobals mg->an0 l.prog w (K w.params) mg base (CX w) k fa fd [x] (sp w))
  (hsp:∀ (w:World) (H:Hp) (a:Addr) (ns:List Int),ns.length<=n->bz4 H->SqL (K w.params) H a (ns.map V.int)->sp w [.ref a] H (λv _=>v=.bl true) λ_ _ _=>False)
  (hCX:∀ (w:World) (H:Hp) (s:Shared) (e:Value) (s':Shared),CX w [] H s (λ_ _ _=>False) e s'->False) :
  PySem.W.WalkO q loose XP YP l.row.toRowW d [] (λf vs=>PySem.call f vs):=by
 refine Att.attach_call hn hdf λw s₀ s₁ mg mb fa o pm cd doc a vs ns G Y ho hd hcd hmg hobj hints hlen hg=>?_;have KX:=hY w _ Y;obtain ⟨fd,hb,hF⟩:=F w mg fa _ KX G.T.g hmg;exact bk1 KX G.T.g G.T.b G.T.builtins G.T.nolimit hg hobj hints (q0s hlen hn2) hr hF hb (λH hO hS=>hsp w H a ns hlen hO hS) λH e s'=>hCX w H s₁ e s'
end L2
namespace L2
open PySem PySem.Spec PyProof.Rows
def ao2 (s:Stmt):Arguments:=match s with
 | .FunctionDef _ a _ _ _ _ _ _ _ _=>a
 | _=>{ posonlyargs:=[],args:=[],vararg:=none,kwonlyargs:=[],kw_defaults:=[],kwarg:=none,defaults:=[] }
def X0 (s:Stmt):List Stmt:=match s with
 | .FunctionDef _ _ b _ _ _ _ _ _ _=>b
 | _=>[]
def c8 (s:Stmt):Scope:=match s with
 | .FunctionDef _ _ _ _ _ _ sc _ _ _=>sc
 | _=>{ kind:=.function,names:=[],isGenerator:=false,isCoroutine:=false }
abbrev CX0:CXT:=λ_ _ _ _ _ _=>False
abbrev E0:XK:=λ_ _ _=>False
theorem i4 {X:Cx}:ax2 CX0 X E0:=λ_ _ _ _ _ _ _ h=>h.elim
structure Fun (K:q0a) (x qual:Str) (st:Stmt) (f:Addr) (fd:FuncData):Prop where
 ex:∃ (oc:Value) (od:Option Addr) (kV doc pm:Value) (an:Option Addr) (cdv ct:Value) (osl:Array (Option Value)),
  fd=v0p x qual (ao2 st) (X0 st) (c8 st) .none kV doc pm an cdv ct/\K.lookup f=some ⟨oc,od,.func fd,osl⟩/\m0v K cdv qual=true
 kp:y0m K (.ref f)=true
section
variable {P:Program} {w:World} {K:q0a} {mg:Str->Option Value} {base:Heap}
theorem Fun.ok {x qual:Str} {st:Stmt} {f:Addr} {fd:FuncData} {N ps:List Str} {k:Nat} {sp:Sp} (F:Fun K x qual st f fd) (S:j4 N ps (c8 st)) (len:∀ vs H Q E,sp vs H Q E->vs.length=ps.length)
  (hbody:∀ (cdv:Value) (A:Around) (outer:List Env) (s:Shared) (H:Hp) (vs:List V) (Q:VK) (E:XK),ad7 k (A.deeper (envOfC qual (c8 st) s.heap.objs.size f cdv))->sp vs H Q E ->
   ∃ t,PSs (az5 CX0 P w K mg base N qual (c8 st) f cdv A outer s H E).nox (X0 st) t/\t { nx:=λ_ H'=>Q .non H',rt:=Q } (start N vs) H):an0 P w K mg base CX0 (k+1) f fd ps sp:=by
 obtain ⟨oc,od,kV,doc,pm,an,cdv,ct,osl,rfl,lk,hcd⟩:=F.ex;refine bu0 lk hcd S len λA outer s H vs Q E hr hsp=>?_;obtain ⟨t,h,q⟩:=hbody cdv A outer s H vs Q E hr hsp;exact ⟨t,h.nox,q⟩
theorem Fun.binds {x qual:Str} {st:Stmt} {f:Addr} {fd:FuncData} {ps:List Str} (F:Fun K x qual st f fd)
  (h:∀ (kV doc pm:Value) (an:Option Addr) (cdv ct:Value) (us:List Value),us.length=ps.length->bindArgs (v0p x qual (ao2 st) (X0 st) (c8 st) .none kV doc pm an cdv ct) ⟨us,[]⟩=pure (ps.zip us)):an1 K fd ps []:=by
 obtain ⟨oc,od,kV,doc,pm,an,cdv,ct,osl,rfl,lk,hcd⟩:=F.ex;exact .all (h kV doc pm an cdv ct)
theorem bx9 {x qual:Str} {st:Stmt} {f:Addr} {oc:Value} {od an:Option Addr} {osl:Array (Option Value)} {kV doc pm cdv ct:Value} (l:K.lookup f=some ⟨oc,od,.func (v0p x qual (ao2 st) (X0 st) (c8 st) .none kV doc pm an cdv ct),osl⟩)
  (c:m0v K cdv qual=true) (k:y0m K (.ref f)=true):Fun K x qual st f (v0p x qual (ao2 st) (X0 st) (c8 st) .none kV doc pm an cdv ct):=⟨⟨oc,od,kV,doc,pm,an,cdv,ct,osl,rfl,l,c⟩,k⟩
end
section
variable {X:Cx}
theorem pv (i : Nat) {x : Str} {pos : Pos} (hN : X.N[i]? = some x := by rfl) (hv : Vis X.env.scope x := by first | exact Or.inl rfl | exact Or.inr (Or.inl rfl) | exact Or.inr (Or.inr rfl)) (hd : (x == ("__debug__" : Str)) = false := by decide)
    (hcd:(x == ("__classdict__" : Str))=false:=by decide):PE X (.Name x pos) (O1 i):=bw1 hN hv hd hcd
end
theorem bC2 {A B:Prop} (h:A):if true=true then A else B:=by
 rw [if_pos rfl];exact h
theorem F2 {c A B:Prop} [Decidable c] (h1:c->A) (h2:¬ c->B):if c then A else B:=by
 by_cases h:c
 ·rw [if_pos h]
  exact h1 h
 ·rw [if_neg h]
  exact h2 h
def c9 (H H':Hp):Prop:=∀ b o,H b=some o->H' b=some o
theorem c9.refl (H:Hp):c9 H H:=λ_ _ h=>h
theorem c9.trans {H H1 H2:Hp} (a:c9 H H1) (b:c9 H1 H2):c9 H H2:=λc o h=>b c o (a c o h)
theorem c9.free {H H':Hp} (e:c9 H H') {l:Addr} (h:H' l=Option.none):H l=Option.none:=by
 cases q:H l with
 | none=>rfl
 | some o =>
  rw [e l o q] at h
  cases h
theorem c9.seq {K:q0a} {H H':Hp} {a:Addr} {xs:List V} (e:c9 H H') (h:SqL K H a xs):SqL K H' a xs:=by
 rcases h with (h | ⟨o,h⟩) | h
 ·exact .inl (.inl (e _ _ h))
 ·exact .inl (.inr ⟨o,e _ _ h⟩)
 ·exact .inr h
section
variable {P:Program} {w:World} {H:Hp} {h:Heap} {a:Addr} {o:HO}
theorem O8.there (x:O8 P w H h a o):∃ ob,h.get? a=some ob:=by
 cases o with
 | lst xs=>obtain ⟨_,_,_,_,e⟩:=x;exact ⟨_,e⟩
 | tup xs=>obtain ⟨_,_,_,ob,e,_⟩:=x;exact ⟨_,e⟩
 | dK kvs=>obtain ⟨_,_,_,_,o,_,_,e,_⟩:=x;exact ⟨_,e⟩
 | dT kvs=>obtain ⟨_,_,_,_,o,_,_,e,_⟩:=x;exact ⟨_,e⟩
 | set S n=>obtain ⟨o,_,_,_,e,_⟩:=x;exact ⟨_,e⟩
 | ins C dx fs=>obtain ⟨_,_,_,e,_⟩:=x;exact ⟨_,e⟩
 | own y=>obtain ⟨_,e⟩:=x;exact ⟨_,e⟩
 | xd fs=>obtain ⟨_,⟨_,_,_,e,_⟩,_⟩:=x;exact ⟨_,e⟩
 | rng lo hi=>obtain ⟨_,_,_,e⟩:=x;exact ⟨_,e⟩
 | frz ob u=>obtain ⟨e,_⟩:=x;exact ⟨_,e⟩
 | tbl ps=>exact ⟨_,(show h.get? a=some _ from x)⟩
 | met f y=>exact ⟨_,(show h.get? a=some _ from x)⟩
 | ext φ=>obtain ⟨_,e,_⟩:=x;exact e
end
def CXR (P:Program) (w:World):CXT:=λouter H s E e s' => ∃ (a:Addr) (cls a0:Value) (H':Hp) (B:Heap),e=.ref a/\s'.os=s.os/\AllBare s'.gens /\
 q1h B outer a cls a0 s'.heap/\(∀ b o,s.heap.get? b=some o->H b=none->b ∉ frs outer->B.get? b=some o)/\(∀ b o,s.heap.get? b=some o->b ∉ frs outer->∃ o',B.get? b=some o') /\
 HOk P w H' B/\Un (frs outer) [] H H' s.heap s'.heap/\H' a=none/\E cls none H'
def bn0 (X:Cx) (R:Value->Hp->Prop):Prop:=∀ (pins:List (Addr × Obj)) (σ:St) (H:Hp) (s:Shared) (h':Heap) (e:Addr) (cls:Value) (vs:List Value),Inv X pins σ H s->Heap.MadeExcOf s.heap h' e cls vs->R cls H ->
 X.xe (.ref e) { s with heap:=h' }
section
variable {CX:CXT} {P:Program} {w:World} {K:q0a} {mg:Str->Option Value} {base:Heap} {N:List Str} {qual:Str} {scope:Scope} {f:Addr} {cd:Value} {A:Around} {outer:List Env} {s₀:Shared} {H₀:Hp} {E:XK}
abbrev cxR (P:Program) (w:World) (K:q0a) (mg:Str->Option Value) (base:Heap) (N:List Str) (qual:Str) (scope:Scope) (f:Addr) (cd:Value) (A:Around) (outer:List Env) (s₀:Shared) (H₀:Hp) (E:XK):Cx:=az5 (CXR P w) P w K mg base N qual scope f cd A outer s₀ H₀ E
theorem bx8 {X:Cx} {pins:List (Addr × Obj)} {σ:St} {H:Hp} {s:Shared} (I:Inv X pins σ H s):HOk X.prog X.w H (m0k s.heap (frs X.stack)):=λb u e=>by
 refine (I.hok b u e).stay (λc v hc q=>v0t _ q λhm=>?_) (λ_ q=>q) λ_ _ q=>q;have z:=I.stkFree c hm;rcases hc with rfl | hc
 ·rw [z] at e;cases e
 ·rw [z] at hc;cases hc
theorem aH1:bn0 (cxR P w K mg base N qual scope f cd A outer s₀ H₀ E) (λcls H'=>E cls none H'):=by
 intro pins σ H s h' e cls vs I hx hE;have frS:=I.stack;have hin:∀ env ∈ (cxR P w K mg base N qual scope f cd A outer s₀ H₀ E).stack,∀ b,env.frame=some b->b ∈ frs (cxR P w K mg base N qual scope f cd A outer s₀ H₀ E).stack:=λenv he b hb=>g0u.mpr ⟨env,he,hb⟩
 have lo:∀ b o,s₀.heap.get? b=some o->b ∉ frs outer->b ∉ frs (cxR P w K mg base N qual scope f cd A outer s₀ H₀ E).stack:=λb o q hb hm=>by
  rcases z0m.mp (I.stkSub b hm) with z | z
  ·exact absurd z (q0q (q0b (q0f q) I.ok.above))
  ·exact hb z
 refine wpAny_leaves_madeW (base:=m0k s.heap (frs (cxR P w K mg base N qual scope f cd A outer s₀ H₀ E).stack)) I.ok.frames rfl (λb o q=>PySem.W.of_hideAll _ q) (PySem.W.funFrames_hide frS hin) hx λh2 t x1 x2 x3 x4=>?_;have hk:∀ b o,s.heap.get? b=some o->b ∉ frs (cxR P w K mg base N qual scope f cd A outer s₀ H₀ E).stack->h2.get? b=some o:=λb o q hb=>x1.1 b o (v0t _ q hb)
 have hfr:∀ b o,s.heap.get? b=some o->b ∈ frs (cxR P w K mg base N qual scope f cd A outer s₀ H₀ E).stack->∃ sl,h2.get? b=some { o with slots:=sl }:=λb o q hb=>by
  obtain ⟨_,ob,hob,hnf⟩:=frS.mem hb;rw [q] at hob;cases hob;exact x4 b o (hx.keeps b o q) hnf
 have hany:∀ b o,s.heap.get? b=some o->∃ o',h2.get? b=some o':=λb o q=>by
  by_cases hb:b ∈ frs (cxR P w K mg base N qual scope f cd A outer s₀ H₀ E).stack
  ·obtain ⟨sl,z⟩:=hfr b o q hb;exact ⟨_,z⟩
  ·exact ⟨_,hk b o q hb⟩
 have nx:∀ b:Addr,b ∉ (cxR P w K mg base N qual scope f cd A outer s₀ H₀ E).ex:=λb z=>absurd (show b ∈ ([]:List Addr) from z) (by simp)
 refine ⟨e,cls,.ref t,H,_,rfl,I.os,I.bare,x1,λb o q n hb=>v0t _ (I.base.keep b o q n hb (nx b)) (lo b o q hb),λb o q hb=>?_,bx8 I,⟨λb o q n hb _=>?_,λb o q n hb _=>?_,λb o q n _=>I.base.free b o q n (nx b),λb o q _=>?_,I.base.tups,I.base.frzs,I.base.tbls⟩,?_,hE⟩
 ·obtain ⟨o',z⟩:=I.base.there b o q (nx b)
  exact ⟨o',v0t _ z (lo b o q hb)⟩
 ·exact hk b o (I.base.keep b o q n hb (nx b)) (lo b o q hb)
 ·obtain ⟨sl,z⟩:=I.base.slot b o q n hb (nx b)
  have hm:b ∈ frs (cxR P w K mg base N qual scope f cd A outer s₀ H₀ E).stack:=by
   show b ∈ frs (_ :: outer);unfold frs at hb ⊢;rw [y0f];exact q0u _ hb
  obtain ⟨sl',z'⟩:=hfr b _ z hm;exact ⟨sl',z'⟩
 ·obtain ⟨o',z⟩:=I.base.there b o q (nx b)
  exact hany b o' z
 ·cases q:H e with
  | none=>rfl
  | some u =>
   obtain ⟨ob,z⟩:=(I.hok e u q).there;rw [hx.new] at z;cases z
theorem L8 {E2:XK} (h:∀ cls H',E2 cls none H'->E cls none H'):ax2 (CXR P w) (cxR P w K mg base N qual scope f cd A outer s₀ H₀ E) E2:=by
 intro pins σ H s e s' I hcx;obtain ⟨a,cls,a0,H',B,rfl,os,bare,fl,hB,hth,hok,un,hn,hE⟩:=hcx
 have lo:∀ b o,s₀.heap.get? b=some o->b ∉ frs outer->b ∉ frs (cxR P w K mg base N qual scope f cd A outer s₀ H₀ E).stack:=λb o q hb hm=>by
  rcases z0m.mp (I.stkSub b hm) with z | z
  ·exact absurd z (q0q (q0b (q0f q) I.ok.above))
  ·exact hb z
 have nx:∀ b:Addr,b ∉ (cxR P w K mg base N qual scope f cd A outer s₀ H₀ E).ex:=λb z=>absurd (show b ∈ ([]:List Addr) from z) (by simp)
 refine wpAny_leaves_onW I.ok.frames rfl fl λh2 x1 x2=>?_
 have fro:∀ b ∈ frs outer,b ∈ frs (cxR P w K mg base N qual scope f cd A outer s₀ H₀ E).stack:=λb hb=>by
  show b ∈ frs (_ :: outer);unfold frs at hb ⊢;rw [y0f];exact q0u _ hb
 have hfr:∀ b o,s'.heap.get? b=some o->b ∈ frs (cxR P w K mg base N qual scope f cd A outer s₀ H₀ E).stack->∃ sl,h2.get? b=some { o with slots:=sl }:=λb o q hb=>by
  obtain ⟨_,ob,hob,hnf⟩:=fl.2.2.1.mem hb;rw [q] at hob;cases hob;exact x2 b o q hnf
 refine ⟨a,cls,a0,H',B,rfl,os.trans I.os,bare,x1,λb o q n hb=>hB b o (I.base.keep b o q n hb (nx b)) (I.base.free b o q n (nx b)) (lo b o q hb),λb o q hb=>?_,hok,⟨λb o q n hb _=>?_,λb o q n hb _=>?_,λb o q n _=>?_,λb o q _=>?_,λb xs q=>un.tups b xs (I.base.tups b xs q),λb ob xs q=>un.frzs b ob xs (I.base.frzs b ob xs q),λb ps q=>?_⟩,hn,h _ _ hE⟩
 ·obtain ⟨o',z⟩:=I.base.there b o q (nx b)
  exact hth b o' z (lo b o q hb)
 ·exact x1.1 b o (hB b o (I.base.keep b o q n hb (nx b)) (I.base.free b o q n (nx b)) (lo b o q hb))
 ·obtain ⟨sl,z⟩:=I.base.slot b o q n hb (nx b)
  obtain ⟨sl',z'⟩:=un.slot b _ z (I.base.free b o q n (nx b)) (fro b hb) (by simp)
  obtain ⟨sl2,z2⟩:=hfr b _ z' (fro b hb);exact ⟨sl2,z2⟩
 ·obtain ⟨o',z⟩:=I.base.there b o q (nx b)
  exact un.free b o' z (I.base.free b o q n (nx b)) (by simp)
 ·obtain ⟨o',z⟩:=I.base.there b o q (nx b)
  by_cases hb:b ∈ frs (cxR P w K mg base N qual scope f cd A outer s₀ H₀ E).stack
  ·obtain ⟨o2,z2⟩:=un.there b o' z (by simp)
   obtain ⟨sl,z3⟩:=hfr b o2 z2 hb;exact ⟨_,z3⟩
  ·obtain ⟨o2,z2⟩:=hth b o' z hb
   exact ⟨o2,x1.1 b o2 z2⟩
 ·obtain ⟨m1,z1⟩:=I.base.tbls b ps q
  obtain ⟨m2,z2⟩:=un.tbls b _ z1;exact ⟨m1 ++ m2,by rw [z2,Array.append_assoc]⟩
end
structure bs9 (K:q0a) (C:Addr) (bm:List Value) (newId:String):Prop where
 ok:m0z K C bm newId=true
theorem bs9.obj {K:q0a} {C:Addr} {bm:List Value} {newId:String} (O:bs9 K C bm newId) {h:Heap} (X:K.In h) :
  ∃ tl N nm q bs hdct sn sub ab col dd k0 k1 k2 k3 k5 mN,h.get? C=some (excClassObj nm q C N bs tl hdct sn sub ab col dd k0 k1 k2 k3 k5 newId)/\h.Ns N mN/\mN "__init__" = none/\OwnTail h bm tl:=by
 have q:=O.ok;unfold m0z at q
 split at q
 ·rename_i dd cd sl ho
  split at q
  ·rename_i C' bm' k0 k1 k2 k3 n k5 hm hs
   simp only [j0u,beq_iff_eq,v0x] at q;obtain ⟨⟨⟨⟨⟨rfl,rfl⟩,hdel⟩,ht⟩,hok⟩,hni⟩:=q;obtain ⟨nm,bs,mro,ns,qn,hd,sn,sub,ab,col,del⟩:=cd
   dsimp only at hm hdel hok hni
   subst hm hdel
   have hsl:sl = #[k0,k1,k2,k3,some (.builtin n),k5]:=by
    obtain ⟨l⟩:=sl;simp only at hs;rw [hs]
   subst hsl;exact ⟨bm',ns,nm,qn,bs,hd,sn,sub,ab,col,dd,k0,k1,k2,k3,k5,_,X _ _ ho,.of_isNs (PySem.W.isNs_of_in X hok),PySem.W.nsMap_none_of_in X hok hni,PySem.W.tail_of_in X ht⟩
  ·cases q
 ·cases q
section
variable {X:Cx} {x:Str} {C:Addr} {bm:List Value} {newId B initId:String} {e:Expr} {es:List Expr} {te:TA} {np cpos pos:Pos} {R:Value->Hp->Prop}
def aU1 (C:Addr) (te:TA) (R:Value->Hp->Prop):TS:=λ_ σ H=>te σ H λvs H1=>vs.length<=sizeLine/\R (.ref C) H1
theorem aR2 (O:bs9 X.K C bm newId) (FB:ExcBaseFacts B newId initId bm) (hc:X.calm=true) (hg:Gl X x) (hm:X.mg x=some (.ref C)) (hr:bn0 X R) (he:PA X (e :: es) te)
  (hst:starEach (e :: es) X.env=(false,eval e X.env) :: starEach es X.env:=by rfl) (hplain:(backTo cpos (starEach es X.env)).any (·.1)=false:=by rfl) (hd:(x == ("__debug__" : Str))=false:=by decide) :
  PS X (.Raise (some (.Call (.Name x np) (e :: es) [] cpos)) none pos) (aU1 C te R):=by
 intro pins s σ H D I h;obtain ⟨tl,N,nm,q,bs,hdct,sn,sub,ab,col,dd,k0,k1,k2,k3,k5,mN,hC,hN,hni,T⟩:=O.obj I.ok.mod.kin
 refine wpAny_Raise_call_subT (C:=C) (nm:=nm) (q:=q) (N:=N) (bs:=bs) (bm:=tl) (hdct:=hdct) (sn:=sn) (sub:=sub) (ab:=ab) (col:=col) (dd:=dd) (k0:=k0) (k1:=k1) (k2:=k2) (k3:=k3) (k5:=k5)
  FB (mN:=mN) (T.hasType FB.hasBase) (I.ok.hd hc) (by rw [hst];show (false || (backTo cpos (starEach es X.env)).any (·.1))=false;rw [hplain];rfl) hni (au0 I hg hm ⟨rfl,?_⟩ hd)
 have hA:=he cpos pins s σ H _ I h;rw [hst] at hA ⊢;refine Calls.evalArgs_plain (thn hA λus s2 ⟨vs,H1,I1,r1,hl,q1⟩=>⟨rfl,?_,I1.bk _ _ hC,hN.keeps I1.bk,T.keeps I1.bk,λh' a hx=>hr pins σ H1 s2 h' a _ us I1 hx q1⟩)
 show us.length<=sizeLine;rw [<- r1.length];exact hl
end
section
variable {X:Cx} {pins:List (Addr × Obj)} {σ:St} {H H':Hp} {s s':Shared}
theorem Inv.reA {A2:Around} {c2:Bool} {E2:Value->Shared->Prop} (I:Inv X pins σ H s) (hf:A2.frames=X.A.frames) (hc:c2=true->A2.handled=none):Inv { X with A:=A2,calm:=c2,xe:=E2 } pins σ H s :=
 ⟨⟨I.ok.mod,I.ok.kind,I.ok.glob,I.ok.blt,I.ok.above,I.ok.inj,I.ok.has,I.ok.cab,hc,hf.trans I.ok.frames,I.ok.stk,I.ok.exf,I.ok.bs,I.ok.bsz,I.ok.noex,I.ok.exfs,I.ok.funs,I.ok.frf⟩,
  I.os,I.bare,I.base,I.loc,I.cell,I.free,I.freeC,I.pin,I.hok,I.len⟩
theorem Inv.unA {A2:Around} {c2:Bool} {E2:Value->Shared->Prop} (I:Inv { X with A:=A2,calm:=c2,xe:=E2 } pins σ H s) (ok:X.Ok):Inv X pins σ H s :=
 ⟨ok,I.os,I.bare,I.base,I.loc,I.cell,I.free,I.freeC,I.pin,I.hok,I.len⟩
theorem Inv.bear {E2:Value->Shared->Prop} (I:Inv X pins σ H s):Inv { X with xe:=E2,pn:=X.pn ++ pins } [] σ H s :=
 ⟨⟨I.ok.mod,I.ok.kind,I.ok.glob,I.ok.blt,I.ok.above,I.ok.inj,I.ok.has,I.ok.cab,I.ok.hd,I.ok.frames,I.ok.stk,I.ok.exf,I.ok.bs,I.ok.bsz,I.ok.noex,I.ok.exfs,I.ok.funs,I.ok.frf⟩,
  I.os,I.bare,I.base,I.loc,I.cell,I.free,I.freeC,λp hp=>I.pin p (by simpa using hp),I.hok,I.len⟩
theorem Inv.unbear {E2:Value->Shared->Prop} {pins':List (Addr × Obj)} (I:Inv { X with xe:=E2,pn:=X.pn ++ pins } pins' σ H s):Inv X pins σ H s :=
 ⟨⟨I.ok.mod,I.ok.kind,I.ok.glob,I.ok.blt,I.ok.above,I.ok.inj,I.ok.has,I.ok.cab,I.ok.hd,I.ok.frames,I.ok.stk,I.ok.exf,I.ok.bs,I.ok.bsz,I.ok.noex,I.ok.exfs,I.ok.funs,I.ok.frf⟩,
  I.os,I.bare,I.base,I.loc,I.cell,I.free,I.freeC,λp hp=>I.pin p (g0d _ hp),I.hok,I.len⟩
def ax9 (X:Cx):St:=z0a X.N.length none
theorem Inv.forget (I:Inv X pins σ H s):Inv X pins (ax9 X) H s :=
 I.weak (by unfold ax9;rw [y0n];exact I.len.symm) λi v e=>by
  unfold ax9 at e;rw [y0u] at e
  split at e <;> cases e
theorem Inv.relocal {h':Heap} {m':Str->Option Value} {t':Nat} (I:Inv X pins σ H s) (hn':h'.Ns X.env.locals m') (hs:v0c X.env.locals s.heap h'):Inv X pins (ax9 X) H { s with heap:=h',toks:=t' }:=by
 have cne:=I.cne;refine ⟨I.ok,I.os,I.bare,⟨λb o e n hb hx=>?_,λb o e n hb hx=>?_,I.base.free,λb o e hx=>?_,I.base.tups,I.base.frzs,I.base.tbls⟩,⟨_,hn',λj y v' e1 e2 e3=>?_⟩,λy c e=>?_,I.free,I.freeC,λp hp=>?_,λb ob e=>?_,?_⟩
 ·exact (hs.2 b (q0q (q0b (q0f e) I.ok.above))).trans (I.base.keep b o e n hb hx)
 ·obtain ⟨sl,e1⟩:=I.base.slot b o e n hb hx
  exact ⟨sl,(hs.2 b (q0q (q0b (q0f e) I.ok.above))).trans e1⟩
 ·obtain ⟨o',e1⟩:=I.base.there b o e hx
  exact ⟨o',(hs.2 b (q0q (q0b (q0f e) I.ok.above))).trans e1⟩
 ·unfold ax9 at e2
  rw [y0u] at e2
  split at e2 <;> cases e2
 ·obtain ⟨w',z⟩:=I.cell y c e
  exact ⟨w',z.sameBut hs (cne y c e)⟩
 ·obtain ⟨e,n,ne,nf,d⟩:=I.pin p hp
  exact ⟨(hs.2 p.1 ne).trans e,n,ne,nf,d⟩
 ·refine (I.hok b ob e).stay (λc w' hc q=>(hs.2 c ?_).trans q) (λ_ q=>q) λ_ _ q=>q
  rintro rfl;rcases hc with rfl | hc
  ·rw [I.free] at e;cases e
  ·rw [I.free] at hc;cases hc
 ·show (z0a X.N.length none).length=_
  exact y0n
def Exc (cls:Value) (a:Addr):HO:=.ext λh => ∃ o vs,h.get? a=some o/\o.cls=cls/\o.data=.fields vs
end
theorem Exc.ok {P:Program} {w:World} {H:Hp} {h:Heap} {cls:Value} {a:Addr} {o:Obj} {vs:Array Value} (h1:h.get? a=some o) (h2:o.cls=cls) (h3:o.data=.fields vs):O8 P w H h a (Exc cls a) :=
 ⟨⟨o,vs,h1,h2,h3⟩,⟨o,h1⟩,λ_ _ ⟨o,vs,q1,q2,q3⟩ k=>⟨o,vs,k o q1,q2,q3⟩⟩
theorem Inv.track {X:Cx} {pins:List (Addr × Obj)} {σ:St} {H:Hp} {s:Shared} {o:HO} {a:Addr} (I:Inv X pins σ H s) (hn:H a=none) (new:O8 X.prog X.w (upd H a o) s.heap a o)
  (h1:∀ b ob,X.s₀.heap.get? b=some ob->X.H₀ b=none->b ∉ X.ex->b ≠ a) (h2:X.env.locals ≠ a) (h3:∀ x c,X.env.cells.lookup x=some c->c ≠ a) (h4:∀ p ∈ X.pn ++ pins,p.1 ≠ a):Inv X pins σ (upd H a o) s :=
 ⟨I.ok,I.os,I.bare,⟨I.base.keep,I.base.slot,λb ob q n hx=>by rw [i8 (h1 b ob q n hx)];exact I.base.free b ob q n hx,I.base.there,λb xs q=>by rw [i8 (j3 (I.base.tups b xs q) hn)];exact I.base.tups b xs q,
   λb ob u q=>by rw [i8 (j3 (I.base.frzs b ob u q) hn)];exact I.base.frzs b ob u q,λb ps q=>by obtain ⟨m,z⟩:=I.base.tbls b ps q;exact ⟨m,by rw [i8 (j3 z hn)];exact z⟩⟩,
  I.loc,I.cell,by rw [i8 h2];exact I.free,λx c q=>by rw [i8 (h3 x c q)];exact I.freeC x c q,λp hp=>let ⟨e1,e2,e3⟩:=I.pin p hp;⟨e1,by rw [i8 (h4 p hp)];exact e2,e3⟩,
  λb u e=>by
   by_cases hb:b=a
   ·subst hb;rw [c6] at e;cases e;exact new
   ·rw [i8 hb] at e
    exact (I.hok b u e).stay (λ_ _ _ q=>q) (λc q=>by rw [i8 (j3 q hn)];exact q) λc xs q=>by rw [i8 (j3 q hn)];exact q,
  I.len⟩
theorem Inv.caught {X:Cx} {pins:List (Addr × Obj)} {σ:St} {H:Hp} {s s':Shared} {a:Addr} {cls a0:Value} {H':Hp} {B h6:Heap} (I:Inv X pins σ H s) (os:s'.os=s.os) (bare:AllBare s'.gens) (fl:q1h B X.stack a cls a0 s'.heap)
  (hB:∀ b o,s.heap.get? b=some o->H b=none->b ∉ frs X.stack->B.get? b=some o) (hth:∀ b o,s.heap.get? b=some o->b ∉ frs X.stack->∃ o',B.get? b=some o') (hok:HOk X.prog X.w H' B)
  (un:Un (frs X.stack) [] H H' s.heap s'.heap) (st:B.StaysIn h6) (up:s'.heap.UpToSlots h6):Inv X pins σ H' { s' with heap:=h6 }:=by
 have hfr:∀ b o,s'.heap.get? b=some o->b ∈ frs X.stack->∃ sl,h6.get? b=some { o with slots:=sl }:=λb o q hb=>by
  obtain ⟨_,ob,hob,hnf⟩:=fl.2.2.1.mem hb;rw [q] at hob;cases hob;exact up b o q hnf
 refine I.call' (s':={ s' with heap:=h6 }) (ch:=[]) os ⟨λb o q n hb _=>st b o (hB b o q n hb),λb o q n hb _=>?_,un.free,λb o q _=>?_,un.tups,un.frzs,un.tbls⟩ (hok.kept λb u q=>st b u q) bare (λb z=>absurd z (by simp))
 ·obtain ⟨sl,z⟩:=un.slot b o q n hb (by simp)
  obtain ⟨sl2,z2⟩:=hfr b _ z hb;exact ⟨sl2,z2⟩
 ·by_cases hb:b ∈ frs X.stack
  ·obtain ⟨o2,z2⟩:=un.there b o q (by simp)
   obtain ⟨sl,z3⟩:=hfr b o2 z2 hb;exact ⟨_,z3⟩
  ·obtain ⟨o2,z2⟩:=hth b o q hb
   exact ⟨o2,st b o2 z2⟩
abbrev Cx.body (X:Cx) (xe:Value->Shared->Prop) (pn:List (Addr × Obj)):Cx:={ X with xe:=xe,pn:=pn }
abbrev Cx.suite (X:Cx) (a:Addr):Cx:={ X with A:=X.A.mark (some (.ref a)),calm:=false,xe:=λ_ _=>False }
structure Y2 (k:Nat) (A:Around):Prop where
 dp:A.depth+3*k+5<recursionLimit
 un:A.units+16*k+200<cLine
theorem ad7.toX {k:Nat} {A:Around} (r:ad7 k A):Y2 k A:=⟨r.dp,r.un⟩
theorem Y2.mono {j k:Nat} {A:Around} (r:Y2 k A) (h:j<=k):Y2 j A:=⟨by have:=r.dp;omega,by have:=r.un;omega⟩
theorem Y2.deeper {k:Nat} {A:Around} (r:Y2 (k+1) A) (env:Env):Y2 k (A.deeper env) :=
 ⟨by have:=r.dp;show A.depth+1+3*k+5<_;omega,by have:=r.un;show A.units+3+16*k+200<_;omega⟩
theorem Y2.mark {k:Nat} {A:Around} (r:Y2 k A) (v:Option Value):Y2 k (A.mark v):=⟨r.dp,r.un⟩
theorem Y2.depth {k:Nat} {A:Around} (r:Y2 k A):A.depth<recursionLimit:=by have:=r.dp;omega
structure bb3 (P:Program) (w:World) (K:q0a) (mg:Str->Option Value) (base:Heap) (k:Nat) (f:Addr) (fd:FuncData) (ps:List Str) (sp:Sp):Prop where
 len:∀ vs H Q E,sp vs H Q E->vs.length=ps.length
 run:∀ (A:Around) (outer:List Env) (s:Shared) (H:Hp) (args:Args) (us:List Value) (vs:List V) (Q:VK) (E:XK),Y2 k A->bg0 P w K mg base A outer s H->BindsTo s fd args (ps.zip us)->A7 vs us->sp vs H Q E ->
  codeAny (model P w) A (.call (.ref f) args) (CR CX0 outer P w H s Q E) s
abbrev cxX (P:Program) (w:World) (K:q0a) (mg:Str->Option Value) (base:Heap) (N:List Str) (qual:Str) (scope:Scope) (f:Addr) (cd:Value) (A:Around) (outer:List Env) (s₀:Shared) (H₀:Hp) (E:XK):Cx :=
 { az5 CX0 P w K mg base N qual scope f cd A outer s₀ H₀ E with calm:=false,xe:=λ_ _=>False }
theorem Fun.okX {P:Program} {w:World} {K:q0a} {mg:Str->Option Value} {base:Heap} {x qual:Str} {st:Stmt} {f:Addr} {fd:FuncData} {N ps:List Str} {k:Nat} {sp:Sp} (F:Fun K x qual st f fd) (S:j4 N ps (c8 st)) (len:∀ vs H Q E,sp vs H Q E->vs.length=ps.length)
  (hbody:∀ (cdv:Value) (A:Around) (outer:List Env) (s:Shared) (H:Hp) (vs:List V) (Q:VK) (E:XK),Y2 k (A.deeper (envOfC qual (c8 st) s.heap.objs.size f cdv))->sp vs H Q E ->
   ∃ t,PSs (cxX P w K mg base N qual (c8 st) f cdv A outer s H E) (X0 st) t/\t { nx:=λ_ H'=>Q .non H',rt:=Q } (start N vs) H):bb3 P w K mg base (k+1) f fd ps sp:=by
 obtain ⟨oc,od,kV,doc,pm,an,cdv,ct,osl,rfl,lk,hcd⟩:=F.ex;refine ⟨len,λA outer s H args us vs Q E hr e0 hb r hsp=>?_⟩;have hl:=len _ _ _ _ hsp;have KX:K.In s.heap:=e0.mod.kin.keeps λb o e=>(e0.bs b o e).1;have lim:s.heap.NoLimit:=e0.mod.nolimit.keeps λb o e=>(e0.bs b o e).1
 have hkind:∀ y ∈ ps.zip us,(c8 st).names.lookup y.1=some .local \/ ((c8 st).names.lookup y.1=some .cell/\((cellsFrom (s.heap.objs.size+1) (c8 st).names []).lookup y.1).isSome=true):=λ⟨n,v⟩ hy=>by
  rcases S.par n (g0h hy).1 with q | q
  ·exact .inl q
  ·exact .inr ⟨q,u0v _ _ _ (.inl q)⟩
 refine codeAny_call_function hr.depth (KX _ _ lk) rfl S.co S.gen rfl (PySem.W.codeRec_of KX hcd) (hb _ _ _ _ ?_);refine wpAny_newFunctionEnv_cells S.kind hkind λenv he s1 x=>?_;subst he;refine ⟨lim.keeps x.toInCall.keep,codeAny_func ?_⟩;obtain ⟨t,ht,hq⟩:=hbody cdv A outer s H vs Q E (hr.deeper _) hsp;have e0':bg0 P w K mg base { A with handled:=none } outer s H:=⟨e0.frames,e0.mod,e0.bs,e0.bsz,e0.funs,e0.frf,e0.hok,e0.bare⟩;have I0:Inv (az5 CX0 P w K mg base N qual (c8 st) f cdv { A with handled:=none } outer s H E) [] (start N vs) H s1:=aH6 S rfl e0' hl r x;have I:Inv (cxX P w K mg base N qual (c8 st) f cdv A outer s H E) [] (start N vs) H s1:=I0.reA (A2:=A.deeper (envOfC qual (c8 st) s.heap.objs.size f cdv)) (by rfl) (λz=>nomatch z)
 refine wpAny_mono (ht [] s1 (start N vs) H _ I hq) (λfl s' hs=>?_) λe s' hs=>False.elim hs
 have fin:∀ {σ':St} {H':Hp} {v:V} {u:Value},Inv (cxX P w K mg base N qual (c8 st) f cdv A outer s H E) [] σ' H' s'->G2 v u->Q v H'->CE outer P w H s Q u s' :=
  fun {σ' H' v u} J rv q=>⟨v,H',J.os,J.bare,J.base,J.hok,rv,q⟩
 cases fl with
 | ret u =>
  obtain ⟨v,σ',H',J,rv,q⟩:=hs;exact fin J rv q
 | next =>
  obtain ⟨σ',H',J,q⟩:=hs;exact fin (v:=V.non) (u:=Value.none) J rfl q
 | brk =>
  obtain ⟨_,_,_,q⟩:=hs;exact False.elim q
 | cont =>
  obtain ⟨_,_,_,q⟩:=hs;exact False.elim q
section
variable {X:Cx} {CX:CXT} {k:Nat} {f:Addr} {fd:FuncData} {ps:List Str} {sp:Sp} {E:XK} {x:Str} {p pos:Pos} {e:Expr} {es:List Expr} {t:TA}
theorem bo5 {pins:List (Addr × Obj)} {σ:St} {H:Hp} {s:Shared} {Q:VK} {us:List Value} {vs:List V} (F:bb3 X.prog X.w X.K X.mg X.base k f fd ps sp) (hr:Y2 k X.A) (hb:an1 X.K fd ps [])
  (I:Inv X pins σ H s) (r:A7 vs us) (h:sp vs H Q E):wpAny (model X.prog X.w) X.A (call (.ref f) us) (EP X pins σ Q) X.xe s:=by
 have hl:(us ++ []).length=ps.length:=by rw [g0g,<- r.length];exact F.len _ _ _ _ h
 have hb':=hb s us I.kIn hl;rw [g0g] at hb';refine wpAny_call (codeAny_mono (F.run X.A X.stack s H ⟨us,[]⟩ us vs Q E hr I.env0 hb' r h) λr s' hq=>?_)
 cases r with
 | error e=>exact False.elim hq
 | ok fl =>
  cases fl with
  | ret u=>exact I.after hq
  | next=>exact False.elim hq
  | brk=>exact False.elim hq
  | cont=>exact False.elim hq
def aJ8 (sp:Sp) (t:TA):TE:=λσ H Q=>t σ H λvs H1=>sp vs H1 Q E0
theorem bi4 (F:bb3 X.prog X.w X.K X.mg X.base k f fd ps sp) (hr:Y2 k X.A) (hg:Gl X x) (hm:X.mg x=some (.ref f)) (hk:y0m X.K (.ref f)=true) (hb:an1 X.K fd ps [])
  (ha:PA X (e :: es) t) (hdb:(x == ("__debug__" : Str))=false:=by decide) (he:starEach (e :: es) X.env=(false,eval e X.env) :: starEach es X.env:=by rfl) (hpl:(backTo pos (starEach es X.env)).any (·.1)=false:=by rfl) :
  PE X (.Call (.Name x p) (e :: es) [] pos) (aJ8 sp t):=by
 intro pins s σ H Q I h;refine wpAny_Call_Name_kw (au0 I hg hm ?_ hdb);refine PySem.W.callWith_K (h₀:=X.base) I.ok.mod.kin hk (thn (ha pos pins s σ H _ I h) λus s1 ⟨vs,H1,I1,r,q⟩=>⟨I1.kIn,?_⟩) he hpl;exact bo5 F hr hb I1 r q
structure FnV (P:Program) (w:World) (K:q0a) (mg:Str->Option Value) (base:Heap) (k:Nat) (f:Addr) (sp:Sp):Prop where
 ex:∃ fd ps,an0 P w K mg base (CXR P w) k f fd ps sp/\an1 K fd ps []
 kp:y0m K (.ref f)=true
end
end L2
-- the class of an exception,isinstance,great numbers
set_option maxRecDepth 100000
namespace L2
open PySem PySem.W PySem.Spec PyProof.Rows Builtin Builtin.ObjectAttr Builtin.Getset_descriptor
section
variable {prog:Program} {w:World} {A:Around} {E:Value->Shared->Prop} {s:Shared} {K:Frag} {a C:Addr} {o:Obj}
theorem aF9 {R:Result->Shared->Prop} {tp:Value} (X:K.In s.heap) (hx:s.heap.get? a=some o) (hc:o.cls=.ref C) (hm:mroIn K C (.type "object")=some true)
  (h:R (.ok (.ret (.ref C))) s):codeAny (model prog w) A (.call (.builtin "getset_descriptor.__get__") ⟨[.builtin "object.__class__",.ref a,tp],[]⟩) R s:=by
 obtain ⟨hh,g,dr,t,os⟩:=s;have L0:Looks (model prog w) hh (typeOf (.ref a)) (.ref C):=hc ▸ (Looks.ld hx).andThen .now;have L1:=looks_mroIn (M:=model prog w) X hm;refine codeAny_call_builtin KF.slot_gs.plain KF.entry_gs (KF.slot_gs.check _ _ _ _ _ _ _ _ KF.type_class (KF.args_gs _ _ _) ?_);unfold Builtin.«getset_descriptor.__get__» descrGet;rw [dga_obj];refine wpAny_bind (wpAny_pure ?_);unfold descrGetter descrCheckInstance descrNameAndClass isInstance;simp only [KF.owner_class]
 repeat lk
 refine ⟨Code.quiet_builtin _ (by decide +kernel),codeAny_builtin KF.entry_class ?_⟩
 unfold Builtin.«object.__class__» shownTypeOf
 repeat lk
 exact h
theorem be4 {tk:Tok} {Q:Fin->Shared->Prop} (X:K.In s.heap) (hx:s.heap.get? a=some o) (hc:o.cls=.ref C) (g3:findIn K (.ref C) "__class__" = some (some (.builtin "object.__class__"))) (hm:mroIn K C (.type "object")=some true)
  (hq:Q (.done (.ret (.ref C))) s):wpAny (model prog w) A (Builtin.«object.__getattribute__» ⟨[.ref a,.str "__class__" tk],[]⟩) Q E s:=by
 obtain ⟨hh,g,dr,t,os⟩:=s;have L0:Looks (model prog w) hh (typeOf (.ref a)) (.ref C):=hc ▸ (Looks.ld hx).andThen .now;have L1:=looks_findIn (M:=model prog w) X g3;have f5:typeOf (.builtin "object.__class__")=pure (.type "getset_descriptor"):=KF.type_class
 have f6:=F.slot_gs_get.lookup;have f7:=F.slot_gs_set.lookup
 repeat (any_goals (first | assumption | (with_reducible refine wpAny_loadPart_at hx ?_;rw [hc]) | with_reducible refine L1.at ?_ | wp_step))
 refine aF9 X hx hc hm ?_
 repeat (any_goals (first | assumption | wp_step))
theorem be6 {M:Model} {nameV:Value} {Q:Unit->Shared->Prop} (X:K.In s.heap) (hx:s.heap.get? a=some o) (hc:o.cls=.ref C) (hmB:mroIn K C (.type "BaseException")=some true) (hq:Q () s) :
  wpAny M A (checkBuiltinCall "BaseException.__getattribute__" ⟨[.ref a,nameV],[]⟩) Q E s:=by
 obtain ⟨hh,g,d,t,os⟩:=s;have L3:=looks_mroIn (M:=M) X hmB;have hk:builtinKind "BaseException.__getattribute__" = some .slot:=by decide +kernel
 have hsplit:splitId "BaseException.__getattribute__" = some ("BaseException","__getattribute__"):=by decide +kernel
 have ha:=F.args_bexc_ga (.ref a) nameV;simp only [checkBuiltinCall,hk,hsplit];refine wpAny_bind ?_
 ·unfold isInstance
  repeat (first | (with_reducible refine wpAny_loadPart_at hx ?_;rw [hc]) | with_reducible refine L3.at ?_ | wp_step)
  exact hq
theorem be5 {Q:Option Value->Shared->Prop} (X:K.In s.heap) (hx:s.heap.get? a=some o) (hc:o.cls=.ref C) (g1:findIn K (.ref C) "__getattribute__" = some (some (.builtin "BaseException.__getattribute__"))) (g2:findIn K (.ref C) "__getattr__" = some none)
  (g3:findIn K (.ref C) "__class__" = some (some (.builtin "object.__class__"))) (hm:mroIn K C (.type "object")=some true) (hmB:mroIn K C (.type "BaseException")=some true) 
  (h:Q (some (.ref C)) { s with toks:=s.toks+1 }):wpAny (model prog w) A (getAttr? (.ref a) "__class__") Q E s:=by
 obtain ⟨hh,g,d,t,os⟩:=s;have L0:Looks (model prog w) hh (typeOf (.ref a)) (.ref C):=hc ▸ (Looks.ld hx).andThen .now;have L1:=looks_findIn (M:=model prog w) X g1;have L2:=looks_findIn (M:=model prog w) X g2;have L3:=looks_mroIn (M:=model prog w) X hmB;unfold getAttr? getAttrBy? getAttrBy;refine wpAny_bind (wpAny_mkText (wpAny_bind (wpAny_attempt (wpAny_holding (wpAny_bind (L0.at (wpAny_bind (L1.at ?_))))))));have hx2:(Value.builtin "BaseException.__getattribute__" == Value.builtin "object.__getattribute__")=false:=by decide +kernel
 have hx1:(onTheHeap (Value.ref C) && Value.builtin "BaseException.__getattribute__" == Value.builtin "object.__getattribute__")=false:=by rw [hx2];rfl
 show wpAny _ _ (if (onTheHeap (Value.ref C) && Value.builtin "BaseException.__getattribute__" == Value.builtin "object.__getattribute__")=true then _ else _) _ _ _
 rw [if_neg (by rw [hx1];decide)]
 have f3:=PySem.F.attr_ValueError.ga.bind (.ref a);have hx0:(false && onTheHeap (Value.builtin "BaseException.__getattribute__"))=false:=rfl
 unfold getAttrByItsOwn hookBefore
 repeat (any_goals (first | assumption | (with_reducible refine wpAny_loadPart_at hx ?_;rw [hc]) | with_reducible refine L1.at ?_ | with_reducible refine L2.at ?_ | wp_step))
 refine codeAny_call_builtin PySem.F.attr_ValueError.ga.plain F.entry_bexc_ga (be6 X hx hc hmB (be4 X hx hc g3 hm ?_))
 dsimp only
 unfold handedOut;exact wpAny_pure (wpAny_pure h)
structure aE7 (K:Frag) (C:Addr):Prop where
 cl:(clsIn K C).isSome=true
 g1:findIn K (.ref C) "__getattribute__" = some (some (.builtin "BaseException.__getattribute__"))
 g2:findIn K (.ref C) "__getattr__" = some none
 g3:findIn K (.ref C) "__class__" = some (some (.builtin "object.__class__"))
 hm:mroIn K C (.type "object")=some true
 hB:mroIn K C (.type "BaseException")=some true
theorem bk2 (c:aE7 K C):KitX K (.ref a) (.ref C) (λh => ∃ o,h.get? a=some o/\o.cls=.ref C) where
 ty:=λ_ _ _ ⟨o,hx,hc⟩=>hc ▸ (Looks.ld hx).andThen .now
 it:=λ_ _ X _=>by
  obtain ⟨cdD,hcD⟩:=u0h.mp c.cl;unfold clsIn at hcD
  split at hcD
  ·rename_i c' d' cd' sl' ho
   intro A' Q' E' s' k q;unfold isType loadHead;exact wpAny_bind (wpAny_loadPart (k _ _ (X _ _ ho)) (wpAny_pure q))
  ·cases hcD
 ne:=λh tp dd its n sl X htp=>by
  obtain ⟨cdD,hcD⟩:=u0h.mp c.cl;refine Bool.eq_false_iff.mpr λq=>?_;have e:C=tp:=Value.ref.inj (beq_iff_eq.mp q);subst e;unfold clsIn at hcD
  split at hcD
  ·rename_i c' d' cd' sl' ho
   have z:=(X _ _ ho).symm.trans htp
   cases z
  ·cases hcD
 ca:=λX ⟨o,hx,hc⟩ k=>be5 X hx hc c.g1 c.g2 c.g3 c.hm c.hB k
end
section
variable {X:Cx}
def bB0:V->Value
 | .ty n=>.type n
 | .ref a=>.ref a
 | _=>.none
def isC:V->Prop
 | .ty _=>True
 | .ref _=>True
 | _=>False
inductive TyX (K:Frag) (H:Hp):V->Value->Prop where
 | of {x:V} {t:Value} (h:ax1 K H x t):TyX K H x t
 | exc {a C:Addr} (e:H a=some (Exc (.ref C) a)) (c:aE7 K C):TyX K H (.ref a) (.ref C)
 | sqt {a:Addr} {xs:List V} (h:SqT K H a xs):TyX K H (.ref a) (.type "tuple")
 | sql {a:Addr} {xs:List V} (h:SqL K H a xs):TyX K H (.ref a) (.type "list")
def bo7 (K:Frag):List V->Hp->VK->Prop:=λxs H Q => ∃ x c t b,xs=[x,c]/\isC c/\TyX K H x t/\kitOne K t (bB0 c)=some b/\Q (.bl b) H
theorem p9:aa9 X (.builtin "isinstance") (bo7 X.K):=by
 intro pins s σ H us vs Q I r h;obtain ⟨x,c,t,b,rfl,ic,ty,e,q⟩:=h;obtain ⟨u,cu,rfl,rx,rc⟩:=A7.two r
 have ec:cu=bB0 c:=by
  cases c with
  | ty n=>exact rc
  | ref a=>exact rc
  | _=>exact False.elim ic
 subst ec;have fin:∀ tk,EP X pins σ Q (.bool b) { s with toks:=tk }:=λtk=>⟨.bl b,H,I.tok tk,rfl,q⟩
 cases ty with
 | of ty=>exact be1 I rx ty e fin
 | @exc a C ea cl =>
  cases (show u=Value.ref a from rx)
  obtain ⟨⟨o,_,h1,h2,_⟩,_⟩:=(show O8 X.prog X.w H s.heap a (Exc (.ref C) a) from I.hok a _ ea);exact kia_one (bk2 cl) I.kIn ⟨o,h1,h2⟩ e (λz=>nomatch z) fin
 | @sqt a xs h =>
  cases (show u=Value.ref a from rx)
  obtain ⟨_,_,⟨o,h1,h2,_⟩,_⟩:=I.tuple h;exact kia_one kitx_tuple I.kIn ⟨o,h1,h2⟩ e (λz=>nomatch z) fin
 | @sql a xs h =>
  cases (show u=Value.ref a from rx)
  obtain ⟨_,_,⟨o,n,h1,h2,_⟩,_⟩:=I.list h;exact kia_one kitx_list I.kIn ⟨o,h1,h2⟩ e (λz=>nomatch z) fin
theorem z9:OpR X (binaryOp .Mult) (rI IntMulOk λi j=>.int (i*j)):=opI λ_ _ _ _ _ _ _ hc q=>mul_int q hc
def au8 (_ j:Int):Prop:=j ≠ 0/\j.natAbs.log2<9000
theorem J1:OpR X (binaryOp .FloorDiv) (rI au8 λi j=>.int (i.fdiv j)):=opI λ_ _ _ _ _ _ _ hc q=>floordiv_int hc.1 q (.inl (PyProof.noPylong_of_log2 hc.2))
end
open PySem PySem.Spec PyProof.Rows
inductive D where
 | v (x:V)
 | tup (ds:List D)
 | lst (ds:List D)
mutual
def eqD:D->D->Bool
 | .v x,.v y=>eqV x y
 | .tup a,.tup b=>Q9 a b
 | .lst a,.lst b=>Q9 a b
 | _,_=>false
def Q9:List D->List D->Bool
 | [],[]=>true
 | x :: xs,y :: ys=>eqD x y && Q9 xs ys
 | _,_=>false
end
mutual
def okD:D->D->Bool
 | .v _,.v _=>true
 | .tup a,.tup b=>ah1 a b
 | .lst a,.lst b=>ah1 a b
 | _,_=>false
def ah1:List D->List D->Bool
 | x :: xs,y :: ys=>okD x y && ah1 xs ys
 | _,_=>true
end
mutual
def dpD:D->Nat
 | .v _=>0
 | .tup a=>am4 a+1
 | .lst a=>am4 a+1
def am4:List D->Nat
 | []=>0
 | x :: xs=>max (dpD x) (am4 xs)
end
mutual
inductive IsD (K:q0a) (H:Hp):V->D->Prop where
 | v {x:V} (f:af3 x=true):IsD K H x (.v x)
 | tup {p:Addr} {xs:List V} {ds:List D} (h:SqT K H p xs) (t:ak3 K H xs ds):IsD K H (.ref p) (.tup ds)
 | lst {p:Addr} {xs:List V} {ds:List D} (h:SqL K H p xs) (t:ak3 K H xs ds):IsD K H (.ref p) (.lst ds)
inductive ak3 (K:q0a) (H:Hp):List V->List D->Prop where
 | nil:ak3 K H [] []
 | cons {x:V} {xs:List V} {d:D} {ds:List D} (h:IsD K H x d) (t:ak3 K H xs ds):ak3 K H (x :: xs) (d :: ds)
end
theorem ak3.length {K:q0a} {H:Hp}:∀ {xs:List V} {ds:List D},ak3 K H xs ds->xs.length=ds.length
 | _,_,.nil=>rfl
 | _,_,.cons _ t=>congrArg (· + 1) t.length
theorem bl0:∀ {x:V},af3 x=true->eqV x x=true
 | .non,_=>rfl
 | .bl a,_=>by simp [eqV]
 | .int a,_=>by simp [eqV]
 | .str a,_=>by simp [eqV]
 | .byt _,h=>absurd (show false=true from h) q0t
 | .flt _,h=>absurd (show false=true from h) q0t
 | .ref _,h=>absurd (show false=true from h) q0t
 | .ty _,h=>absurd (show false=true from h) q0t
section
variable {X:Cx} {pins:List (Addr × Obj)} {σ:St} {H:Hp} {s:Shared}
mutual
theorem aD5 (I:Inv X pins σ H s):∀ {x:V} {d d':D},IsD X.K H x d->IsD X.K H x d'->okD d d'=true->eqD d d'=true
 | _,_,_,.v f,b,_=>by
  cases b with
  | v _=>rw [eqD];exact bl0 f
  | tup _ _=>exact absurd (show false=true from f) q0t
  | lst _ _=>exact absurd (show false=true from f) q0t
 | _,_,_,.tup h t,b,ok=>by
  cases b with
  | v f=>exact absurd (show false=true from f) q0t
  | tup h' t' =>
   have e:=I.tuple_inj h h';subst e;rw [eqD];rw [okD] at ok;exact aw8 I t t' ok
  | lst _ _=>simp [okD] at ok
 | _,_,_,.lst h t,b,ok=>by
  cases b with
  | v f=>exact absurd (show false=true from f) q0t
  | tup _ _=>simp [okD] at ok
  | lst h' t' =>
   have e:=I.list_inj h h';subst e;rw [eqD];rw [okD] at ok;exact aw8 I t t' ok
theorem aw8 (I:Inv X pins σ H s):∀ {xs:List V} {ds ds':List D},ak3 X.K H xs ds->ak3 X.K H xs ds'->ah1 ds ds'=true->Q9 ds ds'=true
 | _,_,_,.nil,b,_=>by cases b;rw [Q9]
 | _,_,_,.cons h t,b,ok=>by
  cases b with
  | cons h' t' =>
   rw [ah1,j0u] at ok;rw [Q9,aD5 I h h' ok.1,aw8 I t t' ok.2];rfl
end
def am1 (ds ds':List D) (j:Nat):Bool:=match ds[j]?,ds'[j]? with
 | some d,some d'=>eqD d d'
 | _,_=>true
theorem am7 (n:Nat) (e:Nat->Bool):(z0r (n+1)).all e=(e 0 && (z0r n).all λj=>e (j+1)):=by
 rw [List.range_succ_eq_map,g0x,List.all_map];rfl
theorem ao5:∀ (ds ds':List D),((z0r (min ds.length ds'.length)).all (am1 ds ds') && ds.length == ds'.length)=Q9 ds ds'
 | [],[]=>by rw [Q9];rfl
 | [],_ :: _=>by simp [Q9]
 | _ :: _,[]=>by simp [Q9]
 | x :: xs,y :: ys=>by
  have ih:=ao5 xs ys;rw [Q9,<- ih];have e1:min (x :: xs).length (y :: ys).length=min xs.length ys.length+1:=by simp only [j0m];simp
  rw [e1,am7]
  have e2:((x :: xs).length == (y :: ys).length)=(xs.length == ys.length):=by
   by_cases h:xs.length=ys.length <;> simp [h]
  rw [e2,Bool.and_assoc];rfl
theorem ap9 (ds ds':List D) (h:ds.length=ds'.length):(z0r ds.length).all (am1 ds ds')=Q9 ds ds':=by
 rw [<- ao5,<- h,Nat.min_self];simp
theorem aD3:∀ (ds ds':List D),ds.length ≠ ds'.length->Q9 ds ds'=false
 | [],[],h=>absurd rfl h
 | [],_ :: _,_=>by simp [Q9]
 | _ :: _,[],_=>by simp [Q9]
 | x :: xs,y :: ys,h=>by
  rw [Q9,aD3 xs ys (λe=>h (by simp [e]))];simp
theorem aG9 (I:Inv X pins σ H s) {p p':Addr} {xs ys:List V} {ds ds':List D} {A:Around} (h:SqT X.K H p xs) (t:ak3 X.K H xs ds) (h':SqT X.K H p' ys) (t':ak3 X.K H ys ds') (hu:A.units<cLine)
  (q:∀ {us vs:List Value},A7 xs us->A7 ys vs->∀ (j:Nat) (h1:j<us.length) (h2:j<vs.length),SeqAt.EqAt A.in1 s us[j] vs[j] (am1 ds ds' j)):SeqAt.RcAt A s (.ref p) (.ref p') (Q9 ds ds'):=by
  obtain ⟨its,r1,i1,_⟩:=I.tuple h;obtain ⟨its',r2,i2,_⟩:=I.tuple h';have z:=SeqAt.RcAt.tuples (A:=A) (items:=its.toArray) (items2:=its'.toArray) (e:=am1 ds ds') i1 i2 hu (λj h1 h2=>q r1 r2 j (by simpa using h1) (by simpa using h2))
  have e1:its.toArray.size=ds.length:=by rw [q0r,<- r1.length,t.length]
  have e2:its'.toArray.size=ds'.length:=by rw [q0r,<- r2.length,t'.length]
  rw [e1,e2,ao5] at z;exact z
theorem aH0 (I:Inv X pins σ H s) {p p':Addr} {xs ys:List V} {ds ds':List D} {A:Around} (h:SqL X.K H p xs) (t:ak3 X.K H xs ds) (h':SqL X.K H p' ys) (t':ak3 X.K H ys ds') (hu:A.units<cLine)
  (q:∀ {us vs:List Value},A7 xs us->A7 ys vs->∀ (j:Nat) (h1:j<us.length) (h2:j<vs.length),SeqAt.EqAt A.in1 s us[j] vs[j] (am1 ds ds' j)):SeqAt.RcAt A s (.ref p) (.ref p') (Q9 ds ds'):=by
  obtain ⟨its,r1,i1,_⟩:=I.list h;obtain ⟨its',r2,i2,_⟩:=I.list h';have e1:its.toArray.size=ds.length:=by rw [q0r,<- r1.length,t.length]
  have e2:its'.toArray.size=ds'.length:=by rw [q0r,<- r2.length,t'.length]
  by_cases hl:ds.length=ds'.length
  ·have z:=SeqAt.RcAt.lists (A:=A) (items:=its.toArray) (items2:=its'.toArray) (e:=am1 ds ds') i1.isList i2.isList (by rw [e1,e2,hl]) hu (λj h1 h2=>q r1 r2 j (by simpa using h1) (by simpa using h2))
   rw [e1,ap9 ds ds' hl] at z;exact z
  ·rw [aD3 ds ds' hl]
   exact SeqAt.RcAt.lists_lengths i1.isList i2.isList (by rw [e1,e2];simpa using hl) hu
mutual
theorem by0 (I:Inv X pins σ H s):∀ {x y:V} {d d':D} {u v:Value} {A:Around},IsD X.K H x d->IsD X.K H y d'->okD d d'=true->G2 x u->G2 y v->A.units+dpD d<cLine->SeqAt.EqAt A s u v (eqD d d')
 | _,_,_,_,_,_,_,.v f,b,ok,r,r',_=>by
  cases b with
  | v f'=>rw [eqD];exact bl3 r r' f f'
  | tup _ _=>simp [okD] at ok
  | lst _ _=>simp [okD] at ok
 | _,_,_,_,u,v,A,.tup (p:=p) h t,b,ok,r,r',hu=>by
  cases b with
  | v _=>simp [okD] at ok
  | @tup p' _ _ h' t' =>
   cases (show u=Value.ref p from r)
   cases (show v=Value.ref p' from r')
   by_cases hp:p=p'
   ·subst hp
    rw [aD5 I (.tup h t) (.tup h' t') ok];exact SeqAt.EqAt.same _
   ·rw [okD] at ok
    rw [dpD] at hu;rw [eqD];exact SeqAt.EqAt.of_refs hp (aG9 I h t h' t' (by lia) λr1 r2 j h1 h2=>aj2 (A:=A.in1) I t t' ok r1 r2 (by show A.units+1+_<_;lia) j h1 h2)
  | lst _ _=>simp [okD] at ok
 | _,_,_,_,u,v,A,.lst (p:=p) h t,b,ok,r,r',hu=>by
  cases b with
  | v _=>simp [okD] at ok
  | tup _ _=>simp [okD] at ok
  | @lst p' _ _ h' t' =>
   cases (show u=Value.ref p from r)
   cases (show v=Value.ref p' from r')
   by_cases hp:p=p'
   ·subst hp
    rw [aD5 I (.lst h t) (.lst h' t') ok];exact SeqAt.EqAt.same _
   ·rw [okD] at ok
    rw [dpD] at hu;rw [eqD];exact SeqAt.EqAt.of_refs hp (aH0 I h t h' t' ⋯ λr1 r2 j h1 h2=>aj2 (A:=A.in1) I t t' ok r1 r2 (by show A.units+1+_<_;omega) j h1 h2)
theorem aj2 (I:Inv X pins σ H s):∀ {xs ys:List V} {ds ds':List D} {us vs:List Value} {A:Around},ak3 X.K H xs ds->ak3 X.K H ys ds'->ah1 ds ds'=true->A7 xs us->A7 ys vs->A.units+am4 ds<cLine ->
  ∀ (j:Nat) (h1:j<us.length) (h2:j<vs.length),SeqAt.EqAt A s us[j] vs[j] (am1 ds ds' j)
 | _,_,_,_,_,_,_,.nil,_,_,r,_,_=>λj h1 _=>by cases r;exact absurd h1 (Nat.not_lt_zero _)
 | _,_,_,_,_,_,A,.cons h t,b,ok,r,r',hu=>λj h1 h2=>by
  cases b with
  | nil=>cases r';exact absurd h2 (Nat.not_lt_zero _)
  | cons h' t' =>
   cases r with
   | cons r rs =>
    cases r' with
    | cons r' rs' =>
     rw [ah1,j0u] at ok;rw [am4] at hu
     cases j with
     | zero=>exact by0 I h h' ok.1 r r' (by lia)
     | succ j=>exact aj2 I t t' ok.2 rs rs' (by lia) j (by simpa using h1) (by simpa using h2)
end
def D.isV:D->Bool
 | .v _=>true
 | _=>false
def bC0 (K:q0a):R2:=λx y H Q => ∃ d d',d.isV=false/\IsD K H x d/\IsD K H y d'/\okD d d'=true/\dpD d<=60/\Q (.bl (eqD d d')) H
theorem ai9 (hu:X.A.units+64<cLine):OpR X (compareOp .Eq) (bC0 X.K):=by
 intro pins s σ H x y v u Q I rx ry h;obtain ⟨d,d',nf,h1,h2,ok,dp,q⟩:=h;have fin:EP X pins σ Q (.bool (eqD d d')) s:=⟨.bl _,H,I,rfl,q⟩
 cases h1 with
 | v f =>
  cases h2 with
  | v f'=>exact absurd (show true=false from nf) (by decide)
  | tup _ _=>simp [okD] at ok
  | lst _ _=>simp [okD] at ok
 | @tup p xs ds h t =>
  cases h2 with
  | v f'=>simp [okD] at ok
  | @tup p' ys ds' h' t' =>
   cases (show v=Value.ref p from rx)
   cases (show u=Value.ref p' from ry)
   rw [okD] at ok;rw [dpD] at dp;rw [eqD] at fin;exact aG9 I h t h' t' (by lia) (λr1 r2 j h1 h2=>aj2 (A:=X.A.in1) I t t' ok r1 r2 (by show X.A.units+1+_<_;lia) j h1 h2) X.prog X.w X.xe _ fin
  | lst _ _=>simp [okD] at ok
 | @lst p xs ds h t =>
  cases h2 with
  | v f'=>simp [okD] at ok
  | tup _ _=>simp [okD] at ok
  | @lst p' ys ds' h' t' =>
   cases (show v=Value.ref p from rx)
   cases (show u=Value.ref p' from ry)
   rw [okD] at ok;rw [dpD] at dp;rw [eqD] at fin;exact aH0 I h t h' t' ⋯ (λr1 r2 j h1 h2=>aj2 (A:=X.A.in1) I t t' ok r1 r2 (by show X.A.units+1+_<_;omega) j h1 h2) X.prog X.w X.xe _ fin
end
open PySem PySem.Spec PyProof.Rows
section
variable {X:Cx}
def aM0:V->List V->Hp->VK->Prop:=λx vs H Q => ∃ i,x=.int i/\vs=[]/\Q (.int (Builtin.Int.intBits i)) H
theorem ah2:MtM X "int.bit_length" aM0:=by
 intro pins s σ H x vs v us Q I rx rv h;obtain ⟨i,rfl,rfl,q⟩:=h;obtain ⟨t,rfl⟩:=rx
 cases A7.zero rv
 exact call_int_bit_length ⟨.int _,H,I.tok _,⟨_,rfl⟩,q⟩
theorem aI4 {x:V}:∀ {xs:List V} {us:List Value},A7 xs us->xs.all af3=true->us.countP (eqU x)=xs.countP λy=>eqV y x
 | _,_,.nil,_=>rfl
 | y :: xs,u :: us,.cons r t,f=>by
  rw [g0x,j0u] at f;rw [List.countP_cons,List.countP_cons,aX2 r f.1,aI4 t f.2]
def aV3:V->List V->Hp->VK->Prop:=λx vs H Q => ∃ l xs y,x=.ref l/\vs=[y]/\H l=some (.lst xs)/\af3 y=true/\xs.all af3=true/\Q (.int (xs.countP λz=>eqV z y)) H
theorem bj8:MtM X "list.count" aV3:=by
 intro pins s σ H x vs v us Q I rx rv h;obtain ⟨l,xs,y,rfl,rfl,hH,fy,fx,q⟩:=h
 cases rx
 obtain ⟨u,rfl,ru⟩:=rv.one;obtain ⟨z,its,n,r,hl,e⟩:=I.lstM hH;refine call_meets F.slot_list_count ⟨_,e,rfl⟩ F.entry_list_count (F.args_list_count_2 _ _) (SeqAt.list_countAt l its.toArray n none #[] u (eqU y)) ⟨e,λw hw=>aD0 ru fy r fx w (by simpa using hw),?_⟩
 refine ⟨.int _,H,I.tok _,⟨_,rfl⟩,?_⟩;rw [show its.toArray.toList=its from rfl,aI4 r fx];exact q
theorem ba0 {y:V} {xs:List V} {us:List Value} (r:A7 xs us) (f:xs.all af3=true) (j:Nat) (hj:j<us.length) (hx:j<xs.length):eqU y us[j]=eqV xs[j] y:=by
 obtain ⟨u,e1,e2⟩:=r.get (q0d hx);have e3:us[j]=u:=by rw [q0d hj] at e1;exact Option.some.inj e1
 rw [e3];exact aX2 e2 (m0f.mp f _ (List.getElem_mem hx))
def aV2:V->List V->Hp->VK->Prop:=λx vs H Q => ∃ l xs y j,x=.ref l/\vs=[y]/\H l=some (.lst xs)/\af3 y=true/\xs.all af3=true/\(xs.findIdx? λz=>eqV z y)=some j/\Q (.int (j:Nat)) H
theorem bj7:MtM X "list.index" aV2:=by
  intro pins s σ H x vs v us Q I rx rv h;obtain ⟨l,xs,y,j,rfl,rfl,hH,fy,fx,hi,q⟩:=h
  cases rx
  obtain ⟨u,rfl,ru⟩:=rv.one;obtain ⟨z,its,n,r,hl,e⟩:=I.lstM hH;obtain ⟨hj,h1,h2⟩:=List.findIdx?_eq_some_iff_getElem.mp hi;have hz:xs.length<2 ^ 63:=Nat.lt_of_le_of_lt z aw4
  refine call_meets F.slot_list_index ⟨_, e, rfl⟩ F.entry_list_index (F.args_list_index_2 _ _) (SeqAt.list_indexAt l its.toArray n none #[] u (eqU y) j (by simpa [← hl] using hj) (by have : (xs.length : Int) < 2 ^ 63 := by exact_mod_cast hz
                                                                                                                                                                                       lia) ?_ ?_) ⟨e,λw hw=>aD0 ru fy r fx w (by simpa using hw),?_⟩
  · rw [show its.toArray[j]'(by simpa [<- hl] using hj)=its[j]'(by rw [<- hl];exact hj) from rfl,ba0 r fx j _ hj];exact h1
  · intro m hm hlt
    have hm':m<its.length:=by simpa using hm
    rw [show its.toArray[m]'hm=its[m]'hm' from rfl,ba0 r fx m _ (by rw [hl];exact hm')]
    have:=h2 m hlt
    simpa using this
  · exact ⟨.int _,H,I.tok _,⟨_,rfl⟩,q⟩
theorem aG3:∀ (t:Nat) (ps:List Str),A7 (ps.map V.str) (strsFrom t ps)
 | _,[]=>.nil
 | t,p :: ps=>.cons ⟨_,rfl⟩ (aG3 (t+1) ps)
def an6 (x y:Str):List Str:=Builtin.Str.partsBetween x (Builtin.Str.occurrences x y 0 x.length (x.length+1)) y.length
def aV0:V->List V->Hp->VK->Prop:=λv vs H Q => ∃ x y,v=.str x/\vs=[.str y]/\(decide (x.length<y.length) || decide (Builtin.Str.strKind x<Builtin.Str.strKind y))=false/\(y.length == 0)=false /\
 (Builtin.Str.occurrences x y 0 x.length (x.length+1)).isEmpty=false/\x.length<=sizeLine/\(an6 x y).length<=sizeLine/\∀ l,H l=none->Q (.ref l) (upd H l (.lst ((an6 x y).map V.str)))
theorem bj6:MtM X "str.split" aV0:=by
 intro pins s σ H x vs v us Q I rx rv h;obtain ⟨x',y,rfl,rfl,h1,h2,h3,h4,h5,q⟩:=h;obtain ⟨t,rfl⟩:=rx;obtain ⟨u,rfl,t',rfl⟩:=rv.one;refine call_meets F.slot_str_split rfl F.entry_str_split (F.args_str_split_2 _ _) (meets_str_split_sep x' y t t' h1 h2 h3 h4 h5) ?_;exact ⟨.ref _,_,I.lnew (ys:=(an6 x' y).map V.str) (aG3 _ _) (by rw [q0e];exact h5),rfl,q _ I.fresh⟩
end
open PySem PySem.Spec PyProof.Rows
structure Df (K:q0a) (mg:Str->Option Value) (x:Str) (st:Stmt) (ps:List Str) (f:Addr):Prop where
 ex:∃ fd,Fun K x x st f fd/\an1 K fd ps []
 m:mg x=some (.ref f)
structure Def (P:Program) (w:World) (K:q0a) (mg:Str->Option Value) (base:Heap) (CX:CXT) (k:Nat) (x:Str) (f:Addr) (ps:List Str) (sp:Sp):Prop where
 ex:∃ fd,an0 P w K mg base CX k f fd ps sp/\an1 K fd ps []
 m:mg x=some (.ref f)
 kp:y0m K (.ref f)=true
structure bt0 (P:Program) (w:World) (K:q0a) (mg:Str->Option Value) (base:Heap) (k:Nat) (x:Str) (f:Addr) (ps:List Str) (sp:Sp):Prop where
 ex:∃ fd,bb3 P w K mg base k f fd ps sp/\an1 K fd ps []
 m:mg x=some (.ref f)
 kp:y0m K (.ref f)=true
section
variable {P:Program} {w:World} {K:q0a} {mg:Str->Option Value} {base:Heap} {k:Nat} {x:Str} {f:Addr} {ps N:List Str} {sp:Sp} {st:Stmt} {CX:CXT}
theorem Df.ok (d:Df K mg x st ps f) (S:j4 N ps (c8 st)) (len:∀ vs H Q E,sp vs H Q E->vs.length=ps.length)
  (hbody:∀ (cdv:Value) (A:Around) (outer:List Env) (s:Shared) (H:Hp) (vs:List V) (Q:VK) (E:XK),ad7 k (A.deeper (envOfC x (c8 st) s.heap.objs.size f cdv))->sp vs H Q E ->
   ∃ t,PSs (az5 CX0 P w K mg base N x (c8 st) f cdv A outer s H E).nox (X0 st) t/\t { nx:=λ_ H'=>Q .non H',rt:=Q } (start N vs) H):Def P w K mg base CX0 (k+1) x f ps sp:=by
 obtain ⟨fd,F,b⟩:=d.ex;exact ⟨⟨fd,F.ok S len hbody,b⟩,d.m,F.kp⟩
theorem Df.okR (d:Df K mg x st ps f) (S:j4 N ps (c8 st)) (len:∀ vs H Q E,sp vs H Q E->vs.length=ps.length)
  (hbody:∀ (cdv:Value) (A:Around) (outer:List Env) (s:Shared) (H:Hp) (vs:List V) (Q:VK) (E:XK),ad7 k (A.deeper (envOfC x (c8 st) s.heap.objs.size f cdv))->sp vs H Q E ->
   ∃ t,PSs (cxR P w K mg base N x (c8 st) f cdv A outer s H E) (X0 st) t/\t { nx:=λ_ H'=>Q .non H',rt:=Q } (start N vs) H):Def P w K mg base (CXR P w) (k+1) x f ps sp:=by
 obtain ⟨fd,F,b⟩:=d.ex;have kp:=F.kp;obtain ⟨oc,od,kV,doc,pm,an,cdv,ct,osl,rfl,lk,hcd⟩:=F.ex;exact ⟨⟨_,bu0 lk hcd S len λA outer s H vs Q E hr hsp=>hbody cdv A outer s H vs Q E hr hsp,b⟩,d.m,kp⟩
theorem Df.okX (d:Df K mg x st ps f) (S:j4 N ps (c8 st)) (len:∀ vs H Q E,sp vs H Q E->vs.length=ps.length)
  (hbody:∀ (cdv:Value) (A:Around) (outer:List Env) (s:Shared) (H:Hp) (vs:List V) (Q:VK) (E:XK),Y2 k (A.deeper (envOfC x (c8 st) s.heap.objs.size f cdv))->sp vs H Q E ->
   ∃ t,PSs (cxX P w K mg base N x (c8 st) f cdv A outer s H E) (X0 st) t/\t { nx:=λ_ H'=>Q .non H',rt:=Q } (start N vs) H):bt0 P w K mg base (k+1) x f ps sp:=by
 obtain ⟨fd,F,b⟩:=d.ex;exact ⟨⟨fd,F.okX S len hbody,b⟩,d.m,F.kp⟩
end
section
variable {X:Cx} {CX:CXT} {k j:Nat} {f:Addr} {ps:List Str} {sp:Sp} {E:XK} {x:Str} {p pos:Pos} {e:Expr} {es:List Expr} {t:TA}
def aA2 (sp:Sp) (E:XK) (t:TA):TE:=λσ H Q=>t σ H λvs H1=>sp vs H1 Q E
theorem d2 (d : Def X.prog X.w X.K X.mg X.base CX j x f ps sp) (hr : ad7 k X.A) (ha : PA X (e :: es) t) (hx : ax2 CX X E) (hj : j ≤ k := by decide) (hg : Gl X x := by rfl)
    (hdb:(x == ("__debug__" : Str))=false:=by decide) (he:starEach (e :: es) X.env=(false,eval e X.env) :: starEach es X.env:=by rfl) (hpl:(backTo pos (starEach es X.env)).any (·.1)=false:=by rfl) :
    PE X (.Call (.Name x p) (e :: es) [] pos) (aA2 sp E t):=by
  obtain ⟨fd,F,b⟩:=d.ex;have z:=bp4 (E:=E) (es:=es) (e:=e) (p:=p) (pos:=pos) (F.mono hj) hr hg d.m d.kp b .nil hx ha hdb he hpl;intro pins s σ H Q I h;refine z pins s σ H Q I ?_;unfold bt2
  simpa only [List.append_nil,aA2] using h
theorem bp3 (d : bt0 X.prog X.w X.K X.mg X.base j x f ps sp) (hr : Y2 k X.A) (ha : PA X (e :: es) t) (hj : j ≤ k := by decide) (hg : Gl X x := by rfl)
    (hdb:(x == ("__debug__" : Str))=false:=by decide) (he:starEach (e :: es) X.env=(false,eval e X.env) :: starEach es X.env:=by rfl) (hpl:(backTo pos (starEach es X.env)).any (·.1)=false:=by rfl) :
    PE X (.Call (.Name x p) (e :: es) [] pos) (aJ8 sp t):=by
  obtain ⟨fd,F,b⟩:=d.ex;exact bi4 F (hr.mono hj) hg d.m d.kp b ha hdb he hpl
end
theorem c9.new {H:Hp} {p:Addr} (h:H p=none) (o:HO):c9 H (upd H p o):=λb u q=>by rw [i8 (j3 q h)];exact q
theorem c9.tup {K:q0a} {H H':Hp} {a:Addr} {xs:List V} (e:c9 H H') (h:SqT K H a xs):SqT K H' a xs:=by
 rcases h with h | h
 ·rcases h with h | ⟨o,h⟩
  ·exact .inl (.inl (e _ _ h))
  ·exact .inl (.inr ⟨o,e _ _ h⟩)
 ·exact .inr h
open PySem PySem.Spec PyProof.Rows
section
variable {prog:Program} {w:World} {A:Around} {R:Result->Shared->Prop} {s:Shared}
theorem ao3 {elt target iter:Expr} {scope:Scope} {pos:Pos} {it acc:Value} {env:Env} (I:Nat->Shared->Prop)
  (turn:∀ n s,I n s->wpAny (model prog w) A (pyNext it) (λr s₁=>match r with
   | none=>R (.ok .next) s₁
   | some v=>wpAny (model prog w) A (letOwnedTupleGo target it v) (λ_ s₁'=>wpAny (model prog w) A (assign target env v) (λ_ s₂=>wpAny (model prog w) A (eval elt env) (λx s₃ =>
     wpAny (model prog w) A (call (.builtin "list.append") [acc,x]) (λ_ s₄ => ∃ m,m<n/\I m s₄) (λ_ _=>False) s₃)
     (λ_ _=>False) s₂) (λ_ _=>False) s₁') (λ_ _=>False) s₁) (λ_ _=>False) s)
  (n:Nat) (h:I n s) :
  codeAny (model prog w) A (.compLoop (.ListComp elt [⟨target,iter,[],0⟩] scope pos) 0 it acc env) R s:=by
 refine codeAny_loop rfl I (λn s hI=>?_) n h
 show wpAny _ _ ((compTurn (.ListComp elt [⟨target,iter,[],0⟩] scope pos) 0 it acc env).onRaise (λx=>do noteFrame x env;theTreesLotGoes x)) _ _ s
 refine wpAny_noted ?_;rw [compTurn_list1];have no:∀ {P:Value->Shared->Prop} (e:Value) (s:Shared),False->P e s:=λ_ _ h=>h.elim;refine wpAny_bind (wpAny_standAt (wpAny_bind (wpAny_mono (turn n s hI) (λr s₁ h₁=>?_) no)))
 cases r with
 | none=>exact wpAny_pure h₁
 | some v =>
  refine wpAny_bind (wpAny_mono h₁ (λ_ s₁' h₁'=>?_) no)
  exact wpAny_bind (wpAny_mono h₁' (λ_ s₂ h₂=>wpAny_bind (wpAny_bind (wpAny_mono h₂ (λx s₃ h₃=>wpAny_bind (wpAny_mono h₃
   (λ_ s₄ h₄=>wpAny_pure (wpAny_pure ⟨rfl,h₄⟩)) no)) no))) no)
end
abbrev Cx.block (X:Cx) (scope:Scope) (cl:List (Str × Addr)) (C:Addr) (Nc:List Str) (s₂:Shared) (H₂:Hp) (fp:List Addr) (pins:List (Addr × Obj)):Cx :=
 { X with N:=Nc,s₀:=s₂,H₀:=H₂,env:=compEnvC scope cl C X.env,outer:=X.stack,ex:=fp,fn:=λ_=>false,pn:=X.pn ++ pins,xe:=λ_ _=>False }
def O7 (caps:List (Option Nat)) (σ:St):St:=caps.map λo=>o.bind λj=>(σ[j]?).join
def aQ1 (wi:TI) (caps:List (Option Nat)) (g:TG) (te:TE):TE:=λσ H Q=>wi σ H λJ H1 => ∀ D,H1 D=none->∃ W:Nat->Nat->St->Hp->Prop,(∃ m,W 0 m (O7 caps σ) (upd H1 D (.lst []))) /\
 ∀ i m σc H2,W i m σc H2->(J.stop i H2/\Q (.ref D) H2) \/
  (J.go i H2/\∀ x H3,J.yld i H2 x H3->g x σc H3 λσ4 H4=>te σ4 H4 λy H5 => ∃ ys,H5 D=some (.lst ys)/\ys.length<sizeLine/\∃ m',m'<m/\W (i+1) m' σ4 (upd H5 D (.lst (ys ++ [y]))))
section
variable {X:Cx}
structure G5 (X:Cx) (scope:Scope) (cl:List (Str × Addr)) (Nc:List Str) (caps:List (Option Nat)):Prop where
 clos:closureFor scope X.env=pure cl
 sub:∀ x c,cl.lookup x=some c->X.env.cells.lookup x=some c
 has:∀ x,(relabel scope X.env).names.lookup x=some .cell \/ (relabel scope X.env).names.lookup x=some .free->∃ c,cl.lookup x=some c
 nocell:∀ x ∈ scope.names,x.2 ≠ .cell
 kind:scope.kind=.function
 names:∀ x ∈ scope.names,x.2=.local->scope.names.lookup x.1=some .local
 len:caps.length=Nc.length
 cap:∀ (i j:Nat) (x:Str),caps[i]? = some (some j)->Nc[i]? = some x->X.N[j]? = some x/\Vis X.env.scope x/\X.env.kindOf x ≠ some .local/\((relabel scope X.env).names.lookup x=some .cell \/ (relabel scope X.env).names.lookup x=some .free)
theorem Inv.sameC {pins:List (Addr × Obj)} {σ:St} {H H':Hp} {s s':Shared} {h'':Heap} {fp:List Addr} {C:Addr} (I:Inv X pins σ H s) (hf:∀ b ∈ fp,aj8 X pins H b) (os:s'.os=s.os) (bare:AllBare s'.gens)
  (un:Un (frs X.stack) fp H H' s.heap s'.heap) (hok:HOk X.prog X.w H' s'.heap) (hC:s.heap.objs.size<=C) (hCn:H' C=none) (sb:v0c C s'.heap h''):Inv X pins σ H' { s' with heap:=h'' }:=by
 have ne:∀ b o,s.heap.get? b=some o->b ≠ C:=λb o e=>q0q (q0b (q0f e) hC);refine I.call' (s':={ s' with heap:=h'' }) (ch:=fp) os ⟨λb o e n h1 h2=>(sb.2 b (ne b o e)).trans (un.keep b o e n h1 h2),λb o e n h1 h2=>?_,un.free,λb o e h2=>?_,un.tups,un.frzs,un.tbls⟩ (λb u e=>?_) bare (λb hb=>?_)
 ·obtain ⟨sl,z⟩:=un.slot b o e n h1 h2
  exact ⟨sl,(sb.2 b (ne b o e)).trans z⟩
 ·obtain ⟨o',z⟩:=un.there b o e h2
  exact ⟨o',(sb.2 b (ne b o e)).trans z⟩
 ·refine (hok b u e).stay (λc v hc q=>(sb.2 c ?_).trans q) (λ_ q=>q) λ_ _ q=>q
  rintro rfl;rcases hc with rfl | hc
  ·rw [hCn] at e;cases e
  ·rw [hCn] at hc;cases hc
 ·obtain ⟨_,f1,_,f3,f4,f5⟩:=hf b hb
  exact ⟨f3,f1,f4,f5⟩
theorem t9 {elt tg iter:Expr} {scope:Scope} {pos:Pos} {cl:List (Str × Addr)} {Nc:List Str} {caps:List (Option Nat)} {wi:TI} {g:TG} {te:TE} (hc:X.calm=true) (cp:G5 X scope cl Nc caps) (hi:PI X tg iter wi)
  (hg:∀ C s₂ H₂ fp pins,PG (X.block scope cl C Nc s₂ H₂ fp pins) tg g) (he:∀ C s₂ H₂ fp pins,PE (X.block scope cl C Nc s₂ H₂ fp pins) elt te) (hs:∀ x,foldedSetIterable iter X.env x=pure x:=by intro _;rfl) :
  PE X (.ListComp elt [⟨tg,iter,[],0⟩] scope pos) (aQ1 wi caps g te):=by
 intro pins s σ H Q I h;rw [eval_ListComp];refine wpAny_comprehension_free (use:=none) rfl hs cp.clos cp.kind cp.names ?_;refine thn (hi pins s σ H _ I h) λv s1 h1=>thn h1 λitv s2 h2=>?_;obtain ⟨it,fp,tn,J,H2,e,I2,T,st2,f2,hW⟩:=h2;subst e;refine wpAny_newObj_type ?_ (by show 0<=sizeLine;exact z0s _)
 refine wpAny_newFunctionEnv cp.nocell (by intro y hy;simp at hy) (λh4 hns hsb=>?_) cp.kind
 dsimp only at hns hsb ⊢
 generalize hH3:s2.heap.push { cls:=.type "list",dict:=none,data:=.seq ([]:List Value).toArray }=H3 at hns hsb ⊢
 have hCe:H3.objs.size=s2.heap.objs.size+1:=by rw [<- hH3,z0n]
 have Y0:∀ b o,s2.heap.get? b=some o->b ≠ H3.objs.size:=λb o e=>by rw [hCe];exact q0q (v0j (q0f e))
 have old:∀ b o,s2.heap.get? b=some o->h4.get? b=some o:=λb o e=>hsb.extBut b o (Y0 b o e) (q0j _ (hH3 ▸ q0j _ e))
 have hD:h4.get? s2.heap.objs.size=some { cls:=.type "list",dict:=none,data:=.seq ([]:List Value).toArray } :=
  hsb.extBut _ _ (by rw [hCe];exact q0q (j0n _)) (q0j _ (hH3 ▸ z0b _ rfl))
 have hDn:H2 s2.heap.objs.size=none:=I2.fresh;have hCn:H2 H3.objs.size=none:=I2.hok.fresh (by rw [hCe];exact j0j _)
 have hCs:s2.heap.objs.size<=H3.objs.size:=by rw [hCe];exact j0j _
 have hDC:s2.heap.objs.size ≠ H3.objs.size:=by rw [hCe];exact q0q (j0n _)
 have fpl:∀ b ∈ fp,∃ o,s2.heap.get? b=some o:=λb hb=>let ⟨o,e,_⟩:=T.obj _ _ st2 b hb;⟨o,e⟩;have fpC:∀ b ∈ fp,b ≠ H3.objs.size:=λb hb=>let ⟨o,e⟩:=fpl b hb;Y0 b o e;have fpD:∀ b ∈ fp,b ≠ s2.heap.objs.size:=λb hb=>let ⟨o,e⟩:=fpl b hb;q0q (q0f e);have stkN:∀ b,b ≠ X.env.locals->b ∉ X.fs->b ∉ frs X.stack:=λb h1 h2 z=>(z0m.mp (I2.stkSub b z)).elim h1 h2;obtain ⟨W,⟨m0,w0⟩,turn⟩:=hW s2.heap.objs.size hDn
 have okB:(X.block scope cl H3.objs.size Nc s2 H2 fp pins).Ok:=by
  refine ⟨I2.ok.mod,?_,I2.ok.glob,I2.ok.blt,hCs,λx y c h1 h2=>I2.ok.inj x y c (cp.sub x c h1) (cp.sub y c h2),λx hx=>cp.has x hx,λx c h=>(by cases h),I2.ok.hd,I2.ok.frames,.inl rfl,λb hb=>⟨fpC b hb,λx c h=>(f2 b hb).2.2.2.2.1 x c (cp.sub x c h)⟩,I2.bs,q0s I2.ok.bsz I2.sz,λb o e hb=>?_,λb hb=>stkN b (f2 b hb).2.1 (f2 b hb).2.2.1,I2.stack,I2.stkFree⟩
  ·exact cp.kind
  ·rcases (f2 b hb).2.2.2.1 with z | z
   ·exact I2.ok.noex b o e z
   ·exact absurd (q0b (q0f e) (q0s I2.ok.bsz z)) (j0r _)
 have hokB:HOk X.prog X.w (upd H2 s2.heap.objs.size (.lst [])) h4:=I2.hok.laid old (q0h _) ⟨z0s _,[],_,.nil,hD⟩
 have IB:Inv (X.block scope cl H3.objs.size Nc s2 H2 fp pins) [] (O7 caps σ) (upd H2 s2.heap.objs.size (.lst [])) { s2 with heap:=h4,toks:=s2.toks+([]:List (Str × Value)).length }:=by
  refine ⟨okB,rfl,I2.bare,Un.laid old (q0h _) hDn,⟨_,hns,λi x v e1 e2 e3=>?_⟩,λx c e=>?_,(show upd H2 s2.heap.objs.size (.lst []) H3.objs.size=none by rw [i8 (Ne.symm hDC)];exact hCn),λx c e=>?_,λp hp=>?_,hokB,?_⟩
  ·unfold O7 at e2
   rw [q0m] at e2
   cases hcap:caps[i]? with
   | none=>rw [hcap] at e2;cases e2
   | some o =>
    rw [hcap] at e2
    cases o with
    | none=>cases e2
    | some j =>
     have hj:σ[j]? = some (some v):=by
      have e2':(σ[j]?).join=some v:=Option.some.inj e2
      cases q:σ[j]? with
      | none=>rw [q] at e2';cases e2'
      | some z=>rw [q] at e2';exact congrArg some e2'
     obtain ⟨n1,n2,n3,n4⟩:=cp.cap i j x hcap e1;obtain ⟨m,hm,hl⟩:=I2.loc;obtain ⟨u,r,q⟩:=hl j x v n1 hj n2;rcases q with ⟨k,_⟩ | ⟨k,c,ec,z⟩
     ·exact absurd k n3
     ·obtain ⟨c',ec'⟩:=cp.has x n4
      have:=cp.sub x c' ec';rw [ec] at this;cases this;obtain ⟨oc,ho,hd⟩:=z;exact ⟨u,r,.inr ⟨n4,c,ec',oc,old _ _ ho,hd⟩⟩
  ·obtain ⟨v,oc,ho,hd⟩:=I2.cell x c (cp.sub x c e)
   exact ⟨v,oc,old _ _ ho,hd⟩
  ·obtain ⟨v,oc,ho,hd⟩:=I2.cell x c (cp.sub x c e)
   rw [i8 (q0q (q0f ho))];exact I2.freeC x c (cp.sub x c e)
  ·have hp':p ∈ X.pn ++ pins:=by simpa using hp
   obtain ⟨e1,e2,e3,e4,e5⟩:=I2.pin p hp';exact ⟨old _ _ e1,by rw [i8 (q0q (q0f e1))];exact e2,Y0 _ _ e1,stkN _ e3 e4,e5⟩
  ·show (O7 caps σ).length=Nc.length
   unfold O7;rw [q0e];exact cp.len
 have stat:∀ {H':Hp},(∀ b ∈ fp,H' b=none)->∀ b ∈ fp,aj8 (X.block scope cl H3.objs.size Nc s2 H2 fp pins) [] H' b:=λhn b hb =>
  ⟨hn b hb,fpC b hb,stkN b (f2 b hb).2.1 (f2 b hb).2.2.1,.inl hb,λx c h=>(f2 b hb).2.2.2.2.1 x c (cp.sub x c h),λp hp=>(f2 b hb).2.2.2.2.2 p (by simpa using hp)⟩
 have loop:∀ s5:Shared,s5={ s2 with heap:=h4,toks:=s2.toks+([]:List (Str × Value)).length } ->
   codeAny (model X.prog X.w) X.A (.compLoop (.ListComp elt [⟨tg,iter,[],0⟩] scope pos) 0 (.ref it) (.ref s2.heap.objs.size) (compEnvC scope cl H3.objs.size X.env))
    (compPost (model X.prog X.w) X.A X.xe none (EP X pins σ Q) (.ref s2.heap.objs.size) H3.objs.size) s5:=by
  rintro s5 rfl;refine ao3 (λn s' => ∃ i σ' H',Inv (X.block scope cl H3.objs.size Nc s2 H2 fp pins) [] σ' H' s'/\tn i s'.heap/\(∀ b ∈ fp,H' b=none)/\W i n σ' H') ?_ m0 ⟨0,_,_,IB,T.keep _ _ _ st2 λb hb o e=>old b o e,λb hb=>by rw [i8 (fpD b hb)];exact (f2 b hb).1,w0⟩
  rintro n s6 ⟨i,σ6,H6,I6,st6,fr6,w6⟩;rcases turn i n σ6 H6 w6 with ⟨stop,qn⟩ | ⟨go,step⟩
  ·refine thn (T.done (X.block scope cl H3.objs.size Nc s2 H2 fp pins) rfl rfl rfl hc i [] s6 σ6 H6 _ I6 (stat fr6) st6 stop) λr s7 zq=>?_
   obtain ⟨hr,I7⟩:=zq;subst hr;obtain ⟨m7,hn7,_⟩:=id I7.loc;exact ⟨m7,hn7,λh' sb=>⟨.ref s2.heap.objs.size,H6,I2.sameC f2 I7.os I7.bare I7.base I7.hok hCs I7.free sb,rfl,qn⟩⟩
  ·refine thn (T.item (X.block scope cl H3.objs.size Nc s2 H2 fp pins) rfl rfl rfl hc i [] s6 σ6 H6 _ I6 (stat fr6) st6 go) λr s7 zq=>?_
   obtain ⟨u,hr,h7⟩:=zq;subst hr;refine thn h7 λ_ s8 zq=>?_;obtain ⟨x,H8,I8,r8,y8,st8,fr8⟩:=zq;have I8':=I8.pinned (stat fr8) (T.obj _ _ st8);refine thn (hg _ _ _ _ _ _ s8 σ6 H8 x u _ I8' r8 (step x H8 y8)) λ_ s9 zq=>?_;obtain ⟨σ9,H9,I9,q9⟩:=zq;refine thn (he _ _ _ _ _ _ s9 σ9 H9 _ I9 q9) λu10 s10 zq=>?_;obtain ⟨v10,H10,I10,r10,ys,hys,hlen,m',hm',w'⟩:=zq;refine thn (N6 _ s10 σ9 H10 (.ref s2.heap.objs.size) [v10] (.ref s2.heap.objs.size) [u10] (λ_ H11=>H11=upd H10 s2.heap.objs.size (.lst (ys ++ [v10]))) I10 rfl (.cons r10 .nil) ⟨_,ys,v10,rfl,rfl,hys,hlen,rfl⟩) λ_ s11 zq=>?_;obtain ⟨_,H11,I11,_,hH11⟩:=zq;subst hH11;refine ⟨m',hm',i+1,σ9,_,I11.unpinned,T.keep _ _ _ st8 λb hb o e=>(I11.pin (b,o) (q0k _ (q0k _ (B6 hb e)))).1,λb hb=>?_,w'⟩;obtain ⟨o,e,d⟩:=T.obj _ _ st8 b hb;exact (I11.pin (b,o) (q0k _ (q0k _ (B6 hb e)))).2.1
 exact codeAny_compStart_list (loop _ rfl) (T.self _ 0 _ _ _ (T.keep _ _ _ st2 λb hb o e=>old b o e) (loop _ rfl))
end
open PySem PySem.Spec PyProof.Rows
def Z9 (scope osc:Scope):List (Str × NameKind):=scope.names.map λ(n,k)=>if (k == .free && osc.kind == .function && osc.names.lookup n == some .cell) then (n,.cell) else (n,k)
def be2 (o:Option NameKind):Bool:=o == some .cell || o == some .free
def bm4 (scope osc:Scope) (N ks Nc:List Str) (caps:List (Option Nat)):Bool :=
 ((Z9 scope osc).all λy => !(y.2 == .cell || y.2 == .free) || ks.contains y.1) && (scope.names.all λy=>y.2 != .cell) && scope.kind == .function &&
 (scope.names.all λy=>y.2 != .local || scope.names.lookup y.1 == some .local) && caps.length == Nc.length &&
 ((caps.zip Nc).all λp=>match p.1 with
  | none=>true
  | some j=>N[j]? == some p.2 && be2 (osc.names.lookup p.2) && be2 ((Z9 scope osc).lookup p.2))
theorem ar0 {α β:Type} [BEq α] [LawfulBEq α]:∀ {l:List (α × β)} {x:α} {v:β},l.lookup x=some v->(x,v) ∈ l
 | [],_,_,h=>by simp at h
 | (a,b) :: r,x,v,h=>by
  rw [v0q] at h
  split at h
  ·rename_i e
   have:=eq_of_beq e;subst this
   cases h
   exact z0c
  ·exact q0u _ (ar0 h)
theorem Z2 {β:Type}:∀ {l:List (Str × β)} {x:Str},x ∈ l.map (·.1)->∃ c,l.lookup x=some c
 | [],_,h=>by simp at h
 | (a,b) :: r,x,h=>by
  rw [v0q]
  by_cases e:x=a
  ·subst e;exact ⟨b,by simp⟩
  ·have:(x == a)=false:=by simpa using e
   rw [this];rcases z0m.mp h with z | z
   ·exact absurd z e
   ·exact Z2 z
theorem az9 {o:Option NameKind} (h:be2 o=true):o=some .cell \/ o=some .free:=by
 unfold be2 at h;simp only [m0n,beq_iff_eq] at h;exact h
theorem G5.of {X:Cx} {scope osc:Scope} {cl:List (Str × Addr)} {N ks Nc:List Str} {caps:List (Option Nat)} (clos:closureFor scope X.env=pure cl) (hN:X.N=N) (hosc:X.env.scope=osc) (hks:cl.map (·.1)=ks)
  (sub:∀ x c,cl.lookup x=some c->X.env.cells.lookup x=some c) (ok:bm4 scope osc N ks Nc caps=true):G5 X scope cl Nc caps:=by
 unfold bm4 at ok;simp only [j0u,m0f,beq_iff_eq,m0n,v0x,bne_iff_ne,ne_eq] at ok;obtain ⟨⟨⟨⟨⟨o1,o2⟩,o3⟩,o4⟩,o5⟩,o6⟩:=ok;have er:(relabel scope X.env).names=Z9 scope osc:=by subst hosc;rfl
 have kof:∀ x,X.env.kindOf x=osc.names.lookup x:=λx=>by subst hosc;rfl
 refine ⟨clos,sub,λx h=>?_,λx hx=>o2 x hx,o3,λx hx hl=>?_,o5,λi j x h1 h2=>?_⟩
 ·rw [er] at h
  refine Z2 ?_;rw [hks]
  have key:∀ k,(Z9 scope osc).lookup x=some k->(k=.cell \/ k=.free)->x ∈ ks:=λk hk hcf=>by
   rcases o1 (x,k) (ar0 hk) with z | z
   ·rcases hcf with rfl | rfl <;> simp at z
   ·simpa using z
  rcases h with h | h
  ·exact key _ h (.inl rfl)
  ·exact key _ h (.inr rfl)
 ·rcases o4 x hx with z | z
  ·exact absurd hl z
  ·exact z
 ·have hm:(some j,x) ∈ caps.zip Nc:=by
   have:(caps.zip Nc)[i]? = some (some j,x):=by
    rw [m0c];exact ⟨h1,h2⟩
   exact q0c this
  have z:=o6 _ hm;simp only [j0u,beq_iff_eq] at z;obtain ⟨⟨z1,z2⟩,z3⟩:=z;have c2:=az9 z2;have c3:=az9 z3;refine ⟨by rw [hN];exact z1,?_,?_,?_⟩
  ·rw [hosc]
   rcases c2 with c | c
   ·exact .inr (.inl c)
   ·exact .inr (.inr c)
  ·rw [kof]
   rcases c2 with c | c <;> rw [c] <;> decide
  ·rw [er];exact c3
open PySem PySem.Spec PyProof.Rows
section
variable {X:Cx} {pins:List (Addr × Obj)} {σ:St} {H:Hp} {s:Shared}
theorem Inv.turnLaid {h':Heap} {t':Nat} {fp:List Addr} {a:Addr} {o:HO} (I:Inv X pins σ H s) (hf:∀ b ∈ fp,aj8 X pins H b)
  (k:∀ b u,b ∉ fp->s.heap.get? b=some u->h'.get? b=some u) (hp:s.heap.objs.size<=a) (new:O8 X.prog X.w (upd H a o) h' a o):Inv X pins σ (upd H a o) { s with heap:=h',toks:=t' }:=by
 have hn:H a=none:=I.hok.fresh hp;have nf:∀ b u,H b=some u->b ∉ fp:=λb u e z=>by rw [(hf b z).1] at e;cases e
 have ne:∀ b u,s.heap.get? b=some u->b ≠ a:=λb u e=>q0q (q0b (q0f e) hp)
 refine I.step (g':=s.gens) (d':=s.drawn) (ch:=fp) (λb hb=>?_) (λb o _ _ hc e _=>k b o hc e) (λb o _ _ hc e _=>⟨o.slots,k b o hc e⟩) (λb o _ e n=>by rw [i8 (ne b o e)];exact n)
  (λb o hc e=>⟨o,k b o hc e⟩) (λb xs e=>by rw [i8 (j3 e hn)];exact e) (λb o u e=>by rw [i8 (j3 e hn)];exact e) (λb ps e=>⟨#[],by rw [i8 (j3 e hn),e];simp⟩) (λm hm=>?_) (λb u e=>?_) I.bare
 ·obtain ⟨_,f1,_,f3,f4,f5⟩:=hf b hb
  exact ⟨f3,f1,f4,f5⟩
 ·obtain ⟨o,es,ep,ho,r⟩:=hm
  exact ⟨o,es,ep,k _ o (λz=>(hf _ z).2.1 rfl) ho,r⟩
 ·by_cases hb:b=a
  ·subst hb;rw [c6] at e;cases e;exact new
  ·rw [i8 hb] at e
   refine (I.hok b u e).stay (λc v hc q=>k c v ?_ q) (λc q=>by rw [i8 (j3 q hn)];exact q) λc xs q=>by rw [i8 (j3 q hn)];exact q
   rcases hc with z | z
   ·rw [z];exact nf b u e
   ·exact nf c _ z
end
def Ite (K:q0a) (a:Addr):It :=
 ⟨λi H => ∃ xs x,SqL K H a xs/\xs[i]? = some x,λi H y H' => ∀ xs,SqL K H a xs->∃ x p,xs[i]? = some x/\H p=none/\y=.ref p/\H'=upd H p (.tup [.int i,x]),λi H => ∃ xs,SqL K H a xs/\xs.length<=i⟩
theorem bc1 {P:Program} {w:World} {K:q0a} {elts:List Expr} {k:Nat} {tpos:Pos} (a e it:Addr) (hei:e ≠ it) :
  bf9 P w K (.Tuple elts k tpos) (Ite K a) [e,it] e (λi h=>(∃ old,IsEnum h e it ((i:Nat):Int) old)/\h.IsListIter it a i) where
 mem:=by simp
 obj:=λi h st b hb=>by
  obtain ⟨⟨old,he⟩,hit⟩:=st;rcases (by simpa using hb:b=e \/ b=it) with z | z
  ·subst z
   exact ⟨_,he,λv z=>by cases z⟩
  ·subst z
   obtain ⟨o,e,c,d⟩:=hit;exact ⟨o,e,λv z=>by rw [d] at z;cases z⟩
 keep:=λi h h' st k=>⟨let ⟨old,he⟩:=st.1;⟨old,k e (by simp) _ he⟩,st.2.at λo e=>k it (by simp) o e⟩
 item:=by
  intro X hP hw hK hc i pins s σ H E I hf st hg;subst hP hw hK;obtain ⟨xs,x,hq,hx⟩:=hg;obtain ⟨its,rv,p,hz⟩:=I.list hq;obtain ⟨u,hu,ru⟩:=rv.get hx;obtain ⟨⟨old,he⟩,hit⟩:=st;have helt:e<s.heap.objs.size:=q0f he;have hilt:it<s.heap.objs.size:=by obtain ⟨_,x,_⟩:=id hit;exact q0f x
  refine wpAny_pyNext_enum_item he hit p.isList (x:=u) (by simpa using hu) hei λh' ho hit' hT hsz kk=>?_
  refine ⟨_,rfl,?_⟩;refine wpAny_letOwnedTupleGo_enum (s:={ s with heap:=h',toks:=s.toks+1 }) ho λh'' he' sb=>?_;have hT':h''.get? s.heap.objs.size=some { cls:=.type "tuple",data:=.seq #[.int i s.toks,u] }:=(sb.2 _ (y0q helt)).trans hT
  refine ⟨.ref s.heap.objs.size,upd H s.heap.objs.size (.tup [.int i,x]),I.turnLaid (fp:=[e,it]) (t':=s.toks+1) hf (λb v hb q=>?_) (q0h _) ?_,rfl,?_,?_,λb hb=>?_⟩
  ·have h1:b ≠ e:=λz=>hb (by simp [z])
   have h2:b ≠ it:=λz=>hb (by simp [z])
   exact (sb.2 b h1).trans (kk b v h1 h2 q)
  ·exact ⟨(show 2<=sizeLine by decide +kernel),[.int i s.toks,u],.cons ⟨_,rfl⟩ (.cons ru .nil),_,hT',rfl,_,rfl⟩
  ·intro ys hy
   rw [I.list_inj hy hq];exact ⟨x,_,hx,I.fresh,rfl,rfl⟩
  ·refine ⟨⟨u,by have:=he';simpa using this⟩,hit'.at λo q=>(sb.2 it hei.symm).trans q⟩
  ·have hlt:b<s.heap.objs.size:=by
    rcases (by simpa using hb:b=e \/ b=it) with z | z
    ·rw [z];exact helt
    ·rw [z];exact hilt
   rw [i8 (q0q hlt)];exact (hf b hb).1
 done:=by
  intro X hP hw hK hc i pins s σ H E I hf st hg;subst hP hw hK;obtain ⟨xs,hq,hx⟩:=hg;obtain ⟨its,rv,p,hz⟩:=I.list hq;obtain ⟨⟨old,he⟩,hit⟩:=st;obtain ⟨f0,f1,f2,f3,f4,f5⟩:=hf it (by simp)
  have hl:=rv.length;exact wpAny_pyNext_enum_end (I.ok.hd hc) he hit p.isList (by simp;omega) λh' eb=>⟨rfl,I.turned (t':=s.toks) (λb o hb e=>eb b o hb e) f0 f1 f3 f4 f5⟩
 self:=λ_ _ _ _ _ st h=>by
  obtain ⟨⟨old,he⟩,_⟩:=st;exact wpAny_pyIter_enum he h
section
variable {X:Cx}
def bk7 (K:q0a) (ta:TA):TI:=λσ H R=>ta σ H λvs H1 => ∃ a,vs=[.ref a]/\(∃ xs,SqL K H1 a xs)/\R (Ite K a) H1
theorem az7 {elts:List Expr} {k:Nat} {tpos:Pos} {l:Expr} {ta:TA} {p pos:Pos} (hg:Gl X "enumerate") (hm:X.mg "enumerate" = none) (ha:PA X [l] ta) (hs:starEach [l] X.env=[(false,eval l X.env)]:=by rfl) :
  PI X (.Tuple elts k tpos) (.Call (.Name "enumerate" p) [l] [] pos) (bk7 X.K ta):=by
 intro pins s σ H R I h;refine Call_ (aj0 I hg hm (u:=.type "enumerate") (by decide +kernel) (PyProof.Rows.callWith_type1 (thn (ha pos pins s σ H _ I h) λus s1 ⟨vs,H1,I1,r1,q1⟩=>?_) hs rfl))
 obtain ⟨a,e,⟨xs,hq⟩,q⟩:=q1;subst e;obtain ⟨u,rfl,rx⟩:=ap0 r1
 cases rx
 obtain ⟨its,rv,p,hz⟩:=I1.list hq;refine call_enumerate_list p.isList λh' he hit hsz kk=>?_;refine wpAny_pyIter_enum he ?_;have I2:Inv X pins σ H1 { s1 with heap:=h' }:=I1.kept (t':=s1.toks) kk;refine ⟨s1.heap.objs.size+1,[s1.heap.objs.size+1,s1.heap.objs.size],_,_,H1,rfl,I2,bc1 a _ _ (Nat.succ_ne_self _),⟨⟨_,he⟩,hit⟩,λb hb=>?_,q⟩
 have hb':s1.heap.objs.size<=b:=by
  rcases (by simpa using hb:b=s1.heap.objs.size+1 \/ b=s1.heap.objs.size) with z | z
  ·rw [z];exact j0j _
  ·rw [z];exact q0h _
 obtain ⟨f0,f1,f2,f3,f4,f5⟩:=I1.fpOk (H':=H1) hb' (I1.hok.fresh hb');exact ⟨f0,f1,f2,f3,f4,f5⟩
end
section
variable {prog:Program} {w:World} {A:Around} {R:Result->Shared->Prop} {s:Shared}
theorem aT2 {elt target iter c:Expr} {scope:Scope} {pos:Pos} {it acc:Value} {env:Env} (I:Nat->Shared->Prop)
  (turn:∀ n s,I n s->wpAny (model prog w) A (pyNext it) (λr s₁=>match r with
   | none=>R (.ok .next) s₁
   | some v=>wpAny (model prog w) A (letOwnedTupleGo target it v) (λ_ s₁'=>wpAny (model prog w) A (assign target env v) (λ_ s₂ =>
     wpAny (model prog w) A (isTrue c env (eval c env)) (λok s₂'=>if ok=true then wpAny (model prog w) A (eval elt env) (λx s₃ =>
     wpAny (model prog w) A (call (.builtin "list.append") [acc,x]) (λ_ s₄ => ∃ m,m<n/\I m s₄) (λ_ _=>False) s₃)
     (λ_ _=>False) s₂' else ∃ m,m<n/\I m s₂') (λ_ _=>False) s₂) (λ_ _=>False) s₁') (λ_ _=>False) s₁) (λ_ _=>False) s)
  (n:Nat) (h:I n s) :
  codeAny (model prog w) A (.compLoop (.ListComp elt [⟨target,iter,[c],0⟩] scope pos) 0 it acc env) R s:=by
 refine codeAny_loop rfl I (λn s hI=>?_) n h
 show wpAny _ _ ((compTurn (.ListComp elt [⟨target,iter,[c],0⟩] scope pos) 0 it acc env).onRaise (λx=>do noteFrame x env;theTreesLotGoes x)) _ _ s
 refine wpAny_noted ?_;rw [compTurn_list];have no:∀ {P:Value->Shared->Prop} (e:Value) (s:Shared),False->P e s:=λ_ _ h=>h.elim;refine wpAny_bind (wpAny_standAt (wpAny_bind (wpAny_mono (turn n s hI) (λr s₁ h₁=>?_) no)))
 cases r with
 | none=>exact wpAny_pure h₁
 | some v =>
  refine wpAny_bind (wpAny_mono h₁ (λ_ s₁' h₁'=>?_) no);refine wpAny_bind (wpAny_mono h₁' (λ_ s₂ h₂=>?_) no);refine wpAny_bind (wpAny_tests_one (wpAny_mono h₂ (λok s₂' h₂'=>?_) no))
  cases ok with
  | true =>
   rw [if_pos rfl] at h₂' ⊢;exact wpAny_bind (wpAny_bind (wpAny_mono h₂' (λx s₃ h₃=>wpAny_bind (wpAny_mono h₃ (λ_ s₄ h₄=>wpAny_pure (wpAny_pure ⟨rfl,h₄⟩)) no)) no))
  | false =>
   rw [if_neg (by decide)] at h₂' ⊢
   exact wpAny_pure ⟨rfl,h₂'⟩
end
def aY2 (wi:TI) (caps:List (Option Nat)) (g:TG) (tt:TT) (te:TE):TE:=λσ H Q=>wi σ H λJ H1 => ∀ D,H1 D=none->∃ W:Nat->Nat->St->Hp->Prop,(∃ m,W 0 m (O7 caps σ) (upd H1 D (.lst []))) /\
 ∀ i m σc H2,W i m σc H2->(J.stop i H2/\Q (.ref D) H2) \/
  (J.go i H2/\∀ x H3,J.yld i H2 x H3->g x σc H3 λσ4 H4=>tt σ4 H4 λb H4'=>if b=true then te σ4 H4' λy H5 => ∃ ys,H5 D=some (.lst ys)/\ys.length<sizeLine/\∃ m',m'<m/\W (i+1) m' σ4 (upd H5 D (.lst (ys ++ [y])))
   else ∃ m',m'<m/\W (i+1) m' σ4 H4')
open PySem PySem.Spec PyProof.Rows
section
variable {X:Cx}
theorem aG1 (bs:List Bool):(z0r bs.length).all (λi=>(bs[i]?).getD true)=bs.all id:=by
 induction bs with
 | nil=>rfl
 | cons b bs ih =>
  rw [j0m,am7,g0x,<- ih];rfl
theorem au6 (hc:X.calm=true):aa9 X (.builtin "all") (λxs H Q => ∃ (p:Addr) (bs:List Bool),xs=[.ref p]/\SqL X.K H p (bs.map V.bl)/\Q (.bl (bs.all id)) H):=by
 intro pins s σ H xs us Q I r h;obtain ⟨p,bs,rfl,hq,q⟩:=h;obtain ⟨u,rfl,rx⟩:=ap0 r
 cases rx
 obtain ⟨its,r',pl,hz⟩:=I.list hq;have hlen:its.length=bs.length:=by rw [<- r'.length,q0e]
 have hp:p ≠ s.heap.objs.size:=by
  obtain ⟨o,ho,_⟩:=pl.isList;exact q0q (q0f ho)
 refine call_all_walk (wpAny_pyIter_list pl.isList ?_);refine ⟨s.heap.objs.size,_,_,_,_,_,λi=>(bs[i]?).getD true,rfl,Walks.list (A:=X.A.in1) (I.ok.hd hc) _ p hp its.toArray,⟨⟨_,z0b _ rfl,rfl,rfl⟩,pl.isList.at λo e=>q0j _ e⟩,?_,?_⟩
 ·intro i v s' Q' E' hv hQ
  have hv':its[i]? = some v:=by simpa using hv
  have hi:i<bs.length:=by rw [<- hlen];exact (q0g.mp hv').1
  obtain ⟨u,hu,ru⟩:=r'.get (i:=i) (x:=.bl bs[i]) (by rw [q0m,q0d hi];rfl)
  rw [hv'] at hu
  cases hu
  cases ru
  simp only [q0d hi] at hQ;exact wpAny_truthy_bool hQ
 ·intro h' tk kk
  have e:(z0r its.toArray.size).all (λi=>(bs[i]?).getD true)=bs.all id:=by rw [q0r,hlen,aG1]
  rw [e];refine ⟨.bl _,H,I.kept (t':=tk) λb o e=>kk b o ?_ (q0j _ e),rfl,q⟩;intro z;have:b=s.heap.objs.size:=by simpa using z
  exact absurd (q0f e) (by rw [this];exact j0r _)
def bB9 (K:q0a):R2:=λx y H Q => ∃ d d',d.isV=false/\IsD K H x d/\IsD K H y d'/\okD d d'=true/\dpD d<=60/\Q (.bl (!eqD d d')) H
theorem aq3 (hu:X.A.units+64<cLine):OpR X (compareOp .NotEq) (bB9 X.K):=by
 intro pins s σ H x y v u Q I rx ry h;obtain ⟨d,d',nf,h1,h2,ok,dp,q⟩:=h;have fin:EP X pins σ Q (.bool (!eqD d d')) s:=⟨.bl _,H,I,rfl,q⟩
 cases h1 with
 | v f =>
  cases h2 with
  | v f'=>exact absurd (show true=false from nf) (by decide)
  | tup _ _=>simp [okD] at ok
  | lst _ _=>simp [okD] at ok
 | @tup p xs ds h t =>
  cases h2 with
  | v f'=>simp [okD] at ok
  | @tup p' ys ds' h' t' =>
   cases (show v=Value.ref p from rx)
   cases (show u=Value.ref p' from ry)
   rw [okD] at ok;rw [dpD] at dp;rw [eqD] at fin;obtain ⟨its,r1,i1,_⟩:=I.tuple h;obtain ⟨its',r2,i2,_⟩:=I.tuple h';have q':∀ (j:Nat) (h1:j<its.length) (h2:j<its'.length),SeqAt.EqAt X.A.in1 s its[j] its'[j] (am1 ds ds' j):=λj h1 h2=>aj2 (A:=X.A.in1) I t t' ok r1 r2 (by show X.A.units+1+_<_;lia) j h1 h2
   have z:=SeqAt.RcNeAt.tuples (A:=X.A) (items:=its.toArray) (items2:=its'.toArray) (e:=am1 ds ds') i1 i2 (by lia) (λj h1 h2=>q' j (by simpa using h1) (by simpa using h2))
   have e1:its.toArray.size=ds.length:=by rw [q0r,<- r1.length,t.length]
   have e2:its'.toArray.size=ds'.length:=by rw [q0r,<- r2.length,t'.length]
   rw [e1,e2,ao5] at z;exact PySem.EqBoolInt.of_rcne z fin
  | lst _ _=>simp [okD] at ok
 | @lst p xs ds h t =>
  cases h2 with
  | v f'=>simp [okD] at ok
  | tup _ _=>simp [okD] at ok
  | @lst p' ys ds' h' t' =>
   cases (show v=Value.ref p from rx)
   cases (show u=Value.ref p' from ry)
   rw [okD] at ok;rw [dpD] at dp;rw [eqD] at fin;obtain ⟨its,r1,i1,_⟩:=I.list h;obtain ⟨its',r2,i2,_⟩:=I.list h';have q':∀ (j:Nat) (h1:j<its.length) (h2:j<its'.length),SeqAt.EqAt X.A.in1 s its[j] its'[j] (am1 ds ds' j):=λj h1 h2=>aj2 (A:=X.A.in1) I t t' ok r1 r2 (by show X.A.units+1+_<_;omega) j h1 h2
   have e1:its.toArray.size=ds.length:=by rw [q0r,<- r1.length,t.length]
   have e2:its'.toArray.size=ds'.length:=by rw [q0r,<- r2.length,t'.length]
   by_cases hl:ds.length=ds'.length
   ·have z:=SeqAt.RcNeAt.lists (A:=X.A) (items:=its.toArray) (items2:=its'.toArray) (e:=am1 ds ds') i1.isList i2.isList (by rw [e1,e2,hl]) (by lia) (λj h1 h2=>q' j (by simpa using h1) (by simpa using h2))
    rw [e1,ap9 ds ds' hl] at z;exact PySem.EqBoolInt.of_rcne z fin
   ·rw [aD3 ds ds' hl] at fin
    exact PySem.EqBoolInt.of_rcne (SeqAt.RcNeAt.lists_lengths (A:=X.A) i1.isList i2.isList (by rw [e1,e2];simpa using hl) ⋯) fin
end
def t6 (D:Addr) (n:Nat) (Pv:Nat->St->Hp->Prop) (i:Nat) (σ4:St) (y:V) (H5:Hp):Prop :=
 ∃ ys,H5 D=some (.lst ys)/\ys.length<sizeLine/\∃ m',m'<n-i/\(m'=n-(i+1)/\i+1<=n/\Pv (i+1) σ4 (upd H5 D (.lst (ys ++ [y]))))
theorem t6.mk {D:Addr} {n:Nat} {Pv:Nat->St->Hp->Prop} {i:Nat} {σ4:St} {y:V} {H5:Hp} {ys:List V} (hi:i<n) (h:H5 D=some (.lst ys)) (hl:ys.length<sizeLine) (p:Pv (i+1) σ4 (upd H5 D (.lst (ys ++ [y])))):t6 D n Pv i σ4 y H5 :=
 ⟨ys,h,hl,_,by lia,rfl,hi,p⟩
def bb4 (n:Nat) (Pv:Nat->St->Hp->Prop) (i:Nat) (σ4:St) (H5:Hp):Prop:=∃ m',m'<n-i/\(m'=n-(i+1)/\i+1<=n/\Pv (i+1) σ4 H5)
theorem bb4.mk {n:Nat} {Pv:Nat->St->Hp->Prop} {i:Nat} {σ4:St} {H5:Hp} (hi:i<n) (p:Pv (i+1) σ4 H5):bb4 n Pv i σ4 H5:=⟨_,⋯,rfl,hi,p⟩
section
variable {K:q0a} {a D:Addr} {xs:List V} {g:TG} {te:TE} {σ0:St} {H0:Hp} {Q:VK}
theorem bf1 (Pv:Nat->St->Hp->Prop) (h0:Pv 0 σ0 H0) (hl:∀ i σ H,i<=xs.length->Pv i σ H->SqL K H a xs)
  (hs:∀ i x σ H,xs[i]? = some x->Pv i σ H->g x σ H λσ4 H4=>te σ4 H4 λy H5=>t6 D xs.length Pv i σ4 y H5) (hd:∀ σ H,Pv xs.length σ H->Q (.ref D) H) :
  ∃ W:Nat->Nat->St->Hp->Prop,(∃ m,W 0 m σ0 H0)/\∀ i m σc H2,W i m σc H2->((Itl K a).stop i H2/\Q (.ref D) H2) \/
   ((Itl K a).go i H2/\∀ x H3,(Itl K a).yld i H2 x H3->g x σc H3 λσ4 H4=>te σ4 H4 λy H5 => ∃ ys,H5 D=some (.lst ys)/\ys.length<sizeLine/\∃ m',m'<m/\W (i+1) m' σ4 (upd H5 D (.lst (ys ++ [y])))):=by
 refine ⟨λi m σ H=>m=xs.length-i/\i<=xs.length/\Pv i σ H,⟨xs.length,by simp,z0s _,h0⟩,?_⟩
 rintro i m σ H ⟨rfl,hi,p⟩;have q:=hl i σ H hi p
 by_cases hlt:i<xs.length
 ·refine .inr ⟨⟨xs,xs[i],q,q0d hlt⟩,?_⟩
  rintro x H3 ⟨rfl,hx⟩;exact hs i x σ _ (hx xs q) p
 ·have e:i=xs.length:=⋯
  subst e;exact .inl ⟨⟨xs,q,q0h _⟩,hd σ H p⟩
theorem aX6 {lo:Int} {n:Nat} (Pv:Nat->St->Hp->Prop) (h0:Pv 0 σ0 H0)
  (hs:∀ i σ H,i<n->Pv i σ H->g (.int (lo+i)) σ H λσ4 H4=>te σ4 H4 λy H5=>t6 D n Pv i σ4 y H5) (hd:∀ σ H,Pv n σ H->Q (.ref D) H) :
  ∃ W:Nat->Nat->St->Hp->Prop,(∃ m,W 0 m σ0 H0)/\∀ i m σc H2,W i m σc H2->((Itr lo n).stop i H2/\Q (.ref D) H2) \/
   ((Itr lo n).go i H2/\∀ x H3,(Itr lo n).yld i H2 x H3->g x σc H3 λσ4 H4=>te σ4 H4 λy H5 => ∃ ys,H5 D=some (.lst ys)/\ys.length<sizeLine/\∃ m',m'<m/\W (i+1) m' σ4 (upd H5 D (.lst (ys ++ [y])))):=by
 refine ⟨λi m σ H=>m=n-i/\i<=n/\Pv i σ H,⟨n,by simp,z0s _,h0⟩,?_⟩
 rintro i m σ H ⟨rfl,hi,p⟩
 by_cases hlt:i<n
 ·refine .inr ⟨hlt,?_⟩
  rintro x H3 ⟨rfl,rfl⟩;exact hs i σ _ hlt p
 ·have e:i=n:=⋯
  subst e;exact .inl ⟨q0h _,hd σ H p⟩
end
end L2
namespace R
theorem aq9 {n d:Int} (hd:0<d) (hc:q0y n d=1):(q0z n d).num=n/\((q0z n d).den:Int)=d:=by
 obtain ⟨k,rfl⟩:∃ k:Nat,d=k:=⟨d.toNat,by lia⟩
 have hk:k ≠ 0:=by lia
 have hc':n.natAbs.Coprime k:=by
  rw [y0x] at hc
  simpa [q1p] using hc
 have e:(⟨n,k,hk,hc'⟩:Rat)=q0z n k:=Rat.mk_eq_divInt;rw [<- e];exact ⟨rfl,rfl⟩
theorem ac2 {n d t b:Int} (hd:0<d) (hc:q0y n d=1) (hb:b ≠ 0) (h:n*b=t*d):n=(q0z t b).num/\d=((q0z t b).den:Int):=by
 have e:q0z n d=q0z t b:=(y0s (by lia) hb).mpr h
 obtain ⟨h1,h2⟩:=aq9 hd hc;rw [e] at h1 h2;exact ⟨h1.symm,h2.symm⟩
theorem w4 {g n:Int} (hg:g ≠ 0):(g*n).fdiv g=n:=by
 rw [y0g];exact Int.mul_fdiv_cancel n hg
theorem Q4 {t b:Int} (hb:b ≠ 0):0<q0y t b:=Int.gcd_pos_of_ne_zero_right t hb
theorem Z4 {t b n d:Int} (hb:b ≠ 0) (h1:t=(q0y t b:Int)*n) (h2:b=(q0y t b:Int)*d):q0y n d=1:=by
 have hg:=Q4 (t:=t) hb
 have e:q0y ((q0y t b:Int)*n) ((q0y t b:Int)*d)=q0y t b*q0y n d:=by
  rw [Int.gcd_mul_left];simp
 rw [<- h1,<- h2] at e;exact Nat.eq_of_mul_eq_mul_left hg (by rw [<- e,q1q])
theorem aw3 {t b g:Int} (hb:b ≠ 0) (hg:g=if b<0 then -(Int.gcd t b:Int) else (Int.gcd t b:Int)):t.fdiv g=(Rat.divInt t b).num/\b.fdiv g=((Rat.divInt t b).den:Int):=by
  have hp:(0:Int)<Int.gcd t b:=by have:=Q4 (t:=t) hb;lia
  obtain ⟨n,hn⟩:=Int.gcd_dvd_left t b;obtain ⟨d,hd⟩:=Int.gcd_dvd_right t b;have hc:=Z4 hb hn hd
  by_cases hs:b<0
  · rw [if_pos hs] at hg
    subst hg;have hg0:(-(Int.gcd t b:Int)) ≠ 0:=⋯;have e1:t=-(Int.gcd t b:Int)*(-n):=by rw [Int.neg_mul_neg];exact hn
    have e2:b=-(Int.gcd t b:Int)*(-d):=by rw [Int.neg_mul_neg];exact hd
    have f1 : t.fdiv (-(Int.gcd t b : Int)) = -n := by conv => lhs; arg 1; rw [e1]
                                                       exact w4 hg0
    have f2 : b.fdiv (-(Int.gcd t b : Int)) = -d := by conv => lhs; arg 1; rw [e2]
                                                       exact w4 hg0
    rw [f1,f2]
    have hd0:0 < -d:=by
      rcases Int.lt_or_le d 0 with z | z
      · lia
      · have:=Int.mul_nonneg (Int.le_of_lt hp) z;lia
    refine ac2 hd0 (by rw [Int.gcd_neg,Int.neg_gcd];exact hc) hb ?_
    conv=>lhs;rw [hd]
    conv=>rhs;rw [hn]
    generalize (Int.gcd t b:Int)=g
    grind
  · rw [if_neg hs] at hg
    subst hg;have hg0:((Int.gcd t b:Int)) ≠ 0:=by lia
    have f1 : t.fdiv (Int.gcd t b : Int) = n := by conv => lhs; arg 1; rw [hn]
                                                   exact w4 hg0
    have f2 : b.fdiv (Int.gcd t b : Int) = d := by conv => lhs; arg 1; rw [hd]
                                                   exact w4 hg0
    rw [f1,f2]
    have hd0:0<d:=by
      rcases Int.lt_or_le 0 d with z | z
      · exact z
      · have:=Int.mul_nonneg (Int.le_of_lt hp) (show 0<=-d by lia);rw [Int.mul_neg] at this;lia
    refine ac2 hd0 hc hb ?_
    conv=>lhs;rw [hd]
    conv=>rhs;rw [hn]
    generalize (Int.gcd t b:Int)=g
    grind
theorem af0 {x y:Int} (h:∀ k:Int,k ∣ x->k ∣ y->k ∣ 1):q0y x y=1:=by
 have:=h (q0y x y:Int) (j0v x y) (j0q x y);have h2:=u0a.mpr this
 simpa using h2
theorem aj3 {x y k:Int} (h:q0y x y=1) (h1:k ∣ x) (h2:k ∣ y):k ∣ 1:=by
 have:=Int.dvd_coe_gcd h1 h2;rw [h] at this
 simpa using this
theorem af9 {k m n:Int} (h1:q0y k m=1) (h2:q0y k n=1):q0y k (m*n)=1:=by
 rw [y0x] at *;rw [z0k];exact q1p.mul_right h1 h2
theorem aE4 {k m:Int} (h1:q0y k m=1):q0y m k=1:=by rw [q1j];exact h1
theorem ba7 {k m n:Int} (h1:q0y k m=1) (h:n ∣ m):q0y k n=1:=af0 λj a b=>aj3 h1 a (y0h b h)
theorem aj5 {k m n:Int} (h1:q0y k m=1) (h:n ∣ k):q0y n m=1:=af0 λj a b=>aj3 h1 (y0h a h) b
theorem aD6 {k m n:Int} (h1:q0y k m=1) (h:k ∣ m*n):k ∣ n:=by
 rw [y0x] at h1;have:=u0a.mpr h;rw [z0k] at this;exact u0a.mp (q1p.dvd_of_dvd_mul_left h1 this)
theorem bp0 {a b c d g top h:Int} (hb:0<b) (hd:0<d) (h1:q0y a b=1) (h2:q0y c d=1) (hg:g=(q0y b d:Int)) (ht:top=a*d.fdiv g+c*b.fdiv g) (hh:h=(q0y top g:Int)) :
  0<b.fdiv g*d.fdiv h/\q0y (top.fdiv h) (b.fdiv g*d.fdiv h)=1/\top.fdiv h*(b*d)=(a*d+c*b)*(b.fdiv g*d.fdiv h):=by
 have hgp:0<g:=by rw [hg];have:=Q4 (t:=b) (b:=d) (by lia);lia
 have hhp:0<h:=by rw [hh];have:=Q4 (t:=top) (b:=g) (by lia);lia
 obtain ⟨b',hb'⟩:g ∣ b:=hg ▸ j0v b d;obtain ⟨d',hd'⟩:g ∣ d:=hg ▸ j0q b d;have hc:q0y b' d'=1:=Z4 (t:=b) (b:=d) (by lia) (by rw [<- hg];exact hb') (by rw [<- hg];exact hd')
 have eb:b.fdiv g=b':=by rw [hb'];exact w4 (by lia)
 have ed:d.fdiv g=d':=by rw [hd'];exact w4 ⋯
 rw [eb,ed] at ht;obtain ⟨n,hn⟩:h ∣ top:=hh ▸ j0v top g;obtain ⟨g',hg'⟩:h ∣ g:=hh ▸ j0q top g;have hng:q0y n g'=1:=Z4 (t:=top) (b:=g) (by lia) (by rw [<- hh];exact hn) (by rw [<- hh];exact hg')
 have en:top.fdiv h=n:=by rw [hn];exact w4 (by lia)
 have edh:d.fdiv h=g'*d':=by
  have:d=h*(g'*d'):=by rw [hd',hg',q1a]
  rw [this];exact w4 ⋯
 rw [eb,en,edh]
 have bp:0<b':=by
  rcases g0j 0 b' with z | z
  ·exact z
  ·have:=g0r (q1k hgp) (show 0<=-b' by lia);rw [g0t] at this;lia
 have dp:0<d':=by
  rcases g0j 0 d' with z | z
  ·exact z
  ·have:=g0r (q1k hgp) (show 0<=-d' by lia);rw [g0t] at this;lia
 have gp:0<g':=by
  rcases g0j 0 g' with z | z
  ·exact z
  ·have:=g0r (q1k hhp) (show 0<=-g' by lia);rw [g0t] at this;lia
 have t1:q0y top b'=1:=af0 λk ka kb=>by
  have k1:k ∣ a*d':=by
   have:k ∣ top-c*b':=Int.dvd_sub ka (y0h kb (u0d _ _));rw [ht] at this
   simpa using this
  have k2:k ∣ a:=by
   rw [y0g] at k1;exact aD6 (aj5 hc kb) k1
  exact aj3 h1 k2 (y0h kb (hb' ▸ u0d _ _))
 have t2:q0y top d'=1:=af0 λk ka kb=>by
  have k1:k ∣ c*b':=by
   have:k ∣ top-a*d':=Int.dvd_sub ka (y0h kb (u0d _ _));rw [ht] at this;have e:a*d'+c*b'-a*d'=c*b':=by lia
   rw [e] at this;exact this
  have k2:k ∣ c:=by
   rw [y0g] at k1;exact aD6 (aE4 (ba7 hc kb)) k1
  exact aj3 h2 k2 (y0h kb (hd' ▸ u0d _ _))
 have ndt:n ∣ top:=hn ▸ u0d _ _;refine ⟨u0w bp (u0w gp dp),af9 (aj5 t1 ndt) (af9 hng (aj5 t2 ndt)),?_⟩;have e1:a*d+c*b=g*(h*n):=by rw [<- hn,ht,hb',hd'];grind
 rw [e1,hb',hd',hg']
 grind
theorem aL8 (q:Rat):q0y q.num q.den=1:=by
 rw [y0x]
 simpa using q.reduced
theorem A4 (q:Rat):(0:Int)<q.den:=by have:=q.den_nz;lia
theorem ar2 (p q:Rat):p+q=q0z (p.num*q.den+q.num*p.den) (p.den*q.den):=by
 have h1:=A4 p;have h2:=A4 q
 conv=>lhs;rw [<- z0j p,<- z0j q]
 exact m0w _ _ ⋯ (by lia)
theorem aU4 (p q:Rat):p-q=q0z (p.num*q.den-q.num*p.den) (p.den*q.den):=by
 have h1:=A4 p;have h2:=A4 q
 conv=>lhs;rw [<- z0j p,<- z0j q]
 exact Rat.divInt_sub_divInt _ _ ⋯ ⋯
theorem aC7 (p q:Rat):p*q=q0z (p.num*q.num) (p.den*q.den):=by
 conv=>lhs;rw [<- z0j p,<- z0j q]
 exact y0a _ _
theorem aX4 (p q:Rat):p / q=q0z (p.num*q.den) (p.den*q.num):=by
 rw [v0m,Rat.inv_def]
 conv=>lhs;lhs;rw [<- z0j p]
 exact y0a _ _
theorem aS9 (a b:Int):q0y b (a.fmod b)=q0y a b:=by
 have e:=Int.mul_fdiv_add_fmod a b;rw [q1j a b]
 conv=>rhs;rw [<- e]
 rw [show b*a.fdiv b+a.fmod b=a.fmod b+a.fdiv b*b by rw [y0g,Int.add_comm]]
 simp
theorem al8 (a:Int) {b:Int} (hb:b ≠ 0):(a.fmod b).natAbs<b.natAbs:=by
 rcases g0j b 0 with h | h
 ·have e:=Int.neg_fmod_neg a b
  have h1:=y0z (-a) (show 0 < -b by lia)
  have h2:=v0w (-a) (show 0 < -b by omega)
  omega
 ·have h1:=y0z a (show 0<b by lia)
  have h2:=v0w a (show 0<b by lia)
  omega
open PySem L2 PyProof.Rows
section
variable {P:Program} {w:World} {K:q0a} {mg:Str->Option Value} {base:Heap}
theorem Y6 {a:Int} {m:Nat} (h:a.natAbs<2 ^ m):Builtin.Int.intBits a<=m:=by
 unfold Builtin.Int.intBits
 split
 ·exact z0s _
 ·rename_i hz
  have h0:a.natAbs ≠ 0:=by
   intro z;have:a=0:=by lia
   simp [this] at hz
  have:=(Nat.log2_lt h0).mpr h
  lia
theorem U0 {a b:Int} {m n:Nat} (ha:a.natAbs<2 ^ m) (hb:b.natAbs<2 ^ n) (h:m+n<=134217728:=by decide):IntMulOk a b:=IntMulOk.of_le (Y6 ha) (Y6 hb) h
theorem aa7 {j:Int} (h0:j ≠ 0) (h:j.natAbs<2 ^ 9000):au8 i j:=⟨h0,(Nat.log2_lt (by lia)).mpr h⟩
theorem i6 {m n:Nat} (h:m<=n):2 ^ m<=2 ^ n:=j0f (by decide) h
theorem Y1 {a:Nat} {m n:Nat} (h:a<2 ^ m) (hm:m<=n:=by decide):a<2 ^ n:=q0b h (i6 hm)
def E8 (q:Rat):List V:=[.int q.num,.int (q.den:Int)]
structure Bd (q:Rat):Prop where
 n:q.num.natAbs<2 ^ 3000
 d:q.den<2 ^ 3000
def Num (K:q0a) (H:Hp) (v:V) (q:Rat):Prop:=∃ p,v=.ref p/\SqT K H p (E8 q)
def am9 (H:Hp) (Q:VK) (q:Rat):Prop:=∀ r H',c9 H H'->H' r=some (.tup (E8 q))->Q (.ref r) H'
theorem Num.same {K:q0a} {H H':Hp} {v:V} {q:Rat} (n:Num K H v q) (e:c9 H H'):Num K H' v q:=let ⟨p,h1,h2⟩:=n;⟨p,h1,e.tup h2⟩
theorem t8:(2:Nat)<=sizeLine:=by decide
theorem aU9:(1:Nat)<=sizeLine:=by decide
theorem aw6 {a b:Int} {n:Nat} (hb:b ≠ 0) (h:b.natAbs<n):((q0y a b:Nat):Int).natAbs<n:=by
 have h1:q0y a b ∣ b.natAbs:=by
  have:=u0a.mpr (j0q a b)
  simpa using this
 have h2:=g0y (by lia) h1
 simp only [q0w]
 lia
theorem aS8 {a b:Int} {n:Nat} (hb:a ≠ 0) (h:a.natAbs<n):((q0y a b:Nat):Int).natAbs<n:=by
 rw [q1j];exact aw6 hb h
theorem ao1 {a g:Int} (hg:0<g) (hd:g ∣ a):(a.fdiv g).natAbs<=a.natAbs:=by
 obtain ⟨n,rfl⟩:=hd;rw [w4 ⋯,z0k];exact v0a _ ⋯
theorem at7 {q:Rat}:q.num=0 ↔ q=0:=by
 constructor
 ·intro h;exact m0p.mp h
 ·intro h;rw [h];rfl
theorem at0 (q:Rat):atI (E8 q) 0=some (.int q.num):=rfl
theorem at1 (q:Rat):atI (E8 q) 1=some (.int (q.den:Int)):=rfl
theorem bq4 {a b:Int} (h:a.natAbs<2 ^ 64):IntMulOk a b:=IntMulOk.of_left (Y6 h)
theorem ap8 {a b:Int} (h:b.natAbs<2 ^ 64):IntMulOk a b:=IntMulOk.of_right (Y6 h)
def ap3:Sp:=λvs H Q _ => ∃ t b:Int,vs=[.int t,.int b]/\b ≠ 0/\b.natAbs<2 ^ 6000/\am9 H Q (q0z t b)
def y9 (H:Hp) (u:Addr):Prop:=∃ g m p:Int,H u=some (.lst [.int g,.int m,.int p])/\0<=g/\0<=m/\m<2 ^ 40/\0<p/\p<2 ^ 40
def A0 (u:Addr) (H H':Hp):Prop:=∀ b o,H b=some o->b ≠ u->H' b=some o
theorem c9.x {H H':Hp} (s:c9 H H') (u:Addr):A0 u H H':=λb o h _=>s b o h
theorem A0.trans {u:Addr} {H H1 H2:Hp} (a:A0 u H H1) (b:A0 u H1 H2):A0 u H H2:=λc o h n=>b c o (a c o h n) n
theorem A0.upd (u:Addr) (H:Hp) (o:HO):A0 u H (upd H u o):=λb p h n=>by rw [i8 n];exact h
theorem c9.urn {H H':Hp} {u:Addr} (s:c9 H H') (h:y9 H u):y9 H' u:=let ⟨g,m,p,h1,r⟩:=h;⟨g,m,p,s _ _ h1,r⟩
def bt3 (K:q0a):Sp:=λvs H Q _ => ∃ (a:Addr) (ns:List Int) (k:Int),vs=[.ref a,.int k]/\SqL K H a (ns.map V.int)/\0<=k/\k<64/\∀ r H',c9 H H'->H r=none->y9 H' r->Q (.ref r) H'
def bw0:List V:=[.int 1899999979,.int 1899998977,.int 1899997949,.int 1899996929,.int 1899995927,.int 1899994903,.int 1899993877,.int 1899992839]
theorem bi3 {k:Int} (h0:0<=k):∃ p:Int,atI bw0 (k.fmod 8)=some (.int p)/\1899992839<=p/\p<=1899999979:=by
 have h1:=y0z k (show (0:Int)<8 by decide)
 have h2:=v0w k (show (0:Int)<8 by decide)
 have h3:k.fmod 8=0 \/ k.fmod 8=1 \/ k.fmod 8=2 \/ k.fmod 8=3 \/ k.fmod 8=4 \/ k.fmod 8=5 \/ k.fmod 8=6 \/ k.fmod 8=7:=by lia
 rcases h3 with h | h | h | h | h | h | h | h <;> rw [h] <;> exact ⟨_,rfl,by decide,by decide⟩
theorem bf6 {ns:List Int} {k:Int} (h0:0<=k) (h:k<(ns.length:Int)):∃ v:Int,atI (ns.map V.int) k=some (.int v):=by
 have hk:k.toNat<ns.length:=by lia
 have ek:k=((k.toNat:Nat):Int):=by lia
 have q:atI (ns.map V.int) ((k.toNat:Nat):Int)=some (.int ns[k.toNat]):=v9 (by rw [q0m,q0d hk] <;> rfl)
 rw [<- ek] at q;exact ⟨_,q⟩
def F9:Sp:=λvs H Q _ => ∃ (u:Addr) (n:Int),vs=[.ref u,.int n]/\y9 H u/\0<n/\n<2 ^ 40/\∀ r H',0<=r->r<n->A0 u H H'->y9 H' u->Q (.int r) H'
structure Sm (q:Rat):Prop where
 n:q.num.natAbs<=10 ^ 12
 d:q.den<=10 ^ 12
theorem N9 {t b:Int} (hb:b ≠ 0):(q0z t b).num.natAbs<=t.natAbs/\(q0z t b).den<=b.natAbs:=by
 have hp:=Q4 (t:=t) hb;obtain ⟨e1,e2⟩:=aw3 (t:=t) (b:=b) (g:=if b<0 then -(q0y t b:Int) else (q0y t b:Int)) hb rfl
 have key:∀ x:Int,(q0y t b:Int) ∣ x->(x.fdiv (if b<0 then -(q0y t b:Int) else (q0y t b:Int))).natAbs<=x.natAbs:=by
  rintro x ⟨n,hn⟩
  split
  ·have:x=-(q0y t b:Int)*(-n):=by rw [Int.neg_mul_neg];exact hn
   rw [this,w4 (by lia),z0k]
   exact v0a _ (by lia)
  ·rw [hn,w4 (by lia),z0k]
   exact v0a _ (by lia)
 have k1:=key t (j0v t b);have k2:=key b (j0q t b);rw [e1] at k1;rw [e2] at k2;exact ⟨k1,by lia⟩
theorem bA0 {t b:Int} (hb:b ≠ 0) (h1:t.natAbs<=10 ^ 12) (h2:b.natAbs<=10 ^ 12):Sm (q0z t b):=by
 obtain ⟨e1,e2⟩:=N9 (t:=t) hb;exact ⟨by lia,by lia⟩
def aU6:Sp:=λvs H Q _ => ∃ u,vs=[.ref u]/\y9 H u/\∀ r H',r=0 \/ r=1 \/ r=2->A0 u H H'->y9 H' u->Q (.int r) H'
theorem E1 {H:Hp} {u l:Addr} (hu:y9 H u) (hl:H l=none):l ≠ u:=by
 obtain ⟨g,m,p,h,r⟩:=hu;exact (j3 h hl).symm
theorem J2 {H:Hp} {u l:Addr} {o:HO} (hu:y9 H u) (hl:H l=none):y9 (upd H l o) u:=by
 obtain ⟨g,m,p,h,r⟩:=hu;exact ⟨g,m,p,by rw [i8 (j3 h hl)];exact h,r⟩
def spNumber:Sp:=λvs H Q _ => ∃ u kd,vs=[.ref u,.int kd]/\y9 H u/\∀ r q H',Sm q->A0 u H H'->y9 H' u->H' r=some (.tup (E8 q))->Q (.ref r) H'
def ar9:Sp:=λvs H Q _ => ∃ i:Int,vs=[.int i]/\Q (.bl true) H
theorem aS7:z0h K (.type "int") (.type "int")=some true:=by unfold z0h;rw [if_pos (by decide)]
theorem aO7:z0h K (.type "int") (.type "bool")=some false:=by kernel_rfl
theorem aS6:z0h K (.type "tuple") (.type "tuple")=some true:=by unfold z0h;rw [if_pos (by decide)]
def ad4 (q:Rat):D:=.tup [.v (.int q.num),.v (.int (q.den:Int))]
theorem aO8 {H:Hp} {a:Addr} {q:Rat} (h:SqT K H a (E8 q)):IsD K H (.ref a) (ad4 q):=.tup h (.cons (.v rfl) (.cons (.v rfl) .nil))
theorem ba1 (q:Rat):eqD (ad4 q) (ad4 q)=true:=by simp [ad4,eqD,Q9,eqV]
theorem aZ3 (p q:Rat):okD (ad4 p) (ad4 q)=true:=by simp [ad4,okD,ah1]
theorem by2 (q:Rat):dpD (ad4 q)<=60:=by simp [ad4,dpD,am4]
def aK3 (K:q0a):Sp:=λvs H Q _ => ∃ x q,vs=[x]/\(∃ p,x=.ref p/\SqT K H p (E8 q))/\(q.den:Int).natAbs<2 ^ 6000/\∀ H',c9 H H'->Q (.bl true) H'
end
open PySem L2 PyProof.Rows
inductive C9 (H:Hp):List V->List Rat->Prop where
 | nil:C9 H [] []
 | cons {p:Addr} {q:Rat} {vs:List V} {qs:List Rat} (h:H p=some (.tup (E8 q))) (t:C9 H vs qs):C9 H (.ref p :: vs) (q :: qs)
def aa2 (H H':Hp):Prop:=∀ b xs,H b=some (.tup xs)->H' b=some (.tup xs)
theorem _root_.L2.c9.tups {H H':Hp} (s:c9 H H'):aa2 H H':=λb xs h=>s b _ h
theorem A0.tups {u:Addr} {H H':Hp} (s:A0 u H H') (hu:y9 H u):aa2 H H':=λb xs h=>by
 obtain ⟨g,m,p,e,_⟩:=hu;exact s b _ h (bt7 h e (by intro z;cases z))
theorem aa2.lst {H:Hp} {a:Addr} {xs:List V} {o:HO} (h:H a=some (.lst xs)):aa2 H (upd H a o):=λb ys e=>by
 rw [i8 (bt7 e h (by intro z;cases z))];exact e
theorem aa2.new {H:Hp} {a:Addr} {o:HO} (h:H a=none):aa2 H (upd H a o):=(c9.new h o).tups
theorem C9.mono {H H':Hp} (e:aa2 H H'):∀ {vs:List V} {qs:List Rat},C9 H vs qs->C9 H' vs qs:=by
 intro _ _ a;induction a with
 | nil=>exact .nil
 | cons h t ih=>exact .cons (e _ _ h) ih
theorem C9.length {H:Hp}:∀ {vs:List V} {qs:List Rat},C9 H vs qs->vs.length=qs.length:=by
 intro _ _ a;induction a with
 | nil=>exact rfl
 | cons _ t ih=>exact congrArg (· + 1) ih
theorem C9.take {H:Hp}:∀ {vs:List V} {qs:List Rat} (m:Nat),C9 H vs qs->C9 H (vs.take m) (qs.take m)
 | _,_,0,_=>by simp;exact .nil
 | _,_,_+1,.nil=>.nil
 | _,_,m+1,.cons h t=>.cons h (t.take m)
theorem C9.drop {H:Hp}:∀ {vs:List V} {qs:List Rat} (m:Nat),C9 H vs qs->C9 H (vs.drop m) (qs.drop m)
 | _,_,0,h=>h
 | _,_,_+1,.nil=>.nil
 | _,_,m+1,.cons h t=>t.drop m
theorem C9.append {H:Hp}:∀ {vs ws:List V} {qs rs:List Rat},C9 H vs qs->C9 H ws rs->C9 H (vs ++ ws) (qs ++ rs):=by
 intro _ _ _ _ a b;induction a with
 | nil=>exact b
 | cons h t ih=>exact .cons h ih
theorem C9.get {H:Hp}:∀ {vs:List V} {qs:List Rat} {i:Nat} {q:Rat},C9 H vs qs->qs[i]? = some q->∃ p,vs[i]? = some (.ref p)/\H p=some (.tup (E8 q))
 | _,_,_,_,.nil,e=>by simp at e
 | _,_,0,_,.cons h t,e=>by
  have:=Option.some.inj e;subst this;exact ⟨_,rfl,h⟩
 | _,_,i+1,_,.cons h t,e=>by
  obtain ⟨p,e1,e2⟩:=t.get (i:=i) (by simpa using e)
  exact ⟨p,by simpa using e1,e2⟩
theorem C9.getV {H:Hp}:∀ {vs:List V} {qs:List Rat} {i:Nat} {v:V},C9 H vs qs->vs[i]? = some v->∃ p q,v=.ref p/\qs[i]? = some q/\H p=some (.tup (E8 q))
 | _,_,_,_,.nil,e=>by simp at e
 | _,_,0,_,.cons h t,e=>by
  have:=Option.some.inj e;subst this;exact ⟨_,_,rfl,rfl,h⟩
 | _,_,i+1,_,.cons h t,e=>by
  obtain ⟨p,q,e0,e1,e2⟩:=t.getV (i:=i) (by simpa using e)
  exact ⟨p,q,e0,by simpa using e1,e2⟩
theorem C9.isDs {K:q0a} {H:Hp}:∀ {vs:List V} {qs:List Rat},C9 H vs qs->ak3 K H vs (qs.map ad4)
 | _,_,.nil=>.nil
 | _,_,.cons h t=>.cons (aO8 (SqT.of h)) t.isDs
theorem bo6 {p q:Rat} (h1:p.num=q.num) (h2:p.den=q.den):p=q:=by
 cases p;cases q;simp at h1 h2;subst h1 h2;rfl
theorem bl1 (p q:Rat):eqD (ad4 p) (ad4 q)=decide (p=q):=by
 by_cases h:p=q
 ·subst h;rw [ba1];simp
 ·rw [decide_eq_false h]
  simp only [ad4,eqD,Q9,eqV,Bool.and_true]
  by_cases h1:p.num=q.num
  ·have h2:p.den ≠ q.den:=λz=>h (bo6 h1 z)
   have:((p.den:Int) == (q.den:Int))=false:=by
    rw [beq_eq_false_iff_ne];intro z;exact h2 (by lia)
   rw [this,Bool.and_false]
  ·have:(p.num == q.num)=false:=by rw [beq_eq_false_iff_ne];exact h1
   rw [this,Bool.false_and]
theorem aH9:∀ ps qs:List Rat,Q9 (ps.map ad4) (qs.map ad4)=decide (ps=qs)
 | [],[]=>by simp [Q9]
 | [],_ :: _=>by simp [Q9]
 | _ :: _,[]=>by simp [Q9]
 | p :: ps,q :: qs=>by
  rw [j0d,j0d,Q9,bl1,aH9 ps qs]
  by_cases h1:p=q <;> by_cases h2:ps=qs <;> simp [h1,h2]
theorem aH4:∀ ps qs:List Rat,ah1 (ps.map ad4) (qs.map ad4)=true
 | [],[]=>by simp [ah1]
 | [],_ :: _=>by simp [ah1]
 | _ :: _,[]=>by simp [ah1]
 | p :: ps,q :: qs=>by rw [j0d,j0d,ah1,aZ3,aH4 ps qs];rfl
theorem aI1:∀ qs:List Rat,am4 (qs.map ad4)<=1
 | []=>by simp [am4]
 | q :: qs=>by
  have h1:dpD (ad4 q)<=1:=by simp [ad4,dpD,am4]
  have h2:=aI1 qs;rw [j0d,am4]
  lia
def O6 (qs:List Rat):D:=.lst (qs.map ad4)
theorem W7 {K:q0a} {H:Hp} {a:Addr} {vs:List V} {qs:List Rat} (h:SqL K H a vs) (n:C9 H vs qs):IsD K H (.ref a) (O6 qs):=.lst h n.isDs
theorem ah6 (ps qs:List Rat):eqD (O6 ps) (O6 qs)=decide (ps=qs):=by unfold O6;rw [eqD,aH9]
theorem al7 (ps qs:List Rat):okD (O6 ps) (O6 qs)=true:=by unfold O6;rw [okD,aH4]
theorem au5 (qs:List Rat):dpD (O6 qs)<=2:=by unfold O6;rw [dpD];have:=aI1 qs;lia
structure ad8 (qs:List Rat) (m:Nat):Prop where
 le:m<=qs.length
 zero:∀ (i:Nat) (q:Rat),m<=i->qs[i]? = some q->q=0
 last:m ≠ 0->∀ q,qs[m-1]? = some q->q ≠ 0
theorem ad8.uniq {qs:List Rat} {m n:Nat} (a:ad8 qs m) (b:ad8 qs n):m=n:=by
 have key:∀ {m n:Nat},ad8 qs m->ad8 qs n->¬ m<n:=by
  intro m n a b h;have hn:n-1<qs.length:=by have:=b.le;lia
  exact b.last (by lia) _ (q0d hn) (a.zero (n-1) _ (by lia) (q0d hn))
 have:=key a b;have:=key b a
 lia
theorem am6 (vs:List V) {m:Nat} (h:m<=vs.length):ao9 vs none (some (m:Int))=vs.take m:=by
 unfold ao9;have e1:HT.sIx vs.length 0 none=0:=by simp [HT.sIx]
 have e2:HT.sIx vs.length vs.length (some (m:Int))=m:=by
  simp only [HT.sIx]
  split <;> lia
 rw [e1,e2];simp
end R
set_option maxRecDepth 100000
namespace L2
open PySem PySem.Spec PyProof.Rows
def WhN (Pv:St->Hp->Prop) (μ:St->Hp->Nat) (m:Nat):St->Hp->Prop:=λσ' H' => ∃ m',m'<m/\(m'=μ σ' H'/\Pv σ' H')
theorem WhN.mk {Pv:St->Hp->Prop} {μ:St->Hp->Nat} {m:Nat} {σ':St} {H':Hp} (h:Pv σ' H') (l:μ σ' H'<m):WhN Pv μ m σ' H':=⟨_,l,rfl,h⟩
def WhB (tb:TS) (D:ar4) (Pv:St->Hp->Prop) (μ:St->Hp->Nat) (m:Nat) (σ:St) (H1:Hp):Prop :=
 ∃ N:St->Hp->Prop,(∀ σ' H',N σ' H'->∃ m',m'<m/\(m'=μ σ' H'/\Pv σ' H'))/\tb { D with nx:=N,ct:=N,bk:=D.nx } σ H1
theorem WhB.mk {tb:TS} {D:ar4} {Pv:St->Hp->Prop} {μ:St->Hp->Nat} {m:Nat} {σ:St} {H1:Hp} (h:tb { D with nx:=WhN Pv μ m,ct:=WhN Pv μ m,bk:=D.nx } σ H1):WhB tb D Pv μ m σ H1:=⟨_,λ_ _ n=>n,h⟩
theorem bg3 {c:TT} {tb:TS} {D:ar4} {σ:St} {H:Hp} (Pv:St->Hp->Prop) (μ:St->Hp->Nat) (h0:Pv σ H)
  (hs:∀ σ H,Pv σ H->c σ H λb H1=>if b=true then WhB tb D Pv μ (μ σ H) σ H1 else D.nx σ H1):aJ7 c tb D σ H:=by
 refine ⟨λm σ H=>m=μ σ H/\Pv σ H,⟨_,rfl,h0⟩,?_⟩;rintro m σ H ⟨rfl,p⟩;exact hs σ H p
theorem c9.over {H H1:Hp} {l:Addr} (s:c9 H H1) (hl:H l=none) (o:HO):c9 H (upd H1 l o):=λb u h=>by
 rw [i8 (j3 h hl)];exact s b u h
def aa8 (J:It) (D:Addr) (σ0:St) (H0:Hp) (g:TG) (te:TE) (Q:VK):Prop:=∃ W:Nat->Nat->St->Hp->Prop,(∃ m,W 0 m σ0 H0) /\
 ∀ i m σc H2,W i m σc H2->(J.stop i H2/\Q (.ref D) H2) \/
  (J.go i H2/\∀ x H3,J.yld i H2 x H3->g x σc H3 λσ4 H4=>te σ4 H4 λy H5 => ∃ ys,H5 D=some (.lst ys)/\ys.length<sizeLine/\∃ m',m'<m/\W (i+1) m' σ4 (upd H5 D (.lst (ys ++ [y]))))
theorem aQ0 (wi:TI) (caps:List (Option Nat)) (g:TG) (te:TE):aQ1 wi caps g te=λσ H Q=>wi σ H λJ H1 => ∀ D,H1 D=none->aa8 J D (O7 caps σ) (upd H1 D (.lst [])) g te Q:=rfl
def bn4 (J:It) (D:Addr) (σ0:St) (H0:Hp) (g:TG) (tt:TT) (te:TE) (Q:VK):Prop:=∃ W:Nat->Nat->St->Hp->Prop,(∃ m,W 0 m σ0 H0) /\
 ∀ i m σc H2,W i m σc H2->(J.stop i H2/\Q (.ref D) H2) \/
  (J.go i H2/\∀ x H3,J.yld i H2 x H3->g x σc H3 λσ4 H4=>tt σ4 H4 λb H4'=>if b=true then te σ4 H4' λy H5 => ∃ ys,H5 D=some (.lst ys)/\ys.length<sizeLine/\∃ m',m'<m/\W (i+1) m' σ4 (upd H5 D (.lst (ys ++ [y])))
   else ∃ m',m'<m/\W (i+1) m' σ4 H4')
theorem aA3 (wi:TI) (caps:List (Option Nat)) (g:TG) (tt:TT) (te:TE):aY2 wi caps g tt te=λσ H Q=>wi σ H λJ H1 => ∀ D,H1 D=none->bn4 J D (O7 caps σ) (upd H1 D (.lst [])) g tt te Q:=rfl
section
variable {K:q0a} {a D:Addr} {xs:List V} {g:TG} {te:TE} {σ0:St} {H0:Hp} {Q:VK}
theorem B9 (xs:List V) (Pv:Nat->St->Hp->Prop) (h0:Pv 0 σ0 H0) (hl:∀ i σ H,i<=xs.length->Pv i σ H->SqL K H a xs)
  (hs:∀ i x σ H,xs[i]? = some x->Pv i σ H->g x σ H λσ4 H4=>te σ4 H4 λy H5=>t6 D xs.length Pv i σ4 y H5) (hd:∀ σ H,Pv xs.length σ H->Q (.ref D) H):aa8 (Itl K a) D σ0 H0 g te Q:=bf1 Pv h0 hl hs hd
theorem O0 {lo:Int} {n:Nat} (Pv:Nat->St->Hp->Prop) (h0:Pv 0 σ0 H0)
  (hs:∀ i σ H,i<n->Pv i σ H->g (.int (lo+i)) σ H λσ4 H4=>te σ4 H4 λy H5=>t6 D n Pv i σ4 y H5) (hd:∀ σ H,Pv n σ H->Q (.ref D) H):aa8 (Itr lo n) D σ0 H0 g te Q:=aX6 Pv h0 hs hd
end
theorem k9 {cells:List (Str × Addr)}:∀ (x:Str) (c:Addr),([]:List (Str × Addr)).lookup x=some c->cells.lookup x=some c:=λx c h=>by cases h
theorem j7 {cells cl:List (Str × Addr)} {k:Str} {a:Addr} (h:cells.lookup k=some a) (r:∀ (x:Str) (c:Addr),cl.lookup x=some c->cells.lookup x=some c):∀ (x:Str) (c:Addr),((k,a) :: cl).lookup x=some c->cells.lookup x=some c:=λx c e=>by
 rw [v0q] at e
 split at e
 ·rename_i q
  have:=eq_of_beq q;subst this
  cases e
  exact h
 ·exact r x c e
end L2
namespace R
open PySem L2 PyProof.Rows
theorem A0.over {u:Addr} {H H1:Hp} {l:Addr} (s:A0 u H H1) (hl:H l=none) (o:HO):A0 u H (L2.upd H1 l o):=λb x h n=>by
 rw [i8 (j3 h hl)];exact s b x h n
theorem A0.free {u:Addr} {H H':Hp} {l:Addr} (s:A0 u H H') (hu:y9 H' u) (h:H' l=none):H l=none:=by
 cases e:H l with
 | none=>rfl
 | some o =>
  by_cases q:l=u
  ·subst q
   obtain ⟨_,_,_,z,_⟩:=hu;rw [z] at h;cases h
  ·rw [s l o e q] at h;cases h
theorem y9.other {H:Hp} {u l:Addr} {o:HO} (h:y9 H u) (ne:l ≠ u):y9 (upd H l o) u:=by
 obtain ⟨g,m,p,e,r⟩:=h;exact ⟨g,m,p,by rw [i8 ne.symm];exact e,r⟩
theorem Z3 {K:q0a}:z0h K (.type "list") (.type "list")=some true:=by unfold z0h;rw [if_pos (by decide)]
end R
set_option maxRecDepth 100000
namespace L2
open PySem PySem.Spec PyProof.Rows
def Itz (K:PySem.W.Frag) (a b:Addr):It :=
  ⟨λi H => ∃ xs ys x y,SqL K H a xs/\SqL K H b ys/\xs[i]? = some x/\ys[i]? = some y,
   λi H v H' => ∀ xs ys,SqL K H a xs->SqL K H b ys->∃ x y p,xs[i]? = some x/\ys[i]? = some y/\H p=none/\v=.ref p/\H'=upd H p (.tup [x,y]),
   λi H => ∃ xs ys,SqL K H a xs/\SqL K H b ys/\(xs.length<=i \/ ys.length<=i)⟩
theorem bg6 {P:Program} {w:World} {K:q0a} {elts:List Expr} {k:Nat} {tpos:Pos} (a b z TI TO i1 i2:Addr) (D:ZipApart z TI TO i1 i2 a b) :
  bf9 P w K (.Tuple elts k tpos) (Itz K a b) [z,TI,TO,i1,i2] z (λi h=>IsZip h z TI TO .none/\IsPair h TI (.ref i1) (.ref i2)/\(∃ a b,IsPair h TO a b)/\h.IsListIter i1 a i/\h.IsListIter i2 b i) where
 mem:=by simp
 obj:=λi h st c hc=>by
  obtain ⟨hz,hTI,⟨p,q,hTO⟩,h1,h2⟩:=st;rcases (by simpa using hc:c=z \/ c=TI \/ c=TO \/ c=i1 \/ c=i2) with e | e | e | e | e <;> subst e
  ·exact ⟨_,hz,λv z=>by cases z⟩
  ·exact ⟨_,hTI,λv z=>by cases z⟩
  ·exact ⟨_,hTO,λv z=>by cases z⟩
  ·obtain ⟨o,e,c,d⟩:=h1
   exact ⟨o,e,λv z=>by rw [d] at z;cases z⟩
  ·obtain ⟨o,e,c,d⟩:=h2
   exact ⟨o,e,λv z=>by rw [d] at z;cases z⟩
 keep:=λi h h' st k=>by
  obtain ⟨hz,hTI,⟨p,q,hTO⟩,h1,h2⟩:=st;exact ⟨k z (by simp) _ hz,k TI (by simp) _ hTI,⟨p,q,k TO (by simp) _ hTO⟩,h1.at λo e=>k i1 (by simp) o e,h2.at λo e=>k i2 (by simp) o e⟩
 item:=by
  intro X hP hw hK hc i pins s σ H E I hf st hg;subst hP hw hK;obtain ⟨xs,ys,x,y,hq,hq',hx,hy⟩:=hg;obtain ⟨its,rv,p,hlz⟩:=I.list hq;obtain ⟨its',rv',p',hlz'⟩:=I.list hq';obtain ⟨u,hu,ru⟩:=rv.get hx;obtain ⟨u',hu',ru'⟩:=rv'.get hy;obtain ⟨hz,hTI,⟨pa,pb,hTO⟩,h1,h2⟩:=st;have zlt:z<s.heap.objs.size:=q0f hz;refine wpAny_pyNext_zip_item D hz hTI hTO h1 h2 p.isList p'.isList (x:=u) (y:=u') (by simpa using hu) (by simpa using hu') λh' a1 a2 a3 a4 a5 a6 kk=>?_
  refine ⟨_,rfl,?_⟩;refine wpAny_letOwnedTupleGo_zip (s:={ s with heap:=h' }) a1 λh'' hz'' sb=>?_;have up:∀ c o,c ≠ z->h'.get? c=some o->h''.get? c=some o:=λc o n q=>(sb.2 c n).trans q;have hT':h''.get? s.heap.objs.size=some { cls:=.type "tuple",data:=.seq #[u,u'] }:=up _ _ (y0q zlt) a5
  refine ⟨.ref s.heap.objs.size,upd H s.heap.objs.size (.tup [x,y]),I.turnLaid (fp:=[z,TI,TO,i1,i2]) (t':=s.toks) hf (λc v hb q=>?_) (q0h _) ?_,rfl,?_,?_,λc hb=>?_⟩
  ·have n1:c ≠ z:=λe=>hb (by simp [e])
   have n2:c ≠ TO:=λe=>hb (by simp [e])
   have n3:c ≠ i1:=λe=>hb (by simp [e])
   have n4:c ≠ i2:=λe=>hb (by simp [e])
   exact up c v n1 (kk c v n1 n2 n3 n4 q)
  ·exact ⟨(show 2<=sizeLine by decide +kernel),[u,u'],.cons ru (.cons ru' .nil),_,hT',rfl,_,rfl⟩
  ·intro vs ws hv hw
   rw [I.list_inj hv hq,I.list_inj hw hq'];exact ⟨x,y,_,hx,hy,I.fresh,rfl,rfl⟩
  ·refine ⟨hz'',up _ _ D.TIz (kk _ _ D.TIz D.TITO D.TIi1 D.TIi2 hTI),⟨u,u',up _ _ D.TOz a2⟩,a3.at λo q=>up _ o D.i1z q,a4.at λo q=>up _ o D.i2z q⟩
  ·have hlt:c<s.heap.objs.size:=by
    have l1:i1<s.heap.objs.size:=by obtain ⟨_,e,_⟩:=h1;exact q0f e
    have l2:i2<s.heap.objs.size:=by obtain ⟨_,e,_⟩:=h2;exact q0f e
    rcases (by simpa using hb:c=z \/ c=TI \/ c=TO \/ c=i1 \/ c=i2) with e | e | e | e | e <;> rw [e]
    ·exact zlt
    ·exact q0f hTI
    ·exact q0f hTO
    ·exact l1
    ·exact l2
   rw [i8 (q0q hlt)];exact (hf c hb).1
 done:=by
  intro X hP hw hK hc i pins s σ H E I hf st hg;subst hP hw hK;obtain ⟨xs,ys,hq,hq',hend⟩:=hg;obtain ⟨its,rv,p,hlz⟩:=I.list hq;obtain ⟨its',rv',p',hlz'⟩:=I.list hq';obtain ⟨hz,hTI,⟨pa,pb,hTO⟩,h1,h2⟩:=st;have l1:=rv.length;have l2:=rv'.length;refine wpAny_pyNext_zip_end (I.ok.hd hc) D hz hTI hTO h1 h2 p.isList p'.isList ?_ λh' kk=>⟨rfl,?_⟩
  ·rcases hend with e | e
   ·exact .inl (by simp;lia)
   ·exact .inr (by simp;lia)
  ·have nf:∀ b u,H b=some u->b ∉ [z,TI,TO,i1,i2]:=λb u e q=>by rw [(hf b q).1] at e;cases e
   have k:∀ b u,b ∉ [z,TI,TO,i1,i2]->s.heap.get? b=some u->h'.get? b=some u:=λc o hb q=>kk c o (λe=>hb (by simp [e])) (λe=>hb (by simp [e])) (λe=>hb (by simp [e])) (λe=>hb (by simp [e])) q
   refine I.step (t':=s.toks) (g':=s.gens) (d':=s.drawn) (ch:=[z,TI,TO,i1,i2]) (λb hb=>?_) (λb o _ _ hc e _=>k b o hc e) (λb o _ _ hc e _=>⟨o.slots,k b o hc e⟩) (λb o _ e n=>n)
    (λb o hc e=>⟨o,k b o hc e⟩) (λb xs e=>e) (λb o u e=>e) (λb ps e=>⟨#[],by rw [e];simp⟩) (λm hm=>?_) (λb u e=>?_) I.bare
   ·obtain ⟨_,f1,_,f3,f4,f5⟩:=hf b hb
    exact ⟨f3,f1,f4,f5⟩
   ·obtain ⟨o,es,ep,ho,r⟩:=hm
    exact ⟨o,es,ep,k _ o (λq=>(hf _ q).2.1 rfl) ho,r⟩
   ·refine (I.hok b u e).stay (λc v hc q=>k c v ?_ q) (λc q=>q) λc xs q=>q
    rcases hc with q | q
    ·rw [q];exact nf b u e
    ·exact nf c _ q
 self:=λ_ _ _ _ _ st h=>wpAny_pyIter_zip st.1 h
section
variable {X:Cx}
def bk4 (K:q0a) (ta:TA):TI:=λσ H R=>ta σ H λvs H1 => ∃ a b,vs=[.ref a,.ref b]/\(∃ xs,SqL K H1 a xs)/\(∃ ys,SqL K H1 b ys)/\R (Itz K a b) H1
theorem af7 {elts:List Expr} {k:Nat} {tpos:Pos} {l l':Expr} {ta:TA} {p pos:Pos} (hg:Gl X "zip") (hm:X.mg "zip" = none) (ha:PA X [l,l'] ta) (hs:starEach [l,l'] X.env=[(false,eval l X.env),(false,eval l' X.env)]:=by rfl) (hs2:starEach [l'] X.env=[(false,eval l' X.env)]:=by rfl) :
  PI X (.Tuple elts k tpos) (.Call (.Name "zip" p) [l,l'] [] pos) (bk4 X.K ta):=by
 intro pins s σ H R I h;refine Call_ (aj0 I hg hm (u:=.type "zip") (by decide +kernel) (PyProof.Rows.callWith_type1 (thn (ha pos pins s σ H _ I h) λus s1 ⟨vs,H1,I1,r1,q1⟩=>?_) (by rw [hs,hs2]) (by rw [hs2];rfl)))
 obtain ⟨a,b,e,⟨xs,hq⟩,⟨ys,hq'⟩,q⟩:=q1;subst e;obtain ⟨u,u',rfl,rx,rx'⟩:=A7.two r1
 cases rx
 cases rx'
 obtain ⟨its,rv,p,hz⟩:=I1.list hq;obtain ⟨its',rv',p',hz'⟩:=I1.list hq';have a1:a<s1.heap.objs.size:=by obtain ⟨_,e,_⟩:=p.isList;exact q0f e
 have a2:b<s1.heap.objs.size:=by obtain ⟨_,e,_⟩:=p'.isList;exact q0f e
 refine call_zip_2 p.isList p'.isList λh' hz hTI hTO hi1 hi2 hsz kk=>?_;refine wpAny_pyIter_zip hz ?_;have I2:Inv X pins σ H1 { s1 with heap:=h' }:=I1.kept (t':=s1.toks) kk;refine ⟨_,_,_,_,H1,rfl,I2,bg6 a b _ _ _ _ _ (zipApart_new a1 a2),⟨hz,hTI,⟨_,_,hTO⟩,hi1,hi2⟩,λc hb=>?_,q⟩
 have hb':s1.heap.objs.size<=c:=by
  rcases (by simpa using hb:c=s1.heap.objs.size+4 \/ c=s1.heap.objs.size+2 \/ c=s1.heap.objs.size+3 \/ c=s1.heap.objs.size \/ c=s1.heap.objs.size+1) with e | e | e | e | e <;> rw [e]
  ·exact y0j _ _
  ·exact y0j _ _
  ·exact y0j _ _
  ·exact q0h _
  ·exact y0j _ _
 obtain ⟨f0,f1,f2,f3,f4,f5⟩:=I1.fpOk (H':=H1) hb' (I1.hok.fresh hb');exact ⟨f0,f1,f2,f3,f4,f5⟩
end
section
variable {prog:Program} {w:World} {A:Around} {E:Value->Shared->Prop} {s:Shared}
theorem br2 {a b:Int} {t u:Tok} {Q:Value->Shared->Prop} (h:Q (.bool (decide (a > b))) s):wpAny (model prog w) A (richCompare .Gt (.int a t) (.int b u)) Q E s :=
 richCompare_gives (op:=.Gt) (typeIs_int s _ t) (typeIs_int s _ u) F.slot_int_gt F.entry_int_gt (F.args_int_gt_2 _ _) (gives_int_gt _ _ t u) (λx=>nomatch x) h
theorem aP6 {id:String} {b:Builtin} {args:List Value} {kw:List (Str × Value)} {Q:Value->Shared->Prop} (hk:builtinKind id=none) (hp:plainId id=true)
  (hb:entryFor table id=some b) (ha:argsOk id ⟨args,kw⟩)
  (hc:wpAny (model prog w) A.in1 (b ⟨args,kw⟩) (λfin s'=>match fin with
   | .done f=>(match (Except.ok f:Result) with | .ok (.ret v)=>Q v s' | .ok _=>False | .error e=>E e s')
   | .again c'=>c'.quiet=true/\codeAny (model prog w) A c' (λr s'=>match r with | .ok (.ret v)=>Q v s' | .ok _=>False | .error e=>E e s') s') E s) :
  wpAny (model prog w) A (call (.builtin id) args kw) Q E s:=by
 refine wpAny_call (codeAny_call_builtin hp hb ?_);simp only [checkBuiltinCall,hk]
 cases hsig:Manifest.signature? id with
 | none=>exact wpAny_pure hc
 | some sig =>
  have ha':Bind.checkArgs id sig ⟨args,kw⟩=pure ():=by simpa only [argsOk,hsig] using ha
  simp only [ha'];exact wpAny_pure hc
variable {R:Result->Shared->Prop} {I:Addr} {fp wr:List Addr} {n:Nat} {P:Nat->Value->Prop} {St:Nat->Heap->Prop}
theorem bd8 (W:Walks prog w A.in1 I fp wr n P St) (hint:∀ i v,P i v->∃ x t,v=.int x t) (S:Addr) (hSf:S ∉ fp) (d:Value) :
  ∀ (k j:Nat) (s:Shared) (x0:Int) (t0:Tok) (c:Nat),n-(j+1)=k->j+1<=n->St (j+1) s.heap ->
  s.heap.get? S=some { cls:=.type "list",dict:=none,data:=.seq #[.int x0 t0,.int x0 t0] c,slots:=#[] } ->
  (∀ x t h' tk,(∀ b o,b ∉ wr->b ≠ S->s.heap.get? b=some o->h'.get? b=some o)->R (.ok (.ret (.int x t))) { s with heap:=h',toks:=tk }) ->
  codeAny (model prog w) A (.builtin "max.loop" ⟨[.ref I,.none,.ref S],[("default",d)]⟩) R s:=by
 have hSw:S ∉ wr:=λh=>hSf (W.sub _ h);have hname:(toString "max" ++ toString ".loop" : String) = "max.loop" := by decide
 intro k
 induction k with
 | zero =>
  intro j s x0 t0 c hk hj hst hS hR;have hin:j+1=n:=by lia
  refine codeAny_builtin F.entry_max_loop ?_;rw [Around.under_plainId F.plain_max_loop _]
  show wpAny _ A.in1 (seqItems? (.ref S) >>= _) _ _ s;refine wpAny_bind (wpAny_seqItems hS rfl ?_)
  show wpAny _ A.in1 (tryCatch (pyNext (.ref I)) _ >>= _) _ _ s;refine wpAny_bind (wpAny_tryCatch (W.done s _ _ (hin ▸ hst) λh' tk hk'=>?_));have hS':=hk' S _ hSw hS
  show wpAny _ A.in1 (updateSeq S (λ_ => #[]) >>= _) _ _ _;refine wpAny_bind ?_;refine wpAny_updateSeq hS' rfl (wpAny_bind (wpAny_letGo (wpAny_pure ?_)));exact hR x0 t0 _ tk λb o hbw hbS e=>(j0x _ _ (Ne.symm hbS)).trans (hk' b o hbw e)
 | succ k ih =>
  intro j s x0 t0 c hk hj hst hS hR;have hlt:j+1<n:=⋯;refine codeAny_builtin F.entry_max_loop ?_;rw [Around.under_plainId F.plain_max_loop _]
  show wpAny _ A.in1 (seqItems? (.ref S) >>= _) _ _ s;refine wpAny_bind (wpAny_seqItems hS rfl ?_)
  show wpAny _ A.in1 (tryCatch (pyNext (.ref I)) _ >>= _) _ _ s;refine wpAny_bind (wpAny_tryCatch (W.item (j+1) s _ _ hlt hst λv h' tk hP hst' hk'=>?_));obtain ⟨x1,t1,rfl⟩:=hint _ _ hP;have hS':=hk' S _ hSw hS
  show wpAny _ A.in1 (tryCatch (holding [.int x1 t1,.int x1 t1] (richCompare .Gt (.int x1 t1) (.int x0 t0) >>= _)) _ >>= _) _ _ _;refine wpAny_bind (wpAny_tryCatch (wpAny_holding (wpAny_bind (br2 ?_))));refine wpAny_bind (wpAny_holding (wpAny_truthy_bool ?_));refine wpAny_bind (wpAny_letGo (wpAny_pure ?_))
  cases hb:decide (x1 > x0) with
  | true =>
   simp only [if_true];refine wpAny_bind ?_;refine wpAny_updateSeq hS' rfl (wpAny_bind (wpAny_letGo ?_));rw [hname]
   refine wpAny_pure ⟨plainId_quiet F.plain_max_loop _,ih (j+1) _ x1 t1 _ ⋯ hlt (W.frame _ _ _ hst' λb hbf o e=>?_) (v0y _ hS' rfl)
    λx t h'' tk'' hk''=>?_⟩
   ·exact (j0x _ _ (λh:S=b=>hSf (by rw [h];exact hbf))).trans e
   ·exact hR x t h'' tk'' λb o hbw hbS e=>hk'' b o hbw hbS ((j0x _ _ (Ne.symm hbS)).trans (hk' b o hbw e))
  | false =>
   simp only [Bool.false_eq_true,if_false];refine wpAny_bind (wpAny_letGo ?_);rw [hname];refine wpAny_pure ⟨plainId_quiet F.plain_max_loop _,ih (j+1) _ x0 t0 c ⋯ hlt hst' hS' λx t h'' tk'' hk''=>?_⟩;exact hR x t h'' tk'' λb o hbw hbS e=>hk'' b o hbw hbS (hk' b o hbw e)
theorem aW5 (W:Walks prog w A.in1 I fp wr n P St) (hint:∀ i v,P i v->∃ x t,v=.int x t) (S:Addr) (hSf:S ∉ fp) {x0:Int} {t0:Tok} {c:Nat} (hst:St 0 s.heap)
  (hS:s.heap.get? S=some { cls:=.type "list",dict:=none,data:=.seq #[] c,slots:=#[] })
  (hR:∀ x t h' tk,(∀ b o,b ∉ wr->b ≠ S->s.heap.get? b=some o->h'.get? b=some o)->R (.ok (.ret (.int x t))) { s with heap:=h',toks:=tk }) :
  codeAny (model prog w) A (.builtin "max.loop" ⟨[.ref I,.none,.ref S],[("default",.int x0 t0)]⟩) R s:=by
 have hSw:S ∉ wr:=λh=>hSf (W.sub _ h);have hname:(toString "max" ++ toString ".loop" : String) = "max.loop" := by decide
 refine codeAny_builtin F.entry_max_loop ?_;rw [Around.under_plainId F.plain_max_loop _]
 show wpAny _ A.in1 (seqItems? (.ref S) >>= _) _ _ s;refine wpAny_bind (wpAny_seqItems hS rfl ?_)
 show wpAny _ A.in1 (tryCatch (pyNext (.ref I)) _ >>= _) _ _ s
 by_cases hn:0<n
 ·refine wpAny_bind (wpAny_tryCatch (W.item 0 s _ _ hn hst λv h' tk hP hst' hk'=>?_))
  obtain ⟨x1,t1,rfl⟩:=hint _ _ hP;have hS':=hk' S _ hSw hS
  show wpAny _ A.in1 (updateSeq S (λ_ => #[.int x1 t1,.int x1 t1]) >>= _) _ _ _;refine wpAny_bind ?_;refine wpAny_updateSeq hS' rfl ?_;rw [hname];refine wpAny_pure ⟨plainId_quiet F.plain_max_loop _,bd8 W hint S hSf _ _ 0 _ x1 t1 _ rfl hn (W.frame _ _ _ hst' λb hbf o e=>?_) (v0y _ hS' rfl) λx t h'' tk'' hk''=>?_⟩
  ·exact (j0x _ _ (λh:S=b=>hSf (by rw [h];exact hbf))).trans e
  ·exact hR x t h'' tk'' λb o hbw hbS e=>hk'' b o hbw hbS ((j0x _ _ (Ne.symm hbS)).trans (hk' b o hbw e))
 ·have h0:n=0:=by lia
  refine wpAny_bind (wpAny_tryCatch (W.done s _ _ (by rw [h0];exact hst) λh' tk hk'=>?_))
  show wpAny _ A.in1 (rule _ >>= _) _ _ _;refine wpAny_bind (wpAny_rule (wpAny_pure ?_));exact hR x0 t0 _ tk λb o hbw hbS e=>hk' b o hbw e
theorem bf7 (a d:Value):argsOk "max" ⟨[a],[("default",d)]⟩:=by unfold argsOk;kernel_rfl
end
section
variable {X:Cx}
def bh2 (K:q0a) (ta:TA):TE:=λσ H Q=>ta σ H λvs H1 => ∃ (a:Addr) (ns:List Int),vs=[.ref a]/\SqL K H1 a (ns.map V.int)/\∀ i:Int,Q (.int i) H1
theorem bf4 (hc:X.calm=true) {pins:List (Addr × Obj)} {s:Shared} {σ:St} {H:Hp} {a:Addr} {ns:List Int} {Q:VK} {x0:Int} {t0:Tok} (I:Inv X pins σ H s) (hq:SqL X.K H a (ns.map V.int)) (q:∀ i:Int,Q (.int i) H) :
  wpAny (model X.prog X.w) X.A (call (.builtin "max") [.ref a] [("default",.int x0 t0)]) (EP X pins σ Q) X.xe s:=by
 have hname:(toString "max" ++ toString ".loop" : String) = "max.loop" := by decide
 obtain ⟨its,r',pl,hz⟩:=I.list hq
 have hp:a ≠ s.heap.objs.size:=by
  obtain ⟨o,ho,_⟩:=pl.isList;exact q0q (q0f ho)
 refine aP6 F.kind_max F.plain_max F.entry_max (bf7 _ _) ?_
 show wpAny _ X.A.in1 (Builtin.Builtins.bindParams "max" ["key","default"] 0 ⟨[],[("default",.int x0 t0)]⟩ >>= _) _ _ s
 refine wpAny_bind (wpAny_of_eq (show Builtin.Builtins.bindParams "max" ["key","default"] 0 ⟨[],[("default",.int x0 t0)]⟩=pure [none,some (.int x0 t0)] from by with_unfolding_all rfl) ?_)
 refine wpAny_bind (wpAny_pure ?_);refine wpAny_bind (wpAny_pyIter_list pl.isList ?_);refine wpAny_bind (wpAny_newObj_type ?_);have a1:a<s.heap.objs.size:=by obtain ⟨o,ho,_⟩:=pl.isList;exact q0f ho
 rw [hname];refine wpAny_pure ⟨plainId_quiet F.plain_max_loop _,?_⟩;refine aW5 (Walks.list (A:=X.A.in1) (I.ok.hd hc) s.heap.objs.size a hp its.toArray) ?_ _ ?_ ⟨⟨_,q0j _ (z0b _ rfl),rfl,rfl⟩,pl.isList.at λo e=>q0j _ (q0j _ e)⟩ (z0b _ rfl) ?_
 ·intro i v hv
  have hv':its[i]? = some v:=by simpa using hv
  have hi:i<ns.length:=by
   have:=(q0g.mp hv').1;rw [<- r'.length,q0e] at this;exact this
  obtain ⟨u,hu,ru⟩:=r'.get (i:=i) (x:=.int ns[i]) (by rw [q0m,q0d hi];rfl)
  rw [hv'] at hu
  cases hu
  obtain ⟨t,rfl⟩:=ru;exact ⟨_,_,rfl⟩
 ·rw [z0n]
  intro z;rcases (by simpa using z:s.heap.objs.size+1=s.heap.objs.size \/ s.heap.objs.size+1=a) with e | e
  ·exact absurd e (Nat.succ_ne_self _)
  ·exact absurd a1 (by rw [<- e];exact Nat.not_lt.mpr (j0j _))
 ·intro x t h' tk kk
  refine ⟨.int x,H,I.kept (t':=tk) λb o e=>kk b o ?_ ?_ (q0j _ (q0j _ e)),⟨t,rfl⟩,q x⟩
  ·intro z
   have:b=s.heap.objs.size:=by simpa using z
   exact absurd (q0f e) (by rw [this];exact j0r _)
  ·rw [z0n]
   intro z;exact absurd (q0f e) (by rw [z];exact Nat.not_lt.mpr (j0j _))
theorem bp2 {l:Expr} {ta:TA} {p pos p1 p2:Pos} {x0:Int} {j:Nat} (hc:X.calm=true) (hg:Gl X "max") (hm:X.mg "max" = none) (ha:PA X [l] ta) (hs:starEach [l] X.env=[(false,eval l X.env)]:=by rfl) :
  PE X (.Call (.Name "max" p) [l] [⟨some "default",.Constant (.int x0) j p1,p2⟩] pos) (bh2 X.K ta):=by
 intro pins s σ H Q I h;refine wpAny_Call_Name_kw (aj0 I hg hm (u:=.builtin "max") (by decide +kernel) ?_ (by decide) (by decide))
 refine callWith_kw (thn (ha pos pins s σ H _ I h) λus s1 zq=>?_) (by rw [hs];rfl) (by rw [hs];rfl) rfl rfl
 obtain ⟨vs,H1,I1,r1,q1⟩:=zq;obtain ⟨a,ns,e,hq,q⟩:=q1;subst e;obtain ⟨u,rfl,rx⟩:=ap0 r1
 cases rx
 show wpAny _ _ (evalAll [do let v <- eval (.Constant (.int x0) j p1) X.env;standAt pos;pure v]) _ _ _
 unfold evalAll;refine wpAny_bind (wpAny_bind (wpAny_Constant_int (wpAny_bind (wpAny_standAt (wpAny_pure ?_)))));unfold evalAll;refine wpAny_bind (wpAny_holding (wpAny_pure (wpAny_pure ?_)));exact bf4 hc (I1.tok _) hq q
end
end L2
set_option maxRecDepth 100000
namespace R
open PySem L2 PyProof.Rows
structure BdN (k:Nat) (q:Rat):Prop where
 n:q.num.natAbs<2 ^ k
 d:q.den<2 ^ k
theorem BdN.mono {m n:Nat} {q:Rat} (h:BdN m q) (l:m<=n):BdN n q:=⟨q0b h.n (i6 l),q0b h.d (i6 l)⟩
theorem Sm.bdN {q:Rat} (s:Sm q):BdN 40 q:=⟨q0p s.n (by decide),q0p s.d (by decide)⟩
theorem BdN.mul {m n:Nat} {p q:Rat} (a:BdN m p) (b:BdN n q):BdN (m+n) (p*q):=by
 rw [aC7];have hb:(p.den:Int)*q.den ≠ 0:=g0k (u0w (A4 p) (A4 q));obtain ⟨e1,e2⟩:=N9 (t:=p.num*q.num) hb;rw [z0k] at e1 e2;refine ⟨q0p e1 ?_,q0p e2 ?_⟩
 ·rw [z0f];exact z0g a.n b.n
 ·rw [z0f,q0w,q0w];exact z0g a.d b.d
theorem BdN.add {m n:Nat} {p q:Rat} (a:BdN m p) (b:BdN n q):BdN (m+n+1) (p+q):=by
 rw [ar2];have hb:(p.den:Int)*q.den ≠ 0:=g0k (u0w (A4 p) (A4 q));obtain ⟨e1,e2⟩:=N9 (t:=p.num*q.den+q.num*p.den) hb
 have h1:(p.num*q.den).natAbs<2 ^ (m+n):=by
  rw [z0k,z0f,q0w];exact z0g a.n b.d
 have h2:(q.num*p.den).natAbs<2 ^ (m+n):=by
  rw [z0k,z0f,v0z (2 ^ m),q0w];exact z0g b.n a.d
 rw [z0k] at e2;have e3:=m0a (p.num*q.den) (q.num*p.den);refine ⟨by rw [v0r];lia,q0p e2 ?_⟩
 have:p.den*q.den<2 ^ (m+n):=by rw [z0f];exact z0g a.d b.d
 rw [q0w,q0w,v0r];lia
structure SmW (q:Rat):Prop where
 n:q.num.natAbs<2 ^ 42
 d:q.den<2 ^ 40
section
variable {α β:Type}
def af4 [Add α]:List α->Nat->α->List α
 | [],_,_=>[]
 | y :: r,0,x=>(y+x) :: r
 | y :: r,k+1,x=>y :: af4 r k x
theorem aJ1 [Add α]:∀ (f:List α) (k:Nat) (x:α),(af4 f k x).length=f.length
 | [],_,_=>rfl
 | _ :: _,0,_=>rfl
 | _ :: r,k+1,x=>by simp [af4,aJ1 r k x]
theorem aI9 [Add α]:∀ (f:List α) (k:Nat) (x y:α),f[k]? = some y->f.set k (y+x)=af4 f k x
 | [],_,_,_,h=>by simp at h
 | z :: r,0,x,y,h=>by cases h;rfl
 | z :: r,k+1,x,y,h=>by
  rw [List.set_cons_succ,af4,aI9 r k x y (by simpa using h)]
theorem am8 [Add α]:∀ (f:List α) (k i:Nat) (x:α),i ≠ k->(af4 f k x)[i]? = f[i]?
 | [],_,_,_,_=>rfl
 | _ :: _,0,0,_,h=>absurd rfl h
 | _ :: _,0,i+1,_,_=>rfl
 | _ :: _,k+1,0,_,_=>rfl
 | _ :: r,k+1,i+1,x,h=>by
  simp only [af4,u0p];exact am8 r k i x (by lia)
theorem ar3 [Add α]:∀ (f:List α) (k:Nat) (x y:α),f[k]? = some y->(af4 f k x)[k]? = some (y+x)
 | [],_,_,_,h=>by simp at h
 | z :: r,0,x,y,h=>by cases h;rfl
 | z :: r,k+1,x,y,h=>by simp only [af4,u0p];exact ar3 r k x y (by simpa using h)
def N7 [Add α] [Mul α] (z:α) (f:List α) (i:Nat) (x:α) (q:List α):Nat->List α
 | 0=>f
 | j+1=>af4 (N7 z f i x q j) (i+j) (x*(q[j]?).getD z)
def J4 [Add α] [Mul α] (z:α) (f p q:List α):Nat->List α
 | 0=>f
 | i+1=>N7 z (J4 z f p q i) i ((p[i]?).getD z) q q.length
theorem aw5 [Add α] [Mul α] (z:α) (f:List α) (i:Nat) (x:α) (q:List α):∀ j,(N7 z f i x q j).length=f.length
 | 0=>rfl
 | j+1=>by rw [N7,aJ1,aw5 z f i x q j]
theorem an9 [Add α] [Mul α] (z:α) (f p q:List α):∀ n,(J4 z f p q n).length=f.length
 | 0=>rfl
 | n+1=>by rw [J4,aw5,an9 z f p q n]
theorem ar1 [Add α] [Mul α] (z:α) (f:List α) (i:Nat) (x:α) (q:List α) (k:Nat):∀ j,i+j<=k->(N7 z f i x q j)[k]? = f[k]?
 | 0,_=>rfl
 | j+1,h=>by rw [N7,am8 _ _ _ _ (by lia),ar1 z f i x q k j (by exact Nat.le_of_lt ‹_›)]
theorem aC1 [Add α] [Mul α] (z:α) (f p q:List α) (k:Nat):∀ n,n+q.length<=k+1->(J4 z f p q n)[k]? = f[k]?
 | 0,_=>rfl
 | n+1,h=>by rw [J4,ar1 _ _ _ _ _ _ _ (by lia),aC1 z f p q k n (by lia)]
end
def Q8 (p q:List Rat):List Rat:=if p=[] \/ q=[] then [] else J4 0 (z0a (p.length+q.length-1) 0) p q p.length
def scl (s:Rat) (ws:List Int):List Rat:=ws.map λw:Int=>s*(w:Rat)
theorem aZ1 (s:Rat) (ws:List Int):(scl s ws).length=ws.length:=by simp [scl]
theorem bd5 {p q:List Rat} (hp:p ≠ []) (hq:q ≠ []) {x y:Rat} (hx:p[p.length-1]? = some x) (hy:q[q.length-1]? = some y):(Q8 p q)[(Q8 p q).length-1]? = some (x*y):=by
 have lp:0<p.length:=u0f.mpr hp;have lq:0<q.length:=u0f.mpr hq;unfold Q8;rw [if_neg (by simp [hp,hq]),an9,y0n]
 obtain ⟨n,hn⟩:∃ n,p.length=n+1:=⟨p.length-1,by lia⟩
 obtain ⟨m,hm⟩:∃ m,q.length=m+1:=⟨q.length-1,by lia⟩
 have hx':(p[n]?).getD 0=x:=by
  have:p[n]? = some x:=by rw [hn] at hx;simpa using hx
  rw [this];rfl
 have hy':(q[m]?).getD 0=y:=by
  have:q[m]? = some y:=by rw [hm] at hy;simpa using hy
  rw [this];rfl
 have key:∀ F:List Rat,J4 0 F p q (n+1)=af4 (N7 0 (J4 0 F p q n) n x q m) (n+m) (x*y):=λF=>by
  rw [J4,hm,N7,hx',hy']
 rw [hn,hm,key];have e:n+1+(m+1)-1-1=n+m:=by simp
 rw [e]
 have h0:(N7 (0:Rat) (J4 0 (z0a (n+1+(m+1)-1) 0) p q n) n x q m)[n+m]? = some 0:=by
  rw [ar1 _ _ _ _ _ _ _ (by simp),aC1 _ _ _ _ _ _ (by rw [hm];lia),y0u,if_pos (by simp)]
 rw [ar3 _ _ _ _ h0]
 congr 1;grind
theorem at8 {p q:List Rat} (hp:p ≠ []) (hq:q ≠ []):(Q8 p q).length=p.length+q.length-1:=by
 unfold Q8;rw [if_neg (by simp [hp,hq]),an9,y0n]
def n9 (qs:List Rat):Nat:=qs.foldl (λb q=>g0b b q.den) 1
theorem be0 (qs:List Rat) (q:Rat):n9 (qs ++ [q])=g0b (n9 qs) q.den:=by simp [n9]
theorem ay2:∀ (qs:List Rat) (b m:Nat),b ∣ m->(∀ q ∈ qs,q.den ∣ m)->qs.foldl (λb q=>g0b b q.den) b ∣ m
 | [],_,_,h,_=>h
 | q :: qs,b,m,h,k=>ay2 qs _ m (Nat.lcm_dvd h (k q z0c)) λr hr=>k r (q0u _ hr)
theorem aS5 {qs:List Rat} {m:Nat} (h:∀ q ∈ qs,q.den ∣ m):n9 qs ∣ m:=ay2 qs 1 m (Nat.one_dvd _) h
theorem au3:∀ (qs:List Rat) (b:Nat),b ∣ qs.foldl (λb q=>g0b b q.den) b
 | [],_=>Nat.dvd_refl _
 | q :: qs,b=>Nat.dvd_trans (Nat.dvd_lcm_left _ _) (au3 qs _)
theorem ay1:∀ (qs:List Rat) (b:Nat) (q:Rat),q ∈ qs->q.den ∣ qs.foldl (λb q=>g0b b q.den) b
 | r :: qs,b,q,h=>by
  rcases z0m.mp h with e | e
  ·subst e;exact Nat.dvd_trans (Nat.dvd_lcm_right _ _) (au3 qs _)
  ·exact ay1 qs _ q e
theorem ac3 {qs:List Rat} {q:Rat} (h:q ∈ qs):q.den ∣ n9 qs:=ay1 qs 1 q h
def k8 (B:Nat) (qs:List Rat):List Int:=qs.map λq=>q.num*(B:Int).fdiv (q.den:Int)
theorem ar6 {B:Nat} {q:Rat} (hB:0<B) (h:q.den ∣ B):q=q0z (q.num*(B:Int).fdiv (q.den:Int)) B:=by
 obtain ⟨e,he⟩:=h;have hd:(q.den:Int) ≠ 0:=by have:=q.den_nz;lia
 have e1:(B:Int).fdiv (q.den:Int)=(e:Int):=by
  rw [he,j0t];exact w4 hd
 rw [e1]
 conv=>lhs;rw [<- z0j q]
 rw [y0s hd (by lia),he,j0t]
 grind
end R
namespace L2
open PySem PySem.Spec PyProof.Rows
section
variable {K:q0a} {a b D:Addr} {xs ys:List V} {g:TG} {te:TE} {σ0:St} {H0:Hp} {Q:VK}
theorem am5 (xs ys:List V) (Pv:Nat->St->Hp->Prop) (h0:Pv 0 σ0 H0) (hl:∀ i σ H,Pv i σ H->SqL K H a xs/\SqL K H b ys)
  (hs:∀ i x y σ H p,xs[i]? = some x->ys[i]? = some y->Pv i σ H->H p=none->g (.ref p) σ (upd H p (.tup [x,y])) λσ4 H4=>te σ4 H4 λv H5=>t6 D (min xs.length ys.length) Pv i σ4 v H5)
  (hd:∀ σ H,Pv (min xs.length ys.length) σ H->Q (.ref D) H):aa8 (Itz K a b) D σ0 H0 g te Q:=by
 refine ⟨λi m σ H=>m=min xs.length ys.length-i/\i<=min xs.length ys.length/\Pv i σ H,⟨_,rfl,z0s _,h0⟩,?_⟩;rintro i m σ H ⟨rfl,hi,p⟩;obtain ⟨q,q'⟩:=hl i σ H p
 by_cases hlt:i<min xs.length ys.length
 ·have h1:i<xs.length:=by lia
  have h2:i<ys.length:=by lia
  refine .inr ⟨⟨xs,ys,xs[i],ys[i],q,q',q0d h1,q0d h2⟩,?_⟩;intro v H3 hy;obtain ⟨x,y,r,e1,e2,hr,rfl,rfl⟩:=hy xs ys q q';exact hs i x y σ _ r e1 e2 p hr
 ·have e:i=min xs.length ys.length:=by lia
  subst e;exact .inl ⟨⟨xs,ys,q,q',by lia⟩,hd σ H p⟩
theorem bs1 (xs:List V) (Pv:Nat->St->Hp->Prop) (h0:Pv 0 σ0 H0) (hl:∀ i σ H,Pv i σ H->SqL K H a xs)
  (hs:∀ i x σ H p,xs[i]? = some x->Pv i σ H->H p=none->g (.ref p) σ (upd H p (.tup [.int i,x])) λσ4 H4=>te σ4 H4 λv H5=>t6 D xs.length Pv i σ4 v H5)
  (hd:∀ σ H,Pv xs.length σ H->Q (.ref D) H):aa8 (Ite K a) D σ0 H0 g te Q:=by
 refine ⟨λi m σ H=>m=xs.length-i/\i<=xs.length/\Pv i σ H,⟨_,rfl,z0s _,h0⟩,?_⟩;rintro i m σ H ⟨rfl,hi,p⟩;have q:=hl i σ H p
 by_cases hlt:i<xs.length
 ·refine .inr ⟨⟨xs,xs[i],q,q0d hlt⟩,?_⟩
  intro x H3 hy;obtain ⟨y,r,hy1,hr,rfl,rfl⟩:=hy xs q;exact hs i y σ _ r hy1 p hr
 ·have e:i=xs.length:=⋯
  subst e;exact .inl ⟨⟨xs,q,q0h _⟩,hd σ H p⟩
theorem aD2 {tb:TS} {E:ar4} {σ:St} {H:Hp} (xs:List V) (Pv:Nat->St->Hp->Prop) (h0:Pv 0 σ H) (hl:∀ i σ H,Pv i σ H->SqL K H a xs)
  (hs:∀ i x σ H p,xs[i]? = some x->Pv i σ H->H p=none->g (.ref p) σ (upd H p (.tup [.int i,x])) λσ2 H2=>tb { E with nx:=Pv (i+1),ct:=Pv (i+1),bk:=E.nx } σ2 H2) (hd:∀ σ H,Pv xs.length σ H->E.nx σ H) :
  ∃ W:Nat->Nat->St->Hp->Prop,(∃ m,W 0 m σ H)/\∀ i m σ H,W i m σ H ->
   ((Ite K a).stop i H/\E.nx σ H) \/ ((Ite K a).go i H/\∃ N:St->Hp->Prop,(∀ σ' H',N σ' H'->∃ m',m'<m/\W (i+1) m' σ' H')/\∀ x H',(Ite K a).yld i H x H'->g x σ H' λσ2 H2=>tb { E with nx:=N,ct:=N,bk:=E.nx } σ2 H2):=by
 refine ⟨λi m σ H=>m=xs.length-i/\i<=xs.length/\Pv i σ H,⟨_,rfl,z0s _,h0⟩,?_⟩;rintro i m σ H ⟨rfl,hi,p⟩;have q:=hl i σ H p
 by_cases hlt:i<xs.length
 ·refine .inr ⟨⟨xs,xs[i],q,q0d hlt⟩,Pv (i+1),λσ' H' n=>⟨_,⋯,rfl,hlt,n⟩,?_⟩
  intro x H3 hy;obtain ⟨y,r,hy1,hr,rfl,rfl⟩:=hy xs q;exact hs i y σ _ r hy1 p hr
 ·have e:i=xs.length:=⋯
  subst e;exact .inl ⟨⟨xs,q,q0h _⟩,hd σ H p⟩
end
end L2
set_option maxRecDepth 100000
namespace R
open PySem L2 PyProof.Rows
def m8 (f:Nat->Rat):Nat->Rat
 | 0=>0
 | n+1=>m8 f n+f n
theorem ak5 (f:Nat->Rat):∀ n,m8 f (n+1)=f 0+m8 (λi=>f (i+1)) n
 | 0=>by simp only [m8];grind
 | n+1=>by
  rw [m8,ak5 f n,m8];grind
theorem j5 {f g:Nat->Rat}:∀ {n},(∀ i,i<n->f i=g i)->m8 f n=m8 g n
 | 0,_=>rfl
 | n+1,h=>by rw [m8,m8,j5 λi hi=>h i (by exact Nat.lt_succ_of_lt ‹_›),h n (by simp)]
theorem ap2:∀ (n:Nat) (f:Nat->Rat),m8 f n=m8 (λi=>f (n-1-i)) n
 | 0,_=>rfl
 | n+1,f=>by
  rw [ak5 (λi=>f (n+1-1-i)) n,m8,ap2 n f];have:m8 (λi=>f (n-1-i)) n=m8 (λi=>f (n+1-1-(i+1))) n:=j5 λi hi=>by congr 1;lia
  rw [this]
  show _=f (n+1-1-0)+_;rw [show n+1-1-0=n by simp]
  grind
theorem ah8 {f:Nat->Rat} {m:Nat}:∀ {n},m<=n->(∀ i,m<=i->i<n->f i=0)->m8 f n=m8 f m
 | 0,h,_=>by rw [show m=0 by lia]
 | n+1,h,z=>by
  by_cases e:m=n+1
  ·rw [e]
  ·rw [m8,z n (by lia) (by simp),ah8 (n:=n) ⋯ λi a b=>z i a (by exact Nat.lt_succ_of_lt ‹_›)]
   grind
theorem aH7 (f:List Rat) (i:Nat) (x:Rat) (q:List Rat) {k:Nat} (y:Rat) (hy:f[k]? = some y):∀ j,(N7 0 f i x q j)[k]? = some (y+if i<=k/\k<i+j then x*(q[k-i]?).getD 0 else 0)
 | 0=>by
  rw [N7,hy,if_neg (by simp)];congr 1;grind
 | j+1=>by
  have ih:=aH7 f i x q y hy j;rw [N7]
  by_cases e:k=i+j
  ·subst e
   rw [ar3 _ _ _ _ ih,if_neg (by simp),if_pos (by simp),show i+j-i=j by simp]
   congr 1;grind
  ·rw [am8 _ _ _ _ e,ih]
   by_cases h:i<=k/\k<i+j
   ·rw [if_pos h,if_pos (by lia)]
   ·rw [if_neg h,if_neg (by lia)]
def aJ6 (p q:List Rat) (k i:Nat):Rat:=if i<=k then (p[i]?).getD 0*(q[k-i]?).getD 0 else 0
theorem aH3 (f p q:List Rat) {k:Nat} (hy:f[k]? = some 0):∀ n,(J4 0 f p q n)[k]? = some (m8 (aJ6 p q k) n)
 | 0=>hy
 | n+1=>by
  rw [J4,aH7 _ _ _ _ _ (aH3 f p q hy n),m8]
  congr 2
  unfold aJ6
  by_cases h:n<=k
  ·rw [if_pos h]
   by_cases h2:k<n+q.length
   ·rw [if_pos ⟨h,h2⟩]
   ·rw [if_neg (by lia),z0p (l:=q) (by lia)]
    show (0:Rat)=_*0
    grind
  ·rw [if_neg h,if_neg (by lia)]
theorem aC8 {p q:List Rat} (hp:p ≠ []) (hq:q ≠ []) {k:Nat} (hk:k<p.length+q.length-1):(Q8 p q)[k]? = some (m8 (λi=>(p[i]?).getD 0*(q[k-i]?).getD 0) (k+1)):=by
 unfold Q8;rw [if_neg (by simp [hp,hq]),aH3 _ _ _ (by rw [y0u,if_pos hk])]
 congr 1
 have h1:m8 (aJ6 p q k) (max p.length (k+1))=m8 (aJ6 p q k) p.length:=ah8 (by lia) λi a _=>by
  unfold aJ6;rw [z0p a]
  split
  ·show (0:Rat)*_=0;grind
  ·rfl
 have h2:m8 (aJ6 p q k) (max p.length (k+1))=m8 (aJ6 p q k) (k+1):=ah8 (by lia) λi a _=>by
  unfold aJ6;rw [if_neg (by lia)]
 rw [<- h1,h2];exact j5 λi hi=>by unfold aJ6;rw [if_pos (by lia)]
theorem bd7 (p q:List Rat):Q8 p q=Q8 q p:=by
 by_cases hp:p=[]
 ·subst hp;simp [Q8]
 by_cases hq:q=[]
 ·subst hq;simp [Q8]
 refine u0s λk=>?_
 by_cases hk:k<p.length+q.length-1
 ·rw [aC8 hp hq hk,aC8 hq hp (by lia),ap2]
  congr 1
  refine j5 λi hi=>?_;rw [show k+1-1-i=k-i by simp,show k-(k-i)=i by lia]
  grind
 ·rw [z0p (by rw [at8 hp hq];exact Nat.not_lt.mp ‹_›),z0p (by rw [at8 hq hp];lia)]
end R
namespace L2
theorem k7 {t R:TS} {D:ar4} {σ:St} {H:Hp} (P:St->Hp->Prop) (first:∀ N:St->Hp->Prop,(∀ σ H,P σ H->N σ H)->t { D with nx:=N } σ H) (ay6:∀ σ H,P σ H->R D σ H):bn7 t R D σ H:=first _ ay6
end L2
set_option maxRecDepth 100000
namespace R
section
variable {α:Type} [Lean.Grind.CommRing α]
def syn (c:α):List α->List α
 | []=>[]
 | a :: p=>match syn c p with
  | []=>[a]
  | h :: t=>(a+c*h) :: h :: t
def pass (c:α) (k:Nat) (l:List α):List α:=l.take k ++ syn c (l.drop k)
end
open PySem L2 PyProof.Rows
structure Bd6 (q:Rat):Prop where
 n:q.num.natAbs<2 ^ 6000
 d:q.den<2 ^ 6000
theorem BdN.bd6 {n:Nat} {q:Rat} (h:BdN n q) (l:n<=6000):Bd6 q:=⟨q0b h.n (i6 l),q0b h.d (i6 l)⟩
theorem ay0:∀ (qs:List Rat) (b:Nat),0<b->0<qs.foldl (λb q=>g0b b q.den) b
 | [],b,h=>h
 | q :: qs,b,h=>ay0 qs _ (Nat.lcm_pos h (by have:=q.den_nz;lia))
theorem M7 (qs:List Rat):0<n9 qs:=ay0 qs 1 (by decide)
def ax5 (ws:List Int):Int:=ws.foldl (λp v=>if v=0 then p else p*v) 1
theorem aC0 (ws:List Int) (v:Int):ax5 (ws ++ [v])=if v=0 then ax5 ws else ax5 ws*v:=by simp [ax5]
theorem aj1:∀ (ws:List Int) (p:Int),p ∣ ws.foldl (λp v=>if v=0 then p else p*v) p
 | [],p=>Int.dvd_refl _
 | v :: ws,p=>by
  simp only [y0r]
  by_cases h:v=0
  ·rw [if_pos h];exact aj1 ws p
  ·rw [if_neg h];exact y0h ⟨v,rfl⟩ (aj1 ws _)
theorem au2:∀ (ws:List Int) (p v:Int),v ∈ ws->v ≠ 0->v ∣ ws.foldl (λp v=>if v=0 then p else p*v) p
 | [],p,v,h,_=>by cases h
 | u :: ws,p,v,h,hv=>by
  simp only [y0r];rcases z0m.mp h with e | e
  ·subst e
   rw [if_neg hv];exact y0h ⟨p,y0g _ _⟩ (aj1 ws _)
  ·exact au2 ws _ v e hv
theorem bc8 {ws:List Int} {v:Int} (h:v ∈ ws) (hv:v ≠ 0):v ∣ ax5 ws:=au2 ws 1 v h hv
theorem bk9 {b p v:Int} (h:v ∣ p):q0y (q0y b p:Nat) v=q0y b v:=by
 refine Nat.dvd_antisymm ?_ ?_
 ·refine q1r ?_ ?_
  ·exact y0h (j0v _ _) (j0v _ _)
  ·exact j0q _ _
 ·refine q1r ?_ (j0q _ _)
  exact u0q.mpr (q1r (j0v _ _) (y0h (j0q _ _) h))
end R
set_option maxRecDepth 100000
namespace L2
open PySem PySem.Spec PyProof.Rows
theorem av9 {h:Heap} {a:Addr} {m:Str->Option Value} {o:Obj} (n:h.Ns a m) (e:h.get? a=some o) (v:Option Value) (z:o.data=.cell v):False:=by
 obtain ⟨o',es,ep,e',r⟩:=n;rw [e] at e'
 cases e'
 have d:=r.1;rw [d] at z;cases z
section
variable {X:Cx}
theorem V6 {elt tg iter:Expr} {scope:Scope} {pos spos py:Pos} {y:Str} {i₀:Nat} {cl:List (Str × Addr)} {Nc:List Str} {caps:List (Option Nat)} {wi:TI} {g:TG} {te:TE} (hN:X.N.Nodup) (hi₀:X.N[i₀]? = some y) (hx:Loc X.env.scope y) (hc:X.calm=true) (cp:G5 X scope cl Nc caps) (hi:PI X tg iter wi)
  (hg:∀ C s₂ H₂ fp pins,PG (X.block scope cl C Nc s₂ H₂ fp pins) tg g) (he:∀ C s₂ H₂ fp pins,PE (X.block scope cl C Nc s₂ H₂ fp pins) elt te) (hs:∀ x,foldedSetIterable iter X.env x=pure x:=by intro _;rfl) (hsw:swapsWith (.ListComp elt [⟨tg,iter,[],0⟩] scope pos) (some (.Name y py)) spos.line X.env=pure true:=by rfl)
  (hf:X.fn y=true \/ X.env.scope.names.lookup y=some .local:=by first | exact .inl rfl | exact .inr rfl | assumption) :
  PS X (.Assign [.Name y py] (.ListComp elt [⟨tg,iter,[],0⟩] scope pos) spos) (aU3 (aQ1 wi caps g te) (t4 i₀)):=by
 intro pins s σ H DD I h;rw [exec_Assign_Name_used _ _ _ _ hsw];refine wpAny_bind (wpAny_standAt (wpAny_bind ?_))
 show wpAny _ X.A (do let _ <- comprehension (.ListComp elt [⟨tg,iter,[],0⟩] scope pos) scope X.env _ (newList []) false (eval iter X.env) (some (assign (.Name y py) X.env))) _ _ s
 refine wpAny_bind (wpAny_mono (wpAny_comprehension_free (use:=some (assign (.Name y py) X.env)) (Q:=λ_ s'=>SP X pins DD .next s') rfl hs cp.clos cp.kind cp.names ?_) (λ_ s' hq=>wpAny_pure (wpAny_pure hq)) λ_ _ e=>e);refine thn (hi pins s σ H _ I h) λv s1 h1=>thn h1 λitv s2 h2=>?_;obtain ⟨it,fp,tn,J,H2,e,I2,T,st2,f2,hW⟩:=h2;subst e;refine wpAny_newObj_type ?_ (by show 0<=sizeLine;exact z0s _)
 refine wpAny_newFunctionEnv cp.nocell (by intro y hy;simp at hy) (λh4 hns hsb=>?_) cp.kind
 dsimp only at hns hsb ⊢
 generalize hH3:s2.heap.push { cls:=.type "list",dict:=none,data:=.seq ([]:List Value).toArray }=H3 at hns hsb ⊢
 have hCe:H3.objs.size=s2.heap.objs.size+1:=by rw [<- hH3,z0n]
 have Y0:∀ b o,s2.heap.get? b=some o->b ≠ H3.objs.size:=λb o e=>by rw [hCe];exact q0q (v0j (q0f e))
 have old:∀ b o,s2.heap.get? b=some o->h4.get? b=some o:=λb o e=>hsb.extBut b o (Y0 b o e) (q0j _ (hH3 ▸ q0j _ e))
 have hD:h4.get? s2.heap.objs.size=some { cls:=.type "list",dict:=none,data:=.seq ([]:List Value).toArray } :=
  hsb.extBut _ _ (by rw [hCe];exact q0q (j0n _)) (q0j _ (hH3 ▸ z0b _ rfl))
 have hDn:H2 s2.heap.objs.size=none:=I2.fresh;have hCn:H2 H3.objs.size=none:=I2.hok.fresh (by rw [hCe];exact j0j _)
 have hCs:s2.heap.objs.size<=H3.objs.size:=by rw [hCe];exact j0j _
 have hDC:s2.heap.objs.size ≠ H3.objs.size:=by rw [hCe];exact q0q (j0n _)
 have fpl:∀ b ∈ fp,∃ o,s2.heap.get? b=some o:=λb hb=>let ⟨o,e,_⟩:=T.obj _ _ st2 b hb;⟨o,e⟩;have fpC:∀ b ∈ fp,b ≠ H3.objs.size:=λb hb=>let ⟨o,e⟩:=fpl b hb;Y0 b o e;have fpD:∀ b ∈ fp,b ≠ s2.heap.objs.size:=λb hb=>let ⟨o,e⟩:=fpl b hb;q0q (q0f e);have stkN:∀ b,b ≠ X.env.locals->b ∉ X.fs->b ∉ frs X.stack:=λb h1 h2 z=>(z0m.mp (I2.stkSub b z)).elim h1 h2;obtain ⟨W,⟨m0,w0⟩,turn⟩:=hW s2.heap.objs.size hDn
 have okB:(X.block scope cl H3.objs.size Nc s2 H2 fp pins).Ok:=by
  refine ⟨I2.ok.mod,?_,I2.ok.glob,I2.ok.blt,hCs,λx y c h1 h2=>I2.ok.inj x y c (cp.sub x c h1) (cp.sub y c h2),λx hx=>cp.has x hx,λx c h=>(by cases h),I2.ok.hd,I2.ok.frames,.inl rfl,λb hb=>⟨fpC b hb,λx c h=>(f2 b hb).2.2.2.2.1 x c (cp.sub x c h)⟩,I2.bs,q0s I2.ok.bsz I2.sz,λb o e hb=>?_,λb hb=>stkN b (f2 b hb).2.1 (f2 b hb).2.2.1,I2.stack,I2.stkFree⟩
  ·exact cp.kind
  ·rcases (f2 b hb).2.2.2.1 with z | z
   ·exact I2.ok.noex b o e z
   ·exact absurd (q0b (q0f e) (q0s I2.ok.bsz z)) (j0r _)
 have hokB:HOk X.prog X.w (upd H2 s2.heap.objs.size (.lst [])) h4:=I2.hok.laid old (q0h _) ⟨z0s _,[],_,.nil,hD⟩
 have IB:Inv (X.block scope cl H3.objs.size Nc s2 H2 fp pins) [] (O7 caps σ) (upd H2 s2.heap.objs.size (.lst [])) { s2 with heap:=h4,toks:=s2.toks+([]:List (Str × Value)).length }:=by
  refine ⟨okB,rfl,I2.bare,Un.laid old (q0h _) hDn,⟨_,hns,λi x v e1 e2 e3=>?_⟩,λx c e=>?_,(show upd H2 s2.heap.objs.size (.lst []) H3.objs.size=none by rw [i8 (Ne.symm hDC)];exact hCn),λx c e=>?_,λp hp=>?_,hokB,?_⟩
  ·unfold O7 at e2
   rw [q0m] at e2
   cases hcap:caps[i]? with
   | none=>rw [hcap] at e2;cases e2
   | some o =>
    rw [hcap] at e2
    cases o with
    | none=>cases e2
    | some j =>
     have hj:σ[j]? = some (some v):=by
      have e2':(σ[j]?).join=some v:=Option.some.inj e2
      cases q:σ[j]? with
      | none=>rw [q] at e2';cases e2'
      | some z=>rw [q] at e2';exact congrArg some e2'
     obtain ⟨n1,n2,n3,n4⟩:=cp.cap i j x hcap e1;obtain ⟨m,hm,hl⟩:=I2.loc;obtain ⟨u,r,q⟩:=hl j x v n1 hj n2;rcases q with ⟨k,_⟩ | ⟨k,c,ec,z⟩
     ·exact absurd k n3
     ·obtain ⟨c',ec'⟩:=cp.has x n4
      have:=cp.sub x c' ec';rw [ec] at this;cases this;obtain ⟨oc,ho,hd⟩:=z;exact ⟨u,r,.inr ⟨n4,c,ec',oc,old _ _ ho,hd⟩⟩
  ·obtain ⟨v,oc,ho,hd⟩:=I2.cell x c (cp.sub x c e)
   exact ⟨v,oc,old _ _ ho,hd⟩
  ·obtain ⟨v,oc,ho,hd⟩:=I2.cell x c (cp.sub x c e)
   rw [i8 (q0q (q0f ho))];exact I2.freeC x c (cp.sub x c e)
  ·have hp':p ∈ X.pn ++ pins:=by simpa using hp
   obtain ⟨e1,e2,e3,e4,e5⟩:=I2.pin p hp';exact ⟨old _ _ e1,by rw [i8 (q0q (q0f e1))];exact e2,Y0 _ _ e1,stkN _ e3 e4,e5⟩
  ·show (O7 caps σ).length=Nc.length
   unfold O7;rw [q0e];exact cp.len
 have stat:∀ {H':Hp},(∀ b ∈ fp,H' b=none)->∀ b ∈ fp,aj8 (X.block scope cl H3.objs.size Nc s2 H2 fp pins) [] H' b:=λhn b hb =>
  ⟨hn b hb,fpC b hb,stkN b (f2 b hb).2.1 (f2 b hb).2.2.1,.inl hb,λx c h=>(f2 b hb).2.2.2.2.1 x c (cp.sub x c h),λp hp=>(f2 b hb).2.2.2.2.2 p (by simpa using hp)⟩
 have loop:∀ s5:Shared,s5={ s2 with heap:=h4,toks:=s2.toks+([]:List (Str × Value)).length } ->
   codeAny (model X.prog X.w) X.A (.compLoop (.ListComp elt [⟨tg,iter,[],0⟩] scope pos) 0 (.ref it) (.ref s2.heap.objs.size) (compEnvC scope cl H3.objs.size X.env))
    (compPost (model X.prog X.w) X.A X.xe (some (assign (.Name y py) X.env)) (λ_ s'=>SP X pins DD .next s') (.ref s2.heap.objs.size) H3.objs.size) s5:=by
  rintro s5 rfl;refine ao3 (λn s' => ∃ i σ' H',Inv (X.block scope cl H3.objs.size Nc s2 H2 fp pins) [] σ' H' s'/\tn i s'.heap/\(∀ b ∈ fp,H' b=none)/\W i n σ' H') ?_ m0 ⟨0,_,_,IB,T.keep _ _ _ st2 λb hb o e=>old b o e,λb hb=>by rw [i8 (fpD b hb)];exact (f2 b hb).1,w0⟩
  rintro n s6 ⟨i,σ6,H6,I6,st6,fr6,w6⟩;rcases turn i n σ6 H6 w6 with ⟨stop,qn⟩ | ⟨go,step⟩
  ·refine thn (T.done (X.block scope cl H3.objs.size Nc s2 H2 fp pins) rfl rfl rfl hc i [] s6 σ6 H6 _ I6 (stat fr6) st6 stop) λr s7 zq=>?_
   obtain ⟨hr,I7⟩:=zq;subst hr;obtain ⟨m7,hn7,_⟩:=id I7.loc;have Io:Inv X pins σ H6 s7:=I2.sameC (h'':=s7.heap) f2 I7.os I7.bare I7.base I7.hok hCs I7.free ⟨rfl,λ_ _=>rfl⟩;have fC:aj8 X pins H6 H3.objs.size:=I2.fpOk hCs I7.free;have fC':∀ b ∈ [H3.objs.size],aj8 X pins H6 b:=λb hb=>by rw [z0d.mp hb];exact fC
   obtain ⟨oC,esC,epC,hoC,restC⟩:=id hn7
   have obC:∀ b ∈ [H3.objs.size],∃ o,s7.heap.get? b=some o/\∀ v,o.data ≠ .cell v:=λb hb=>by
    rw [z0d.mp hb];exact ⟨oC,hoC,λv z=>av9 hn7 hoC v z⟩
   have Ip:=Io.pinned fC' obC
   show wpAny (model X.prog X.w) X.A (assign (.Name y py) X.env (.ref s2.heap.objs.size)) _ _ s7;refine thn (d5 (pos:=py) hN hi₀ hx hf _ s7 σ H6 (.ref s2.heap.objs.size) (.ref s2.heap.objs.size) DD.nx Ip rfl qn) λ_ s9 zq=>?_;obtain ⟨σ9,H9,I9,q9⟩:=zq;have keepC:=(I9.pin (H3.objs.size,oC) (q0k _ (q0k _ (B6 (by simp) hoC)))).1
   have H9C:=(I9.pin (H3.objs.size,oC) (q0k _ (q0k _ (B6 (by simp) hoC)))).2.1
   refine ⟨m7,hn7.at' λo e=>by rw [hoC] at e;cases e;exact keepC,λh' sb=>?_⟩
   obtain ⟨_,g1,g2,g3,g4,g5⟩:=fC;exact ⟨σ9,H9,I9.unpinned.turned (t':=s9.toks) (λb o hb e=>(sb.2 b hb).trans e) H9C g1 g3 g4 g5,q9⟩
  ·refine thn (T.item (X.block scope cl H3.objs.size Nc s2 H2 fp pins) rfl rfl rfl hc i [] s6 σ6 H6 _ I6 (stat fr6) st6 go) λr s7 zq=>?_
   obtain ⟨u,hr,h7⟩:=zq;subst hr;refine thn h7 λ_ s8 zq=>?_;obtain ⟨x,H8,I8,r8,y8,st8,fr8⟩:=zq;have I8':=I8.pinned (stat fr8) (T.obj _ _ st8);refine thn (hg _ _ _ _ _ _ s8 σ6 H8 x u _ I8' r8 (step x H8 y8)) λ_ s9 zq=>?_;obtain ⟨σ9,H9,I9,q9⟩:=zq;refine thn (he _ _ _ _ _ _ s9 σ9 H9 _ I9 q9) λu10 s10 zq=>?_;obtain ⟨v10,H10,I10,r10,ys,hys,hlen,m',hm',w'⟩:=zq;refine thn (N6 _ s10 σ9 H10 (.ref s2.heap.objs.size) [v10] (.ref s2.heap.objs.size) [u10] (λ_ H11=>H11=upd H10 s2.heap.objs.size (.lst (ys ++ [v10]))) I10 rfl (.cons r10 .nil) ⟨_,ys,v10,rfl,rfl,hys,hlen,rfl⟩) λ_ s11 zq=>?_;obtain ⟨_,H11,I11,_,hH11⟩:=zq;subst hH11;refine ⟨m',hm',i+1,σ9,_,I11.unpinned,T.keep _ _ _ st8 λb hb o e=>(I11.pin (b,o) (q0k _ (q0k _ (B6 hb e)))).1,λb hb=>?_,w'⟩;obtain ⟨o,e,d⟩:=T.obj _ _ st8 b hb;exact (I11.pin (b,o) (q0k _ (q0k _ (B6 hb e)))).2.1
 exact codeAny_compStart_list (loop _ rfl) (T.self _ 0 _ _ _ (T.keep _ _ _ st2 λb hb o e=>old b o e) (loop _ rfl))
end
theorem PS.nox {X:Cx} {st:Stmt} {t:TS} (h:PS X.nox st t):PS X st t:=λpins s σ H D I hw =>
 wpAny_mono (h pins s σ H D (I.wish _) hw) (λ_ _ q=>q.unwish) λ_ _ z=>False.elim z
section
variable {X:Cx} {pins:List (Addr × Obj)} {σ:St} {H:Hp} {s:Shared}
theorem Inv.relocalN {h':Heap} {m:Str->Option Value} {t' i:Nat} {n:Str} {v₀:Option Value} (I:Inv X pins σ H s) (hN:X.N.Nodup) (hi:X.N[i]? = some n) (hl:∀ (j:Nat) (x:Str) (v:V),X.N[j]? = some x->σ[j]? = some (some v)->Vis X.env.scope x->∃ u,G2 v u/\bB5 X.env s.heap m x u)
  (hn':h'.Ns X.env.locals (λx=>if x=n then v₀ else m x)) (hs:v0c X.env.locals s.heap h'):Inv X pins (σ.set i none) H { s with heap:=h',toks:=t' }:=by
 have cne:=I.cne;refine ⟨I.ok,I.os,I.bare,⟨λb o e n hb hx=>?_,λb o e n hb hx=>?_,I.base.free,λb o e hx=>?_,I.base.tups,I.base.frzs,I.base.tbls⟩,⟨_,hn',λj y v' e1 e2 e3=>?_⟩,λy c e=>?_,I.free,I.freeC,λp hp=>?_,λb ob e=>?_,?_⟩
 ·exact (hs.2 b (q0q (q0b (q0f e) I.ok.above))).trans (I.base.keep b o e n hb hx)
 ·obtain ⟨sl,e1⟩:=I.base.slot b o e n hb hx
  exact ⟨sl,(hs.2 b (q0q (q0b (q0f e) I.ok.above))).trans e1⟩
 ·obtain ⟨o',e1⟩:=I.base.there b o e hx
  exact ⟨o',(hs.2 b (q0q (q0b (q0f e) I.ok.above))).trans e1⟩
 ·by_cases hj:j=i
  ·subst hj
   rw [u0u (by rw [I.len];exact (q0g.mp hi).1)] at e2
   cases e2
  ·rw [g0e (Ne.symm hj)] at e2
   obtain ⟨u,r,q⟩:=hl j y v' e1 e2 e3;refine ⟨u,r,?_⟩
   have hy:y ≠ n:=λz=>by
    subst z;have h1:=q0g.mp e1;have h2:=q0g.mp hi;exact hj ((List.getElem_inj hN).mp (h1.2.trans h2.2.symm))
   rcases q with ⟨k,q⟩ | ⟨k,c,ec,z⟩
   ·exact .inl ⟨k,(if_neg hy).trans q⟩
   ·exact .inr ⟨k,c,ec,z.sameBut hs (cne y c ec)⟩
 ·obtain ⟨w',z⟩:=I.cell y c e
  exact ⟨w',z.sameBut hs (cne y c e)⟩
 ·obtain ⟨e,n,ne,nf,d⟩:=I.pin p hp
  exact ⟨(hs.2 p.1 ne).trans e,n,ne,nf,d⟩
 ·refine (I.hok b ob e).stay (λc w' hc q=>(hs.2 c ?_).trans q) (λ_ q=>q) λ_ _ q=>q
  rintro rfl;rcases hc with rfl | hc
  ·rw [I.free] at e;cases e
  ·rw [I.free] at hc;cases hc
 ·rw [y0d];exact I.len
end
def bg8 (K:q0a) (n C i:Nat) (tb:XK->TS) (th:Addr->TS):TS:=λD σ H =>
 tb (λcls _ H'=>PySem.W.exmOne K cls (.ref C)=some true/\∀ a,H' a=none->th a { nx:=λσ H'=>D.nx (σ.set i none) H',rt:=D.rt } ((z0a n none).set i (some (.ref a))) (upd H' a (Exc cls a))) D σ H
section
variable {X:Cx}
theorem bo9 {body:List Stmt} {x n:Str} {C:Addr} {i:Nat} {b₀:Stmt} {suite:List Stmt} {tb:XK->TS} {th:Addr->TS} {np hpos pos:Pos} {l:List Env} (hst:X.stack=X.env :: l) (hfr:X.env.frame=some X.env.locals)
  (hex0:X.ex=[]) (hN:X.N.Nodup) (hi:X.N[i]? = some n) (hl:X.env.kindOf n=some .local) (hg:Gl X x) (hm:X.mg x=some (.ref C)) 
  (hb:∀ (E:XK) (xe:Value->Shared->Prop) (pn:List (Addr × Obj)),ax2 (CXR X.prog X.w) (X.body xe pn) E->PSs (X.body xe pn) body (tb E))
  (hs:∀ a,PSs (X.suite a) (b₀ :: suite) (th a)) (hd:(x == ("__debug__" : Str))=false:=by decide) :
  PS X (.Try body [.ExceptHandler (some (.Name x np)) (some n) (b₀ :: suite) hpos] [] [] pos) (bg8 X.K X.N.length C i tb th):=by
 intro pins s σ H D I h;refine wpAny_Try_except ?_;refine wpAny_mono (hb _ (λe s₁=>wpAny (model X.prog X.w) X.A (noteFrame e X.env) (λ_ s₂=>wpAny (model X.prog X.w) X.A (setFlight e none) (λ_ s₃=>wpAny (model X.prog X.w) X.A (handleBy e X.env [.ExceptHandler (some (.Name x np)) (some n) (b₀ :: suite) hpos]) (SP X pins D) X.xe s₃) X.xe s₂) X.xe s₁) (X.pn ++ pins) ?_ [] s σ H D I.bear h) ?_ λ_ _ z=>z
 case refine_2 =>
  intro f s1 hf
  cases f with
  | next =>
   obtain ⟨σ',H',J,q⟩:=hf;exact wpAny_execs_nil ⟨σ',H',J.unbear,q⟩
  | brk =>
   obtain ⟨σ',H',J,q⟩:=hf;exact ⟨σ',H',J.unbear,q⟩
  | cont =>
   obtain ⟨σ',H',J,q⟩:=hf;exact ⟨σ',H',J.unbear,q⟩
  | ret u =>
   obtain ⟨v,σ',H',J,r,q⟩:=hf;exact ⟨v,σ',H',J.unbear,r,q⟩
 case refine_1 =>
  intro pins' σ' H1 s1 e s2 J0 hcx;have J:Inv X pins σ' H1 s1:=J0.unbear;obtain ⟨a,cls,a0,H2,B,rfl,os,bare,fl,hB,hth,hok,un,hn,hE⟩:=hcx;obtain ⟨hex,hsu⟩:=hE;have fl':q1h B (X.env :: l) a cls a0 s2.heap:=by rw [<- hst];exact fl
  refine wpAny_looks_onW (by rw [J.ok.frames,hst]) hfr fl' λh4 held4 up4=>?_
  refine wpAny_landsW held4 λh5 fl5 up5=>?_;have J5:Inv X pins σ' H2 { s2 with heap:=h5 }:=J.caught os bare fl hB hth hok un fl5.1 (up4.trans up5);obtain ⟨ob,hob,hobc⟩:=fl5.there;have LT:PySem.W.Looks (model X.prog X.w) h5 (typeOf (.ref a)) cls:=hobc ▸ (PySem.W.Looks.ld hob).andThen .now;have J5h:Inv (X.suite a) pins σ' H2 { s2 with heap:=h5 }:=J5.reA rfl (λz=>nomatch z);refine wpAny_handleBy_cons (codeAny_handlers_test (au0 (X:=X.suite a) J5h hg hm ?_ hd)) (by intro q;cases q)
  refine (PySem.W.exm_one (M:=model X.prog X.w) J5.kIn LT hex).at ?_;refine codeAny_handlers_suite_as ?_;refine lands_againW fl5 λh6 fl6 up6=>?_;have J6:Inv X pins σ' H2 { s2 with heap:=h6 }:=J.caught os bare fl hB hth hok un fl6.1 ((up4.trans up5).trans up6);have J6h:Inv (X.suite a) pins (ax9 X) H2 { s2 with heap:=h6 }:=(show Inv (X.suite a) pins σ' H2 { s2 with heap:=h6 } from J6.reA rfl (λz=>nomatch z)).forget
  -- the exception is tracked
  obtain ⟨oe,ws,hoe,hoec,hoed,_⟩:=fl6.first
  have nfr:∀ b ∈ frs X.stack,b ≠ a:=λb hb z=>by
   obtain ⟨_,o',ho',hnf⟩:=fl6.2.2.1.mem (show b ∈ frs (X.env :: l) from hst ▸ hb);subst z;have ho6:h6.get? b=some o':=ho';rw [hoe] at ho6;cases ho6;exact hnf ws hoed
  have nB:∀ b o,B.get? b=some o->b ≠ a:=λb o q z=>by rw [z,fl.2.1] at q;cases q
  have nL:X.env.locals ≠ a:=nfr _ (by rw [hst];unfold frs;rw [y0f,hfr];exact z0c)
  have J7:Inv (X.suite a) pins (ax9 X) (upd H2 a (Exc cls a)) { s2 with heap:=h6 }:=by
   refine J6h.track hn (Exc.ok hoe hoec hoed) (λb ob q n hx=>?_) nL (λy c q=>?_) (λp hp=>?_)
   ·have hx':b ∉ X.ex:=hx
    by_cases hbf:b ∈ frs X.stack
    ·exact nfr b hbf
    ·have z1:b ∉ X.fs:=λz=>hbf (by
      rcases J.ok.stk with e | ⟨e,_⟩
      ·rw [e];exact z
      ·rw [e];unfold frs;rw [y0f,hfr];exact q0u _ z)
     exact nB b ob (hB b ob (J.base.keep b ob q n z1 hx') (J.base.free b ob q n hx') hbf)
   ·obtain ⟨v,o',ho',hd'⟩:=J6h.cell y c q
    intro z;subst z;have z1:h6.get? c=some o':=ho';rw [hoe] at z1;cases z1;rw [hoed] at hd';cases hd'
   ·have hp':p ∈ X.pn ++ pins:=hp
    obtain ⟨e1,e2,e3,e4,_⟩:=J.pin p hp';refine nB p.1 p.2 (hB p.1 p.2 e1 e2 λz=>?_);rcases z0m.mp (J.stkSub p.1 z) with y | y
    ·exact e3 y
    ·exact e4 y
  refine ak6 (X:=X.suite a) J7 hN hi (.inl hl) (v:=.ref a) (u:=.ref a) rfl (λs8 J8=>?_) (.inr hl);refine wpAny_mono (hs a pins s8 _ _ { nx:=λσ H'=>D.nx (σ.set i none) H',rt:=D.rt } J8 (hsu a hn)) (λf s9 hf=>?_) λ_ _ z=>False.elim z
  cases f with
  | next =>
   obtain ⟨σ9,H9,J9,q9⟩:=hf;have J9':Inv X pins σ9 H9 s9:=J9.unA J.ok;obtain ⟨m9,hn9,hl9⟩:=id J9'.loc;refine wpAny_nameGoes_keeps hl hn9 (by rw [J.ok.kind];rfl) λh' v' hn' hs'=>?_
   exact ⟨σ9.set i none,H9,J9'.relocalN hN hi hl9 hn' hs',q9⟩
  | brk=>obtain ⟨_,_,_,q⟩:=hf;exact False.elim q
  | cont=>obtain ⟨_,_,_,q⟩:=hf;exact False.elim q
  | ret u =>
   obtain ⟨v,σ9,H9,J9,r9,q9⟩:=hf;obtain ⟨m9,hn9,_⟩:=id J9.loc;have J9':Inv X pins σ9 H9 s9:=J9.unA J.ok;refine wpAny_nameGoes hl hn9 (by rw [J.ok.kind];rfl) λh' m' hn' hs'=>?_
   exact ⟨v,ax9 X,H9,J9'.relocal hn' hs',r9,q9⟩
def smZ:List Int->Int
 | []=>0
 | a :: l=>a+smZ l
theorem aA7:∀ (l m:List Int),smZ (l ++ m)=smZ l+smZ m
 | [],m=>by simp [smZ]
 | a :: l,m=>by rw [List.cons_append,smZ,smZ,aA7 l m];lia
theorem ax6 (ns:List Int):∀ k,k<=ns.length->preSum (λi=>(ns[i]?).getD 0) k=smZ (ns.take k)
 | 0,_=>by rw [List.take_zero];rfl
 | k+1,h=>by
  have hk:ns[k]? = some (ns[k]'(by lia)):=q0d _
  rw [g0s,hk,aA7,<- ax6 ns k (by exact Nat.le_of_lt ‹_›)]
  show preSum (λi=>(ns[i]?).getD 0) k+(ns[k]?).getD 0=preSum (λi=>(ns[i]?).getD 0) k+(ns[k]'⋯+0);rw [hk,Int.add_zero];rfl
def bv6 (K:q0a):List V->Hp->VK->Prop:=λxs H Q => ∃ (p:Addr) (ns:List Int),xs=[.ref p]/\SqL K H p (ns.map V.int)/\Q (.int (smZ ns)) H
theorem bm5 (hc:X.calm=true):aa9 X (.builtin "sum") (bv6 X.K):=by
 intro pins s σ H xs us Q I r h;obtain ⟨p,ns,rfl,hq,q⟩:=h;obtain ⟨u,rfl,rx⟩:=ap0 r
 cases rx
 obtain ⟨its,r',pl,hz⟩:=I.list hq;have hlen:its.length=ns.length:=by rw [<- r'.length,q0e]
 have hp:p ≠ s.heap.objs.size:=by
  obtain ⟨o,ho,_⟩:=pl.isList;exact q0q (q0f ho)
 refine call_sum_walkAnyS (wpAny_pyIter_list pl.isList ?_);refine ⟨s.heap.objs.size,_,_,_,_,_,_,λi=>(ns[i]?).getD 0,rfl,(Walks.list (A:=X.A.in1) (I.ok.hd hc) _ p hp its.toArray).toS,⟨⟨_,z0b _ rfl,rfl,rfl⟩,pl.isList.at λo e=>q0j _ e⟩,?_,?_,?_⟩
 ·intro b hb
  have hb':b=s.heap.objs.size \/ b=p:=by simpa using hb
  show b<(s.heap.push _).objs.size;rw [z0n];rcases hb' with z | z
  ·rw [z];exact j0n _
  ·obtain ⟨o,ho,_⟩:=pl.isList
   rw [z];exact v0j (q0f ho)
 ·intro i v hv
  have hv':its[i]? = some v:=by simpa using hv
  have hi:i<ns.length:=by rw [<- hlen];exact (q0g.mp hv').1
  obtain ⟨u,hu,ru⟩:=r'.get (i:=i) (x:=.int ns[i]) (by rw [q0m,q0d hi];rfl)
  rw [hv'] at hu
  cases hu
  obtain ⟨t,rfl⟩:=(show ∃ t,v=Value.int ns[i] t from ru);exact ⟨t,by show _=Value.int ((ns[i]?).getD 0) t;rw [q0d hi];rfl⟩
 ·intro s' t' mv
  have e:preSum (λi=>(ns[i]?).getD 0) its.toArray.size=smZ ns:=by
   rw [q0r,hlen,ax6 ns _ (q0h _),y0k]
  rw [e];obtain ⟨h',g',d',tk',o'⟩:=s';obtain ⟨m1,m2,m3,m4,m5⟩:=mv;have m2':g'=s.gens:=m2;have m3':d'=s.drawn:=m3;have m4':o'=s.os:=m4;subst m2' m3' m4';refine ⟨.int _,H,?_,⟨_,rfl⟩,q⟩;refine I.kept (t':=tk') (h':=h') λb o e=>m1 b o ?_ (q0j _ e);intro z;have:b=s.heap.objs.size:=by simpa using z
  exact absurd (q0f e) (by rw [this];exact j0r _)
def aV1 (K:q0a):List V->Hp->VK->Prop:=λxs H Q => ∃ p ys,xs=[.ref p]/\(SqL K H p ys \/ SqT K H p ys)/\∀ l,H l=none->Q (.ref l) (upd H l (.lst ys))
theorem U4 {M:Model} {A:Around} {E:Value->Shared->Prop} {s:Shared} {scope:Scope} {globals:Addr} {cl:List (Str × Addr)} {qual:Str} {func:Option Addr} {code:Value} {outer:Env} {Q:Env->Shared->Prop}
  (hQ:Q { scope,locals:=s.heap.objs.size,globals,cells:=cellsFrom (s.heap.objs.size+1) scope.names cl,qual,func,code:=outer.code,frame:=outer.frame,builtins:=outer.builtins }
   { s with heap:=pushCells (s.heap.push { cls:=.type "dict",data:=.dict #[] }) scope.names }) :
  wpAny M A (newFunctionEnv scope globals cl [] qual func code (some outer)) Q E s:=by
 simp only [newFunctionEnv,Option.isSome_some,if_true];refine wpAny_bind (wpAny_alloc ?_);refine wpAny_bind (wpAny_layCells _ (λname kind cells=>by cases hkc:kind == NameKind.cell <;> simp [hkc]) _ _ _ _ ?_)
 rw [show ({ s with heap:=s.heap.push { cls:=.type "dict",data:=.dict #[] } }:Shared).heap.objs.size=s.heap.objs.size+1 from z0n ..]
 rw [m0x];exact wpAny_bind (wpAny_pure (wpAny_pure hQ))
structure bn2 (h h':Heap) (names:List (Str × NameKind)) (acc cs:List (Str × Addr)):Prop where
 cell:∀ x c,cs.lookup x=some c->∃ v,h'.IsCell c v
 inj:∀ x y c,cs.lookup x=some c->cs.lookup y=some c->x=y
 old:∀ x c,cs.lookup x=some c->acc.lookup x=some c \/ h.objs.size<=c
 fresh:∀ x,(x,NameKind.cell) ∈ names->∀ c,cs.lookup x=some c->h.objs.size<=c
theorem ah4 {x name:Str} {a c:Addr} {acc:List (Str × Addr)} (h:((name,a) :: acc).lookup x=some c):(x=name/\c=a) \/ (x ≠ name/\acc.lookup x=some c):=by
 rw [v0q] at h
 by_cases e:x=name
 ·subst e
  simp at h
  exact .inl ⟨rfl,h.symm⟩
 ·have:(x == name)=false:=by simpa using e
  rw [this] at h;exact .inr ⟨e,h⟩
theorem ao4 : ∀ (names : List (Str × NameKind)) (h : Heap) (acc : List (Str × Addr)), (∀ x c, acc.lookup x = some c → ∃ v, h.IsCell c v) → (∀ x y c, acc.lookup x = some c → acc.lookup y = some c → x = y) →
    bn2 h (pushCells h names) names acc (cellsFrom h.objs.size names acc)
  | [],h,acc,hc,hi=>⟨hc,hi,λ_ _ e=>.inl e,λ_ hm=>by cases hm⟩
  | (name,kind) :: r,h,acc,hc,hi=>by
    unfold pushCells cellsFrom
    split
    · have ih := ao4 r (h.push { cls := .type "cell", data := .cell none }) ((name, h.objs.size) :: acc)
        (λx c e=>by
          rcases ah4 e with ⟨_,e2⟩ | ⟨_,e2⟩
          · subst e2;exact ⟨none,_,Heap.get?_push_size _ rfl,rfl⟩
          · obtain ⟨v,z⟩:=hc x c e2
            exact ⟨v,z.keeps λb o e=>Heap.get?_push_of_some _ e⟩)
        (λx y c e1 e2=>by
          rcases ah4 e1 with ⟨a1,a2⟩ | ⟨a1,a2⟩ <;> rcases ah4 e2 with ⟨b1,b2⟩ | ⟨b1,b2⟩
          · rw [a1,b1]
          · obtain ⟨v,z⟩:=hc y c b2
            exact absurd z.lt (by rw [a2];exact Nat.lt_irrefl _)
          · obtain ⟨v,z⟩:=hc x c a2
            exact absurd z.lt (by rw [b2];exact Nat.lt_irrefl _)
          · exact hi x y c a2 b2)
      rw [Heap.size_push] at ih;refine ⟨ih.cell,ih.inj,λx c e=>?_,λx hm c e=>?_⟩
      · rcases ih.old x c e with z | z
        · rcases ah4 z with ⟨_,e2⟩ | ⟨_,e2⟩
          · exact .inr (by rw [e2];exact Nat.le_refl _)
          · exact .inl e2
        · rw [Heap.size_push] at z
          exact .inr (Nat.le_of_succ_le z)
      · rcases List.mem_cons.mp hm with z | z
        · cases z
          rcases ih.old _ c e with z | z
          · rcases ah4 z with ⟨_,e2⟩ | ⟨e1,_⟩
            · rw [e2];exact Nat.le_refl _
            · exact absurd rfl e1
          · rw [Heap.size_push] at z
            exact Nat.le_of_succ_le z
        · have:=ih.fresh x z c e
          rw [Heap.size_push] at this;exact Nat.le_of_succ_le this
    · rename_i hk
      have ih:=ao4 r h acc hc hi;refine ⟨ih.cell,ih.inj,ih.old,λx hm c e=>?_⟩;rcases List.mem_cons.mp hm with z | z
      · cases z;exact absurd rfl hk
      · exact ih.fresh x z c e
theorem aj7 {x:Str}:∀ (names:List (Str × NameKind)) (n:Nat) (acc:List (Str × Addr)),(x,NameKind.cell) ∉ names->(cellsFrom n names acc).lookup x=acc.lookup x
 | [],_,_,_=>rfl
 | (name,kind) :: r,n,acc,h=>by
  unfold cellsFrom;have hr:(x,NameKind.cell) ∉ r:=λz=>h (q0u _ z)
  split
  ·rename_i hk
   rw [aj7 r _ _ hr,v0q]
   have:(x == name)=false:=by
    refine beq_eq_false_iff_ne.mpr λe=>h ?_;subst e;rw [<- beq_iff_eq.mp hk];exact z0c
   rw [this]
  ·exact aj7 r _ _ hr
theorem ag0 {x:Str}:∀ (names:List (Str × NameKind)) (n:Nat) (acc:List (Str × Addr)),((x,NameKind.cell) ∈ names \/ ∃ c,acc.lookup x=some c)->∃ c,(cellsFrom n names acc).lookup x=some c
 | [],_,_,h=>h.elim (λz=>by cases z) id
 | (name,kind) :: r,n,acc,h=>by
  unfold cellsFrom
  have up:(∃ c,acc.lookup x=some c)->∃ c,((name,n) :: acc).lookup x=some c:=λ⟨c,e⟩=>by
   rw [v0q]
   split
   ·exact ⟨_,rfl⟩
   ·exact ⟨c,e⟩
  split
  ·refine ag0 r _ _ ?_
   rcases h with z | z
   ·rcases z0m.mp z with z | z
    ·cases z
     exact .inr ⟨n,by simp⟩
    ·exact .inl z
   ·exact .inr (up z)
  ·rename_i hk
   refine ag0 r _ _ ?_;rcases h with z | z
   ·rcases z0m.mp z with z | z
    ·cases z;exact absurd rfl hk
    ·exact .inl z
   ·exact .inr z
def bd0 (scope:Scope) (x:Str):Bool:=scope.names.any λy=>y.1 == x && y.2 == .cell
theorem aM7 {scope:Scope} {x:Str} (h:bd0 scope x=true):(x,NameKind.cell) ∈ scope.names:=by
 unfold bd0 at h;obtain ⟨⟨a,k⟩,hm,hh⟩:=List.any_eq_true.mp h;simp only [j0u,beq_iff_eq] at hh;obtain ⟨rfl,rfl⟩:=hh;exact hm
abbrev Cx.blockC (X:Cx) (scope:Scope) (cl:List (Str × Addr)) (C:Addr) (Nc:List Str) (s₂:Shared) (H₂:Hp) (fp:List Addr) (pins:List (Addr × Obj)):Cx :=
 { X with N:=Nc,s₀:=s₂,H₀:=H₂,env:=compEnvC scope (cellsFrom (C+1) scope.names cl) C X.env,outer:=X.stack,ex:=fp,fn:=bd0 scope,pn:=X.pn ++ pins,xe:=λ_ _=>False }
structure ak0 (X:Cx) (scope:Scope) (cl:List (Str × Addr)) (Nc:List Str) (caps:List (Option Nat)):Prop where
 clos:closureFor scope X.env=pure cl
 sub:∀ x c,cl.lookup x=some c->X.env.cells.lookup x=some c
 has:∀ n x,(relabel scope X.env).names.lookup x=some .cell \/ (relabel scope X.env).names.lookup x=some .free->∃ c,(cellsFrom n scope.names cl).lookup x=some c
 kind:scope.kind=.function
 names:∀ x ∈ scope.names,x.2=.local->scope.names.lookup x.1=some .local
 len:caps.length=Nc.length
 cap:∀ (i j:Nat) (x:Str),caps[i]? = some (some j)->Nc[i]? = some x->X.N[j]? = some x/\Vis X.env.scope x/\X.env.kindOf x ≠ some .local/\((relabel scope X.env).names.lookup x=some .cell \/ (relabel scope X.env).names.lookup x=some .free) /\
  (∃ c,cl.lookup x=some c)/\∀ n c,cl.lookup x=some c->(cellsFrom n scope.names cl).lookup x=some c
def ba9 (scope osc:Scope) (N ks Nc:List Str) (caps:List (Option Nat)):Bool :=
 ((Z9 scope osc).all λy => !(y.2 == .cell || y.2 == .free) || ks.contains y.1 || bd0 scope y.1) && scope.kind == .function &&
 (scope.names.all λy=>y.2 != .local || scope.names.lookup y.1 == some .local) && caps.length == Nc.length &&
 ((caps.zip Nc).all λp=>match p.1 with
  | none=>true
  | some j=>N[j]? == some p.2 && be2 (osc.names.lookup p.2) && be2 ((Z9 scope osc).lookup p.2) && ks.contains p.2 && !bd0 scope p.2)
theorem ak0.of {X:Cx} {scope osc:Scope} {cl:List (Str × Addr)} {N ks Nc:List Str} {caps:List (Option Nat)} (clos:closureFor scope X.env=pure cl) (hN:X.N=N) (hosc:X.env.scope=osc) (hks:cl.map (·.1)=ks)
  (sub:∀ x c,cl.lookup x=some c->X.env.cells.lookup x=some c) (ok:ba9 scope osc N ks Nc caps=true):ak0 X scope cl Nc caps:=by
 unfold ba9 at ok;simp only [j0u,m0f,beq_iff_eq,m0n,v0x,bne_iff_ne,ne_eq] at ok;obtain ⟨⟨⟨⟨o1,o3⟩,o4⟩,o5⟩,o6⟩:=ok;have er:(relabel scope X.env).names=Z9 scope osc:=by subst hosc;rfl
 have kof:∀ x,X.env.kindOf x=osc.names.lookup x:=λx=>by subst hosc;rfl
 refine ⟨clos,sub,λn x h=>?_,o3,λx hx hl=>?_,o5,λi j x h1 h2=>?_⟩
 ·rw [er] at h
  have key:∀ k,(Z9 scope osc).lookup x=some k->(k=.cell \/ k=.free)->∃ c,(cellsFrom n scope.names cl).lookup x=some c:=λk hk hcf=>by
   refine ag0 _ _ _ ?_;rcases o1 (x,k) (ar0 hk) with (z | z) | z
   ·rcases hcf with rfl | rfl <;> simp at z
   ·refine .inr (Z2 ?_)
    rw [hks];simpa using z
   ·exact .inl (aM7 z)
  rcases h with h | h
  ·exact key _ h (.inl rfl)
  ·exact key _ h (.inr rfl)
 ·rcases o4 x hx with z | z
  ·exact absurd hl z
  ·exact z
 ·have hm:(some j,x) ∈ caps.zip Nc:=by
   have:(caps.zip Nc)[i]? = some (some j,x):=by
    rw [m0c];exact ⟨h1,h2⟩
   exact q0c this
  have z:=o6 _ hm;simp only [j0u,beq_iff_eq,v0x] at z;obtain ⟨⟨⟨⟨z1,z2⟩,z3⟩,z4⟩,z5⟩:=z;have c2:=az9 z2;have c3:=az9 z3;refine ⟨by rw [hN];exact z1,?_,?_,?_,Z2 (by rw [hks];simpa using z4),λn c e=>?_⟩
  ·rw [hosc]
   rcases c2 with c | c
   ·exact .inr (.inl c)
   ·exact .inr (.inr c)
  ·rw [kof]
   rcases c2 with c | c <;> rw [c] <;> decide
  ·rw [er];exact c3
  ·rw [aj7 _ _ _ λhm=>?_]
   ·exact e
   ·have:bd0 scope x=true:=List.any_eq_true.mpr ⟨_,hm,by simp⟩
    rw [z5] at this;cases this
theorem ah0 {elt tg iter:Expr} {scope:Scope} {pos:Pos} {cl:List (Str × Addr)} {Nc:List Str} {caps:List (Option Nat)} {wi:TI} {g:TG} {te:TE} (hc:X.calm=true) (cp:ak0 X scope cl Nc caps) (hi:PI X tg iter wi)
  (hg:∀ C s₂ H₂ fp pins,PG (X.blockC scope cl C Nc s₂ H₂ fp pins) tg g) (he:∀ C s₂ H₂ fp pins,PE (X.blockC scope cl C Nc s₂ H₂ fp pins) elt te) (hs:∀ x,foldedSetIterable iter X.env x=pure x:=by intro _;rfl) :
  PE X (.ListComp elt [⟨tg,iter,[],0⟩] scope pos) (aQ1 wi caps g te):=by
 intro pins s σ H Q I h;rw [eval_ListComp];refine wpAny_comprehension_free (use:=none) rfl hs cp.clos cp.kind cp.names ?_;refine thn (hi pins s σ H _ I h) λv s1 h1=>thn h1 λitv s2 h2=>?_;obtain ⟨it,fp,tn,J,H2,e,I2,T,st2,f2,hW⟩:=h2;subst e;refine wpAny_newObj_type ?_ (by show 0<=sizeLine;exact z0s _)
 refine U4 ?_
 dsimp only
 generalize hH3:s2.heap.push { cls:=.type "list",dict:=none,data:=.seq ([]:List Value).toArray }=H3
 have hCe:H3.objs.size=s2.heap.objs.size+1:=by rw [<- hH3,z0n]
 have Y0:∀ b o,s2.heap.get? b=some o->b ≠ H3.objs.size:=λb o e=>by rw [hCe];exact q0q (v0j (q0f e))
 have hns0:=(Heap.Ns.new H3 (.type "dict")).keeps (pushCells_keeps scope.names _)
 have old0:∀ b o,s2.heap.get? b=some o->(pushCells (H3.push { cls:=.type "dict",data:=.dict #[] }) scope.names).get? b=some o:=λb o e=>pushCells_keeps _ _ b o (q0j _ (hH3 ▸ q0j _ e))
 have hD0:(pushCells (H3.push { cls:=.type "dict",data:=.dict #[] }) scope.names).get? s2.heap.objs.size=some { cls:=.type "list",dict:=none,data:=.seq ([]:List Value).toArray } :=
  pushCells_keeps _ _ _ _ (q0j _ (hH3 ▸ z0b _ rfl))
 have own:=ao4 scope.names (H3.push { cls:=.type "dict",data:=.dict #[] }) cl (λx c e=>by
   obtain ⟨v,o,ho,hd⟩:=I2.cell x c (cp.sub x c e);exact ⟨v,o,q0j _ (hH3 ▸ q0j _ ho),hd⟩) (λx y c h1 h2=>I2.ok.inj x y c (cp.sub x c h1) (cp.sub y c h2))
 rw [z0n] at own;generalize hh4:pushCells (H3.push { cls:=.type "dict",data:=.dict #[] }) scope.names=h4 at own hns0 old0 hD0 ⊢
 have hns:=hns0;have old:=old0;have hD:=hD0;have isOld:∀ x c,(cellsFrom (H3.objs.size+1) scope.names cl).lookup x=some c->X.env.cells.lookup x=some c \/ H3.objs.size+1<=c:=λx c e=>(own.old x c e).imp (cp.sub x c) λz=>by rw [z0n] at z;exact z
 have hDn:H2 s2.heap.objs.size=none:=I2.fresh;have hCn:H2 H3.objs.size=none:=I2.hok.fresh (by rw [hCe];exact j0j _)
 have hCs:s2.heap.objs.size<=H3.objs.size:=by rw [hCe];exact j0j _
 have hDC:s2.heap.objs.size ≠ H3.objs.size:=by rw [hCe];exact q0q (j0n _)
 have fpl:∀ b ∈ fp,∃ o,s2.heap.get? b=some o:=λb hb=>let ⟨o,e,_⟩:=T.obj _ _ st2 b hb;⟨o,e⟩;have fpC:∀ b ∈ fp,b ≠ H3.objs.size:=λb hb=>let ⟨o,e⟩:=fpl b hb;Y0 b o e;have fpD:∀ b ∈ fp,b ≠ s2.heap.objs.size:=λb hb=>let ⟨o,e⟩:=fpl b hb;q0q (q0f e);have stkN:∀ b,b ≠ X.env.locals->b ∉ X.fs->b ∉ frs X.stack:=λb h1 h2 z=>(z0m.mp (I2.stkSub b z)).elim h1 h2
 have fpX:∀ b ∈ fp,∀ x c,(cellsFrom (H3.objs.size+1) scope.names cl).lookup x=some c->c ≠ b:=λb hb x c h=>by
  rcases isOld x c h with z | z
  ·exact (f2 b hb).2.2.2.2.1 x c z
  ·obtain ⟨o,e⟩:=fpl b hb
   exact y0q (q0b (q0f e) (q0s (q0s hCs (j0j _)) z))
 obtain ⟨W,⟨m0,w0⟩,turn⟩:=hW s2.heap.objs.size hDn
 have okB:(X.blockC scope cl H3.objs.size Nc s2 H2 fp pins).Ok:=by
  refine ⟨I2.ok.mod,?_,I2.ok.glob,I2.ok.blt,hCs,λx y c h1 h2=>own.inj x y c h1 h2,λx hx=>cp.has _ x hx,λx c h e=>q0s (q0s hCs (j0j _)) (by have z:=own.fresh x (aM7 h) c e;rw [z0n] at z;exact z),I2.ok.hd,I2.ok.frames,.inl rfl,λb hb=>⟨fpC b hb,λx c h=>fpX b hb x c h⟩,I2.bs,q0s I2.ok.bsz I2.sz,λb o e hb=>?_,λb hb=>stkN b (f2 b hb).2.1 (f2 b hb).2.2.1,I2.stack,I2.stkFree⟩
  ·exact cp.kind
  ·rcases (f2 b hb).2.2.2.1 with z | z
   ·exact I2.ok.noex b o e z
   ·exact absurd (q0b (q0f e) (q0s I2.ok.bsz z)) (j0r _)
 have hokB:HOk X.prog X.w (upd H2 s2.heap.objs.size (.lst [])) h4:=I2.hok.laid old (q0h _) ⟨z0s _,[],_,.nil,hD⟩
 have IB:Inv (X.blockC scope cl H3.objs.size Nc s2 H2 fp pins) [] (O7 caps σ) (upd H2 s2.heap.objs.size (.lst [])) { s2 with heap:=h4 }:=by
  refine ⟨okB,rfl,I2.bare,Un.laid old (q0h _) hDn,⟨_,hns,λi x v e1 e2 e3=>?_⟩,λx c e=>?_,(show upd H2 s2.heap.objs.size (.lst []) H3.objs.size=none by rw [i8 (Ne.symm hDC)];exact hCn),λx c e=>?_,λp hp=>?_,hokB,?_⟩
  ·unfold O7 at e2
   rw [q0m] at e2
   cases hcap:caps[i]? with
   | none=>rw [hcap] at e2;cases e2
   | some o =>
    rw [hcap] at e2
    cases o with
    | none=>cases e2
    | some j =>
     have hj:σ[j]? = some (some v):=by
      have e2':(σ[j]?).join=some v:=Option.some.inj e2
      cases q:σ[j]? with
      | none=>rw [q] at e2';cases e2'
      | some z=>rw [q] at e2';exact congrArg some e2'
     obtain ⟨n1,n2,n3,n4,n5,n6⟩:=cp.cap i j x hcap e1;obtain ⟨m,hm,hl⟩:=I2.loc;obtain ⟨u,r,q⟩:=hl j x v n1 hj n2;rcases q with ⟨k,_⟩ | ⟨k,c,ec,z⟩
     ·exact absurd k n3
     ·obtain ⟨c',ec'⟩:=n5
      have:=cp.sub x c' ec';rw [ec] at this;cases this;obtain ⟨oc,ho,hd⟩:=z;exact ⟨u,r,.inr ⟨n4,c,n6 _ _ ec',oc,old _ _ ho,hd⟩⟩
  ·exact own.cell x c e
  ·show upd H2 s2.heap.objs.size (.lst []) c=none
   rcases isOld x c e with z | z
   ·obtain ⟨v,oc,ho,hd⟩:=I2.cell x c z
    rw [i8 (q0q (q0f ho))];exact I2.freeC x c z
   ·have hz:s2.heap.objs.size<c:=q0b (q0p hCs (j0n _)) z
    rw [i8 (y0q hz)];exact I2.hok.fresh (v0b hz)
  ·have hp':p ∈ X.pn ++ pins:=by simpa using hp
   obtain ⟨e1,e2,e3,e4,e5⟩:=I2.pin p hp';exact ⟨old _ _ e1,by rw [i8 (q0q (q0f e1))];exact e2,Y0 _ _ e1,stkN _ e3 e4,e5⟩
  ·show (O7 caps σ).length=Nc.length
   unfold O7;rw [q0e];exact cp.len
 have stat:∀ {H':Hp},(∀ b ∈ fp,H' b=none)->∀ b ∈ fp,aj8 (X.blockC scope cl H3.objs.size Nc s2 H2 fp pins) [] H' b:=λhn b hb =>
  ⟨hn b hb,fpC b hb,stkN b (f2 b hb).2.1 (f2 b hb).2.2.1,.inl hb,λx c h=>fpX b hb x c h,λp hp=>(f2 b hb).2.2.2.2.2 p (by simpa using hp)⟩
 have loop:∀ s5:Shared,s5={ s2 with heap:=h4 } ->
   codeAny (model X.prog X.w) X.A (.compLoop (.ListComp elt [⟨tg,iter,[],0⟩] scope pos) 0 (.ref it) (.ref s2.heap.objs.size) (compEnvC scope (cellsFrom (H3.objs.size+1) scope.names cl) H3.objs.size X.env))
    (compPost (model X.prog X.w) X.A X.xe none (EP X pins σ Q) (.ref s2.heap.objs.size) H3.objs.size) s5:=by
  rintro s5 rfl;refine ao3 (λn s' => ∃ i σ' H',Inv (X.blockC scope cl H3.objs.size Nc s2 H2 fp pins) [] σ' H' s'/\tn i s'.heap/\(∀ b ∈ fp,H' b=none)/\W i n σ' H') ?_ m0 ⟨0,_,_,IB,T.keep _ _ _ st2 λb hb o e=>old b o e,λb hb=>by rw [i8 (fpD b hb)];exact (f2 b hb).1,w0⟩
  rintro n s6 ⟨i,σ6,H6,I6,st6,fr6,w6⟩;rcases turn i n σ6 H6 w6 with ⟨stop,qn⟩ | ⟨go,step⟩
  ·refine thn (T.done (X.blockC scope cl H3.objs.size Nc s2 H2 fp pins) rfl rfl rfl hc i [] s6 σ6 H6 _ I6 (stat fr6) st6 stop) λr s7 zq=>?_
   obtain ⟨hr,I7⟩:=zq;subst hr;obtain ⟨m7,hn7,_⟩:=id I7.loc;exact ⟨m7,hn7,λh' sb=>⟨.ref s2.heap.objs.size,H6,I2.sameC f2 I7.os I7.bare I7.base I7.hok hCs I7.free sb,rfl,qn⟩⟩
  ·refine thn (T.item (X.blockC scope cl H3.objs.size Nc s2 H2 fp pins) rfl rfl rfl hc i [] s6 σ6 H6 _ I6 (stat fr6) st6 go) λr s7 zq=>?_
   obtain ⟨u,hr,h7⟩:=zq;subst hr;refine thn h7 λ_ s8 zq=>?_;obtain ⟨x,H8,I8,r8,y8,st8,fr8⟩:=zq;have I8':=I8.pinned (stat fr8) (T.obj _ _ st8);refine thn (hg _ _ _ _ _ _ s8 σ6 H8 x u _ I8' r8 (step x H8 y8)) λ_ s9 zq=>?_;obtain ⟨σ9,H9,I9,q9⟩:=zq;refine thn (he _ _ _ _ _ _ s9 σ9 H9 _ I9 q9) λu10 s10 zq=>?_;obtain ⟨v10,H10,I10,r10,ys,hys,hlen,m',hm',w'⟩:=zq;refine thn (N6 _ s10 σ9 H10 (.ref s2.heap.objs.size) [v10] (.ref s2.heap.objs.size) [u10] (λ_ H11=>H11=upd H10 s2.heap.objs.size (.lst (ys ++ [v10]))) I10 rfl (.cons r10 .nil) ⟨_,ys,v10,rfl,rfl,hys,hlen,rfl⟩) λ_ s11 zq=>?_;obtain ⟨_,H11,I11,_,hH11⟩:=zq;subst hH11;refine ⟨m',hm',i+1,σ9,_,I11.unpinned,T.keep _ _ _ st8 λb hb o e=>(I11.pin (b,o) (q0k _ (q0k _ (B6 hb e)))).1,λb hb=>?_,w'⟩;obtain ⟨o,e,d⟩:=T.obj _ _ st8 b hb;exact (I11.pin (b,o) (q0k _ (q0k _ (B6 hb e)))).2.1
 exact codeAny_compStart_list (loop _ rfl) (T.self _ 0 _ _ _ (T.keep _ _ _ st2 λb hb o e=>old b o e) (loop _ rfl))
end
theorem an0.calmR {P:Program} {w:World} {K:q0a} {mg:Str->Option Value} {base:Heap} {k:Nat} {f:Addr} {fd:FuncData} {ps:List Str} {sp:Sp} (F:an0 P w K mg base (CXR P w) k f fd ps sp):an0 P w K mg base CX0 k f fd ps (λvs H Q _=>sp vs H Q E0) :=
 ⟨λvs H Q _ h=>F.len vs H Q E0 h,λA outer s H args us vs Q E h1 h2 h3 h4 h5=>codeAny_mono (F.run A outer s H args us vs Q E0 h1 h2 h3 h4 h5) λr s' q=>by
  cases r with
  | ok fl=>cases fl <;> exact q
  | error e =>
   obtain ⟨_,_,_,_,_,_,_,_,_,_,_,_,_,_,z⟩:=q;exact z⟩
theorem Def.calmR {P:Program} {w:World} {K:q0a} {mg:Str->Option Value} {base:Heap} {k:Nat} {x:Str} {f:Addr} {ps:List Str} {sp:Sp} (d:Def P w K mg base (CXR P w) k x f ps sp):Def P w K mg base CX0 k x f ps (λvs H Q _=>sp vs H Q E0) :=
 let ⟨fd,F,b⟩:=d.ex
 ⟨⟨fd,F.calmR,b⟩,d.m,d.kp⟩
structure Stp (prog:Program) (w:World) (it src:Addr) (ar:Array Value) (st:Nat->Heap->Prop):Prop where
 stay:∀ {k:Nat} {h h':Heap},st k h->(∀ o,h.get? it=some o->h'.get? it=some o)->(∀ o,h.get? src=some o->h'.get? src=some o)->st k h'
 item:∀ {A:Around} {E:Value->Shared->Prop} {s:Shared} {k:Nat} {v:Value} {Q:Value->Shared->Prop},st k s.heap->ar[k]? = some v->(∀ h',st (k+1) h'->v0c it s.heap h'->Q v { s with heap:=h' })->wpAny (model prog w) A (Builtin.SmallTypes.nextOf (.ref it)) Q E s
 fin:∀ {A:Around} {E:Value->Shared->Prop} {s:Shared} {k:Nat} {Q:Value->Shared->Prop},A.handled=none->st k s.heap->ar[k]? = none->(∀ h' e,Heap.ExtBut it s.heap h'->(∃ o,h'.get? e=some o/\o.cls=.type "StopIteration")->E (.ref e) { s with heap:=h' })->wpAny (model prog w) A (Builtin.SmallTypes.nextOf (.ref it)) Q E s
def bB1 (it src:Addr) (ar:Array Value) (k:Nat) (h:Heap):Prop:=h.IsTupleIter it src k/\h.IsTuple src ar
theorem an2 {prog:Program} {w:World} {it src:Addr} {ar:Array Value} (ne:src ≠ it):Stp prog w it src ar (bB1 it src ar) where
 stay:=λst h1 h2=>⟨st.1.at h1,by obtain ⟨o,e,r⟩:=st.2;exact ⟨o,h2 o e,r⟩⟩
 item:=by
  intro A E s k v Q st hv hQ;obtain ⟨hi,ht⟩:=st;obtain ⟨ob,gob,cob,dob⟩:=id hi;obtain ⟨os,gos,_,ns,dos⟩:=id ht;unfold Builtin.SmallTypes.nextOf;refine wpAny_bind (wpAny_callSpecial?_slot (name:=Str.ofString "__next__") hi.typeIs F.slot_tuple_iterator_next (wpAny_call_entry F.slot_tuple_iterator_next hi.typeIs F.entry_tuple_iterator_next ?_ (F.args_tuple_iterator_next_1 _)))
  show wpAny _ _ (field (.ref it) 0 >>= _) _ _ s;refine wpAny_bind (wpAny_field gob dob (x:=.ref src) rfl ?_)
  show wpAny _ _ (if (Value.ref src == Value.none)=true then _ else _) _ _ s;rw [if_neg (show ¬ ((Value.ref src == Value.none)=true) from q0t)]
  show wpAny _ _ (field (.ref it) 1 >>= _) _ _ s;refine wpAny_bind (wpAny_field gob dob (x:=.int k 0) rfl ?_)
  show wpAny _ _ (seqItems? (.ref src) >>= _) _ _ s;refine wpAny_bind (wpAny_seqItems gos dos ?_);simp only [m0b,hv];refine wpAny_bind (wpAny_setField gob dob (by simp) (wpAny_pure ⟨v,rfl,wpAny_pure (hQ _ ⟨?_,?_⟩ (v0c.update ..))⟩))
  ·exact ⟨_,v0y _ gob (Obj.isFreed_of_fields (Obj.data_mapFields dob _)),(Obj.cls_mapFields ..).trans cob,by rw [Obj.data_mapFields dob];simp [rawInt]⟩
  ·exact ht.extBut (v0c.update ..).extBut ne
 fin:=by
  intro A E s k Q hh st hv hE;obtain ⟨hi,ht⟩:=st;obtain ⟨ob,gob,cob,dob⟩:=id hi;obtain ⟨os,gos,_,ns,dos⟩:=id ht;unfold Builtin.SmallTypes.nextOf;refine wpAny_bind (wpAny_callSpecial?_slot (name:=Str.ofString "__next__") hi.typeIs F.slot_tuple_iterator_next (wpAny_call_entry F.slot_tuple_iterator_next hi.typeIs F.entry_tuple_iterator_next ?_ (F.args_tuple_iterator_next_1 _)))
  show wpAny _ _ (field (.ref it) 0 >>= _) _ _ s;refine wpAny_bind (wpAny_field gob dob (x:=.ref src) rfl ?_)
  show wpAny _ _ (if (Value.ref src == Value.none)=true then _ else _) _ _ s;rw [if_neg (show ¬ ((Value.ref src == Value.none)=true) from q0t)]
  show wpAny _ _ (field (.ref it) 1 >>= _) _ _ s;refine wpAny_bind (wpAny_field gob dob (x:=.int k 0) rfl ?_)
  show wpAny _ _ (seqItems? (.ref src) >>= _) _ _ s;refine wpAny_bind (wpAny_seqItems gos dos ?_);simp only [m0b,hv];refine wpAny_bind (wpAny_rule (wpAny_bind (wpAny_setField gob dob (by simp) ?_)))
  show wpAny _ _ (newExc (.type "StopIteration") [] >>= _) _ _ _;refine wpAny_bind ?_;simp only [newExc,newTuple];refine wpAny_bind (wpAny_newObj_type ?_ (by size_fits));refine wpAny_bind (m:=firstArgMember _ _) (wpAny_of_eq (a:=Value.none) (by first | rfl | (simp only [firstArgMember];rfl)) ?_);refine wpAny_newObj_type ?_ (by size_fits)
  simp only [raiseNew];refine wpAny_bind (wpAny_handled ?_);(first | rw [show A.in1.handled=none from hh] | rw [hh]);refine wpAny_bind (wpAny_pure (wpAny_throw ?_));exact hE _ _ (((v0c.update ..).extBut.push _).push _) ⟨_,z0b _ rfl,rfl⟩
section
variable {prog:Program} {w:World} {A:Around} {E:Value->Shared->Prop} {s:Shared}
theorem bb7 {z TI TO i1 i2 a b:Addr} {k:Nat} {xs ys:Array Value} {x y p q:Value} {S1 S2:Nat->Heap->Prop} {Q:Value->Shared->Prop} (D:ZipApart z TI TO i1 i2 a b) (N1:Stp prog w i1 a xs S1) (N2:Stp prog w i2 b ys S2)
  (gz:IsZip s.heap z TI TO .none) (gI:IsPair s.heap TI (.ref i1) (.ref i2)) (gO:IsPair s.heap TO p q) (t1:S1 k s.heap) (t2:S2 k s.heap) (ex:xs[k]? = some x) (ey:ys[k]? = some y) (r1:∃ o,s.heap.get? i1=some o) (r2:∃ o,s.heap.get? i2=some o)
  (hQ:∀ h',IsZip h' z TI TO (rawInt s.heap.objs.size)->IsPair h' TO x y->S1 (k+1) h'->S2 (k+1) h'->IsPair h' s.heap.objs.size x y->h'.objs.size=s.heap.objs.size+1->(∀ c o,c ≠ z->c ≠ TO->c ≠ i1->c ≠ i2->s.heap.get? c=some o->h'.get? c=some o)->Q (.ref s.heap.objs.size) { s with heap:=h' }) :
  wpAny (model prog w) A (Builtin.«zip.__next__» ⟨[.ref z],[]⟩) (λfin s' => ∃ v,fin=.done (.ret v)/\Q v s') E s:=by
 show wpAny _ _ (field (.ref z) 2 >>= _) _ _ _;refine wpAny_bind (wpAny_field gz rfl (x:=.bool false) rfl ?_)
 show wpAny _ _ (field (.ref z) 3 >>= _) _ _ _;refine wpAny_bind (wpAny_field gz rfl (x:=.ref TI) rfl ?_);refine wpAny_bind (wpAny_seqItems gI rfl ?_)
 show wpAny _ _ (Builtin.SmallTypes.ownedTupleIsFree (.ref z) >>= _) _ _ _;refine wpAny_bind ?_;unfold Builtin.SmallTypes.ownedTupleIsFree;refine wpAny_bind (wpAny_field gz rfl (x:=.none) rfl (wpAny_pure ?_));simp only [if_true];refine wpAny_bind (wpAny_rule ?_);refine wpAny_bind (wpAny_field gz rfl (x:=.ref TO) rfl ?_);refine wpAny_bind (wpAny_setField_rec gz (by simp) λh₁ z1 u1=>?_)
 replace z1:IsZip h₁ z TI TO .ellipsis:=z1
 refine wpAny_bind ?_;simp only [List.zipIdx_cons,List.zipIdx_nil,List.forIn_cons,m0x];refine wpAny_bind (wpAny_bind (wpAny_onRaise ?_));show wpAny _ _ (Builtin.SmallTypes.nextOf (.ref i1) >>= _) _ _ _;refine wpAny_bind (N1.item (N1.stay t1 (λo e=>u1.extBut _ _ D.i1z e) λo e=>u1.extBut _ _ D.l1z e) ex λh₂ n1 u2=>wpAny_pure ?_);have O2:IsPair h₂ TO p q:=u2.extBut _ _ D.TOi1 (u1.extBut _ _ D.TOz gO);refine wpAny_bind (wpAny_seqItems O2 rfl ?_);refine wpAny_bind (wpAny_updateSeq_pair O2 λh₃ O3 u3=>?_)
 replace O3:IsPair h₃ TO x q:=O3
 refine wpAny_bind (wpAny_letGo (wpAny_pure ?_));refine wpAny_bind (wpAny_bind (wpAny_onRaise ?_));show wpAny _ _ (Builtin.SmallTypes.nextOf (.ref i2) >>= _) _ _ _;have m2:S2 k h₃:=N2.stay t2 (λo e=>u3.extBut _ _ D.TOi2.symm (u2.extBut _ _ D.i12.symm (u1.extBut _ _ D.i2z e))) λo e=>u3.extBut _ _ D.l2TO (u2.extBut _ _ D.l2i1 (u1.extBut _ _ D.l2z e));refine wpAny_bind (N2.item m2 ey λh₄ n2 u4=>wpAny_pure ?_);have O4:IsPair h₄ TO x q:=u4.extBut _ _ D.TOi2 O3;refine wpAny_bind (wpAny_seqItems O4 rfl ?_);refine wpAny_bind (wpAny_updateSeq_pair O4 λh₅ O5 u5=>?_)
 replace O5:IsPair h₅ TO x y:=O5
 refine wpAny_bind (wpAny_letGo (wpAny_pure (wpAny_pure ?_)));refine wpAny_bind (wpAny_seqItems O5 rfl ?_);refine wpAny_bind (wpAny_newTuple ?_);have sz:h₅.objs.size=s.heap.objs.size:=by rw [u5.1,u4.1,u3.1,u2.1,u1.1]
 have z5:IsZip h₅ z TI TO .ellipsis:=u5.extBut _ _ D.TOz.symm (u4.extBut _ _ D.i2z.symm (u3.extBut _ _ D.TOz.symm (u2.extBut _ _ D.i1z.symm z1)));have k5:∀ c o,c ≠ z->c ≠ TO->c ≠ i1->c ≠ i2->s.heap.get? c=some o->h₅.get? c=some o:=λc o c1 c2 c3 c4 e=>u5.extBut _ _ c2 (u4.extBut _ _ c4 (u3.extBut _ _ c2 (u2.extBut _ _ c3 (u1.extBut _ _ c1 e))));have n15:S1 (k+1) h₅:=N1.stay n1 (λo e=>u5.extBut _ _ D.TOi1.symm (u4.extBut _ _ D.i12 (u3.extBut _ _ D.TOi1.symm e))) λo e=>u5.extBut _ _ D.l1TO (u4.extBut _ _ D.l1i2 (u3.extBut _ _ D.l1TO e));have n25:S2 (k+1) h₅:=N2.stay n2 (λo e=>u5.extBut _ _ D.TOi2.symm e) λo e=>u5.extBut _ _ D.l2TO e;have lz:z<h₅.objs.size:=q0f z5
 show wpAny _ _ (Builtin.SmallTypes.ownedTupleHandOut (.ref z) (.ref h₅.objs.size) >>= _) _ _ _;refine wpAny_bind ?_;unfold Builtin.SmallTypes.ownedTupleHandOut;have z6:IsZip (h₅.push { cls:=.type "tuple",data:=.seq #[x,y] }) z TI TO .ellipsis:=q0j _ z5
 refine wpAny_bind (wpAny_setField_rec z6 (by simp) λh₇ z7 u7=>?_)
 replace z7:IsZip h₇ z TI TO (rawInt h₅.objs.size):=z7
 refine wpAny_setField_rec z7 (by simp) λh₈ z8 u8=>?_
 replace z8:IsZip h₈ z TI TO (rawInt h₅.objs.size):=z8
 have up:∀ c o,c ≠ z->h₅.get? c=some o->h₈.get? c=some o:=λc o c1 e=>u8.extBut _ _ c1 (u7.extBut _ _ c1 (q0j _ e));have T8:IsPair h₈ h₅.objs.size x y:=u8.extBut _ _ (y0q lz) (u7.extBut _ _ (y0q lz) (z0b _ rfl));have s8:h₈.objs.size=h₅.objs.size+1:=by rw [u8.1,u7.1,z0n]
 rw [sz] at z8 T8 s8;refine wpAny_pure ⟨_,rfl,?_⟩
 show Q (.ref h₅.objs.size) _;rw [sz];exact hQ h₈ z8 (up _ _ D.TOz O5) (N1.stay n15 (λo e=>up _ o D.i1z e) λo e=>up _ o D.l1z e) (N2.stay n25 (λo e=>up _ o D.i2z e) λo e=>up _ o D.l2z e) T8 s8 λc o c1 c2 c3 c4 e=>up c o c1 (k5 c o c1 c2 c3 c4 e)
theorem bg1 {z TI TO i1 i2 a b:Addr} {k:Nat} {xs ys:Array Value} {p q:Value} {S1 S2:Nat->Heap->Prop} {Q:Fin->Shared->Prop} (hh:A.handled=none) (D:ZipApart z TI TO i1 i2 a b) (N1:Stp prog w i1 a xs S1) (N2:Stp prog w i2 b ys S2)
  (gz:IsZip s.heap z TI TO .none) (gI:IsPair s.heap TI (.ref i1) (.ref i2)) (gO:IsPair s.heap TO p q) (t1:S1 k s.heap) (t2:S2 k s.heap) (ends:xs[k]? = none \/ ys[k]? = none)
  (hE:∀ h' e,(∀ c o,c ≠ z->c ≠ TO->c ≠ i1->c ≠ i2->s.heap.get? c=some o->h'.get? c=some o)->(∃ o,h'.get? e=some o/\o.cls=.type "StopIteration")->E (.ref e) { s with heap:=h' }):wpAny (model prog w) A (Builtin.«zip.__next__» ⟨[.ref z],[]⟩) Q E s:=by
 show wpAny _ _ (field (.ref z) 2 >>= _) _ _ _;refine wpAny_bind (wpAny_field gz rfl (x:=.bool false) rfl ?_)
 show wpAny _ _ (field (.ref z) 3 >>= _) _ _ _;refine wpAny_bind (wpAny_field gz rfl (x:=.ref TI) rfl ?_);refine wpAny_bind (wpAny_seqItems gI rfl ?_)
 show wpAny _ _ (Builtin.SmallTypes.ownedTupleIsFree (.ref z) >>= _) _ _ _;refine wpAny_bind ?_;unfold Builtin.SmallTypes.ownedTupleIsFree;refine wpAny_bind (wpAny_field gz rfl (x:=.none) rfl (wpAny_pure ?_));simp only [if_true];refine wpAny_bind (wpAny_rule ?_);refine wpAny_bind (wpAny_field gz rfl (x:=.ref TO) rfl ?_);refine wpAny_bind (wpAny_setField_rec gz (by simp) λh₁ z1 u1=>?_)
 replace z1:IsZip h₁ z TI TO .ellipsis:=z1
 refine wpAny_bind ?_;simp only [List.zipIdx_cons,List.zipIdx_nil,List.forIn_cons,m0x];refine wpAny_bind (wpAny_bind (wpAny_onRaise ?_));show wpAny _ _ (Builtin.SmallTypes.nextOf (.ref i1) >>= _) _ _ _;have m1:S1 k h₁:=N1.stay t1 (λo e=>u1.extBut _ _ D.i1z e) λo e=>u1.extBut _ _ D.l1z e
 cases ex:xs[k]? with
 | none =>
  refine wpAny_bind (N1.fin hh m1 ex λh₂ e u2 he=>?_);obtain ⟨oe,goe,coe⟩:=he;have z2:IsZip h₂ z TI TO .ellipsis:=u2 _ _ D.i1z.symm z1;have ez:e ≠ z:=λx=>by subst x;rw [z2] at goe;cases goe;simp at coe
  refine wpAny_setField_rec z2 (by simp) λh₃ _ u3=>hE h₃ e (λc o c1 _ c3 _ x=>u3.extBut _ _ c1 (u2 _ _ c3 (u1.extBut _ _ c1 x))) ⟨oe,u3.extBut _ _ ez goe,coe⟩
 | some x =>
  have ey:ys[k]? = none:=by rcases ends with h | h;rw [ex] at h;cases h;exact h
  refine wpAny_bind (N1.item m1 ex λh₂ n1 u2=>wpAny_pure ?_);have O2:IsPair h₂ TO p q:=u2.extBut _ _ D.TOi1 (u1.extBut _ _ D.TOz gO);refine wpAny_bind (wpAny_seqItems O2 rfl ?_);refine wpAny_bind (wpAny_updateSeq_pair O2 λh₃ O3 u3=>?_);refine wpAny_bind (wpAny_letGo (wpAny_pure ?_));refine wpAny_bind (wpAny_bind (wpAny_onRaise ?_));show wpAny _ _ (Builtin.SmallTypes.nextOf (.ref i2) >>= _) _ _ _;have m2:S2 k h₃:=N2.stay t2 (λo e=>u3.extBut _ _ D.TOi2.symm (u2.extBut _ _ D.i12.symm (u1.extBut _ _ D.i2z e))) λo e=>u3.extBut _ _ D.l2TO (u2.extBut _ _ D.l2i1 (u1.extBut _ _ D.l2z e));refine wpAny_bind (N2.fin hh m2 ey λh₄ e u4 he=>?_);obtain ⟨oe,goe,coe⟩:=he;have z4:IsZip h₄ z TI TO .ellipsis:=u4 _ _ D.i2z.symm (u3.extBut _ _ D.TOz.symm (u2.extBut _ _ D.i1z.symm z1));have ez:e ≠ z:=λx=>by subst x;rw [z4] at goe;cases goe;simp at coe
  refine wpAny_setField_rec z4 (by simp) λh₅ _ u5=>hE h₅ e (λc o c1 c2 c3 c4 x=>u5.extBut _ _ c1 (u4 _ _ c4 (u3.extBut _ _ c2 (u2.extBut _ _ c3 (u1.extBut _ _ c1 x))))) ⟨oe,u5.extBut _ _ ez goe,coe⟩
theorem bb6 {z TI TO i1 i2 a b:Addr} {k:Nat} {xs ys:Array Value} {x y p q:Value} {S1 S2:Nat->Heap->Prop} {Q:Option Value->Shared->Prop} (D:ZipApart z TI TO i1 i2 a b) (N1:Stp prog w i1 a xs S1) (N2:Stp prog w i2 b ys S2)
  (gz:IsZip s.heap z TI TO .none) (gI:IsPair s.heap TI (.ref i1) (.ref i2)) (gO:IsPair s.heap TO p q) (t1:S1 k s.heap) (t2:S2 k s.heap) (ex:xs[k]? = some x) (ey:ys[k]? = some y) (r1:∃ o,s.heap.get? i1=some o) (r2:∃ o,s.heap.get? i2=some o)
  (hQ:∀ h',IsZip h' z TI TO (rawInt s.heap.objs.size)->IsPair h' TO x y->S1 (k+1) h'->S2 (k+1) h'->IsPair h' s.heap.objs.size x y->h'.objs.size=s.heap.objs.size+1->(∀ c o,c ≠ z->c ≠ TO->c ≠ i1->c ≠ i2->s.heap.get? c=some o->h'.get? c=some o)->Q (some (.ref s.heap.objs.size)) { s with heap:=h' }):wpAny (model prog w) A (pyNext (.ref z)) Q E s:=by
 have ty:s.TypeIs (.ref z) "zip" := ⟨_,gz,rfl⟩
 unfold pyNext;exact wpAny_bind (wpAny_attempt (wpAny_callSpecial?_slot (name:=Str.ofString "__next__") ty F.slot_zip_next (wpAny_call_entry F.slot_zip_next ty F.entry_zip_next (bb7 D N1 N2 gz gI gO t1 t2 ex ey r1 r2 λh' a1 a2 a3 a4 a5 a6 a7=>wpAny_pure (hQ h' a1 a2 a3 a4 a5 a6 a7)) (F.args_zip_next_1 _))))
theorem bb5 {z TI TO i1 i2 a b:Addr} {k:Nat} {xs ys:Array Value} {p q:Value} {S1 S2:Nat->Heap->Prop} {Q:Option Value->Shared->Prop} (hh:A.handled=none) (D:ZipApart z TI TO i1 i2 a b) (N1:Stp prog w i1 a xs S1) (N2:Stp prog w i2 b ys S2)
  (gz:IsZip s.heap z TI TO .none) (gI:IsPair s.heap TI (.ref i1) (.ref i2)) (gO:IsPair s.heap TO p q) (t1:S1 k s.heap) (t2:S2 k s.heap) (ends:xs[k]? = none \/ ys[k]? = none)
  (hQ:∀ h',(∀ c o,c ≠ z->c ≠ TO->c ≠ i1->c ≠ i2->s.heap.get? c=some o->h'.get? c=some o)->Q none { s with heap:=h' }):wpAny (model prog w) A (pyNext (.ref z)) Q E s:=by
 have ty:s.TypeIs (.ref z) "zip" := ⟨_,gz,rfl⟩
 unfold pyNext;refine wpAny_bind (wpAny_attempt (wpAny_callSpecial?_slot (name:=Str.ofString "__next__") ty F.slot_zip_next (wpAny_call_entry F.slot_zip_next ty F.entry_zip_next (bg1 hh D N1 N2 gz gI gO t1 t2 ends λh' e hk he=>?_) (F.args_zip_next_1 _))))
 obtain ⟨o,ho,hc⟩:=he;exact wpAny_bind (wpAny_isInstance (T := "StopIteration") (b:=true) ⟨o,ho,hc⟩ isSubtype_stop (wpAny_pure (hQ _ hk)))
abbrev zt1 (h:Heap) (a:Addr):Heap:=h.push { cls:=.type "tuple_iterator",data:=.fields #[.ref a,.int 0 0] }
abbrev zt2 (h:Heap) (a b:Addr):Heap:=(zt1 h a).push { cls:=.type "tuple_iterator",data:=.fields #[.ref b,.int 0 0] }
abbrev zt3 (h:Heap) (a b:Addr):Heap:=(zt2 h a b).push { cls:=.type "tuple",data:=.seq #[.ref h.objs.size,.ref (zt1 h a).objs.size] }
abbrev zt4 (h:Heap) (a b:Addr):Heap:=(zt3 h a b).push { cls:=.type "tuple",data:=.seq #[.none,.none] }
abbrev zt5 (h:Heap) (a b:Addr):Heap:=(zt4 h a b).push { cls:=.type "zip",data:=.fields #[.none,.bool false,.bool false,.ref (zt2 h a b).objs.size,.ref (zt3 h a b).objs.size] }
theorem aW4 (a b:Addr) (xs ys:Array Value):Meets (Builtin.«zip.__new__» ⟨[.type "zip",.ref a,.ref b],[]⟩) (λ_ R s=>s.heap.IsTuple a xs/\s.heap.IsTuple b ys/\R (.ok (.ret (.ref (zt4 s.heap a b).objs.size))) { s with heap:=zt5 s.heap a b }) :=
 .of_wp λprog w A R s h=>by
  obtain ⟨hp,g,d,tk,os⟩:=s;obtain ⟨ha,hb,h⟩:=h;have hsub:=sub_zip;have L1:v0d (Shared.heap ⟨hp,g,d,tk,os⟩) a xs:=ha;have L2:v0d (Shared.heap ⟨hp.push { cls:=.type "tuple_iterator",data:=.fields #[.ref a,.int 0 0] },g,d,tk,os⟩) b ys:=v0d.push hb _
  wp_walk using wpAny_pyIter_tuple L1,wpAny_pyIter_tuple L2
  exact ⟨_,rfl,h⟩
theorem bf3 {a b:Addr} {xs ys:Array Value} {Q:Value->Shared->Prop} (ha:s.heap.IsTuple a xs) (hb:s.heap.IsTuple b ys)
  (h:∀ h',IsZip h' (s.heap.objs.size+4) (s.heap.objs.size+2) (s.heap.objs.size+3) .none->IsPair h' (s.heap.objs.size+2) (.ref s.heap.objs.size) (.ref (s.heap.objs.size+1))->IsPair h' (s.heap.objs.size+3) .none .none->h'.IsTupleIter s.heap.objs.size a 0->h'.IsTupleIter (s.heap.objs.size+1) b 0->h'.objs.size=s.heap.objs.size+5->(∀ c o,s.heap.get? c=some o->h'.get? c=some o)->Q (.ref (s.heap.objs.size+4)) { s with heap:=h' }):wpAny (model prog w) A (call (.type "zip") [.ref a,.ref b]) Q E s:=by
 refine callType_new F.called_zip (by decide) (F.typeCall_zip_2 _ _) (F.newCall_zip_2 _ _) (λobj=>F.args_object_init_3 obj _ _) F.entry_zip_new (aW4 a b xs ys) ⟨ha,hb,?_⟩
 have z1:(zt1 s.heap a).objs.size=s.heap.objs.size+1:=z0n ..;have z2:(zt2 s.heap a b).objs.size=s.heap.objs.size+2:=by rw [z0n,z1]
 have z3:(zt3 s.heap a b).objs.size=s.heap.objs.size+3:=by rw [z0n,z2]
 have z4:(zt4 s.heap a b).objs.size=s.heap.objs.size+4:=by rw [z0n,z3]
 have z5:(zt5 s.heap a b).objs.size=s.heap.objs.size+5:=by rw [z0n,z4]
 have p1:∀ {h:Heap} {c:Addr} {o o':Obj},h.get? c=some o->(h.push o').get? c=some o:=λe=>q0j _ e;have g5:(zt5 s.heap a b).get? (zt4 s.heap a b).objs.size=some _:=z0b _ rfl;have g4:(zt5 s.heap a b).get? (zt3 s.heap a b).objs.size=some _:=p1 (z0b _ rfl);have g3:(zt5 s.heap a b).get? (zt2 s.heap a b).objs.size=some _:=p1 (p1 (z0b _ rfl));have g2:(zt5 s.heap a b).get? (zt1 s.heap a).objs.size=some _:=p1 (p1 (p1 (z0b _ rfl)));have g1:(zt5 s.heap a b).get? s.heap.objs.size=some _:=p1 (p1 (p1 (p1 (z0b _ rfl))))
 show _/\_;rw [z2,z3,z4] at g5;rw [z1,z2] at g3;rw [z3] at g4;rw [z1] at g2;rw [z4];exact ⟨⟨_,g5,rfl⟩,h _ g5 g3 g4 ⟨_,g1,rfl,rfl⟩ ⟨_,g2,rfl,rfl⟩ z5 λc o x=>p1 (p1 (p1 (p1 (p1 x))))⟩
end
def bz6 (K:PySem.W.Frag) (a b:Addr):It :=
  ⟨λi H => ∃ xs ys x y,SqT K H a xs/\SqT K H b ys/\xs[i]? = some x/\ys[i]? = some y,
   λi H v H' => ∀ xs ys,SqT K H a xs->SqT K H b ys->∃ x y p,xs[i]? = some x/\ys[i]? = some y/\H p=none/\v=.ref p/\H'=upd H p (.tup [x,y]),
   λi H => ∃ xs ys,SqT K H a xs/\SqT K H b ys/\(xs.length<=i \/ ys.length<=i)⟩
theorem bb8 {P:Program} {w:World} {K:q0a} {elts:List Expr} {k:Nat} {tpos:Pos} (a b z TI TO i1 i2:Addr) (D:ZipApart z TI TO i1 i2 a b) :
  bf9 P w K (.Tuple elts k tpos) (bz6 K a b) [z,TI,TO,i1,i2] z (λi h=>IsZip h z TI TO .none/\IsPair h TI (.ref i1) (.ref i2)/\(∃ a b,IsPair h TO a b)/\h.IsTupleIter i1 a i/\h.IsTupleIter i2 b i) where
 mem:=by simp
 obj:=λi h st c hc=>by
  obtain ⟨hz,hTI,⟨p,q,hTO⟩,h1,h2⟩:=st;rcases (by simpa using hc:c=z \/ c=TI \/ c=TO \/ c=i1 \/ c=i2) with e | e | e | e | e <;> subst e
  ·exact ⟨_,hz,λv z=>by cases z⟩
  ·exact ⟨_,hTI,λv z=>by cases z⟩
  ·exact ⟨_,hTO,λv z=>by cases z⟩
  ·obtain ⟨o,e,c,d⟩:=h1
   exact ⟨o,e,λv z=>by rw [d] at z;cases z⟩
  ·obtain ⟨o,e,c,d⟩:=h2
   exact ⟨o,e,λv z=>by rw [d] at z;cases z⟩
 keep:=λi h h' st k=>by
  obtain ⟨hz,hTI,⟨p,q,hTO⟩,h1,h2⟩:=st;exact ⟨k z (by simp) _ hz,k TI (by simp) _ hTI,⟨p,q,k TO (by simp) _ hTO⟩,h1.at λo e=>k i1 (by simp) o e,h2.at λo e=>k i2 (by simp) o e⟩
 item:=by
  intro X hP hw hK hc i pins s σ H E I hf st hg;subst hP hw hK;obtain ⟨xs,ys,x,y,hq,hq',hx,hy⟩:=hg;obtain ⟨its,rv,p,hlz⟩:=I.tuple hq;obtain ⟨its',rv',p',hlz'⟩:=I.tuple hq';obtain ⟨u,hu,ru⟩:=rv.get hx;obtain ⟨u',hu',ru'⟩:=rv'.get hy;obtain ⟨hz,hTI,⟨pa,pb,hTO⟩,h1,h2⟩:=st;have zlt:z<s.heap.objs.size:=q0f hz;refine bb6 D (an2 (ar:=its.toArray) D.l1i1) (an2 (ar:=its'.toArray) D.l2i2) hz hTI hTO ⟨h1,(show v0d _ a its.toArray from p)⟩ ⟨h2,(show v0d _ b its'.toArray from p')⟩ (x:=u) (y:=u') (by simpa using hu) (by simpa using hu') (by obtain ⟨o,e,_⟩:=h1;exact ⟨o,e⟩) (by obtain ⟨o,e,_⟩:=h2;exact ⟨o,e⟩) λh' a1 a2 a3' a4' a5 a6 kk=>?_
  have a3:=a3'.1;have a4:=a4'.1;refine ⟨_,rfl,?_⟩;refine wpAny_letOwnedTupleGo_zip (s:={ s with heap:=h' }) a1 λh'' hz'' sb=>?_;have up:∀ c o,c ≠ z->h'.get? c=some o->h''.get? c=some o:=λc o n q=>(sb.2 c n).trans q;have hT':h''.get? s.heap.objs.size=some { cls:=.type "tuple",data:=.seq #[u,u'] }:=up _ _ (y0q zlt) a5
  refine ⟨.ref s.heap.objs.size,upd H s.heap.objs.size (.tup [x,y]),I.turnLaid (fp:=[z,TI,TO,i1,i2]) (t':=s.toks) hf (λc v hb q=>?_) (q0h _) ?_,rfl,?_,?_,λc hb=>?_⟩
  ·have n1:c ≠ z:=λe=>hb (by simp [e])
   have n2:c ≠ TO:=λe=>hb (by simp [e])
   have n3:c ≠ i1:=λe=>hb (by simp [e])
   have n4:c ≠ i2:=λe=>hb (by simp [e])
   exact up c v n1 (kk c v n1 n2 n3 n4 q)
  ·exact ⟨(show 2<=sizeLine by decide +kernel),[u,u'],.cons ru (.cons ru' .nil),_,hT',rfl,_,rfl⟩
  ·intro vs ws hv hw
   rw [I.tuple_inj hv hq,I.tuple_inj hw hq'];exact ⟨x,y,_,hx,hy,I.fresh,rfl,rfl⟩
  ·refine ⟨hz'',up _ _ D.TIz (kk _ _ D.TIz D.TITO D.TIi1 D.TIi2 hTI),⟨u,u',up _ _ D.TOz a2⟩,a3.at λo q=>up _ o D.i1z q,a4.at λo q=>up _ o D.i2z q⟩
  ·have hlt:c<s.heap.objs.size:=by
    have l1:i1<s.heap.objs.size:=by obtain ⟨_,e,_⟩:=h1;exact q0f e
    have l2:i2<s.heap.objs.size:=by obtain ⟨_,e,_⟩:=h2;exact q0f e
    rcases (by simpa using hb:c=z \/ c=TI \/ c=TO \/ c=i1 \/ c=i2) with e | e | e | e | e <;> rw [e]
    ·exact zlt
    ·exact q0f hTI
    ·exact q0f hTO
    ·exact l1
    ·exact l2
   rw [i8 (q0q hlt)];exact (hf c hb).1
 done:=by
  intro X hP hw hK hc i pins s σ H E I hf st hg;subst hP hw hK;obtain ⟨xs,ys,hq,hq',hend⟩:=hg;obtain ⟨its,rv,p,hlz⟩:=I.tuple hq;obtain ⟨its',rv',p',hlz'⟩:=I.tuple hq';obtain ⟨hz,hTI,⟨pa,pb,hTO⟩,h1,h2⟩:=st;have l1:=rv.length;have l2:=rv'.length;refine bb5 (I.ok.hd hc) D (an2 (ar:=its.toArray) D.l1i1) (an2 (ar:=its'.toArray) D.l2i2) hz hTI hTO ⟨h1,(show v0d _ a its.toArray from p)⟩ ⟨h2,(show v0d _ b its'.toArray from p')⟩ ?_ λh' kk=>⟨rfl,?_⟩
  ·rcases hend with e | e
   ·exact .inl (by simp;omega)
   ·exact .inr (by simp;omega)
  ·have nf:∀ b u,H b=some u->b ∉ [z,TI,TO,i1,i2]:=λb u e q=>by rw [(hf b q).1] at e;cases e
   have k:∀ b u,b ∉ [z,TI,TO,i1,i2]->s.heap.get? b=some u->h'.get? b=some u:=λc o hb q=>kk c o (λe=>hb (by simp [e])) (λe=>hb (by simp [e])) (λe=>hb (by simp [e])) (λe=>hb (by simp [e])) q
   refine I.step (t':=s.toks) (g':=s.gens) (d':=s.drawn) (ch:=[z,TI,TO,i1,i2]) (λb hb=>?_) (λb o _ _ hc e _=>k b o hc e) (λb o _ _ hc e _=>⟨o.slots,k b o hc e⟩) (λb o _ e n=>n)
    (λb o hc e=>⟨o,k b o hc e⟩) (λb xs e=>e) (λb o u e=>e) (λb ps e=>⟨#[],by rw [e];simp⟩) (λm hm=>?_) (λb u e=>?_) I.bare
   ·obtain ⟨_,f1,_,f3,f4,f5⟩:=hf b hb
    exact ⟨f3,f1,f4,f5⟩
   ·obtain ⟨o,es,ep,ho,r⟩:=hm
    exact ⟨o,es,ep,k _ o (λq=>(hf _ q).2.1 rfl) ho,r⟩
   ·refine (I.hok b u e).stay (λc v hc q=>k c v ?_ q) (λc q=>q) λc xs q=>q
    rcases hc with q | q
    ·rw [q];exact nf b u e
    ·exact nf c _ q
 self:=λ_ _ _ _ _ st h=>wpAny_pyIter_zip st.1 h
section
variable {X:Cx}
def bk3 (K:q0a) (ta:TA):TI:=λσ H R=>ta σ H λvs H1 => ∃ a b,vs=[.ref a,.ref b]/\(∃ xs,SqT K H1 a xs)/\(∃ ys,SqT K H1 b ys)/\R (bz6 K a b) H1
theorem bp1 {elts:List Expr} {k:Nat} {tpos:Pos} {l l':Expr} {ta:TA} {p pos:Pos} (hg:Gl X "zip") (hm:X.mg "zip" = none) (ha:PA X [l,l'] ta) (hs:starEach [l,l'] X.env=[(false,eval l X.env),(false,eval l' X.env)]:=by rfl) (hs2:starEach [l'] X.env=[(false,eval l' X.env)]:=by rfl) :
  PI X (.Tuple elts k tpos) (.Call (.Name "zip" p) [l,l'] [] pos) (bk3 X.K ta):=by
 intro pins s σ H R I h;refine Call_ (aj0 I hg hm (u:=.type "zip") (by decide +kernel) (PyProof.Rows.callWith_type1 (thn (ha pos pins s σ H _ I h) λus s1 ⟨vs,H1,I1,r1,q1⟩=>?_) (by rw [hs,hs2]) (by rw [hs2];rfl)))
 obtain ⟨a,b,e,⟨xs,hq⟩,⟨ys,hq'⟩,q⟩:=q1;subst e;obtain ⟨u,u',rfl,rx,rx'⟩:=A7.two r1
 cases rx
 cases rx'
 obtain ⟨its,rv,p,hz⟩:=I1.tuple hq;obtain ⟨its',rv',p',hz'⟩:=I1.tuple hq';have a1:a<s1.heap.objs.size:=by obtain ⟨_,e,_⟩:=p;exact q0f e
 have a2:b<s1.heap.objs.size:=by obtain ⟨_,e,_⟩:=p';exact q0f e
 refine bf3 (show v0d _ a its.toArray from p) (show v0d _ b its'.toArray from p') λh' hz hTI hTO hi1 hi2 hsz kk=>?_;refine wpAny_pyIter_zip hz ?_;have I2:Inv X pins σ H1 { s1 with heap:=h' }:=I1.kept (t':=s1.toks) kk;refine ⟨_,_,_,_,H1,rfl,I2,bb8 a b _ _ _ _ _ (zipApart_new a1 a2),⟨hz,hTI,⟨_,_,hTO⟩,hi1,hi2⟩,λc hb=>?_,q⟩
 have hb':s1.heap.objs.size<=c:=by
  rcases (by simpa using hb:c=s1.heap.objs.size+4 \/ c=s1.heap.objs.size+2 \/ c=s1.heap.objs.size+3 \/ c=s1.heap.objs.size \/ c=s1.heap.objs.size+1) with e | e | e | e | e <;> rw [e]
  ·exact y0j _ _
  ·exact y0j _ _
  ·exact y0j _ _
  ·exact q0h _
  ·exact y0j _ _
 obtain ⟨f0,f1,f2,f3,f4,f5⟩:=I1.fpOk (H':=H1) hb' (I1.hok.fresh hb');exact ⟨f0,f1,f2,f3,f4,f5⟩
open PySem PyProof.Rows
theorem aM3 {elt tg iter cnd:Expr} {scope:Scope} {pos spos py:Pos} {y:Str} {i₀:Nat} {cl:List (Str × Addr)} {Nc:List Str} {caps:List (Option Nat)} {wi:TI} {g:TG} {tt:TT} {te:TE} (hN:X.N.Nodup) (hi₀:X.N[i₀]? = some y) (hx:Loc X.env.scope y) (hc:X.calm=true) (cp:G5 X scope cl Nc caps) (hi:PI X tg iter wi)
  (hg:∀ C s₂ H₂ fp pins,PG (X.block scope cl C Nc s₂ H₂ fp pins) tg g) (ht:∀ C s₂ H₂ fp pins,PT (X.block scope cl C Nc s₂ H₂ fp pins) cnd tt) (he:∀ C s₂ H₂ fp pins,PE (X.block scope cl C Nc s₂ H₂ fp pins) elt te) (hs:∀ x,foldedSetIterable iter X.env x=pure x:=by intro _;rfl) (hsw:swapsWith (.ListComp elt [⟨tg,iter,[cnd],0⟩] scope pos) (some (.Name y py)) spos.line X.env=pure true:=by rfl)
  (hf:X.fn y=true \/ X.env.scope.names.lookup y=some .local:=by first | exact .inl rfl | exact .inr rfl | assumption) :
  PS X (.Assign [.Name y py] (.ListComp elt [⟨tg,iter,[cnd],0⟩] scope pos) spos) (aU3 (aY2 wi caps g tt te) (t4 i₀)):=by
 intro pins s σ H DD I h;rw [exec_Assign_Name_used _ _ _ _ hsw];refine wpAny_bind (wpAny_standAt (wpAny_bind ?_))
 show wpAny _ X.A (do let _ <- comprehension (.ListComp elt [⟨tg,iter,[cnd],0⟩] scope pos) scope X.env _ (newList []) false (eval iter X.env) (some (assign (.Name y py) X.env))) _ _ s
 refine wpAny_bind (wpAny_mono (wpAny_comprehension_free (use:=some (assign (.Name y py) X.env)) (Q:=λ_ s'=>SP X pins DD .next s') rfl hs cp.clos cp.kind cp.names ?_) (λ_ s' hq=>wpAny_pure (wpAny_pure hq)) λ_ _ e=>e);refine thn (hi pins s σ H _ I h) λv s1 h1=>thn h1 λitv s2 h2=>?_;obtain ⟨it,fp,tn,J,H2,e,I2,T,st2,f2,hW⟩:=h2;subst e;refine wpAny_newObj_type ?_ (by show 0<=sizeLine;exact z0s _)
 refine wpAny_newFunctionEnv cp.nocell (by intro y hy;simp at hy) (λh4 hns hsb=>?_) cp.kind
 dsimp only at hns hsb ⊢
 generalize hH3:s2.heap.push { cls:=.type "list",dict:=none,data:=.seq ([]:List Value).toArray }=H3 at hns hsb ⊢
 have hCe:H3.objs.size=s2.heap.objs.size+1:=by rw [<- hH3,z0n]
 have Y0:∀ b o,s2.heap.get? b=some o->b ≠ H3.objs.size:=λb o e=>by rw [hCe];exact q0q (v0j (q0f e))
 have old:∀ b o,s2.heap.get? b=some o->h4.get? b=some o:=λb o e=>hsb.extBut b o (Y0 b o e) (q0j _ (hH3 ▸ q0j _ e))
 have hD:h4.get? s2.heap.objs.size=some { cls:=.type "list",dict:=none,data:=.seq ([]:List Value).toArray } :=
  hsb.extBut _ _ (by rw [hCe];exact q0q (j0n _)) (q0j _ (hH3 ▸ z0b _ rfl))
 have hDn:H2 s2.heap.objs.size=none:=I2.fresh;have hCn:H2 H3.objs.size=none:=I2.hok.fresh (by rw [hCe];exact j0j _)
 have hCs:s2.heap.objs.size<=H3.objs.size:=by rw [hCe];exact j0j _
 have hDC:s2.heap.objs.size ≠ H3.objs.size:=by rw [hCe];exact q0q (j0n _)
 have fpl:∀ b ∈ fp,∃ o,s2.heap.get? b=some o:=λb hb=>let ⟨o,e,_⟩:=T.obj _ _ st2 b hb;⟨o,e⟩;have fpC:∀ b ∈ fp,b ≠ H3.objs.size:=λb hb=>let ⟨o,e⟩:=fpl b hb;Y0 b o e;have fpD:∀ b ∈ fp,b ≠ s2.heap.objs.size:=λb hb=>let ⟨o,e⟩:=fpl b hb;q0q (q0f e);have stkN:∀ b,b ≠ X.env.locals->b ∉ X.fs->b ∉ frs X.stack:=λb h1 h2 z=>(z0m.mp (I2.stkSub b z)).elim h1 h2;obtain ⟨W,⟨m0,w0⟩,turn⟩:=hW s2.heap.objs.size hDn
 have okB:(X.block scope cl H3.objs.size Nc s2 H2 fp pins).Ok:=by
  refine ⟨I2.ok.mod,?_,I2.ok.glob,I2.ok.blt,hCs,λx y c h1 h2=>I2.ok.inj x y c (cp.sub x c h1) (cp.sub y c h2),λx hx=>cp.has x hx,λx c h=>(by cases h),I2.ok.hd,I2.ok.frames,.inl rfl,λb hb=>⟨fpC b hb,λx c h=>(f2 b hb).2.2.2.2.1 x c (cp.sub x c h)⟩,I2.bs,q0s I2.ok.bsz I2.sz,λb o e hb=>?_,λb hb=>stkN b (f2 b hb).2.1 (f2 b hb).2.2.1,I2.stack,I2.stkFree⟩
  ·exact cp.kind
  ·rcases (f2 b hb).2.2.2.1 with z | z
   ·exact I2.ok.noex b o e z
   ·exact absurd (q0b (q0f e) (q0s I2.ok.bsz z)) (j0r _)
 have hokB:HOk X.prog X.w (upd H2 s2.heap.objs.size (.lst [])) h4:=I2.hok.laid old (q0h _) ⟨z0s _,[],_,.nil,hD⟩
 have IB:Inv (X.block scope cl H3.objs.size Nc s2 H2 fp pins) [] (O7 caps σ) (upd H2 s2.heap.objs.size (.lst [])) { s2 with heap:=h4,toks:=s2.toks+([]:List (Str × Value)).length }:=by
  refine ⟨okB,rfl,I2.bare,Un.laid old (q0h _) hDn,⟨_,hns,λi x v e1 e2 e3=>?_⟩,λx c e=>?_,(show upd H2 s2.heap.objs.size (.lst []) H3.objs.size=none by rw [i8 (Ne.symm hDC)];exact hCn),λx c e=>?_,λp hp=>?_,hokB,?_⟩
  ·unfold O7 at e2
   rw [q0m] at e2
   cases hcap:caps[i]? with
   | none=>rw [hcap] at e2;cases e2
   | some o =>
    rw [hcap] at e2
    cases o with
    | none=>cases e2
    | some j =>
     have hj:σ[j]? = some (some v):=by
      have e2':(σ[j]?).join=some v:=Option.some.inj e2
      cases q:σ[j]? with
      | none=>rw [q] at e2';cases e2'
      | some z=>rw [q] at e2';exact congrArg some e2'
     obtain ⟨n1,n2,n3,n4⟩:=cp.cap i j x hcap e1;obtain ⟨m,hm,hl⟩:=I2.loc;obtain ⟨u,r,q⟩:=hl j x v n1 hj n2;rcases q with ⟨k,_⟩ | ⟨k,c,ec,z⟩
     ·exact absurd k n3
     ·obtain ⟨c',ec'⟩:=cp.has x n4
      have:=cp.sub x c' ec';rw [ec] at this;cases this;obtain ⟨oc,ho,hd⟩:=z;exact ⟨u,r,.inr ⟨n4,c,ec',oc,old _ _ ho,hd⟩⟩
  ·obtain ⟨v,oc,ho,hd⟩:=I2.cell x c (cp.sub x c e)
   exact ⟨v,oc,old _ _ ho,hd⟩
  ·obtain ⟨v,oc,ho,hd⟩:=I2.cell x c (cp.sub x c e)
   rw [i8 (q0q (q0f ho))];exact I2.freeC x c (cp.sub x c e)
  ·have hp':p ∈ X.pn ++ pins:=by simpa using hp
   obtain ⟨e1,e2,e3,e4,e5⟩:=I2.pin p hp';exact ⟨old _ _ e1,by rw [i8 (q0q (q0f e1))];exact e2,Y0 _ _ e1,stkN _ e3 e4,e5⟩
  ·show (O7 caps σ).length=Nc.length
   unfold O7;rw [q0e];exact cp.len
 have stat:∀ {H':Hp},(∀ b ∈ fp,H' b=none)->∀ b ∈ fp,aj8 (X.block scope cl H3.objs.size Nc s2 H2 fp pins) [] H' b:=λhn b hb =>
  ⟨hn b hb,fpC b hb,stkN b (f2 b hb).2.1 (f2 b hb).2.2.1,.inl hb,λx c h=>(f2 b hb).2.2.2.2.1 x c (cp.sub x c h),λp hp=>(f2 b hb).2.2.2.2.2 p (by simpa using hp)⟩
 have loop:∀ s5:Shared,s5={ s2 with heap:=h4,toks:=s2.toks+([]:List (Str × Value)).length } ->
   codeAny (model X.prog X.w) X.A (.compLoop (.ListComp elt [⟨tg,iter,[cnd],0⟩] scope pos) 0 (.ref it) (.ref s2.heap.objs.size) (compEnvC scope cl H3.objs.size X.env))
    (compPost (model X.prog X.w) X.A X.xe (some (assign (.Name y py) X.env)) (λ_ s'=>SP X pins DD .next s') (.ref s2.heap.objs.size) H3.objs.size) s5:=by
  rintro s5 rfl;refine aT2 (λn s' => ∃ i σ' H',Inv (X.block scope cl H3.objs.size Nc s2 H2 fp pins) [] σ' H' s'/\tn i s'.heap/\(∀ b ∈ fp,H' b=none)/\W i n σ' H') ?_ m0 ⟨0,_,_,IB,T.keep _ _ _ st2 λb hb o e=>old b o e,λb hb=>by rw [i8 (fpD b hb)];exact (f2 b hb).1,w0⟩
  rintro n s6 ⟨i,σ6,H6,I6,st6,fr6,w6⟩;rcases turn i n σ6 H6 w6 with ⟨stop,qn⟩ | ⟨go,step⟩
  ·refine thn (T.done (X.block scope cl H3.objs.size Nc s2 H2 fp pins) rfl rfl rfl hc i [] s6 σ6 H6 _ I6 (stat fr6) st6 stop) λr s7 zq=>?_
   obtain ⟨hr,I7⟩:=zq;subst hr;obtain ⟨m7,hn7,_⟩:=id I7.loc;have Io:Inv X pins σ H6 s7:=I2.sameC (h'':=s7.heap) f2 I7.os I7.bare I7.base I7.hok hCs I7.free ⟨rfl,λ_ _=>rfl⟩;have fC:aj8 X pins H6 H3.objs.size:=I2.fpOk hCs I7.free;have fC':∀ b ∈ [H3.objs.size],aj8 X pins H6 b:=λb hb=>by rw [z0d.mp hb];exact fC
   obtain ⟨oC,esC,epC,hoC,restC⟩:=id hn7
   have obC:∀ b ∈ [H3.objs.size],∃ o,s7.heap.get? b=some o/\∀ v,o.data ≠ .cell v:=λb hb=>by
    rw [z0d.mp hb];exact ⟨oC,hoC,λv z=>av9 hn7 hoC v z⟩
   have Ip:=Io.pinned fC' obC
   show wpAny (model X.prog X.w) X.A (assign (.Name y py) X.env (.ref s2.heap.objs.size)) _ _ s7;refine thn (d5 (pos:=py) hN hi₀ hx hf _ s7 σ H6 (.ref s2.heap.objs.size) (.ref s2.heap.objs.size) DD.nx Ip rfl qn) λ_ s9 zq=>?_;obtain ⟨σ9,H9,I9,q9⟩:=zq;have keepC:=(I9.pin (H3.objs.size,oC) (q0k _ (q0k _ (B6 (by simp) hoC)))).1
   have H9C:=(I9.pin (H3.objs.size,oC) (q0k _ (q0k _ (B6 (by simp) hoC)))).2.1
   refine ⟨m7,hn7.at' λo e=>by rw [hoC] at e;cases e;exact keepC,λh' sb=>?_⟩
   obtain ⟨_,g1,g2,g3,g4,g5⟩:=fC;exact ⟨σ9,H9,I9.unpinned.turned (t':=s9.toks) (λb o hb e=>(sb.2 b hb).trans e) H9C g1 g3 g4 g5,q9⟩
  ·refine thn (T.item (X.block scope cl H3.objs.size Nc s2 H2 fp pins) rfl rfl rfl hc i [] s6 σ6 H6 _ I6 (stat fr6) st6 go) λr s7 zq=>?_
   obtain ⟨u,hr,h7⟩:=zq;subst hr;refine thn h7 λ_ s8 zq=>?_;obtain ⟨x,H8,I8,r8,y8,st8,fr8⟩:=zq;have I8':=I8.pinned (stat fr8) (T.obj _ _ st8);refine thn (hg _ _ _ _ _ _ s8 σ6 H8 x u _ I8' r8 (step x H8 y8)) λ_ s9 zq=>?_;obtain ⟨σ9,H9,I9,q9⟩:=zq;refine thn (ht _ _ _ _ _ _ s9 σ9 H9 _ I9 q9) λbb s9' zq=>?_;obtain ⟨H9',I9',q9'⟩:=zq
   cases bb with
   | false =>
    rw [if_neg (by decide)] at q9' ⊢
    obtain ⟨m',hm',w'⟩:=q9';refine ⟨m',hm',i+1,σ9,H9',I9'.unpinned,T.keep _ _ _ st8 λb hb o e=>(I9'.pin (b,o) (q0k _ (q0k _ (B6 hb e)))).1,λb hb=>?_,w'⟩;obtain ⟨o,e,d⟩:=T.obj _ _ st8 b hb;exact (I9'.pin (b,o) (q0k _ (q0k _ (B6 hb e)))).2.1
   | true =>
    rw [if_pos rfl] at q9' ⊢;refine thn (he _ _ _ _ _ _ s9' σ9 H9' _ I9' q9') λu10 s10 zq=>?_;obtain ⟨v10,H10,I10,r10,ys,hys,hlen,m',hm',w'⟩:=zq;refine thn (N6 _ s10 σ9 H10 (.ref s2.heap.objs.size) [v10] (.ref s2.heap.objs.size) [u10] (λ_ H11=>H11=upd H10 s2.heap.objs.size (.lst (ys ++ [v10]))) I10 rfl (.cons r10 .nil) ⟨_,ys,v10,rfl,rfl,hys,hlen,rfl⟩) λ_ s11 zq=>?_;obtain ⟨_,H11,I11,_,hH11⟩:=zq;subst hH11;refine ⟨m',hm',i+1,σ9,_,I11.unpinned,T.keep _ _ _ st8 λb hb o e=>(I11.pin (b,o) (q0k _ (q0k _ (B6 hb e)))).1,λb hb=>?_,w'⟩;obtain ⟨o,e,d⟩:=T.obj _ _ st8 b hb;exact (I11.pin (b,o) (q0k _ (q0k _ (B6 hb e)))).2.1
 exact codeAny_compStart_list (loop _ rfl) (T.self _ 0 _ _ _ (T.keep _ _ _ st2 λb hb o e=>old b o e) (loop _ rfl))
end
end L2
set_option maxRecDepth 100000
namespace HT
open PySem PyProof.Rows
end HT
namespace L2
open PySem PySem.Spec PyProof.Rows
end L2
set_option maxRecDepth 100000
namespace PySem
open Sem (wp)
open AutoSeq1 (wpAny_loadPart')
end PySem
namespace L2
open PySem PySem.Spec PyProof.Rows
section
variable {X:Cx}
theorem ax3 {elt tg iter:Expr} {scope:Scope} {pos spos py:Pos} {y:Str} {i₀:Nat} {cl:List (Str × Addr)} {Nc:List Str} {caps:List (Option Nat)} {wi:TI} {g:TG} {te:TE} (hN:X.N.Nodup) (hi₀:X.N[i₀]? = some y) (hx:Loc X.env.scope y) (hc:X.calm=true) (cp:ak0 X scope cl Nc caps) (hi:PI X tg iter wi)
  (hg:∀ C s₂ H₂ fp pins,PG (X.blockC scope cl C Nc s₂ H₂ fp pins) tg g) (he:∀ C s₂ H₂ fp pins,PE (X.blockC scope cl C Nc s₂ H₂ fp pins) elt te) (hs:∀ x,foldedSetIterable iter X.env x=pure x:=by intro _;rfl) (hsw:swapsWith (.ListComp elt [⟨tg,iter,[],0⟩] scope pos) (some (.Name y py)) spos.line X.env=pure true:=by rfl)
  (hf:X.fn y=true \/ X.env.scope.names.lookup y=some .local:=by first | exact .inl rfl | exact .inr rfl | assumption) :
  PS X (.Assign [.Name y py] (.ListComp elt [⟨tg,iter,[],0⟩] scope pos) spos) (aU3 (aQ1 wi caps g te) (t4 i₀)):=by
 intro pins s σ H DD I h;rw [exec_Assign_Name_used _ _ _ _ hsw];refine wpAny_bind (wpAny_standAt (wpAny_bind ?_))
 show wpAny _ X.A (do let _ <- comprehension (.ListComp elt [⟨tg,iter,[],0⟩] scope pos) scope X.env _ (newList []) false (eval iter X.env) (some (assign (.Name y py) X.env))) _ _ s
 refine wpAny_bind (wpAny_mono (wpAny_comprehension_free (use:=some (assign (.Name y py) X.env)) (Q:=λ_ s'=>SP X pins DD .next s') rfl hs cp.clos cp.kind cp.names ?_) (λ_ s' hq=>wpAny_pure (wpAny_pure hq)) λ_ _ e=>e);refine thn (hi pins s σ H _ I h) λv s1 h1=>thn h1 λitv s2 h2=>?_;obtain ⟨it,fp,tn,J,H2,e,I2,T,st2,f2,hW⟩:=h2;subst e;refine wpAny_newObj_type ?_ (by show 0<=sizeLine;exact z0s _)
 refine U4 ?_
 dsimp only
 generalize hH3:s2.heap.push { cls:=.type "list",dict:=none,data:=.seq ([]:List Value).toArray }=H3
 have hCe:H3.objs.size=s2.heap.objs.size+1:=by rw [<- hH3,z0n]
 have Y0:∀ b o,s2.heap.get? b=some o->b ≠ H3.objs.size:=λb o e=>by rw [hCe];exact q0q (v0j (q0f e))
 have hns0:=(Heap.Ns.new H3 (.type "dict")).keeps (pushCells_keeps scope.names _)
 have old0:∀ b o,s2.heap.get? b=some o->(pushCells (H3.push { cls:=.type "dict",data:=.dict #[] }) scope.names).get? b=some o:=λb o e=>pushCells_keeps _ _ b o (q0j _ (hH3 ▸ q0j _ e))
 have hD0:(pushCells (H3.push { cls:=.type "dict",data:=.dict #[] }) scope.names).get? s2.heap.objs.size=some { cls:=.type "list",dict:=none,data:=.seq ([]:List Value).toArray } :=
  pushCells_keeps _ _ _ _ (q0j _ (hH3 ▸ z0b _ rfl))
 have own:=ao4 scope.names (H3.push { cls:=.type "dict",data:=.dict #[] }) cl (λx c e=>by
   obtain ⟨v,o,ho,hd⟩:=I2.cell x c (cp.sub x c e);exact ⟨v,o,q0j _ (hH3 ▸ q0j _ ho),hd⟩) (λx y c h1 h2=>I2.ok.inj x y c (cp.sub x c h1) (cp.sub y c h2))
 rw [z0n] at own;generalize hh4:pushCells (H3.push { cls:=.type "dict",data:=.dict #[] }) scope.names=h4 at own hns0 old0 hD0 ⊢
 have hns:=hns0;have old:=old0;have hD:=hD0;have isOld:∀ x c,(cellsFrom (H3.objs.size+1) scope.names cl).lookup x=some c->X.env.cells.lookup x=some c \/ H3.objs.size+1<=c:=λx c e=>(own.old x c e).imp (cp.sub x c) λz=>by rw [z0n] at z;exact z
 have hDn:H2 s2.heap.objs.size=none:=I2.fresh;have hCn:H2 H3.objs.size=none:=I2.hok.fresh (by rw [hCe];exact j0j _)
 have hCs:s2.heap.objs.size<=H3.objs.size:=by rw [hCe];exact j0j _
 have hDC:s2.heap.objs.size ≠ H3.objs.size:=by rw [hCe];exact q0q (j0n _)
 have fpl:∀ b ∈ fp,∃ o,s2.heap.get? b=some o:=λb hb=>let ⟨o,e,_⟩:=T.obj _ _ st2 b hb;⟨o,e⟩;have fpC:∀ b ∈ fp,b ≠ H3.objs.size:=λb hb=>let ⟨o,e⟩:=fpl b hb;Y0 b o e;have fpD:∀ b ∈ fp,b ≠ s2.heap.objs.size:=λb hb=>let ⟨o,e⟩:=fpl b hb;q0q (q0f e);have stkN:∀ b,b ≠ X.env.locals->b ∉ X.fs->b ∉ frs X.stack:=λb h1 h2 z=>(z0m.mp (I2.stkSub b z)).elim h1 h2
 have fpX:∀ b ∈ fp,∀ x c,(cellsFrom (H3.objs.size+1) scope.names cl).lookup x=some c->c ≠ b:=λb hb x c h=>by
  rcases isOld x c h with z | z
  ·exact (f2 b hb).2.2.2.2.1 x c z
  ·obtain ⟨o,e⟩:=fpl b hb
   exact y0q (q0b (q0f e) (q0s (q0s hCs (j0j _)) z))
 obtain ⟨W,⟨m0,w0⟩,turn⟩:=hW s2.heap.objs.size hDn
 have okB:(X.blockC scope cl H3.objs.size Nc s2 H2 fp pins).Ok:=by
  refine ⟨I2.ok.mod,?_,I2.ok.glob,I2.ok.blt,hCs,λx y c h1 h2=>own.inj x y c h1 h2,λx hx=>cp.has _ x hx,λx c h e=>q0s (q0s hCs (j0j _)) (by have z:=own.fresh x (aM7 h) c e;rw [z0n] at z;exact z),I2.ok.hd,I2.ok.frames,.inl rfl,λb hb=>⟨fpC b hb,λx c h=>fpX b hb x c h⟩,I2.bs,q0s I2.ok.bsz I2.sz,λb o e hb=>?_,λb hb=>stkN b (f2 b hb).2.1 (f2 b hb).2.2.1,I2.stack,I2.stkFree⟩
  ·exact cp.kind
  ·rcases (f2 b hb).2.2.2.1 with z | z
   ·exact I2.ok.noex b o e z
   ·exact absurd (q0b (q0f e) (q0s I2.ok.bsz z)) (j0r _)
 have hokB:HOk X.prog X.w (upd H2 s2.heap.objs.size (.lst [])) h4:=I2.hok.laid old (q0h _) ⟨z0s _,[],_,.nil,hD⟩
 have IB:Inv (X.blockC scope cl H3.objs.size Nc s2 H2 fp pins) [] (O7 caps σ) (upd H2 s2.heap.objs.size (.lst [])) { s2 with heap:=h4 }:=by
  refine ⟨okB,rfl,I2.bare,Un.laid old (q0h _) hDn,⟨_,hns,λi x v e1 e2 e3=>?_⟩,λx c e=>?_,(show upd H2 s2.heap.objs.size (.lst []) H3.objs.size=none by rw [i8 (Ne.symm hDC)];exact hCn),λx c e=>?_,λp hp=>?_,hokB,?_⟩
  ·unfold O7 at e2
   rw [q0m] at e2
   cases hcap:caps[i]? with
   | none=>rw [hcap] at e2;cases e2
   | some o =>
    rw [hcap] at e2
    cases o with
    | none=>cases e2
    | some j =>
     have hj:σ[j]? = some (some v):=by
      have e2':(σ[j]?).join=some v:=Option.some.inj e2
      cases q:σ[j]? with
      | none=>rw [q] at e2';cases e2'
      | some z=>rw [q] at e2';exact congrArg some e2'
     obtain ⟨n1,n2,n3,n4,n5,n6⟩:=cp.cap i j x hcap e1;obtain ⟨m,hm,hl⟩:=I2.loc;obtain ⟨u,r,q⟩:=hl j x v n1 hj n2;rcases q with ⟨k,_⟩ | ⟨k,c,ec,z⟩
     ·exact absurd k n3
     ·obtain ⟨c',ec'⟩:=n5
      have:=cp.sub x c' ec';rw [ec] at this;cases this;obtain ⟨oc,ho,hd⟩:=z;exact ⟨u,r,.inr ⟨n4,c,n6 _ _ ec',oc,old _ _ ho,hd⟩⟩
  ·exact own.cell x c e
  ·show upd H2 s2.heap.objs.size (.lst []) c=none
   rcases isOld x c e with z | z
   ·obtain ⟨v,oc,ho,hd⟩:=I2.cell x c z
    rw [i8 (q0q (q0f ho))];exact I2.freeC x c z
   ·have hz:s2.heap.objs.size<c:=q0b (q0p hCs (j0n _)) z
    rw [i8 (y0q hz)];exact I2.hok.fresh (v0b hz)
  ·have hp':p ∈ X.pn ++ pins:=by simpa using hp
   obtain ⟨e1,e2,e3,e4,e5⟩:=I2.pin p hp';exact ⟨old _ _ e1,by rw [i8 (q0q (q0f e1))];exact e2,Y0 _ _ e1,stkN _ e3 e4,e5⟩
  ·show (O7 caps σ).length=Nc.length
   unfold O7;rw [q0e];exact cp.len
 have stat:∀ {H':Hp},(∀ b ∈ fp,H' b=none)->∀ b ∈ fp,aj8 (X.blockC scope cl H3.objs.size Nc s2 H2 fp pins) [] H' b:=λhn b hb =>
  ⟨hn b hb,fpC b hb,stkN b (f2 b hb).2.1 (f2 b hb).2.2.1,.inl hb,λx c h=>fpX b hb x c h,λp hp=>(f2 b hb).2.2.2.2.2 p (by simpa using hp)⟩
 have loop:∀ s5:Shared,s5={ s2 with heap:=h4 } ->
   codeAny (model X.prog X.w) X.A (.compLoop (.ListComp elt [⟨tg,iter,[],0⟩] scope pos) 0 (.ref it) (.ref s2.heap.objs.size) (compEnvC scope (cellsFrom (H3.objs.size+1) scope.names cl) H3.objs.size X.env))
    (compPost (model X.prog X.w) X.A X.xe (some (assign (.Name y py) X.env)) (λ_ s'=>SP X pins DD .next s') (.ref s2.heap.objs.size) H3.objs.size) s5:=by
  rintro s5 rfl;refine ao3 (λn s' => ∃ i σ' H',Inv (X.blockC scope cl H3.objs.size Nc s2 H2 fp pins) [] σ' H' s'/\tn i s'.heap/\(∀ b ∈ fp,H' b=none)/\W i n σ' H') ?_ m0 ⟨0,_,_,IB,T.keep _ _ _ st2 λb hb o e=>old b o e,λb hb=>by rw [i8 (fpD b hb)];exact (f2 b hb).1,w0⟩
  rintro n s6 ⟨i,σ6,H6,I6,st6,fr6,w6⟩;rcases turn i n σ6 H6 w6 with ⟨stop,qn⟩ | ⟨go,step⟩
  ·refine thn (T.done (X.blockC scope cl H3.objs.size Nc s2 H2 fp pins) rfl rfl rfl hc i [] s6 σ6 H6 _ I6 (stat fr6) st6 stop) λr s7 zq=>?_
   obtain ⟨hr,I7⟩:=zq;subst hr;obtain ⟨m7,hn7,_⟩:=id I7.loc;have Io:Inv X pins σ H6 s7:=I2.sameC (h'':=s7.heap) f2 I7.os I7.bare I7.base I7.hok hCs I7.free ⟨rfl,λ_ _=>rfl⟩;have fC:aj8 X pins H6 H3.objs.size:=I2.fpOk hCs I7.free;have fC':∀ b ∈ [H3.objs.size],aj8 X pins H6 b:=λb hb=>by rw [z0d.mp hb];exact fC
   obtain ⟨oC,esC,epC,hoC,restC⟩:=id hn7
   have obC:∀ b ∈ [H3.objs.size],∃ o,s7.heap.get? b=some o/\∀ v,o.data ≠ .cell v:=λb hb=>by
    rw [z0d.mp hb];exact ⟨oC,hoC,λv z=>av9 hn7 hoC v z⟩
   have Ip:=Io.pinned fC' obC
   show wpAny (model X.prog X.w) X.A (assign (.Name y py) X.env (.ref s2.heap.objs.size)) _ _ s7;refine thn (d5 (pos:=py) hN hi₀ hx hf _ s7 σ H6 (.ref s2.heap.objs.size) (.ref s2.heap.objs.size) DD.nx Ip rfl qn) λ_ s9 zq=>?_;obtain ⟨σ9,H9,I9,q9⟩:=zq;have keepC:=(I9.pin (H3.objs.size,oC) (q0k _ (q0k _ (B6 (by simp) hoC)))).1
   have H9C:=(I9.pin (H3.objs.size,oC) (q0k _ (q0k _ (B6 (by simp) hoC)))).2.1
   refine ⟨m7,hn7.at' λo e=>by rw [hoC] at e;cases e;exact keepC,λh' sb=>?_⟩
   obtain ⟨_,g1,g2,g3,g4,g5⟩:=fC;exact ⟨σ9,H9,I9.unpinned.turned (t':=s9.toks) (λb o hb e=>(sb.2 b hb).trans e) H9C g1 g3 g4 g5,q9⟩
  ·refine thn (T.item (X.blockC scope cl H3.objs.size Nc s2 H2 fp pins) rfl rfl rfl hc i [] s6 σ6 H6 _ I6 (stat fr6) st6 go) λr s7 zq=>?_
   obtain ⟨u,hr,h7⟩:=zq;subst hr;refine thn h7 λ_ s8 zq=>?_;obtain ⟨x,H8,I8,r8,y8,st8,fr8⟩:=zq;have I8':=I8.pinned (stat fr8) (T.obj _ _ st8);refine thn (hg _ _ _ _ _ _ s8 σ6 H8 x u _ I8' r8 (step x H8 y8)) λ_ s9 zq=>?_;obtain ⟨σ9,H9,I9,q9⟩:=zq;refine thn (he _ _ _ _ _ _ s9 σ9 H9 _ I9 q9) λu10 s10 zq=>?_;obtain ⟨v10,H10,I10,r10,ys,hys,hlen,m',hm',w'⟩:=zq;refine thn (N6 _ s10 σ9 H10 (.ref s2.heap.objs.size) [v10] (.ref s2.heap.objs.size) [u10] (λ_ H11=>H11=upd H10 s2.heap.objs.size (.lst (ys ++ [v10]))) I10 rfl (.cons r10 .nil) ⟨_,ys,v10,rfl,rfl,hys,hlen,rfl⟩) λ_ s11 zq=>?_;obtain ⟨_,H11,I11,_,hH11⟩:=zq;subst hH11;refine ⟨m',hm',i+1,σ9,_,I11.unpinned,T.keep _ _ _ st8 λb hb o e=>(I11.pin (b,o) (q0k _ (q0k _ (B6 hb e)))).1,λb hb=>?_,w'⟩;obtain ⟨o,e,d⟩:=T.obj _ _ st8 b hb;exact (I11.pin (b,o) (q0k _ (q0k _ (B6 hb e)))).2.1
 exact codeAny_compStart_list (loop _ rfl) (T.self _ 0 _ _ _ (T.keep _ _ _ st2 λb hb o e=>old b o e) (loop _ rfl))
end
end L2
set_option maxRecDepth 100000
namespace R
theorem Y3 {f:Nat->Rat}:∀ n,(∀ i,i<n->f i=0)->m8 f n=0
 | 0,_=>rfl
 | n+1,h=>by
  rw [m8,Y3 n (λi hi=>h i ⋯),h n ⋯]
  grind
open PySem L2 PyProof.Rows
structure ClN (W:Nat) (qs:List Rat):Prop where
 l:n9 qs<2 ^ W
 w:∀ v ∈ k8 (n9 qs) qs,j0y v<2 ^ W
theorem ClN.den {W:Nat} {qs:List Rat} (h:ClN W qs) {q:Rat} (hq:q ∈ qs):q.den<2 ^ W:=q0p (g0y (M7 qs) (ac3 hq)) h.l
theorem ClN.num {W:Nat} {qs:List Rat} (h:ClN W qs) {q:Rat} (hq:q ∈ qs):q.num.natAbs<2 ^ W:=by
 have h1:=h.w _ (z0e.mpr ⟨q,hq,rfl⟩);obtain ⟨e,he⟩:=ac3 hq;have hp:=M7 qs;have h0:(q.den:Int) ≠ 0:=by have:=q.den_nz;lia
 have e1:(n9 qs:Int).fdiv (q.den:Int)=(e:Int):=by
  rw [he,j0t];exact w4 h0
 rw [e1,z0k,q0w] at h1;refine q0p (y0v _ ?_) h1;rcases g0v e with z | z
 ·rw [z] at he;lia
 ·exact z
theorem ClN.bdN {W:Nat} {qs:List Rat} (h:ClN W qs) {q:Rat} (hq:q ∈ qs):BdN W q:=⟨h.num hq,h.den hq⟩
theorem ClN.take {W:Nat} {qs:List Rat} (h:ClN W qs) (i:Nat):n9 (qs.take i)<2 ^ W :=
 q0p (g0y (M7 qs) (aS5 λq hq=>ac3 (j0w hq))) h.l
theorem al5 (v:Int) (L:Nat):q0z 1 L*(v:Rat)=q0z v L:=by
 have h1:=z0j (v:Rat);rw [g0m,g0n] at h1
 conv=>lhs;rw [<- h1]
 rw [y0a]
 simp
theorem aE2 (v:Int) {L:Nat} (h:0<L):(q0z v L).den ∣ L:=by
 have hL:(L:Int) ≠ 0:=by lia
 obtain ⟨_,e2⟩:=aw3 (t:=v) (b:=(L:Int)) (g:=(q0y v L:Int)) hL (by rw [if_neg (by simp)])
 obtain ⟨k,hk⟩:=j0q v (L:Int);have hg:=Q4 (t:=v) hL
 have e3:(L:Int).fdiv (q0y v L:Int)=k:=by
  conv=>lhs;arg 1;rw [hk]
  exact w4 (by lia)
 rw [e3] at e2;have:((q0z v L).den:Int) ∣ (L:Int):=⟨_,by rw [y0g,<- e2];exact hk⟩
 exact u0q.mp this
theorem aP3 (v:Int) {L:Nat} (h:0<L):(q0z v L).num*L=v*((q0z v L).den:Int):=by
 have hL:(L:Int) ≠ 0:=⋯;have hd:((q0z v L).den:Int) ≠ 0:=by have:=(q0z v L).den_nz;lia
 exact (y0s hd hL).mp (z0j _)
theorem bf2 {L W:Nat} {vs:List Int} (hL0:0<L) (hL:L<2 ^ W) (hv:∀ v ∈ vs,j0y v<2 ^ W):ClN W (scl (q0z 1 L) vs):=by
 have hd:n9 (scl (q0z 1 L) vs) ∣ L:=aS5 λq hq=>by
  obtain ⟨v,_,rfl⟩:=z0e.mp hq;rw [al5];exact aE2 v hL0
 have hle:=g0y hL0 hd;refine ⟨q0p hle hL,λu hu=>?_⟩;obtain ⟨q,hq,rfl⟩:=z0e.mp hu;obtain ⟨e,he⟩:=ac3 hq;have h0:(q.den:Int) ≠ 0:=by have:=q.den_nz;lia
 have e1:(n9 (scl (q0z 1 L) vs):Int).fdiv (q.den:Int)=(e:Int):=by
  rw [he,j0t];exact w4 h0
 obtain ⟨v,hvm,hvq⟩:=z0e.mp hq;rw [al5] at hvq;have hc:=aP3 v hL0;rw [hvq] at hc
 have hc':q.num.natAbs*L=v.natAbs*q.den:=by
  have:=congrArg j0y hc
  rwa [z0k,z0k,q0w,q0w] at this
 rw [e1,z0k,q0w];refine q0p ?_ (hv v hvm)
 have h2:(q.num.natAbs*e)*L<=v.natAbs*L:=by
  calc (q.num.natAbs*e)*L=(q.num.natAbs*L)*e:=by rw [Nat.mul_right_comm]
   _=v.natAbs*(q.den*e):=by rw [hc',Nat.mul_assoc]
   _<=v.natAbs*L:=z0v _ (by rw [<- he];exact hle)
 exact Nat.le_of_mul_le_mul_right h2 hL0
theorem aZ2 (qs:List Rat):scl (q0z 1 (n9 qs)) (k8 (n9 qs) qs)=qs:=by
 unfold scl k8;rw [List.map_map]
 conv=>rhs;rw [<- List.map_id qs]
 refine q1c λq hq=>?_
 show q0z 1 (n9 qs)*((q.num*(n9 qs:Int).fdiv (q.den:Int):Int):Rat)=q;rw [al5];exact (ar6 (M7 qs) (ac3 hq)).symm
open PySem L2 PyProof.Rows
structure bz3 (H:Hp) (p:Addr) (qs:List Rat):Prop where
 ex:∃ xs,H p=some (.lst xs)/\C9 H xs qs
 bd:∀ q ∈ qs,q.den<2 ^ 6000
 len:qs.length<900
 tl:ad8 qs qs.length
inductive bn1 (H:Hp):List Addr->List (List Rat)->Prop where
 | nil:bn1 H [] []
 | cons {p:Addr} {ps:List Addr} {L:List Rat} {Ls:List (List Rat)} (h:bz3 H p L) (t:bn1 H ps Ls):bn1 H (p :: ps) (L :: Ls)
theorem aX3:∀ Ls:List (List Rat),Q9 (Ls.map O6) (Ls.map O6)=true
 | []=>by simp [Q9]
 | L :: Ls=>by rw [j0d,Q9,ah6,aX3 Ls];simp
theorem aE1:∀ Ls:List (List Rat),am4 (Ls.map O6)<=2
 | []=>by simp [am4]
 | L :: Ls=>by
  have h1:=au5 L;have h2:=aE1 Ls;rw [j0d,am4];lia
theorem B7 {ts:List Addr} {i:Nat} {x:V} (h:(ts.map V.ref)[i]? = some x):∃ p,ts[i]? = some p/\x=.ref p:=by
 rw [q0m] at h
 cases hw:ts[i]? with
 | none=>rw [hw] at h;cases h
 | some v=>rw [hw] at h;cases h;exact ⟨v,rfl,rfl⟩
theorem ay3:∀ Ls Ms:List (List Rat),Q9 (Ls.map O6) (Ms.map O6)=decide (Ls=Ms)
 | [],[]=>by simp [Q9]
 | [],_ :: _=>by simp [Q9]
 | _ :: _,[]=>by simp [Q9]
 | p :: ps,q :: qs=>by
  rw [j0d,j0d,Q9,ah6,ay3 ps qs]
  by_cases h1:p=q <;> by_cases h2:ps=qs <;> simp [h1,h2]
theorem ax8:∀ Ls Ms:List (List Rat),ah1 (Ls.map O6) (Ms.map O6)=true
 | [],[]=>by simp [ah1]
 | [],_ :: _=>by simp [ah1]
 | _ :: _,[]=>by simp [ah1]
 | p :: ps,q :: qs=>by rw [j0d,j0d,ah1,al7,ax8 ps qs];rfl
def L5 (Ls:List (List Rat)):D:=.lst (Ls.map O6)
theorem Y7 (Ls Ms:List (List Rat)):eqD (L5 Ls) (L5 Ms)=decide (Ls=Ms):=by unfold L5;rw [eqD,ay3]
theorem Y5 (Ls Ms:List (List Rat)):okD (L5 Ls) (L5 Ms)=true:=by unfold L5;rw [okD,ax8]
theorem ad2 (Ls:List (List Rat)):dpD (L5 Ls)<=60:=by unfold L5;rw [dpD];have:=aE1 Ls;lia
open PySem L2 PyProof.Rows
theorem aE3 (xs:List V) {n:Nat} (h:n<=xs.length):ao9 xs (some (n:Int)) none=xs.drop n:=by
 unfold ao9
 have e1:HT.sIx xs.length 0 (some (n:Int))=n:=by
  simp only [HT.sIx];rw [if_neg ⋯];omega
 have e2:HT.sIx xs.length xs.length none=xs.length:=rfl;rw [e1,e2,u0x (by rw [u0c];simp)]
theorem d7 {α:Type} {l:List α} {i:Nat} {x:α} (h:l[i]? = some x):l.take (i+1)=l.take i ++ [x]:=by rw [g0s,h];rfl
theorem aU0 {qs:List Rat} (h:∀ x,qs[qs.length-1]? = some x->x ≠ 0):ad8 qs qs.length :=
 ⟨q0h _,λi q hi e=>(by rw [z0p hi] at e;cases e),λ_ q e=>h q e⟩
theorem bj4 (r:Rat):E8 (-r)=[.int (0-r.num),.int (r.den:Int)]:=by
 unfold E8;rw [u0e,Int.zero_sub];rfl
theorem A0.seq {K:q0a} {u:Addr} {H H':Hp} {b:Addr} {xs:List V} (s:A0 u H H') (hu:H u=none) (h:SqL K H b xs):SqL K H' b xs:=by
 rcases h with h | h
 ·rcases h with h | ⟨o,h⟩
  ·exact .inl (.inl (s _ _ h (j3 h hu)))
  ·exact .inl (.inr ⟨o,s _ _ h (j3 h hu)⟩)
 ·exact .inr h
theorem ar5 {α β γ:Type} {f:α->β->γ} {xs:List α} {ys:List β} {i:Nat} {x:α} {y:β} (h1:xs[i]? = some x) (h2:ys[i]? = some y):(u0b f xs ys)[i]? = some (f x y):=by
 rw [y0p,h1,h2]
theorem aY1 {qs:List Rat} {q:Rat} (h:q ≠ 0):ad8 (qs ++ [q]) (qs ++ [q]).length:=by
 refine ⟨q0h _,λi p hi e=>?_,λ_ p e=>?_⟩
 ·rw [z0p hi] at e;cases e
 ·rw [z0z,v0f,Nat.add_sub_cancel,j0c (q0h _)] at e
  simp at e
  rw [<- e];exact h
def aY6 (K:q0a):Sp:=λvs H Q _ => ∃ (a:Addr) (ns:List Int),vs=[.ref a]/\SqL K H a (ns.map V.int)/\ns.length<=63/\∀ H',Q (.bl true) H'
structure ExT (K:q0a) (mg:Str->Option Value) (x:Str) (C:Addr):Prop where
 m:mg x=some (.ref C)
 ox:bs9 K C [.type "ValueError",.type "Exception",.type "BaseException",.type "object"] "ValueError.__new__"
 ec:aE7 K C
structure CAd where
 c_NoFraction:Addr
 c_NoPolynomial:Addr
 c_NoStretch:Addr
 c_NoRow:Addr
 c_NoPair:Addr
 c_NoBack:Addr
 c_NoForm:Addr
 c_NoParts:Addr
 c_NoDegree:Addr
 c_NoSteps:Addr
 c_NoBox:Addr
 c_NoGain:Addr
 c_NoText:Addr
 c_NoLine:Addr
 c_NoName:Addr
 c_NoDeed:Addr
 c_RestError:Addr
structure XTx (K:q0a) (mg:Str->Option Value) (a:CAd):Prop where
 x_NoFraction:ExT K mg "NoFraction" a.c_NoFraction
 x_NoPolynomial:ExT K mg "NoPolynomial" a.c_NoPolynomial
 x_NoStretch:ExT K mg "NoStretch" a.c_NoStretch
 x_NoRow:ExT K mg "NoRow" a.c_NoRow
 x_NoPair:ExT K mg "NoPair" a.c_NoPair
 x_NoBack:ExT K mg "NoBack" a.c_NoBack
 x_NoForm:ExT K mg "NoForm" a.c_NoForm
 x_NoParts:ExT K mg "NoParts" a.c_NoParts
 x_NoDegree:ExT K mg "NoDegree" a.c_NoDegree
 x_NoSteps:ExT K mg "NoSteps" a.c_NoSteps
 x_NoBox:ExT K mg "NoBox" a.c_NoBox
 x_NoGain:ExT K mg "NoGain" a.c_NoGain
 x_NoText:ExT K mg "NoText" a.c_NoText
 x_NoLine:ExT K mg "NoLine" a.c_NoLine
 x_NoName:ExT K mg "NoName" a.c_NoName
 x_NoDeed:ExT K mg "NoDeed" a.c_NoDeed
structure bn3 (K:q0a) (a:CAd) (C:Addr) (j:Nat):Prop where
 k_NoFraction:z0h K (.ref C) (.ref a.c_NoFraction)=some (decide (j=0))
 k_NoPolynomial:z0h K (.ref C) (.ref a.c_NoPolynomial)=some (decide (j=1))
 k_NoStretch:z0h K (.ref C) (.ref a.c_NoStretch)=some (decide (j=2))
 k_NoRow:z0h K (.ref C) (.ref a.c_NoRow)=some (decide (j=3))
 k_NoPair:z0h K (.ref C) (.ref a.c_NoPair)=some (decide (j=4))
 k_NoBack:z0h K (.ref C) (.ref a.c_NoBack)=some (decide (j=5))
 k_NoForm:z0h K (.ref C) (.ref a.c_NoForm)=some (decide (j=6))
 k_NoParts:z0h K (.ref C) (.ref a.c_NoParts)=some (decide (j=7))
 k_NoDegree:z0h K (.ref C) (.ref a.c_NoDegree)=some (decide (j=8))
 k_NoSteps:z0h K (.ref C) (.ref a.c_NoSteps)=some (decide (j=9))
 k_NoBox:z0h K (.ref C) (.ref a.c_NoBox)=some (decide (j=10))
 k_NoGain:z0h K (.ref C) (.ref a.c_NoGain)=some (decide (j=11))
 k_NoText:z0h K (.ref C) (.ref a.c_NoText)=some (decide (j=12))
 k_NoLine:z0h K (.ref C) (.ref a.c_NoLine)=some (decide (j=13))
 k_NoName:z0h K (.ref C) (.ref a.c_NoName)=some (decide (j=14))
 k_NoDeed:z0h K (.ref C) (.ref a.c_NoDeed)=some (decide (j=15))
 kV:z0h K (.ref C) (.type "ValueError")=some true
 ec:aE7 K C
 ex:PySem.W.exmOne K (.ref C) (.ref a.c_RestError)=some true
def aW3 (j:Nat):Str:=[("fraction" : Str),"polynomial","stretch","row","pair","back","form","parts","degree","steps","box","gain","text","line","name","deed"].getD j ""
def aJ9 (K:q0a) (a:CAd):Sp:=λvs H Q _ => ∃ e C j,vs=[.ref e]/\bn3 K a C j/\j<16/\H e=some (Exc (.ref C) e)/\∀ H',c9 H H'->Q (.str (aW3 j)) H'
def aP9 (j:Nat):List V:=[V.bl (decide (j=0)),V.bl (decide (j=1)),V.bl (decide (j=2)),V.bl (decide (j=3))] ++ [V.bl (decide (j=4)),V.bl (decide (j=5)),V.bl (decide (j=6)),V.bl (decide (j=7))] ++ [V.bl (decide (j=8)),V.bl (decide (j=9)),V.bl (decide (j=10)),V.bl (decide (j=11))] ++ [V.bl (decide (j=12)),V.bl (decide (j=13)),V.bl (decide (j=14)),V.bl (decide (j=15))]
theorem aT9:∀ j,j<16->(aP9 j).countP (λz=>eqV z (V.bl true))=1:=by decide
theorem bg7:∀ j,j<16->(aP9 j).findIdx? (λz=>eqV z (V.bl true))=some j:=by decide
theorem aG6:∀ j,j<16->(aP9 j).all af3=true:=by decide
theorem ax7:an6 "fraction polynomial stretch row pair back form parts degree steps box gain text line name deed" " " = [("fraction" : Str),"polynomial","stretch","row","pair","back","form","parts","degree","steps","box","gain","text","line","name","deed"]:=by decide +kernel
theorem bq2 {j:Nat} (hj:j<16):atI ((an6 "fraction polynomial stretch row pair back form parts degree steps box gain text line name deed" " ").map V.str) (j:Int)=some (.str (aW3 j)):=by
 rw [ax7];refine v9 ?_;have:∀ j,j<16->((["fraction","polynomial","stretch","row","pair","back","form","parts","degree","steps","box","gain","text","line","name","deed"]:List Str).map V.str)[j]? = some (.str (aW3 j)):=by decide
 exact this j hj
theorem aa1 {ws:List Int} {i:Nat} {x:V} (h:(ws.map V.int)[i]? = some x):∃ v,ws[i]? = some v/\x=.int v:=by
 rw [q0m] at h
 cases hw:ws[i]? with
 | none=>rw [hw] at h;cases h
 | some v=>rw [hw] at h;cases h;exact ⟨v,rfl,rfl⟩
open PySem L2 PyProof.Rows
def top (i:Nat):Stmt:=PySem.Challenge.pw_restward_k46_walks_and_turns.main.body.getD i (.Pass ⟨0,0,0,0⟩)
end R
set_option maxRecDepth 100000
local macro_rules | `(tactic| simp! [$ls,*]) => do
  let a <- ("L2.bg8 L2.bv6 L2.aV1 L2.bk3 L2.aQ0 L2.aA3 L2.bh2 L2.bk4 L2.bv7 L2.tSl L2.ar8 L2.ab0 L2.as7 L2.bv8 L2.aM1 L2.bk7 L2.O7 j0d q1g Option.bind_none Option.bind_some Option.join_some L2.bn7 L2.bv1 L2.bv2 L2.tOr L2.bv0 L2.bg9 L2.tB L2.tOp L2.tUn L2.bo0 L2.tBM L2.O1 L2.tC L2.tCB L2.bn8 L2.aU3 L2.t4 L2.aW9 L2.U2 L2.w9 L2.U3 L2.P2 L2.ak4 L2.bn9 L2.bu9 L2.bc2 L2.tIf L2.bh4 L2.bh0 L2.aA2 L2.aJ8 L2.bh3 L2.bh1 L2.aU2 L2.aU1 L2.rI L2.rI0 L2.rU L2.aM0 L2.al1 L2.bc7 L2.aB6 L2.rEq L2.rNe L2.aV3 L2.aV2 L2.aV0 L2.bo7 L2.aL9 L2.bk6 L2.bk5 L2.am0 L2.az5 L2.cxR L2.cxX L2.Cx.nox L2.Cx.wish L2.Cx.body L2.Cx.suite List.getElem?_cons_zero u0p List.set_cons_zero List.set_cons_succ Option.some.injEq L2.V.int.injEq L2.V.bl.injEq L2.V.ref.injEq L2.V.str.injEq exists_eq_left' exists_eq_left exists_and_left true_and and_true List.cons.injEq reduceCtorEq Bool.false_eq_true if_false if_true exists_const L2.tyV j0m List.length_nil exists_eq g0g List.cons_append List.nil_append decide_eq_true_eq not_true_eq_false not_false_eq_true v0x decide_eq_false_iff_not Bool.not_true Bool.not_false and_assoc false_and false_or or_false".splitOn " ").toArray.mapM λs => `(Lean.Parser.Tactic.simpLemma| $(Lean.mkIdent s.toName):ident)
  let b:=ls.getElems.map λx=>(⟨x.raw⟩:Lean.TSyntax `Lean.Parser.Tactic.simpLemma)
  let c:=a ++ b
  if ls.getElems.size<3 then `(tactic| (dsimp only [↓reduceIte,$[$c],*];try simp only [↓reduceIte,$[$c],*])) else `(tactic| simp only [↓reduceIte,$[$c],*])
local macro_rules | `(tactic| subst_eqs) => `(tactic| simp! [])
local macro_rules | `(tactic| and_intros) => `(tactic| exact ⟨rfl, rfl, rfl, by decide +kernel, rfl, by decide +kernel, by decide +kernel⟩)
namespace R
open PySem L2 PyProof.Rows
section
variable {P:Program} {w:World} {K:q0a} {mg:Str->Option Value} {base:Heap}
def as2:Sp:=λvs H Q _ => ∃ a b:Int,vs=[.int a,.int b]/\(a.natAbs<2 ^ 6000 \/ b.natAbs<2 ^ 6000)/\Q (.int (q0y a b)) H
abbrev R7:Stmt:=top 25
theorem ad9:j4 ["one","other"] ["one","other"] (c8 R7):=by and_intros
theorem at4 {f:Addr} (d:Df K mg "common_divisor" R7 ["one","other"] f) (c_SHORT:∃ t,mg "SHORT" = some (.int 6000 t)) (n_abs:mg "abs" = none):Def P w K mg base CX0 1 "common_divisor" f ["one","other"] as2:=by
  obtain ⟨tS,c_SHORT⟩:=c_SHORT;refine d.ok (N:=["one","other"]) ad9 (λvs H Q E ⟨a,b,h,_⟩=>by rw [h];rfl) (λcdv A outer s H vs Q E hr h=>?_)
  obtain ⟨a,b,rfl,hab,q⟩:=h
  refine ⟨_, (c7 (E7 (PW.pt (aV5 (l9 aj9 (av6 PySem.F.plainAttrs_int PySem.F.slot_int_bit_length PySem.F.type_int_bit_length ah2 (pv 1)) (F8 (v := .int 6000) rfl c_SHORT ⟨_, rfl⟩) (j8 _)) (aM2 (l9 aj9 (av6 PySem.F.plainAttrs_int PySem.F.slot_int_bit_length PySem.F.type_int_bit_length ah2 (pv 0)) (F8 (v := .int 6000) rfl c_SHORT ⟨_, rfl⟩) (j8 _))))) (d4 aR3) o0)
      (c7 (aB7 PassesOwn.never (as9 (pv 1) (λ_=>rfl)) (d4 (av4 (i:=0) (j:=1) rfl ad9.nd rfl rfl (by decide) rfl rfl (b7 (pv 1) (b7 (i5 S9 (pv 0) (pv 1)) b8)) rfl)))
      (d4 (j2 (i7 ad5 rfl n_abs (by decide +kernel) (b7 (pv 0) b8)))))),?_⟩
  rw [show start ["one","other"] [.int a,.int b]=[some (.int a),some (.int b)] from rfl]
  have hno:¬ ((6000:Int)<Builtin.Int.intBits b/\(6000:Int)<Builtin.Int.intBits a):=by
    rintro ⟨h1,h2⟩;rcases hab with z | z
    · have:=Y6 z;lia
    · have:=Y6 z;lia
  have main : ∀ {D : ar4} , (∀ x : Int, ∀ y : Int, y = 0 → Int.gcd x y = Int.gcd a b → D.nx [some (.int x), some (.int y)] H) → aJ7 (fun σ H_1 Q => O1 1 σ H_1 fun x H' => ∃ k, aX7 K x H' k ∧ Q k H')
      (bn9 0 1 (P2 (O1 1) (P2 (tOp (rI (λx j=>j ≠ 0) λi j=>V.int (i.fmod j)) (O1 0) (O1 1)) ak4))) D [some (.int a),some (.int b)] H:=by
    intro D hD;refine aP7 (λσ H1=>H1=H/\∃ x y:Int,σ=[some (.int x),some (.int y)]/\Int.gcd x y=Int.gcd a b) (λσ _=>match σ with | [_,some (.int y)]=>y.natAbs | _=>0) ⟨rfl,a,b,rfl,rfl⟩ ?_ ?_
    · rintro σ H1 ⟨rfl,x,y,rfl,hg⟩
      simp! [aX7]
      split
      · rename_i hy
        have hy':y ≠ 0:=by simpa using hy
        exact ⟨hy',by rw [aS9];exact hg,al8 x hy'⟩
      · rename_i hy
        have hy':y=0:=by simpa using hy
        exact hD x y hy' hg
    · intro σ H1 Q Q' hQ h
      obtain ⟨v,e1,k,e2,e3⟩:=h;exact ⟨v,e1,k,e2,hQ _ _ e3⟩
  have fin:∀ x y:Int,y=0->Int.gcd x y=Int.gcd a b->Q (.int (if x<0 then -x else x)) H:=λx y hy hg=>by
    subst hy
    have e:(if x<0 then -x else x)=(Int.gcd a b:Int):=by
      rw [<- hg,Int.gcd_zero_right]
      split <;> lia
    rw [e];exact q
  have nxt:∀ x y:Int,y=0->Int.gcd x y=Int.gcd a b->(bn8 (tCB (λxs H Q => ∃ i,xs=[V.int i]/\Q (V.int (if i<0 then -i else i)) H) (P2 (O1 0) ak4)) { nx:=λx H'=>Q V.non H',rt:=Q }) [some (.int x),some (.int y)] H:=λx y hy hg=>by
    subst_eqs
    exact fin x y hy hg
  subst_eqs
  split
  · split
    · exact hno ⟨‹_›,‹_›⟩
    · exact main nxt
  · exact main nxt
def aQ6 (K:q0a) (op:Rat->Rat->Rat):Sp:=λvs H Q _ => ∃ (x y:V) (p q:Rat),vs=[x,y]/\Num K H x p/\Num K H y q/\Bd6 p/\Bd6 q/\am9 H Q (op p q)
abbrev aL6:Stmt:=top 27
theorem ab1:j4 ["one","other","shared","rest","top","again","one_top","one_bottom","other_top","other_bottom"] ["one","other"] (c8 aL6):=by and_intros
theorem bp8 {f fc:Addr} (d:Df K mg "plus" aL6 ["one","other"] f) (G_common_divisor:Def P w K mg base CX0 1 "common_divisor" fc ["one","other"] as2):Def P w K mg base CX0 2 "plus" f ["one","other"] (aQ6 K (· + ·)):=by
  refine d.ok (N:=["one","other","shared","rest","top","again","one_top","one_bottom","other_top","other_bottom"]) ab1 (λvs H Q E ⟨x,y,p,q,h,_⟩=>by rw [h];rfl) (λcdv A outer s H vs Q E hr h=>?_)
  obtain ⟨x,y,p,q,rfl,⟨ap,rfl,hp⟩,⟨aq,rfl,hq⟩,bp,bq,k⟩:=h
  refine ⟨_, (c7 (K7 (pv 0) (show PG _ _ (U2 K 2 (w9 (t4 6) (w9 (t4 7) U3))) from by (refine F4 (n := 2) ?_ ?_ ?_ ?_; rfl; (refine j1 ?_ ?_ ?_; (exact (d5 (i := 6) ab1.nd rfl (Or.inl rfl))); (refine j1 ?_ ?_ ?_; (exact (d5 (i := 7) ab1.nd rfl (Or.inl rfl))); (exact C6); rfl); rfl); rfl; rfl)))
      (c7 (K7 (pv 1) (show PG _ _ (U2 K 2 (w9 (t4 8) (w9 (t4 9) U3))) from by (refine F4 (n:=2) ?_ ?_ ?_ ?_;rfl;(refine j1 ?_ ?_ ?_;(exact (d5 (i:=8) ab1.nd rfl (Or.inl rfl)));(refine j1 ?_ ?_ ?_;(exact (d5 (i:=9) ab1.nd rfl (Or.inl rfl)));(exact C6);rfl);rfl);rfl;rfl)))
      (c7 (i9 (i:=2) ab1.nd rfl (Or.inl rfl) (d2 G_common_divisor hr (b7 (pv 7) (b7 (pv 9) b8)) i4))
      (c7 (i9 (i:=3) ab1.nd rfl (Or.inl rfl) (i5 J1 (pv 7) (pv 2)))
      (c7 (i9 (i:=4) ab1.nd rfl (Or.inl rfl) (i5 E9 (i5 z9 (pv 6) (i5 J1 (pv 9) (pv 2))) (i5 z9 (pv 8) (pv 3))))
      (c7 (i9 (i:=5) ab1.nd rfl (Or.inl rfl) (d2 G_common_divisor hr (b7 (pv 4) (b7 (pv 2) b8)) i4))
      (d4 (j2 (m6 (b7 (i5 J1 (pv 4) (pv 5)) (b7 (i5 z9 (pv 3) (i5 J1 (pv 9) (pv 5))) b8))))))))))),?_⟩
  rw [show start ["one","other","shared","rest","top","again","one_top","one_bottom","other_top","other_bottom"] [.ref ap,.ref aq]=[some (.ref ap),some (.ref aq),none,none,none,none,none,none,none,none] from rfl]
  simp! [as2]
  refine ⟨_,hp,rfl,?_⟩
  simp! [E8,as2]
  refine ⟨_,hq,rfl,?_⟩
  simp! [E8,as2]
  have dp:=A4 p;have dq:=A4 q;have gp:=Q4 (t:=(p.den:Int)) (b:=(q.den:Int)) ⋯;have bdp:((p.den:Int)).natAbs<2 ^ 6000:=by rw [Int.natAbs_natCast];exact bp.d
  have bdq:((q.den:Int)).natAbs<2 ^ 6000:=by rw [Int.natAbs_natCast];exact bq.d
  have gl:(((Int.gcd p.den q.den:Nat):Int)).natAbs<2 ^ 6000:=aw6 ⋯ bdq;have gd1:((Int.gcd p.den q.den:Nat):Int) ∣ p.den:=Int.gcd_dvd_left _ _;have gd2:((Int.gcd p.den q.den:Nat):Int) ∣ q.den:=Int.gcd_dvd_right _ _;have f1:=ao1 (by lia) gd1
  have f2:=ao1 ⋯ gd2;have dv1:∀ i,au8 i ((Int.gcd p.den q.den:Nat):Int):=λi=>aa7 (by lia) (Y1 gl)
  have R:=bp0 (a:=p.num) (b:=p.den) (c:=q.num) (d:=q.den) dp dq (aL8 p) (aL8 q) rfl rfl rfl;obtain ⟨t,ht⟩:∃ t,t=p.num*(q.den:Int).fdiv ((Int.gcd p.den q.den:Nat):Int)+q.num*(p.den:Int).fdiv ((Int.gcd p.den q.den:Nat):Int):=⟨_,rfl⟩;rw [<- ht] at R ⊢;have hp0:=Q4 (t:=t) (b:=((Int.gcd p.den q.den:Nat):Int)) (by lia)
  have hl:=aw6 (a:=t) (b:=((Int.gcd p.den q.den:Nat):Int)) ⋯ gl;have dv2:∀ i,au8 i ((Int.gcd t ((Int.gcd p.den q.den:Nat):Int):Nat):Int):=λi=>aa7 (by lia) (Y1 hl)
  have hd2:((Int.gcd t ((Int.gcd p.den q.den:Nat):Int):Nat):Int) ∣ q.den:=Int.dvd_trans (Int.gcd_dvd_right _ _) gd2;have f3:=ao1 (by lia) hd2
  have m1:IntMulOk p.num ((q.den:Int).fdiv ((Int.gcd p.den q.den:Nat):Int)):=U0 bp.n (Nat.lt_of_le_of_lt f2 bdq);have m2:IntMulOk q.num ((p.den:Int).fdiv ((Int.gcd p.den q.den:Nat):Int)):=U0 bq.n (Nat.lt_of_le_of_lt f1 bdp);have m3:IntMulOk ((p.den:Int).fdiv ((Int.gcd p.den q.den:Nat):Int)) ((q.den:Int).fdiv ((Int.gcd t ((Int.gcd p.den q.den:Nat):Int):Nat):Int)):=U0 (Nat.lt_of_le_of_lt f1 bdp) (Nat.lt_of_le_of_lt f3 bdq);refine ⟨.inl (Y1 bdp),dv1 _,dv1 _,m1,m2,.inr (Y1 gl),dv2 _,dv2 _,m3,t8,λr hr'=>?_⟩;obtain ⟨e1,e2⟩:=ac2 R.1 R.2.1 (show (p.den:Int)*q.den ≠ 0 from Int.ne_of_gt (Int.mul_pos dp dq)) R.2.2;rw [<- ar2] at e1 e2;exact k r _ (c9.new hr' _) (by rw [c6];unfold E8;rw [e1,e2])
abbrev aL7:Stmt:=top 28
theorem aK8:j4 ["one","other","top","bottom"] ["one","other"] (c8 aL7):=by and_intros
theorem bp9 {f fp:Addr} (d:Df K mg "less" aL7 ["one","other"] f) (G_plus:Def P w K mg base CX0 2 "plus" fp ["one","other"] (aQ6 K (· + ·))):Def P w K mg base CX0 3 "less" f ["one","other"] (aQ6 K (· - ·)):=by
  refine d.ok (N:=["one","other","top","bottom"]) aK8 (λvs H Q E ⟨x,y,p,q,h,_⟩=>by rw [h];rfl) (λcdv A outer s H vs Q E hr h=>?_)
  obtain ⟨x,y,p,q,rfl,⟨ap,rfl,hp⟩,⟨aq,rfl,hq⟩,bp,bq,k⟩:=h
  refine ⟨_, (c7 (K7 (pv 1) (show PG _ _ (U2 K 2 (w9 (t4 2) (w9 (t4 3) U3))) from by (refine F4 (n := 2) ?_ ?_ ?_ ?_; rfl; (refine j1 ?_ ?_ ?_; (exact (d5 (i := 2) aK8.nd rfl (Or.inl rfl))); (refine j1 ?_ ?_ ?_; (exact (d5 (i := 3) aK8.nd rfl (Or.inl rfl))); (exact C6); rfl); rfl); rfl; rfl)))
      (d4 (j2 (d2 G_plus hr (b7 (pv 0) (b7 (m6 (b7 (aa0 Q5 (pv 2)) (b7 (pv 3) b8))) b8)) i4)))),?_⟩
  rw [show start ["one","other","top","bottom"] [.ref ap,.ref aq]=[some (.ref ap),some (.ref aq),none,none] from rfl]
  subst_eqs
  refine ⟨_,hq,rfl,?_⟩
  simp! [E8]
  refine ⟨t8,λr hr'=>?_⟩;refine ⟨.ref ap,.ref r,p,-q,rfl,⟨ap,rfl,(c9.new hr' _).tup hp⟩,⟨r,rfl,SqT.of (by rw [c6];rfl)⟩,bp,⟨by rw [Rat.neg_num,Int.natAbs_neg];exact bq.n,bq.d⟩,λr2 H2 s2 h2=>?_⟩
  have e:p + -q=p-q:=by grind
  have h3:H2 r2=some (.tup (E8 (p-q))):=by rw [<- e];exact h2
  exact k r2 H2 ((c9.new hr' _).trans s2) h3
def ai0:Sp:=λvs H Q _ => ∃ t b:Int,vs=[.int t,.int b]/\b.natAbs<2 ^ 6000/\b ≠ 0/\am9 H Q (q0z t b)
abbrev ai3:Stmt:=top 26
theorem ak9:j4 ["top","bottom","shared"] ["top","bottom"] (c8 ai3):=by and_intros
theorem aR5 {f fc:Addr} (d:Df K mg "fraction" ai3 ["top","bottom"] f) (G_common_divisor:Def P w K mg base CX0 1 "common_divisor" fc ["one","other"] as2):Def P w K mg base CX0 2 "fraction" f ["top","bottom"] ai0:=by
 refine d.ok (N:=["top","bottom","shared"]) ak9 (by rintro vs H Q E ⟨a,b,h,_⟩;rw [h];rfl) (λcdv A outer s H vs Q E hr h=>?_)
 obtain ⟨t,b,rfl,hb,h0,q⟩:=h
 refine ⟨_,(c7 (E7 (l9 Q3 (pv 1) b9 (j8 _)) (d4 aR3) o0)
   (c7 (i9 (i:=2) ak9.nd rfl (q0x rfl) (d2 G_common_divisor hr (b7 (pv 0) (b7 (pv 1) b8)) i4))
   (c7 (E7 (l9 al4 (pv 1) b9 (j8 _)) (d4 (i9 (i:=2) ak9.nd rfl (q0x rfl) (aa0 Q5 (pv 2)))) o0)
   (d4 (j2 (m6 (b7 (i5 J1 (pv 0) (pv 2)) (b7 (i5 J1 (pv 1) (pv 2)) b8)))))))),?_⟩
 rw [show start ["top","bottom","shared"] [.int t,.int b]=[some (.int t),some (.int b),none] from rfl]
 simp! [aQ7,as2]
 rw [if_neg h0];refine ⟨.inr hb,?_⟩;have hg:=Q4 (t:=t) h0;have hgl:=aw6 (a:=t) h0 hb
 by_cases hs:b<0
 ·rw [if_pos hs]
  obtain ⟨e1,e2⟩:=aw3 (t:=t) (g:=-(q0y t b:Int)) h0 (by rw [if_pos hs])
  have dv:∀ i,au8 i (-(q0y t b:Int)):=λi=>aa7 (by lia) (by rw [v0n];exact Y1 hgl)
  refine ⟨dv _,dv _,t8,λr hr'=>?_⟩;exact q r _ (c9.new hr' _) (by rw [c6];unfold E8;rw [e1,e2])
 ·rw [if_neg hs]
  obtain ⟨e1,e2⟩:=aw3 (t:=t) (g:=(q0y t b:Int)) h0 (by rw [if_neg hs])
  have dv:∀ i,au8 i ((q0y t b:Int)):=λi=>aa7 (by lia) (Y1 hgl)
  refine ⟨dv _,dv _,t8,λr hr'=>?_⟩;exact q r _ (c9.new hr' _) (by rw [c6];unfold E8;rw [e1,e2])
end
end R
namespace L2
open PySem PyProof.Rows
end L2
set_option maxRecDepth 100000
namespace R
open PySem L2 PyProof.Rows
mutual
def noU:D->Bool
 | .v _=>true
 | .tup ds=>bw8 ds
 | .lst ds=>(ds.length != 3) && bw8 ds
def bw8:List D->Bool
 | []=>true
 | d :: ds=>noU d && bw8 ds
end
end R
set_option maxRecDepth 100000
namespace L2
open PySem PyProof.Rows
theorem aZ9 {K:q0a} {a b:Addr} {g:TG} {tb:TS} {E:ar4} {σ:St} {H:Hp} (xs ys:List V) (Pv:Nat->St->Hp->Prop) (h0:Pv 0 σ H) (hl:∀ i σ H,Pv i σ H->SqL K H a xs/\SqL K H b ys)
  (hs:∀ i x y σ H p,xs[i]? = some x->ys[i]? = some y->Pv i σ H->H p=none->g (.ref p) σ (upd H p (.tup [x,y])) λσ2 H2=>tb { E with nx:=Pv (i+1),ct:=Pv (i+1),bk:=E.nx } σ2 H2) (hd:∀ σ H,Pv (min xs.length ys.length) σ H->E.nx σ H) :
  ∃ W:Nat->Nat->St->Hp->Prop,(∃ m,W 0 m σ H)/\∀ i m σ H,W i m σ H ->
   ((Itz K a b).stop i H/\E.nx σ H) \/ ((Itz K a b).go i H/\∃ N:St->Hp->Prop,(∀ σ' H',N σ' H'->∃ m',m'<m/\W (i+1) m' σ' H')/\∀ x H',(Itz K a b).yld i H x H'->g x σ H' λσ2 H2=>tb { E with nx:=N,ct:=N,bk:=E.nx } σ2 H2):=by
 refine ⟨λi m σ H=>m=min xs.length ys.length-i/\i<=min xs.length ys.length/\Pv i σ H,⟨_,rfl,z0s _,h0⟩,?_⟩;rintro i m σ H ⟨rfl,hi,p⟩;obtain ⟨q,q'⟩:=hl i σ H p
 by_cases hlt:i<min xs.length ys.length
 ·have h1:i<xs.length:=⋯
  have h2:i<ys.length:=⋯;refine .inr ⟨⟨xs,ys,xs[i],ys[i],q,q',q0d h1,q0d h2⟩,Pv (i+1),λσ' H' n=>⟨_,⋯,rfl,by lia,n⟩,?_⟩
  intro v H3 hy;obtain ⟨x,y,r,e1,e2,hr,rfl,rfl⟩:=hy xs ys q q';exact hs i x y σ _ r e1 e2 p hr
 ·have e:i=min xs.length ys.length:=⋯
  subst e;exact .inl ⟨⟨xs,ys,q,q',⋯⟩,hd σ H p⟩
end L2
namespace R
open PySem L2 PyProof.Rows
inductive Rws (H:Hp):List Addr->List (List Rat)->Prop where
 | nil:Rws H [] []
 | cons {p:Addr} {xs:List V} {ps:List Addr} {L:List Rat} {Ls:List (List Rat)} (h:H p=some (.lst xs)) (n:C9 H xs L) (t:Rws H ps Ls):Rws H (p :: ps) (L :: Ls)
theorem Rws.length {H:Hp}:∀ {ts:List Addr} {M:List (List Rat)},Rws H ts M->ts.length=M.length:=by
 intro _ _ a;induction a with
 | nil=>exact rfl
 | cons _ _ t ih=>exact congrArg (· + 1) ih
theorem Rws.same {H H':Hp} (s:c9 H H'):∀ {ts:List Addr} {M:List (List Rat)},Rws H ts M->Rws H' ts M:=by
 intro _ _ a;induction a with
 | nil=>exact .nil
 | cons h n t ih=>exact .cons (s _ _ h) (n.mono s.tups) ih
theorem Rws.samex {u:Addr} {H H':Hp} (s:A0 u H H') (hu:y9 H u):∀ {ts:List Addr} {M:List (List Rat)},(∀ t ∈ ts,t ≠ u)->Rws H ts M->Rws H' ts M:=by
 intro _ _ hn a;induction a with
 | nil=>exact .nil
 | cons h n t ih=>exact .cons (s _ _ h (hn _ z0c)) (n.mono (s.tups hu)) (ih λx hx=>hn x (q0u _ hx))
theorem Rws.over {H:Hp} {l:Addr} {xs:List V} {o:HO} (hl:H l=some (.lst xs)):∀ {ts:List Addr} {M:List (List Rat)},l ∉ ts->Rws H ts M->Rws (upd H l o) ts M:=by
 intro _ _ hn a;induction a with
 | nil=>exact .nil
 | cons h n t ih=>exact .cons (by rw [i8 (λz=>hn (by rw [<- z];exact z0c))];exact h) (n.mono (aa2.lst hl)) (ih λz=>hn (q0u _ z))
theorem Rws.append {H:Hp}:∀ {ts us:List Addr} {M N:List (List Rat)},Rws H ts M->Rws H us N->Rws H (ts ++ us) (M ++ N):=by
 intro _ _ _ _ a k;induction a with
 | nil=>exact k
 | cons h n t ih=>exact .cons h n ih
theorem Rws.get {H:Hp}:∀ {ts:List Addr} {M:List (List Rat)} {i:Nat} {p:Addr},Rws H ts M->ts[i]? = some p->∃ xs L,M[i]? = some L/\H p=some (.lst xs)/\C9 H xs L
 | _,_,_,_,.nil,e=>by simp at e
 | _,_,0,_,.cons h n _,e=>by cases e;exact ⟨_,_,rfl,h,n⟩
 | _,_,i+1,_,.cons _ _ t,e=>t.get (i:=i) (by simpa using e)
theorem Rws.isDs {K:q0a} {H:Hp}:∀ {ts:List Addr} {M:List (List Rat)},Rws H ts M->ak3 K H (ts.map V.ref) (M.map O6)
 | _,_,.nil=>.nil
 | _,_,.cons h n t=>.cons (W7 (SqL.of h) n) t.isDs
def G9 (p q:List Rat):Rat:=(u0b (· * ·) p q).foldl (· + ·) 0
def be9 (p q:List Int):Int:=smZ (u0b (· * ·) p q)
theorem aw7 (l:List Rat):∀ a:Rat,l.foldl (· + ·) a=a+l.foldl (· + ·) 0:=by
 induction l with
 | nil=>intro a;simp;grind
 | cons x l ih =>
  intro a;rw [y0r,y0r,ih (a+x),ih (0+x)];grind
theorem ba3 (s t:Rat):∀ (p q:List Int),G9 (scl s p) (scl t q)=s*t*((be9 p q:Int):Rat)
 | [],q=>by simp [G9,scl,be9,smZ,v0s]
 | p,[]=>by cases p <;> simp [G9,scl,be9,smZ,v0s]
 | a :: p,b :: q=>by
  have ih:=ba3 s t p q;unfold G9 be9 at *;simp only [scl,j0d,u0y,y0r,smZ] at *;rw [aw7,ih,m0q,j0z]
  grind
theorem br9 (p q:List Rat):q0z (be9 (k8 (n9 p) p) (k8 (n9 q) q)) ((n9 p:Int)*(n9 q:Int))=G9 p q:=by
 have e:=ba3 (q0z 1 (n9 p)) (q0z 1 (n9 q)) (k8 (n9 p) p) (k8 (n9 q) q);rw [aZ2,aZ2,y0a] at e;rw [e,<- j0t,show (1:Int)*1=1 from rfl,al5]
theorem aw9 {p q:List Rat} (n:Nat) {x y:Rat} (hx:p[n]? = some x) (hy:q[n]? = some y):G9 (p.take (n+1)) (q.take (n+1))=G9 (p.take n) (q.take n)+x*y:=by
 have h1:n<p.length:=(q0g.mp hx).1;have h2:n<q.length:=(q0g.mp hy).1;unfold G9;rw [d7 hx,d7 hy,q1d (by rw [q0v,q0v];lia)]
 simp
def O9 (H:Hp) (Q:VK) (M:List (List Rat)):Prop:=∀ (r:Addr) (ts:List Addr) (H':Hp),c9 H H'->H r=none->(∀ t ∈ ts,H t=none/\t ≠ r)->ts.Nodup->H' r=some (.lst (ts.map V.ref))->Rws H' ts M->Q (.ref r) H'
structure t7 (H:Hp) (D:Addr) (M:List (List Rat)) (H2:Hp):Prop where
 same:c9 H H2
 at':∃ ts:List Addr,H2 D=some (.lst (ts.map V.ref))/\(∀ t ∈ ts,H t=none/\t ≠ D)/\ts.Nodup/\Rws H2 ts M
structure G8 (H:Hp) (D:Addr) (L:List Rat) (H2:Hp):Prop where
 same:c9 H H2
 at':∃ xs:List V,H2 D=some (.lst xs)/\C9 H2 xs L
theorem t7.start {H:Hp} {D:Addr} (h:H D=none):t7 H D [] (upd H D (.lst [])):=⟨c9.new h _,[],c6,by simp,.nil,.nil⟩
theorem G8.start {H:Hp} {D:Addr} (h:H D=none):G8 H D [] (upd H D (.lst [])):=⟨c9.new h _,[],c6,.nil⟩
theorem t7.res {H H2:Hp} {D:Addr} {M:List (List Rat)} {Q:VK} (k:O9 H Q M) (h:H D=none) (t:t7 H D M H2):Q (.ref D) H2 :=
 let ⟨s,ts,e,hn,nd,r⟩:=t;k D ts H2 s h hn nd e r
theorem G8.add {H H2 H3:Hp} {D p:Addr} {L:List Rat} {q:Rat} (t:G8 H D L H2) (h:H D=none) (s:c9 H2 H3) (e:H3 p=some (.tup (E8 q))) :
  ∃ ys,H3 D=some (.lst ys)/\ys.length=L.length/\G8 H D (L ++ [q]) (upd H3 D (.lst (ys ++ [.ref p]))):=by
 obtain ⟨s2,xs,e2,n2⟩:=t;have eD:=s _ _ e2;exact ⟨xs,eD,n2.length,(s2.trans s).over h _,_,c6,((n2.mono s.tups).append (.cons e .nil)).mono (aa2.lst eD)⟩
theorem t7.add {H H2 H3:Hp} {D D2:Addr} {M:List (List Rat)} {L:List Rat} (t:t7 H D M H2) (h:H D=none) (h2:H2 D2=none) (r:G8 H2 D2 L H3) :
  ∃ ys,H3 D=some (.lst ys)/\ys.length=M.length/\t7 H D (M ++ [L]) (upd H3 D (.lst (ys ++ [.ref D2]))):=by
 obtain ⟨s2,ts,e2,hn,nd,n2⟩:=t;obtain ⟨s,xs,e3,n3⟩:=r;have eD:=s _ _ e2;have hD2:D2 ≠ D:=(j3 e2 h2).symm
 have hnt:D2 ∉ ts:=λz=>by
  obtain ⟨i,hi⟩:=j0b.mp z;obtain ⟨_,_,_,e,_⟩:=n2.get hi;rw [h2] at e;cases e
 refine ⟨_,eD,by rw [q0e,n2.length],(s2.trans s).over h _,ts ++ [D2],by rw [c6,y0t];rfl,?_,?_,?_⟩
 ·intro t ht
  rcases z0t.mp ht with z | z
  ·exact hn t z
  ·rw [z0d.mp z]
   refine ⟨?_,hD2⟩
   cases q:H D2 with
   | none=>rfl
   | some o=>rw [s2 _ _ q] at h2;cases h2
 ·rw [List.nodup_append]
  refine ⟨nd,by simp,λa ha b hb=>?_⟩
  rw [z0d.mp hb];rintro rfl;exact hnt ha
 ·refine ((n2.same s).append (.cons e3 n3 .nil)).over eD λz=>?_
  rcases z0t.mp z with z | z
  ·exact (hn D z).2 rfl
  ·exact hD2 (z0d.mp z).symm
def NmC (K:q0a) (H:Hp) (p:Addr) (q:Rat):Prop:=H p=some (.tup (E8 q)) \/ ∀ H',SqT K H' p (E8 q)
theorem NmC.sqt {K:q0a} {H:Hp} {p:Addr} {q:Rat}:NmC K H p q->SqT K H p (E8 q)
 | .inl h=>SqT.of h
 | .inr h=>h H
theorem NmC.mono {K:q0a} {H H':Hp} {p:Addr} {q:Rat} (e:aa2 H H'):NmC K H p q->NmC K H' p q
 | .inl h=>.inl (e _ _ h)
 | .inr h=>.inr h
inductive P4 (K:q0a) (H:Hp):List V->List Rat->Prop where
 | nil:P4 K H [] []
 | cons {p:Addr} {q:Rat} {vs:List V} {qs:List Rat} (h:NmC K H p q) (t:P4 K H vs qs):P4 K H (.ref p :: vs) (q :: qs)
theorem P4.mono {K:q0a} {H H':Hp} (e:aa2 H H'):∀ {vs:List V} {qs:List Rat},P4 K H vs qs->P4 K H' vs qs:=by
 intro _ _ a;induction a with
 | nil=>exact .nil
 | cons h t ih=>exact .cons (h.mono e) ih
theorem P4.length {K:q0a} {H:Hp}:∀ {vs:List V} {qs:List Rat},P4 K H vs qs->vs.length=qs.length:=by
 intro _ _ a;induction a with
 | nil=>exact rfl
 | cons _ t ih=>exact congrArg (· + 1) ih
theorem P4.append {K:q0a} {H:Hp}:∀ {vs ws:List V} {qs rs:List Rat},P4 K H vs qs->P4 K H ws rs->P4 K H (vs ++ ws) (qs ++ rs):=by
 intro _ _ _ _ a b;induction a with
 | nil=>exact b
 | cons h t ih=>exact .cons h ih
theorem P4.getV {K:q0a} {H:Hp}:∀ {vs:List V} {qs:List Rat} {i:Nat} {v:V},P4 K H vs qs->vs[i]? = some v->∃ p q,v=.ref p/\qs[i]? = some q/\NmC K H p q
 | _,_,_,_,.nil,e=>by simp at e
 | _,_,0,_,.cons h t,e=>by cases e;exact ⟨_,_,rfl,rfl,h⟩
 | _,_,i+1,_,.cons _ t,e=>t.getV (i:=i) (by simpa using e)
theorem C9.toC {K:q0a} {H:Hp}:∀ {vs:List V} {qs:List Rat},C9 H vs qs->P4 K H vs qs
 | _,_,.nil=>.nil
 | _,_,.cons h t=>.cons (.inl h) t.toC
inductive P8 (K:q0a) (H:Hp):List Addr->List (List Rat)->Prop where
 | nil:P8 K H [] []
 | cons {p:Addr} {xs:List V} {ps:List Addr} {L:List Rat} {Ls:List (List Rat)} (h:H p=some (.lst xs)) (n:P4 K H xs L) (t:P8 K H ps Ls):P8 K H (p :: ps) (L :: Ls)
theorem Rws.toC {K:q0a} {H:Hp}:∀ {ts:List Addr} {M:List (List Rat)},Rws H ts M->P8 K H ts M
 | _,_,.nil=>.nil
 | _,_,.cons h n t=>.cons h n.toC t.toC
theorem P8.length {K:q0a} {H:Hp}:∀ {ts:List Addr} {M:List (List Rat)},P8 K H ts M->ts.length=M.length:=by
 intro _ _ a;induction a with
 | nil=>exact rfl
 | cons _ _ t ih=>exact congrArg (· + 1) ih
theorem P8.same {K:q0a} {H H':Hp} (s:c9 H H'):∀ {ts:List Addr} {M:List (List Rat)},P8 K H ts M->P8 K H' ts M:=by
 intro _ _ a;induction a with
 | nil=>exact .nil
 | cons h n t ih=>exact .cons (s _ _ h) (n.mono s.tups) ih
theorem P8.over {K:q0a} {H:Hp} {l:Addr} {xs:List V} {o:HO} (hl:H l=some (.lst xs)):∀ {ts:List Addr} {M:List (List Rat)},l ∉ ts->P8 K H ts M->P8 K (upd H l o) ts M:=by
 intro _ _ hn a;induction a with
 | nil=>exact .nil
 | cons h n t ih=>exact .cons (by rw [i8 (λz=>hn (by rw [<- z];exact z0c))];exact h) (n.mono (aa2.lst hl)) (ih λz=>hn (q0u _ z))
theorem P8.append {K:q0a} {H:Hp}:∀ {ts us:List Addr} {M N:List (List Rat)},P8 K H ts M->P8 K H us N->P8 K H (ts ++ us) (M ++ N):=by
 intro _ _ _ _ a k;induction a with
 | nil=>exact k
 | cons h n t ih=>exact .cons h n ih
theorem P8.get {K:q0a} {H:Hp}:∀ {ts:List Addr} {M:List (List Rat)} {i:Nat} {p:Addr},P8 K H ts M->ts[i]? = some p->∃ xs L,M[i]? = some L/\H p=some (.lst xs)/\P4 K H xs L
 | _,_,_,_,.nil,e=>by simp at e
 | _,_,0,_,.cons h n _,e=>by cases e;exact ⟨_,_,rfl,h,n⟩
 | _,_,i+1,_,.cons _ _ t,e=>t.get (i:=i) (by simpa using e)
def bb2 (K:q0a) (H:Hp) (Q:VK) (M:List (List Rat)):Prop:=∀ (r:Addr) (ts:List Addr) (H':Hp),c9 H H'->H r=none->(∀ t ∈ ts,H t=none/\t ≠ r)->ts.Nodup->H' r=some (.lst (ts.map V.ref))->P8 K H' ts M->Q (.ref r) H'
structure az6 (K:q0a) (H:Hp) (D:Addr) (M:List (List Rat)) (H2:Hp):Prop where
 same:c9 H H2
 at':∃ ts:List Addr,H2 D=some (.lst (ts.map V.ref))/\(∀ t ∈ ts,H t=none/\t ≠ D)/\ts.Nodup/\P8 K H2 ts M
structure aG2 (K:q0a) (H:Hp) (D:Addr) (L:List Rat) (H2:Hp):Prop where
 same:c9 H H2
 at':∃ xs:List V,H2 D=some (.lst xs)/\P4 K H2 xs L
theorem az6.start {K:q0a} {H:Hp} {D:Addr} (h:H D=none):az6 K H D [] (upd H D (.lst [])):=⟨c9.new h _,[],c6,by simp,.nil,.nil⟩
theorem aG2.start {K:q0a} {H:Hp} {D:Addr} (h:H D=none):aG2 K H D [] (upd H D (.lst [])):=⟨c9.new h _,[],c6,.nil⟩
theorem az6.res {K:q0a} {H H2:Hp} {D:Addr} {M:List (List Rat)} {Q:VK} (k:bb2 K H Q M) (h:H D=none) (t:az6 K H D M H2):Q (.ref D) H2 :=
 let ⟨s,ts,e,hn,nd,r⟩:=t;k D ts H2 s h hn nd e r
theorem aG2.add {K:q0a} {H H2 H3:Hp} {D p:Addr} {L:List Rat} {q:Rat} (t:aG2 K H D L H2) (h:H D=none) (s:c9 H2 H3) (e:NmC K H3 p q) :
  ∃ ys,H3 D=some (.lst ys)/\ys.length=L.length/\aG2 K H D (L ++ [q]) (upd H3 D (.lst (ys ++ [.ref p]))):=by
 obtain ⟨s2,xs,e2,n2⟩:=t;have eD:=s _ _ e2;exact ⟨xs,eD,n2.length,(s2.trans s).over h _,_,c6,((n2.mono s.tups).append (.cons e .nil)).mono (aa2.lst eD)⟩
theorem az6.add {K:q0a} {H H2 H3:Hp} {D D2:Addr} {M:List (List Rat)} {L:List Rat} (t:az6 K H D M H2) (h:H D=none) (h2:H2 D2=none) (r:aG2 K H2 D2 L H3) :
  ∃ ys,H3 D=some (.lst ys)/\ys.length=M.length/\az6 K H D (M ++ [L]) (upd H3 D (.lst (ys ++ [.ref D2]))):=by
 obtain ⟨s2,ts,e2,hn,nd,n2⟩:=t;obtain ⟨s,xs,e3,n3⟩:=r;have eD:=s _ _ e2;have hD2:D2 ≠ D:=(j3 e2 h2).symm
 have hnt:D2 ∉ ts:=λz=>by
  obtain ⟨i,hi⟩:=j0b.mp z;obtain ⟨_,_,_,e,_⟩:=n2.get hi;rw [h2] at e;cases e
 refine ⟨_,eD,by rw [q0e,n2.length],(s2.trans s).over h _,ts ++ [D2],by rw [c6,y0t];rfl,?_,?_,?_⟩
 ·intro t ht
  rcases z0t.mp ht with z | z
  ·exact hn t z
  ·rw [z0d.mp z]
   refine ⟨?_,hD2⟩
   cases q:H D2 with
   | none=>rfl
   | some o=>rw [s2 _ _ q] at h2;cases h2
 ·rw [List.nodup_append]
  refine ⟨nd,by simp,λa ha b hb=>?_⟩
  rw [z0d.mp hb];rintro rfl;exact hnt ha
 ·refine ((n2.same s).append (.cons e3 n3 .nil)).over eD λz=>?_
  rcases z0t.mp z with z | z
  ·exact (hn D z).2 rfl
  ·exact hD2 (z0d.mp z).symm
theorem t7.to {H H2 H3:Hp} {D:Addr} {M:List (List Rat)} (t:t7 H D M H2) (s:c9 H2 H3):t7 H D M H3 :=
 let ⟨s2,ts,e,hn,nd,r⟩:=t;⟨s2.trans s,ts,s _ _ e,hn,nd,r.same s⟩
def ax0 (M:List (List Rat)) (j:Nat):List Rat:=M.map λL=>(L[j]?).getD 0
def W8 (M:List (List Rat)) (n:Nat):List (List Rat):=(z0r n).map (ax0 M)
def P1 (n:Nat):List (List Rat):=(z0r n).map λi=>(z0r n).map λj=>if i=j then 1 else 0
def ag1 (M N:List (List Rat)):List (List Rat):=u0b (u0b (· + ·)) M N
def al3 (M N:List (List Rat)):List (List Rat):=M.map λL=>(W8 N N.length).map (G9 L)
theorem ac0 {n i:Nat} (h:i<n):(z0r n)[i]? = some i:=by rw [q0d (by simpa using h)];simp
theorem aT0 {M:List (List Rat)} {n i:Nat} (h:i<n):(W8 M n)[i]? = some (ax0 M i):=by unfold W8;rw [q0m,ac0 h];rfl
theorem N8 (M:List (List Rat)) (n:Nat):(W8 M n).length=n:=by simp [W8]
theorem aj6 (M:List (List Rat)) (n:Nat):(ax0 M n).length=M.length:=by simp [ax0]
theorem aP8 {n i:Nat} (h:i<n):(P1 n)[i]? = some ((z0r n).map λj=>if i=j then 1 else 0):=by unfold P1;rw [q0m,ac0 h];rfl
theorem t5 {α:Type} {l:List α} {n:Nat} (h:l.length<=n):l.take n=l:=u0x h
theorem w5 {n:Nat} (h:n<=100):n<sizeLine:=q0p h (by decide)
theorem O9.from {H H1:Hp} {Q:VK} {M:List (List Rat)} (k:O9 H Q M) (s:c9 H H1):O9 H1 Q M:=λr ts H' s' hr hts nd e R=>k r ts H' (s.trans s') (s.free hr) (λt ht=>⟨s.free (hts t ht).1,(hts t ht).2⟩) nd e R
theorem aB9 {M N:List (List Rat)} {i:Nat} {L:List Rat} (h:M[i]? = some L):(al3 M N)[i]? = some ((W8 N N.length).map (G9 L)):=by unfold al3;rw [q0m,h];rfl
theorem al2 (M N:List (List Rat)):(al3 M N).length=M.length:=by simp [al3]
def ClA (D:Addr) (H:Hp) (v:V) (p:List Rat):Prop:=∃ r l,v=.ref r/\H r=some (.tup [.ref l,.int (n9 p)])/\H l=some (.lst ((k8 (n9 p) p).map V.int))/\l ≠ D
inductive ClL (D:Addr) (H:Hp):List V->List (List Rat)->Prop where
 | nil:ClL D H [] []
 | cons {v:V} {p:List Rat} {vs:List V} {ps:List (List Rat)} (h:ClA D H v p) (t:ClL D H vs ps):ClL D H (v :: vs) (p :: ps)
theorem ClL.same {D:Addr} {H H':Hp} (s:c9 H H'):∀ {vs:List V} {ps:List (List Rat)},ClL D H vs ps->ClL D H' vs ps
 | _,_,.nil=>.nil
 | _,_,.cons ⟨r,l,e,h1,h2,n⟩ t=>.cons ⟨r,l,e,s _ _ h1,s _ _ h2,n⟩ (t.same s)
theorem ClL.over {D:Addr} {H:Hp} {xs:List V} {o:HO} (hD:H D=some (.lst xs)):∀ {vs:List V} {ps:List (List Rat)},ClL D H vs ps->ClL D (upd H D o) vs ps
 | _,_,.nil=>.nil
 | _,_,.cons ⟨r,l,e,h1,h2,n⟩ t=>.cons ⟨r,l,e,aa2.lst hD _ _ h1,by rw [i8 n];exact h2,n⟩ (t.over hD)
theorem ClL.append {D:Addr} {H:Hp}:∀ {vs ws:List V} {ps qs:List (List Rat)},ClL D H vs ps->ClL D H ws qs->ClL D H (vs ++ ws) (ps ++ qs):=by
 intro _ _ _ _ a k;induction a with
 | nil=>exact k
 | cons h t ih=>exact .cons h ih
theorem ClL.length {D:Addr} {H:Hp}:∀ {vs:List V} {ps:List (List Rat)},ClL D H vs ps->vs.length=ps.length:=by
 intro _ _ a;induction a with
 | nil=>exact rfl
 | cons _ t ih=>exact congrArg (· + 1) ih
theorem ClL.get {D:Addr} {H:Hp}:∀ {vs:List V} {ps:List (List Rat)} {i:Nat} {v:V},ClL D H vs ps->vs[i]? = some v->∃ p,ps[i]? = some p/\ClA D H v p
 | _,_,_,_,.nil,e=>by simp at e
 | _,_,0,_,.cons h _,e=>by cases e;exact ⟨_,rfl,h⟩
 | _,_,i+1,_,.cons _ t,e=>t.get (i:=i) (by simpa using e)
structure ClR (H:Hp) (D:Addr) (M:List (List Rat)) (H2:Hp):Prop where
 same:c9 H H2
 at':∃ vs:List V,H2 D=some (.lst vs)/\ClL D H2 vs M
theorem ClR.start {H:Hp} {D:Addr} (h:H D=none):ClR H D [] (upd H D (.lst [])):=⟨c9.new h _,[],c6,.nil⟩
theorem ClR.add {H H2 H3:Hp} {D r l:Addr} {M:List (List Rat)} {p:List Rat} (t:ClR H D M H2) (h:H D=none) (s:c9 H2 H3) (hl:H2 l=none) (e1:H3 r=some (.tup [.ref l,.int (n9 p)])) (e2:H3 l=some (.lst ((k8 (n9 p) p).map V.int))) :
  ∃ ys,H3 D=some (.lst ys)/\ys.length=M.length/\ClR H D (M ++ [p]) (upd H3 D (.lst (ys ++ [.ref r]))):=by
 obtain ⟨s2,vs,e,c⟩:=t;have eD:=s _ _ e;have n:l ≠ D:=(j3 e hl).symm;exact ⟨vs,eD,c.length,(s2.trans s).over h _,_,c6,((c.same s).append (.cons ⟨r,l,rfl,e1,e2,n⟩ .nil)).over eD⟩
instance {K:q0a} {H:Hp} {vs:List V} {qs:List Rat}:Coe (C9 H vs qs) (P4 K H vs qs):=⟨C9.toC⟩
theorem P4.get {K:q0a} {H:Hp}:∀ {vs:List V} {qs:List Rat} {i:Nat} {q:Rat},P4 K H vs qs->qs[i]? = some q->∃ p,vs[i]? = some (.ref p)/\NmC K H p q
 | _,_,_,_,.nil,e=>by simp at e
 | _,_,0,_,.cons h _,e=>by cases e;exact ⟨_,rfl,h⟩
 | _,_,i+1,_,.cons _ t,e=>t.get (i:=i) (by simpa using e)
section
variable {P:Program} {w:World} {K:q0a} {mg:Str->Option Value} {base:Heap}
def ag3 (K:q0a):Sp:=λvs H Q _ => ∃ a xs qs,vs=[.ref a]/\SqL K H a xs/\P4 K H xs qs/\(∃ W:Nat,ClN W qs/\W<=6000)/\qs.length<=100 /\
 ∀ r l H',c9 H H'->H l=none->H' r=some (.tup [.ref l,.int (n9 qs)])->H' l=some (.lst ((k8 (n9 qs) qs).map V.int))->Q (.ref r) H'
abbrev ag7:Stmt:=top 31
theorem ai2:j4 ["numbers","bottom","number"] ["numbers"] (c8 ag7):=by and_intros
theorem aW0 {f fc:Addr} (d:Df K mg "cleared" ag7 ["numbers"] f) (G_common_divisor:Def P w K mg base CX0 1 "common_divisor" fc ["one","other"] as2):Def P w K mg base CX0 2 "cleared" f ["numbers"] (ag3 K):=by
 refine d.ok (N:=["numbers","bottom","number"]) ai2 (by rintro vs H Q E ⟨a,b,c,h,_⟩;rw [h];rfl) (λcdv A outer s H vs Q E hr h=>?_)
 obtain ⟨a,xs,qs,rfl,hS,hN,⟨W,hs,hm⟩,hl,k⟩:=h
 refine ⟨_,(c7 (i9 (i:=1) ai2.nd rfl (z0w rfl) b9)
   (c7 (P6 PassesOwn.never rfl (A5 (pv 0)) (d5 (i:=2) ai2.nd rfl (q0x rfl)) (d4 (i9 (i:=1) ai2.nd rfl (z0w rfl) (i5 z9 (i5 J1 (pv 1) (d2 G_common_divisor hr (b7 (pv 1) (b7 (j6 y3 (pv 2) b9 (λ_ _=>rfl)) b8)) i4)) (j6 y3 (pv 2) b9 (λ_ _=>rfl))))))
   (d4 (j2 (m6 (b7 (t9 (Nc:=["bottom","top","under"]) (caps:=[some 1,none,none]) rfl (G5.of (osc:=c8 ag7) (N:=["numbers","bottom","number"]) (ks:=["bottom"]) rfl rfl rfl rfl (j7 rfl k9) (by decide +kernel)) (A5 (pv 0)) (λC s₂ H₂ fp pins=>(show PG _ _ (U2 K 2 (w9 (t4 1) (w9 (t4 2) U3))) from by (refine F4 (n:=2) ?_ ?_ ?_ ?_;rfl;(refine j1 ?_ ?_ ?_;(exact (d5 (i:=1) (show z0q (["bottom","top","under"]:List Str) by decide +kernel) rfl (q0x rfl) (z0w rfl)));(refine j1 ?_ ?_ ?_;(exact (d5 (i:=2) (show z0q (["bottom","top","under"]:List Str) by decide +kernel) rfl (q0x rfl) (z0w rfl)));(exact C6);rfl);rfl);rfl;rfl))) (λC s₂ H₂ fp pins=>(i5 z9 (pv 1) (i5 J1 (pv 0) (pv 2))))) (b7 (pv 1) b8))))))),?_⟩
 rw [show start ["numbers","bottom","number"] [.ref a]=[some (.ref a),none,none] from rfl]
 subst_eqs
 have small:∀ q ∈ qs,q.den<2 ^ 6000:=λq hq=>q0b (hs.den hq) (i6 hm)
 have hB:∀ i,0<n9 (qs.take i)/\n9 (qs.take i)<2 ^ 6000:=λi=>by
  exact ⟨M7 _,q0b (hs.take i) (i6 hm)⟩
 refine ⟨_,rfl,a,rfl,⟨_,hS⟩,au1 (xs:=xs) (λi σ H1=>H1=H/\∃ o,σ=[some (.ref a),some (.int (n9 (qs.take i):Nat)),o]) ⟨rfl,_,rfl⟩ (λi σ H1 _ ⟨e,_⟩=>e ▸ hS) ?_ ?_⟩
 ·rintro i x σ H1 hx ⟨rfl,o,rfl⟩
  obtain ⟨p,q,rfl,hq,hp⟩:=hN.getV hx;obtain ⟨b1,b2⟩:=hB i;have hd:=small q (q0c hq);have hd0:=A4 q;have es:qs.take (i+1)=qs.take i ++ [q]:=by rw [g0s,hq];rfl
  have gp:(0:Int)<(q0y (n9 (qs.take i):Int) (q.den:Int):Nat):=by
   have:=Q4 (t:=(n9 (qs.take i):Int)) (b:=(q.den:Int)) (by lia);lia
  have el:(n9 (qs.take i):Int).fdiv (q0y (n9 (qs.take i):Int) (q.den:Int):Nat)*(q.den:Int)=(n9 (qs.take (i+1)):Nat):=by
   rw [es,be0];obtain ⟨e,he⟩:=j0v (n9 (qs.take i):Int) (q.den:Int);have hg:q0y (n9 (qs.take i):Int) (q.den:Int)=Nat.gcd (n9 (qs.take i)) q.den:=by simp [q0y]
   have h1:(n9 (qs.take i):Int).fdiv (q0y (n9 (qs.take i):Int) (q.den:Int):Nat)=e:=by
    conv=>lhs;arg 1;rw [he]
    exact w4 (by lia)
   rw [h1];have h2:Nat.gcd (n9 (qs.take i)) q.den*g0b (n9 (qs.take i)) q.den=n9 (qs.take i)*q.den:=Nat.gcd_mul_lcm _ _
   have h3:((Nat.gcd (n9 (qs.take i)) q.den:Nat):Int)*(g0b (n9 (qs.take i)) q.den:Nat)=(n9 (qs.take i):Int)*(q.den:Int):=by
    rw [<- j0t,h2,j0t]
   rw [<- hg] at h3
   have h4:((q0y (n9 (qs.take i):Int) (q.den:Int):Nat):Int)*(e*q.den)=((q0y (n9 (qs.take i):Int) (q.den:Int):Nat):Int)*(g0b (n9 (qs.take i)) q.den:Nat):=by
    rw [h3,<- q1a,<- he]
   exact Int.eq_of_mul_eq_mul_left ⋯ h4
  simp! [as2]
  have hd9:(q.den:Int).natAbs<2 ^ 6000:=by rw [q0w];exact hd
  exact ⟨_,hp.sqt,_,at1 q,_,rfl,.inr (Y1 hd9),aa7 (by lia) (aw6 ⋯ (Y1 hd9)),_,hp.sqt,_,at1 q,_,rfl,U0 (m:=6000) (n:=6000) (q0p (ao1 ⋯ (j0v _ _)) (by rw [q0w];exact b2)) hd9,el,_,rfl⟩
 ·rintro σ H1 ⟨rfl,o,rfl⟩
  rw [<- hN.length] at hl;have e1:qs.take xs.length=qs:=by rw [hN.length,y0k]
  rw [e1]
  simp! [as2]
  refine ⟨⟨_,hS⟩,λD hD=>?_⟩;refine B9 xs (λi σ H2 => ∃ o1 o2,σ=[some (.int (n9 qs)),o1,o2]/\c9 H1 H2/\H2 D=some (.lst ((k8 (n9 qs) (qs.take i)).map V.int))) ⟨_,_,rfl,c9.new hD _,c6⟩ (λi σ H2 _ ⟨_,_,_,s2,_⟩=>s2.seq hS) ?_ ?_
  ·rintro i x σ H2 hx ⟨o1,o2,rfl,s2,e2⟩
   have hi:=(q0g.mp hx).1;obtain ⟨p,q,rfl,hq,hp⟩:=hN.getV hx;have hd:=small q (q0c hq);have hd0:=A4 q;have hd9:(q.den:Int).natAbs<2 ^ 6000:=by rw [q0w];exact hd
   have hn9:=hs.num (q0c hq);have es:qs.take (i+1)=qs.take i ++ [q]:=by rw [g0s,hq];rfl
   subst_eqs
   refine ⟨_,s2.tup hp.sqt,rfl,_,_,rfl,_,_,rfl,rfl,?_⟩;refine ⟨_,rfl,aa7 (by lia) (Y1 hd9),_,rfl,U0 (m:=6000) (n:=6000) (q0b hn9 (i6 ⋯)) (q0p (ao1 ⋯ (u0q.mpr (ac3 (q0c hq)))) (by rw [q0w];have:=(hB qs.length).2;rwa [y0k] at this)),?_⟩
   refine t6.mk hi e2 ?_ ⟨_,_,rfl,(s2.trans (c9.refl _)).over hD _,?_⟩
   ·simp only [q0e,k8,q0v]
    exact q0p (show _<=100 by lia) (by decide)
   ·rw [c6,es]
    simp [k8]
  ·rintro σ H2 ⟨o1,o2,rfl,s2,e2⟩
   rw [e1] at e2;refine ⟨t8,λp hp=>k p D _ (s2.trans (c9.new hp _)) hD c6 ?_⟩;rw [i8 (j3 e2 hp)];exact e2
def ak7 (K:q0a) (C:Addr):Sp:=λvs H Q E => ∃ a b xs ys,vs=[.ref a,.ref b]/\SqL K H a xs/\SqL K H b ys/\(xs.length=ys.length->Q .non H)/\(xs.length ≠ ys.length->E (.ref C) none H)
abbrev ab2:Stmt:=top 36
theorem aE9:j4 ["one","other"] ["one","other"] (c8 ab2):=by and_intros
theorem aF3 {f C:Addr} (d:Df K mg "check_pair" ab2 ["one","other"] f) (x_NoPair:ExT K mg "NoPair" C) (n_len:mg "len" = none):Def P w K mg base (CXR P w) 1 "check_pair" f ["one","other"] (ak7 K C):=by
 refine d.okR (N:=["one","other"]) aE9 (by rintro vs H Q E ⟨a,b,_,_,h,_⟩;rw [h];rfl) (λcdv A outer s H vs Q E hr h=>?_)
 obtain ⟨a,b,xs,ys,rfl,hS,hS',k1,k2⟩:=h;refine ⟨_,(d4 (E7 (l9 ap7 (i7 k6 rfl n_len (by decide +kernel) (b7 (pv 0) b8)) (i7 k6 rfl n_len (by decide +kernel) (b7 (pv 1) b8)) (j8 _)) (d4 (aR2 x_NoPair.ox PySem.F.excBase_ValueError rfl rfl x_NoPair.m aH1 (b7 af8 b8))) o0)),?_⟩
 rw [show start ["one","other"] [.ref a,.ref b]=[some (.ref a),some (.ref b)] from rfl]
 subst_eqs
 refine ⟨xs,.inl hS,ys,.inl hS',rfl,F2 (λh=>⟨by decide,k2 λz=>h (by rw [z])⟩) (λh=>k1 ?_)⟩
 have:(xs.length:Int)=ys.length:=Classical.byContradiction λz=>h z
 lia
def bB7 (K:q0a) (H:Hp) (v:V) (p:List Rat):Prop:=∃ r l,v=.ref r/\SqT K H r [.ref l,.int (n9 p)]/\SqL K H l ((k8 (n9 p) p).map V.int)
def av1 (K:q0a):Sp:=λvs H Q _ => ∃ x y p q W V',vs=[x,y]/\bB7 K H x p/\bB7 K H y q/\ClN W p/\ClN V' q/\W+V'<=6000/\p.length<=8/\am9 H Q (G9 p q)
abbrev ag5:Stmt:=top 39
theorem ac8:j4 ["one","other","wholes","bottom","other_wholes","other_bottom"] ["one","other"] (c8 ag5):=by and_intros
theorem aV8 {f f1:Addr} (d:Df K mg "matched" ag5 ["one","other"] f) (G_fraction:Def P w K mg base CX0 2 "fraction" f1 ["top","bottom"] ai0) (n_zip:mg "zip" = none) (n_sum:mg "sum" = none):Def P w K mg base CX0 3 "matched" f ["one","other"] (av1 K):=by
  refine d.ok (N:=["one","other","wholes","bottom","other_wholes","other_bottom"]) ac8 (by rintro vs H Q E ⟨_,_,_,_,_,_,h,_⟩;rw [h];rfl) (λcdv A outer s H vs Q E hr h=>?_)
  obtain ⟨x,y,p,q,W,V',rfl,⟨r1,l1,rfl,t1,e1⟩,⟨r2,l2,rfl,t2,e2⟩,cp,cq,hW,hl,k⟩:=h
  refine ⟨_, (c7 (K7 (m6 (b7 (pv 0) (b7 (pv 1) b8))) (show PG _ _ (U2 K 2 (w9 (U2 K 2 (w9 (t4 2) (w9 (t4 3) U3))) (w9 (U2 K 2 (w9 (t4 4) (w9 (t4 5) U3))) U3))) from by (refine F4 (n := 2) ?_ ?_ ?_ ?_; rfl; (refine j1 ?_ ?_ ?_; (refine F4 (n := 2) ?_ ?_ ?_ ?_; rfl; (refine j1 ?_ ?_ ?_; (exact (d5 (i := 2) ac8.nd rfl (Or.inl rfl))); (refine j1 ?_ ?_ ?_; (exact (d5 (i := 3) ac8.nd rfl (Or.inl rfl))); (exact C6); rfl); rfl); rfl; rfl); (refine j1 ?_ ?_ ?_; (refine F4 (n := 2) ?_ ?_ ?_ ?_; rfl; (refine j1 ?_ ?_ ?_; (exact (d5 (i := 4) ac8.nd rfl (Or.inl rfl))); (refine j1 ?_ ?_ ?_; (exact (d5 (i := 5) ac8.nd rfl (Or.inl rfl))); (exact C6); rfl); rfl); rfl; rfl); (exact C6); rfl); rfl); rfl; rfl)))
      (d4 (j2 (d2 G_fraction hr (b7 (i7 (bm5 rfl) rfl n_sum (by decide +kernel) (b7 (t9 (Nc:=["a","b"]) (caps:=[none,none]) rfl (G5.of (osc:=c8 ag5) (N:=["one","other","wholes","bottom","other_wholes","other_bottom"]) (ks:=[]) rfl rfl rfl rfl k9 (by decide +kernel)) (af7 rfl n_zip (b7 (pv 2) (b7 (pv 4) b8))) (λC s₂ H₂ fp pins=>(show PG _ _ (U2 K 2 (w9 (t4 0) (w9 (t4 1) U3))) from by (refine F4 (n:=2) ?_ ?_ ?_ ?_;rfl;(refine j1 ?_ ?_ ?_;(exact (d5 (i:=0) (show List.Nodup (["a","b"]:List Str) by decide +kernel) rfl (Or.inl rfl) (Or.inr rfl)));(refine j1 ?_ ?_ ?_;(exact (d5 (i:=1) (show List.Nodup (["a","b"]:List Str) by decide +kernel) rfl (Or.inl rfl) (Or.inr rfl)));(exact C6);rfl);rfl);rfl;rfl))) (λC s₂ H₂ fp pins=>(i5 z9 (pv 0) (pv 1)))) b8)) (b7 (i5 z9 (pv 3) (pv 5)) b8)) i4)))),?_⟩
  rw [show start ["one","other","wholes","bottom","other_wholes","other_bottom"] [.ref r1,.ref r2]=[some (.ref r1),some (.ref r2),none,none,none,none] from rfl]
  subst_eqs
  refine ⟨t8,λp3 hp3=>?_⟩;have S:=c9.new hp3 (.tup [.ref r1,.ref r2]);refine ⟨_,SqT.of c6,rfl,_,_,rfl,r1,rfl,_,S.tup t1,rfl,_,_,rfl,_,_,rfl,rfl,_,_,rfl,r2,rfl,_,S.tup t2,rfl,_,_,rfl,_,_,rfl,rfl,rfl,?_⟩;have lpp:=M7 p;have lqp:=M7 q;refine ⟨l1,rfl,l2,rfl,⟨_,S.seq e1⟩,⟨_,S.seq e2⟩,λD hD=>?_⟩;refine am5 ((k8 (n9 p) p).map V.int) ((k8 (n9 q) q).map V.int) (λj σ H6 => ∃ o1 o2,σ=[o1,o2]/\c9 (upd H p3 (.tup [.ref r1,.ref r2])) H6/\H6 D=some (.lst (((List.zipWith (· * ·) (k8 (n9 p) p) (k8 (n9 q) q)).take j).map V.int))) ⟨_,_,rfl,c9.new hD _,c6⟩ (by rintro j σ H6 ⟨_,_,_,s6,_⟩;exact ⟨(S.trans s6).seq e1,(S.trans s6).seq e2⟩) ?_ ?_
  · rintro j y z σ H6 pt hy hz ⟨o1,o2,rfl,s6,e6⟩ hpt
    obtain ⟨v1,hv1,rfl⟩:=aa1 hy;obtain ⟨v2,hv2,rfl⟩:=aa1 hz
    have hj:j<min ((k8 (n9 p) p).map V.int).length ((k8 (n9 q) q).map V.int).length:=by
      have h1:=(List.getElem?_eq_some_iff.mp hy).1;have h2:=(List.getElem?_eq_some_iff.mp hz).1
      lia
    have hjp:j<p.length:=by
      have h1:=(List.getElem?_eq_some_iff.mp hv1).1
      simpa [k8] using h1
    have hzj:(List.zipWith (· * ·) (k8 (n9 p) p) (k8 (n9 q) q))[j]? = some (v1*v2):=ar5 hv1 hv2
    have s7:=c9.new hpt (.tup [.int v1,.int v2])
    subst_eqs
    refine ⟨_,SqT.of c6,rfl,_,_,rfl,_,_,rfl,rfl,_,rfl,_,rfl,U0 (cp.w v1 (List.mem_of_getElem? hv1)) (cq.w v2 (List.mem_of_getElem? hv2)) (by lia),?_⟩
    have eD:=s7 _ _ e6;refine t6.mk hj eD ?_ ⟨_,_,rfl,(s6.trans s7).over hD _,?_⟩
    · simp only [List.length_map,List.length_take]
      exact Nat.lt_of_le_of_lt (show _<=100 by lia) (by decide)
    · rw [c6,d7 hzj,List.map_append];rfl
  · rintro σ H6 ⟨o1,o2,rfl,s6,e6⟩
    have ez:(List.zipWith (· * ·) (k8 (n9 p) p) (k8 (n9 q) q)).take (min ((k8 (n9 p) p).map V.int).length ((k8 (n9 q) q).map V.int).length)=List.zipWith (· * ·) (k8 (n9 p) p) (k8 (n9 q) q):=by
      rw [List.take_of_length_le (by rw [List.length_zipWith,List.length_map,List.length_map];exact Nat.le_refl _)]
    rw [ez] at e6
    have hb:((n9 p:Int)*(n9 q:Int)).natAbs<2 ^ 6000:=by
      rw [Int.natAbs_mul,Int.natAbs_natCast,Int.natAbs_natCast];have:=Nat.mul_lt_mul'' cp.l cq.l;rw [<- Nat.pow_add] at this;exact Y1 this hW
    refine ⟨D,rfl,_,SqL.of e6,_,rfl,_,rfl,U0 (m:=W) (n:=V') (by rw [Int.natAbs_natCast];exact cp.l) (by rw [Int.natAbs_natCast];exact cq.l) (by lia),_,_,rfl,hb,Int.mul_ne_zero (by lia) (by lia),?_⟩
    have e:=br9 p q;unfold be9 at e;rw [e];exact λr H' s' e'=>k r H' ((S.trans s6).trans s') e'
abbrev ag6:Stmt:=top 41
theorem aB0:j4 ["table","column","whole_column"] ["table","column"] (c8 ag6):=by and_intros
def as0 (K:q0a):Sp:=λvs H Q _ => ∃ (a:Addr) (ts:List Addr) (M:List (List Rat)),vs=[.ref a]/\H a=some (.lst (ts.map V.ref))/\Rws H ts M/\(∀ L ∈ M,L.length=M.length)/\M.length<=8/\O9 H Q (W8 M M.length)
abbrev al0:Stmt:=top 38
theorem bc5:j4 ["table"] ["table"] (c8 al0):=by and_intros
theorem bd3 {f:Addr} (d:Df K mg "turned" al0 ["table"] f) (n_range:mg "range" = none) (n_len:mg "len" = none):Def P w K mg base CX0 1 "turned" f ["table"] (as0 K):=by
 refine d.ok (N:=["table"]) bc5 (by rintro vs H Q E ⟨_,_,_,h,_⟩;rw [h];rfl) (λcdv A outer s H vs Q E hr h=>?_)
 obtain ⟨a,ts,M,rfl,ha,hR,hM,hl,k⟩:=h;refine ⟨_,(d4 (j2 (ah0 (Nc:=["table","place"]) (caps:=[some 0,none]) rfl (ak0.of (osc:=c8 al0) (N:=["table"]) (ks:=["table"]) rfl rfl rfl rfl (j7 rfl k9) (by decide +kernel)) (E4 rfl n_range (b7 (i7 k6 rfl n_len (by decide +kernel) (b7 (pv 0) b8)) b8)) (λC s₂ H₂ fp pins=>(d5 (i:=1) (show z0q (["table","place"]:List Str) by decide +kernel) rfl (z0w rfl) (q0x rfl))) (λC s₂ H₂ fp pins=>(t9 (Nc:=["place","row"]) (caps:=[some 1,none]) rfl (G5.of (osc:=_) (N:=["table","place"]) (ks:=["place"]) rfl rfl rfl rfl (j7 rfl k9) (by kernel_rfl)) (show PI _ _ _ (am0 K _) from by exact (A5 (pv 0))) (λC s₂ H₂ fp pins=>(d5 (i:=1) (show z0q (["place","row"]:List Str) by decide +kernel) rfl (q0x rfl) (z0w rfl))) (λC s₂ H₂ fp pins=>(j6 (by exact j9:IxR _ (al1 K)) (pv 1) (pv 0) (λ_ _=>rfl)))))))),?_⟩
 rw [show start ["table"] [.ref a]=[some (.ref a)] from rfl]
 subst_eqs
 have hRl:=hR.length;refine ⟨_,.inl (SqL.of ha),by simp,by rw [q0e];lia,λD hD=>?_⟩
 refine O0 (λi σ H2 => ∃ o,σ=[some (.ref a),o]/\t7 H D ((W8 M M.length).take i) H2) ⟨_,rfl,t7.start hD⟩ ?_ ?_
 ·rintro i σ H2 hi ⟨o,rfl,T⟩
  subst_eqs
  have ha2:=T.same _ _ ha;have hi':i<M.length:=by rw [q0e] at hi;lia
  refine ⟨⟨_,SqL.of ha2⟩,λD2 hD2=>?_⟩;refine B9 (ts.map V.ref) (λj σ H3 => ∃ o,σ=[some (.int (0+i)),o]/\G8 H2 D2 ((ax0 M i).take j) H3) ⟨_,rfl,G8.start hD2⟩ (λj σ H3 _ ⟨_,_,R⟩=>SqL.of (R.same _ _ ha2)) ?_ ?_
  ·rintro j x σ H3 hx ⟨o,rfl,R⟩
   obtain ⟨t,ht,rfl⟩:=B7 hx;obtain ⟨xs,L,hL,et,nt⟩:=hR.get ht
   subst_eqs
   have hLl:L.length=M.length:=hM L (q0c hL);have hq:L[i]? = some L[i]:=q0d ⋯;obtain ⟨p,hp,ep⟩:=nt.get hq;have S:=T.same.trans R.same;refine ⟨xs,SqL.of (S _ _ et),_,by rw [q1m,v9];exact hp,?_⟩
   have hj:=(q0g.mp hx).1;obtain ⟨ys,eD,yl,R'⟩:=R.add hD2 (λb o h=>h) (S _ _ ep);refine t6.mk hj eD (w5 (by rw [yl,q0v,aj6];lia)) ⟨_,rfl,?_⟩
   rw [d7 (l:=ax0 M i) (x:=L[i]) (by unfold ax0;rw [q0m,hL];simp only [m0r,hq,Option.getD_some])]
   exact R'
  ·rintro σ H3 ⟨o,rfl,R⟩
   rw [t5 (by rw [q0e,aj6];lia)] at R
   obtain ⟨ys,eD,yl,T'⟩:=T.add hD hD2 R;refine t6.mk hi eD (w5 (by rw [yl,q0v,N8];lia)) ⟨_,rfl,?_⟩
   rw [d7 (aT0 hi')];exact T'
 ·rintro σ H2 ⟨o,rfl,T⟩
  rw [t5 (by rw [N8,q0e];lia)] at T
  exact T.res k hD
abbrev Q6:Stmt:=top 70
theorem ay5:j4 ["_law_table"] ["_law_table"] (c8 Q6):=by and_intros
theorem ay8 {f:Addr} (d:Df K mg "_law_flipped" Q6 ["_law_table"] f) (n_range:mg "range" = none) (n_len:mg "len" = none):Def P w K mg base CX0 1 "_law_flipped" f ["_law_table"] (as0 K):=by
 refine d.ok (N:=["_law_table"]) ay5 (by rintro vs H Q E ⟨_,_,_,h,_⟩;rw [h];rfl) (λcdv A outer s H vs Q E hr h=>?_)
 obtain ⟨a,ts,M,rfl,ha,hR,hM,hl,k⟩:=h;refine ⟨_,(d4 (j2 (ah0 (Nc:=["_law_table","_law_j"]) (caps:=[some 0,none]) rfl (ak0.of (osc:=c8 Q6) (N:=["_law_table"]) (ks:=["_law_table"]) rfl rfl rfl rfl (j7 rfl k9) (by decide +kernel)) (E4 rfl n_range (b7 (i7 k6 rfl n_len (by decide +kernel) (b7 (pv 0) b8)) b8)) (λC s₂ H₂ fp pins=>(d5 (i:=1) (show z0q (["_law_table","_law_j"]:List Str) by decide +kernel) rfl (z0w rfl) (q0x rfl))) (λC s₂ H₂ fp pins=>(t9 (Nc:=["_law_j","_law_row"]) (caps:=[some 1,none]) rfl (G5.of (osc:=_) (N:=["_law_table","_law_j"]) (ks:=["_law_j"]) rfl rfl rfl rfl (j7 rfl k9) (by kernel_rfl)) (show PI _ _ _ (am0 K _) from by exact (A5 (pv 0))) (λC s₂ H₂ fp pins=>(d5 (i:=1) (show z0q (["_law_j","_law_row"]:List Str) by decide +kernel) rfl (q0x rfl) (z0w rfl))) (λC s₂ H₂ fp pins=>(j6 (by exact j9:IxR _ (al1 K)) (pv 1) (pv 0) (λ_ _=>rfl)))))))),?_⟩
 rw [show start ["_law_table"] [.ref a]=[some (.ref a)] from rfl]
 subst_eqs
 have hRl:=hR.length;refine ⟨_,.inl (SqL.of ha),⋯,by rw [q0e];omega,λD hD=>?_⟩
 refine O0 (λi σ H2 => ∃ o,σ=[some (.ref a),o]/\t7 H D ((W8 M M.length).take i) H2) ⟨_,rfl,t7.start hD⟩ ?_ ?_
 ·rintro i σ H2 hi ⟨o,rfl,T⟩
  subst_eqs
  have ha2:=T.same _ _ ha;have hi':i<M.length:=by rw [q0e] at hi;omega
  refine ⟨⟨_,SqL.of ha2⟩,λD2 hD2=>?_⟩;refine B9 (ts.map V.ref) (λj σ H3 => ∃ o,σ=[some (.int (0+i)),o]/\G8 H2 D2 ((ax0 M i).take j) H3) ⟨_,rfl,G8.start hD2⟩ (λj σ H3 _ ⟨_,_,R⟩=>SqL.of (R.same _ _ ha2)) ?_ ?_
  ·rintro j x σ H3 hx ⟨o,rfl,R⟩
   obtain ⟨t,ht,rfl⟩:=B7 hx;obtain ⟨xs,L,hL,et,nt⟩:=hR.get ht
   subst_eqs
   have hLl:L.length=M.length:=hM L (q0c hL);have hq:L[i]? = some L[i]:=q0d ⋯;obtain ⟨p,hp,ep⟩:=nt.get hq;have S:=T.same.trans R.same;refine ⟨xs,SqL.of (S _ _ et),_,by rw [q1m,v9];exact hp,?_⟩
   have hj:=(q0g.mp hx).1;obtain ⟨ys,eD,yl,R'⟩:=R.add hD2 (λb o h=>h) (S _ _ ep);refine t6.mk hj eD (w5 (by rw [yl,q0v,aj6];omega)) ⟨_,rfl,?_⟩
   rw [d7 (l:=ax0 M i) (x:=L[i]) (by unfold ax0;rw [q0m,hL];simp only [m0r,hq,Option.getD_some])]
   exact R'
  ·rintro σ H3 ⟨o,rfl,R⟩
   rw [t5 (by rw [q0e,aj6];omega)] at R
   obtain ⟨ys,eD,yl,T'⟩:=T.add hD hD2 R;refine t6.mk hi eD (w5 (by rw [yl,q0v,N8];omega)) ⟨_,rfl,?_⟩
   rw [d7 (aT0 hi')];exact T'
 ·rintro σ H2 ⟨o,rfl,T⟩
  rw [t5 (by rw [N8,q0e];omega)] at T
  exact T.res k hD
def aY3:Sp:=λvs H Q _ => ∃ n:Nat,vs=[.int n]/\n<=8/\O9 H Q (P1 n)
def aU5 (K:q0a):Sp:=λvs H Q _ => ∃ n:Nat,vs=[.int n]/\n<=8/\bb2 K H Q (P1 n)
abbrev Z8:Stmt:=top 69
theorem aK9:j4 ["_law_n"] ["_law_n"] (c8 Z8):=by and_intros
theorem aN4 {f:Addr} (d:Df K mg "_law_unit" Z8 ["_law_n"] f) (n_range:mg "range" = none) (n_int:mg "int" = none):Def P w K mg base CX0 1 "_law_unit" f ["_law_n"] aY3:=by
 refine d.ok (N:=["_law_n"]) aK9 (by rintro vs H Q E ⟨_,h,_⟩;rw [h];rfl) (λcdv A outer s H vs Q E hr h=>?_)
 obtain ⟨n,rfl,hn,k⟩:=h;refine ⟨_,(d4 (j2 (ah0 (Nc:=["_law_n","_law_i"]) (caps:=[some 0,none]) rfl (ak0.of (osc:=c8 Z8) (N:=["_law_n"]) (ks:=["_law_n"]) rfl rfl rfl rfl (j7 rfl k9) (by decide +kernel)) (E4 rfl n_range (b7 (pv 0) b8)) (λC s₂ H₂ fp pins=>(d5 (i:=1) (show z0q (["_law_n","_law_i"]:List Str) by decide +kernel) rfl (z0w rfl) (q0x rfl))) (λC s₂ H₂ fp pins=>(t9 (Nc:=["_law_i","_law_j"]) (caps:=[some 1,none]) rfl (G5.of (osc:=_) (N:=["_law_n","_law_i"]) (ks:=["_law_i"]) rfl rfl rfl rfl (j7 rfl k9) (by kernel_rfl)) (E4 rfl n_range (b7 (pv 0) b8)) (λC s₂ H₂ fp pins=>(d5 (i:=1) (show z0q (["_law_i","_law_j"]:List Str) by decide +kernel) rfl (q0x rfl) (z0w rfl))) (λC s₂ H₂ fp pins=>(m6 (b7 (C8 M0 rfl n_int (by decide +kernel) (b7 (G3 Q3 (pv 0) (pv 1) (j8 _)) b8)) (b7 b9 b8))))))))),?_⟩
 rw [show start ["_law_n"] [.int n]=[some (.int n)] from rfl]
 subst_eqs
 refine ⟨by simp,⋯,λD hD=>?_⟩
 refine O0 (λi σ H2 => ∃ o,σ=[some (.int n),o]/\t7 H D ((P1 n).take i) H2) ⟨_,rfl,t7.start hD⟩ ?_ ?_
 ·rintro i σ H2 hi ⟨o,rfl,T⟩
  subst_eqs
  have hi':i<n:=by lia
  refine ⟨by simp,by lia,λD2 hD2=>?_⟩
  refine O0 (λj σ H3 => ∃ o,σ=[some (.int (0+i)),o]/\G8 H2 D2 (((z0r n).map λj=>if i=j then (1:Rat) else 0).take j) H3) ⟨_,rfl,G8.start hD2⟩ ?_ ?_
  ·rintro j σ H3 hj ⟨o,rfl,R⟩
   have hj':j<n:=by lia
   subst_eqs
   refine ⟨rfl,t8,λp hp=>?_⟩
   have e:upd H3 p (HO.tup [V.int (if (0:Int) + ↑i=0 + ↑j then 1 else 0),V.int 1]) p=some (.tup (E8 (if i=j then (1:Rat) else 0))):=by
    rw [c6]
    by_cases h:i=j
    ·rw [if_pos (by lia),if_pos h];rfl
    ·rw [if_neg (by lia),if_neg h];rfl
   obtain ⟨ys,eD,yl,R'⟩:=R.add hD2 (c9.new hp _) e;refine t6.mk hj eD (w5 (by rw [yl,q0v];lia)) ⟨_,rfl,?_⟩
   rw [d7 (l:=(z0r n).map λj=>if i=j then (1:Rat) else 0) (x:=if i=j then (1:Rat) else 0) (by rw [q0m,ac0 hj'];rfl)]
   exact R'
  ·rintro σ H3 ⟨o,rfl,R⟩
   rw [t5 (by simp)] at R
   obtain ⟨ys,eD,yl,T'⟩:=T.add hD hD2 R;refine t6.mk hi eD (w5 (by rw [yl,q0v];lia)) ⟨_,rfl,?_⟩
   rw [d7 (aP8 hi')];exact T'
 ·rintro σ H2 ⟨o,rfl,T⟩
  rw [t5 (by simp [P1])] at T
  exact T.res k hD
abbrev aB3:Stmt:=top 35
theorem bo4:j4 ["n"] ["n"] (c8 aB3):=by and_intros
theorem bp7 {f aN aO:Addr} (d:Df K mg "unit" aB3 ["n"] f) (n_range:mg "range" = none) (c_ONE:mg "ONE" = some (.ref aO)) (tO:∀ H,SqT K H aO (E8 1)) (c_NOUGHT:mg "NOUGHT" = some (.ref aN)) (tN:∀ H,SqT K H aN (E8 0)):Def P w K mg base CX0 1 "unit" f ["n"] (aU5 K):=by
 refine d.ok (N:=["n"]) bo4 (by rintro vs H Q E ⟨_,h,_⟩;rw [h];rfl) (λcdv A outer s H vs Q E hr h=>?_)
 obtain ⟨n,rfl,hn,k⟩:=h;refine ⟨_,(d4 (j2 (ah0 (Nc:=["n","row"]) (caps:=[some 0,none]) rfl (ak0.of (osc:=c8 aB3) (N:=["n"]) (ks:=["n"]) rfl rfl rfl rfl (j7 rfl k9) (by decide +kernel)) (E4 rfl n_range (b7 (pv 0) b8)) (λC s₂ H₂ fp pins=>(d5 (i:=1) (show z0q (["n","row"]:List Str) by decide +kernel) rfl (z0w rfl) (q0x rfl))) (λC s₂ H₂ fp pins=>(t9 (Nc:=["row","column"]) (caps:=[some 1,none]) rfl (G5.of (osc:=_) (N:=["n","row"]) (ks:=["row"]) rfl rfl rfl rfl (j7 rfl k9) (by kernel_rfl)) (E4 rfl n_range (b7 (pv 0) b8)) (λC s₂ H₂ fp pins=>(d5 (i:=1) (show z0q (["row","column"]:List Str) by decide +kernel) rfl (q0x rfl) (z0w rfl))) (λC s₂ H₂ fp pins=>(ag9 (l9 Q3 (pv 0) (pv 1) (j8 _)) (F8 (v:=.ref _) rfl c_ONE rfl) (F8 (v:=.ref _) rfl c_NOUGHT rfl)))))))),?_⟩
 rw [show start ["n"] [.int n]=[some (.int n)] from rfl]
 subst_eqs
 refine ⟨⋯,⋯,λD hD=>?_⟩;refine O0 (λi σ H2 => ∃ o,σ=[some (.int n),o]/\az6 K H D ((P1 n).take i) H2) ⟨_,rfl,az6.start hD⟩ ?_ ?_
 ·rintro i σ H2 hi ⟨o,rfl,T⟩
  subst_eqs
  have hi':i<n:=⋯;refine ⟨⋯,⋯,λD2 hD2=>?_⟩;refine O0 (λj σ H3 => ∃ o,σ=[some (.int (0+i)),o]/\aG2 K H2 D2 (((z0r n).map λj=>if i=j then (1:Rat) else 0).take j) H3) ⟨_,rfl,aG2.start hD2⟩ ?_ ?_
  ·rintro j σ H3 hj ⟨o,rfl,R⟩
   have hj':j<n:=⋯
   subst_eqs
   have hg:((z0r n).map λj=>if i=j then (1:Rat) else 0)[j]? = some (if i=j then (1:Rat) else 0):=by rw [q0m,ac0 hj'];rfl
   refine ⟨rfl,F2 (λh=>?_) (λh=>?_)⟩
   ·rw [if_pos (show i=j by lia)] at hg
    obtain ⟨ys,eD,yl,R'⟩:=R.add hD2 (λb o h=>h) (.inr tO);refine t6.mk hj eD (w5 (by rw [yl,q0v];lia)) ⟨_,rfl,?_⟩
    rw [d7 hg];exact R'
   ·rw [if_neg (show ¬ i=j by lia)] at hg
    obtain ⟨ys,eD,yl,R'⟩:=R.add hD2 (λb o h=>h) (.inr tN);refine t6.mk hj eD (w5 (by rw [yl,q0v];omega)) ⟨_,rfl,?_⟩
    rw [d7 hg];exact R'
  ·rintro σ H3 ⟨o,rfl,R⟩
   rw [t5 (by simp)] at R
   obtain ⟨ys,eD,yl,T'⟩:=T.add hD hD2 R;refine t6.mk hi eD (w5 (by rw [yl,q0v];omega)) ⟨_,rfl,?_⟩
   rw [d7 (aP8 hi')];exact T'
 ·rintro σ H2 ⟨o,rfl,T⟩
  rw [t5 (by simp [P1])] at T
  exact T.res k hD
end
def hc (a:Nat->Rat) (i j:Nat):Rat:=if (i+j) % 2=1 then a i*a j else 0
def hf (a:Nat->Rat):Nat->Nat->Rat
 | 0,j=>hc a 0 (j+1)
 | i+1,j=>hc a (i+1) (j+1)-hf a i (j+1)
def pw (x:Rat):Nat->Rat
 | 0=>1
 | i+1=>pw x i*x
theorem C7 (c:Rat) (f:Nat->Rat):∀ n,c*m8 f n=m8 (λi=>c*f i) n
 | 0=>by simp [m8]
 | n+1=>by rw [m8,m8,<- C7 c f n];grind
theorem R6 (f g:Nat->Rat):∀ n,m8 f n+m8 g n=m8 (λi=>f i+g i) n
 | 0=>by simp [m8];grind
 | n+1=>by rw [m8,m8,m8,<- R6 f g n];grind
def hR (a:Nat->Rat) (n i:Nat) (y:Rat):Rat:=m8 (λj=>hf a i j*pw y j) n
def hC (a:Nat->Rat) (n i:Nat) (y:Rat):Rat:=m8 (λj=>hc a i j*pw y j) (n+1)
def sg (i:Nat):Rat:=if i % 2=0 then 1 else -1
def OvB (B W:Nat) (q:Rat):Prop:=∃ v:Int,q=q0z v B/\v.natAbs<2 ^ W
theorem OvB.mono {B V W:Nat} {q:Rat} (h:OvB B V q) (l:V<=W):OvB B W q:=let ⟨v,e,b⟩:=h;⟨v,e,q0b b (i6 l)⟩
theorem OvB.zero (B W:Nat):OvB B W 0:=⟨0,by rw [Rat.zero_divInt],v0g _⟩
theorem bi8 {W:Nat} {qs:List Rat} (h:ClN W qs) {q:Rat} (hq:q ∈ qs):OvB (n9 qs) W q :=
 ⟨_,ar6 (M7 qs) (ac3 hq),h.w _ (z0e.mpr ⟨q,hq,rfl⟩)⟩
theorem OvB.mul {B C V W:Nat} {p q:Rat} (h:OvB B V p) (k:OvB C W q):OvB (B*C) (V+W) (p*q):=by
 obtain ⟨v,rfl,b⟩:=h;obtain ⟨u,rfl,c⟩:=k;refine ⟨v*u,by rw [y0a,j0t],?_⟩
 rw [z0k,z0f];exact z0g b c
theorem OvB.neg {B W:Nat} {q:Rat} (h:OvB B W q):OvB B W (-q):=by
 obtain ⟨v,rfl,b⟩:=h;exact ⟨-v,by rw [Rat.neg_divInt],by rw [v0n];exact b⟩
theorem OvB.add {B W:Nat} (hB:0<B) {p q:Rat} (h:OvB B W p) (k:OvB B W q):OvB B (W+1) (p+q):=by
 obtain ⟨v,rfl,b⟩:=h;obtain ⟨u,rfl,c⟩:=k;refine ⟨v+u,?_,?_⟩
 ·have hz:(B:Int) ≠ 0:=by lia
  rw [m0w _ _ hz hz];refine (y0s (g0p hz hz) hz).mpr ?_
  grind
 ·have:=m0a v u
  rw [v0r];lia
theorem OvB.sub {B W:Nat} (hB:0<B) {p q:Rat} (h:OvB B W p) (k:OvB B W q):OvB B (W+1) (p-q):=by
 rw [show p-q=p + -q by grind]
 exact h.add hB k.neg
theorem OvB.bdN {B W:Nat} (hB:0<B) (hW:B<2 ^ W) {q:Rat} (h:OvB B W q):BdN W q:=by
 obtain ⟨v,rfl,b⟩:=h;have:=N9 (t:=v) (b:=(B:Int)) (by lia)
 rw [q0w] at this;exact ⟨q0p this.1 b,q0p this.2 hW⟩
theorem bf0 (x y:Rat) (p q:List Rat):G9 (x :: p) (y :: q)=x*y+G9 p q:=by
 unfold G9;rw [u0y,y0r,aw7];grind
theorem an7 {B C V W:Nat} (hB:0<B) (hC:0<C):∀ {p q:List Rat},(∀ x ∈ p,OvB B V x)->(∀ x ∈ q,OvB C W x)->OvB (B*C) (V+W+p.length) (G9 p q)
 | [],q,_,_=>by simp only [G9,List.zipWith_nil_left,List.foldl_nil];exact OvB.zero _ _
 | x :: p,[],_,_=>by simp only [G9,List.zipWith_nil_right,List.foldl_nil];exact OvB.zero _ _
 | x :: p,y :: q,h,k=>by
  rw [bf0];have ih:=an7 hB hC (p:=p) (q:=q) (λa ha=>h a (q0u _ ha)) (λa ha=>k a (q0u _ ha));have h1:=(h x z0c).mul (k y z0c);exact ((h1.mono (by simp)).add (j0a hB hC) ih).mono (by rw [j0m];lia)
theorem aN0 {B C V W n:Nat} (hB:0<B) (hC:0<C) {p q:List Rat} (hp:∀ x ∈ p,OvB B V x) (hq:∀ x ∈ q,OvB C W x) (hl:p.length<=n) (i:Nat):OvB (B*C) (V+W+n) (G9 (p.take i) (q.take i)) :=
 (an7 hB hC (λx hx=>hp x (j0w hx)) (λx hx=>hq x (j0w hx))).mono (by rw [q0v];lia)
theorem aO6 {α:Type} {xs:List α} {x:α} (h:xs[xs.length-1]? = some x):atI xs (-1)=some x:=by
 have hp:xs.length-1<xs.length:=(q0g.mp h).1
 have e:ixN xs.length (-1)=some (xs.length-1):=by
  unfold ixN;rw [if_neg (by decide)]
  rw [if_pos (by lia)]
  congr 1
  lia
 unfold atI;rw [e];exact h
def aQ (qs:List Rat) (k:Nat):Rat:=(qs[k]?).getD 0
def aZ (ws:List Int) (k:Nat):Int:=(ws[k]?).getD 0
theorem bz0 (s:Rat) (ws:List Int):aQ (scl s ws)=λk=>s*(aZ ws k:Rat):=by
 funext k
 unfold aQ aZ scl;rw [q0m]
 cases ws[k]? with
 | none=>simp [v0s]
 | some v=>simp
theorem aT5 {ws:List Int} {W:Nat} (h:∀ v ∈ ws,j0y v<2 ^ W):∀ k,(aZ ws k).natAbs<2 ^ W:=λk=>by
 unfold aZ
 cases q:ws[k]? with
 | none=>exact v0g _
 | some v=>exact h v (q0c q)
def bu8:List D->Bool
 | [.v (.int _),.v (.int _),.v (.int _)]=>true
 | _=>false
mutual
def noW:D->Bool
 | .v _=>true
 | .tup ds=>bw7 ds
 | .lst ds => !bu8 ds && bw7 ds
def bw7:List D->Bool
 | []=>true
 | d :: ds=>noW d && bw7 ds
end
mutual
def smD (m:Nat):D->Prop
 | .v (.int i)=>i.natAbs<2 ^ m
 | .v _=>True
 | .tup ds=>bv3 m ds
 | .lst ds=>bv3 m ds
def bv3 (m:Nat):List D->Prop
 | []=>True
 | d :: ds=>smD m d/\bv3 m ds
end
def Y0 (p q:Rat):Bool:=decide (p.num*(q.den:Int)<q.num*(p.den:Int))
structure IsBox (B:List (Rat × Rat)):Prop where
 l2:2<=B.length
 l8:B.length<=8
 le:∀ s ∈ B,s.1<=s.2
 last:∀ s,B[B.length-1]? = some s->0<s.1
def zs (t b a:Int):List Int->List Int
 | []=>[b*a]
 | x :: r=>(b*a+t*x) :: zs t b x r
structure MidN (n:Nat) (R:List Rat):Prop where
 ex:∃ (B:Nat) (ws:List Int),0<B/\B<2 ^ (40*n+1)/\R=scl (q0z 1 B) ws/\∀ v ∈ ws,j0y v<2 ^ (41*n+1)
 len:R.length=n+1
 last:R[n]? = some 1
inductive bm9 (H:Hp):List V->List (Rat × Rat)->Prop where
 | nil:bm9 H [] []
 | cons {p a b:Addr} {s:Rat × Rat} {vs:List V} {B:List (Rat × Rat)} (h:H p=some (.tup [.ref a,.ref b])) (ha:H a=some (.tup (E8 s.1))) (hb:H b=some (.tup (E8 s.2))) (t:bm9 H vs B):bm9 H (.ref p :: vs) (s :: B)
theorem aa5 {n k:Nat} (h:k<n):ixN n (k:Int)=some k:=by
 unfold ixN;rw [if_pos (by simp)]
 simp;omega
def ad3 (a b:Str):D:=.tup [.v (.str a),.v (.str b)]
theorem aD4 (a b:Str):eqD (ad3 a b) (ad3 a b)=true:=by simp [ad3,eqD,Q9,eqV]
theorem aC4 (a b c d:Str):okD (ad3 a b) (ad3 c d)=true:=by simp [ad3,okD,ah1]
theorem aP2 (a b:Str):dpD (ad3 a b)<=60:=by simp [ad3,dpD,am4]
theorem ah5 {K:q0a} {H:Hp} {p:Addr} {a b:Str} (h:SqT K H p [.str a,.str b]):IsD K H (.ref p) (ad3 a b):=.tup h (.cons (.v rfl) (.cons (.v rfl) .nil))
structure TbX (u:Addr) (H:Hp) (a:Addr) (ts:List Addr) (M:List (List Rat)):Prop where
 au:a ≠ u
 tu:∀ t ∈ ts,t ≠ u
 at':H a=some (.lst (ts.map V.ref))
 rws:Rws H ts M
theorem TbX.made {u r:Addr} {H H':Hp} {ts:List Addr} {M:List (List Rat)} (hu:y9 H u) (fr:H r=none) (ft:∀ t ∈ ts,H t=none/\t ≠ r) (e:H' r=some (.lst (ts.map V.ref))) (R:Rws H' ts M):TbX u H' r ts M:=⟨E1 hu fr,λt ht=>E1 hu (ft t ht).1,e,R⟩
structure LsX (u:Addr) (H:Hp) (a:Addr) (xs:List V) (qs:List Rat):Prop where
 au:a ≠ u
 at':H a=some (.lst xs)
 nums:C9 H xs qs
theorem LsX.samex {u a:Addr} {H H':Hp} {xs:List V} {qs:List Rat} (t:LsX u H a xs qs) (s:A0 u H H') (hu:y9 H u):LsX u H' a xs qs:=⟨t.au,s _ _ t.at' t.au,t.nums.mono (s.tups hu)⟩
theorem LsX.same {u a:Addr} {H H':Hp} {xs:List V} {qs:List Rat} (t:LsX u H a xs qs) (s:c9 H H'):LsX u H' a xs qs:=⟨t.au,s _ _ t.at',t.nums.mono s.tups⟩
theorem bm1 {p q:List Rat} (h:p.length=q.length) (x y:Rat):G9 (p ++ [x]) (q ++ [y])=G9 p q+x*y:=by
 unfold G9;rw [q1d h,List.foldl_append];rfl
theorem aI3 (f g:Nat->Rat):∀ n,G9 ((z0r n).map f) ((z0r n).map g)=m8 (λi=>f i*g i) n
 | 0=>rfl
 | n+1=>by
  rw [List.range_succ,y0t,y0t];simp only [j0d,q1g];rw [bm1 (by simp),aI3 f g n];rfl
theorem aJ0 {α:Type} [Add α]:∀ (f:List α) (k:Nat) (x v:α),v ∈ af4 f k x->v ∈ f \/ ∃ y ∈ f,v=y+x
 | [],_,_,_,h=>by cases h
 | y :: r,0,x,v,h=>by
  rcases z0m.mp h with z | z
  ·exact .inr ⟨y,z0c,z⟩
  ·exact .inl (q0u _ z)
 | y :: r,k+1,x,v,h=>by
  rcases z0m.mp h with z | z
  ·exact .inl (by rw [z];exact z0c)
  ·rcases aJ0 r k x v z with w | ⟨u,hu,e⟩
   ·exact .inl (q0u _ w)
   ·exact .inr ⟨u,q0u _ hu,e⟩
theorem bf8 {B W:Nat} (hB:0<B) {f:List Rat} {k:Nat} {x:Rat} (hf:∀ v ∈ f,OvB B W v) (hx:OvB B W x):∀ v ∈ af4 f k x,OvB B (W+1) v:=λv hv=>by
 rcases aJ0 f k x v hv with h | ⟨y,hy,rfl⟩
 ·exact (hf v h).mono (by simp)
 ·exact (hf y hy).add hB hx
def cv (f g:Nat->Rat) (k:Nat):Rat:=m8 (λi=>f i*g (k-i)) (k+1)
theorem bs7 (p q:List Rat) (k:Nat):aQ (Q8 p q) k=cv (aQ p) (aQ q) k:=by
 by_cases hp:p=[]
 ·subst hp
  have:Q8 [] q=[]:=by unfold Q8;rw [if_pos (.inl rfl)]
  rw [this]
  symm
  exact Y3 _ λi _=>by show (0:Rat)*_=0;grind
 by_cases hq:q=[]
 ·subst hq
  have:Q8 p []=[]:=by unfold Q8;rw [if_pos (.inr rfl)]
  rw [this]
  symm
  exact Y3 _ λi _=>by show _*(0:Rat)=0;grind
 by_cases hk:k<p.length+q.length-1
 ·have:=aC8 hp hq hk
  unfold aQ;rw [this];rfl
 ·have h1:aQ (Q8 p q) k=0:=by
   unfold aQ;rw [z0p (by rw [at8 hp hq];omega)];rfl
  rw [h1]
  symm
  refine Y3 _ λi hi=>?_
  by_cases h2:i<p.length
  ·have:aQ q (k-i)=0:=by unfold aQ;rw [z0p (by lia)];rfl
   rw [this];grind
  ·have:aQ p i=0:=by unfold aQ;rw [z0p (by exact Nat.not_lt.mp ‹_›)];rfl
   rw [this];grind
theorem R0 (g:Nat->Rat) (t:Nat):∀ n,m8 (λi=>if i=t then g i else 0) n=if t<n then g t else 0
 | 0=>by rw [if_neg (by simp)];rfl
 | n+1=>by
  rw [m8,R0 g t n]
  by_cases h:t<n
  ·rw [if_pos h,if_neg (by lia),if_pos (by exact Nat.lt_succ_of_lt ‹_›)];grind
  ·by_cases h2:n=t
   ·rw [if_neg h,if_pos h2,if_pos (by lia),h2];grind
   ·rw [if_neg h,if_neg h2,if_neg (by lia)];grind
structure IsTz (ws:List Int) (m:Nat):Prop where
 le:m<=ws.length
 zero:∀ i v,m<=i->ws[i]? = some v->v=0
 last:m ≠ 0->∀ v,ws[m-1]? = some v->v ≠ 0
theorem OvB.up {B W:Nat} {q:Rat} (h:OvB B W q) (hB:0<B) {C c:Nat} (hC:0<C) (hc:C<2 ^ c):OvB (B*C) (W+c) q:=by
 obtain ⟨v,rfl,b⟩:=h;refine ⟨v*C,?_,?_⟩
 ·rw [j0t]
  refine (y0s (by lia) (g0p ⋯ (by lia))).mpr ?_
  grind
 ·rw [z0k,q0w,z0f]
  exact z0g b hc
theorem ah7 {B W:Nat} (hB:0<B) (hW:B<2 ^ W) {qs:List Rat} (h:∀ x ∈ qs,OvB B W x):ClN W qs:=by
 have:∃ vs:List Int,qs=scl (q0z 1 B) vs/\∀ v ∈ vs,j0y v<2 ^ W:=by
  induction qs with
  | nil=>exact ⟨[],rfl,by simp⟩
  | cons q qs ih =>
   obtain ⟨vs,e,hv⟩:=ih λx hx=>h x (q0u _ hx);obtain ⟨v,e2,b⟩:=h q z0c;refine ⟨v :: vs,?_,λu hu=>?_⟩
   ·rw [e]
    show q :: _=(q0z 1 B*(v:Rat)) :: _;rw [al5,<- e2];rfl
   ·rcases z0m.mp hu with z | z
    ·rw [z];exact b
    ·exact hv u z
 obtain ⟨vs,rfl,hv⟩:=this;exact bf2 hB hW hv
theorem bx2 {qs:List Rat} {x:Rat} (h:x ∈ qs):∃ k,k<qs.length/\x=aQ qs k:=by
 obtain ⟨k,hk⟩:=j0b.mp h;refine ⟨k,(q0g.mp hk).1,?_⟩;unfold aQ;rw [hk];rfl
theorem bm7 {qs:List Rat} {P:Rat->Prop} (h0:P 0) (h:∀ x ∈ qs,P x) (k:Nat):P (aQ qs k):=by
 unfold aQ
 cases e:qs[k]? with
 | none=>exact h0
 | some v=>exact h v (q0c e)
def bB6 (u:Addr) (H:Hp) (v:V) (ps qs:List Rat):Prop:=v=.non \/ ∃ td l1 l2 zs1 zs2 g0 g1,v=.ref td/\td ≠ u/\H td=some (.tup [.ref l1,.ref l2])/\LsX u H l1 zs1 g0/\LsX u H l2 zs2 g1/\ad8 g0 g0.length/\ad8 g1 g1.length/\g1.length<qs.length/\∀ k,aQ ps k=cv (aQ qs) (aQ g0) k+aQ g1 k
structure PairOk (u:Addr) (H:Hp) (ap aq:Addr) (due:V) (xs ys:List V) (ps qs:List Rat) (S W1 W2:Nat):Prop where
 lp:LsX u H ap xs ps
 lq:LsX u H aq ys qs
 tp:ad8 ps ps.length
 tq:ad8 qs qs.length
 q0:qs ≠ []
 c1:ClN W1 ps
 c2:ClN W2 qs
 w1:1<=W1
 w2:1<=W2
 w3:W2<=690
 t:W1+S*(W2+1)+W2<=2300
 s:ps.length+1<=qs.length+S
 pl:ps.length<=16
 ql:qs.length<=16
 due:bB6 u H due ps qs
def dl:Nat->Rat:=λk=>if k=0 then 1 else 0
theorem aM8 {B W:Nat} (hB:0<B) {f:Nat->Rat} (h:∀ i,OvB B W (f i)):∀ n,OvB B (W+n) (m8 f n)
 | 0=>OvB.zero _ _
 | n+1=>((aM8 hB h n).add hB ((h n).mono (by simp))).mono (by lia)
theorem bq3 {B C V W:Nat} (hB:0<B) (hC:0<C) {p q:List Rat} (hp:∀ x ∈ p,OvB B V x) (hq:∀ x ∈ q,OvB C W x):∀ x ∈ Q8 p q,OvB (B*C) (V+W+q.length) x:=λx hx=>by
 obtain ⟨k,hk,rfl⟩:=bx2 hx;rw [bd7,bs7];unfold cv
 have hf:∀ i,OvB (B*C) (V+W) (aQ q i*aQ p (k-i)):=λi=>by
  have h1:=bm7 (P:=OvB C W) (OvB.zero _ _) hq i;have h2:=bm7 (P:=OvB B V) (OvB.zero _ _) hp (k-i);have:=h1.mul h2;rw [v0z C B,m0e W V] at this;exact this
 by_cases h:q.length<=k+1
 ·rw [ah8 h λi h1 _=>by
   have:aQ q i=0:=by unfold aQ;rw [z0p ⋯];rfl
   rw [this];grind]
  exact aM8 (j0a hB hC) hf _
 ·exact (aM8 (j0a hB hC) hf _).mono (by lia)
def Dg (f:Nat->Rat) (n:Nat):Prop:=∀ k,n<=k->f k=0
structure Eu (p q A B:Nat->Rat) (lp lq la lb:Nat):Prop where
 inv:∀ m,m<la->∀ u v,Dg u (lq-m)->Dg v (lp-m)->Dg (λk=>cv u p k+cv v q k) m ->
  ∃ a b,(∀ k,cv u p k+cv v q k=cv a A k+cv b B k)/\Dg a (lb-m)/\Dg b (la-m)/\((∀ k,a k=0)->(∀ k,b k=0)->∀ k,u k=0/\v k=0)
 le:la<=max lp lq
def sgd (i:Nat):Rat:=if i % 2=0 then 1 else -1
theorem aA8 (i:Nat):sgd (i+1)=- sgd i:=by
 unfold sgd;rcases Nat.mod_two_eq_zero_or_one i with h | h
 ·rw [if_pos h,if_neg ⋯]
 ·rw [if_pos (show (i+1) % 2=0 by lia),if_neg (show ¬ i % 2=0 by lia)];grind
abbrev Mt:=Nat->Nat->Rat
def mn (M:Mt) (i:Nat):Mt:=λr c=>M (if r<i then r else r+1) (c+1)
def dt:Nat->Mt->Rat
 | 0,_=>1
 | n+1,M=>m8 (λi=>sgd i*M i 0*dt n (mn M i)) (n+1)
theorem K9 (n:Nat) (M:Mt):dt (n+1) M=m8 (λi=>sgd i*M i 0*dt n (mn M i)) (n+1):=rfl
theorem K8:∀ {n:Nat} {M N:Mt},(∀ r,r<n->∀ c,c<n->M r c=N r c)->dt n M=dt n N
 | 0,_,_,_=>rfl
 | n+1,M,N,h=>by
  rw [K9,K9];refine j5 λi hi=>?_;rw [h i hi 0 (by simp),K8 (n:=n) (M:=mn M i) (N:=mn N i) λr hr c hc=>h _ (by split <;> lia) _ (by lia)]
def setR (M:Mt) (r:Nat) (v:Nat->Rat):Mt:=λi c=>if i=r then v c else M i c
theorem ac5 (M:Mt) (r:Nat):setR M r (M r)=M:=by
 funext i c
 unfold setR
 split
 ·rename_i h;rw [h]
 ·rfl
theorem al9 (M:Mt) (r:Nat) (v:Nat->Rat):mn (setR M r v) r=mn M r:=by
 funext i c
 unfold mn setR;rw [if_neg (by split <;> lia)]
theorem aw0 (M:Mt) {r i:Nat} (v:Nat->Rat) (h:r<i):mn (setR M r v) i=setR (mn M i) r (λc=>v (c+1)):=by
 funext a c
 unfold mn setR
 by_cases z:a=r
 ·rw [if_pos z,if_pos (by rw [z,if_pos h])]
 ·rw [if_neg z,if_neg (by split <;> lia)]
theorem aw1 (M:Mt) {r i:Nat} (v:Nat->Rat) (h:i<r):mn (setR M r v) i=setR (mn M i) (r-1) (λc=>v (c+1)):=by
 funext a c
 unfold mn setR
 by_cases z:a=r-1
 ·rw [if_pos z,if_pos (by rw [z,if_neg (by lia)];lia)]
 ·rw [if_neg z,if_neg (by split <;> lia)]
theorem am3:∀ {n:Nat} (M:Mt) {r:Nat} (a b:Rat) (v w:Nat->Rat),r<n->dt n (setR M r λc=>a*v c+b*w c)=a*dt n (setR M r v)+b*dt n (setR M r w)
 | 0,_,_,_,_,_,_,h=>⋯
 | n+1,M,r,a,b,v,w,h=>by
  rw [K9,K9,K9,C7,C7,R6];refine j5 λi hi=>?_;rcases Nat.lt_trichotomy r i with z | z | z
  ·rw [aw0 M _ z,aw0 M _ z,aw0 M _ z,am3 (mn M i) a b _ _ (by lia)]
   have:∀ u:Nat->Rat,setR M r u i 0=M i 0:=λu=>if_neg (by lia)
   rw [this,this,this];grind
  ·subst z
   rw [al9,al9,al9];have:∀ u:Nat->Rat,setR M r u r 0=u 0:=λu=>if_pos rfl;rw [this,this,this];grind
  ·rw [aw1 M _ z,aw1 M _ z,aw1 M _ z,am3 (mn M i) a b _ _ (by lia)]
   have:∀ u:Nat->Rat,setR M r u i 0=M i 0:=λu=>if_neg (by lia)
   rw [this,this,this];grind
theorem bo1 {f:Nat->Rat} {n r:Nat} (hr:r+1<n) (h:∀ i,i<n->i ≠ r->i ≠ r+1->f i=0):m8 f n=f r+f (r+1):=by
 have:m8 f n=m8 (λi=>(if i=r then f r else 0)+(if i=r+1 then f (r+1) else 0)) n:=j5 λi hi=>by
  by_cases z:i=r
  ·rw [if_pos z,if_neg (by lia),z];grind
  ·by_cases y:i=r+1
   ·rw [if_neg z,if_pos y,y];grind
   ·rw [if_neg z,if_neg y,h i hi z y];grind
 rw [this,<- R6,R0 (λ_=>f r),R0 (λ_=>f (r+1)),if_pos (by exact Nat.le_of_lt ‹_›),if_pos hr]
theorem aP1:∀ {n:Nat} {M:Mt} {r:Nat},r+1<n->(∀ c,M r c=M (r+1) c)->dt n M=0
 | 0,_,_,h,_=>by lia
 | n+1,M,r,h,e=>by
  rw [K9];rw [bo1 h λi hi h1 h2=>?_]
  ·have:mn M r=mn M (r+1):=by
    funext a c
    unfold mn
    by_cases z:a=r
    ·rw [if_neg (by lia),if_pos (by lia),z,e]
    ·by_cases y:a<r
     ·rw [if_pos y,if_pos ⋯]
     ·rw [if_neg y,if_neg (by lia)]
   rw [this,aA8,e 0];grind
  ·have:dt n (mn M i)=0:=by
    by_cases z:i<r
    ·refine aP1 (r:=r-1) (by lia) λc=>?_
     unfold mn;rw [if_neg (by lia),if_neg (by lia),show r-1+1=r by lia];exact e _
    ·refine aP1 (r:=r) (by lia) λc=>?_
     unfold mn;rw [if_pos (by lia),if_pos (by lia)];exact e _
   rw [this];grind
def swR (M:Mt) (r s:Nat):Mt:=λi c=>M (if i=r then s else if i=s then r else i) c
theorem set_comm (M:Mt) {r s:Nat} (h:r ≠ s) (v w:Nat->Rat):setR (setR M r v) s w=setR (setR M s w) r v:=by
 funext i c
 unfold setR
 by_cases z:i=s
 ·rw [if_pos z,if_neg (by lia),if_pos z]
 ·rw [if_neg z]
  by_cases y:i=r
  ·rw [if_pos y,if_pos y]
  ·rw [if_neg y,if_neg y,if_neg z]
theorem bl9 {n:Nat} (M:Mt) {r:Nat} (v w:Nat->Rat) (h:r<n):dt n (setR M r λc=>v c+w c)=dt n (setR M r v)+dt n (setR M r w):=by
 have:=am3 M 1 1 v w h;rw [show (λc=>v c+w c)=λc=>1*v c+1*w c by funext c;grind,this];grind
theorem br4 {n:Nat} {M:Mt} {r:Nat} (h:r+1<n):dt n (swR M r (r+1))=- dt n M:=by
 have e0:∀ v:Nat->Rat,dt n (setR (setR M r v) (r+1) v)=0:=λv=>aP1 h λc=>by
  unfold setR;rw [if_neg (by simp),if_pos rfl,if_pos rfl]
 have e1:=e0 λc=>M r c+M (r+1) c
 have x1:∀ w:Nat->Rat,dt n (setR (setR M r λc=>M r c+M (r+1) c) (r+1) w)=dt n (setR (setR M (r+1) w) r (M r))+dt n (setR (setR M (r+1) w) r (M (r+1))):=λw=>by
  rw [set_comm _ ⋯,bl9 _ _ _ ⋯]
 rw [bl9 _ _ _ h,x1,x1] at e1;rw [show setR (setR M (r+1) (M r)) r (M r)=setR (setR M r (M r)) (r+1) (M r) from set_comm _ (by simp) _ _,e0] at e1
 rw [show setR (setR M (r+1) (M (r+1))) r (M (r+1))=setR (setR M r (M (r+1))) (r+1) (M (r+1)) from set_comm _ ⋯ _ _,e0] at e1;have s1:setR (setR M (r+1) (M (r+1))) r (M r)=M:=by rw [ac5,ac5]
 have s2:setR (setR M (r+1) (M r)) r (M (r+1))=swR M r (r+1):=by
  funext i c
  unfold setR swR
  by_cases z:i=r
  ·rw [if_pos z,if_pos z]
  ·rw [if_neg z,if_neg z]
   by_cases y:i=r+1
   ·rw [if_pos y,if_pos y]
   ·rw [if_neg y,if_neg y]
 rw [s1,s2] at e1
 grind
theorem aE0 {n:Nat}:∀ (d:Nat) {M:Mt} {r:Nat},r+d+1<n->(∀ c,M r c=M (r+d+1) c)->dt n M=0
 | 0,_,_,h,e=>aP1 h e
 | d+1,M,r,h,e=>by
  have h1:=br4 (M:=M) (r:=r+d+1) (n:=n) ⋯
  have h2:dt n (swR M (r+d+1) (r+d+1+1))=0:=aE0 d (r:=r) (by exact Nat.le_of_lt ‹_›) λc=>by
   unfold swR;rw [if_neg (by lia),if_neg (by lia),if_pos rfl];exact e c
  rw [h2] at h1
  grind
theorem aI0 {n:Nat} {M:Mt} {r s:Nat} (hr:r<n) (hs:s<n) (hn:r ≠ s) (e:∀ c,M r c=M s c):dt n M=0:=by
 rcases j0h r s with z | z
 ·exact aE0 (s-r-1) (r:=r) ⋯ λc=>by rw [show r+(s-r-1)+1=s by omega];exact e c
 ·exact aE0 (r-s-1) (r:=s) ⋯ λc=>by rw [show s+(r-s-1)+1=r by lia];exact (e c).symm
theorem aP0 {n:Nat} {M:Mt} {r s:Nat} (a b:Rat) (hr:r<n) (hs:s<n) (hn:r ≠ s):dt n (setR M r λc=>a*M r c+b*M s c)=a*dt n M:=by
 rw [am3 M a b (M r) (M s) hr,ac5,aI0 (M:=setR M r (M s)) hr hs hn λc=>by
  unfold setR;rw [if_pos rfl,if_neg (by exact Ne.symm ‹_›)]]
 grind
theorem bl8 {n:Nat} {M:Mt} (h:∀ i,0<i->i<n+1->M i 0=0):dt (n+1) M=M 0 0*dt n (mn M 0):=by
 rw [K9]
 have:m8 (λi=>sgd i*M i 0*dt n (mn M i)) (n+1)=m8 (λi=>if i=0 then M 0 0*dt n (mn M 0) else 0) (n+1):=j5 λi hi=>by
  by_cases z:i=0
  ·rw [if_pos z,z]
   show sgd 0*_*_=_;unfold sgd;rw [if_pos (by decide)];grind
  ·rw [if_neg z,h i (by lia) hi];grind
 rw [this,R0 (λ_=>M 0 0*dt n (mn M 0)),if_pos (by simp)]
def IsI (q:Rat):Prop:=∃ z:Int,q=(z:Rat)
theorem IsI.add {p q:Rat} (h:IsI p) (k:IsI q):IsI (p+q):=let ⟨a,e⟩:=h;let ⟨b,f⟩:=k;⟨a+b,by rw [e,f,m0q]⟩
theorem IsI.mul {p q:Rat} (h:IsI p) (k:IsI q):IsI (p*q):=let ⟨a,e⟩:=h;let ⟨b,f⟩:=k;⟨a*b,by rw [e,f,j0z]⟩
theorem aZ8 {f:Nat->Rat}:∀ {n:Nat},(∀ i,i<n->IsI (f i))->IsI (m8 f n)
 | 0,_=>⟨0,rfl⟩
 | n+1,h=>(aZ8 λi hi=>h i ⋯).add (h n ⋯)
theorem br0 (i:Nat):IsI (sgd i):=by
 unfold sgd
 split
 ·exact ⟨1,rfl⟩
 ·exact ⟨-1,by rw [y0e];rfl⟩
theorem bl7:∀ {n:Nat} {M:Mt},(∀ r c,IsI (M r c))->IsI (dt n M)
 | 0,_,_=>⟨1,rfl⟩
 | n+1,M,h=>by
  rw [K9];exact aZ8 λi _=>((br0 i).mul (h i 0)).mul (bl7 λr c=>h _ _)
def hz (A B:Nat->Rat):Mt:=λi c=>if c<i / 2 then 0 else if i % 2=0 then B (c-i / 2) else A (c-i / 2)
def behind (A B:Nat->Rat):Nat->Rat:=λj=>B 0*A (j+1)-A 0*B (j+1)
def hm (A B:Nat->Rat) (m:Nat):Mt:=λi c=>if i % 2=1/\i<m then B 0*hz A B i c-A 0*hz A B (i-1) c else hz A B i c
theorem aT1 {n:Nat} (M:Mt) (t:Nat->Rat):∀ m,m<=n->dt (n+1) (λr c=>if 0<r/\r<=m then M r c-t r*M 0 c else M r c)=dt (n+1) M
 | 0,_=>K8 λr _ c _=>by rw [if_neg (by lia)]
 | m+1,h=>by
  rw [<- aT1 M t m (by exact Nat.le_of_lt ‹_›)]
  have e:(λr c=>if 0<r/\r<=m+1 then M r c-t r*M 0 c else M r c)=setR (λr c=>if 0<r/\r<=m then M r c-t r*M 0 c else M r c) (m+1) λc=>1*(λr c=>if 0<r/\r<=m then M r c-t r*M 0 c else M r c) (m+1) c+(- t (m+1))*(λr c=>if 0<r/\r<=m then M r c-t r*M 0 c else M r c) 0 c:=by
   funext r c
   unfold setR
   by_cases y:r=m+1
   ·rw [if_pos y,y]
    show (if 0<m+1/\m+1<=m+1 then _ else _)=1*(if 0<m+1/\m+1<=m then _ else _) + - t (m+1)*(if 0<0/\0<=m then _ else _);rw [if_pos (by simp),if_neg (by simp),if_neg (by simp)];grind
   ·rw [if_neg y]
    show (if 0<r/\r<=m+1 then M r c-t r*M 0 c else M r c)=if 0<r/\r<=m then M r c-t r*M 0 c else M r c
    by_cases x:0<r/\r<=m
    ·rw [if_pos x,if_pos (by lia)]
    ·rw [if_neg x,if_neg (by lia)]
  rw [e,aP0 1 (- t (m+1)) (by lia) ⋯ (by simp)];grind
theorem br6 {n:Nat} (M:Mt) (t:Nat->Rat):dt (n+1) (λr c=>if r=0 then M 0 c else M r c-t r*M 0 c)=dt (n+1) M:=by
 rw [<- aT1 M t n (q0h _)];refine K8 λr hr c _=>?_
 by_cases z:r=0
 ·rw [if_pos z,if_neg (by lia),z]
 ·rw [if_neg z,if_pos (by lia)]
def red (B:Mt):Mt:=λr c=>B (r+1) (c+1)-B (r+1) 0*(B 0 0)⁻¹*B 0 (c+1)
theorem aD8 {n:Nat} (B:Mt) (h:B 0 0 ≠ 0):dt (n+1) B=B 0 0*dt n (red B):=by
 rw [<- br6 B λr=>B r 0*(B 0 0)⁻¹,bl8 λi h0 hi=>?_]
 ·rw [if_pos rfl]
  congr 1
 ·rw [if_neg (by lia)]
  have:=j0g _ h;generalize (B 0 0)⁻¹=u at *
  grind
def bnd (B:Mt) (k i j:Nat):Mt:=λr c=>B (if r=k then i else r) (if c=k then j else c)
def mi (B:Mt) (k i j:Nat):Rat:=dt (k+1) (bnd B k i j)
theorem af2 (B:Mt) (i j:Nat):mi B 0 i j=B i j:=by
 unfold mi;rw [K9]
 show (0:Rat)+sgd 0*bnd B 0 i j 0 0*1=_;rw [show sgd 0=1 from if_pos (by decide)]
 show (0:Rat)+1*B (if 0=0 then i else 0) (if 0=0 then j else 0)*1=_;rw [if_pos rfl,if_pos rfl];grind
theorem az8 (B:Mt) (k:Nat):mi B k k k=dt (k+1) B:=by
 unfold mi
 congr 1
 funext r c
 unfold bnd
 congr 1
 ·split
  ·rename_i h;exact h.symm
  ·rfl
 ·split
  ·rename_i h;exact h.symm
  ·rfl
theorem aw2 (B:Mt) (h:B 0 0 ≠ 0) (k i j:Nat):mi B (k+1) (i+1) (j+1)=B 0 0*mi (red B) k i j:=by
 unfold mi
 have e0:bnd B (k+1) (i+1) (j+1) 0 0=B 0 0:=by
  unfold bnd;rw [if_neg (by lia),if_neg ⋯]
 rw [aD8 _ (by rw [e0];exact h),e0]
 congr 1
 refine K8 λr hr c hc=>?_;unfold red;rw [e0]
 have a1:bnd B (k+1) (i+1) (j+1) (r+1) (c+1)=B ((if r=k then i else r)+1) ((if c=k then j else c)+1):=by
  unfold bnd
  congr 1
  ·by_cases z:r=k
   ·rw [if_pos z,if_pos (by lia)]
   ·rw [if_neg z,if_neg (by lia)]
  ·by_cases z:c=k
   ·rw [if_pos z,if_pos (by lia)]
   ·rw [if_neg z,if_neg (by lia)]
 have a2:bnd B (k+1) (i+1) (j+1) (r+1) 0=B ((if r=k then i else r)+1) 0:=by
  unfold bnd;rw [if_neg (show ¬ 0=k+1 by lia)]
  congr 1
  by_cases z:r=k
  ·rw [if_pos z,if_pos ⋯]
  ·rw [if_neg z,if_neg ⋯]
 have a3:bnd B (k+1) (i+1) (j+1) 0 (c+1)=B 0 ((if c=k then j else c)+1):=by
  unfold bnd;rw [if_neg (show ¬ 0=k+1 by omega)]
  congr 1
  by_cases z:c=k
  ·rw [if_pos z,if_pos ⋯]
  ·rw [if_neg z,if_neg ⋯]
 rw [a1,a2,a3];rfl
theorem aS4 {B:Mt} {k:Nat} (h:∀ m,1<=m->m<=k+1->dt m B ≠ 0):B 0 0 ≠ 0/\∀ m,1<=m->m<=k->dt m (red B) ≠ 0:=by
 have b0:B 0 0 ≠ 0:=by
  have:=h 1 (by simp) (by simp)
  rw [<- az8 B 0,af2] at this;exact this
 refine ⟨b0,λm h1 h2 z=>?_⟩;have:=h (m+1) (by exact Nat.lt_succ_of_lt ‹_›) (by lia)
 rw [aD8 B b0,z] at this;exact this (by grind)
theorem au9:∀ (k:Nat) (B:Mt),(∀ m,1<=m->m<=k->dt m B ≠ 0)->∀ i j,k<i->k<j->mi B k k k*mi B k i j-mi B k i k*mi B k k j=dt k B*mi B (k+1) i j
 | 0,B,_,i,j,hi,hj=>by
  rw [af2,af2,af2,af2]
  show _=1*mi B 1 i j;unfold mi;rw [K9]
  have d1:∀ M:Mt,dt 1 M=M 0 0:=λM=>by
   rw [K9]
   show (0:Rat)+sgd 0*M 0 0*1=_;rw [show sgd 0=1 from if_pos (by decide)];grind
  show _=1*((0:Rat)+sgd 0*bnd B 1 i j 0 0*dt 1 (mn (bnd B 1 i j) 0)+sgd 1*bnd B 1 i j 1 0*dt 1 (mn (bnd B 1 i j) 1));rw [d1,d1,show sgd 0=1 from if_pos (by decide),show sgd 1=-1 from if_neg (by decide)]
  show _=1*((0:Rat)+1*B 0 0*B i j + -1*B i 0*B 0 j)
  grind
 | k+1,B,h,i,j,hi,hj=>by
  obtain ⟨b0,hr⟩:=aS4 h;obtain ⟨i',rfl⟩:∃ i',i=i'+1:=⟨i-1,by lia⟩
  obtain ⟨j',rfl⟩:∃ j',j=j'+1:=⟨j-1,by lia⟩
  have ih:=au9 k (red B) hr i' j' (by lia) (by lia)
  rw [aw2 B b0,aw2 B b0,aw2 B b0,aw2 B b0,aw2 B b0,aD8 B b0];generalize B 0 0=b at *;generalize mi (red B) k k k=x1 at *;generalize mi (red B) k i' j'=x2 at *;generalize mi (red B) k i' k=x3 at *;generalize mi (red B) k k j'=x4 at *;generalize mi (red B) (k+1) i' j'=x5 at *;generalize dt k (red B)=x6 at *
  grind
theorem aD7:∀ (k n:Nat) (B:Mt),(∀ m,1<=m->m<=k->dt m B ≠ 0)->k<n->(∀ i,k<=i->i<n->mi B k i k=0)->dt n B=0
 | 0,n,B,_,hk,h=>by
  obtain ⟨m,rfl⟩:∃ m,n=m+1:=⟨n-1,by lia⟩
  rw [K9];refine Y3 _ λi hi=>?_;have:=h i (by simp) hi
  rw [af2] at this;rw [this];grind
 | k+1,n,B,hl,hk,h=>by
  obtain ⟨b0,hr⟩:=aS4 hl;obtain ⟨m,rfl⟩:∃ m,n=m+1:=⟨n-1,by lia⟩
  rw [aD8 B b0,aD7 k m (red B) hr (by lia) λi h1 h2=>?_]
  ·grind
  ·have:=h (i+1) (by lia) (by lia)
   rw [aw2 B b0] at this;rcases u0g.mp this with y | y
   ·exact absurd y b0
   ·exact y
def swN (B:Mt) (r s:Nat):Mt:=λi c=>if i=r then B s c else if i=s then-B r c else B i c
theorem bl6 {n:Nat} {B:Mt} {r s:Nat} (hr:r<n) (hs:s<n) (h:r ≠ s):dt n (swN B r s)=dt n B:=by
 -- row r plus row s;row s less row r;row r plus row s
 have e1:=aP0 (M:=B) (r:=r) (s:=s) 1 1 hr hs h;obtain ⟨B1,h1⟩:∃ B1,B1=setR B r λc=>1*B r c+1*B s c:=⟨_,rfl⟩;rw [<- h1] at e1;have e2:=aP0 (M:=B1) (r:=s) (s:=r) 1 (-1) hs hr (Ne.symm h);obtain ⟨B2,h2⟩:∃ B2,B2=setR B1 s λc=>1*B1 s c+(-1)*B1 r c:=⟨_,rfl⟩;rw [<- h2] at e2;have e3:=aP0 (M:=B2) (r:=r) (s:=s) 1 1 hr hs h
 have e:setR B2 r (λc=>1*B2 r c+1*B2 s c)=swN B r s:=by
  funext i c
  have v1r:∀ c,B1 r c=B r c+B s c:=λc=>by rw [h1];unfold setR;rw [if_pos rfl];grind
  have v1s:∀ c,B1 s c=B s c:=λc=>by rw [h1];unfold setR;rw [if_neg (Ne.symm h)]
  have v2s:∀ c,B2 s c=- B r c:=λc=>by rw [h2];unfold setR;rw [if_pos rfl];show 1*B1 s c + -1*B1 r c=_;rw [v1s,v1r];grind
  have v2r:∀ c,B2 r c=B r c+B s c:=λc=>by rw [h2];unfold setR;rw [if_neg h,v1r]
  unfold setR swN
  by_cases z:i=r
  ·rw [if_pos z,if_pos z]
   show 1*B2 r c+1*B2 s c=_;rw [v2r,v2s];grind
  ·rw [if_neg z,if_neg z]
   by_cases y:i=s
   ·rw [if_pos y,y,v2s]
   ·rw [if_neg y,h2]
    unfold setR;rw [if_neg y,h1];unfold setR;rw [if_neg z]
 rw [<- e,e3,e2,e1];grind
structure Pos (n:Nat) (g:Nat->Nat->Rat):Prop where
 p:∀ i,i<=n->0<g i 0
 s:∀ i,1<=i->i<n->∀ j,g i 0*g (i-1) j=g i 0*g (i+1) (j+1)-g (i+1) 0*g i (j+1)
 l:1<=n->∀ j,g 0 0*g 1 (j+1)-g 1 0*g 0 (j+1)=0
 z:∀ i j,i<=n->i<2*j->g i j=0
theorem aj4 {W:Nat}:∀ {n:Nat} {M:Mt},n<=16->(∀ r c,∃ z:Int,M r c=(z:Rat)/\z.natAbs<2 ^ W)->∃ z:Int,dt n M=(z:Rat)/\z.natAbs<=2 ^ ((W+4)*n)
 | 0,_,_,_=>⟨1,rfl,by simp⟩
 | n+1,M,hn,h=>by
  have key:∀ m,m<=n+1->∃ z:Int,m8 (λi=>sgd i*M i 0*dt n (mn M i)) m=(z:Rat)/\z.natAbs<=m*(2 ^ W*2 ^ ((W+4)*n)):=by
   intro m
   induction m with
   | zero=>intro _;exact ⟨0,rfl,by simp⟩
   | succ m ih =>
    intro hm;obtain ⟨z,e,b⟩:=ih (by exact Nat.le_of_lt ‹_›)
    obtain ⟨x,ex,bx⟩:=h m 0;obtain ⟨y,ey,by'⟩:=aj4 (n:=n) (M:=mn M m) (by exact Nat.le_of_lt ‹_›) λr c=>h _ _
    obtain ⟨s,es,bs⟩:∃ s:Int,sgd m=(s:Rat)/\s.natAbs=1:=by
     unfold sgd
     split
     ·exact ⟨1,rfl,rfl⟩
     ·exact ⟨-1,by rw [y0e];rfl,rfl⟩
    refine ⟨z+s*x*y,?_,?_⟩
    ·rw [m8,e,ex,ey,es,m0q,j0z,j0z]
    ·have h1:(s*x*y).natAbs<=2 ^ W*2 ^ ((W+4)*n):=by
      rw [z0k,z0k,bs,q1s];exact y0y (v0b bx) by'
     have h2:=m0a z (s*x*y);rw [m0d];lia
  obtain ⟨z,e,b⟩:=key (n+1) (q0h _);refine ⟨z,by rw [K9];exact e,q0s b ?_⟩
  have:(n+1)*(2 ^ W*2 ^ ((W+4)*n))<=2 ^ 4*(2 ^ W*2 ^ ((W+4)*n)):=v0k _ ⋯;refine q0s this ?_;rw [<- z0f,<- z0f];exact j0f (by decide) (by rw [v0e];lia)
inductive RwZ (H:Hp):List Addr->List (List Int)->Prop where
 | nil:RwZ H [] []
 | cons {p:Addr} {ps:List Addr} {L:List Int} {Ls:List (List Int)} (h:H p=some (.lst (L.map V.int))) (t:RwZ H ps Ls):RwZ H (p :: ps) (L :: Ls)
theorem RwZ.length {H:Hp}:∀ {ts:List Addr} {M:List (List Int)},RwZ H ts M->ts.length=M.length:=by
 intro _ _ a;induction a with
 | nil=>exact rfl
 | cons _ t ih=>exact congrArg (· + 1) ih
theorem RwZ.same {H H':Hp} (s:c9 H H'):∀ {ts:List Addr} {M:List (List Int)},RwZ H ts M->RwZ H' ts M:=by
 intro _ _ a;induction a with
 | nil=>exact .nil
 | cons h t ih=>exact .cons (s _ _ h) ih
theorem RwZ.get {H:Hp}:∀ {ts:List Addr} {M:List (List Int)} {i:Nat} {p:Addr},RwZ H ts M->ts[i]? = some p->∃ L,M[i]? = some L/\H p=some (.lst (L.map V.int))
 | _,_,_,_,.nil,e=>by simp at e
 | _,_,0,_,.cons h _,e=>by cases e;exact ⟨_,rfl,h⟩
 | _,_,i+1,_,.cons _ t,e=>t.get (i:=i) (by simpa using e)
theorem RwZ.append {H:Hp}:∀ {ts us:List Addr} {M N:List (List Int)},RwZ H ts M->RwZ H us N->RwZ H (ts ++ us) (M ++ N):=by
 intro _ _ _ _ a k;induction a with
 | nil=>exact k
 | cons h t ih=>exact .cons h ih
theorem RwZ.over {H:Hp} {l:Addr} {o:HO}:∀ {ts:List Addr} {M:List (List Int)},l ∉ ts->RwZ H ts M->RwZ (upd H l o) ts M:=by
 intro _ _ n a;induction a with
 | nil=>exact .nil
 | cons h t ih=>exact .cons (by rw [i8 (λz=>n (by rw [<- z];exact z0c))];exact h) (ih λz=>n (q0u _ z))
theorem RwZ.set {H:Hp}:∀ {ts:List Addr} {M:List (List Int)} (k:Nat) {p:Addr} {L:List Int},RwZ H ts M->H p=some (.lst (L.map V.int))->RwZ H (ts.set k p) (M.set k L)
 | _,_,_,_,_,.nil,_=>.nil
 | _,_,0,_,_,.cons _ t,e=>.cons e t
 | _,_,k+1,_,_,.cons h t,e=>.cons h (t.set k e)
def zz (M:List (List Int)) (i j:Nat):Int:=aZ ((M[i]?).getD []) j
theorem bo3 {α:Type} (l:List α) {i j:Nat} (x y:α) (hij:i<j) (hj:j<l.length):l.take i ++ [x] ++ (l.drop (i+1)).take (j-(i+1)) ++ [y] ++ l.drop (j+1)=(l.set i x).set j y:=by
 refine u0s λk=>?_;rw [u0t,u0t];simp only [y0d];have l1:(l.take i).length=i:=by rw [q0v];lia
 have l2:(l.take i ++ [x]).length=i+1:=by rw [z0z,l1];rfl
 have l3:(l.take i ++ [x] ++ (l.drop (i+1)).take (j-(i+1))).length=j:=by rw [z0z,l2,q0v,u0c];lia
 have l4:(l.take i ++ [x] ++ (l.drop (i+1)).take (j-(i+1)) ++ [y]).length=j+1:=by rw [z0z,l3];rfl
 rcases j0h j k with a | a
 ·rw [j0c (by lia),l4,List.getElem?_drop,if_neg (by lia),if_neg (by lia)]
  congr 1;lia
 ·rw [j0e (by lia)]
  rcases j0h k j with b | b
  ·rw [j0e (by lia),if_neg (by lia)]
   rcases j0h i k with c | c
   ·rw [j0c (by lia),l2,if_neg (by lia),u0j (by lia),List.getElem?_drop]
    congr 1;lia
   ·rw [j0e (by lia)]
    rcases j0h k i with d | d
    ·rw [j0e (by lia),if_neg (by lia),u0j d]
    ·have:k=i:=by lia
     subst this;rw [j0c (by lia),l1,Nat.sub_self,if_pos rfl,if_pos (by lia)];rfl
  ·have:k=j:=by lia
   subst this;rw [j0c (by lia),l3,Nat.sub_self,if_pos rfl,if_pos hj];rfl
structure Eb (n:Nat) (A B:Mt) (at':Nat) (M:List (List Int)) (dv:Int):Prop where
 len:M.length=n
 row:∀ L ∈ M,L.length=n
 ent:∀ i j,at'<=i->i<n->at'<=j->j<n->((zz M i j:Int):Rat)=mi B at' i j
 zer:∀ i j,at'<=i->i<n->j<at'->zz M i j=0
 int:∀ r c,IsI (B r c)
 det:dt n B=dt n A
 led:∀ m,1<=m->m<=at'->dt m B ≠ 0
 div:((dv:Int):Rat)=dt at' B
theorem bj9 {B:Mt} {k s i j:Nat} (hs:k<s):mi (swN B k s) k i j=if i=k then mi B k s j else if i=s then-mi B k k j else mi B k i j:=by
 have top:∀ (x:Nat) (e:Rat),(∀ c,swN B k s i c=e*B x c)->mi (swN B k s) k i j=e*mi B k x j:=λx e h=>by
  unfold mi
  have e1:dt (k+1) (bnd (swN B k s) k i j)=dt (k+1) (setR (bnd B k x j) k λc=>e*(bnd B k x j) k c+0*(bnd B k x j) k c):=K8 λr hr c _=>by
   unfold setR
   by_cases z:r=k
   ·rw [if_pos z,z]
    show swN B k s (if k=k then i else k) _=e*B (if k=k then x else k) _+0*_;rw [if_pos rfl,if_pos rfl,h];grind
   ·rw [if_neg z]
    unfold bnd;rw [if_neg z,if_neg z];unfold swN;rw [if_neg z,if_neg (by lia)]
  rw [e1,am3 _ e 0 _ _ (by simp),ac5];grind
 by_cases a:i=k
 ·rw [if_pos a,top s 1 λc=>by unfold swN;rw [if_pos a];grind];grind
 ·rw [if_neg a]
  by_cases b:i=s
  ·rw [if_pos b,top k (-1) λc=>by unfold swN;rw [if_neg a,if_pos b];grind];grind
  ·rw [if_neg b,top i 1 λc=>by unfold swN;rw [if_neg a,if_neg b];grind];grind
section
variable {n:Nat} {A B:Mt} {k:Nat} {M M':List (List Int)} {dv:Int}
def mZ (M:List (List Int)):Mt:=λr c=>((zz M r c:Int):Rat)
end
def P7 (s:Nat->Rat):Nat->Rat
 | 0=>1
 | n+1=>P7 s n*s n
theorem W5 (s:Nat->Rat):∀ n,P7 s (n+1)=s 0*P7 (λi=>s (i+1)) n
 | 0=>by show 1*s 0=s 0*1;grind
 | n+1=>by
  show P7 s (n+1)*s (n+1)=s 0*(P7 (λi=>s (i+1)) n*s (n+1));rw [W5 s n];grind
theorem ai7 {s t:Nat->Rat}:∀ {n},(∀ i,i<n->s i=t i)->P7 s n=P7 t n
 | 0,_=>rfl
 | n+1,h=>by
  show P7 s n*s n=P7 t n*t n;rw [ai7 λi hi=>h i ⋯,h n ⋯]
theorem ax4 (s:Nat->Rat):∀ (n i:Nat),i<=n->P7 s (n+1)=s i*P7 (λr=>s (if r<i then r else r+1)) n
 | n,0,_=>by
  rw [W5]
  congr 1
 | 0,i+1,h=>by lia
 | n+1,i+1,h=>by
  rw [W5,ax4 (λr=>s (r+1)) n i (by lia)]
  rw [W5 (λr=>s (if r<i+1 then r else r+1)) n,if_pos (by simp)]
  rw [ai7 (s:=λr=>s (if r+1<i+1 then r+1 else r+1+1)) (t:=λr=>s ((if r<i then r else r+1)+1)) λr _=>by
   congr 1
   by_cases z:r<i
   ·rw [if_pos z,if_pos ⋯]
   ·rw [if_neg z,if_neg (by lia)]]
  grind
theorem au4:∀ (n:Nat) (s:Nat->Rat) (B:Mt),dt n (λr c=>s r*B r c)=P7 s n*dt n B
 | 0,_,_=>by show (1:Rat)=1*1;grind
 | n+1,s,B=>by
  rw [K9,K9,C7];refine j5 λi hi=>?_;have e:mn (λr c=>s r*B r c) i=λr c=>(λr=>s (if r<i then r else r+1)) r*mn B i r c:=rfl;rw [e,au4 n,ax4 s n i (by lia)]
  grind
def swU (B:Mt) (r s:Nat):Mt:=λi c=>if i=r then B s c else if i=s then B r c else B i c
theorem bl5 {n:Nat} {B:Mt} {r s:Nat} (hr:r<n) (hs:s<n) (h:r ≠ s):dt n (swU B r s)=- dt n B:=by
 have e:swN B r s=setR (swU B r s) s λc=>(-1)*swU B r s s c+0*swU B r s s c:=by
  funext i c
  show (if i=r then B s c else if i=s then-B r c else B i c)=if i=s then -1*(if s=r then B s c else if s=s then B r c else B s c)+0*(if s=r then B s c else if s=s then B r c else B s c) else (if i=r then B s c else if i=s then B r c else B i c)
  by_cases a:i=r
  ·rw [if_pos a,if_neg (by lia),if_pos a]
  ·rw [if_neg a,if_neg a]
   by_cases b:i=s
   ·rw [if_pos b,if_pos b,if_neg (Ne.symm h),if_pos rfl];grind
   ·rw [if_neg b,if_neg b,if_neg b]
 have k:=bl6 (B:=B) hr hs h;rw [e,am3 _ (-1) 0 _ _ hs,ac5] at k
 grind
theorem bx0 {B:Mt} {k s i j:Nat} (hs:k<s):mi (swU B k s) k i j=if i=k then mi B k s j else if i=s then mi B k k j else mi B k i j:=by
 have top:∀ (x:Nat),(∀ c,swU B k s i c=B x c)->mi (swU B k s) k i j=mi B k x j:=λx h=>by
  unfold mi;refine K8 λr hr c _=>?_;unfold bnd
  by_cases z:r=k
  ·rw [if_pos z,if_pos z,h]
  ·rw [if_neg z,if_neg z]
   unfold swU;rw [if_neg z,if_neg ⋯]
 by_cases a:i=k
 ·rw [if_pos a,top s λc=>by unfold swU;rw [if_pos a]]
 ·rw [if_neg a]
  by_cases b:i=s
  ·rw [if_pos b,top k λc=>by unfold swU;rw [if_neg a,if_pos b]]
  ·rw [if_neg b,top i λc=>by unfold swU;rw [if_neg a,if_neg b]]
def Sc (W:Nat) (B:Mt):Prop:=∃ b:Nat->Int,∀ r,0<b r/\(b r).natAbs<2 ^ W/\∀ c,∃ z:Int,((b r:Int):Rat)*B r c=(z:Rat)/\z.natAbs<2 ^ W
theorem Sc.swU {W:Nat} {B:Mt} {r s:Nat} (h:Sc W B):Sc W (swU B r s):=by
 obtain ⟨b,hb⟩:=h;refine ⟨λi=>if i=r then b s else if i=s then b r else b i,λi=>?_⟩;unfold R.swU
 by_cases x:i=r
 ·simp only [if_pos x];exact hb s
 ·by_cases y:i=s
  ·simp only [if_neg x,if_pos y];exact hb r
  ·simp only [if_neg x,if_neg y];exact hb i
theorem av7 {x:Rat} {d m:Int} (e:x*((d:Int):Rat)=((m:Int):Rat)) (hd:d ≠ 0):x.num.natAbs<=m.natAbs/\x.den<=d.natAbs:=by
 have d0:((d:Int):Rat) ≠ 0:=λz=>hd (z0x.mp z)
 have:x=q0z m d:=by
  rw [j0k,<- e,Rat.mul_div_cancel d0]
 rw [this];exact N9 hd
theorem aB8 {b:Nat->Int} {W:Nat} (h:∀ r,0<b r/\(b r).natAbs<2 ^ W):∀ n,∃ z:Int,P7 (λr=>((b r:Int):Rat)) n=(z:Rat)/\0<z/\z.natAbs<=2 ^ (W*n)
 | 0=>⟨1,rfl,by decide,by simp⟩
 | n+1=>by
  obtain ⟨z,e,p,l⟩:=aB8 h n;refine ⟨z*b n,?_,u0w p (h n).1,?_⟩
  ·show P7 _ n*_=_
   rw [e,j0z]
  ·rw [z0k,v0e,z0f]
   exact y0y l (v0b (h n).2)
theorem Sc.minor {W:Nat} {B:Mt} (h:Sc W B) {k i j:Nat} (hk:k<15) (hd:dt k B ≠ 0) {x:Rat} (e:x*dt k B=mi B k i j):x.num.natAbs<=2 ^ ((W+4)*(k+1))/\x.den<=2 ^ (W+(W+4)*k):=by
 obtain ⟨b,hb⟩:=h;have hb':∀ r,0<b r/\(b r).natAbs<2 ^ W:=λr=>⟨(hb r).1,(hb r).2.1⟩;obtain ⟨D,eD,bD⟩:=aj4 (W:=W) (n:=k) (M:=λr c=>((b r:Int):Rat)*B r c) (by lia) λr c=>(hb r).2.2 c
 obtain ⟨m,em,bm⟩:=aj4 (W:=W) (n:=k+1) (M:=λr c=>(λr=>((b (if r=k then i else r):Int):Rat)) r*bnd B k i j r c) (by exact Nat.lt_succ_of_lt ‹_›) λr c=>(hb _).2.2 _
 rw [au4] at eD em;obtain ⟨P,eP,pP,_⟩:=aB8 hb' k
 have e1:P7 (λr=>((b (if r=k then i else r):Int):Rat)) (k+1)=(P:Rat)*((b i:Int):Rat):=by
  show P7 _ k*((b (if k=k then i else k):Int):Rat)=_;rw [if_pos rfl,<- eP,ai7 λr hr=>by show ((b (if r=k then i else r):Int):Rat)=((b r:Int):Rat);rw [if_neg (by lia)]]
 have D0:D ≠ 0:=λz=>by
  rw [z,eP] at eD;rcases u0g.mp eD with y | y
  ·have:P=0:=z0x.mp y
   lia
  ·exact hd y
 have:=av7 (x:=x) (d:=b i*D) (m:=m) (by
  rw [<- em,e1,j0z,<- eD,eP]
  show _=_*mi B k i j;rw [<- e];grind) (g0p (g0k (hb i).1) D0)
 refine ⟨q0s this.1 bm,q0s this.2 ?_⟩;rw [z0k,z0f];exact y0y (v0b (hb i).2.1) bD
theorem Sc.det {W:Nat} {B:Mt} (h:Sc W B) {k:Nat} (hk:k<15):(dt k B).num.natAbs<=2 ^ ((W+4)*k)/\(dt k B).den<=2 ^ (W*k):=by
 obtain ⟨b,hb⟩:=h;have hb':∀ r,0<b r/\(b r).natAbs<2 ^ W:=λr=>⟨(hb r).1,(hb r).2.1⟩;obtain ⟨D,eD,bD⟩:=aj4 (W:=W) (n:=k) (M:=λr c=>((b r:Int):Rat)*B r c) ⋯ λr c=>(hb r).2.2 c;rw [au4] at eD;obtain ⟨P,eP,pP,bP⟩:=aB8 hb' k;have:=av7 (x:=dt k B) (d:=P) (m:=D) (by rw [<- eD,eP];grind) (by lia)
 exact ⟨q0s this.1 bD,q0s this.2 bP⟩
def qq (M:List (List Rat)) (i j:Nat):Rat:=aQ ((M[i]?).getD []) j
structure Ld (W n:Nat) (A B:Mt) (sg:Rat) (k:Nat) (M:List (List Rat)) (fd:Rat):Prop where
 len:M.length=n
 row:∀ L ∈ M,L.length=n
 ent:∀ i j,k<=i->i<n->k<=j->j<n->qq M i j*dt k B=mi B k i j
 zer:∀ i j,k<=i->i<n->j<k->qq M i j=0
 sc:Sc W B
 sgn:sg=1 \/ sg=-1
 det:dt n A=sg*dt n B
 led:∀ m,1<=m->m<=k->dt m B ≠ 0
 fnd:fd=sg*dt k B
section
variable {W n:Nat} {A B:Mt} {sg fd:Rat} {k:Nat} {M M':List (List Rat)}
theorem Ld.dk (E:Ld W n A B sg k M fd):dt k B ≠ 0:=by
 rcases g0v k with z | z
 ·rw [z];show (1:Rat) ≠ 0;decide
 ·exact E.led k z (q0h _)
theorem Ld.start (len:M.length=n) (row:∀ L ∈ M,L.length=n) (sc:Sc W (qq M)):Ld W n (qq M) (qq M) 1 0 M 1 :=
 ⟨len,row,λi j _ _ _ _=>by rw [af2];show _*1=_;grind,λi j _ _ h=>by lia,sc,.inl rfl,by grind,λm h1 h2=>by lia,by show (1:Rat)=1*1;grind⟩
theorem Ld.swap (E:Ld W n A B sg k M fd) {s:Nat} (hk:k<s) (hs:s<n) (len:M'.length=n) (row:∀ L ∈ M',L.length=n) (e:∀ i j,qq M' i j=if i=k then qq M s j else if i=s then qq M k j else qq M i j):Ld W n A (swU B k s) (-sg) k M' (-fd):=by
 have lead:∀ m,m<=k->dt m (swU B k s)=dt m B:=λm hm=>K8 λr hr c _=>by
  unfold swU;rw [if_neg (by lia),if_neg (by lia)]
 refine ⟨len,row,λi j h1 h2 h3 h4=>?_,λi j h1 h2 h3=>?_,E.sc.swU,?_,?_,λm h1 h2=>?_,?_⟩
 ·rw [e,bx0 hk,lead k (q0h _)]
  by_cases a:i=k
  ·rw [if_pos a,if_pos a,E.ent s j (by exact Nat.le_of_lt ‹_›) hs h3 h4]
  ·rw [if_neg a,if_neg a]
   by_cases b:i=s
   ·rw [if_pos b,if_pos b,E.ent k j (q0h _) (by lia) h3 h4]
   ·rw [if_neg b,if_neg b,E.ent i j h1 h2 h3 h4]
 ·rw [e]
  split
  ·exact E.zer s j ⋯ hs h3
  ·split
   ·exact E.zer k j (q0h _) (by lia) h3
   ·exact E.zer i j h1 h2 h3
 ·rcases E.sgn with z | z
  ·right;rw [z]
  ·left;rw [z];decide
 ·rw [bl5 (by lia) hs (by lia),E.det];grind
 ·rw [lead m h2];exact E.led m h1 h2
 ·rw [lead k (q0h _),E.fnd];grind
theorem Ld.step (E:Ld W n A B sg k M fd) (hk:k<n) (h0:qq M k k ≠ 0) (len:M'.length=n) (row:∀ L ∈ M',L.length=n) (e:∀ i j,k<i->i<n->j<n->qq M' i j=qq M i j-qq M i k*(qq M k k)⁻¹*qq M k j):Ld W n A B sg (k+1) M' (fd*qq M k k):=by
 have ekk:=E.ent k k (q0h _) hk (q0h _) hk;have dk:=E.dk;have next:dt (k+1) B=qq M k k*dt k B:=by rw [ekk,az8]
 have inv:=j0g _ h0;refine ⟨len,row,λi j h1 h2 h3 h4=>?_,λi j h1 h2 h3=>?_,E.sc,E.sgn,E.det,λm h1 h2=>?_,?_⟩
 ·rw [e i j (by lia) h2 h4,next]
  have sy:=au9 k B E.led i j ⋯ (by lia)
  rw [<- ekk,<- E.ent i j (by exact Nat.le_of_lt ‹_›) h2 (by exact Nat.le_of_lt ‹_›) h4,<- E.ent i k ⋯ h2 (q0h _) hk,<- E.ent k j (q0h _) hk ⋯ h4] at sy
  have key:dt k B*((qq M i j-qq M i k*(qq M k k)⁻¹*qq M k j)*(qq M k k*dt k B))=dt k B*mi B (k+1) i j:=by
   rw [<- sy];generalize (qq M k k)⁻¹=u at *;generalize qq M k k=a at *;generalize qq M i j=b at *;generalize qq M i k=c at *;generalize qq M k j=d at *;generalize dt k B=f at *
   grind
  have iv:=j0g _ dk;have:=congrArg (λt=>(dt k B)⁻¹*t) key;simp only [<- Rat.mul_assoc] at this;rw [g0q (dt k B)⁻¹,iv,m0s,m0s] at this;rw [<- this];grind
 ·rw [e i j ⋯ h2 (by exact Nat.lt_of_lt_of_le ‹_› ‹_›)]
  rcases j0h j k with z | z
  ·rw [E.zer i j ⋯ h2 z,E.zer k j (q0h _) hk z];grind
  ·have:j=k:=by lia
   subst this;generalize (qq M j j)⁻¹=u at *
   grind
 ·rcases j0h k m with z | z
  ·have:m=k+1:=by lia
   subst this;rw [next];intro y;rcases u0g.mp y with y | y
   ·exact h0 y
   ·exact dk y
  ·exact E.led m h1 ⋯
 ·rw [next,E.fnd];grind
theorem Ld.stuck (E:Ld W n A B sg k M fd) (hk:k<n) (h:∀ i,k<=i->i<n->qq M i k=0):dt n A=0:=by
 rw [E.det,aD7 k n B E.led hk λi h1 h2=>?_]
 ·grind
 ·rw [<- E.ent i k h1 h2 (q0h _) hk,h i h1 h2];grind
theorem Ld.done (E:Ld W n A B sg n M fd):fd=dt n A:=by rw [E.fnd,E.det]
theorem Ld.bits (E:Ld W n A B sg k M fd) (n15:n<15) {i j:Nat} (h1:k<=i) (h2:i<n) (h4:j<n):(qq M i j).num.natAbs<=2 ^ ((W+4)*(n+1))/\(qq M i j).den<=2 ^ ((W+4)*(n+1)):=by
 rcases j0h j k with z | z
 ·rw [E.zer i j h1 h2 z]
  exact ⟨z0s _,Nat.one_le_two_pow⟩
 ·have:=E.sc.minor (by lia) E.dk (E.ent i j h1 h2 z h4)
  refine ⟨q0s this.1 (j0f (by decide) (z0v _ (by lia))),q0s this.2 (j0f (by decide) ?_)⟩
  have:=z0v (W+4) (show k<=n by lia)
  rw [v0e];lia
theorem Ld.fbits (E:Ld W n A B sg k M fd) (n15:n<15) (hk:k<=n):fd.num.natAbs<=2 ^ ((W+4)*n)/\fd.den<=2 ^ ((W+4)*n):=by
 have:=E.sc.det (k:=k) (by lia)
 have e:fd.num.natAbs=(dt k B).num.natAbs/\fd.den=(dt k B).den:=by
  rcases E.sgn with z | z
  ·rw [E.fnd,z,m0s];exact ⟨rfl,rfl⟩
  ·rw [E.fnd,z,show (-1:Rat)*dt k B=- dt k B by grind,u0e,u0z,v0n];exact ⟨rfl,rfl⟩
 rw [e.1,e.2];refine ⟨q0s this.1 (j0f (by decide) (z0v _ hk)),q0s this.2 (j0f (by decide) ?_)⟩
 have:=y0y (show W<=W+4 by simp) hk
 exact this
end
section
variable {P:Program} {w:World} {K:q0a} {mg:Str->Option Value} {base:Heap}
abbrev ai6:Stmt:=top 54
theorem Z5:j4 ["_law_top","_law_bottom","_law_one_here","_law_other_here"] ["_law_top","_law_bottom"] (c8 ai6):=by and_intros
theorem aR8 {f:Addr} (d:Df K mg "_law_low" ai6 ["_law_top","_law_bottom"] f) (n_abs:mg "abs" = none):Def P w K mg base CX0 1 "_law_low" f ["_law_top","_law_bottom"] ap3:=by
  refine d.ok (N:=["_law_top","_law_bottom","_law_one_here","_law_other_here"]) Z5 (λvs H Q E ⟨a,b,h,_⟩=>by rw [h];rfl) (λcdv A outer s H vs Q E hr h=>?_)
  obtain ⟨t,b,rfl,hb0,hb,k⟩:=h
  refine ⟨_, (c7 (i9 (i := 2) Z5.nd rfl (Or.inl rfl) (i7 ad5 rfl n_abs (by decide +kernel) (b7 (pv 0) b8)))
      (c7 (i9 (i:=3) Z5.nd rfl (Or.inl rfl) (i7 ad5 rfl n_abs (by decide +kernel) (b7 (pv 1) b8)))
      (c7 (aB7 PassesOwn.never (l9 aj9 (pv 3) b9 (j8 _)) (d4 (av4 (i:=2) (j:=3) rfl Z5.nd rfl rfl (by decide) rfl rfl (b7 (pv 3) (b7 (i5 S9 (pv 2) (pv 3)) b8)) rfl)))
      (c7 (E7 (l9 al4 (pv 1) b9 (j8 _)) (d4 (i9 (i:=2) Z5.nd rfl (Or.inl rfl) (i5 U1 b9 (pv 2)))) o0)
      (d4 (j2 (m6 (b7 (i5 J1 (pv 0) (pv 2)) (b7 (i5 J1 (pv 1) (pv 2)) b8))))))))),?_⟩
  rw [show start ["_law_top","_law_bottom","_law_one_here","_law_other_here"] [.int t,.int b]=[some (.int t),some (.int b),none,none] from rfl]
  subst_eqs
  refine aP7 (λσ H1=>H1=H/\∃ x y:Int,σ=[some (.int t),some (.int b),some (.int x),some (.int y)]/\0<=x/\0<=y/\Int.gcd x y=Int.gcd t b) (λσ _=>match σ with | [_,_,_,some (.int y)]=>y.natAbs | _=>0)
    ⟨rfl,_,_,rfl,by split <;> lia,by split <;> lia,?_⟩ ?_ ?_
  · have e1:(if t<0 then -t else t)=(t.natAbs:Int):=by split <;> lia
    have e2:(if b<0 then -b else b)=(b.natAbs:Int):=by split <;> lia
    rw [e1,e2,Int.gcd_eq_natAbs_gcd_natAbs,Int.gcd_eq_natAbs_gcd_natAbs];simp
  · rintro σ H1 ⟨rfl,x,y,rfl,hx,hy,hg⟩
    subst_eqs
    split
    · rename_i hy0
      exact ⟨by lia,hy,Int.fmod_nonneg_of_pos x hy0,by rw [aS9];exact hg,al8 x ⋯⟩
    · rename_i hy0
      have hy':y=0:=by lia
      subst hy'
      have ex:x=(Int.gcd t b:Int):=by
        rw [Int.gcd_zero_right] at hg
        lia
      have gp:=Q4 (t:=t) hb0;have gl:=aw6 (a:=t) hb0 hb
      by_cases hs:b<0
      · rw [if_pos hs]
        obtain ⟨e1,e2⟩:=aw3 (t:=t) (g:=0-x) hb0 (by rw [if_pos hs,ex];simp)
        have dv:∀ i,au8 i (0-x):=λi=>aa7 (by lia) (by rw [show 0-x=-x by simp,Int.natAbs_neg,ex];exact Y1 gl)
        refine ⟨dv _,dv _,t8,λr hr'=>?_⟩;exact k r _ (c9.new hr' _) (by rw [c6];unfold E8;rw [e1,e2])
      · rw [if_neg hs]
        obtain ⟨e1,e2⟩:=aw3 (t:=t) (g:=x) hb0 (by rw [if_neg hs,ex])
        have dv:∀ i,au8 i x:=λi=>aa7 (by lia) (by rw [ex];exact Y1 gl)
        refine ⟨dv _,dv _,t8,λr hr'=>?_⟩;exact k r _ (c9.new hr' _) (by rw [c6];unfold E8;rw [e1,e2])
  · intro σ H1 Q1 Q2 hQ h
    simp only [bg8,bv6,aV1,bk3,aQ0,aA3,bh2,bk4,bv7,tSl,ar8,ab0,as7,bv8,aM1,bk7,O7,List.map_cons,List.map_nil,Option.bind_none,Option.bind_some,Option.join_some,bn7,bv1,bv2,tOr,bv0,bg9,tB,tOp,tUn,bo0,tBM,O1,tC,tCB,bn8,aU3,t4,aW9,U2,w9,U3,P2,ak4,bn9,bu9,bc2,tIf,bh4,bh0,aA2,aJ8,bh3,bh1,aU2,aU1,rI,rI0,rU,aM0,al1,bc7,aB6,rEq,rNe,aV3,aV2,aV0,bo7,aL9,bk6,bk5,am0,az5,cxR,cxX,Cx.nox,Cx.wish,Cx.body,Cx.suite,List.getElem?_cons_zero,List.getElem?_cons_succ,List.set_cons_zero,List.set_cons_succ,Option.some.injEq,V.int.injEq,V.bl.injEq,V.ref.injEq,V.str.injEq,exists_eq_left',exists_eq_left,exists_and_left,true_and,and_true,List.cons.injEq,reduceCtorEq,Bool.false_eq_true,if_false,if_true,exists_const,↓reduceIte,tyV,List.length_cons,List.length_nil,exists_eq,List.append_nil,List.cons_append,List.nil_append,decide_eq_true_eq,not_true_eq_false,not_false_eq_true,Bool.not_eq_true',decide_eq_false_iff_not,Bool.not_true,Bool.not_false,and_assoc,false_and,false_or,or_false] at h ⊢;obtain ⟨v,e1,i,e2,e3⟩:=h;exact ⟨v,e1,i,e2,hQ _ _ e3⟩
abbrev ai4:Stmt:=top 52
theorem V8:j4 ["_law_script","_law_at","_law_cell","_law_prime","_law_great"] ["_law_script","_law_at"] (c8 ai4):=by and_intros
theorem aR6 {f:Addr} (d:Df K mg "_law_urn" ai4 ["_law_script","_law_at"] f) (n_len:mg "len" = none) (n_abs:mg "abs" = none):Def P w K mg base CX0 1 "_law_urn" f ["_law_script","_law_at"] (bt3 K):=by
 refine d.ok (N:=["_law_script","_law_at","_law_cell","_law_prime","_law_great"]) V8 (λvs H Q E ⟨x,y,p,h,_⟩=>by rw [h];rfl) (λcdv A outer s H vs Q E hr h=>?_)
 obtain ⟨a,ns,i,rfl,hS,h0,h64,k⟩:=h
 refine ⟨_,(c7 (i9 (i:=2) V8.nd rfl (q0x rfl) b9)
   (c7 (E7 (l9 al4 (pv 1) (i7 k6 rfl n_len (by decide +kernel) (b7 (pv 0) b8)) (j8 _)) (d4 (i9 (i:=2) V8.nd rfl (q0x rfl) (j6 j9 (pv 0) (pv 1) (λ_ _=>rfl)))) o0)
   (c7 (i9 (i:=3) V8.nd rfl (q0x rfl) (j6 y3 (m6 (b7 b9 (b7 b9 (b7 b9 (b7 b9 (b7 b9 (b7 b9 (b7 b9 (b7 b9 b8))))))))) (i5 S9 (pv 1) b9) (λ_ _=>rfl)))
   (c7 (i9 (i:=4) V8.nd rfl (q0x rfl) b9)
   (c7 (E7 (l9 bA2 (i7 ad5 rfl n_abs (by decide +kernel) (b7 (pv 2) b8)) (i5 Y4 b9 b9) (j8 _)) (d4 (i9 (i:=4) V8.nd rfl (q0x rfl) (i7 ad5 rfl n_abs (by decide +kernel) (b7 (pv 2) b8)))) o0)
   (d4 (j2 (C5 (b7 (pv 4) (b7 (i5 S9 (i5 Y4 (i5 E9 (i5 E9 (i5 S9 (pv 2) (pv 3)) (i5 z9 b9 (pv 1))) b9) b9) (pv 3)) (b7 (pv 3) b8))))))))))),?_⟩
 rw [show start ["_law_script","_law_at","_law_cell","_law_prime","_law_great"] [.ref a,.int i]=[some (.ref a),some (.int i),none,none,none] from rfl]
 refine k7 (λσ H1=>H1=H/\σ=[some (.ref a),some (.int i),some (.int 0),none,none]) (λN hN=>?_) ?_
 ·subst_eqs
  exact hN _ _ ⟨rfl,rfl⟩
 rintro σ H1 ⟨rfl,rfl⟩;refine k7 (λσ H2=>H2=H1/\∃ c:Int,σ=[some (.ref a),some (.int i),some (.int c),none,none]) (λN hN=>?_) ?_
 ·subst_eqs
  refine ⟨_,.inl hS,F2 (λhl=>?_) (λ_=>hN _ _ ⟨rfl,_,rfl⟩)⟩;obtain ⟨c,hc⟩:=bf6 (ns:=ns) h0 (by simpa using hl)
  exact ⟨_,hS,_,hc,hN _ _ ⟨rfl,c,rfl⟩⟩
 rintro σ H2 ⟨rfl,c,rfl⟩;obtain ⟨pr,hpr,p1,p2⟩:=bi3 h0;refine k7 (λσ H3=>c9 H2 H3/\σ=[some (.ref a),some (.int i),some (.int c),some (.int pr),none]) (λN hN=>?_) ?_
 ·subst_eqs
  exact ⟨by decide,λp hp=>⟨by decide,_,SqT.of c6,_,hpr,hN _ _ ⟨c9.new hp _,rfl⟩⟩⟩
 rintro σ H3 ⟨s1,rfl⟩;refine k7 (λσ H4=>H4=H3/\σ=[some (.ref a),some (.int i),some (.int c),some (.int pr),some (.int 0)]) (λN hN=>?_) ?_
 ·subst_eqs
  exact hN _ _ ⟨rfl,rfl⟩
 rintro σ H4 ⟨rfl,rfl⟩;refine k7 (λσ H5=>H5=H4/\∃ g:Int,0<=g/\σ=[some (.ref a),some (.int i),some (.int c),some (.int pr),some (.int g)]) (λN hN=>?_) ?_
 ·subst_eqs
  exact ⟨⟨by decide,by decide,by decide⟩,F2 (λ_=>hN _ _ ⟨rfl,_,by split <;> omega,rfl⟩) (λ_=>hN _ _ ⟨rfl,_,Int.le_refl _,rfl⟩)⟩
 rintro σ H5 ⟨rfl,g,hg,rfl⟩
 subst_eqs
 have m0:=y0z c (show 0<pr by lia)
 have m1:=v0w c (show 0<pr by lia)
 refine ⟨by lia,bq4 (by decide),⟨by decide,by decide,⋯⟩,⋯,by decide,λr hr'=>?_⟩
 refine k r _ (s1.trans (c9.new hr' _)) (s1.free hr') ⟨g,_,pr,c6,hg,y0z _ ⋯,?_,⋯,by lia⟩
 have:=v0w ((c.fmod pr+65537*i+101) ^ (3:Int).toNat) (show 0<pr by omega)
 omega
abbrev ae7:Stmt:=top 53
theorem as6:j4 ["_law_urn_here","_law_many","_law_drawn"] ["_law_urn_here","_law_many"] (c8 ae7):=by and_intros
theorem aO1 {f:Addr} (d:Df K mg "_law_draw" ae7 ["_law_urn_here","_law_many"] f):Def P w K mg base CX0 1 "_law_draw" f ["_law_urn_here","_law_many"] F9:=by
  refine d.ok (N:=["_law_urn_here","_law_many","_law_drawn"]) as6 (λvs H Q E ⟨x,y,h,_⟩=>by rw [h];rfl) (λcdv A outer s H vs Q E hr h=>?_)
  obtain ⟨u,n,rfl,⟨g,m,p,hu,g0,m0,m1,p0,p1⟩,n0,n1,k⟩:=h
  refine ⟨_, (c7 (E7 (l9 aj9 (j6 j9 (pv 0) b9 (fun _ _ => rfl)) b9 (j8 _)) (c7 (i9 (i := 2) as6.nd rfl (Or.inl rfl) (i5 S9 (j6 j9 (pv 0) b9 (fun _ _ => rfl)) (pv 1)))
      (c7 (K7 (i5 J1 (j6 j9 (pv 0) b9 (λ_ _=>rfl)) (pv 1)) (V7 (pv 0) b9 K2))
      (d4 (j2 (pv 2))))) o0)
      (c7 (K7 (i5 S9 (i5 E9 (i5 z9 (j6 j9 (pv 0) b9 (λ_ _=>rfl)) b9) b9) (j6 j9 (pv 0) b9 (λ_ _=>rfl))) (V7 (pv 0) b9 K2))
      (d4 (j2 (i5 S9 (i5 J1 (i5 S9 (i5 Y4 (i5 J1 (j6 j9 (pv 0) b9 (λ_ _=>rfl)) b9) b9) b9) b9) (pv 1)))))),?_⟩
  rw [show start ["_law_urn_here","_law_many","_law_drawn"] [.ref u,.int n]=[some (.ref u),some (.int n),none] from rfl]
  have L1:SqL K H u [.int g,.int m,.int p]:=SqL.of hu;have x0:∀ g m p:Int,atI [V.int g,.int m,.int p] 0=some (.int g):=λ_ _ _=>rfl;have x1:∀ g m p:Int,atI [V.int g,.int m,.int p] 1=some (.int m):=λ_ _ _=>rfl;have x2:∀ g m p:Int,atI [V.int g,.int m,.int p] 2=some (.int p):=λ_ _ _=>rfl
  subst_eqs
  have dn:∀ i,au8 i n:=λi=>aa7 (by lia) (Nat.lt_of_lt_of_le (show n.natAbs<2 ^ 40 by lia) (i6 (by decide)))
  refine ⟨_,L1,_,x0 g m p,_,rfl,F2 (λhg=>?_) (λhg=>?_)⟩
  · refine ⟨_,L1,_,x0 g m p,_,rfl,⋯,_,L1,_,x0 g m p,_,rfl,dn _,_,hu,0,rfl,?_⟩
    exact k _ _ (Int.fmod_nonneg_of_pos _ n0) (Int.fmod_lt_of_pos _ n0) (A0.upd _ _ _) ⟨g.fdiv n,m,p,c6,Int.fdiv_nonneg g0 (by lia),m0,m1,p0,p1⟩
  · have q0:=Int.fmod_nonneg_of_pos (m*60013+12289) p0
    have q1:=Int.fmod_lt_of_pos (m*60013+12289) p0;have z:SqL K (upd H u (.lst [.int g,.int ((m*60013+12289).fmod p),.int p])) u [.int g,.int ((m*60013+12289).fmod p),.int p]:=SqL.of c6
    have d16:0<=((m*60013+12289).fmod p).fdiv 16/\((m*60013+12289).fmod p).fdiv 16<2 ^ 40:=by
      rw [Int.fdiv_eq_ediv_of_nonneg _ (by decide)]
      omega
    refine ⟨_,L1,_,x1 g m p,_,rfl,ap8 (by decide),_,L1,_,x2 g m p,_,rfl,by lia,_,hu,1,rfl,_,z,_,x1 _ _ _,_,rfl,aa7 (by decide) (Nat.lt_of_lt_of_le (show (16:Int).natAbs<2 ^ 40 by decide) (i6 (by decide))),⟨by decide,by decide,⋯⟩,by decide,aa7 (by decide) (Nat.lt_of_lt_of_le (show (8:Int).natAbs<2 ^ 40 by decide) (i6 (by decide))),⋯,?_⟩
    exact k _ _ (Int.fmod_nonneg_of_pos _ n0) (Int.fmod_lt_of_pos _ n0) (A0.upd _ _ _) ⟨g,_,p,c6,g0,q0,⋯,p0,p1⟩
abbrev ae6:Stmt:=top 60
theorem aL4:j4 ["_law_urn_here"] ["_law_urn_here"] (c8 ae6):=by and_intros
theorem aO0 {f fd:Addr} (d:Df K mg "_law_kind" ae6 ["_law_urn_here"] f) (G__law_draw:Def P w K mg base CX0 1 "_law_draw" fd ["_law_urn_here","_law_many"] F9):Def P w K mg base CX0 2 "_law_kind" f ["_law_urn_here"] aU6:=by
 refine d.ok (N:=["_law_urn_here"]) aL4 (λvs H Q E ⟨u,h,_⟩=>by rw [h];rfl) (λcdv A outer s H vs Q E hr h=>?_)
 obtain ⟨u,rfl,hu,k⟩:=h;refine ⟨_,(d4 (j2 (j6 j9 (C5 (b7 b9 (b7 b9 (b7 b9 (b7 b9 (b7 b9 (b7 b9 (b7 b9 (b7 b9 b8))))))))) (d2 G__law_draw hr (b7 (pv 0) (b7 b9 b8)) i4) (λ_ _=>rfl)))),?_⟩;rw [show start ["_law_urn_here"] [.ref u]=[some (.ref u)] from rfl]
 simp! [F9]
 refine ⟨by decide,λl hl=>⟨J2 hu hl,by decide,by decide,λr H' r0 r1 sx hu'=>?_⟩⟩
 have e:=sx l _ c6 (E1 hu hl);have sx':A0 u H H':=A0.trans (c9.x (c9.new hl _) u) sx;have h3:r=0 \/ r=1 \/ r=2 \/ r=3 \/ r=4 \/ r=5 \/ r=6 \/ r=7:=by lia
 rcases h3 with h | h | h | h | h | h | h | h <;> subst h <;> exact ⟨_,SqL.of e,_,rfl,k _ H' (by decide) sx' hu'⟩
abbrev U5:Stmt:=top 61
theorem V9:j4 ["_law_urn_here","_law_kind_here","_law_top"] ["_law_urn_here","_law_kind_here"] (c8 U5):=by and_intros
abbrev ab3:Stmt:=top 77
theorem aF0:j4 ["_law_thing"] ["_law_thing"] (c8 ab3):=by and_intros
theorem aF4 {f:Addr} (d:Df K mg "_law_whole" ab3 ["_law_thing"] f) (n_isinstance:mg "isinstance" = none) (n_int:mg "int" = none) (n_bool:mg "bool" = none):Def P w K mg base CX0 1 "_law_whole" f ["_law_thing"] ar9:=by
 refine d.ok (N:=["_law_thing"]) aF0 (λvs H Q E ⟨u,h,_⟩=>by rw [h];rfl) (λcdv A outer s H vs Q E hr h=>?_)
 obtain ⟨i,rfl,k⟩:=h;refine ⟨_,(d4 (j2 (aM6 (i7 p9 rfl n_isinstance (by decide +kernel) (b7 (pv 0) (b7 (ae8 (v:=.ty "int") rfl n_int (by decide +kernel) rfl) b8))) (aM5 (bw2 (i7 p9 rfl n_isinstance (by decide +kernel) (b7 (pv 0) (b7 (ae8 (v:=.ty "bool") rfl n_bool (by decide +kernel) rfl) b8)))))))),?_⟩
 rw [show start ["_law_thing"] [.int i]=[some (.int i)] from rfl]
 subst_eqs
 exact ⟨trivial,_,.of (.int i),_,aS7,bC2 ⟨trivial,_,.of (.int i),_,aO7,k⟩⟩
abbrev S0:Stmt:=top 78
theorem as5:j4 ["_law_thing"] ["_law_thing"] (c8 S0):=by and_intros
theorem at5 {f fw fl : Addr} (d : Df K mg "_law_is_number" S0 ["_law_thing"] f) (G__law_whole : Def P w K mg base CX0 1 "_law_whole" fw ["_law_thing"] ar9) (G__law_low : Def P w K mg base CX0 1 "_law_low" fl ["_law_top", "_law_bottom"] ap3) (n_isinstance : mg "isinstance" = none) (n_tuple : mg "tuple" = none) (n_len : mg "len" = none) :
    Def P w K mg base CX0 2 "_law_is_number" f ["_law_thing"] (aK3 K):=by
  refine d.ok (N:=["_law_thing"]) as5 (λvs H Q E ⟨u,q,h,_⟩=>by rw [h];rfl) (λcdv A outer s H vs Q E hr h=>?_)
  obtain ⟨x,q,rfl,⟨ap,rfl,hS⟩,hd,k⟩:=h;have hu:=hr.units
  refine ⟨_, (c7 (E7 (PW.pt (ad1 (V5 (V4 (i7 p9 rfl n_isinstance (by decide +kernel) (b7 (pv 0) (b7 (ae8 (v := .ty "tuple") rfl n_tuple (by decide +kernel) rfl) b8))))) (ad1 (l9 ap7 (i7 k6 rfl n_len (by decide +kernel) (b7 (pv 0) b8)) b9 (j8 _)) (ad1 (V5 (V4 (d2 G__law_whole hr (b7 (j6 y3 (pv 0) b9 (fun _ _ => rfl)) b8) i4))) (af6 (V5 (V4 (d2 G__law_whole hr (b7 (j6 y3 (pv 0) b9 (fun _ _ => rfl)) b8) i4)))))))) (d4 (j2 ae9)) o0)
      (d4 (j2 (aM6 (G3 aj9 (j6 y3 (pv 0) b9 (λ_ _=>rfl)) b9 (j8 _)) (aM5 (G3 (ai9 hu) (d2 G__law_low hr (b7 (j6 y3 (pv 0) b9 (λ_ _=>rfl)) (b7 (j6 y3 (pv 0) b9 (λ_ _=>rfl)) b8)) i4) (pv 0) (j8 _))))))),?_⟩
  rw [show start ["_law_thing"] [.ref ap]=[some (.ref ap)] from rfl]
  have dq:=A4 q
  simp! [ar9,aQ7,aQ7]
  refine ⟨trivial,_,.sqt hS,_,aS6,?_⟩
  simp! [ar9,aQ7,aQ7]
  refine ⟨_,.inr hS,?_⟩
  simp! [ar9,aQ7,E8]
  refine F2 (λhh=>absurd rfl hh) (λ_=>?_);refine ⟨_,hS,_,at0 q,_,rfl,_,hS,_,at1 q,_,rfl,_,hS,_,at1 q,_,rfl,?_⟩;rw [if_pos dq];refine ⟨_,hS,_,at0 q,_,hS,_,at1 q,_,_,rfl,by lia,hd,λr H' sm hr'=>?_⟩
  rw [Rat.num_divInt_den] at hr';refine ⟨ad4 q,ad4 q,rfl,aO8 (SqT.of hr'),aO8 (sm.tup hS),aZ3 q q,by2 q,?_⟩;rw [ba1];exact k H' sm
def spOther:Sp:=λvs H Q _ => ∃ u kd,vs=[.ref u,.int kd]/\y9 H u/\∀ r q H',Sm q->q ≠ 0->A0 u H H'->y9 H' u->H' r=some (.tup (E8 q))->Q (.ref r) H'
abbrev ab7:Stmt:=top 62
theorem ap5:j4 ["_law_urn_here","_law_kind_here","_law_found"] ["_law_urn_here","_law_kind_here"] (c8 ab7):=by and_intros
def bh7 (K:q0a):Sp:=λvs H Q _ => ∃ a xs qs,vs=[.ref a]/\SqL K H a xs/\C9 H xs qs/\∀ m r H',ad8 qs m->c9 H H'->H r=none->H' r=some (.lst (xs.take m))->Q (.ref r) H'
abbrev ae1:Stmt:=top 64
theorem as4:j4 ["_law_numbers","_law_found"] ["_law_numbers"] (c8 ae1):=by and_intros
theorem bq9 {α:Type} {xs:List α} {x:α} (h:xs[xs.length-1]? = some x):atI xs (-1)=some x:=by
 have hp:xs.length-1<xs.length:=(q0g.mp h).1
 have e:ixN xs.length (-1)=some (xs.length-1):=by
  unfold ixN;rw [if_neg (by decide)]
  rw [if_pos ⋯]
  congr 1
  omega
 unfold atI;rw [e];exact h
theorem aN5 {f:Addr} (d:Df K mg "_law_trim" ae1 ["_law_numbers"] f) (n_list:mg "list" = none):Def P w K mg base CX0 1 "_law_trim" f ["_law_numbers"] (bh7 K):=by
  refine d.ok (N:=["_law_numbers","_law_found"]) as4 (λvs H Q E ⟨a,xs,qs,h,_⟩=>by rw [h];rfl) (λcdv A outer s H vs Q E hr h=>?_)
  obtain ⟨a,xs,qs,rfl,hS,hN,k⟩:=h;have hu:=hr.units
  refine ⟨_, (c7 (i9 (i := 1) as4.nd rfl (Or.inl rfl) (C8 M9 rfl n_list (by decide +kernel) (b7 (pv 0) b8)))
      (c7 (aB7 PassesOwn.never (PW.pt (aV5 (l9 (aq3 hu) (pv 1) (C5 b8) (j8 _)) (aM2 (l9 Q3 (j6 y3 (j6 j9 (pv 1) (aa0 Q5 b9) (λ_ _=>rfl)) b9 (λ_ _=>rfl)) b9 (j8 _))))) (d4 (W4 (av6 PySem.F.plainAttrs_list PySem.F.slot_list_pop PySem.F.type_list_pop bw9 (pv 1)))))
      (d4 (j2 (pv 1))))),?_⟩
  rw [show start ["_law_numbers","_law_found"] [.ref a]=[some (.ref a),none] from rfl]
  subst_eqs
  refine ⟨_,.inl hS,λl hl=>?_⟩
  refine bg3 (λσ H1=>σ=[some (.ref a),some (.ref l)]/\∃ m,m<=qs.length/\(∀ (i:Nat) (q:Rat),m<=i->qs[i]? = some q->q=0)/\c9 H H1/\H1 l=some (.lst (xs.take m))) (λσ H1=>match H1 l with | some (.lst ys)=>ys.length | _=>0)
    ⟨rfl,qs.length,Nat.le_refl _,λi q hi e=>?_,c9.new hl _,?_⟩ ?_
  · rw [List.getElem?_eq_none hi] at e;cases e
  · rw [c6,<- hN.length,List.take_length]
  · rintro σ H1 ⟨rfl,m,hm,hz,sm,e1⟩
    have hml:(xs.take m).length=m:=by rw [List.length_take,hN.length];lia
    subst_eqs
    refine ⟨by decide,λp hp=>?_⟩
    have n1:C9 H1 (xs.take m) (qs.take m):=(hN.mono sm.tups).take m;have pl:p ≠ l:=(j3 e1 hp).symm;have e2:upd H1 p (.lst []) l=some (.lst (xs.take m)):=by rw [i8 pl.symm];exact e1
    have n2:C9 (upd H1 p (.lst [])) (xs.take m) (qs.take m):=n1.mono (aa2.new hp);refine ⟨O6 (qs.take m),O6 [],rfl,W7 (SqL.of e2) n2,W7 (SqL.of c6) .nil,al7 _ _,Nat.le_trans (au5 _) (by decide),?_⟩
    rw [ah6]
    by_cases h0:m=0
    · subst h0
      simp only [List.take_zero,decide_true,Bool.not_true,Bool.false_eq_true,if_false];refine ⟨false,rfl,F2 (λh=>absurd h (by decide)) λ_=>k 0 l _ ⟨Nat.zero_le _,hz,λh=>absurd rfl h⟩ (sm.trans (c9.new hp _)) hl ?_⟩
      rw [e2]
    · have hlt:m-1<qs.length:=by lia
      have hne:qs.take m ≠ []:=λz=>by
        have:=congrArg List.length z;rw [List.length_take,List.length_nil] at this
        lia
      simp only [hne,decide_false,Bool.not_false];obtain ⟨pv,hv,hpv⟩:=n2.get (i:=m-1) (q:=qs[m-1]) (by rw [List.getElem?_take_of_lt (by lia)];exact List.getElem?_eq_getElem hlt)
      refine ⟨true,rfl,F2 (λ_=>?_) (λh=>absurd rfl h)⟩;refine ⟨_,SqL.of e2,_,bq9 (by rw [hml];exact hv),_,rfl,_,SqT.of hpv,_,at0 _,rfl,?_⟩
      refine F2 (λhn=>?_) (λhn=>?_)
      · have hn':qs[m-1].num=0:=V.int.inj hn
        refine WhB.mk ?_
        subst_eqs
        refine ⟨.inl ⟨_,SqL.of e2⟩,_,e2,_,by rw [hml];exact hv,WhN.mk ⟨rfl,m-1,by exact Nat.le_of_lt ‹_›,λi q hi e=>?_,(sm.trans (c9.new hp _)).over hl _,?_⟩ ?_⟩
        · by_cases hi':i=m-1
          · subst hi'
            rw [List.getElem?_eq_getElem hlt] at e
            cases e
            exact at7.mp hn'
          · exact hz i q (by lia) e
        · rw [c6,List.dropLast_eq_take,hml,List.take_take,Nat.min_eq_left (by simp)]
        · rw [c6]
          simp only [e1,List.length_dropLast]
          lia
      · have hn':qs[m-1] ≠ 0:=λz=>hn (by rw [z];rfl)
        exact k m l _ ⟨hm,hz,λ_ q e=>by rw [List.getElem?_eq_getElem hlt] at e;cases e;exact hn'⟩ (sm.trans (c9.new hp _)) hl e2
structure BtN (k:Nat) (q:Rat):Prop where
 n:q.num.natAbs<2 ^ 20000
 d:q.den<2 ^ k
theorem BtN.d' {n:Nat} {q:Rat} (b:BtN n q):(q.den:Int).natAbs<2 ^ n:=by rw [q0w];exact b.d
theorem BtN.zero {n:Nat} (h:1<=n):BtN n 0:=⟨v0g _,q0b (show 1<2 ^ 1 by decide) (i6 h)⟩
theorem BdN.t {n:Nat} {q:Rat} (b:BdN n q) (h:n<=20000):BtN n q:=⟨q0b b.n (i6 h),b.d⟩
theorem C9.set {H:Hp}:∀ {vs:List V} {qs:List Rat} (k:Nat) {p:Addr} {q:Rat},C9 H vs qs->H p=some (.tup (E8 q))->C9 H (vs.set k (.ref p)) (qs.set k q)
 | _,_,_,_,_,.nil,_=>.nil
 | _,_,0,_,_,.cons _ t,h=>.cons h t
 | _,_,k+1,_,_,.cons h' t,h=>.cons h' (t.set k h)
theorem C9.rep {H:Hp} {p:Addr} {q:Rat} (h:H p=some (.tup (E8 q))):∀ n,C9 H (z0a n (.ref p)) (z0a n q)
 | 0=>.nil
 | n+1=>.cons h (C9.rep h n)
def J3 (K:q0a) (op:Rat->Rat->Rat):Sp:=λvs H Q _ => ∃ (x y:V) (p q:Rat) (m n:Nat),vs=[x,y]/\Num K H x p/\Num K H y q/\BtN m p/\BtN n q/\m+n<=6000/\am9 H Q (op p q)
theorem by3 {p q:Rat} {m n:Nat} (bp:BtN m p) (bq:BtN n q) (h:m+n<=6000):((p.den:Int)*q.den).natAbs<2 ^ 6000:=by
 rw [z0k];have:=z0g bp.d' bq.d';rw [<- z0f] at this;exact q0b this (i6 h)
theorem aP4 (p q:Rat):(p.den:Int)*q.den ≠ 0:=g0k (u0w (A4 p) (A4 q))
abbrev ae3:Stmt:=top 55
theorem aL1:j4 ["_law_one_here","_law_other_here"] ["_law_one_here","_law_other_here"] (c8 ae3):=by and_intros
theorem aN7 {f fl:Addr} (d:Df K mg "_law_plus" ae3 ["_law_one_here","_law_other_here"] f) (G__law_low:Def P w K mg base CX0 1 "_law_low" fl ["_law_top","_law_bottom"] ap3):Def P w K mg base CX0 2 "_law_plus" f ["_law_one_here","_law_other_here"] (J3 K (· + ·)):=by
 refine d.ok (N:=["_law_one_here","_law_other_here"]) aL1 (by rintro vs H Q E ⟨x,y,p,q,m,n,h,_⟩;rw [h];rfl) (λcdv A outer s H vs Q E hr h=>?_)
 obtain ⟨x,y,p,q,m,n,rfl,⟨ap,rfl,hp⟩,⟨aq,rfl,hq⟩,bp,bq,hmn,k⟩:=h;refine ⟨_,(d4 (j2 (d2 G__law_low hr (b7 (i5 E9 (i5 z9 (j6 y3 (pv 0) b9 (λ_ _=>rfl)) (j6 y3 (pv 1) b9 (λ_ _=>rfl))) (i5 z9 (j6 y3 (pv 1) b9 (λ_ _=>rfl)) (j6 y3 (pv 0) b9 (λ_ _=>rfl)))) (b7 (i5 z9 (j6 y3 (pv 0) b9 (λ_ _=>rfl)) (j6 y3 (pv 1) b9 (λ_ _=>rfl))) b8)) i4))),?_⟩;rw [show start ["_law_one_here","_law_other_here"] [.ref ap,.ref aq]=[some (.ref ap),some (.ref aq)] from rfl]
 subst_eqs
 refine ⟨_,hp,_,at0 p,_,hq,_,at1 q,_,rfl,_,rfl,U0 bp.n bq.d' (by lia),_,hq,_,at0 q,_,hp,_,at1 p,_,rfl,_,rfl,U0 bq.n bp.d' (by lia),_,hp,_,at1 p,_,hq,_,at1 q,_,rfl,_,rfl,U0 bp.d' bq.d' (by lia),?_⟩
 refine ⟨_,_,rfl,aP4 p q,by3 bp bq hmn,?_⟩;rw [<- ar2];exact k
abbrev ab5:Stmt:=top 57
theorem aF1:j4 ["_law_one_here","_law_other_here"] ["_law_one_here","_law_other_here"] (c8 ab5):=by and_intros
theorem aF6 {f fl:Addr} (d:Df K mg "_law_times" ab5 ["_law_one_here","_law_other_here"] f) (G__law_low:Def P w K mg base CX0 1 "_law_low" fl ["_law_top","_law_bottom"] ap3):Def P w K mg base CX0 2 "_law_times" f ["_law_one_here","_law_other_here"] (J3 K (· * ·)):=by
 refine d.ok (N:=["_law_one_here","_law_other_here"]) aF1 (by rintro vs H Q E ⟨x,y,p,q,m,n,h,_⟩;rw [h];rfl) (λcdv A outer s H vs Q E hr h=>?_)
 obtain ⟨x,y,p,q,m,n,rfl,⟨ap,rfl,hp⟩,⟨aq,rfl,hq⟩,bp,bq,hmn,k⟩:=h;refine ⟨_,(d4 (j2 (d2 G__law_low hr (b7 (i5 z9 (j6 y3 (pv 0) b9 (λ_ _=>rfl)) (j6 y3 (pv 1) b9 (λ_ _=>rfl))) (b7 (i5 z9 (j6 y3 (pv 0) b9 (λ_ _=>rfl)) (j6 y3 (pv 1) b9 (λ_ _=>rfl))) b8)) i4))),?_⟩;rw [show start ["_law_one_here","_law_other_here"] [.ref ap,.ref aq]=[some (.ref ap),some (.ref aq)] from rfl]
 subst_eqs
 refine ⟨_,hp,_,at0 p,_,hq,_,at0 q,_,rfl,_,rfl,U0 bp.n bq.n (by simp),_,hp,_,at1 p,_,hq,_,at1 q,_,rfl,_,rfl,U0 bp.d' bq.d' ⋯,?_⟩
 refine ⟨_,_,rfl,aP4 p q,by3 bp bq hmn,?_⟩;rw [<- aC7];exact k
structure B8 (B W:Nat) (M:List (List Rat)):Prop where
 n7:M.length<=7
 B0:0<B
 BW:B<2 ^ W
 row:∀ L ∈ M,L.length=M.length/\∀ q ∈ L,OvB B W q
theorem bj0 {B W:Nat} {q:Rat} (B0:0<B) (BW:B<2 ^ W) (h:OvB B W q):BdN W q:=by
 obtain ⟨v,rfl,b⟩:=h;have x:=N9 (t:=v) (b:=(B:Int)) ⋯;exact ⟨q0p x.1 b,q0p x.2 (by rw [q0w];exact BW)⟩
theorem B8.bd {B W:Nat} {M:List (List Rat)} (h:B8 B W M):∀ L ∈ M,L.length=M.length/\∀ x ∈ L,BdN W x:=λL hL=>⟨(h.row L hL).1,λx hx=>bj0 h.B0 h.BW ((h.row L hL).2 x hx)⟩
theorem B8.cl {B W:Nat} {M:List (List Rat)} (h:B8 B W M):∀ L ∈ M,L.length=M.length/\ClN W L:=λL hL=>⟨(h.row L hL).1,ah7 h.B0 h.BW (h.row L hL).2⟩
theorem B8.flip {B W:Nat} {N:List (List Rat)} (h:B8 B W N):∀ C ∈ W8 N N.length,C.length=N.length/\ClN W C:=λC hC=>by
 obtain ⟨j,hj,rfl⟩:=z0e.mp hC;refine ⟨aj6 N j,ah7 h.B0 h.BW λq hq=>?_⟩;obtain ⟨L,hL,rfl⟩:=z0e.mp hq
 cases e:L[j]? with
 | none=>exact OvB.zero _ _
 | some q=>exact (h.row L hL).2 q (q0c e)
def aK1 (K:q0a) (C:Addr):Sp:=λvs H Q E => ∃ (a b:Addr) (ts us:List Addr) (M N:List (List Rat)) (B W C' V':Nat),vs=[.ref a,.ref b]/\H a=some (.lst (ts.map V.ref))/\P8 K H ts M/\H b=some (.lst (us.map V.ref))/\P8 K H us N/\B8 B W M/\B8 C' V' N/\W+V'<=5990/\(M.length ≠ N.length->E (.ref C) none H)/\(M.length=N.length->O9 H Q (ag1 M N))
abbrev Z7:Stmt:=top 37
theorem aK7:j4 ["table","other"] ["table","other"] (c8 Z7):=by and_intros
theorem aN3 {f f1 f2 C:Addr} (d:Df K mg "table_sum" Z7 ["table","other"] f) (G_check_pair:Def P w K mg base (CXR P w) 1 "check_pair" f1 ["one","other"] (ak7 K C)) (G_plus:Def P w K mg base CX0 2 "plus" f2 ["one","other"] (aQ6 K (· + ·))) (n_zip:mg "zip" = none):Def P w K mg base (CXR P w) 4 "table_sum" f ["table","other"] (aK1 K C):=by
  refine d.okR (N:=["table","other"]) aK7 (by rintro vs H Q E ⟨_,_,_,_,_,_,_,_,_,_,h,_⟩;rw [h];rfl) (λcdv A outer s H vs Q E hr h=>?_)
  obtain ⟨a,b,ts,us,M,N,B,W,C',V',rfl,ha,hR,hb,hS,hM,hN,hWV,k0,k1⟩:=h
  refine ⟨_, (c7 (W4 (d2 G_check_pair hr (b7 (pv 0) (b7 (pv 1) b8)) (L8 fun _ _ h => h)))
      (d4 (j2 (t9 (Nc:=["row","other_row"]) (caps:=[none,none]) rfl (G5.of (osc:=c8 Z7) (N:=["table","other"]) (ks:=[]) rfl rfl rfl rfl k9 (by decide +kernel)) (af7 rfl n_zip (b7 (pv 0) (b7 (pv 1) b8))) (λC s₂ H₂ fp pins=>(show PG _ _ (U2 K 2 (w9 (t4 0) (w9 (t4 1) U3))) from by (refine F4 (n:=2) ?_ ?_ ?_ ?_;rfl;(refine j1 ?_ ?_ ?_;(exact (d5 (i:=0) (show List.Nodup (["row","other_row"]:List Str) by decide +kernel) rfl (Or.inl rfl) (Or.inr rfl)));(refine j1 ?_ ?_ ?_;(exact (d5 (i:=1) (show List.Nodup (["row","other_row"]:List Str) by decide +kernel) rfl (Or.inl rfl) (Or.inr rfl)));(exact C6);rfl);rfl);rfl;rfl))) (λC s₂ H₂ fp pins=>(t9 (Nc:=["a","b"]) (caps:=[none,none]) rfl (G5.of (osc:=_) (N:=["row","other_row"]) (ks:=[]) rfl rfl rfl rfl k9 (by kernel_rfl)) (show PI _ _ _ (bk4 K _) from by exact (af7 rfl n_zip (b7 (pv 0) (b7 (pv 1) b8)))) (λC s₂ H₂ fp pins=>(show PG _ _ (U2 K 2 (w9 (t4 0) (w9 (t4 1) U3))) from by (refine F4 (n:=2) ?_ ?_ ?_ ?_;rfl;(refine j1 ?_ ?_ ?_;(exact (d5 (i:=0) (show List.Nodup (["a","b"]:List Str) by decide +kernel) rfl (Or.inl rfl) (Or.inr rfl)));(refine j1 ?_ ?_ ?_;(exact (d5 (i:=1) (show List.Nodup (["a","b"]:List Str) by decide +kernel) rfl (Or.inl rfl) (Or.inr rfl)));(exact C6);rfl);rfl);rfl;rfl))) (λC s₂ H₂ fp pins=>(d2 G_plus hr (b7 (pv 0) (b7 (pv 1) b8)) i4)))))))),?_⟩
  rw [show start ["table","other"] [.ref a,.ref b]=[some (.ref a),some (.ref b)] from rfl]
  subst_eqs
  refine ⟨a,b,_,_,rfl,SqL.of ha,SqL.of hb,λhl0=>?_,λhl0=>k0 λz=>hl0 (by rw [List.length_map,List.length_map,hR.length,hS.length,z])⟩
  have hl:M.length=N.length:=by rw [List.length_map,List.length_map,hR.length,hS.length] at hl0;exact hl0
  replace k1:=k1 hl
  have hRl:=hR.length;have hSl:=hS.length;refine ⟨⟨_,SqL.of ha⟩,⟨_,SqL.of hb⟩,λD hD=>?_⟩;have lz:(ag1 M N).length=M.length:=by unfold ag1;rw [List.length_zipWith];lia
  refine am5 (ts.map V.ref) (us.map V.ref) (λi σ H2 => ∃ o1 o2,σ=[o1,o2]/\t7 H D ((ag1 M N).take i) H2) ⟨_,_,rfl,t7.start hD⟩ (by rintro i σ H2 ⟨_,_,_,T⟩;exact ⟨SqL.of (T.same _ _ ha),SqL.of (T.same _ _ hb)⟩) ?_ ?_
  · rintro i x y σ H2 pt hx hy ⟨o1,o2,rfl,T⟩ hpt
    obtain ⟨t,ht,rfl⟩:=B7 hx;obtain ⟨u,hu,rfl⟩:=B7 hy;obtain ⟨xs,L,hL,et,nt⟩:=hR.get ht;obtain ⟨ys,L',hL',eu,nu⟩:=hS.get hu;have hLm:=hM.bd L (List.mem_of_getElem? hL);have hLn:=hN.bd L' (List.mem_of_getElem? hL')
    have hi:i<min (ts.map V.ref).length (us.map V.ref).length:=by
      have h1:=(List.getElem?_eq_some_iff.mp hx).1;have h2:=(List.getElem?_eq_some_iff.mp hy).1
      lia
    have st:=c9.new hpt (.tup [.ref t,.ref u]);have S2:=T.same.trans st;have lx:=nt.length;have ly:=nu.length;have m7:=hM.n7;have l7:=hLm.1
    subst_eqs
    refine ⟨_,SqT.of c6,rfl,_,_,rfl,_,_,rfl,rfl,?_⟩;refine ⟨_,rfl,_,rfl,⟨_,SqL.of (S2 _ _ et)⟩,⟨_,SqL.of (S2 _ _ eu)⟩,λD2 hD2=>?_⟩;refine am5 xs ys (λj σ H3 => ∃ o1 o2,σ=[o1,o2]/\G8 (upd H2 pt (.tup [.ref t,.ref u])) D2 ((List.zipWith (· + ·) L L').take j) H3) ⟨_,_,rfl,G8.start hD2⟩ (by rintro j σ H3 ⟨_,_,_,R⟩;exact ⟨SqL.of (R.same _ _ (S2 _ _ et)),SqL.of (R.same _ _ (S2 _ _ eu))⟩) ?_ ?_
    · rintro j x y σ H3 p2 hx2 hy2 ⟨o1,o2,rfl,R⟩ hp2
      obtain ⟨px,q1,rfl,hq1,hpx⟩:=nt.getV hx2;obtain ⟨py,q2,rfl,hq2,hpy⟩:=nu.getV hy2;have b1:=hLm.2 q1 (List.mem_of_getElem? hq1);have b2:=hLn.2 q2 (List.mem_of_getElem? hq2);have st2:=c9.new hp2 (.tup [.ref px,.ref py]);have S3:=(S2.trans R.same).trans st2
      have hj:j<min xs.length ys.length:=by
        have h1:=(List.getElem?_eq_some_iff.mp hx2).1;have h2:=(List.getElem?_eq_some_iff.mp hy2).1
        lia
      subst_eqs
      refine ⟨_,SqT.of c6,rfl,_,_,rfl,_,_,rfl,rfl,?_⟩;refine ⟨_,_,q1,q2, rfl,⟨px,rfl,(hpx.mono S3.tups).sqt⟩,⟨py,rfl,(hpy.mono S3.tups).sqt⟩,b1.bd6 (by lia),b2.bd6 (by lia),λp5 H5 s5 e5=>?_⟩
      obtain ⟨zs,eD,yl,R'⟩:=R.add hD2 (st2.trans s5) e5;refine t6.mk hj eD (w5 (by rw [yl,List.length_take,List.length_zipWith];lia)) ⟨_,_,rfl,?_⟩
      rw [d7 (ar5 hq1 hq2)];exact R'
    · rintro σ H3 ⟨o1,o2,rfl,R⟩
      rw [t5 (by rw [List.length_zipWith,lx,ly];exact Nat.le_refl _)] at R
      obtain ⟨zs,eD,yl,T'⟩:=(T.to st).add hD hD2 R;refine t6.mk hi eD (w5 (by rw [yl,List.length_take,lz];lia)) ⟨_,_,rfl,?_⟩
      rw [d7 (l:=ag1 M N) (ar5 hL hL')];exact T'
  · rintro σ H2 ⟨o1,o2,rfl,T⟩
    rw [t5 (by rw [lz,List.length_map,List.length_map];lia)] at T
    exact T.res k1 hD
def aQ4 (K:q0a):Sp:=λvs H Q E => ∃ (a b:Addr) (ts us:List Addr) (M N:List (List Rat)) (B W C' V':Nat),vs=[.ref a,.ref b]/\H a=some (.lst (ts.map V.ref))/\P8 K H ts M/\H b=some (.lst (us.map V.ref))/\P8 K H us N/\B8 B W M/\B8 C' V' N/\W+V'<=5990/\M.length=N.length/\O9 H Q (ag1 M N)
abbrev M5:Stmt:=top 73
theorem aq2:j4 ["_law_one_here","_law_other_here"] ["_law_one_here","_law_other_here"] (c8 M5):=by and_intros
theorem aq7 {f f2:Addr} (d:Df K mg "_law_table_plus" M5 ["_law_one_here","_law_other_here"] f) (G__law_plus:Def P w K mg base CX0 2 "_law_plus" f2 ["_law_one_here","_law_other_here"] (J3 K (· + ·))) (n_zip:mg "zip" = none):Def P w K mg base CX0 4 "_law_table_plus" f ["_law_one_here","_law_other_here"] (aQ4 K):=by
 refine d.ok (N:=["_law_one_here","_law_other_here"]) aq2 (by rintro vs H Q E ⟨_,_,_,_,_,_,_,_,_,_,h,_⟩;rw [h];rfl) (λcdv A outer s H vs Q E hr h=>?_)
 obtain ⟨a,b,ts,us,M,N,B,W,C',V',rfl,ha,hR,hb,hS,hM,hN,hWV,hl,k1⟩:=h;refine ⟨_,(d4 (j2 (t9 (Nc:=["_law_row","_law_far"]) (caps:=[none,none]) rfl (G5.of (osc:=c8 M5) (N:=["_law_one_here","_law_other_here"]) (ks:=[]) rfl rfl rfl rfl k9 (by decide +kernel)) (af7 rfl n_zip (b7 (pv 0) (b7 (pv 1) b8))) (λC s₂ H₂ fp pins=>(show PG _ _ (U2 K 2 (w9 (t4 0) (w9 (t4 1) U3))) from by (refine F4 (n:=2) ?_ ?_ ?_ ?_;rfl;(refine j1 ?_ ?_ ?_;(exact (d5 (i:=0) (show z0q (["_law_row","_law_far"]:List Str) by decide +kernel) rfl (q0x rfl) (z0w rfl)));(refine j1 ?_ ?_ ?_;(exact (d5 (i:=1) (show z0q (["_law_row","_law_far"]:List Str) by decide +kernel) rfl (q0x rfl) (z0w rfl)));(exact C6);rfl);rfl);rfl;rfl))) (λC s₂ H₂ fp pins=>(t9 (Nc:=["_law_a","_law_b"]) (caps:=[none,none]) rfl (G5.of (osc:=_) (N:=["_law_row","_law_far"]) (ks:=[]) rfl rfl rfl rfl k9 (by kernel_rfl)) (show PI _ _ _ (bk4 K _) from by exact (af7 rfl n_zip (b7 (pv 0) (b7 (pv 1) b8)))) (λC s₂ H₂ fp pins=>(show PG _ _ (U2 K 2 (w9 (t4 0) (w9 (t4 1) U3))) from by (refine F4 (n:=2) ?_ ?_ ?_ ?_;rfl;(refine j1 ?_ ?_ ?_;(exact (d5 (i:=0) (show z0q (["_law_a","_law_b"]:List Str) by decide +kernel) rfl (q0x rfl) (z0w rfl)));(refine j1 ?_ ?_ ?_;(exact (d5 (i:=1) (show z0q (["_law_a","_law_b"]:List Str) by decide +kernel) rfl (q0x rfl) (z0w rfl)));(exact C6);rfl);rfl);rfl;rfl))) (λC s₂ H₂ fp pins=>(d2 G__law_plus hr (b7 (pv 0) (b7 (pv 1) b8)) i4))))))),?_⟩
 rw [show start ["_law_one_here","_law_other_here"] [.ref a,.ref b]=[some (.ref a),some (.ref b)] from rfl]
 subst_eqs
 have hRl:=hR.length;have hSl:=hS.length;refine ⟨⟨_,SqL.of ha⟩,⟨_,SqL.of hb⟩,λD hD=>?_⟩;have lz:(ag1 M N).length=M.length:=by unfold ag1;rw [v0v];omega
 refine am5 (ts.map V.ref) (us.map V.ref) (λi σ H2 => ∃ o1 o2,σ=[o1,o2]/\t7 H D ((ag1 M N).take i) H2) ⟨_,_,rfl,t7.start hD⟩ (by rintro i σ H2 ⟨_,_,_,T⟩;exact ⟨SqL.of (T.same _ _ ha),SqL.of (T.same _ _ hb)⟩) ?_ ?_
 ·rintro i x y σ H2 pt hx hy ⟨o1,o2,rfl,T⟩ hpt
  obtain ⟨t,ht,rfl⟩:=B7 hx;obtain ⟨u,hu,rfl⟩:=B7 hy;obtain ⟨xs,L,hL,et,nt⟩:=hR.get ht;obtain ⟨ys,L',hL',eu,nu⟩:=hS.get hu;have hLm:=hM.bd L (q0c hL);have hLn:=hN.bd L' (q0c hL')
  have hi:i<min (ts.map V.ref).length (us.map V.ref).length:=by
   have h1:=(q0g.mp hx).1;have h2:=(q0g.mp hy).1
   lia
  have st:=c9.new hpt (.tup [.ref t,.ref u]);have S2:=T.same.trans st;have lx:=nt.length;have ly:=nu.length;have m7:=hM.n7;have l7:=hLm.1
  subst_eqs
  refine ⟨_,SqT.of c6,rfl,_,_,rfl,_,_,rfl,rfl,?_⟩;refine ⟨_,rfl,_,rfl,⟨_,SqL.of (S2 _ _ et)⟩,⟨_,SqL.of (S2 _ _ eu)⟩,λD2 hD2=>?_⟩;refine am5 xs ys (λj σ H3 => ∃ o1 o2,σ=[o1,o2]/\G8 (upd H2 pt (.tup [.ref t,.ref u])) D2 ((u0b (· + ·) L L').take j) H3) ⟨_,_,rfl,G8.start hD2⟩ (by rintro j σ H3 ⟨_,_,_,R⟩;exact ⟨SqL.of (R.same _ _ (S2 _ _ et)),SqL.of (R.same _ _ (S2 _ _ eu))⟩) ?_ ?_
  ·rintro j x y σ H3 p2 hx2 hy2 ⟨o1,o2,rfl,R⟩ hp2
   obtain ⟨px,q1,rfl,hq1,hpx⟩:=nt.getV hx2;obtain ⟨py,q2,rfl,hq2,hpy⟩:=nu.getV hy2;have b1:=hLm.2 q1 (q0c hq1);have b2:=hLn.2 q2 (q0c hq2);have st2:=c9.new hp2 (.tup [.ref px,.ref py]);have S3:=(S2.trans R.same).trans st2
   have hj:j<min xs.length ys.length:=by
    have h1:=(q0g.mp hx2).1;have h2:=(q0g.mp hy2).1;omega
   subst_eqs
   refine ⟨_,SqT.of c6,rfl,_,_,rfl,_,_,rfl,rfl,?_⟩;refine ⟨_,_,q1,q2,W,V',rfl,⟨px,rfl,(hpx.mono S3.tups).sqt⟩,⟨py,rfl,(hpy.mono S3.tups).sqt⟩,b1.t (by lia),b2.t (by lia),by lia,λp5 H5 s5 e5=>?_⟩
   obtain ⟨zs,eD,yl,R'⟩:=R.add hD2 (st2.trans s5) e5;refine t6.mk hj eD (w5 (by rw [yl,q0v,v0v];omega)) ⟨_,_,rfl,?_⟩
   rw [d7 (ar5 hq1 hq2)];exact R'
  ·rintro σ H3 ⟨o1,o2,rfl,R⟩
   rw [t5 (by rw [v0v,lx,ly];exact q0h _)] at R
   obtain ⟨zs,eD,yl,T'⟩:=(T.to st).add hD hD2 R;refine t6.mk hi eD (w5 (by rw [yl,q0v,lz];omega)) ⟨_,_,rfl,?_⟩
   rw [d7 (l:=ag1 M N) (ar5 hL hL')];exact T'
 ·rintro σ H2 ⟨o1,o2,rfl,T⟩
  rw [t5 (by rw [lz,q0e,q0e];omega)] at T
  exact T.res k1 hD
def av0 (K:q0a) (C:Addr):Sp:=λvs H Q E => ∃ (a b:Addr) (ts us:List Addr) (M N:List (List Rat)) (B W C' V':Nat),vs=[.ref a,.ref b]/\H a=some (.lst (ts.map V.ref))/\P8 K H ts M/\H b=some (.lst (us.map V.ref))/\Rws H us N/\B8 B W M/\B8 C' V' N/\W+V'<=5990/\(M.length ≠ N.length->E (.ref C) none H)/\(M.length=N.length->O9 H Q (al3 M N))
abbrev N4:Stmt:=top 40
theorem ac7:j4 ["table","other","rows","columns"] ["table","other"] (c8 N4):=by and_intros
theorem aC2 {f f1 f2 f3 f4 C:Addr} (d:Df K mg "table_times" N4 ["table","other"] f) (G_check_pair:Def P w K mg base (CXR P w) 1 "check_pair" f1 ["one","other"] (ak7 K C)) (G_cleared:Def P w K mg base CX0 2 "cleared" f2 ["numbers"] (ag3 K)) (G_matched:Def P w K mg base CX0 3 "matched" f3 ["one","other"] (av1 K)) (G_turned:Def P w K mg base CX0 1 "turned" f4 ["table"] (as0 K)):Def P w K mg base (CXR P w) 4 "table_times" f ["table","other"] (av0 K C):=by
  refine d.okR (N:=["table","other","rows","columns"]) ac7 (by rintro vs H Q E ⟨_,_,_,_,_,_,_,_,_,_,h,_⟩;rw [h];rfl) (λcdv A outer s H vs Q E hr h=>?_)
  obtain ⟨a,b,ts,us,M,N,B,W,C',V',rfl,ha,hR,hb,hS,hM,hN,hWV,k0,k1⟩:=h
  refine ⟨_, (c7 (W4 (d2 G_check_pair hr (b7 (pv 0) (b7 (pv 1) b8)) (L8 fun _ _ h => h)))
      (c7 (V6 (i₀:=2) ac7.nd rfl (Or.inl rfl) (Nc:=["row"]) (caps:=[none]) rfl (G5.of (osc:=c8 N4) (N:=["table","other","rows","columns"]) (ks:=[]) rfl rfl rfl rfl k9 (by decide +kernel)) (A5 (pv 0)) (λC s₂ H₂ fp pins=>(d5 (i:=0) (show List.Nodup (["row"]:List Str) by decide +kernel) rfl (Or.inl rfl) (Or.inr rfl))) (λC s₂ H₂ fp pins=>(d2 G_cleared hr (b7 (pv 0) b8) i4)))
      (c7 (i9 (i:=3) ac7.nd rfl (Or.inr rfl) (t9 (Nc:=["column"]) (caps:=[none]) rfl (G5.of (osc:=c8 N4) (N:=["table","other","rows","columns"]) (ks:=[]) rfl rfl rfl rfl k9 (by decide +kernel)) (A5 (d2 G_turned hr (b7 (pv 1) b8) i4)) (λC s₂ H₂ fp pins=>(d5 (i:=0) (show List.Nodup (["column"]:List Str) by decide +kernel) rfl (Or.inl rfl) (Or.inr rfl))) (λC s₂ H₂ fp pins=>(d2 G_cleared hr (b7 (pv 0) b8) i4))))
      (d4 (j2 (ah0 (Nc:=["columns","row"]) (caps:=[some 3,none]) rfl (ak0.of (osc:=c8 N4) (N:=["table","other","rows","columns"]) (ks:=["columns"]) rfl rfl rfl rfl (j7 rfl k9) (by decide +kernel)) (A5 (pv 2)) (λC s₂ H₂ fp pins=>(d5 (i:=1) (show List.Nodup (["columns","row"]:List Str) by decide +kernel) rfl (Or.inr rfl) (Or.inl rfl))) (λC s₂ H₂ fp pins=>(t9 (Nc:=["row","column"]) (caps:=[some 1,none]) rfl (G5.of (osc:=_) (N:=["columns","row"]) (ks:=["row"]) rfl rfl rfl rfl (j7 rfl k9) (by kernel_rfl)) (show PI _ _ _ (am0 K _) from by exact (A5 (pv 0))) (λC s₂ H₂ fp pins=>(d5 (i:=1) (show List.Nodup (["row","column"]:List Str) by decide +kernel) rfl (Or.inl rfl) (Or.inr rfl))) (λC s₂ H₂ fp pins=>(d2 G_matched hr (b7 (pv 0) (b7 (pv 1) b8)) i4)))))))))),?_⟩
  rw [show start ["table","other","rows","columns"] [.ref a,.ref b]=[some (.ref a),some (.ref b),none,none] from rfl]
  subst_eqs
  have m7:=hM.n7;have n7:=hN.n7;have hRl:=hR.length;have hSl:=hS.length;refine ⟨a,b,_,_,rfl,SqL.of ha,SqL.of hb,λhl0=>?_,λhl0=>k0 λz=>hl0 (by rw [List.length_map,List.length_map,hRl,hSl,z])⟩
  have hl:M.length=N.length:=by rw [List.length_map,List.length_map,hRl,hSl] at hl0;exact hl0
  replace k1:=k1 hl
  refine ⟨⟨_,SqL.of ha⟩,λDR hDR=>?_⟩;refine B9 (ts.map V.ref) (λi σ H2 => ∃ o,σ=[o]/\ClR H DR (M.take i) H2) ⟨_,rfl,ClR.start hDR⟩ (λi σ H2 _ ⟨_,_,T⟩=>SqL.of (T.same _ _ ha)) ?_ ?_
  · rintro i x σ H2 hx ⟨o,rfl,T⟩
    have hi:=(List.getElem?_eq_some_iff.mp hx).1;obtain ⟨t,ht,rfl⟩:=B7 hx;obtain ⟨xs,L,hL,et,nt⟩:=hR.get ht;have hLm:=hM.cl L (List.mem_of_getElem? hL);have l7:=hLm.1;have clL:=hLm.2
    subst_eqs
    refine ⟨t,xs,L,rfl,SqL.of (T.same _ _ et),nt.mono T.same.tups,⟨_,clL,by lia⟩,by lia,λr2 l2 H3 s3 f3 e3 el3=>?_⟩
    obtain ⟨zs,eD,yl,T'⟩:=T.add hDR s3 f3 e3 el3;refine t6.mk hi eD (w5 (by rw [yl,List.length_take];lia)) ⟨_,rfl,?_⟩
    rw [d7 hL];exact T'
  rintro σ H1 ⟨o,rfl,TR⟩;rw [t5 (by rw [List.length_map];lia)] at TR
  refine ⟨b,us,N,rfl,TR.same _ _ hb,hS.same TR.same,λL hL=>(hN.cl L hL).1,by lia,λc cs H2 s2 fc fcs ndc ec hC=>?_⟩
  have lC:=hC.length;rw [N8] at lC;refine ⟨c,rfl,⟨_,SqL.of ec⟩,λDC hDC=>?_⟩;refine B9 (cs.map V.ref) (λi σ H3 => ∃ o,σ=[o]/\ClR H2 DC ((W8 N N.length).take i) H3) ⟨_,rfl,ClR.start hDC⟩ (λi σ H3 _ ⟨_,_,T⟩=>SqL.of (T.same _ _ ec)) ?_ ?_
  · rintro i x σ H3 hx ⟨o,rfl,T⟩
    have hi:=(List.getElem?_eq_some_iff.mp hx).1;obtain ⟨t,ht,rfl⟩:=B7 hx;obtain ⟨xs,L,hL,et,nt⟩:=hC.get ht;have hLm:=hN.flip L (List.mem_of_getElem? hL);have l7:=hLm.1;have clL:=hLm.2
    subst_eqs
    refine ⟨t,xs,L,rfl,SqL.of (T.same _ _ et),nt.mono T.same.tups,⟨_,clL,by lia⟩,by lia,λr2 l2 H4 s4 f4 e4 el4=>?_⟩
    obtain ⟨zs,eD,yl,T'⟩:=T.add hDC s4 f4 e4 el4;refine t6.mk hi eD (w5 (by rw [yl,List.length_take,N8];lia)) ⟨_,rfl,?_⟩
    rw [d7 hL];exact T'
  rintro σ H3 ⟨o,rfl,TC⟩;rw [t5 (by rw [List.length_map,N8];lia)] at TC
  have S3:=TR.same.trans (s2.trans TC.same);obtain ⟨_,rs,eR,cR⟩:=TR;obtain ⟨sC,qs,eC,cC⟩:=TC;have eR3:=sC _ _ (s2 _ _ eR);have cR3:=(cR.same s2).same sC;have lR:=cR.length;have lQ:=cC.length;rw [N8] at lQ;refine ⟨DR,rfl,⟨_,SqL.of eR3⟩,λD hD=>?_⟩;refine B9 rs (λi σ H4 => ∃ o,σ=[some (.ref DC),o]/\t7 H3 D ((al3 M N).take i) H4) ⟨_,rfl,t7.start hD⟩ (λi σ H4 _ ⟨_,_,T⟩=>SqL.of (T.same _ _ eR3)) ?_ ?_
  · rintro i x σ H4 hx ⟨o,rfl,T⟩
    have hi:=(List.getElem?_eq_some_iff.mp hx).1;obtain ⟨L,hL,r1,l1,rfl,er1,el1,_⟩:=cR3.get hx;have hLm:=hM.cl L (List.mem_of_getElem? hL);have l7:=hLm.1;have clL:=hLm.2
    subst_eqs
    refine ⟨⟨_,SqL.of (T.same _ _ eC)⟩,λD2 hD2=>?_⟩;refine B9 qs (λj σ H5 => ∃ o,σ=[some (.ref r1),o]/\G8 H4 D2 (((W8 N N.length).map (G9 L)).take j) H5) ⟨_,rfl,G8.start hD2⟩ (λj σ H5 _ ⟨_,_,R⟩=>SqL.of (R.same _ _ (T.same _ _ eC))) ?_ ?_
    · rintro j y σ H5 hy ⟨o,rfl,R⟩
      have hj:=(List.getElem?_eq_some_iff.mp hy).1;obtain ⟨C',hC',r2,l2,rfl,er2,el2,_⟩:=cC.get hy;have hCm:=hN.flip C' (List.mem_of_getElem? hC');have l8:=hCm.1;have clC:=hCm.2;have S5:=T.same.trans R.same
      subst_eqs
      refine ⟨.ref r1,.ref r2,L,C',_,_,rfl,⟨r1,l1,rfl,SqT.of (S5 _ _ er1),SqL.of (S5 _ _ el1)⟩,⟨r2,l2,rfl,SqT.of (S5 _ _ er2),SqL.of (S5 _ _ el2)⟩,clL,clC,by lia,by lia,λp6 H6 s6 e6=>?_⟩
      obtain ⟨zs,eD,yl,R'⟩:=R.add hD2 s6 e6;refine t6.mk hj eD (w5 (by rw [yl,List.length_take,List.length_map,N8];lia)) ⟨_,rfl,?_⟩
      rw [d7 (l:=(W8 N N.length).map (G9 L)) (x:=G9 L C') (by rw [List.getElem?_map,hC'];rfl)]
      exact R'
    · rintro σ H5 ⟨o,rfl,R⟩
      rw [t5 (by rw [List.length_map,N8];lia)] at R
      obtain ⟨zs,eD,yl,T'⟩:=T.add hD hD2 R;refine t6.mk hi eD (w5 (by rw [yl,List.length_take,al2];lia)) ⟨_,rfl,?_⟩
      rw [d7 (aB9 hL)];exact T'
  · rintro σ H4 ⟨o,rfl,T⟩
    rw [t5 (by rw [al2];lia)] at T
    exact T.res (k1.from S3) hD
abbrev ae5:Stmt:=top 56
theorem aL3:j4 ["_law_one_here","_law_other_here"] ["_law_one_here","_law_other_here"] (c8 ae5):=by and_intros
theorem aN9 {f fl:Addr} (d:Df K mg "_law_less" ae5 ["_law_one_here","_law_other_here"] f) (G__law_low:Def P w K mg base CX0 1 "_law_low" fl ["_law_top","_law_bottom"] ap3):Def P w K mg base CX0 2 "_law_less" f ["_law_one_here","_law_other_here"] (J3 K (· - ·)):=by
 refine d.ok (N:=["_law_one_here","_law_other_here"]) aL3 (by rintro vs H Q E ⟨x,y,p,q,m,n,h,_⟩;rw [h];rfl) (λcdv A outer s H vs Q E hr h=>?_)
 obtain ⟨x,y,p,q,m,n,rfl,⟨ap,rfl,hp⟩,⟨aq,rfl,hq⟩,bp,bq,hmn,k⟩:=h;refine ⟨_,(d4 (j2 (d2 G__law_low hr (b7 (i5 U1 (i5 z9 (j6 y3 (pv 0) b9 (λ_ _=>rfl)) (j6 y3 (pv 1) b9 (λ_ _=>rfl))) (i5 z9 (j6 y3 (pv 1) b9 (λ_ _=>rfl)) (j6 y3 (pv 0) b9 (λ_ _=>rfl)))) (b7 (i5 z9 (j6 y3 (pv 0) b9 (λ_ _=>rfl)) (j6 y3 (pv 1) b9 (λ_ _=>rfl))) b8)) i4))),?_⟩;rw [show start ["_law_one_here","_law_other_here"] [.ref ap,.ref aq]=[some (.ref ap),some (.ref aq)] from rfl]
 subst_eqs
 refine ⟨_,hp,_,at0 p,_,hq,_,at1 q,_,rfl,_,rfl,U0 bp.n bq.d' ⋯,_,hq,_,at0 q,_,hp,_,at1 p,_,rfl,_,rfl,U0 bq.n bp.d' ⋯,_,hp,_,at1 p,_,hq,_,at1 q,_,rfl,_,rfl,U0 bp.d' bq.d' ⋯,?_⟩;refine ⟨_,_,rfl,aP4 p q,by3 bp bq hmn,?_⟩;rw [<- aU4];exact k
def ah9 (K:q0a):Sp:=λvs H Q _ => ∃ (x y:V) (p q:Rat) (m n:Nat),vs=[x,y]/\Num K H x p/\Num K H y q/\BtN m p/\q ≠ 0/\q.num.natAbs<2 ^ n/\q.den<2 ^ 20000/\m+n<=6000/\am9 H Q (p / q)
abbrev ae4:Stmt:=top 58
theorem aL2:j4 ["_law_one_here","_law_other_here"] ["_law_one_here","_law_other_here"] (c8 ae4):=by and_intros
theorem aN8 {f fl:Addr} (d:Df K mg "_law_over" ae4 ["_law_one_here","_law_other_here"] f) (G__law_low:Def P w K mg base CX0 1 "_law_low" fl ["_law_top","_law_bottom"] ap3):Def P w K mg base CX0 2 "_law_over" f ["_law_one_here","_law_other_here"] (ah9 K):=by
 refine d.ok (N:=["_law_one_here","_law_other_here"]) aL2 (by rintro vs H Q E ⟨x,y,p,q,m,n,h,_⟩;rw [h];rfl) (λcdv A outer s H vs Q E hr h=>?_)
 obtain ⟨x,y,p,q,m,n,rfl,⟨ap,rfl,hp⟩,⟨aq,rfl,hq⟩,bp,q0,bq,bd,hmn,k⟩:=h;refine ⟨_,(d4 (j2 (d2 G__law_low hr (b7 (i5 z9 (j6 y3 (pv 0) b9 (λ_ _=>rfl)) (j6 y3 (pv 1) b9 (λ_ _=>rfl))) (b7 (i5 z9 (j6 y3 (pv 0) b9 (λ_ _=>rfl)) (j6 y3 (pv 1) b9 (λ_ _=>rfl))) b8)) i4))),?_⟩;rw [show start ["_law_one_here","_law_other_here"] [.ref ap,.ref aq]=[some (.ref ap),some (.ref aq)] from rfl]
 have bd':(q.den:Int).natAbs<2 ^ 20000:=by rw [q0w];exact bd
 subst_eqs
 refine ⟨_,hp,_,at0 p,_,hq,_,at1 q,_,rfl,_,rfl,U0 bp.n bd' (by simp),_,hp,_,at1 p,_,hq,_,at0 q,_,rfl,_,rfl,U0 bp.d' bq (by lia),?_⟩
 refine ⟨_,_,rfl,g0p (g0k (A4 p)) (λz=>q0 (at7.mp z)),?_,?_⟩
 ·rw [z0k]
  have:=z0g bp.d' bq;rw [<- z0f] at this;exact q0b this (i6 hmn)
 ·rw [<- aX4]
  exact k
end
end R
set_option maxRecDepth 100000
namespace L2
open PySem PySem.Spec PyProof.Rows
theorem aX5 {D:Addr} {g:TG} {tt:TT} {te:TE} {σ0:St} {H0:Hp} {Q:VK} {lo:Int} {n:Nat} (Pv:Nat->St->Hp->Prop) (h0:Pv 0 σ0 H0)
  (hs:∀ i σ H,i<n->Pv i σ H->g (.int (lo+i)) σ H λσ4 H4=>tt σ4 H4 λb H4'=>if b=true then te σ4 H4' λy H5=>t6 D n Pv i σ4 y H5 else bb4 n Pv i σ4 H4')
  (hd:∀ σ H,Pv n σ H->Q (.ref D) H):bn4 (Itr lo n) D σ0 H0 g tt te Q:=by
 refine ⟨λi m σ H=>m=n-i/\i<=n/\Pv i σ H,⟨_,rfl,z0s _,h0⟩,?_⟩;rintro i m σ H ⟨rfl,hi,p⟩
 by_cases hlt:i<n
 ·refine .inr ⟨hlt,?_⟩
  intro x H3 hy;obtain ⟨rfl,rfl⟩:=hy;exact hs i σ _ hlt p
 ·have e:i=n:=⋯
  subst e;exact .inl ⟨q0h _,hd σ H p⟩
end L2
namespace R
open PySem L2 PyProof.Rows
theorem P8.set {K:q0a} {H:Hp}:∀ {ts:List Addr} {M:List (List Rat)} (k:Nat) {p:Addr} {xs:List V} {L:List Rat},P8 K H ts M->H p=some (.lst xs)->P4 K H xs L->P8 K H (ts.set k p) (M.set k L)
 | _,_,_,_,_,_,.nil,_,_=>.nil
 | _,_,0,_,_,_,.cons _ _ t,e,f=>.cons e f t
 | _,_,k+1,_,_,_,.cons h n t,e,f=>.cons h n (t.set k e f)
theorem aV4 {M:List (List Rat)} {k:Nat} (hk:k<M.length) (L:List Rat) (i j:Nat):qq (M.set k L) i j=if i=k then aQ L j else qq M i j:=by
 unfold qq;rw [u0t]
 by_cases z:k=i
 ·rw [if_pos z,if_pos hk,if_pos z.symm];rfl
 ·rw [if_neg z,if_neg (Ne.symm z)]
theorem bc6 {B W:Nat} {M:List (List Rat)} (hB:0<B) (hW:B<2 ^ W) (h:∀ L ∈ M,∀ q ∈ L,OvB B W q):Sc W (qq M):=by
 refine ⟨λ_=>(B:Int),λr=>⟨by show (0:Int)<(B:Int);omega,by simpa using hW,λc=>?_⟩⟩
 have:OvB B W (qq M r c):=by
  unfold qq
  cases e:M[r]? with
  | none=>exact OvB.zero _ _
  | some L =>
   show OvB B W (aQ L c);unfold aQ
   cases e2:L[c]? with
   | none=>exact OvB.zero _ _
   | some q=>exact h L (q0c e) q (q0c e2)
 obtain ⟨v,e,b⟩:=this;refine ⟨v,?_,b⟩
 have b0:((B:Int):Rat) ≠ 0:=λy=>by
  have:(B:Int)=0:=z0x.mp y
  lia
 rw [e,j0k,g0q,u0k b0]
theorem BdN.inv {m:Nat} {q:Rat} (h0:q ≠ 0) (h:BdN m q):BdN m q⁻¹:=by
 have hn:q.num ≠ 0:=λz=>h0 (m0p.mp z);have e:q⁻¹=q0z q.den q.num:=by rw [Rat.inv_def]
 have b:=av7 (x:=q⁻¹) (d:=q.num) (m:=(q.den:Int)) (by
  rw [e,j0k];exact u0k λy=>hn (z0x.mp y)) hn
 exact ⟨q0p b.1 (by rw [q0w];exact h.d),q0p b.2 h.n⟩
theorem P8.at {K:q0a} {H:Hp} {ts:List Addr} {M:List (List Rat)} {n m:Nat} (h:P8 K H ts M) (ln:M.length=n) (lm:∀ L ∈ M,L.length=m) {i:Nat} (hi:i<n):∃ (p:Addr) (xs:List V) (L:List Rat),(ts.map V.ref)[i]? = some (.ref p)/\ts[i]? = some p/\M[i]? = some L/\H p=some (.lst xs)/\P4 K H xs L/\L.length=m/\∀ j,qq M i j=aQ L j:=by
 have e:=q0d (l:=ts) (i:=i) (by rw [h.length,ln];exact hi)
 obtain ⟨xs,L,e1,e2,e3⟩:=h.get e;exact ⟨_,xs,L,by rw [q0m,e];rfl,e,e1,e2,e3,lm L (q0c e1),λj=>by unfold qq;rw [e1];rfl⟩
theorem am2 {n:Nat} {M:Mt} {r:Nat} (hr:r<n) (h:∀ c,c<n->M r c=0):dt n M=0:=by
 rw [K8 (N:=λi c=>if i=r then 0 else M i c) λi _ c hc=>?_]
 ·have e:(λi c=>if i=r then 0 else M i c)=setR M r λc=>0*M r c+0*M r c:=by
   funext i c
   unfold setR
   by_cases z:i=r
   ·rw [if_pos z,if_pos z];grind
   ·rw [if_neg z,if_neg z]
  rw [e,am3 M 0 0 _ _ hr];grind
 ·by_cases z:i=r
  ·rw [if_pos z,z,h c hc]
  ·rw [if_neg z]
theorem aD9:∀ (p n:Nat) (M:Mt) (c:Rat),p<=n->(∀ j,j<=n->M n j=if j=p then c else 0)->dt (n+1) M=sgd (n+p)*c*dt n (λr j=>M r (if j<p then j else j+1))
 | 0,n,M,c,_,h=>by
  rw [K9,j5 (g:=λi=>if i=n then sgd n*c*dt n (λr j=>M r (j+1)) else 0) λi hi=>?_]
  ·rw [R0 (λ_=>sgd n*c*dt n (λr j=>M r (j+1))) n,if_pos ⋯]
   rfl
  ·by_cases z:i=n
   ·rw [if_pos z,z,h 0 ⋯,if_pos rfl]
    congr 1
    exact K8 λr hr j _=>by unfold mn;rw [if_pos hr]
   ·rw [if_neg z,am2 (M:=mn M i) (n:=n) (r:=n-1) (by lia) λj hj=>?_]
    ·grind
    ·unfold mn
     rw [if_neg (by lia),show n-1+1=n by lia,h (j+1) (by lia),if_neg (by simp)]
 | p+1,0,M,c,hp,h=>⋯
 | p+1,n+1,M,c,hp,h=>by
  rw [K9]
  show m8 (λi=>sgd i*M i 0*dt (n+1) (mn M i)) (n+1)+sgd (n+1)*M (n+1) 0*dt (n+1) (mn M (n+1))=_;have t0:sgd (n+1)*M (n+1) 0*dt (n+1) (mn M (n+1))=0:=by rw [h 0 (by simp),if_neg (by lia)];grind
  rw [t0,show dt (n+1) (λr j=>M r (if j<p+1 then j else j+1))=m8 (λi=>sgd i*M i (if 0<p+1 then 0 else 0+1)*dt n (mn (λr j=>M r (if j<p+1 then j else j+1)) i)) (n+1) from K9 _ _,C7,Rat.add_zero];refine j5 λi hi=>?_
  have ih:=aD9 p n (mn M i) c (by lia) λj hj=>by
   unfold mn;rw [if_neg (by lia),h (j+1) (by lia)]
   by_cases z:j=p
   ·rw [if_pos z,if_pos (by lia)]
   ·rw [if_neg z,if_neg (by lia)]
  rw [ih,show n+1+(p+1)=n+p+1+1 by lia,aA8,aA8,if_pos (by simp)]
  have e:dt n (λr j=>mn M i r (if j<p then j else j+1))=dt n (mn (λr j=>M r (if j<p+1 then j else j+1)) i):=K8 λr _ j _=>by
   unfold mn
   congr 1
   by_cases z:j<p
   ·rw [if_pos z,if_pos (by lia)]
   ·rw [if_neg z,if_neg (by lia)]
  rw [e]
  grind
theorem bx1 {B:Mt} {n k j:Nat} (hn:k<n) (hj:k<j) (ext:∀ c,B (n+k) c=if c=k then -1 else 0):mi B (k+1) (n+k) j=mi B k k j:=by
 unfold mi;rw [aD9 k (k+1) (bnd B (k+1) (n+k) j) (-1) (by simp) λc hc=>?_]
 ·have s:sgd (k+1+k)=-1:=by
   unfold sgd;rw [if_neg ⋯]
  rw [s,K8 (N:=bnd B k k j) λr hr c hc=>?_]
  ·grind
  ·unfold bnd
   rw [if_neg (by lia)]
   have er:(if r=k then k else r)=r:=by split <;> lia
   rw [er]
   congr 1
   by_cases z:c<k
   ·rw [if_pos z,if_neg (by lia),if_neg (by lia)]
   ·rw [if_neg z,if_pos (by lia),if_pos (by lia)]
 ·unfold bnd
  rw [if_pos rfl,ext]
  by_cases z:c=k+1
  ·rw [if_pos z,if_neg (by lia),if_neg (by lia)]
  ·rw [if_neg z]
structure Ew (n m:Nat) (A B:Mt) (k:Nat) (M:List (List Int)) (dv:Int):Prop where
 len:M.length=n
 row:∀ L ∈ M,L.length=m
 nm:n<=m
 ent:∀ i j,k<=i->i<n->k<=j->j<m->((zz M i j:Int):Rat)=mi B k i j
 zer:∀ i j,k<=i->i<n->j<k->zz M i j=0
 abv:∀ i j,i<k->k<=j->j<m->((zz M i j:Int):Rat)=mi B k (n+i) j
 dia:∀ i j,i<k->j<k->zz M i j=if i=j then dv else 0
 ext:∀ i c,B (n+i) c=if c=i then -1 else 0
 int:∀ r c,IsI (B r c)
 det:dt n B=dt n A
 led:∀ q,1<=q->q<=k->dt q B ≠ 0
 div:((dv:Int):Rat)=dt k B
def exM (n:Nat) (M:List (List Int)):Mt:=λr c=>if r<n then ((zz M r c:Int):Rat) else if c=r-n then -1 else 0
section
variable {n m:Nat} {A B:Mt} {k:Nat} {M M':List (List Int)} {dv:Int}
theorem Ew.start (len:M.length=n) (row:∀ L ∈ M,L.length=m) (nm:n<=m):Ew n m (exM n M) (exM n M) 0 M 1 :=
 ⟨len,row,nm,λi j _ hi _ _=>by rw [af2];unfold exM;rw [if_pos hi],λi j _ _ h=>by lia,λi j h=>by lia,λi j h=>⋯,λi c=>by unfold exM;rw [if_neg (by simp),m0h],λr c=>by
  unfold exM
  split
  ·exact ⟨_,rfl⟩
  ·split
   ·exact ⟨-1,rfl⟩
   ·exact ⟨0,rfl⟩,rfl,λq h1 h2=>by lia,rfl⟩
theorem Ew.dk (E:Ew n m A B k M dv):dt k B ≠ 0:=by
 rcases g0v k with z | z
 ·rw [z];show (1:Rat) ≠ 0;decide
 ·exact E.led k z (q0h _)
theorem Ew.d0 (E:Ew n m A B k M dv):dv ≠ 0:=λz=>E.dk (by rw [<- E.div,z];rfl)
theorem Ew.swap (E:Ew n m A B k M dv) {s:Nat} (hk:k<s) (hs:s<n) (len:M'.length=n) (row:∀ L ∈ M',L.length=m) (e:∀ i j,zz M' i j=if i=k then zz M s j else if i=s then-zz M k j else zz M i j):Ew n m A (swN B k s) k M' dv:=by
 have lead:∀ q,q<=k->dt q (swN B k s)=dt q B:=λq hq=>K8 λr hr c _=>by
  unfold swN;rw [if_neg (by lia),if_neg (by lia)]
 refine ⟨len,row,E.nm,λi j h1 h2 h3 h4=>?_,λi j h1 h2 h3=>?_,λi j h1 h2 h3=>?_,λi j h1 h2=>?_,λi c=>?_,λr c=>?_,?_,λq h1 h2=>?_,?_⟩
 ·rw [e,bj9 hk]
  by_cases a:i=k
  ·rw [if_pos a,if_pos a,E.ent s j (by exact Nat.le_of_lt ‹_›) hs h3 h4]
  ·rw [if_neg a,if_neg a]
   by_cases b:i=s
   ·rw [if_pos b,if_pos b,y0e,E.ent k j (q0h _) (by lia) h3 h4]
   ·rw [if_neg b,if_neg b,E.ent i j h1 h2 h3 h4]
 ·rw [e]
  split
  ·exact E.zer s j (by exact Nat.le_of_lt ‹_›) hs h3
  ·split
   ·rw [E.zer k j (q0h _) (by lia) h3];rfl
   ·exact E.zer i j h1 h2 h3
 ·rw [e,if_neg (by lia),if_neg (by lia),bj9 hk,if_neg (by lia),if_neg (by lia)]
  exact E.abv i j h1 h2 h3
 ·rw [e,if_neg (by lia),if_neg (by lia)]
  exact E.dia i j h1 h2
 ·unfold swN
  rw [if_neg (by lia),if_neg (by lia)]
  exact E.ext i c
 ·unfold swN
  split
  ·exact E.int _ _
  ·split
   ·obtain ⟨z,hz⟩:=E.int k c
    exact ⟨-z,by rw [hz,y0e]⟩
   ·exact E.int _ _
 ·rw [bl6 (by lia) hs (by lia),E.det]
 ·rw [lead q h2];exact E.led q h1 h2
 ·rw [lead k (q0h _)];exact E.div
theorem Ew.step (E:Ew n m A B k M dv) (hk:k<n) (h0:zz M k k ≠ 0) (len:M'.length=n) (row:∀ L ∈ M',L.length=m) (same:∀ j,j<m->zz M' k j=zz M k j) (e:∀ i j,i<n->i ≠ k->j<m->zz M' i j=(zz M k k*zz M i j-zz M i k*zz M k j).fdiv dv) :
  Ew n m A B (k+1) M' (zz M k k)/\∀ i j,i<n->i ≠ k->j<m->zz M' i j*dv=zz M k k*zz M i j-zz M i k*zz M k j:=by
 have nm:=E.nm;have ekk:=E.ent k k (q0h _) hk (q0h _) (by exact Nat.lt_of_lt_of_le ‹_› ‹_›)
 have d0:=E.d0
 have key:∀ i x j,k<x->((zz M i j:Int):Rat)=mi B k x j->((zz M i k:Int):Rat)=mi B k x k->k<j->j<m->zz M k k*zz M i j-zz M i k*zz M k j=(((zz M k k*zz M i j-zz M i k*zz M k j).fdiv dv))*dv/\(((zz M k k*zz M i j-zz M i k*zz M k j).fdiv dv:Int):Rat)=mi B (k+1) x j:=λi x j hx e1 e2 hj hm=>by
  have sy:=au9 k B E.led x j hx hj;obtain ⟨z,hz⟩:IsI (mi B (k+1) x j):=bl7 λr c=>E.int _ _;rw [hz,<- E.div,<- ekk,<- e1,<- e2,<- E.ent k j (q0h _) hk (by exact Nat.le_of_lt ‹_›) hm] at sy
  have si:zz M k k*zz M i j-zz M i k*zz M k j=dv*z:=z0x.mp (by
   rw [Rat.intCast_sub,j0z,j0z,j0z];exact sy)
  rw [si,w4 d0,hz];exact ⟨y0g _ _,rfl⟩
 have lo:∀ i j,i<n->i ≠ k->j<=k->zz M k k*zz M i j-zz M i k*zz M k j=(if i<k/\i=j then zz M k k else 0)*dv:=λi j hi hik hj=>by
  rcases j0h j k with z | z
  ·rw [E.zer k j (q0h _) hk z]
   rcases j0h i k with y | y
   ·rw [E.dia i j y z]
    by_cases x:i=j
    ·rw [if_pos x,if_pos ⟨y,x⟩];simp
    ·rw [if_neg x,if_neg (by lia)];simp
   ·rw [E.zer i j y hi z,if_neg (by lia)];omega
  ·have:j=k:=by lia
   subst this;rw [if_neg (by lia),y0g];simp
 have col:∀ i j,i<n->i ≠ k->j<m->zz M' i j*dv=zz M k k*zz M i j-zz M i k*zz M k j:=λi j hi hik hm=>by
  rw [e i j hi hik hm];rcases j0h k j with z | z
  ·rcases j0h i k with y | y
   ·exact (key i (n+i) j (by lia) (E.abv i j y ⋯ hm) (E.abv i k y (q0h _) (by lia)) z hm).1.symm
   ·exact (key i i j (by lia) (E.ent i j y hi ⋯ hm) (E.ent i k y hi (q0h _) ⋯) z hm).1.symm
  ·rw [lo i j hi hik z]
   generalize (if i<k/\i=j then zz M k k else 0)=w;rw [show (w*dv).fdiv dv=w by rw [y0g w dv,w4 d0]]
 have low:∀ i j,i<n->i ≠ k->j<=k->zz M' i j=if i<k/\i=j then zz M k k else 0:=λi j hi hik hj=>by
  rw [e i j hi hik (by lia),lo i j hi hik hj,y0g _ dv,w4 d0]
 refine ⟨⟨len,row,nm,λi j h1 h2 h3 h4=>?_,λi j h1 h2 h3=>?_,λi j h1 h2 h3=>?_,λi j h1 h2=>?_,E.ext,E.int,E.det,λq h1 h2=>?_,?_⟩,col⟩
 ·rw [e i j h2 (by lia) h4]
  exact (key i i j (by lia) (E.ent i j (by exact Nat.le_of_lt ‹_›) h2 (by exact Nat.le_of_lt ‹_›) h4) (E.ent i k ⋯ h2 (q0h _) ⋯) (by lia) h4).2
 ·rw [low i j h2 ⋯ (by lia),if_neg (by lia)]
 ·by_cases z:i=k
  ·rw [z,same j h3,bx1 hk (by lia) (E.ext k)]
   exact E.ent k j (q0h _) hk (by exact Nat.le_of_lt ‹_›) h3
  ·rw [e i j (by exact Nat.lt_of_lt_of_le ‹_› ‹_›) z h3]
   exact (key i (n+i) j ⋯ (E.abv i j (by lia) ⋯ h3) (E.abv i k ⋯ (q0h _) ⋯) ⋯ h3).2
 ·by_cases z:i=k
  ·rw [z,same j (by lia)]
   by_cases y:j=k
   ·rw [y,if_pos rfl]
   ·rw [E.zer k j (q0h _) hk (by lia),if_neg (by exact Ne.symm ‹_›)]
  ·rw [low i j ⋯ z ⋯]
   by_cases y:i=j
   ·rw [if_pos y,if_pos (by lia)]
   ·rw [if_neg y,if_neg ⋯]
 ·rcases j0h k q with z | z
  ·have:q=k+1:=by lia
   subst this;rw [<- az8,<- ekk];exact λz=>h0 (z0x.mp (by rw [z,v0s]))
  ·exact E.led q h1 ⋯
 ·rw [ekk,az8]
theorem Ew.stuck (E:Ew n m A B k M dv) (hk:k<n) (h:∀ i,k<=i->i<n->zz M i k=0):dt n A=0:=by
 have nm:=E.nm;rw [<- E.det];refine aD7 k n B E.led hk λi h1 h2=>?_;rw [<- E.ent i k h1 h2 (q0h _) (by exact Nat.lt_of_lt_of_le ‹_› ‹_›),h i h1 h2];rfl
theorem Ew.done (E:Ew n m A B n M dv):((dv:Int):Rat)=dt n A:=by rw [E.div,E.det]
theorem Ew.bits (E:Ew n m A B k M dv) {W:Nat} (hb:∀ r c,∃ z:Int,B r c=(z:Rat)/\z.natAbs<2 ^ W) (n14:n<=13) (hk:k<=n) {i j:Nat} (h2:i<n) (h4:j<m):(zz M i j).natAbs<=2 ^ ((W+4)*(n+1)):=by
 have up:∀ q,q<=n+1->2 ^ ((W+4)*q)<=2 ^ ((W+4)*(n+1)):=λq hq=>j0f (by decide) (z0v _ hq)
 have dm:∀ x,((zz M i j:Int):Rat)=mi B k x j->(zz M i j).natAbs<=2 ^ ((W+4)*(n+1)):=λx ex=>by
  obtain ⟨y,ey,by'⟩:=aj4 (W:=W) (n:=k+1) (M:=bnd B k x j) (by lia) λr c=>hb _ _
  have:zz M i j=y:=z0x.mp (by rw [ex];exact ey)
  rw [this];exact q0s by' (up _ (by lia))
 rcases j0h i k with y | y
 ·rcases j0h j k with z | z
  ·rw [E.dia i j y z]
   split
   ·obtain ⟨z,e,b⟩:=aj4 (W:=W) (n:=k) (M:=B) (by lia) hb
    have:dv=z:=z0x.mp (by rw [E.div,e])
    rw [this];exact q0s b (up _ (by lia))
   ·exact z0s _
  ·exact dm (n+i) (E.abv i j y z h4)
 ·rcases j0h j k with z | z
  ·rw [E.zer i j y h2 z];exact z0s _
  ·exact dm i (E.ent i j y h2 z h4)
theorem Ew.dvb (E:Ew n m A B k M dv) {W:Nat} (hb:∀ r c,∃ z:Int,B r c=(z:Rat)/\z.natAbs<2 ^ W) (n14:n<=13) (hk:k<=n):dv.natAbs<=2 ^ ((W+4)*(n+1)):=by
 obtain ⟨z,e,b⟩:=aj4 (W:=W) (n:=k) (M:=B) (by lia) hb
 have:dv=z:=z0x.mp (by rw [E.div,e])
 rw [this];exact q0s b (j0f (by decide) (z0v _ (by lia)))
end
theorem aA5 (f:Nat->Nat->Rat) (m:Nat):∀ n,m8 (λi=>m8 (λj=>f i j) m) n=m8 (λj=>m8 (λi=>f i j) n) m
 | 0=>(Y3 m λ_ _=>rfl).symm
 | n+1=>by
  show m8 (λi=>m8 (λj=>f i j) m) n+m8 (λj=>f n j) m=m8 (λj=>m8 (λi=>f i j) n+f n j) m;rw [aA5 f m n,R6]
theorem ba2 {n:Nat} (Q:Mt) (x:Nat->Rat) {s:Nat} (hs:s<n):∀ q,q<=n->dt n (setR Q s λc=>m8 (λj=>x j*Q j c) q)=if s<q then x s*dt n Q else 0
 | 0,_=>by
  rw [if_neg (by simp)]
  exact am2 (r:=s) hs λc _=>by unfold setR;rw [if_pos rfl];rfl
 | q+1,hq=>by
  have e:(λc=>m8 (λj=>x j*Q j c) (q+1))=λc=>1*m8 (λj=>x j*Q j c) q+x q*Q q c:=by
   funext c
   show m8 _ q+x q*Q q c=_
   grind
  rw [e,am3 Q 1 (x q) _ _ hs,ba2 Q x hs q (by exact Nat.le_of_lt ‹_›)]
  by_cases z:q=s
  ·rw [z,ac5,if_neg (by simp),if_pos (by simp)];grind
  ·rw [aI0 (M:=setR Q s (Q q)) hs (show q<n by lia) (Ne.symm z) λc=>by unfold setR;rw [if_pos rfl,if_neg z]]
   by_cases y:s<q
   ·rw [if_pos y,if_pos (by exact Nat.lt_succ_of_lt ‹_›)];grind
   ·rw [if_neg y,if_neg (by lia)];grind
theorem bA6 {n:Nat} {Q:Mt} (h:dt n Q ≠ 0) {x:Nat->Rat} (e:∀ c,c<n->m8 (λj=>x j*Q j c) n=0) {s:Nat} (hs:s<n):x s=0:=by
 have h1:=ba2 Q x hs n (q0h _);rw [if_pos hs,am2 (r:=s) hs λc hc=>by unfold setR;rw [if_pos rfl];exact e c hc] at h1
 rcases u0g.mp h1.symm with z | z
 ·exact z
 ·exact absurd z h
def dij (i j:Nat):Rat:=if i=j then 1 else 0
theorem aA4 (f:Nat->Rat) {n c:Nat} (hc:c<n):m8 (λt=>f t*dij t c) n=f c:=by
 rw [j5 (g:=λt=>if t=c then f t else 0) λt _=>by unfold dij;split <;> grind,R0 f c n,if_pos hc]
def Rl (n:Nat) (Q:Mt) (M:List (List Int)):Prop:=∀ i j,i<n->j<n->((zz M i j:Int):Rat)=m8 (λt=>((zz M i (n+t):Int):Rat)*Q t j) n
theorem Rl.swap {n k s:Nat} {Q:Mt} {M M':List (List Int)} (h:Rl n Q M) (hk:k<n) (hs:s<n) (e:∀ i j,zz M' i j=if i=k then zz M s j else if i=s then-zz M k j else zz M i j):Rl n Q M':=λi j hi hj=>by
 by_cases a:i=k
 ·rw [e,if_pos a,h s j hs hj]
  exact j5 λt _=>by rw [e,if_pos a]
 ·by_cases b:i=s
  ·rw [e,if_neg a,if_pos b,y0e,h k j hk hj]
   have:m8 (λt=>((zz M' i (n+t):Int):Rat)*Q t j) n=(-1)*m8 (λt=>((zz M k (n+t):Int):Rat)*Q t j) n:=by
    rw [C7];exact j5 λt _=>by rw [e,if_neg a,if_pos b,y0e];grind
   rw [this];grind
  ·rw [e,if_neg a,if_neg b,h i j hi hj]
   exact j5 λt _=>by rw [e,if_neg a,if_neg b]
theorem Rl.step {n k:Nat} {Q:Mt} {M M':List (List Int)} {dv:Int} (h:Rl n Q M) (hk:k<n) (d0:dv ≠ 0) (same:∀ j,j<n+n->zz M' k j=zz M k j) (e:∀ i j,i<n->i ≠ k->j<n+n->zz M' i j*dv=zz M k k*zz M i j-zz M i k*zz M k j):Rl n Q M':=λi j hi hj=>by
 by_cases a:i=k
 ·rw [a,same j (by lia),h k j hk hj]
  exact j5 λt ht=>by rw [same (n+t) (by lia)]
 ·have dq:((dv:Int):Rat) ≠ 0:=λz=>d0 (z0x.mp (by rw [z,v0s]))
  have ec:∀ c,c<n+n->((zz M' i c:Int):Rat)*((dv:Int):Rat)=((zz M k k:Int):Rat)*((zz M i c:Int):Rat)-((zz M i k:Int):Rat)*((zz M k c:Int):Rat):=λc hc=>by
   have:=congrArg (λz:Int=>(z:Rat)) (e i c hi a hc)
   simpa only [j0z,Rat.intCast_sub] using this
  have e1:((dv:Int):Rat)*m8 (λt=>((zz M' i (n+t):Int):Rat)*Q t j) n=((zz M k k:Int):Rat)*((zz M i j:Int):Rat)-((zz M i k:Int):Rat)*((zz M k j:Int):Rat):=by
   rw [h i j hi hj,h k j hk hj,C7,C7,C7];have:∀ (f g:Nat->Rat),m8 f n-m8 g n=m8 (λt=>f t+(-1)*g t) n:=λf g=>by rw [<- R6,<- C7];grind
   rw [this];exact j5 λt ht=>by have:=ec (n+t) ⋯;grind
  have e2:=ec j ⋯;have iv:=j0g _ dq;have e3:((zz M' i j:Int):Rat)*((dv:Int):Rat)=m8 (λt=>((zz M' i (n+t):Int):Rat)*Q t j) n*((dv:Int):Rat):=by rw [e2,<- e1];grind
  have:=congrArg (λz=>z*((dv:Int):Rat)⁻¹) e3;simp only [Rat.mul_assoc,iv,m0t] at this;exact this
theorem aZ4:∀ (n:Nat) (Q:Mt),dt n Q=0->∃ y:Nat->Rat,(∃ i,i<n/\y i ≠ 0)/\∀ r,r<n->m8 (λc=>Q r c*y c) n=0
 | 0,Q,h=>absurd h (by show (1:Rat) ≠ 0;decide)
 | n+1,Q,h=>by
  have step:∀ B:Mt,B 0 0 ≠ 0->dt (n+1) B=0->∃ y:Nat->Rat,(∃ i,i<n+1/\y i ≠ 0)/\∀ r,r<n+1->m8 (λc=>B r c*y c) (n+1)=0:=λB b0 hB=>by
   rw [aD8 B b0] at hB
   have hr:dt n (red B)=0:=by
    rcases u0g.mp hB with z | z
    ·exact absurd z b0
    ·exact z
   obtain ⟨y,⟨i,hi,yi⟩,k⟩:=aZ4 n (red B) hr;obtain ⟨s,hs⟩:∃ s,s=m8 (λc=>B 0 (c+1)*y c) n:=⟨_,rfl⟩;have inv:=j0g _ b0;obtain ⟨z,z0,zs⟩:∃ z:Nat->Rat,z 0=-(s*(B 0 0)⁻¹)/\∀ c,z (c+1)=y c:=⟨λc=>if c=0 then -(s*(B 0 0)⁻¹) else y (c-1),rfl,λc=>rfl⟩;refine ⟨z,⟨i+1,by lia,by rw [zs];exact yi⟩,λr hr'=>?_⟩
   rw [ak5,j5 (g:=λc=>B r (c+1)*y c) λc _=>by rw [zs],z0]
   generalize (B 0 0)⁻¹=v at *
   cases r with
   | zero=>rw [<- hs];grind
   | succ r =>
    have e:=k r (by lia)
    have e2:m8 (λc=>red B r c*y c) n=m8 (λc=>B (r+1) (c+1)*y c+(-(B (r+1) 0*(B 0 0)⁻¹))*(B 0 (c+1)*y c)) n:=j5 λc _=>by unfold red;grind
    rw [e2,<- R6,<- C7,<- hs] at e
    have:(B 0 0)⁻¹=v:=by
     have:=j0g _ b0;have h3:v*(B 0 0*(B 0 0)⁻¹)=v:=by rw [this,m0t]
     grind
    grind
  by_cases z:∃ r,r<n+1/\Q r 0 ≠ 0
  ·obtain ⟨r,hr,q0⟩:=z
   by_cases r0:r=0
   ·subst r0;exact step Q q0 h
   ·obtain ⟨y,ny,k⟩:=step (swU Q 0 r) (by unfold swU;rw [if_pos rfl];exact q0) (by rw [bl5 ⋯ hr (Ne.symm r0),h];grind)
    refine ⟨y,ny,λi hi=>?_⟩
    by_cases a:i=0
    ·have:=k r hr
     rw [j5 (g:=λc=>Q 0 c*y c) λc _=>by unfold swU;rw [if_neg r0,if_pos rfl]] at this
     rw [a];exact this
    ·by_cases b:i=r
     ·have:=k 0 (by simp)
      rw [j5 (g:=λc=>Q r c*y c) λc _=>by unfold swU;rw [if_pos rfl]] at this
      rw [b];exact this
     ·have:=k i hi
      rw [j5 (g:=λc=>Q i c*y c) λc _=>by unfold swU;rw [if_neg a,if_neg b]] at this
      exact this
  ·refine ⟨λc=>dij c 0,⟨0,⋯,by show (if (0:Nat)=0 then (1:Rat) else 0) ≠ 0;rw [if_pos rfl];decide⟩,λr hr=>?_⟩
   rw [aA4 (λc=>Q r c) ⋯];exact Classical.byContradiction λx=>z ⟨r,hr,x⟩
theorem bh5 (f:Nat->Rat) {n c:Nat} (hc:c<n):m8 (λt=>dij c t*f t) n=f c:=by
 rw [j5 (g:=λt=>f t*dij t c) λt _=>by unfold dij;split <;> split <;> grind]
 exact aA4 f hc
def mm (n:Nat) (A B:Mt):Mt:=λi j=>m8 (λt=>A i t*B t j) n
theorem aC9 (n:Nat) (A B C:Mt) (i j:Nat):mm n (mm n A B) C i j=mm n A (mm n B C) i j:=by
 unfold mm
 rw [j5 (g:=λt=>m8 (λu=>A i u*(B u t*C t j)) n) λt _=>by
  rw [g0q,C7];exact j5 λu _=>by grind]
 rw [aA5 (λt u=>A i u*(B u t*C t j)) n n];exact j5 λu _=>by rw [C7]
theorem ah3 {n:Nat} {A B C D:Mt} {i j:Nat} (h:∀ t,t<n->A i t=C i t) (k:∀ t,t<n->B t j=D t j):mm n A B i j=mm n C D i j:=j5 λt ht=>by rw [h t ht,k t ht]
def lin (a b:Rat) (M:Mt):Mt:=λi j=>a*dij i j+b*M i j
theorem aW7 {n:Nat} (a b:Rat) (M B:Mt) {i j:Nat} (hi:i<n):mm n (lin a b M) B i j=a*B i j+b*mm n M B i j:=by
 unfold mm lin;rw [j5 (g:=λt=>a*(dij i t*B t j)+b*(M i t*B t j)) λt _=>by grind,<- R6,<- C7,<- C7,bh5 (λt=>B t j) hi]
theorem aO4 {n:Nat} (a b:Rat) (M B:Mt) {i j:Nat} (hj:j<n):mm n B (lin a b M) i j=a*B i j+b*mm n B M i j:=by
 unfold mm lin;rw [j5 (g:=λt=>a*(B i t*dij t j)+b*(B i t*M t j)) λt _=>by grind,<- R6,<- C7,<- C7,aA4 (λt=>B i t) hj]
theorem br5 {n:Nat} {Q S:Mt} (e:∀ i j,i<n->j<n->mm n S Q i j=dij i j):dt n Q ≠ 0:=λh=>by
 obtain ⟨y,⟨i,hi,yi⟩,k⟩:=aZ4 n Q h;have e1:=aC9 n S Q (λt _=>y t) i 0
 have e2:mm n (mm n S Q) (λt _=>y t) i 0=y i:=by
  rw [ah3 (C:=dij) (D:=λt _=>y t) (λt ht=>e i t hi ht) λ_ _=>rfl];exact bh5 y hi
 have e3:mm n S (mm n Q λt _=>y t) i 0=0:=by
  unfold mm;rw [j5 (g:=λt=>0*S i t) λt ht=>by rw [k t ht];grind,<- C7,Rat.zero_mul]
 exact yi (by rw [<- e2,e1,e3])
theorem aB5 {n:Nat} {A B Q:Mt} (h:dt n Q ≠ 0) (e:∀ i j,i<n->j<n->mm n A Q i j=mm n B Q i j) {i j:Nat} (hi:i<n) (hj:j<n):A i j=B i j:=by
 have:=bA6 h (x:=λt=>A i t-B i t) (λc hc=>?_) hj
 ·have z:A i j-B i j=0:=this
  grind
 ·rw [j5 (g:=λt=>A i t*Q t c+(-1)*(B i t*Q t c)) λt _=>by grind,<- R6,<- C7]
  have:=e i c hi hc;unfold mm at this;rw [this];grind
def ad6 (n:Nat) (s:Rat) (M T:Mt):Prop:=∀ i j,i<n->j<n->mm n T (lin 1 s M) i j=lin (-s) 1 M i j
theorem ad6.left {n:Nat} {s:Rat} {M T:Mt} (s2:s*s=1) (h:ad6 n s M T) (d:dt n (lin 1 s M) ≠ 0) {i j:Nat} (hi:i<n) (hj:j<n):mm n (lin 1 s M) T i j=lin (-s) 1 M i j:=by
 refine aB5 d (A:=mm n (lin 1 s M) T) (B:=lin (-s) 1 M) (λi c hi hc=>?_) hi hj;rw [aC9,ah3 (C:=lin 1 s M) (D:=lin (-s) 1 M) (λ_ _=>rfl) (λt ht=>h t c ht hc),aW7 _ _ _ _ hi,aO4 _ _ _ _ hc,aW7 _ _ _ _ hi,aO4 _ _ _ _ hc];unfold lin
 grind
theorem ad6.back {n:Nat} {s:Rat} {M T:Mt} (s2:s*s=1) (h:ad6 n s M T) (d:dt n (lin 1 s M) ≠ 0):ad6 n (-s) T M:=λi j hi hj=>by
 have e:=h.left s2 d hi hj;rw [aW7 _ _ _ _ hi] at e;rw [aO4 _ _ _ _ hj];unfold lin at *
 grind
theorem ad6.det {n:Nat} {s:Rat} {M T:Mt} (s2:s*s=1) (h:ad6 n s M T) (d:dt n (lin 1 s M) ≠ 0):dt n (lin 1 (-s) T) ≠ 0 :=
 br5 (S:=λi j=>(1 / 2:Rat)*lin 1 s M i j) λi j hi hj=>by
  have e:=h.left s2 d hi hj
  have e2:mm n (λi j=>(1 / 2:Rat)*lin 1 s M i j) (lin 1 (-s) T) i j=(1 / 2:Rat)*mm n (lin 1 s M) (lin 1 (-s) T) i j:=by
   unfold mm;rw [C7];exact j5 λt _=>by grind
  rw [e2,aO4 _ _ _ _ hj,e];unfold lin
  grind
theorem ad6.uniq {n:Nat} {s:Rat} {M T U:Mt} (d:dt n (lin 1 s M) ≠ 0) (h:ad6 n s M T) (k:ad6 n s M U) {i j:Nat} (hi:i<n) (hj:j<n):T i j=U i j :=
 aB5 d (λi j hi hj=>by rw [h i j hi hj,k i j hi hj]) hi hj
theorem aG5 {n:Nat} {s:Rat} {M N T:Mt} (b:∀ i j,i<n->j<n->mm n N (lin 1 s M) i j=dij i j) (e:∀ i j,i<n->j<n->T i j=mm n (lin (-s) 1 M) N i j):ad6 n s M T:=λi j hi hj=>by
 rw [ah3 (C:=mm n (lin (-s) 1 M) N) (D:=lin 1 s M) (λt ht=>e i t hi ht) λ_ _=>rfl,aC9,ah3 (C:=lin (-s) 1 M) (D:=dij) (λ_ _=>rfl) λt ht=>b t j ht hj];exact aA4 (λt=>lin (-s) 1 M i t) hj
theorem at9 {L:List Rat} {n:Nat} (h:L.length=n):L=(z0r n).map (aQ L):=by
 refine u0s λi=>?_
 by_cases hi:i<n
 ·rw [q0m,y0w hi,q0d (by lia)]
  show _=some ((L[i]?).getD 0);rw [q0d ⋯];rfl
 ·rw [z0p (by lia),z0p (by rw [q0e,y0b];exact Nat.not_lt.mp ‹_›)]
structure F6 (n:Nat) (M:List (List Rat)) (f:Mt):Prop where
 len:M.length=n
 row:∀ L ∈ M,L.length=n
 at':∀ i j,i<n->j<n->qq M i j=f i j
theorem F6.of {n:Nat} {M:List (List Rat)} (l:M.length=n) (r:∀ L ∈ M,L.length=n):F6 n M (qq M):=⟨l,r,λ_ _ _ _=>rfl⟩
theorem F6.to {n:Nat} {M:List (List Rat)} {f g:Mt} (h:F6 n M f) (e:∀ i j,i<n->j<n->f i j=g i j):F6 n M g:=⟨h.len,h.row,λi j hi hj=>by rw [h.at' i j hi hj,e i j hi hj]⟩
theorem F6.eq {n:Nat} {M N:List (List Rat)} {f:Mt} (h:F6 n M f) (k:F6 n N f):M=N:=by
 have lM:=h.len;have lN:=k.len;refine u0s λi=>?_
 by_cases hi:i<n
 ·have e1:=q0d (l:=M) (i:=i) (by lia)
  have e2:=q0d (l:=N) (i:=i) (by lia)
  rw [e1,e2]
  congr 1
  rw [at9 (h.row _ (q0c e1)),at9 (k.row _ (q0c e2))];refine q1c λj hj=>?_;have:=(h.at' i j hi (u0m.mp hj)).trans (k.at' i j hi (u0m.mp hj)).symm;unfold qq at this;rw [e1,e2] at this;exact this
 ·rw [z0p (by lia),z0p (by lia)]
theorem F6.prod {n:Nat} {A B:List (List Rat)} {f g:Mt} (h:F6 n A f) (k:F6 n B g):F6 n (al3 A B) (mm n f g):=by
 have lA:=h.len;have lB:=k.len;refine ⟨by rw [al2,lA],λL hL=>?_,λi j hi hj=>?_⟩
 ·obtain ⟨L0,_,rfl⟩:=z0e.mp hL
  rw [q0e];unfold W8;rw [q0e,y0b,lB]
 ·have e1:=q0d (l:=A) (i:=i) (by lia)
  have rl:=h.row _ (q0c e1);have cl:(ax0 B j).length=n:=by rw [aj6,lB]
  unfold qq;rw [aB9 e1]
  show ((((W8 B B.length).map (G9 A[i]))[j]?).getD 0)=_;unfold W8;rw [lB,List.map_map,q0m,y0w hj]
  show G9 _ (ax0 B j)=_;rw [at9 rl,at9 cl,aI3];refine j5 λt ht=>?_;have a1:=h.at' i t hi ht;have a2:=k.at' t j ht hj;unfold qq at a1 a2;rw [e1] at a1;have e2:=q0d (l:=B) (i:=t) (by lia)
  rw [e2] at a2;rw [<- a1,<- a2]
  congr 1
  unfold aQ ax0;rw [q0m,e2];rfl
theorem F6.sum {n:Nat} {A B:List (List Rat)} {f g:Mt} (h:F6 n A f) (k:F6 n B g):F6 n (ag1 A B) (λi j=>f i j+g i j):=by
 have lA:=h.len;have lB:=k.len;refine ⟨by unfold ag1;rw [v0v];lia,λL hL=>?_,λi j hi hj=>?_⟩
 ·obtain ⟨i,hi⟩:=j0b.mp hL
  unfold ag1 at hi;rw [y0p] at hi
  cases ea:A[i]? with
  | none=>rw [ea] at hi;cases hi
  | some a =>
   cases eb:B[i]? with
   | none=>rw [ea,eb] at hi;cases hi
   | some b =>
    rw [ea,eb] at hi;obtain rfl:=Option.some.inj hi;rw [v0v,h.row _ (q0c ea),k.row _ (q0c eb)];simp
 ·have e1:=q0d (l:=A) (i:=i) ⋯
  have e2:=q0d (l:=B) (i:=i) (by lia)
  have r1:=h.row _ (q0c e1);have r2:=k.row _ (q0c e2);rw [<- h.at' i j hi hj,<- k.at' i j hi hj];unfold qq ag1;rw [y0p,e1,e2]
  show ((u0b (· + ·) A[i] B[i])[j]?).getD 0=(A[i][j]?).getD 0+(B[i][j]?).getD 0
  rw [y0p,q0d (l:=A[i]) (by lia),q0d (l:=B[i]) (by lia)]
  rfl
theorem F6.map {n:Nat} {A:List (List Rat)} {f:Mt} (F:Rat->Rat) (h:F6 n A f):F6 n (A.map λL=>L.map F) (λi j=>F (f i j)):=by
 have lA:=h.len;refine ⟨by rw [q0e,lA],λL hL=>?_,λi j hi hj=>?_⟩
 ·obtain ⟨L0,h0,rfl⟩:=z0e.mp hL
  rw [q0e,h.row _ h0]
 ·have e1:=q0d (l:=A) (i:=i) (by lia)
  have r1:=h.row _ (q0c e1);rw [<- h.at' i j hi hj];unfold qq;rw [q0m,e1]
  show ((A[i].map F)[j]?).getD 0=F ((A[i][j]?).getD 0);rw [q0m,q0d (l:=A[i]) (by lia)]
  rfl
theorem F6.unit (n:Nat):F6 n (P1 n) dij:=by
 refine ⟨by unfold P1;rw [q0e,y0b],λL hL=>?_,λi j hi hj=>?_⟩
 ·obtain ⟨i,_,rfl⟩:=z0e.mp hL
  rw [q0e,y0b]
 ·unfold qq P1
  rw [q0m,y0w hi]
  show ((((z0r n).map λj=>if i=j then (1:Rat) else 0)[j]?).getD 0)=_;rw [q0m,y0w hj];rfl
theorem F6.det {n:Nat} {M:List (List Rat)} {f:Mt} (h:F6 n M f):dt n (qq M)=dt n f:=K8 λr hr c hc=>h.at' r c hr hc
theorem bi5 {L W:Nat} (hL:0<L) {p q:Rat} {w:Int} (h:OvB L W p) (hv:q=q0z w (L:Int)) (w0:w ≠ 0):OvB w.natAbs W (-p / q):=by
 obtain ⟨v,rfl,b⟩:=h
 have l0:((L:Int):Rat) ≠ 0:=λz=>by
  have:=z0x.mp (show ((L:Int):Rat)=((0:Int):Rat) from z);omega
 have b0:(w:Rat) ≠ 0:=λz=>w0 (z0x.mp (show (w:Rat)=((0:Int):Rat) from z));have i1:=j0g _ l0;have i2:=j0g _ b0
 have e:-q0z v (L:Int) / q=-((v:Rat)*(w:Rat)⁻¹):=by
  rw [hv,j0k,j0k,v0m,v0m,v0m,Rat.inv_mul_rev,Rat.inv_inv]
  grind
 rw [e];have h2:w=w.natAbs \/ w=-(w.natAbs:Int):=by lia
 rcases h2 with z | z
 ·refine ⟨-v,?_,by rw [v0n];exact b⟩
  rw [<- z,j0k,v0m,y0e];grind
 ·refine ⟨v,?_,b⟩
  have z2:((w.natAbs:Int))=-w:=by lia
  rw [z2,j0k,v0m,y0e];have n0:-(w:Rat) ≠ 0:=λz=>b0 (by grind)
  have i3:=j0g _ n0
  have:(-(w:Rat))⁻¹=-(w:Rat)⁻¹:=by
   have h:(-(w:Rat))⁻¹*((w:Rat)*(w:Rat)⁻¹)=(-(w:Rat))⁻¹:=by rw [i2,m0t]
   rw [<- h];generalize (w:Rat)⁻¹=a at *;generalize (-(w:Rat))⁻¹=c at *
   grind
  rw [this];grind
theorem bi7 {B W:Nat} (h0:0<B) (hW:B<2 ^ W):OvB B W 1:=by
 have nb:((B:Int):Rat) ≠ 0:=λz=>by
  have:=z0x.mp (show ((B:Int):Rat)=((0:Int):Rat) from z)
  lia
 exact ⟨(B:Int),by rw [j0k,v0m,j0g _ nb],by rw [q0w];exact hW⟩
def shQ (n:Nat):List (List Rat):=(z0r n).map λi=>(z0r n).map λj=>if j=i+1 then (1:Rat) else 0
theorem bv4 {n i:Nat} (h:i<n):(shQ n)[i]? = some ((z0r n).map λj=>if j=i+1 then (1:Rat) else 0):=by unfold shQ;rw [q0m,ac0 h];rfl
def ba8 (qs:List Rat) (n:Nat):List (List Rat):=(shQ n).set (n-1) ((qs.take n).map λq=>-q / (qs[n]?.getD 0))
theorem bs3 {qs:List Rat} {n W:Nat} (cl:ClN W qs) (ln:qs.length=n+1) (l0:qs[n]?.getD 0 ≠ 0):∃ B,0<B/\B<2 ^ W/\∀ L ∈ ba8 qs n,L.length=n/\∀ x ∈ L,OvB B W x:=by
 have en:qs[n]? = some (qs[n]?.getD 0):=by rw [q0d (by lia)];rfl
 obtain ⟨w,hw,bw⟩:=bi8 cl (q0c en);have Lp:=M7 qs;have w0:w ≠ 0:=λz=>l0 (by rw [hw,z,Rat.zero_divInt])
 have B0:0<w.natAbs:=by lia
 refine ⟨w.natAbs,B0,bw,λL hL=>?_⟩;rcases j0p hL with h | rfl
 ·obtain ⟨i,_,rfl⟩:=z0e.mp h
  refine ⟨by rw [q0e,y0b],λx hx=>?_⟩
  obtain ⟨j,_,rfl⟩:=z0e.mp hx
  by_cases z:j=i+1
  ·rw [if_pos z];exact bi7 B0 bw
  ·rw [if_neg z];exact OvB.zero _ _
 ·refine ⟨by rw [q0e,q0v];lia,λx hx=>?_⟩
  obtain ⟨q,hq,rfl⟩:=z0e.mp hx;exact bi5 Lp (bi8 cl (j0w hq)) hw w0
theorem aE5 (qs:List Rat) (n:Nat):(ba8 qs n).length=n:=by unfold ba8 shQ;rw [y0d,q0e,y0b]
theorem Rws.setN {H:Hp}:∀ {ts:List Addr} {M:List (List Rat)} (k:Nat) {p:Addr} {xs:List V} {L:List Rat},Rws H ts M->H p=some (.lst xs)->C9 H xs L->Rws H (ts.set k p) (M.set k L)
 | _,_,_,_,_,_,.nil,_,_=>.nil
 | _,_,0,_,_,_,.cons _ _ t,e,f=>.cons e f t
 | _,_,k+1,_,_,_,.cons h n t,e,f=>.cons h n (t.setN k e f)
theorem bj5 {α:Type} {y:α}:∀ {ts:List α} (k:Nat),ts.Nodup->y ∉ ts->(ts.set k y).Nodup
 | [],_,h,_=>h
 | a :: ts,0,h,n=>y0c.mpr ⟨λz=>n (q0u _ z),(y0c.mp h).2⟩
 | a :: ts,k+1,h,n=>y0c.mpr ⟨λz=>by
   rcases j0p z with z | z
   ·exact (y0c.mp h).1 z
   ·exact n (z ▸ z0c),bj5 k (y0c.mp h).2 λz=>n (q0u _ z)⟩
section
variable {P:Program} {w:World} {K:q0a} {mg:Str->Option Value} {base:Heap}
def aU7 (K:q0a):Sp:=λvs H Q _ => ∃ (a:Addr) (xs:List V) (qs:List Rat) (n:Nat),vs=[.ref a]/\SqL K H a xs/\C9 H xs qs/\ClN 80 qs/\ad8 qs qs.length/\qs.length=n+1/\1<=n/\n<=4/\∀ M B,M.length=n->B8 B 80 M->O9 H Q M
abbrev K1:Stmt:=top 83
theorem W0:j4 ["_law_p","_law_n","_law_found"] ["_law_p"] (c8 K1):=by and_intros
theorem at6 {f f1:Addr} (d:Df K mg "_law_companion" K1 ["_law_p"] f) (G__law_over:Def P w K mg base CX0 2 "_law_over" f1 ["_law_one_here","_law_other_here"] (ah9 K)) (n_len:mg "len" = none) (n_range:mg "range" = none) (n_int:mg "int" = none):Def P w K mg base CX0 3 "_law_companion" f ["_law_p"] (aU7 K):=by
  refine d.ok (N:=["_law_p","_law_n","_law_found"]) W0 (by rintro vs H Q E ⟨_,_,_,_,h,_⟩;rw [h];rfl) (λcdv A outer s H vs Q E hr h=>?_)
  obtain ⟨a,xs,qs,n,rfl,hS,hN,cl,tl,ln,n1,n4,k⟩:=h
  refine ⟨_, (c7 (i9 (i := 1) W0.nd rfl (Or.inr rfl) (i5 U1 (i7 k6 rfl n_len (by decide +kernel) (b7 (pv 0) b8)) b9))
      (c7 (ax3 (i₀:=2) W0.nd rfl (Or.inl rfl) (Nc:=["_law_n","_law_i"]) (caps:=[some 1,none]) rfl (ak0.of (osc:=c8 K1) (N:=["_law_p","_law_n","_law_found"]) (ks:=["_law_n"]) rfl rfl rfl rfl (j7 rfl k9) (by decide +kernel)) (E4 rfl n_range (b7 (pv 1) b8)) (λC s₂ H₂ fp pins=>(d5 (i:=1) (show List.Nodup (["_law_n","_law_i"]:List Str) by decide +kernel) rfl (Or.inr rfl) (Or.inl rfl))) (λC s₂ H₂ fp pins=>(t9 (Nc:=["_law_i","_law_j"]) (caps:=[some 1,none]) rfl (G5.of (osc:=_) (N:=["_law_n","_law_i"]) (ks:=["_law_i"]) rfl rfl rfl rfl (j7 rfl k9) (by kernel_rfl)) (E4 rfl n_range (b7 (pv 0) b8)) (λC s₂ H₂ fp pins=>(d5 (i:=1) (show List.Nodup (["_law_i","_law_j"]:List Str) by decide +kernel) rfl (Or.inl rfl) (Or.inr rfl))) (λC s₂ H₂ fp pins=>(m6 (b7 (C8 M0 rfl n_int (by decide +kernel) (b7 (G3 Q3 (pv 1) (i5 E9 (pv 0) b9) (j8 _)) b8)) (b7 b9 b8)))))))
      (c7 (K7 (t9 (Nc:=["_law_p","_law_n","_law_a"]) (caps:=[some 0,some 1,none]) rfl (G5.of (osc:=c8 K1) (N:=["_law_p","_law_n","_law_found"]) (ks:=["_law_p","_law_n"]) rfl rfl rfl rfl (j7 rfl (j7 rfl k9)) (by decide +kernel)) (A5 (U8 Y9 (pv 0) ac1 (W6 (pv 1)))) (λC s₂ H₂ fp pins=>(d5 (i:=2) (show List.Nodup (["_law_p","_law_n","_law_a"]:List Str) by decide +kernel) rfl (Or.inl rfl) (Or.inr rfl))) (λC s₂ H₂ fp pins=>(d2 G__law_over hr (b7 (m6 (b7 (i5 U1 b9 (j6 (by exact y3:IxR _ (bc7 K)) (pv 2) b9 (λ_ _=>rfl))) (b7 (j6 (by exact y3:IxR _ (bc7 K)) (pv 2) b9 (λ_ _=>rfl)) b8))) (b7 (j6 (by exact j9:IxR _ (al1 K)) (pv 0) (pv 1) (λ_ _=>rfl)) b8)) i4))) (V7 (pv 2) (i5 U1 (pv 1) b9) K2))
      (d4 (j2 (pv 2)))))),?_⟩
  rw [show start ["_law_p","_law_n","_law_found"] [.ref a]=[some (.ref a),none,none] from rfl]
  subst_eqs
  have hxl:xs.length=n+1:=by rw [hN.length,ln]
  obtain ⟨qn,en⟩:∃ qn,qs[n]? = some qn:=⟨_,List.getElem?_eq_getElem (by lia)⟩
  have qn0:qn ≠ 0:=tl.last (by lia) _ (by rw [ln];exact en)
  have gd:qs[n]?.getD 0=qn:=by rw [en];rfl
  obtain ⟨B,B0,BW,ov⟩:=bs3 cl ln (by rw [gd];exact qn0)
  have oC:B8 B 80 (ba8 qs n):=⟨by rw [aE5];lia,B0,BW,λL hL=>⟨by rw [aE5];exact (ov L hL).1,(ov L hL).2⟩⟩
  refine ⟨xs,.inl hS,by lia,by lia,λD hD=>?_⟩
  rw [show ((xs.length:Int)-1)=(n:Int) by lia]
  refine O0 (λi σ H2 => ∃ o,σ=[some (.int (n:Int)),o]/\t7 H D ((shQ n).take i) H2) ⟨_,rfl,t7.start hD⟩ ?_ ?_
  · rintro i σ H2 hi ⟨o,rfl,T⟩
    subst_eqs
    have hi':i<n:=by lia
    refine ⟨by simp,by lia,λD2 hD2=>?_⟩
    refine O0 (λj σ H3 => ∃ o,σ=[some (.int (0+i)),o]/\G8 H2 D2 (((List.range n).map λj=>if j=i+1 then (1:Rat) else 0).take j) H3) ⟨_,rfl,G8.start hD2⟩ ?_ ?_
    · rintro j σ H3 hj ⟨o,rfl,R⟩
      have hj':j<n:=by lia
      subst_eqs
      refine ⟨rfl,t8,λp hp=>?_⟩
      have e:upd H3 p (HO.tup [V.int (if (0:Int) + ↑j=0 + ↑i+1 then 1 else 0),V.int 1]) p=some (.tup (E8 (if j=i+1 then (1:Rat) else 0))):=by
        rw [c6]
        by_cases h:j=i+1
        · rw [if_pos (by lia),if_pos h];rfl
        · rw [if_neg (by lia),if_neg h];rfl
      obtain ⟨ys,eD,yl,R'⟩:=R.add hD2 (c9.new hp _) e;refine t6.mk hj eD (w5 (by rw [yl,List.length_take];lia)) ⟨_,rfl,?_⟩
      rw [d7 (l:=(List.range n).map λj=>if j=i+1 then (1:Rat) else 0) (x:=if j=i+1 then (1:Rat) else 0) (by rw [List.getElem?_map,ac0 hj'];rfl)]
      exact R'
    · rintro σ H3 ⟨o,rfl,R⟩
      rw [t5 (by simp)] at R
      obtain ⟨ys,eD,yl,T'⟩:=T.add hD hD2 R;refine t6.mk hi eD (w5 (by rw [yl,List.length_take];lia)) ⟨_,rfl,?_⟩
      rw [d7 (bv4 hi')];exact T'
  rintro σ H2 ⟨o,rfl,T⟩;rw [t5 (by simp [shQ])] at T
  have S2:=T.same;refine ⟨xs,S2.seq hS,λp fp=>?_⟩;rw [am6 xs (by lia)]
  have Sp:=c9.new fp (.lst (xs.take n));have nT:=(hN.take n).mono (S2.trans Sp).tups;refine ⟨⟨_,SqL.of c6⟩,λD2 fD2=>?_⟩;refine B9 (xs.take n) (λj σ H3 => ∃ o,σ=[some (.ref a),some (.int (n:Int)),o]/\G8 (upd H2 p (.lst (xs.take n))) D2 (((qs.take n).map λq=>-q / (qs[n]?.getD 0)).take j) H3) ⟨_,rfl,G8.start fD2⟩ (λj σ H3 _ ⟨_,_,R⟩=>SqL.of (R.same _ _ c6)) ?_ ?_
  · rintro j x σ H3 hx ⟨o,rfl,R⟩
    have hj:=(List.getElem?_eq_some_iff.mp hx).1;obtain ⟨px,q1,rfl,hq1,hpx⟩:=nT.getV hx;have m1:=List.mem_of_mem_take (List.mem_of_getElem? hq1);have b1:=cl.bdN m1;have bn:=cl.bdN (List.mem_of_getElem? en);have S3:=(S2.trans Sp).trans R.same;obtain ⟨pn,hpn,epn⟩:=hN.get en
    subst_eqs
    have hp1:SqT K H3 px (E8 q1):=SqT.of (R.same _ _ hpx);have S4:=Sp.trans R.same;have S5:=S2.trans S4;have bm:BdN 80 (-q1):=⟨by rw [Rat.neg_num,Int.natAbs_neg];exact b1.n,by rw [Rat.neg_den];exact b1.d⟩
    refine ⟨_,hp1,_,at0 q1,_,rfl,_,hp1,_,at1 q1,by decide,λp1 fp1=>?_⟩
    have S6:=c9.new fp1 (.tup [.int (0-q1.num),.int (q1.den:Int)]);have S7:=S5.trans S6;refine ⟨xs,S7.seq hS,_,v9 hpn,?_⟩;refine ⟨.ref p1,.ref pn,-q1,qn,80,80,rfl,⟨p1,rfl,by rw [bj4];exact SqT.of c6⟩,⟨pn,rfl,SqT.of (S7 _ _ epn)⟩,bm.t (by decide),qn0,bn.n,Nat.lt_of_lt_of_le bn.d (i6 (by decide)),by decide,λr H6 s6 e6=>?_⟩
    obtain ⟨zs,eD,yl,R'⟩:=R.add fD2 (S6.trans s6) e6;refine t6.mk hj eD (w5 (by rw [yl,List.length_take,List.length_map,List.length_take];lia)) ⟨_,rfl,?_⟩
    rw [d7 (l:=(qs.take n).map λq=>-q / (qs[n]?.getD 0)) (x:=-q1 / qn) (by rw [List.getElem?_map,hq1,gd];rfl)]
    exact R'
  rintro σ H3 ⟨o,rfl,R⟩;rw [List.take_of_length_le (l:=(qs.take n).map λq=>-q / (qs[n]?.getD 0)) (by rw [List.length_map,List.length_take,List.length_take];lia)] at R
  obtain ⟨_,ts,eD,hn,nd,rT⟩:=T;obtain ⟨s3,ys,eD2,nY⟩:=R;have S4:=Sp.trans s3;have eD3:=S4 _ _ eD;have lT:ts.length=n:=by rw [rT.length];simp [shQ]
  have fD2':H2 D2=none:=Sp.free fD2;have DD:D ≠ D2:=j3 eD fD2'
  have nts:∀ t ∈ ts,D2 ≠ t:=λt ht z=>by
    obtain ⟨i,hi⟩:=List.mem_iff_getElem?.mp ht;obtain ⟨_,_,_,e,_⟩:=rT.get hi;rw [<- z,fD2'] at e;cases e
  refine ⟨D,rfl,_,eD3,n-1,by rw [List.length_map,lT,show ((n:Int)-1)=((n-1:Nat):Int) by lia];exact aa5 (by lia),?_⟩
  have ms:∀ t ∈ ts.set (n-1) D2,t ∈ ts \/ t=D2:=λt ht=>List.mem_or_eq_of_mem_set ht;refine k _ B (aE5 qs n) oC D (ts.set (n-1) D2) _ ((S2.trans S4).over hD _) hD (λt ht=>?_) ?_ (by rw [c6,List.map_set]) ?_
  · rcases ms t ht with h | rfl
    · exact hn t h
    · exact ⟨S2.free fD2',DD.symm⟩
  · exact bj5 _ nd λz=>nts D2 z rfl
  · exact ((rT.same S4).setN _ eD2 nY).over eD3 fun z => by
      rcases ms D z with h | h
      · exact (hn D h).2 rfl
      · exact DD h
def bK (kd:Int):Nat:=if kd=2 then 40 else 4
theorem bm6 {t b:Int} (hb:b ≠ 0) (h1:t.natAbs<=9) (h2:b.natAbs<=7):BdN 4 (q0z t b):=by
 have:=N9 (t:=t) hb;exact ⟨q0p this.1 (by lia),q0p this.2 (by lia)⟩
def ac4:Sp:=λvs H Q _ => ∃ u kd,vs=[.ref u,.int kd]/\y9 H u/\∀ r q H',BdN (bK kd) q->A0 u H H'->y9 H' u->H' r=some (.tup (E8 q))->Q (.ref r) H'
theorem az1 {f fd fl:Addr} (d:Df K mg "_law_number" U5 ["_law_urn_here","_law_kind_here"] f) (G__law_draw:Def P w K mg base CX0 1 "_law_draw" fd ["_law_urn_here","_law_many"] F9) (G__law_low:Def P w K mg base CX0 1 "_law_low" fl ["_law_top","_law_bottom"] ap3) (n_int:mg "int" = none):Def P w K mg base CX0 2 "_law_number" f ["_law_urn_here","_law_kind_here"] ac4:=by
 refine d.ok (N:=["_law_urn_here","_law_kind_here","_law_top"]) V9 (λvs H Q E ⟨u,kd,h,_⟩=>by rw [h];rfl) (λcdv A outer s H vs Q E hr h=>?_)
 obtain ⟨u,kd,rfl,hu,k⟩:=h
 refine ⟨_,(c7 (E7 (l9 Q3 (pv 1) b9 (j8 _)) (c7 (i9 (i:=2) V9.nd rfl (q0x rfl) (i5 E9 (i5 z9 (d2 G__law_draw hr (b7 (pv 0) (b7 (i5 Y4 b9 b9) b8)) i4) (i5 Y4 b9 b9)) (d2 G__law_draw hr (b7 (pv 0) (b7 (i5 Y4 b9 b9) b8)) i4)))
   (d4 (j2 (d2 G__law_low hr (b7 (i5 z9 (pv 2) (j6 j9 (C5 (b7 b9 (b7 (aa0 Q5 b9) b8))) (d2 G__law_draw hr (b7 (pv 0) (b7 b9 b8)) i4) (λ_ _=>rfl))) (b7 (i5 E9 b9 (i5 z9 (d2 G__law_draw hr (b7 (pv 0) (b7 (i5 Y4 b9 b9) b8)) i4) (i5 Y4 b9 b9))) b8)) i4)))) o0)
   (d4 (j2 (d2 G__law_low hr (b7 (i5 U1 (d2 G__law_draw hr (b7 (pv 0) (b7 b9 b8)) i4) b9) (b7 (i5 E9 b9 (i5 z9 (d2 G__law_draw hr (b7 (pv 0) (b7 b9 b8)) i4) (C8 M0 rfl n_int (by decide +kernel) (b7 (G3 Q3 (pv 1) b9 (j8 _)) b8)))) b8)) i4)))),?_⟩
 rw [show start ["_law_urn_here","_law_kind_here","_law_top"] [.ref u,.int kd]=[some (.ref u),some (.int kd),none] from rfl]
 have e10:(10:Int) ^ g0c 6=1000000:=by decide
 simp! [F9,aQ7]
 refine F2 (λhk2=>?_) (λhk2=>?_)
 ·refine ⟨⟨by decide,by decide,by decide⟩,hu,by decide,by decide,λr2 H2 a2 b2 s2 u2=>?_⟩
  refine ⟨⟨by decide,by decide,by decide⟩,ap8 (by decide),⟨by decide,by decide,by decide⟩,u2,by decide,by decide,λr3 H3 a3 b3 s3 u3=>?_⟩
  refine ⟨by decide,λl hl=>⟨J2 u3 hl,by decide,by decide,λr4 H4 a4 b4 s4 u4=>?_⟩⟩
  have e:=s4 l _ c6 (E1 u3 hl);have b2':r2<1000000:=b2;have b3':r3<1000000:=b3;have sx:A0 u H H4:=s2.trans (s3.trans (A0.trans (c9.x (c9.new hl _) u) s4))
  have fin:∀ sg:Int,sg=1 \/ sg=-1->(bz7 10 6/\y9 H4 u/\0<(10:Int) ^ g0c 6/\(10:Int) ^ g0c 6<2 ^ 40/\∀ (r:Int) (H':Hp),0<=r->r<10 ^ g0c 6->A0 u H4 H'->y9 H' u ->
    bz7 10 6/\IntMulOk r (10 ^ g0c 6)/\ap3 [V.int ((r2*10 ^ g0c 6+r3)*sg),V.int (1+r*10 ^ g0c 6)] H' Q E0):=by
   intro sg hsg;refine ⟨⟨by decide,by decide,by decide⟩,u4,by decide,by decide,λr5 H5 a5 b5 s5 u5=>⟨⟨by decide,by decide,by decide⟩,ap8 (by decide),?_⟩⟩
   rw [e10] at b5 ⊢;refine ⟨_,_,rfl,by lia,q0b (show (1+r5*1000000).natAbs<2 ^ 64 by lia) (i6 (by decide)),λr H' sm hr'=>?_⟩
   refine k r _ H' (by unfold bK;rw [if_pos hk2];refine (bA0 ⋯ ?_ (by lia)).bdN;rcases hsg with h | h <;> subst h <;> lia) (sx.trans (s5.trans (c9.x sm u))) (c9.urn sm u5) hr'
  have h3:r4=0 \/ r4=1:=by lia
  rcases h3 with h | h <;> subst h
  ·exact ⟨_,SqL.of e,_,rfl,_,rfl,ap8 (by decide),fin 1 (.inl rfl)⟩
  ·exact ⟨_,SqL.of e,_,rfl,_,rfl,ap8 (by decide),fin (-1) (.inr rfl)⟩
 ·refine ⟨hu,by decide,by decide,λr2 H2 a2 b2 s2 u2=>⟨u2,by decide,by decide,λr3 H3 a3 b3 s3 u3=>⟨bq4 (by lia),?_⟩⟩⟩
  have hz:∃ z:Int,z=r3*(if kd=0 then 1 else 0)/\0<=z/\z<=6:=by
   refine ⟨_,rfl,?_,?_⟩ <;> split <;> lia
  obtain ⟨z,ez,z0,z6⟩:=hz;rw [<- ez];refine ⟨_,_,rfl,by lia,q0b (show (1+z).natAbs<2 ^ 64 by lia) (i6 (by decide)),λr H' sm hr'=>?_⟩
  exact k r _ H' (by unfold bK;rw [if_neg hk2];exact bm6 ⋯ (by lia) (by lia)) (s2.trans (s3.trans (c9.x sm u))) (c9.urn sm u3) hr'
def ag2:Sp:=λvs H Q _ => ∃ u kd,vs=[.ref u,.int kd]/\y9 H u/\∀ r q H',BdN (bK kd) q->q ≠ 0->A0 u H H'->y9 H' u->H' r=some (.tup (E8 q))->Q (.ref r) H'
theorem aC5 {f fd fl:Addr} (d:Df K mg "_law_other" ab7 ["_law_urn_here","_law_kind_here"] f) (G__law_draw:Def P w K mg base CX0 1 "_law_draw" fd ["_law_urn_here","_law_many"] F9) (GD__law_number:Def P w K mg base CX0 2 "_law_number" fl ["_law_urn_here","_law_kind_here"] ac4):Def P w K mg base CX0 3 "_law_other" f ["_law_urn_here","_law_kind_here"] ag2:=by
 refine d.ok (N:=["_law_urn_here","_law_kind_here","_law_found"]) ap5 (λvs H Q E ⟨u,kd,h,_⟩=>by rw [h];rfl) (λcdv A outer s H vs Q E hr h=>?_)
 obtain ⟨u,kd,rfl,hu,k⟩:=h;have G__law_number:=GD__law_number
 refine ⟨_,(c7 (i9 (i:=2) ap5.nd rfl (q0x rfl) (d2 G__law_number hr (b7 (pv 0) (b7 (pv 1) b8)) i4))
   (c7 (E7 (l9 Q3 (j6 y3 (pv 2) b9 (λ_ _=>rfl)) b9 (j8 _)) (d4 (j2 (m6 (b7 (i5 E9 b9 (d2 G__law_draw hr (b7 (pv 0) (b7 b9 b8)) i4)) (b7 b9 b8))))) o0)
   (d4 (j2 (pv 2))))),?_⟩
 rw [show start ["_law_urn_here","_law_kind_here","_law_found"] [.ref u,.int kd]=[some (.ref u),some (.int kd),none] from rfl]
 simp! [F9]
 refine ⟨u,kd,rfl,hu,λr q H1 sm s1 u1 e1=>?_⟩;refine ⟨r,rfl,_,SqT.of e1,_,at0 q,rfl,F2 (λ_=>?_) (λhn=>?_)⟩
 ·refine ⟨u1,by decide,by decide,λr2 H2 a2 b2 s2 u2=>⟨t8,λl hl=>?_⟩⟩
  have hd:=aq9 (n:=1+r2) (d:=1) (by decide) (by simp)
  refine k l (q0z (1+r2) 1) _ ((bm6 (by decide) (by lia) (by decide)).mono (by unfold bK;split <;> decide)) ?_ (s1.trans (s2.trans (c9.x (c9.new hl _) u))) (J2 u2 hl) ?_
  ·intro z
   rw [z] at hd;have:(0:Rat).num=0:=rfl;omega
  ·rw [c6]
   unfold E8;rw [hd.1,hd.2]
 ·refine k r q H1 sm (λz=>hn ?_) s1 u1 e1
  rw [z];rfl
theorem bi6 {B W w:Nat} {x q:Rat} (h:OvB B W x) (hq:BdN w q) (q0:q ≠ 0):OvB (B*q.num.natAbs) (W+w) (x / q):=by
 obtain ⟨v,rfl,b⟩:=h;have qn:q.num ≠ 0:=λz=>q0 (at7.mp z);refine ⟨v*(q.den:Int)*q.num.sign,?_,?_⟩
 ·have e:q=q0z q.num q.den:=(z0j q).symm
  have n1:(q.num.natAbs:Int)=q.num*q.num.sign:=by
   have:=Int.mul_sign_self q.num;rw [this]
  have s0:q.num.sign ≠ 0:=λz=>qn (Int.sign_eq_zero_iff_zero.mp z);rw [j0t,n1]
  conv=>lhs;rw [e,v0m,Rat.inv_divInt,y0a]
  rw [show (B:Int)*(q.num*q.num.sign)=(B:Int)*q.num*q.num.sign by rw [q1a],m0y s0]
 ·rw [z0k,z0k,q0w,Int.natAbs_sign_of_ne_zero qn,q1q,z0f]
  exact z0g b hq.d
theorem B8.up {B W C c:Nat} {M:List (List Rat)} (h:B8 B W M) (hC:0<C) (hc:C<2 ^ c):B8 (B*C) (W+c) M:=⟨h.n7,j0a h.B0 hC,by rw [z0f];exact z0g h.BW hc,λL hL=>⟨(h.row L hL).1,λq hq=>((h.row L hL).2 q hq).up h.B0 hC hc⟩⟩
theorem B8.mono {B V' W:Nat} {M:List (List Rat)} (h:B8 B V' M) (l:V'<=W):B8 B W M:=⟨h.n7,h.B0,q0b h.BW (i6 l),λL hL=>⟨(h.row L hL).1,λq hq=>((h.row L hL).2 q hq).mono l⟩⟩
theorem B8.setRM {B V' W:Nat} {M:List (List Rat)} (h:B8 B V' M) {i:Nat} {L':List Rat} (l:L'.length=M.length) (r:∀ q ∈ L',OvB B W q) (hw:V'<=W):B8 B W (M.set i L'):=⟨by rw [y0d];exact h.n7,h.B0,q0b h.BW (i6 hw),λL hL=>by
 rw [y0d];rcases j0p hL with z | rfl
 ·exact ⟨(h.row L z).1,λq hq=>((h.row L z).2 q hq).mono hw⟩
 ·exact ⟨l,r⟩⟩
theorem aS3 {H:Hp} {p:Addr} (o:HO) (h:H p=none):∃ H',H'=upd H p o/\c9 H H'/\H' p=some o:=⟨_,rfl,c9.new h o,c6⟩
theorem B8.setR {B W:Nat} {M:List (List Rat)} (h:B8 B W M) {i:Nat} {L':List Rat} (l:L'.length=M.length) (r:∀ q ∈ L',OvB B W q):B8 B W (M.set i L'):=⟨by rw [y0d];exact h.n7,h.B0,h.BW,λL hL=>by
 rw [y0d];rcases j0p hL with z | rfl
 ·exact h.row L z
 ·exact ⟨l,r⟩⟩
def as8 (k:Nat) (x:Rat) (L:List Rat):List Rat:=L.take k ++ [x] ++ L.drop (k+1)
theorem bo8 {k:Nat} {x:Rat} {L:List Rat} (h:k<L.length):(as8 k x L).length=L.length:=by
 unfold as8;rw [z0z,z0z,q0v,u0c,v0f];lia
theorem bv9 {B W k:Nat} {x:Rat} {L:List Rat} (h:∀ q ∈ L,OvB B W q) (hx:OvB B W x):∀ q ∈ as8 k x L,OvB B W q:=λq hq=>by
 unfold as8 at hq;rcases z0t.mp hq with z | z
 ·rcases z0t.mp z with z | z
  ·exact h q (j0w z)
  ·rw [z0d.mp z];exact hx
 ·exact h q (List.mem_of_mem_drop z)
theorem B8.put {B W C V':Nat} {M:List (List Rat)} (h:B8 B W M) {k:Nat} (hk:k<M.length) (f:List Rat->Rat) (B0:0<C) (BV:C<2 ^ V') (hl:∀ L ∈ M,∀ q ∈ L,OvB C V' q) (hf:∀ L ∈ M,OvB C V' (f L)):B8 C V' (M.map λL=>as8 k (f L) L):=⟨by rw [q0e];exact h.n7,B0,BV,λL hL=>by
 obtain ⟨L0,h0,rfl⟩:=z0e.mp hL;have l:=(h.row L0 h0).1;exact ⟨by rw [bo8 (by lia),q0e,l],bv9 (hl L0 h0) (hf L0 h0)⟩⟩
theorem Y8 {L:List Rat} {k:Nat} (h:k<L.length):aQ L k ∈ L:=by
 have e:=q0d (l:=L) (i:=k) h;unfold aQ;rw [e];exact q0c e
theorem aE6 {L:List Rat} {k:Nat} (h:k<L.length):L[k]? = some (aQ L k):=by
 have e:=q0d (l:=L) (i:=k) h;unfold aQ;rw [e];rfl
structure aa3 (u:Addr) (H:Hp) (l:Addr) (us:List Addr) (M:List (List Rat)) (H3:Hp):Prop where
 same:A0 u H H3
 urn:y9 H3 u
 fr:H l=none
 lu:l ≠ u
 at':H3 l=some (.lst (us.map V.ref))
 nl:l ∉ us
 nu:∀ t ∈ us,t ≠ u
 nf:∀ t ∈ us,H t=none
 rws:Rws H3 us M
theorem aa3.x {u l:Addr} {H H3 H4:Hp} {us:List Addr} {M:List (List Rat)} (d:aa3 u H l us M H3) (s:A0 u H3 H4) (hu:y9 H4 u):aa3 u H l us M H4:=⟨d.same.trans s,hu,d.fr,d.lu,s _ _ d.at' d.lu,d.nl,d.nu,d.nf,d.rws.samex s d.urn d.nu⟩
theorem aa3.s {u l:Addr} {H H3 H4:Hp} {us:List Addr} {M:List (List Rat)} (d:aa3 u H l us M H3) (s:c9 H3 H4):aa3 u H l us M H4:=d.x (c9.x s u) (c9.urn s d.urn)
theorem aa3.put {u l:Addr} {H H3:Hp} {us:List Addr} {M:List (List Rat)} (d:aa3 u H l us M H3) (i:Nat) {D:Addr} {zs:List V} {L':List Rat} (eD:H3 D=some (.lst zs)) (nD:C9 H3 zs L') (dl:D ≠ l) (du:D ≠ u) (df:H D=none):aa3 u H l (us.set i D) (M.set i L') (upd H3 l (.lst ((us.map V.ref).set i (V.ref D)))):=by
 have nl:l ∉ us.set i D:=λz=>by
  rcases j0p z with z | z
  ·exact d.nl z
  ·exact dl z.symm
 refine ⟨λb o h n=>?_,d.urn.other d.lu,d.fr,d.lu,by rw [c6,List.map_set],nl,λt ht=>?_,λt ht=>?_,(d.rws.setN i eD nD).over d.at' nl⟩
 ·rw [i8 (j3 h d.fr)]
  exact d.same _ _ h n
 ·rcases j0p ht with z | z
  ·exact d.nu t z
  ·rw [z];exact du
 ·rcases j0p ht with z | z
  ·exact d.nf t z
  ·rw [z];exact df
theorem aa3.made {u l D:Addr} {H H3 H4:Hp} {us:List Addr} {M N:List (List Rat)} (d:aa3 u H l us M H3) (hD:H3 D=none) (t:t7 H3 D N H4):∃ vs,aa3 u H D vs N H4:=by
 obtain ⟨s,ts,e,fr,nd,R⟩:=t;exact ⟨ts,d.same.trans (c9.x s u),c9.urn s d.urn,d.same.free d.urn hD,E1 d.urn hD,e,λz=>(fr D z).2 rfl,λt ht=>E1 d.urn (fr t ht).1,λt ht=>d.same.free d.urn (fr t ht).1,R⟩
theorem aa3.row {u l:Addr} {H H3:Hp} {us:List Addr} {M:List (List Rat)} (d:aa3 u H l us M H3) {i:Nat} (hi:i<M.length):∃ p xs L,us[i]? = some p/\(us.map V.ref)[i]? = some (.ref p)/\M[i]? = some L/\H3 p=some (.lst xs)/\C9 H3 xs L:=by
 obtain ⟨p,hp⟩:∃ p,us[i]? = some p:=⟨_,q0d (by rw [d.rws.length];exact hi)⟩
 obtain ⟨xs,L,a,b,c⟩:=d.rws.get hp;exact ⟨p,xs,L,hp,by rw [q0m,hp];rfl,a,b,c⟩
theorem bA8 {qa D:Addr} {ts:List Addr} {M:List (List Rat)} {H1:Hp} {Q:VK} (hA:H1 qa=some (.lst (ts.map V.ref))) (R:Rws H1 ts M) (hD:H1 D=none) (hl:M.length<=50) (k:∀ H2,t7 H1 D M H2->Q (.ref D) H2):aa8 (Itl K qa) D [none] (upd H1 D (.lst [])) (t4 0) (tCB (aV1 K) (P2 (O1 0) ak4)) Q:=by
 refine B9 (ts.map V.ref) (λj σ H3 => ∃ o,σ=[o]/\t7 H1 D (M.take j) H3) ⟨_,rfl,t7.start hD⟩ (λj σ H3 _ ⟨o,_,T⟩=>SqL.of (T.same _ _ hA)) ?_ ?_
 ·rintro j x σ H3 hx ⟨o,rfl,T⟩
  have hj:=(q0g.mp hx).1;obtain ⟨pr,hpr,rfl⟩:=B7 hx;obtain ⟨ys,Lr,hLr,er,nr⟩:=R.get hpr
  subst_eqs
  refine ⟨ys,.inl (SqL.of (T.same _ _ er)),λl hl'=>?_⟩;obtain ⟨ys',eD,yl,T'⟩:=T.add hD hl' ⟨c9.new hl' (.lst ys),ys,c6,(nr.mono T.same.tups).mono (c9.new hl' _).tups⟩;refine t6.mk hj eD (w5 (by rw [yl,q0v];lia)) ⟨_,rfl,?_⟩
  rw [d7 hLr];exact T'
 ·rintro σ H3 ⟨o,rfl,T⟩
  rw [t5 (by rw [q0e,R.length];exact q0h _)] at T
  exact k H3 T
theorem aR1 {t p r:Addr} {xs:List V} {L:List Rat} {j:Nat} {y:Rat} {H1:Hp} {G:V->Hp->Prop} (e1:H1 p=some (.lst (xs.take j))) (et:H1 t=some (.lst xs)) (nt:C9 H1 xs L) (er:H1 r=some (.tup (E8 y))) (hj:j<L.length) (l7:L.length<=7)
  (k:∀ r' zs H5,c9 H1 H5->H1 r'=none->H5 r'=some (.lst zs)->C9 H5 zs (as8 j y L)->G (.ref r') H5):0+1<=sizeLine/\∀ p1,H1 p1=none->∃ x5,upd H1 p1 (.lst [.ref r]) p=some (.lst x5)/\∃ x6,upd H1 p1 (.lst [.ref r]) p1=some (.lst x6)/\x5.length+x6.length<=sizeLine/\∀ p2,upd H1 p1 (.lst [.ref r]) p2=none->∃ x7,SqL K (upd (upd H1 p1 (.lst [.ref r])) p2 (.lst (x5 ++ x6))) t x7/\∀ p3,upd (upd H1 p1 (.lst [.ref r])) p2 (.lst (x5 ++ x6)) p3=none->∃ x8,upd (upd (upd H1 p1 (.lst [.ref r])) p2 (.lst (x5 ++ x6))) p3 (.lst (ao9 x7 (some ((j:Int)+1)) none)) p2=some (.lst x8)/\∃ x9,upd (upd (upd H1 p1 (.lst [.ref r])) p2 (.lst (x5 ++ x6))) p3 (.lst (ao9 x7 (some ((j:Int)+1)) none)) p3=some (.lst x9)/\x8.length+x9.length<=sizeLine/\∀ p4,upd (upd (upd H1 p1 (.lst [.ref r])) p2 (.lst (x5 ++ x6))) p3 (.lst (ao9 x7 (some ((j:Int)+1)) none)) p4=none->G (.ref p4) (upd (upd (upd (upd H1 p1 (.lst [.ref r])) p2 (.lst (x5 ++ x6))) p3 (.lst (ao9 x7 (some ((j:Int)+1)) none))) p4 (.lst (x8 ++ x9))):=by
 have lx:=nt.length;refine ⟨by decide,λp1 f1=>?_⟩
 have S1:=c9.new f1 (.lst [.ref r]);refine ⟨_,S1 _ _ e1,_,c6,q0s (m:=100) (by rw [q0v,v0f];lia) (by decide),λp2 f2=>?_⟩
 have S2:=c9.new f2 (.lst (xs.take j ++ [.ref r]));have S12:=S1.trans S2;refine ⟨xs,SqL.of (S12 _ _ et),λp3 f3=>?_⟩;rw [show ((j:Int)+1)=((j+1:Nat):Int) from rfl,aE3 xs (by lia)]
 have S3:=c9.new f3 (.lst (xs.drop (j+1)));refine ⟨_,S3 _ _ c6,_,c6,q0s (m:=100) (by rw [z0z,q0v,v0f,u0c];omega) (by decide),λp4 f4=>?_⟩
 have S4:=c9.new f4 (.lst (xs.take j ++ [.ref r] ++ xs.drop (j+1)));have S:=S12.trans (S3.trans S4);exact k p4 _ _ S ((S12.trans S3).free f4) c6 ((((nt.take j).append (.cons er .nil)).append (nt.drop (j+1))).mono S.tups)
theorem bs5 {u l po D : Addr} {H H9 : Hp} {us : List Addr} {N : List (List Rat)} {n i j C W : Nat} {q : Rat} {Q : VK} (d : aa3 u H l us N H9) (epo : H9 po = some (.tup (E8 q))) (bq : BdN 4 q) (hD : H9 D = none) (lN : N.length = n) (oN : B8 C W N) (hW : W ≤ 1000) (hi : i < n) (hj : j < n) (k : ∀ H', t7 H9 D (N.map fun L => as8 j (aQ L j - q * aQ L i) L) H' → Q (.ref D) H') : aa8 (Itl K l) D [some (.ref po), some (.int (j : Int)), some (.int (i : Int)), none] (upd H9 D (.lst [])) (t4 3)
    (tOp aL9 (tOp aL9 (tSl (as7 K) (O1 3) ab0 (ar8 (O1 1))) (bc2 (P2 (aA2 (J3 K λx1 x2=>x1-x2) E0 (P2 (tOp (al1 K) (O1 3) (O1 1)) (P2 (aA2 (J3 K λx1 x2=>x1*x2) E0 (P2 (O1 0) (P2 (tOp (al1 K) (O1 3) (O1 2)) ak4))) ak4))) ak4))) (tSl (as7 K) (O1 3) (ar8 (tOp (rI0 λi j=>V.int (i+j)) (O1 1) (tC (V.int 1)))) ab0)) Q:=by
  have n7:=oN.n7;refine B9 (us.map V.ref) (λy σ H3 => ∃ o,σ=[some (.ref po),some (.int (j:Int)),some (.int (i:Int)),o]/\t7 H9 D ((N.map λL=>as8 j (aQ L j-q*aQ L i) L).take y) H3) ⟨_,rfl,t7.start hD⟩ (λj σ H3 _ ⟨o,_,T⟩=>SqL.of (T.same _ _ d.at')) ?_ ?_
  · rintro y x σ H3 hx ⟨o,rfl,T⟩
    have hy:=(List.getElem?_eq_some_iff.mp hx).1;obtain ⟨t,ht,rfl⟩:=B7 hx;obtain ⟨xs,L,hL,et,nt⟩:=d.rws.get ht;have hLm:=oN.bd L (List.mem_of_getElem? hL);have lx:=nt.length;have lL:=hLm.1
    subst_eqs
    have S3:=T.same;have bi:=hLm.2 _ (Y8 (L:=L) (k:=i) (by lia))
    have bj:=hLm.2 _ (Y8 (L:=L) (k:=j) (by lia))
    obtain ⟨pi,gi,ei⟩:=nt.get (aE6 (L:=L) (k:=i) ⋯);obtain ⟨pj,gj,ej⟩:=nt.get (aE6 (L:=L) (k:=j) ⋯);refine ⟨xs,SqL.of (S3 _ _ et),λp fp=>?_⟩;rw [am6 xs (by lia)]
    have Sp:=c9.new fp (.lst (xs.take j));have S4:=S3.trans Sp;refine ⟨_,SqL.of (S4 _ _ et),_,v9 gj,_,SqL.of (S4 _ _ et),_,v9 gi,_,_,q,aQ L i,4,W,rfl,⟨_,rfl,SqT.of (S4 _ _ epo)⟩,⟨_,rfl,SqT.of (S4 _ _ ei)⟩,bq.t (by decide),bi.t (by lia),by lia,λr1 H5 s5 e5=>?_⟩
    have S5:=S4.trans s5;refine ⟨_,_,aQ L j,q*aQ L i,W,4+W,rfl,⟨_,rfl,SqT.of (S5 _ _ ej)⟩,⟨_,rfl,SqT.of e5⟩,bj.t ⋯,(bq.mul bi).t (by lia),by lia,λr2 H6 s6 e6=>?_⟩
    have S6:=S5.trans s6;refine aR1 (s6 _ _ (s5 _ _ c6)) (S6 _ _ et) (nt.mono S6.tups) e6 ⋯ (by lia) λr' zs H7 s7 f7 e7 n7'=>?_
    obtain ⟨ys',eD,yl,T'⟩:=T.add hD ((Sp.trans (s5.trans s6)).free f7) ⟨Sp.trans (s5.trans (s6.trans s7)),zs,e7,n7'⟩;refine t6.mk hy eD (w5 (by rw [yl,List.length_take,List.length_map];lia)) ⟨_,rfl,?_⟩
    rw [d7 (l:=N.map λL=>as8 j (aQ L j-q*aQ L i) L) (x:=as8 j (aQ L j-q*aQ L i) L) (by rw [List.getElem?_map,hL];rfl)]
    exact T'
  · rintro σ H3 ⟨o,rfl,T⟩
    rw [t5 (by rw [List.length_map,List.length_map,d.rws.length];exact Nat.le_refl _)] at T
    exact k H3 T
theorem bs4 {u l po D : Addr} {H H9 : Hp} {us : List Addr} {N : List (List Rat)} {n i C W : Nat} {q : Rat} {Q : VK} (d : aa3 u H l us N H9) (epo : H9 po = some (.tup (E8 q))) (bq : BdN 4 q) (q0 : q ≠ 0) (hD : H9 D = none) (lN : N.length = n) (oN : B8 C W N) (hW : W ≤ 1000) (hi : i < n) (k : ∀ H', t7 H9 D (N.map fun L => as8 i (aQ L i / q) L) H' → Q (.ref D) H') : aa8 (Itl K l) D [some (.ref po), some (.int (i : Int)), none] (upd H9 D (.lst [])) (t4 2)
    (tOp aL9 (tOp aL9 (tSl (as7 K) (O1 2) ab0 (ar8 (O1 1))) (bc2 (P2 (aA2 (ah9 K) E0 (P2 (tOp (al1 K) (O1 2) (O1 1)) (P2 (O1 0) ak4))) ak4))) (tSl (as7 K) (O1 2) (ar8 (tOp (rI0 λi j=>V.int (i+j)) (O1 1) (tC (V.int 1)))) ab0)) Q:=by
  have n7:=oN.n7;refine B9 (us.map V.ref) (λy σ H3 => ∃ o,σ=[some (.ref po),some (.int (i:Int)),o]/\t7 H9 D ((N.map λL=>as8 i (aQ L i / q) L).take y) H3) ⟨_,rfl,t7.start hD⟩ (λj σ H3 _ ⟨o,_,T⟩=>SqL.of (T.same _ _ d.at')) ?_ ?_
  · rintro y x σ H3 hx ⟨o,rfl,T⟩
    have hy:=(List.getElem?_eq_some_iff.mp hx).1;obtain ⟨t,ht,rfl⟩:=B7 hx;obtain ⟨xs,L,hL,et,nt⟩:=d.rws.get ht;have hLm:=oN.bd L (List.mem_of_getElem? hL);have lx:=nt.length;have lL:=hLm.1
    subst_eqs
    have S3:=T.same;have bi:=hLm.2 _ (Y8 (L:=L) (k:=i) (by lia))
    obtain ⟨pi,gi,ei⟩:=nt.get (aE6 (L:=L) (k:=i) ⋯);refine ⟨xs,SqL.of (S3 _ _ et),λp fp=>?_⟩;rw [am6 xs (by lia)]
    have Sp:=c9.new fp (.lst (xs.take i));have S4:=S3.trans Sp;refine ⟨_,SqL.of (S4 _ _ et),_,v9 gi,_,_,aQ L i,q,W,4,rfl,⟨_,rfl,SqT.of (S4 _ _ ei)⟩,⟨_,rfl,SqT.of (S4 _ _ epo)⟩,bi.t (by lia),q0,bq.n,Nat.lt_of_lt_of_le bq.d (i6 (by decide)),by lia,λr2 H6 s6 e6=>?_⟩
    have S6:=S4.trans s6;refine aR1 (s6 _ _ c6) (S6 _ _ et) (nt.mono S6.tups) e6 ⋯ (by lia) λr' zs H7 s7 f7 e7 n7'=>?_
    obtain ⟨ys',eD,yl,T'⟩:=T.add hD ((Sp.trans s6).free f7) ⟨Sp.trans (s6.trans s7),zs,e7,n7'⟩;refine t6.mk hy eD (w5 (by rw [yl,List.length_take,List.length_map];lia)) ⟨_,rfl,?_⟩
    rw [d7 (l:=N.map λL=>as8 i (aQ L i / q) L) (x:=as8 i (aQ L i / q) L) (by rw [List.getElem?_map,hL];rfl)]
    exact T'
  · rintro σ H3 ⟨o,rfl,T⟩
    rw [t5 (by rw [List.length_map,List.length_map,d.rws.length];exact Nat.le_refl _)] at T
    exact k H3 T
def av3 (K:q0a):Sp:=λvs H Q _ => ∃ (u a:Addr) (ts:List Addr) (M:List (List Rat)) (B n:Nat),vs=[.ref u,.int 0,.ref a,.int 4]/\y9 H u/\TbX u H a ts M/\M.length=n/\1<=n/\n<=4/\B8 B 80 M/\∀ r us N C H',aa3 u H r us N H'->N.length=n->B8 C 120 N->Q (.ref r) H'
abbrev E5:Stmt:=top 82
theorem B5:j4 ["_law_urn_here","_law_kind_here","_law_table","_law_most","_law_rows","_law_n","_law_step","_law_i","_law_j","_law_way","_law_often","_law_order"] ["_law_urn_here","_law_kind_here","_law_table","_law_most"] (c8 E5):=by and_intros
theorem ay7 {f f1 f2 f3 f4 f5 f6:Addr} (d:Df K mg "_law_likened" E5 ["_law_urn_here","_law_kind_here","_law_table","_law_most"] f) (G__law_draw:Def P w K mg base CX0 1 "_law_draw" f1 ["_law_urn_here","_law_many"] F9) (GD__law_other:Def P w K mg base CX0 3 "_law_other" f2 ["_law_urn_here","_law_kind_here"] ag2) (G__law_plus:Def P w K mg base CX0 2 "_law_plus" f3 ["_law_one_here","_law_other_here"] (J3 K (· + ·))) (G__law_times:Def P w K mg base CX0 2 "_law_times" f4 ["_law_one_here","_law_other_here"] (J3 K (· * ·))) (G__law_less:Def P w K mg base CX0 2 "_law_less" f5 ["_law_one_here","_law_other_here"] (J3 K (· - ·))) (G__law_over:Def P w K mg base CX0 2 "_law_over" f6 ["_law_one_here","_law_other_here"] (ah9 K)) (n_len:mg "len" = none) (n_range:mg "range" = none) (n_list:mg "list" = none) (n_max:mg "max" = none) (n_zip:mg "zip" = none) (n_int:mg "int" = none):Def P w K mg base CX0 7 "_law_likened" f ["_law_urn_here","_law_kind_here","_law_table","_law_most"] (av3 K):=by
  refine d.ok (N:=["_law_urn_here","_law_kind_here","_law_table","_law_most","_law_rows","_law_n","_law_step","_law_i","_law_j","_law_way","_law_often","_law_order"]) B5 (by rintro vs H Q E ⟨_,_,_,_,_,_,h,_⟩;rw [h];rfl) (λcdv A outer s H vs Q E hr h=>?_)
  obtain ⟨u,a,ts,M,B,n,rfl,hU,T0,lM,n1,n4,oM,k⟩:=h;have G__law_other:=GD__law_other
  refine ⟨_, (c7 (V6 (i₀ := 4) B5.nd rfl (Or.inl rfl) (Nc := ["_law_row"]) (caps := [none]) rfl (G5.of (osc := c8 E5) (N := ["_law_urn_here", "_law_kind_here", "_law_table", "_law_most", "_law_rows", "_law_n", "_law_step", "_law_i", "_law_j", "_law_way", "_law_often", "_law_order"]) (ks := []) rfl rfl rfl rfl k9 (by decide +kernel)) (A5 (pv 2)) (fun C s₂ H₂ fp pins => (d5 (i := 0) (show List.Nodup (["_law_row"] : List Str) by decide +kernel) rfl (Or.inl rfl) (Or.inr rfl))) (fun C s₂ H₂ fp pins => (C8 (by exact M9 : aa9 _ (.type "list") (aV1 K)) rfl n_list (by decide +kernel) (b7 (pv 0) b8))))
      (c7 (i9 (i:=5) B5.nd rfl (Or.inl rfl) (i7 k6 rfl n_len (by decide +kernel) (b7 (pv 4) b8)))
      (c7 (P6 PassesOwn.never rfl (E4 rfl n_range (b7 (d2 G__law_draw hr (b7 (pv 0) (b7 (i5 E9 (pv 3) b9) b8)) i4) b8)) (d5 (i:=6) B5.nd rfl (Or.inl rfl)) (c7 (i9 (i:=7) B5.nd rfl (Or.inr rfl) (d2 G__law_draw hr (b7 (pv 0) (b7 (pv 5) b8)) i4))
      (c7 (i9 (i:=8) B5.nd rfl (Or.inr rfl) (i5 S9 (i5 E9 (i5 E9 (pv 7) b9) (d2 G__law_draw hr (b7 (pv 0) (b7 (i7 (bf5 rfl) rfl n_max (by decide +kernel) (b7 b9 (b7 (i5 U1 (pv 5) b9) b8))) b8)) i4)) (pv 5)))
      (c7 (i9 (i:=9) B5.nd rfl (Or.inl rfl) (d2 G__law_draw hr (b7 (pv 0) (b7 b9 b8)) i4))
      (c7 (i9 (i:=10) B5.nd rfl (Or.inr rfl) (d2 G__law_other hr (b7 (pv 0) (b7 (pv 1) b8)) i4))
      (d4 (E7 (PW.pt (aV5 (l9 al4 (pv 9) b9 (j8 _)) (aM2 (l9 ap7 (pv 7) (pv 8) (j8 _))))) (c7 (K7 (t9 (Nc:=["_law_often","_law_a","_law_b"]) (caps:=[some 10,none,none]) rfl (G5.of (osc:=c8 E5) (N:=["_law_urn_here","_law_kind_here","_law_table","_law_most","_law_rows","_law_n","_law_step","_law_i","_law_j","_law_way","_law_often","_law_order"]) (ks:=["_law_often"]) rfl rfl rfl rfl (j7 rfl k9) (by decide +kernel)) (af7 rfl n_zip (b7 (j6 j9 (pv 4) (pv 7) (λ_ _=>rfl)) (b7 (j6 j9 (pv 4) (pv 8) (λ_ _=>rfl)) b8))) (λC s₂ H₂ fp pins=>(show PG _ _ (U2 K 2 (w9 (t4 1) (w9 (t4 2) U3))) from by (refine F4 (n:=2) ?_ ?_ ?_ ?_;rfl;(refine j1 ?_ ?_ ?_;(exact (d5 (i:=1) (show List.Nodup (["_law_often","_law_a","_law_b"]:List Str) by decide +kernel) rfl (Or.inl rfl) (Or.inr rfl)));(refine j1 ?_ ?_ ?_;(exact (d5 (i:=2) (show List.Nodup (["_law_often","_law_a","_law_b"]:List Str) by decide +kernel) rfl (Or.inl rfl) (Or.inr rfl)));(exact C6);rfl);rfl);rfl;rfl))) (λC s₂ H₂ fp pins=>(d2 G__law_plus hr (b7 (pv 1) (b7 (d2 G__law_times hr (b7 (pv 0) (b7 (pv 2) b8)) i4) b8)) i4))) (V7 (pv 4) (pv 7) K2))
      (d4 (V6 (i₀:=4) B5.nd rfl (Or.inl rfl) (Nc:=["_law_often","_law_j","_law_i","_law_row"]) (caps:=[some 10,some 8,some 7,none]) rfl (G5.of (osc:=c8 E5) (N:=["_law_urn_here","_law_kind_here","_law_table","_law_most","_law_rows","_law_n","_law_step","_law_i","_law_j","_law_way","_law_often","_law_order"]) (ks:=["_law_often","_law_j","_law_i"]) rfl rfl rfl rfl (j7 rfl (j7 rfl (j7 rfl k9))) (by decide +kernel)) (A5 (pv 4)) (λC s₂ H₂ fp pins=>(d5 (i:=3) (show List.Nodup (["_law_often","_law_j","_law_i","_law_row"]:List Str) by decide +kernel) rfl (Or.inl rfl) (Or.inr rfl))) (λC s₂ H₂ fp pins=>(i5 aa4 (i5 aa4 (U8 (by exact Y9:SlR _ (as7 K)) (pv 3) ac1 (W6 (pv 1))) (C5 (b7 (d2 G__law_less hr (b7 (j6 (by exact j9:IxR _ (al1 K)) (pv 3) (pv 1) (λ_ _=>rfl)) (b7 (d2 G__law_times hr (b7 (pv 0) (b7 (j6 (by exact j9:IxR _ (al1 K)) (pv 3) (pv 2) (λ_ _=>rfl)) b8)) i4) b8)) i4) b8))) (U8 (by exact Y9:SlR _ (as7 K)) (pv 3) (W6 (i5 E9 (pv 1) b9)) ac1)))))) (d4 (E7 (l9 Q3 (pv 9) b9 (j8 _)) (c7 (K7 (m6 (b7 (j6 j9 (pv 4) (pv 8) (λ_ _=>rfl)) (b7 (j6 j9 (pv 4) (pv 7) (λ_ _=>rfl)) b8))) (show PG _ _ (U2 K 2 (w9 (aW9 _ _ aB6) (w9 (aW9 _ _ aB6) U3))) from by (refine F4 (n:=2) ?_ ?_ ?_ ?_;rfl;(refine j1 ?_ ?_ ?_;(exact (V7 (pv 4) (pv 7) K2));(refine j1 ?_ ?_ ?_;(exact (V7 (pv 4) (pv 8) K2));(exact C6);rfl);rfl);rfl;rfl)))
      (c7 (i9 (i:=11) B5.nd rfl (Or.inr rfl) (t9 (Nc:=["_law_j","_law_i","_law_k"]) (caps:=[some 8,some 7,none]) rfl (G5.of (osc:=c8 E5) (N:=["_law_urn_here","_law_kind_here","_law_table","_law_most","_law_rows","_law_n","_law_step","_law_i","_law_j","_law_way","_law_often","_law_order"]) (ks:=["_law_j","_law_i"]) rfl rfl rfl rfl (j7 rfl (j7 rfl k9)) (by decide +kernel)) (E4 rfl n_range (b7 (pv 5) b8)) (λC s₂ H₂ fp pins=>(d5 (i:=2) (show List.Nodup (["_law_j","_law_i","_law_k"]:List Str) by decide +kernel) rfl (Or.inl rfl) (Or.inr rfl))) (λC s₂ H₂ fp pins=>(j6 (by exact j9:IxR _ (al1 K)) (C5 (b7 (pv 2) (b7 (pv 0) (b7 (pv 1) b8)))) (i5 E9 (C8 M0 rfl n_int (by decide +kernel) (b7 (G3 Q3 (pv 2) (pv 1) (j8 _)) b8)) (i5 z9 b9 (C8 M0 rfl n_int (by decide +kernel) (b7 (aM6 (G3 Q3 (pv 2) (pv 0) (j8 _)) (aM5 (G3 ap7 (pv 1) (pv 0) (j8 _)))) b8)))) (λ_ _=>rfl)))))
      (d4 (ax3 (i₀:=4) B5.nd rfl (Or.inl rfl) (Nc:=["_law_order","_law_row"]) (caps:=[some 11,none]) rfl (ak0.of (osc:=c8 E5) (N:=["_law_urn_here","_law_kind_here","_law_table","_law_most","_law_rows","_law_n","_law_step","_law_i","_law_j","_law_way","_law_often","_law_order"]) (ks:=["_law_order"]) rfl rfl rfl rfl (j7 rfl k9) (by decide +kernel)) (A5 (pv 4)) (λC s₂ H₂ fp pins=>(d5 (i:=1) (show List.Nodup (["_law_order","_law_row"]:List Str) by decide +kernel) rfl (Or.inr rfl) (Or.inl rfl))) (λC s₂ H₂ fp pins=>(t9 (Nc:=["_law_row","_law_k"]) (caps:=[some 1,none]) rfl (G5.of (osc:=_) (N:=["_law_order","_law_row"]) (ks:=["_law_row"]) rfl rfl rfl rfl (j7 rfl k9) (by kernel_rfl)) (show PI _ _ _ (am0 K _) from by exact (A5 (pv 0))) (λC s₂ H₂ fp pins=>(d5 (i:=1) (show List.Nodup (["_law_row","_law_k"]:List Str) by decide +kernel) rfl (Or.inl rfl) (Or.inr rfl))) (λC s₂ H₂ fp pins=>(j6 (by exact j9:IxR _ (al1 K)) (pv 0) (pv 1) (λ_ _=>rfl))))))))) (c7 (K7 (t9 (Nc:=["_law_often","_law_a"]) (caps:=[some 10,none]) rfl (G5.of (osc:=c8 E5) (N:=["_law_urn_here","_law_kind_here","_law_table","_law_most","_law_rows","_law_n","_law_step","_law_i","_law_j","_law_way","_law_often","_law_order"]) (ks:=["_law_often"]) rfl rfl rfl rfl (j7 rfl k9) (by decide +kernel)) (A5 (j6 j9 (pv 4) (pv 7) (λ_ _=>rfl))) (λC s₂ H₂ fp pins=>(d5 (i:=1) (show List.Nodup (["_law_often","_law_a"]:List Str) by decide +kernel) rfl (Or.inl rfl) (Or.inr rfl))) (λC s₂ H₂ fp pins=>(d2 G__law_times hr (b7 (pv 0) (b7 (pv 1) b8)) i4))) (V7 (pv 4) (pv 7) K2))
      (d4 (V6 (i₀:=4) B5.nd rfl (Or.inl rfl) (Nc:=["_law_often","_law_i","_law_row"]) (caps:=[some 10,some 7,none]) rfl (G5.of (osc:=c8 E5) (N:=["_law_urn_here","_law_kind_here","_law_table","_law_most","_law_rows","_law_n","_law_step","_law_i","_law_j","_law_way","_law_often","_law_order"]) (ks:=["_law_often","_law_i"]) rfl rfl rfl rfl (j7 rfl (j7 rfl k9)) (by decide +kernel)) (A5 (pv 4)) (λC s₂ H₂ fp pins=>(d5 (i:=2) (show List.Nodup (["_law_often","_law_i","_law_row"]:List Str) by decide +kernel) rfl (Or.inl rfl) (Or.inr rfl))) (λC s₂ H₂ fp pins=>(i5 aa4 (i5 aa4 (U8 (by exact Y9:SlR _ (as7 K)) (pv 2) ac1 (W6 (pv 1))) (C5 (b7 (d2 G__law_over hr (b7 (j6 (by exact j9:IxR _ (al1 K)) (pv 2) (pv 1) (λ_ _=>rfl)) (b7 (pv 0) b8)) i4) b8))) (U8 (by exact Y9:SlR _ (as7 K)) (pv 2) (W6 (i5 E9 (pv 1) b9)) ac1)))))))))))))))
      (d4 (j2 (pv 4)))))),?_⟩
  rw [show start ["_law_urn_here","_law_kind_here","_law_table","_law_most","_law_rows","_law_n","_law_step","_law_i","_law_j","_law_way","_law_often","_law_order"] [.ref u,.int 0,.ref a,.int 4]=[some (.ref u),some (.int 0),some (.ref a),some (.int 4),none,none,none,none,none,none,none,none] from rfl]
  refine k7 (λσ H1 => ∃ (l:Addr) (us:List Addr),σ=[some (.ref u),some (.int 0),some (.ref a),some (.int 4),some (.ref l),none,none,none,none,none,none,none]/\aa3 u H l us M H1) (λN hN=>?_) ?_
  · subst_eqs
    refine ⟨⟨_,SqL.of T0.at'⟩,λD hD=>bA8 T0.at' T0.rws hD (by lia) λH2 T=>?_⟩
    obtain ⟨s2,us,e2,n2,_,R2⟩:=T;exact hN _ _ ⟨D,us,rfl,⟨c9.x s2 u,c9.urn s2 hU,hD,E1 hU hD,e2,λz=>(n2 D z).2 rfl,λt ht=>E1 hU (n2 t ht).1,λt ht=>(n2 t ht).1,R2⟩⟩
  rintro σ H1 ⟨l,us,rfl,D1⟩;refine k7 (λσ H2=>H2=H1/\σ=[some (.ref u),some (.int 0),some (.ref a),some (.int 4),some (.ref l),some (.int (n:Int)),none,none,none,none,none,none]) (λN hN=>?_) ?_
  · subst_eqs
    exact ⟨_,.inl (SqL.of D1.at'),hN _ _ ⟨rfl,by rw [List.length_map,D1.rws.length,lM]⟩⟩
  rintro σ H2 ⟨rfl,rfl⟩;obtain ⟨I,hI⟩:∃ I:Nat->L2.St->Hp->Prop,∀ c σ H4,I c σ H4 ↔ ∃ (l:Addr) (us:List Addr) (N:List (List Rat)) (C:Nat) (o6 o7 o8 o9 o10 o11:Option V),σ=[some (.ref u),some (.int 0),some (.ref a),some (.int 4),some (.ref l),some (.int (n:Int)),o6,o7,o8,o9,o10,o11]/\aa3 u H l us N H4/\N.length=n/\B8 C (80+10*c) N:=⟨_,λ_ _ _=>Iff.rfl⟩;refine k7 (λσ H4 => ∃ c,c<=4/\I c σ H4) (λN hN=>?_) ?_
  · refine ⟨_,rfl,_,rfl,_,_,rfl,rfl,u,_,rfl,D1.urn,by decide,by decide,λr H4 r0 r9 s4 u4=>⟨r,rfl,by lia,by lia,T9 I ((hI _ _ _).mpr ⟨l,us,M,B,_,_,_,_,_,_,rfl,D1.x s4 u4,lM,oM⟩) ?_ (λσ H5 h=>hN _ _ ⟨r.toNat,by lia,h⟩)⟩⟩
    rintro c σ H5 hc h;obtain ⟨l,us,N,C,o6,o7,o8,o9,o10,o11,rfl,D5,lN,oN⟩:=(hI _ _ _).mp h;refine k7 (λσ H6 => ∃ (i:Nat),σ=[some (.ref u),some (.int 0),some (.ref a),some (.int 4),some (.ref l),some (.int (n:Int)),some (.int (0+(c:Int))),some (.int (i:Int)),o8,o9,o10,o11]/\A0 u H5 H6/\y9 H6 u/\i<n) (λN hN=>?_) ?_
    · simp! [F9]
      refine ⟨D5.urn,by lia,by lia,λr H6 r0 r1 s6 u6=>?_⟩
      obtain ⟨i,rfl⟩:∃ i:Nat,r=(i:Int):=⟨r.toNat,by lia⟩
      exact hN _ _ ⟨i,rfl,s6,u6,by lia⟩
    rintro σ H6 ⟨i,rfl,s6,u6,hi⟩;refine k7 (λσ H7 => ∃ (j:Nat),σ=[some (.ref u),some (.int 0),some (.ref a),some (.int 4),some (.ref l),some (.int (n:Int)),some (.int (0+(c:Int))),some (.int (i:Int)),some (.int (j:Int)),o9,o10,o11]/\A0 u H6 H7/\y9 H7 u/\j<n) (λN hN=>?_) ?_
    · simp! [F9]
      refine ⟨u6,?_,?_,λr H7 r0 r1 s7 u7=>⟨by lia,?_⟩⟩
      · split <;> lia
      · split <;> lia
      · have h1:=Int.fmod_nonneg_of_pos ((i:Int)+1+r) (show (0:Int)<(n:Int) by lia)
        have h2:=Int.fmod_lt_of_pos ((i:Int)+1+r) (show (0:Int)<(n:Int) by omega)
        generalize ((i:Int)+1+r).fmod (n:Int)=z at h1 h2 ⊢;obtain ⟨j,rfl⟩:∃ j:Nat,z=(j:Int):=⟨z.toNat,by lia⟩
        exact hN _ _ ⟨j,rfl,s7,u7,by lia⟩
    rintro σ H7 ⟨j,rfl,s7,u7,hj⟩;refine k7 (λσ H8 => ∃ (wy:Int),σ=[some (.ref u),some (.int 0),some (.ref a),some (.int 4),some (.ref l),some (.int (n:Int)),some (.int (0+(c:Int))),some (.int (i:Int)),some (.int (j:Int)),some (.int wy),o10,o11]/\A0 u H7 H8/\y9 H8 u) (λN hN=>?_) ?_
    · simp! [F9]
      exact ⟨u7,by decide,by decide,λr H8 r0 r1 s8 u8=>hN _ _ ⟨r,rfl,s8,u8⟩⟩
    rintro σ H8 ⟨wy,rfl,s8,u8⟩;refine k7 (λσ H9 => ∃ (po:Addr) (q:Rat),σ=[some (.ref u),some (.int 0),some (.ref a),some (.int 4),some (.ref l),some (.int (n:Int)),some (.int (0+(c:Int))),some (.int (i:Int)),some (.int (j:Int)),some (.int wy),some (.ref po),o11]/\A0 u H8 H9/\y9 H9 u/\H9 po=some (.tup (E8 q))/\q ≠ 0/\BdN 4 q) (λN hN=>?_) ?_
    · subst_eqs
      exact ⟨u,0,rfl,u8,λr q H9 nk q0 s9 u9 e9=>hN _ _ ⟨r,q,rfl,s9,u9,e9,q0,nk⟩⟩
    rintro σ H9 ⟨po,q,rfl,s9,u9,epo,q0,bq⟩;have D9:=D5.x (((s6.trans s7).trans s8).trans s9) u9;have lus:=D9.rws.length;have W1:80+10*c<=120:=by lia
    obtain ⟨pI,xI,LI,uI,gI,mI,eI,nI⟩:=D9.row (i:=i) (by lia)
    obtain ⟨pJ,xJ,LJ,uJ,gJ,mJ,eJ,nJ⟩:=D9.row (i:=j) (by lia)
    have rowI:=oN.row LI (List.mem_of_getElem? mI);have rowJ:=oN.row LJ (List.mem_of_getElem? mJ);have bI:=oN.bd LI (List.mem_of_getElem? mI);have bJ:=oN.bd LJ (List.mem_of_getElem? mJ);have lxI:=nI.length;have lxJ:=nJ.length;have d0:0<q.den:=by have:=q.den_nz;lia
    have n0:0<q.num.natAbs:=by
      have:q.num ≠ 0:=λz=>q0 (at7.mp z)
      lia
    have oq:OvB q.den 4 q:=⟨q.num,(Rat.num_divInt_den q).symm,bq.n⟩;have lmap:(us.map V.ref).length=n:=by rw [List.length_map];lia
    have pol:po ≠ l:=λz=>by rw [z,D9.at'] at epo;cases epo
    subst_eqs
    have scale:∃ x,SqL K H9 l x/\∃ x_1,atI x (i:Int)=some x_1/\∃ a_1,x_1=V.ref a_1/\(∃ xs,SqL K H9 a_1 xs)/\∀ (D:Addr),H9 D=none->aa8 (Itl K a_1) D [some (V.ref po),none] (upd H9 D (HO.lst [])) (t4 1) (aA2 (J3 K λx1 x2=>x1*x2) E0 (P2 (O1 0) (P2 (O1 1) ak4))) λx H1 => ∃ x_2,H1 l=some (HO.lst x_2)/\∃ x_3,ixN x_2.length (i:Int)=some x_3/\(∃ xs,SqL K (upd H1 l (HO.lst (x_2.set x_3 x))) l xs)/\∀ (D:Addr),upd H1 l (HO.lst (x_2.set x_3 x)) D=none->aa8 (Itl K l) D [some (V.ref po),some (V.int (i:Int)),none] (upd (upd H1 l (HO.lst (x_2.set x_3 x))) D (HO.lst [])) (t4 2) (tOp aL9 (tOp aL9 (tSl (as7 K) (O1 2) ab0 (ar8 (O1 1))) (bc2 (P2 (aA2 (ah9 K) E0 (P2 (tOp (al1 K) (O1 2) (O1 1)) (P2 (O1 0) ak4))) ak4))) (tSl (as7 K) (O1 2) (ar8 (tOp (rI0 λi j=>V.int (i+j)) (O1 1) (tC (V.int 1)))) ab0)) λx H1=>I (c+1) [some (V.ref u),some (V.int 0),some (V.ref a),some (V.int 4),some x,some (V.int (n:Int)),some (V.int (0+(c:Int))),some (V.int (i:Int)),some (V.int (j:Int)),some (V.int wy),some (V.ref po),o11] H1:=by
      obtain ⟨NR,hNR⟩:∃ NR,NR=(List.range n).map λy=>q*aQ LI y:=⟨_,rfl⟩;have nl:NR.length=n:=by rw [hNR,List.length_map,List.length_range]
      have nv:∀ y,y<n->NR[y]? = some (q*aQ LI y):=λy hy=>by rw [hNR,List.getElem?_map,List.getElem?_range hy];rfl
      refine ⟨_,SqL.of D9.at',_,v9 gI,_,rfl,⟨_,SqL.of eI⟩,λD hD=>?_⟩;obtain ⟨Pv,hPv⟩:∃ Pv:Nat->L2.St->Hp->Prop,∀ y σ H10,Pv y σ H10 ↔ ∃ (o1:Option V),σ=[some (.ref po),o1]/\G8 H9 D (NR.take y) H10:=⟨_,λ_ _ _=>Iff.rfl⟩;refine B9 xI Pv ((hPv _ _ _).mpr ⟨_,rfl,G8.start hD⟩) (λy σ H10 _ h=>?_) ?_ ?_
      · obtain ⟨_,_,R⟩:=(hPv _ _ _).mp h
        exact SqL.of (R.same _ _ eI)
      · rintro y vx σ H10 hx h
        obtain ⟨o1,rfl,R⟩:=(hPv _ _ _).mp h;have yn:y<n:=by have:=(List.getElem?_eq_some_iff.mp hx).1;lia
        obtain ⟨pa,ga,ha⟩:=nI.get (aE6 (L:=LI) (k:=y) (by lia))
        rw [ga] at hx
        cases hx
        have ba:=bI.2 _ (Y8 (L:=LI) (k:=y) ⋯)
        subst_eqs
        refine ⟨_,_,q,_,4,_,rfl,⟨_,rfl,SqT.of (R.same _ _ epo)⟩,⟨_,rfl,SqT.of (R.same _ _ ha)⟩,bq.t (by simp),ba.t (by lia),by lia,λr1 H12 s12 e12=>?_⟩
        obtain ⟨ys,eD,yl,R'⟩:=R.add hD s12 e12;refine t6.mk (by lia) eD (w5 (by rw [yl,List.length_take];lia)) ((hPv _ _ _).mpr ⟨_,rfl,?_⟩)
        rw [d7 (nv y yn)];exact R'
      · intro σ H10 h
        obtain ⟨o1,rfl,R⟩:=(hPv _ _ _).mp h;rw [t5 (by lia)] at R
        obtain ⟨s10,ys,eD,nD⟩:=R;have D10:=D9.s s10;have Dl:D ≠ l:=(j3 D9.at' hD).symm;have DP:=D10.put i eD nD Dl (E1 D9.urn hD) (D9.same.free D9.urn hD);have o1:=oN.up d0 bq.d
        have oP:B8 (C*q.den) (80+10*c+5) (N.set i NR):=o1.setRM (i:=i) (L':=NR) (by lia) (λx hx=>by
          rw [hNR] at hx;obtain ⟨y,hy,rfl⟩:=List.mem_map.mp hx;have hy:=List.mem_range.mp hy;have a2:=oq.mul (rowI.2 _ (Y8 (L:=LI) (k:=y) ⋯));rw [Nat.mul_comm q.den C,Nat.add_comm 4] at a2;exact a2.mono (by simp)) (by simp)
        have oU:=oP.up n0 bq.n;refine ⟨_,D10.at',i,aa5 (by rw [lmap];exact hi),⟨_,SqL.of DP.at'⟩,λD2 hD2=>bs4 (n:=n) DP (by rw [i8 pol];exact s10 _ _ epo) bq q0 hD2 (by rw [List.length_set,lN]) oP (by lia) hi λH' T=>?_⟩
        obtain ⟨vs,DM⟩:=DP.made hD2 T;refine (hI _ _ _).mpr ⟨D2,vs,_,C*q.den*q.num.natAbs,_,_,_,_,_,_,rfl,DM,by rw [List.length_map,List.length_set,lN],?_⟩
        refine (oP.put (C:=C*q.den*q.num.natAbs) (V':=80+10*(c+1)) (by rw [List.length_set,lN];exact hi) (λL=>aQ L i / q) oU.B0 (Nat.lt_of_lt_of_le oU.BW (i6 (by lia))) (λL hL x hx=>((oU.row L hL).2 x hx).mono ⋯) λL hL=>?_)
        have lL:L.length=n:=by rw [(oP.row L hL).1,List.length_set,lN]
        exact (bi6 ((oP.row L hL).2 _ (Y8 (L:=L) (k:=i) (by lia))) bq q0).mono (by lia)
    refine F2 (λh1=>⟨rfl,F2 (λh2=>?_) (λh2=>⟨rfl,F2 (λh3=>absurd h3 (by lia)) (λ_=>scale)⟩)⟩) (λh1=>⟨rfl,F2 (λh3=>?_) (λ_=>scale)⟩)
    · have ij:i ≠ j:=λz=>h2 (by rw [z])
      obtain ⟨NR,hNR⟩:∃ NR,NR=(List.range n).map λy=>aQ LI y+q*aQ LJ y:=⟨_,rfl⟩;have nl:NR.length=n:=by rw [hNR,List.length_map,List.length_range]
      have nv:∀ y,y<n->NR[y]? = some (aQ LI y+q*aQ LJ y):=λy hy=>by rw [hNR,List.getElem?_map,List.getElem?_range hy];rfl
      refine ⟨_,SqL.of D9.at',_,v9 gI,_,SqL.of D9.at',_,v9 gJ,_,rfl,_,rfl,⟨_,SqL.of eI⟩,⟨_,SqL.of eJ⟩,λD hD=>?_⟩;have mn:min xI.length xJ.length=n:=by lia
      obtain ⟨Pv,hPv⟩:∃ Pv:Nat->L2.St->Hp->Prop,∀ y σ H10,Pv y σ H10 ↔ ∃ (o1 o2:Option V),σ=[some (.ref po),o1,o2]/\G8 H9 D (NR.take y) H10:=⟨_,λ_ _ _=>Iff.rfl⟩;refine am5 xI xJ Pv ((hPv _ _ _).mpr ⟨_,_,rfl,G8.start hD⟩) (λy σ H10 h=>?_) ?_ ?_
      · obtain ⟨_,_,_,R⟩:=(hPv _ _ _).mp h
        exact ⟨SqL.of (R.same _ _ eI),SqL.of (R.same _ _ eJ)⟩
      · rintro y vx vy σ H10 pp hx hy h hpp
        obtain ⟨o1,o2,rfl,R⟩:=(hPv _ _ _).mp h;have yn:y<n:=by have:=(List.getElem?_eq_some_iff.mp hx).1;lia
        obtain ⟨pa,ga,ha⟩:=nI.get (aE6 (L:=LI) (k:=y) (by lia))
        obtain ⟨pb,gb,hb⟩:=nJ.get (aE6 (L:=LJ) (k:=y) (by lia))
        rw [ga] at hx;rw [gb] at hy
        cases hx
        cases hy
        obtain ⟨H11,y11,X11,g11⟩:=aS3 (.tup [V.ref pa,V.ref pb]) hpp;rw [<- y11];have S:=R.same.trans X11;have ba:=bI.2 _ (Y8 (L:=LI) (k:=y) ⋯);have bj:=bJ.2 _ (Y8 (L:=LJ) (k:=y) ⋯)
        subst_eqs
        refine ⟨_,SqT.of g11,rfl,_,_,rfl,_,_,rfl,rfl,?_⟩;refine ⟨_,_,q,_,4,_,rfl,⟨_,rfl,SqT.of (S _ _ epo)⟩,⟨_,rfl,SqT.of (S _ _ hb)⟩,bq.t (by simp),bj.t (by lia),by lia,λr1 H12 s12 e12=>?_⟩
        refine ⟨_,_,_,_,_,_,rfl,⟨_,rfl,SqT.of (s12 _ _ (S _ _ ha))⟩,⟨_,rfl,SqT.of e12⟩,ba.t ⋯,(bq.mul bj).t (by lia),by lia,λr2 H13 s13 e13=>?_⟩
        obtain ⟨ys,eD,yl,R'⟩:=R.add hD ((X11.trans s12).trans s13) e13;refine t6.mk (by rw [mn];exact yn) eD (w5 (by rw [yl,List.length_take];lia)) ((hPv _ _ _).mpr ⟨_,_,rfl,?_⟩)
        rw [d7 (nv y yn)];exact R'
      · intro σ H10 h
        obtain ⟨o1,o2,rfl,R⟩:=(hPv _ _ _).mp h;rw [t5 (by rw [mn,nl];exact Nat.le_refl _)] at R
        obtain ⟨s10,ys,eD,nD⟩:=R;have D10:=D9.s s10;have Dl:D ≠ l:=(j3 D9.at' hD).symm;have DP:=D10.put i eD nD Dl (E1 D9.urn hD) (D9.same.free D9.urn hD);have o1:=oN.up d0 bq.d
        have oP:B8 (C*q.den) (80+10*c+5) (N.set i NR):=(o1.mono (Nat.le_refl _)).setRM (i:=i) (L':=NR) (by lia) (λx hx=>by
          rw [hNR] at hx;obtain ⟨y,hy,rfl⟩:=List.mem_map.mp hx;have hy:=List.mem_range.mp hy;have a1:=(rowI.2 _ (Y8 (L:=LI) (k:=y) ⋯)).up oN.B0 d0 bq.d;have a2:=oq.mul (rowJ.2 _ (Y8 (L:=LJ) (k:=y) ⋯));rw [Nat.mul_comm q.den C,Nat.add_comm 4] at a2;exact (OvB.add (Nat.mul_pos oN.B0 d0) a1 a2).mono (by simp)) (by simp)
        have Cd:=Nat.mul_pos oN.B0 d0;have oU:=oP.up d0 bq.d;refine ⟨_,D10.at',i,aa5 (by rw [lmap];exact hi),⟨_,SqL.of DP.at'⟩,λD2 hD2=>bs5 (n:=n) DP (by rw [i8 pol];exact s10 _ _ epo) bq hD2 (by rw [List.length_set,lN]) oP (by lia) hi hj λH' T=>?_⟩
        obtain ⟨vs,DM⟩:=DP.made hD2 T;refine (hI _ _ _).mpr ⟨D2,vs,_,C*q.den*q.den,_,_,_,_,_,_,rfl,DM,by rw [List.length_map,List.length_set,lN],?_⟩
        refine (oP.put (C:=C*q.den*q.den) (V':=80+10*(c+1)) (by rw [List.length_set,lN];exact hj) (λL=>aQ L j-q*aQ L i) oU.B0 (Nat.lt_of_lt_of_le oU.BW (i6 (by lia))) (λL hL x hx=>((oU.row L hL).2 x hx).mono ⋯) λL hL=>?_)
        have lL:L.length=n:=by rw [(oP.row L hL).1,List.length_set,lN]
        have b1:=(oU.row L hL).2 _ (Y8 (L:=L) (k:=j) (by lia))
        have b2:=oq.mul ((oP.row L hL).2 _ (Y8 (L:=L) (k:=i) (by lia)))
        rw [Nat.mul_comm q.den,Nat.add_comm 4] at b2;exact (OvB.sub oU.B0 b1 b2).mono (by lia)
    · refine ⟨_,SqL.of D9.at',_,v9 gJ,_,SqL.of D9.at',_,v9 gI,by decide,λp hp=>?_⟩
      obtain ⟨H10,y10,X10,g10⟩:=aS3 (.tup [V.ref pJ,V.ref pI]) hp;rw [<- y10];have D10:=D9.s X10;have mI':=List.mem_of_getElem? uI;have mJ':=List.mem_of_getElem? uJ;have DP1:=D10.put i (X10 _ _ eJ) (nJ.mono X10.tups) (λz=>D9.nl (z ▸ mJ')) (D9.nu _ mJ') (D9.nf _ mJ');have lI:pI ≠ l:=λz=>D9.nl (z ▸ mI');have S11:aa2 H10 (upd H10 l (.lst ((us.map V.ref).set i (V.ref pJ)))):=aa2.lst D10.at';have DP:=DP1.put j (D:=pI) (zs:=xI) (L':=LI) (by rw [i8 lI];exact X10 _ _ eI) ((nI.mono X10.tups).mono S11) lI (D9.nu _ mI') (D9.nf _ mI')
      have oP:=(oN.setR (i:=i) (L':=LJ) rowJ.1 rowJ.2).setR (i:=j) (L':=LI) (by rw [List.length_set];exact rowI.1) rowI.2
      have lP:((N.set i LJ).set j LI).length=n:=by rw [List.length_set,List.length_set,lN]
      refine ⟨_,SqT.of g10,rfl,_,_,rfl,_,D10.at',i,aa5 (by rw [lmap];exact hi),_,_,rfl,_,c6,j,aa5 (by rw [List.length_set,lmap];exact hj),rfl,by simp,by lia,λD hD=>?_⟩
      rw [<- List.map_set] at hD ⊢;obtain ⟨H12,y12⟩:∃ H12,H12=upd (upd H10 l (HO.lst (List.map V.ref (us.set i pJ)))) l (HO.lst ((List.map V.ref (us.set i pJ)).set j (V.ref pI))):=⟨_,rfl⟩;rw [<- List.map_set] at DP;rw [<- y12] at hD DP ⊢;obtain ⟨Pv,hPv⟩:∃ Pv:Nat->L2.St->Hp->Prop,∀ y σ H13,Pv y σ H13 ↔ ∃ (o:Option V) (os:List Nat),σ=[some (.int (j:Int)),some (.int (i:Int)),o]/\c9 H12 H13/\H13 D=some (.lst (os.map λo:Nat=>V.int (o:Int)))/\os.length=y/\∀ o ∈ os,o<n:=⟨_,λ_ _ _=>Iff.rfl⟩;refine O0 Pv ((hPv _ _ _).mpr ⟨_,[],rfl,c9.new hD _,c6,rfl,by simp⟩) ?_ ?_
      · rintro y σ H13 hy h
        obtain ⟨o,os,rfl,s13,e13,l13,h13⟩:=(hPv _ _ _).mp h;have hy':y<n:=by lia
        subst_eqs
        have put:∀ (o:Nat),o<n->∀ H14,c9 H13 H14->t6 D (n:Int).toNat Pv y [some (V.int (j:Int)),some (V.int (i:Int)),some (V.int (0+(y:Int)))] (.int (o:Int)) H14:=λo ho H14 s14=>by
          refine t6.mk hy (s14 _ _ e13) (w5 (by rw [List.length_map];lia)) ((hPv _ _ _).mpr ⟨_,os ++ [o],rfl,(s13.trans s14).over hD _,by rw [c6,List.map_append];rfl,by rw [List.length_append,l13];rfl,λx hx=>?_⟩)
          rcases List.mem_append.mp hx with z | z
          · exact h13 x z
          · rw [List.mem_singleton.mp z];exact ho
        have fin:∀ (b:Int) (p:Addr),H13 p=none->(b=0 \/ (b=1/\y ≠ i))->IntMulOk 2 b/\∃ x,SqL K (upd H13 p (HO.lst [V.int (0+(y:Int)),V.int (j:Int),V.int (i:Int)])) p x/\∃ x_1,atI x ((if 0+(y:Int)=(i:Int) then 1 else 0)+2*b)=some x_1/\t6 D (n:Int).toNat Pv y [some (V.int (j:Int)),some (V.int (i:Int)),some (V.int (0+(y:Int)))] x_1 (upd H13 p (HO.lst [V.int (0+(y:Int)),V.int (j:Int),V.int (i:Int)])):=λb p fp hb=>by
          have Sp:=c9.new fp (.lst [V.int (0+(y:Int)),V.int (j:Int),V.int (i:Int)]);refine ⟨ap8 ⋯,_,SqL.of c6,?_⟩
          by_cases hyi:y=i
          · rw [if_pos (by lia)]
            have hb0:b=0:=by rcases hb with h | ⟨_,h⟩;exact h;exact absurd hyi h
            subst hb0;exact ⟨_,rfl,put j hj _ Sp⟩
          · rw [if_neg (by lia)]
            rcases hb with rfl | ⟨rfl,_⟩
            · refine ⟨_,rfl,?_⟩
              rw [Int.zero_add];have:=put y hy' _ Sp;rw [Int.zero_add] at this;exact this
            · exact ⟨_,rfl,put i hi _ Sp⟩
        refine ⟨by decide,λp fp=>⟨rfl,rfl,F2 (λhyj=>⟨rfl,fin _ p fp ?_⟩) (λhyj=>fin _ p fp (.inl rfl))⟩⟩
        split
        · exact .inr ⟨rfl,by lia⟩
        · exact .inl rfl
      · intro σ H13 h
        obtain ⟨o,os,rfl,s13,e13,l13,h13⟩:=(hPv _ _ _).mp h;have D13:=DP.s s13;have lo:os.length=n:=by lia
        obtain ⟨NN,hNN⟩:∃ NN,NN=(N.set i LJ).set j LI:=⟨_,rfl⟩;rw [<- hNN] at D13 oP lP;obtain ⟨NP,hNP⟩:∃ NP,NP=NN.map λL=>os.map (aQ L):=⟨_,rfl⟩;have lNP:NP.length=n:=by rw [hNP,List.length_map,lP]
        refine ⟨⟨_,SqL.of D13.at'⟩,λD2 hD2=>?_⟩;refine B9 ((us.set i pJ).set j pI |>.map V.ref) (λy σ H3 => ∃ o,σ=[some (.ref D),o]/\t7 H13 D2 (NP.take y) H3) ⟨_,rfl,t7.start hD2⟩ (λj σ H3 _ ⟨o,_,T⟩=>SqL.of (T.same _ _ D13.at')) ?_ ?_
        · rintro y x σ H3 hx ⟨o,rfl,T⟩
          have hy:=(List.getElem?_eq_some_iff.mp hx).1;obtain ⟨t,ht,rfl⟩:=B7 hx;obtain ⟨xs,L,hL,et,nt⟩:=D13.rws.get ht;have lL:=(oP.row L (List.mem_of_getElem? hL)).1
          subst_eqs
          refine ⟨⟨_,SqL.of (T.same _ _ e13)⟩,λD3 hD3=>?_⟩;refine B9 (os.map λo:Nat=>V.int (o:Int)) (λz σ H4 => ∃ o1,σ=[some (.ref t),o1]/\G8 H3 D3 ((os.map (aQ L)).take z) H4) ⟨_,rfl,G8.start hD3⟩ (λz σ H4 _ ⟨_,_,R⟩=>SqL.of (R.same _ _ (T.same _ _ e13))) ?_ ?_
          · rintro z x σ H4 hz ⟨o1,rfl,R⟩
            have hz':=(List.getElem?_eq_some_iff.mp hz).1;rw [List.getElem?_map] at hz
            cases eo:os[z]? with
            | none=>rw [eo] at hz;cases hz
            | some o2 =>
            rw [eo] at hz
            cases hz
            have ho:=h13 o2 (List.mem_of_getElem? eo);obtain ⟨pz,gz,ez⟩:=nt.get (aE6 (L:=L) (k:=o2) (by lia))
            have S4:=T.same.trans R.same
            subst_eqs
            refine ⟨_,SqL.of (S4 _ _ et),_,v9 gz,?_⟩;obtain ⟨ys,eD,yl,R'⟩:=R.add hD3 (c9.refl _) (S4 _ _ ez);refine t6.mk hz' eD (w5 (by rw [yl,List.length_take,List.length_map];lia)) ⟨_,rfl,?_⟩
            rw [d7 (l:=os.map (aQ L)) (x:=aQ L o2) (by rw [List.getElem?_map,eo];rfl)]
            exact R'
          · rintro σ H4 ⟨o1,rfl,R⟩
            rw [t5 (by rw [List.length_map,List.length_map];exact Nat.le_refl _)] at R
            obtain ⟨ys,eD,yl,T'⟩:=T.add hD2 hD3 R;refine t6.mk hy eD (w5 (by rw [yl,List.length_take];lia)) ⟨_,rfl,?_⟩
            rw [d7 (l:=NP) (x:=os.map (aQ L)) (by rw [hNP,List.getElem?_map,hL];rfl)]
            exact T'
        · rintro σ H3 ⟨o,rfl,T⟩
          rw [t5 (by rw [List.length_map,D13.rws.length,lP,lNP];exact Nat.le_refl _)] at T
          obtain ⟨vs,DM⟩:=D13.made hD2 T;refine (hI _ _ _).mpr ⟨D2,vs,_,C,_,_,_,_,_,_,rfl,DM,lNP,⟨by rw [lNP];lia,oN.B0,Nat.lt_of_lt_of_le oN.BW (i6 (by lia)),λL hL=>?_⟩⟩
          rw [hNP] at hL;obtain ⟨L0,h0,rfl⟩:=List.mem_map.mp hL;refine ⟨by rw [List.length_map,lo,lNP],λx hx=>?_⟩
          obtain ⟨o3,ho3,rfl⟩:=List.mem_map.mp hx;have r0:=oP.row L0 h0;exact (r0.2 _ (Y8 (L:=L0) (k:=o3) (by have:=h13 o3 ho3;lia))).mono (by lia)
  rintro σ H4 ⟨c,hc,h⟩;obtain ⟨l,us,N,C,o6,o7,o8,o9,o10,o11,rfl,D5,lN,oN⟩:=(hI _ _ _).mp h
  subst_eqs
  exact k l us N C H4 D5 lN (oN.mono (by lia))
def bi1 (K:q0a):Sp:=λvs H Q _ => ∃ (a b:Addr) (xs ys:List V) (p q:List Rat) (m n W:Nat),vs=[.ref a,.ref b]/\SqL K H a xs/\SqL K H b ys/\C9 H xs p/\C9 H ys q/\(∀ x ∈ p,BdN m x)/\(∀ x ∈ q,BdN n x)/\(∀ i,BdN W (G9 (p.take i) (q.take i)))/\m+n+W<=6000/\p.length=q.length/\am9 H Q (G9 p q)
abbrev ad0:Stmt:=top 71
theorem K0:j4 ["_law_row","_law_column_here","_law_found","_law_one_here","_law_other_here"] ["_law_row","_law_column_here"] (c8 ad0):=by and_intros
theorem aR9 {f f1 f2:Addr} (d:Df K mg "_law_dot" ad0 ["_law_row","_law_column_here"] f) (G__law_plus:Def P w K mg base CX0 2 "_law_plus" f1 ["_law_one_here","_law_other_here"] (J3 K (· + ·))) (G__law_times:Def P w K mg base CX0 2 "_law_times" f2 ["_law_one_here","_law_other_here"] (J3 K (· * ·))) (n_zip:mg "zip" = none):Def P w K mg base CX0 3 "_law_dot" f ["_law_row","_law_column_here"] (bi1 K):=by
 refine d.ok (N:=["_law_row","_law_column_here","_law_found","_law_one_here","_law_other_here"]) K0 (by rintro vs H Q E ⟨_,_,_,_,_,_,_,_,_,h,_⟩;rw [h];rfl) (λcdv A outer s H vs Q E hr h=>?_)
 obtain ⟨a,b,xs,ys,p,q,m,n,W,rfl,hS,hS',hN,hN',hp,hq,hB,hm,hlq,k⟩:=h
 refine ⟨_,(c7 (i9 (i:=2) K0.nd rfl (q0x rfl) (m6 (b7 b9 (b7 b9 b8))))
   (c7 (P6 PassesOwn.never rfl (af7 rfl n_zip (b7 (pv 0) (b7 (pv 1) b8))) (show PG _ _ (U2 K 2 (w9 (t4 3) (w9 (t4 4) U3))) from by (refine F4 (n:=2) ?_ ?_ ?_ ?_;rfl;(refine j1 ?_ ?_ ?_;(exact (d5 (i:=3) K0.nd rfl (q0x rfl)));(refine j1 ?_ ?_ ?_;(exact (d5 (i:=4) K0.nd rfl (q0x rfl)));(exact C6);rfl);rfl);rfl;rfl)) (d4 (i9 (i:=2) K0.nd rfl (q0x rfl) (d2 G__law_plus hr (b7 (pv 2) (b7 (d2 G__law_times hr (b7 (pv 3) (b7 (pv 4) b8)) i4) b8)) i4))))
   (d4 (j2 (pv 2))))),?_⟩
 rw [show start ["_law_row","_law_column_here","_law_found","_law_one_here","_law_other_here"] [.ref a,.ref b]=[some (.ref a),some (.ref b),none,none,none] from rfl]
 subst_eqs
 have lx:=hN.length;have ly:=hN'.length;refine ⟨t8,λz hz=>?_⟩;have Sz:=c9.new hz (.tup [.int 0,.int 1]);refine ⟨_,rfl,_,rfl,a,b,rfl,⟨_,Sz.seq hS⟩,⟨_,Sz.seq hS'⟩,aZ9 xs ys (λi σ H2 => ∃ pf o1 o2,σ=[some (.ref a),some (.ref b),some (.ref pf),o1,o2]/\c9 H H2/\H2 pf=some (.tup (E8 (G9 (p.take i) (q.take i))))) ⟨z,_,_,rfl,Sz,c6⟩ (by rintro i σ H2 ⟨_,_,_,_,s2,_⟩;exact ⟨s2.seq hS,s2.seq hS'⟩) ?_ ?_⟩
 ·rintro i x y σ H2 pt hx hy ⟨pf,o1,o2,rfl,s2,ef⟩ hpt
  obtain ⟨px,q1,rfl,hq1,hpx⟩:=hN.getV hx;obtain ⟨py,q2,rfl,hq2,hpy⟩:=hN'.getV hy;have st:=c9.new hpt (.tup [.ref px,.ref py]);have S2:=s2.trans st;have b1:=hp q1 (q0c hq1);have b2:=hq q2 (q0c hq2);have bi:=hB i;have hd:=aw9 i hq1 hq2
  subst_eqs
  refine ⟨_,SqT.of c6,rfl,_,_,rfl,_,_,rfl,rfl,?_⟩;refine ⟨_,_,q1,q2,m,n,rfl,⟨px,rfl,SqT.of (S2 _ _ hpx)⟩,⟨py,rfl,SqT.of (S2 _ _ hpy)⟩,b1.t (by lia),b2.t (by lia),by lia,λp5 H5 s5 e5=>?_⟩
  refine ⟨_,_,_,_,W,m+n,rfl,⟨pf,rfl,SqT.of (s5 _ _ (st _ _ ef))⟩,⟨p5,rfl,SqT.of e5⟩,bi.t (by lia),(b1.mul b2).t (by lia),?_,λp6 H6 s6 e6=>?_⟩
  ·lia
  ·exact ⟨p6,rfl,S2.trans (s5.trans s6),by rw [hd];exact e6⟩
 ·rintro σ H2 ⟨pf,o1,o2,rfl,s2,ef⟩
  have ml:min xs.length ys.length=p.length:=by lia
  rw [ml,y0k,hlq,y0k] at ef;exact ⟨_,rfl,k pf H2 s2 ef⟩
abbrev U7:Stmt:=top 75
theorem aB2:j4 ["_law_table","_law_column_here"] ["_law_table","_law_column_here"] (c8 U7):=by and_intros
def az3 (M:List (List Rat)):List (List Rat):=M.map λL=>L.map λq=>0-q
theorem af1 (M:List (List Rat)):(az3 M).length=M.length:=by unfold az3;rw [q0e]
theorem B8.neg {B W:Nat} {M:List (List Rat)} (h:B8 B W M):B8 B W (az3 M):=⟨by rw [af1];exact h.n7,h.B0,h.BW,λL hL=>by
 obtain ⟨L0,h0,rfl⟩:=z0e.mp hL;obtain ⟨l,k⟩:=h.row L0 h0;refine ⟨by rw [q0e,af1,l],λq hq=>?_⟩
 obtain ⟨x,hx,rfl⟩:=z0e.mp hq;rw [Rat.sub_eq_add_neg,Rat.zero_add];exact (k x hx).neg⟩
def bh9 (K:q0a):Sp:=λvs H Q _ => ∃ (a:Addr) (ts:List Addr) (M:List (List Rat)) (B W:Nat),vs=[.ref a]/\H a=some (.lst (ts.map V.ref))/\P8 K H ts M/\B8 B W M/\W<=5990/\O9 H Q (az3 M)
abbrev ac9:Stmt:=top 48
theorem aQ8:j4 ["table"] ["table"] (c8 ac9):=by and_intros
theorem aR4 {f f1 aN:Addr} (d:Df K mg "opposite" ac9 ["table"] f) (G_less:Def P w K mg base CX0 3 "less" f1 ["one","other"] (aQ6 K (· - ·))) (c_NOUGHT:mg "NOUGHT" = some (.ref aN)) (tN:∀ H,SqT K H aN (E8 0)):Def P w K mg base CX0 4 "opposite" f ["table"] (bh9 K):=by
 refine d.ok (N:=["table"]) aQ8 (by rintro vs H Q E ⟨_,_,_,_,_,h,_⟩;rw [h];rfl) (λcdv A outer s H vs Q E hr h=>?_)
 obtain ⟨a,ts,M,B,W,rfl,ha,hR,hM,hW,k1⟩:=h;refine ⟨_,(d4 (j2 (t9 (Nc:=["row"]) (caps:=[none]) rfl (G5.of (osc:=c8 ac9) (N:=["table"]) (ks:=[]) rfl rfl rfl rfl k9 (by decide +kernel)) (A5 (pv 0)) (λC s₂ H₂ fp pins=>(d5 (i:=0) (show z0q (["row"]:List Str) by decide +kernel) rfl (q0x rfl) (z0w rfl))) (λC s₂ H₂ fp pins=>(t9 (Nc:=["number"]) (caps:=[none]) rfl (G5.of (osc:=_) (N:=["row"]) (ks:=[]) rfl rfl rfl rfl k9 (by kernel_rfl)) (show PI _ _ _ (am0 K _) from by exact (A5 (pv 0))) (λC s₂ H₂ fp pins=>(d5 (i:=0) (show z0q (["number"]:List Str) by decide +kernel) rfl (q0x rfl) (z0w rfl))) (λC s₂ H₂ fp pins=>(d2 G_less hr (b7 (F8 (v:=.ref _) rfl c_NOUGHT rfl) (b7 (pv 0) b8)) i4))))))),?_⟩
 rw [show start ["table"] [.ref a]=[some (.ref a)] from rfl]
 subst_eqs
 have hRl:=hR.length;refine ⟨⟨_,SqL.of ha⟩,λD hD=>?_⟩;refine B9 (ts.map V.ref) (λi σ H2 => ∃ o1,σ=[o1]/\t7 H D ((az3 M).take i) H2) ⟨_,rfl,t7.start hD⟩ (λi σ H2 _ ⟨_,_,T⟩=>SqL.of (T.same _ _ ha)) ?_ ?_
 ·rintro i x σ H2 hx ⟨o1,rfl,T⟩
  have hi:=(q0g.mp hx).1;obtain ⟨t,ht,rfl⟩:=B7 hx;obtain ⟨xs,L,hL,et,nt⟩:=hR.get ht;have hLm:=hM.bd L (q0c hL);have S2:=T.same;have lx:=nt.length;have m7:=hM.n7;have l7:=hLm.1
  subst_eqs
  refine ⟨⟨_,SqL.of (S2 _ _ et)⟩,λD2 hD2=>?_⟩;refine B9 xs (λj σ H3 => ∃ o1,σ=[o1]/\G8 H2 D2 ((L.map λq=>0-q).take j) H3) ⟨_,rfl,G8.start hD2⟩ (λj σ H3 _ ⟨_,_,R⟩=>SqL.of (R.same _ _ (S2 _ _ et))) ?_ ?_
  ·rintro j x σ H3 hx2 ⟨o1,rfl,R⟩
   have hj:=(q0g.mp hx2).1;obtain ⟨px,q1,rfl,hq1,hpx⟩:=nt.getV hx2;have b1:=hLm.2 q1 (q0c hq1);have S3:=S2.trans R.same
   subst_eqs
   refine ⟨_,_,0,q1,rfl,⟨aN,rfl,tN _⟩,⟨px,rfl,(hpx.mono S3.tups).sqt⟩,⟨by decide,by decide⟩,b1.bd6 (by lia),λp5 H5 s5 e5=>?_⟩
   obtain ⟨zs,eD,yl,R'⟩:=R.add hD2 s5 e5;refine t6.mk hj eD (w5 (by rw [yl,q0v,q0e];lia)) ⟨_,rfl,?_⟩
   rw [d7 (l:=L.map λq=>0-q) (by rw [q0m,hq1];rfl)]
   exact R'
  ·rintro σ H3 ⟨o1,rfl,R⟩
   rw [t5 (by rw [q0e,lx];exact q0h _)] at R
   obtain ⟨zs,eD,yl,T'⟩:=T.add hD hD2 R;refine t6.mk hi eD (w5 (by rw [yl,q0v,af1];lia)) ⟨_,rfl,?_⟩
   rw [d7 (l:=az3 M) (by unfold az3;rw [q0m,hL];rfl)]
   exact T'
 ·rintro σ H2 ⟨o1,rfl,T⟩
  rw [t5 (by rw [af1,q0e];lia)] at T
  exact T.res k1 hD
def cQ (M:List (List Rat)) (q:List Rat):List Rat:=M.map λL=>G9 L q
structure au7 (B W:Nat) (q:List Rat):Prop where
 B0:0<B
 BW:B<2 ^ W
 ov:∀ x ∈ q,OvB B W x
theorem au7.bd {B W:Nat} {q:List Rat} (h:au7 B W q):∀ x ∈ q,BdN W x:=λx hx=>bj0 h.B0 h.BW (h.ov x hx)
theorem au7.cl {B W:Nat} {q:List Rat} (h:au7 B W q):ClN W q:=ah7 h.B0 h.BW h.ov
theorem au7.step {B W C V':Nat} {M:List (List Rat)} {q:List Rat} (h:B8 B W M) (k:au7 C V' q):au7 (B*C) (W+V'+7) (cQ M q):=⟨j0a h.B0 k.B0,by
 rw [z0f,z0f];exact q0b (z0g h.BW k.BW) (y0v _ (by decide)),λx hx=>by
 obtain ⟨L,hL,rfl⟩:=z0e.mp hx;obtain ⟨l,r⟩:=h.row L hL;have:=h.n7;exact (an7 h.B0 k.B0 r k.ov).mono (by lia)⟩
theorem by4 (M:List (List Rat)) (q:List Rat):(cQ M q).length=M.length:=by unfold cQ;rw [q0e]
def aY5 (K:q0a) (C:Addr):Sp:=λvs H Q E => ∃ (a b:Addr) (ts:List Addr) (M:List (List Rat)) (ys:List V) (q:List Rat) (B W C' V':Nat),vs=[.ref a,.ref b]/\H a=some (.lst (ts.map V.ref))/\Rws H ts M/\SqL K H b ys/\C9 H ys q/\B8 B W M/\au7 C' V' q/\W+V'<=5990/\q.length<=20/\(M.length ≠ q.length->E (.ref C) none H) /\
 (M.length=q.length->∀ r zs H',c9 H H'->H r=none->H' r=some (.lst zs)->C9 H' zs (cQ M q)->Q (.ref r) H')
theorem aS1 {f f1 f2 f3 C:Addr} (d:Df K mg "made_of" ag6 ["table","column"] f) (G_check_pair:Def P w K mg base (CXR P w) 1 "check_pair" f1 ["one","other"] (ak7 K C)) (G_cleared:Def P w K mg base CX0 2 "cleared" f2 ["numbers"] (ag3 K)) (G_matched:Def P w K mg base CX0 3 "matched" f3 ["one","other"] (av1 K)):Def P w K mg base (CXR P w) 4 "made_of" f ["table","column"] (aY5 K C):=by
  refine d.okR (N:=["table","column","whole_column"]) aB0 (by rintro vs H Q E ⟨_,_,_,_,_,_,_,_,_,_,h,_⟩;rw [h];rfl) (λcdv A outer s H vs Q E hr h=>?_)
  obtain ⟨a,b,ts,M,ys,q,B,W,C',V',rfl,ha,hR,hS,hN,hM,hq,hWV,hql,k0,k1⟩:=h
  refine ⟨_, (c7 (W4 (d2 G_check_pair hr (b7 (pv 0) (b7 (pv 1) b8)) (L8 fun _ _ h => h)))
      (c7 (i9 (i:=2) aB0.nd rfl (Or.inr rfl) (d2 G_cleared hr (b7 (pv 1) b8) i4))
      (d4 (j2 (t9 (Nc:=["whole_column","row"]) (caps:=[some 2,none]) rfl (G5.of (osc:=c8 ag6) (N:=["table","column","whole_column"]) (ks:=["whole_column"]) rfl rfl rfl rfl (j7 rfl k9) (by decide +kernel)) (A5 (pv 0)) (λC s₂ H₂ fp pins=>(d5 (i:=1) (show List.Nodup (["whole_column","row"]:List Str) by decide +kernel) rfl (Or.inl rfl) (Or.inr rfl))) (λC s₂ H₂ fp pins=>(d2 G_matched hr (b7 (d2 G_cleared hr (b7 (pv 1) b8) i4) (b7 (pv 0) b8)) i4))))))),?_⟩
  rw [show start ["table","column","whole_column"] [.ref a,.ref b]=[some (.ref a),some (.ref b),none] from rfl]
  subst_eqs
  have hRl:=hR.length;have hyl:=hN.length;have m7:=hM.n7;refine ⟨a,b,_,ys,rfl,SqL.of ha,hS,λhl=>?_,λhl=>k0 λz=>hl (by rw [List.length_map];lia)⟩
  have hlq:M.length=q.length:=by rw [List.length_map] at hl;lia
  have clq:=hq.cl;refine ⟨b,ys,q,rfl,hS,hN,⟨_,clq,by lia⟩,by lia,λr l H1 s1 f1 er el=>?_⟩
  refine ⟨⟨_,SqL.of (s1 _ _ ha)⟩,λD hD=>?_⟩;refine B9 (ts.map V.ref) (λi σ H2 => ∃ o,σ=[some (.ref r),o]/\c9 H1 H2/\∃ zs,H2 D=some (.lst zs)/\C9 H2 zs ((M.map λL=>G9 L q).take i)) ⟨_,rfl,c9.new hD _,[],c6,.nil⟩ (λi σ H2 _ ⟨_,_,s2,_⟩=>SqL.of (s2 _ _ (s1 _ _ ha))) ?_ ?_
  · rintro i x σ H2 hx ⟨o,rfl,s2,zs,e2,n2⟩
    have hi:=(List.getElem?_eq_some_iff.mp hx).1;obtain ⟨t,ht,rfl⟩:=B7 hx;obtain ⟨xs,L,hL,et,nt⟩:=hR.get ht;have hLm:=hM.cl L (List.mem_of_getElem? hL);have clL:=hLm.2;have l7:=hLm.1;have S2:=s1.trans s2;rw [List.length_map] at hi
    subst_eqs
    refine ⟨t,xs,L,rfl,SqL.of (S2 _ _ et),nt.mono S2.tups,⟨_,clL,by lia⟩,by lia,λr2 l2 H3 s3 f3 e3 el3=>?_⟩
    refine ⟨.ref r2,.ref r,L,q,_,_,rfl,⟨r2,l2,rfl,SqT.of e3,SqL.of el3⟩,⟨r,l,rfl,SqT.of (s3 _ _ (s2 _ _ er)),SqL.of (s3 _ _ (s2 _ _ el))⟩,clL,clq,by lia,by lia,λp4 H4 s4 e4=>?_⟩
    have eD:=s4 _ _ (s3 _ _ e2);have hMi:(M.map λL=>G9 L q)[i]? = some (G9 L q):=by rw [List.getElem?_map,hL];rfl
    refine t6.mk (by rw [List.length_map];exact hi) eD ?_ ⟨_,rfl,(s2.trans (s3.trans s4)).over hD _,_,c6,?_⟩
    · rw [n2.length,List.length_take]
      exact Nat.lt_of_le_of_lt (show _<=100 by lia) (by decide)
    · rw [d7 hMi]
      exact ((n2.mono (s3.trans s4).tups).append (.cons e4 .nil)).mono (aa2.lst eD)
  · rintro σ H2 ⟨o,rfl,s2,zs,e2,n2⟩
    rw [List.take_of_length_le (by rw [List.length_map,List.length_map];lia)] at n2
    exact k1 hlq D zs H2 (s1.trans s2) (s1.free hD) e2 n2
def wkQ (M:List (List Rat)) (q:List Rat):Nat->List Rat
 | 0=>q
 | k+1=>cQ M (wkQ M q k)
theorem aJ4 {M:List (List Rat)} {q:List Rat} (h:M.length=q.length):∀ k,(wkQ M q k).length=M.length
 | 0=>h.symm
 | k+1=>by4 _ _
theorem bg2 {B W C V':Nat} {M:List (List Rat)} {q:List Rat} (h:B8 B W M) (hq:au7 C V' q):∀ k,∃ D,au7 D (V'+k*(W+7)) (wkQ M q k)
 | 0=>⟨C,by rw [Nat.zero_mul];exact hq⟩
 | k+1=>by
  obtain ⟨D,i⟩:=bg2 h hq k;have s:=au7.step h i;rw [show W+(V'+k*(W+7))+7=V'+(k+1)*(W+7) from by rw [m0d];lia] at s
  exact ⟨_,s⟩
def bh6 (K:q0a) (C:Addr):Sp:=λvs H Q E => ∃ (a b:Addr) (ts:List Addr) (M:List (List Rat)) (ys:List V) (q:List Rat) (B W C' V' n:Nat),vs=[.ref a,.ref b,.int n]/\H a=some (.lst (ts.map V.ref))/\Rws H ts M/\SqL K H b ys/\C9 H ys q/\B8 B W M/\au7 C' V' q/\n<=20/\W+V'+n*(W+7)<=5990/\q.length<=20/\(M.length ≠ q.length->E (.ref C) none H) /\
 (M.length=q.length->O9 H Q ((z0r (n+1)).map (wkQ M q)))
abbrev aL5:Stmt:=top 47
theorem aK6:j4 ["table","column","n","way","tick"] ["table","column","n"] (c8 aL5):=by and_intros
theorem bp6 {f f1 f2 C:Addr} (d:Df K mg "walk" aL5 ["table","column","n"] f) (G_check_pair:Def P w K mg base (CXR P w) 1 "check_pair" f1 ["one","other"] (ak7 K C)) (GD_made_of:Def P w K mg base (CXR P w) 4 "made_of" f2 ["table","column"] (aY5 K C)) (n_list:mg "list" = none) (n_range:mg "range" = none):Def P w K mg base (CXR P w) 5 "walk" f ["table","column","n"] (bh6 K C):=by
  refine d.okR (N:=["table","column","n","way","tick"]) aK6 (by rintro vs H Q E ⟨_,_,_,_,_,_,_,_,_,_,_,h,_⟩;rw [h];rfl) (λcdv A outer s H vs Q E hr h=>?_)
  obtain ⟨a,b,ts,M,ys,q,B,W,C',V',n,rfl,ha,hR,hS,hN,hM,hq,n20,hWV,hql,k0,k1⟩:=h;have G_made_of:=GD_made_of.calmR
  refine ⟨_, (c7 (W4 (d2 G_check_pair hr (b7 (pv 0) (b7 (pv 1) b8)) (L8 fun _ _ h => h)))
      (c7 (i9 (i:=3) aK6.nd rfl (Or.inl rfl) (C5 (b7 (C8 M9 rfl n_list (by decide +kernel) (b7 (pv 1) b8)) b8)))
      (c7 (PS.nox (P6 PassesOwn.never rfl (E4 rfl n_range (b7 (pv 2) b8)) (d5 (i:=4) aK6.nd rfl (Or.inl rfl)) (d4 (W4 (at3 PySem.F.plainAttrs_list PySem.F.slot_list_append PySem.F.type_list_append N6 (pv 3) (b7 (d2 G_made_of hr (b7 (pv 0) (b7 (j6 j9 (pv 3) (aa0 Q5 b9) (λ_ _=>rfl)) b8)) i4) b8))))))
      (d4 (j2 (pv 3)))))),?_⟩
  rw [show start ["table","column","n","way","tick"] [.ref a,.ref b,.int n]=[some (.ref a),some (.ref b),some (.int n),none,none] from rfl]
  subst_eqs
  have hRl:=hR.length;have hyl:=hN.length;have m7:=hM.n7;refine ⟨a,b,_,ys,rfl,SqL.of ha,hS,λhl=>?_,λhl=>k0 λz=>hl (by rw [List.length_map];lia)⟩
  have hlq:M.length=q.length:=by rw [List.length_map] at hl;lia
  replace k1:=k1 hlq
  refine ⟨ys,.inl hS,λl fl=>⟨by decide,λp fp=>?_⟩⟩
  have S1:=c9.new fl (.lst ys);have S2:=c9.new fp (.lst [.ref l]);have fp0:=S1.free fp;have lp:l ≠ p:=j3 c6 fp;have T0:t7 H p [wkQ M q 0] (upd (upd H l (.lst ys)) p (.lst [.ref l])):=⟨S1.trans S2,[l],c6,by simp [fl,lp],by simp,.cons (S2 _ _ c6) (hN.mono (S1.trans S2).tups) .nil⟩
  refine ⟨_,rfl,(n:Int),rfl,by simp,by lia,T9 (λi σ H2 => ∃ o,σ=[some (.ref a),some (.ref b),some (.int n),some (.ref p),o]/\t7 H p ((List.range (i+1)).map (wkQ M q)) H2) ⟨_,rfl,T0⟩ ?_ ?_⟩
  · rintro i σ H2 hi ⟨o,rfl,T⟩
    have hi':i<n:=by lia
    obtain ⟨rs,er,hn,nd,R⟩:=T.at';have lr:=R.length;rw [List.length_map,List.length_range] at lr
    subst_eqs
    obtain ⟨D,cD⟩:=bg2 hM hq i;have wl:=aJ4 hlq i;have lg:((List.range (i+1)).map (wkQ M q))[i]? = some (wkQ M q i):=by rw [List.getElem?_map,ac0 (by simp)];rfl
    have hr:i<rs.length:=by lia
    have hti:rs[i]? = some rs[i]:=List.getElem?_eq_getElem hr;obtain ⟨xs,L,hL,et,nt⟩:=R.get hti;rw [lg] at hL;obtain rfl:=Option.some.inj hL;have hb:V'+i*(W+7)<=V'+n*(W+7):=Nat.add_le_add_left (Nat.mul_le_mul_right _ (by exact Nat.le_of_lt ‹_›)) _
    refine ⟨.inl ⟨_,SqL.of er⟩,_,SqL.of er,.ref rs[i],aO6 (by rw [List.length_map,lr,Nat.add_sub_cancel,List.getElem?_map,hti];rfl),?_⟩
    refine ⟨a,rs[i],ts,M,xs,wkQ M q i,B,W,D,_,rfl,T.same _ _ ha,hR.same T.same,SqL.of et,nt,hM,cD,⋯,by lia,λz=>absurd wl.symm z,λ_ r zs H3 s3 f3 e3 n3=>?_⟩
    obtain ⟨zs2,eD,yl,T'⟩:=T.add fp0 f3 ⟨s3,zs,e3,n3⟩;rw [List.length_map,List.length_range] at yl;refine ⟨zs2,eD,w5 (by lia),?_⟩
    rw [List.range_succ,List.map_append];exact T'
  · rintro σ H2 ⟨o,rfl,T⟩
    subst_eqs
    rw [show ((n:Int)).toNat+1=n+1 from rfl] at T;exact T.res k1 fp0
theorem M6 {H:Hp} {a:Addr} (o:HO) (h:H a=none):∃ H',H'=upd H a o/\c9 H H'/\H' a=some o:=⟨_,rfl,c9.new h o,c6⟩
theorem bs2 (xs:List V) {a b:Nat} (h:a<=b) (h':b<=xs.length):ao9 xs (some (a:Int)) (some (b:Int))=(xs.drop a).take (b-a):=by
 unfold ao9
 have e1:HT.sIx xs.length 0 (some (a:Int))=a:=by
  simp only [HT.sIx];rw [if_neg (by simp)];lia
 have e2:HT.sIx xs.length xs.length (some (b:Int))=b:=by
  simp only [HT.sIx];rw [if_neg (by simp)];lia
 rw [e1,e2]
theorem aJ3 {M:List (List Int)} {k:Nat} {L:List Int} (h:k<M.length) (i j:Nat):zz (M.set k L) i j=if i=k then aZ L j else zz M i j:=by
 unfold zz;rw [u0t]
 by_cases z:i=k
 ·rw [if_pos z.symm,if_pos h,if_pos z];rfl
 ·rw [if_neg (Ne.symm z),if_neg z]
theorem by9 (L:List Int) (j:Nat):aZ (L.map λv=>-v) j=- aZ L j:=by
 unfold aZ;rw [q0m]
 cases L[j]? with
 | none=>rfl
 | some v=>rfl
structure Led (M M':List (List Int)) (k n m:Nat):Prop where
 len:M'.length=n
 row:∀ L ∈ M',L.length=m
 top:zz M' k k ≠ 0
 bit:∀ W,(∀ L ∈ M,∀ v ∈ L,j0y v<2 ^ W)->∀ L ∈ M',∀ v ∈ L,j0y v<2 ^ W
 alt:M'=M \/ ∃ s,k<s/\s<n/\∀ i j,zz M' i j=if i=k then zz M s j else if i=s then-zz M k j else zz M i j
def bo2 (K:q0a):Sp:=λvs H Q _ => ∃ (a:Addr) (ts:List Addr) (M:List (List Int)) (k n m:Nat),vs=[.ref a,.int k]/\SqL K H a (ts.map V.ref)/\RwZ H ts M/\M.length=n/\(∀ L ∈ M,L.length=m)/\k<n/\k<m/\n<=30/\m<=60 /\
 ((∀ i,k<=i->i<n->zz M i k=0)->∀ H',c9 H H'->Q .non H') /\
 ∀ r ts' M' H',c9 H H'->SqL K H' r (ts'.map V.ref)->RwZ H' ts' M'->Led M M' k n m->Q (.ref r) H'
theorem qK0 {K:q0a} {H:Hp} {a:Addr} {xs:List V} {lo hi:Option Int} {Q:VK} (e:SqL K H a xs) (k:∀ p H',H p=none->c9 H H'->H' p=some (.lst (ao9 xs lo hi))->Q (.ref p) H'):as7 K (.ref a) lo hi H Q:=⟨a,xs,rfl,e,λp hp=>k p _ hp (c9.new hp _) c6⟩
theorem qK1 {H:Hp} {l b:Addr} {xs zs:List V} {Q:VK} (e1:H l=some (.lst xs)) (e2:H b=some (.lst zs)) (z:xs.length+zs.length<=sizeLine) (k:∀ p H',H p=none->c9 H H'->H' p=some (.lst (xs ++ zs))->Q (.ref p) H'):aL9 (.ref l) (.ref b) H Q:=⟨l,b,xs,zs,rfl,rfl,e1,e2,z,λp hp=>k p _ hp (c9.new hp _) c6⟩
abbrev Z6:Stmt:=top 42
theorem ai1:j4 ["rows","at","place","behind"] ["rows","at"] (c8 Z6):=by and_intros
theorem aN1 {f:Addr} (d:Df K mg "with_lead" Z6 ["rows","at"] f) (n_len:mg "len" = none) (n_range:mg "range" = none):Def P w K mg base CX0 1 "with_lead" f ["rows","at"] (bo2 K):=by
  refine d.ok (N:=["rows","at","place","behind"]) ai1 (by rintro vs H Q E ⟨_,_,_,_,_,_,h,_⟩;rw [h];rfl) (λcdv A outer s H vs Q E hr h=>?_)
  obtain ⟨a,ts,M,k,n,m,rfl,hA,hR,ln,lm,kn,km,n30,m60,k1,k2⟩:=h
  refine ⟨_, (c7 (P6 PassesOwn.never rfl (av5 rfl n_range (b7 (pv 1) (b7 (i7 k6 rfl n_len (by decide +kernel) (b7 (pv 0) b8)) b8))) (d5 (i := 2) ai1.nd rfl (Or.inl rfl)) (d4 (E7 (as9 (j6 j9 (j6 j9 (pv 0) (pv 2) (fun _ _ => rfl)) (pv 1) (fun _ _ => rfl)) (fun _ => rfl)) (c7 (E7 (l9 Q3 (pv 2) (pv 1) (j8 _)) (d4 (j2 (pv 0))) o0)
      (c7 (V6 (i₀:=3) ai1.nd rfl (Or.inl rfl) (Nc:=["whole"]) (caps:=[none]) rfl (G5.of (osc:=c8 Z6) (N:=["rows","at","place","behind"]) (ks:=[]) rfl rfl rfl rfl k9 (by decide +kernel)) (A5 (j6 j9 (pv 0) (pv 1) (λ_ _=>rfl))) (λC s₂ H₂ fp pins=>(d5 (i:=0) (show List.Nodup (["whole"]:List Str) by decide +kernel) rfl (Or.inl rfl) (Or.inr rfl))) (λC s₂ H₂ fp pins=>(aa0 Q5 (pv 0))))
      (d4 (j2 (i5 aa4 (i5 aa4 (i5 aa4 (i5 aa4 (U8 Y9 (pv 0) ac1 (W6 (pv 1))) (C5 (b7 (j6 j9 (pv 0) (pv 2) (λ_ _=>rfl)) b8))) (U8 Y9 (pv 0) (W6 (i5 E9 (pv 1) b9)) (W6 (pv 2)))) (C5 (b7 (pv 3) b8))) (U8 Y9 (pv 0) (W6 (i5 E9 (pv 2) b9)) ac1)))))) o0)))
      (d4 (j2 aV6))),?_⟩
  rw [show start ["rows","at","place","behind"] [.ref a,.int k]=[some (.ref a),some (.int k),none,none] from rfl]
  subst_eqs
  have tl:ts.length=n:=by rw [hR.length,ln]
  have rowAt:∀ i,i<n->∃ (p:Addr) (L:List Int),ts[i]? = some p/\M[i]? = some L/\H p=some (.lst (L.map V.int))/\L.length=m:=λi hi=>by
    have e:=List.getElem?_eq_getElem (l:=ts) (i:=i) (by lia)
    obtain ⟨L,e1,e2⟩:=hR.get e;exact ⟨_,L,e,e1,e2,lm L (List.mem_of_getElem? e1)⟩
  have at':∀ (i:Nat) (p:Addr),ts[i]? = some p->(ts.map V.ref)[i]? = some (.ref p):=λi p e=>by rw [List.getElem?_map,e];rfl
  refine ⟨_,rfl,_,rfl,a,rfl,_,.inl hA,_,_,rfl,?_,T9 (λi σ H1=>H1=H/\(∃ o2,σ=[some (.ref a),some (.int k),o2,none])/\∀ x,k<=x->x<k+i->zz M x k=0) ⟨rfl,⟨_,rfl⟩,λx h1 h2=>by lia⟩ ?_ ?_⟩
  · rw [List.length_map,tl];lia
  · rintro i σ H1 hi ⟨rfl,⟨o2,rfl⟩,hz⟩
    rw [List.length_map,tl] at hi;obtain ⟨p,L,e1,e2,e3,e4⟩:=rowAt (k+i) (by lia)
    obtain ⟨p0,L0,f1,f2,f3,f4⟩:=rowAt k kn
    simp only [↓reduceIte,L2.bg8,L2.bv6,L2.aV1,L2.bk3,L2.aQ0,L2.aA3,L2.bh2,L2.bk4,L2.bv7,L2.tSl,L2.ar8,L2.ab0,L2.bv8,L2.aM1,L2.bk7,L2.O7,j0d,q1g,Option.bind_none,Option.bind_some,Option.join_some,L2.bn7,L2.bv1,L2.bv2,L2.tOr,L2.bv0,L2.bg9,L2.tB,L2.tOp,L2.tUn,L2.bo0,L2.tBM,L2.O1,L2.tC,L2.tCB,L2.bn8,L2.aU3,L2.t4,L2.aW9,L2.U2,L2.w9,L2.U3,L2.P2,L2.ak4,L2.bn9,L2.bu9,L2.bc2,L2.tIf,L2.bh4,L2.bh0,L2.aA2,L2.aJ8,L2.bh3,L2.bh1,L2.aU2,L2.aU1,L2.rI,L2.rI0,L2.rU,L2.aM0,L2.al1,L2.bc7,L2.aB6,L2.rEq,L2.rNe,L2.aV3,L2.aV2,L2.aV0,L2.bo7,L2.bk6,L2.bk5,L2.am0,L2.az5,L2.cxR,L2.cxX,L2.Cx.nox,L2.Cx.wish,L2.Cx.body,L2.Cx.suite,List.getElem?_cons_zero,u0p,List.set_cons_zero,List.set_cons_succ,Option.some.injEq,L2.V.int.injEq,L2.V.bl.injEq,L2.V.ref.injEq,L2.V.str.injEq,exists_eq_left',exists_eq_left,exists_and_left,true_and,and_true,List.cons.injEq,reduceCtorEq,Bool.false_eq_true,if_false,if_true,exists_const,L2.tyV,j0m,List.length_nil,exists_eq,g0g,List.cons_append,List.nil_append,decide_eq_true_eq,not_true_eq_false,not_false_eq_true,v0x,decide_eq_false_iff_not,Bool.not_true,Bool.not_false,and_assoc,false_and,false_or,or_false]
    have ci:((k:Int)+(i:Int))=((k+i:Nat):Int):=by simp
    rw [ci]
    have eL:(L.map V.int)[k]? = some (.int (zz M (k+i) k)):=by
      unfold zz aZ;rw [e2,List.getElem?_map]
      show Option.map _ L[k]? = some (V.int (L[k]?.getD 0));rw [List.getElem?_eq_getElem (by lia)];rfl
    refine ⟨_,hA,_,v9 (at' _ _ e1),p,rfl,_,SqL.of e3,_,v9 eL,_,rfl,F2 (λh1=>?_) (λh1=>?_)⟩
    · have nz:zz M (k+i) k ≠ 0:=by simpa using h1
      refine ⟨rfl,F2 (λh2=>?_) (λh2=>?_)⟩
      · have:i=0:=by lia
        subst this;exact k2 a ts M _ (c9.refl _) hA hR ⟨ln,lm,nz,λW h=>h,.inl rfl⟩
      · refine ⟨_,hA,_,v9 (at' _ _ f1),p0,rfl,⟨_,SqL.of f3⟩,λD hD=>?_⟩
        refine B9 (L0.map V.int) (λj σ H2=>(∃ o,σ=[o])/\c9 H1 H2/\H2 D=some (.lst ((L0.take j).map λv=>V.int (-v)))) ⟨⟨_,rfl⟩,c9.new hD _,by rw [List.take_zero];exact c6⟩ (λj σ H2 _ ⟨_,s2,_⟩=>SqL.of (s2 _ _ f3)) ?_ ?_
        · rintro j x σ H2 hx ⟨⟨o,rfl⟩,s2,e⟩
          obtain ⟨v,hv,rfl⟩:=aa1 hx;have hj:=(List.getElem?_eq_some_iff.mp hx).1
          subst_eqs
          refine t6.mk hj e ?_ ⟨⟨_,rfl⟩,s2.over hD _,?_⟩
          · rw [List.length_map,List.length_take]
            exact Nat.lt_of_le_of_lt (show _<=100 by lia) (by decide)
          · rw [c6,d7 hv,List.map_append];rfl
        · rintro σ H2 ⟨⟨o,rfl⟩,s2,e⟩
          rw [List.length_map,List.take_length] at e;have lt':(ts.map V.ref).length=n:=by rw [List.length_map,tl]
          have hA2:=s2.seq hA;refine qK0 hA2 λa1 H3 h1 X1 g1=>?_
          refine ⟨_,X1.seq hA2,_,v9 (at' _ _ e1),aU9,λa2 h2=>?_⟩;obtain ⟨H4,y,X2,g2⟩:=M6 (.lst [V.ref p]) h2;rw [<- y];rw [am6 _ (by lia)] at g1
          refine qK1 (X2 _ _ g1) g2 ?_ λa3 H5 h3 X3 g3=>?_
          · exact Nat.le_trans (show _<=100 by rw [List.length_take,List.length_singleton];omega) (by decide)
          have X13:=(X1.trans X2).trans X3;refine qK0 (X13.seq hA2) λa4 H6 h4 X4 g4=>?_
          rw [show ((k:Int)+1)=((k+1:Nat):Int) by simp,bs2 _ (show k+1<=k+i by lia) (by lia)] at g4
          refine qK1 (X4 _ _ g3) g4 ?_ λa5 H7 h5 X5 g5=>?_
          · refine Nat.le_trans (show _<=100 from ?_) (by decide)
            rw [List.length_append,List.length_take,List.length_take,List.length_drop];simp only [List.length_cons,List.length_nil]
            lia
          obtain ⟨F,hF⟩:∃ F,F=(ts.map V.ref).take k ++ [V.ref p] ++ ((ts.map V.ref).drop (k+1)).take (k+i-(k+1)):=⟨_,rfl⟩;rw [<- hF] at g5
          have lF:F.length<=100:=by
            rw [hF,List.length_append,List.length_append,List.length_take,List.length_take,List.length_drop];simp only [List.length_cons,List.length_nil];omega
          refine ⟨aU9,λa6 h6=>?_⟩;obtain ⟨H8,y,X6,g6⟩:=M6 (.lst [V.ref D]) h6;rw [<- y]
          refine qK1 (X6 _ _ g5) g6 ?_ λa7 H9 h7 X7 g7=>?_
          · exact Nat.le_trans (show _<=101 by simp only [List.length_cons,List.length_nil];lia) (by decide)
          have X17:=X13.trans (X4.trans (X5.trans (X6.trans X7)));refine qK0 (X17.seq hA2) λa8 H10 h8 X8 g8=>?_
          rw [show (((k+i:Nat):Int)+1)=((k+i+1:Nat):Int) by simp,aE3 _ (by lia)] at g8
          refine qK1 (X8 _ _ g7) g8 ?_ λa9 H11 h9 X9 g9=>?_
          · refine Nat.le_trans (show _<=200 from ?_) (by decide)
            rw [List.length_append,List.length_drop];simp only [List.length_cons,List.length_nil]
            lia
          have X19:=X17.trans (X8.trans X9);have S:=s2.trans X19;have hM:(M.set k L).length=n:=by rw [List.length_set,ln]
          have e0:zz M k=aZ L0:=by funext j;unfold zz;rw [f2];rfl
          have eL':zz M (k+i)=aZ L:=by funext j;unfold zz;rw [e2];rfl
          refine k2 a9 ((ts.set k p).set (k+i) D) ((M.set k L).set (k+i) (L0.map λv=>-v)) _ S (SqL.of (xs:=((ts.set k p).set (k+i) D).map V.ref) ?_) ?_ ⟨?_,?_,?_,λW h=>?_,.inr ⟨k+i,by lia,by lia,λx j=>?_⟩⟩
          · rw [g9,hF,bo3 (ts.map V.ref) (V.ref p) (V.ref D) ⋯ (by lia),List.map_set,List.map_set]
          · exact ((hR.same S).set k (S _ _ e3)).set (k+i) (X19 _ _ (by rw [e,List.map_map];rfl))
          · rw [List.length_set,hM]
          · intro L' hL'
            rcases List.mem_or_eq_of_mem_set hL' with z | z
            · rcases List.mem_or_eq_of_mem_set z with z | z
              · exact lm _ z
              · rw [z,e4]
            · rw [z,List.length_map,f4]
          · rw [aJ3 (by lia),if_neg (by lia),aJ3 (by lia),if_pos rfl,<- eL']
            exact nz
          · intro L' hL' v hv
            rcases List.mem_or_eq_of_mem_set hL' with z | z
            · rcases List.mem_or_eq_of_mem_set z with z | z
              · exact h _ z v hv
              · exact h _ (List.mem_of_getElem? e2) v (z ▸ hv)
            · rw [z] at hv
              obtain ⟨v',hv',rfl⟩:=List.mem_map.mp hv;rw [Int.natAbs_neg];exact h _ (List.mem_of_getElem? f2) v' hv'
          · rw [aJ3 ⋯,aJ3 ⋯,by9,e0,eL']
            by_cases z:x=k
            · rw [if_pos z,if_pos z,if_neg (by lia)]
            · rw [if_neg z,if_neg z]
    · have z0:zz M (k+i) k=0:=by simpa using h1
      refine ⟨⟨_,rfl⟩,λx h2 h3=>?_⟩;rcases Nat.lt_or_ge x (k+i) with y | y
      · exact hz x h2 y
      · rw [show x=k+i by lia];exact z0
  · rintro σ H1 ⟨rfl,⟨o2,rfl⟩,hz⟩
    rw [List.length_map,tl] at hz;exact k1 (λi h1 h2=>hz i h1 (by lia)) _ (c9.refl _)
def as1 (K:q0a):Sp:=λvs H Q _ => ∃ (a b:Addr) (L C:List Int) (k:Nat) (dv:Int) (W:Nat),vs=[.ref a,.ref b,.int k,.int dv]/\SqL K H a (L.map V.int)/\SqL K H b (C.map V.int)/\L.length=C.length/\k<L.length/\L.length<=60/\dv ≠ 0/\dv.natAbs<2 ^ W/\(∀ v ∈ L,j0y v<2 ^ W)/\(∀ v ∈ C,j0y v<2 ^ W)/\W<=8900 /\
 ∀ r T H',c9 H H'->H r=none->H' r=some (.lst (T.map V.int))->T.length=L.length->(∀ j,j<T.length->aZ T j=(aZ C k*aZ L j-aZ L k*aZ C j).fdiv dv)->Q (.ref r) H'
abbrev ag8:Stmt:=top 43
theorem aq1:j4 ["row","chosen","at","before","lead","own"] ["row","chosen","at","before"] (c8 ag8):=by and_intros
theorem aW1 {f:Addr} (d:Df K mg "cleaned" ag8 ["row","chosen","at","before"] f) (n_zip:mg "zip" = none):Def P w K mg base CX0 1 "cleaned" f ["row","chosen","at","before"] (as1 K):=by
  refine d.ok (N:=["row","chosen","at","before","lead","own"]) aq1 (by rintro vs H Q E ⟨_,_,_,_,_,_,_,h,_⟩;rw [h];rfl) (λcdv A outer s H vs Q E hr h=>?_)
  obtain ⟨a,b,R,F,k,dv,W,rfl,hR,hF,lF,kl,l60,d0,db,wR,wF,hW,kk⟩:=h
  refine ⟨_, (c7 (K7 (m6 (b7 (j6 j9 (pv 1) (pv 2) (fun _ _ => rfl)) (b7 (j6 j9 (pv 0) (pv 2) (fun _ _ => rfl)) b8))) (show PG _ _ (U2 K 2 (w9 (t4 4) (w9 (t4 5) U3))) from by (refine F4 (n := 2) ?_ ?_ ?_ ?_; rfl; (refine j1 ?_ ?_ ?_; (exact (d5 (i := 4) aq1.nd rfl (Or.inr rfl))); (refine j1 ?_ ?_ ?_; (exact (d5 (i := 5) aq1.nd rfl (Or.inr rfl))); (exact C6); rfl); rfl); rfl; rfl)))
      (d4 (j2 (t9 (Nc:=["own","lead","before","whole","other"]) (caps:=[some 5,some 4,some 3,none,none]) rfl (G5.of (osc:=c8 ag8) (N:=["row","chosen","at","before","lead","own"]) (ks:=["own","lead","before"]) rfl rfl rfl rfl (j7 rfl (j7 rfl (j7 rfl k9))) (by decide +kernel)) (af7 rfl n_zip (b7 (pv 0) (b7 (pv 1) b8))) (λC s₂ H₂ fp pins=>(show PG _ _ (U2 K 2 (w9 (t4 3) (w9 (t4 4) U3))) from by (refine F4 (n:=2) ?_ ?_ ?_ ?_;rfl;(refine j1 ?_ ?_ ?_;(exact (d5 (i:=3) (show List.Nodup (["own","lead","before","whole","other"]:List Str) by decide +kernel) rfl (Or.inl rfl) (Or.inr rfl)));(refine j1 ?_ ?_ ?_;(exact (d5 (i:=4) (show List.Nodup (["own","lead","before","whole","other"]:List Str) by decide +kernel) rfl (Or.inl rfl) (Or.inr rfl)));(exact C6);rfl);rfl);rfl;rfl))) (λC s₂ H₂ fp pins=>(i5 J1 (i5 U1 (i5 z9 (pv 1) (pv 3)) (i5 z9 (pv 0) (pv 4))) (pv 2))))))),?_⟩
  rw [show start ["row","chosen","at","before","lead","own"] [.ref a,.ref b,.int k,.int dv]=[some (.ref a),some (.ref b),some (.int k),some (.int dv),none,none] from rfl]
  have get':∀ {G:List Int} {i:Nat},i<G.length->(G.map V.int)[i]? = some (.int (aZ G i)):=fun {G i} h=>by
    unfold aZ;rw [List.getElem?_map,List.getElem?_eq_getElem h];rfl
  obtain ⟨tf,htf⟩:∃ tf:Nat->Int,∀ j,tf j=(aZ F k*aZ R j-aZ R k*aZ F j).fdiv dv:=⟨_,λ_=>rfl⟩
  subst_eqs
  refine ⟨_,hF,_,v9 (get' (by lia)),_,hR,_,v9 (get' kl),t8,λp hp=>?_⟩
  obtain ⟨H3,y,X,g3⟩:=M6 (.tup [V.int (aZ F k),V.int (aZ R k)]) hp;rw [<- y];have R3:=X.seq hR;have F3:=X.seq hF;refine ⟨_,SqT.of g3,rfl,_,_,rfl,_,_,rfl,rfl,⟨_,R3⟩,⟨_,F3⟩,λD hD=>?_⟩;have mb:min (R.map V.int).length (F.map V.int).length=R.length:=by rw [List.length_map,List.length_map,<- lF,Nat.min_self]
  refine am5 (R.map V.int) (F.map V.int) (λi σ H4 => ∃ o1 o2,σ=[some (V.int (aZ R k)),some (V.int (aZ F k)),some (V.int dv),o1,o2]/\c9 H3 H4/\H4 D=some (.lst (((List.range i).map tf).map V.int))) ⟨_,_,rfl,c9.new hD _,c6⟩ (by rintro i σ H4 ⟨_,_,_,s4,_⟩;exact ⟨s4.seq R3,s4.seq F3⟩) ?_ ?_
  · rintro i x y σ H4 q hx hy ⟨o1,o2,rfl,s4,e4⟩ hq
    have hi:i<R.length:=by
      have:=(List.getElem?_eq_some_iff.mp hx).1;rw [List.length_map] at this;exact this
    rw [get' hi] at hx;rw [get' (by lia)] at hy
    cases hx
    cases hy
    have T:=c9.new hq (.tup [.int (aZ R i),.int (aZ F i)]);have eT:=T _ _ e4
    subst_eqs
    refine ⟨_,SqT.of c6,rfl,_,_,rfl,_,_,rfl,rfl,?_⟩;refine ⟨_,rfl,U0 (aT5 wF k) (aT5 wR _) (by lia),_,rfl,U0 (aT5 wR k) (aT5 wF _) ⋯,aa7 d0 (Y1 db (by lia)),?_⟩
    rw [mb];refine t6.mk hi eT ?_ ⟨_,_,rfl,(s4.trans T).over hD _,?_⟩
    · rw [List.length_map,List.length_map,List.length_range]
      exact Nat.lt_of_lt_of_le (show i<100 by lia) (by decide)
    · rw [c6,List.range_succ,List.map_append,List.map_append,<- htf];rfl
  · rintro σ H4 ⟨o1,o2,rfl,s4,e4⟩
    rw [mb] at e4;refine kk D ((List.range R.length).map tf) H4 (X.trans s4) (X.free hD) e4 (by rw [List.length_map,List.length_range]) λj hj=>?_
    rw [List.length_map,List.length_range] at hj;rw [<- htf];unfold aZ;rw [List.getElem?_map,List.getElem?_range hj];rfl
theorem RwZ.at {H:Hp} {ts:List Addr} {M:List (List Int)} {n m:Nat} (h:RwZ H ts M) (ln:M.length=n) (lm:∀ L ∈ M,L.length=m) {i:Nat} (hi:i<n):∃ (p:Addr) (L:List Int),ts[i]? = some p/\M[i]? = some L/\H p=some (.lst (L.map V.int))/\L.length=m/\zz M i=aZ L:=by
 have e:=q0d (l:=ts) (i:=i) (by rw [h.length,ln];exact hi)
 obtain ⟨L,e1,e2⟩:=h.get e;exact ⟨_,L,e,e1,e2,lm L (q0c e1),by funext j;unfold zz;rw [e1];rfl⟩
structure bC5 (n m W:Nat) (M M':List (List Int)) (dv:Int):Prop where
 len:M'.length=n
 row:∀ L ∈ M',L.length=m
 dia:∀ i j,i<n->j<n->zz M' i j=if i=j then dv else 0
 rel:∀ Q,m=n+n->Rl n Q M->Rl n Q M'
 bit:∀ i j,i<n->j<m->(zz M' i j).natAbs<=2 ^ ((W+4)*(n+1))
def aK4 (K:q0a):Sp:=λvs H Q _ => ∃ (a:Addr) (ts:List Addr) (M:List (List Int)) (n m W:Nat),vs=[.ref a]/\SqL K H a (ts.map V.ref)/\RwZ H ts M/\M.length=n/\(∀ L ∈ M,L.length=m)/\n<=m/\m<=60/\(∀ L ∈ M,∀ v ∈ L,j0y v<2 ^ W)/\n<=13/\1<=W/\(W+4)*(n+1)<=4000 /\
 ∀ r (mn:Nat) (dv:Int) b us M' H',c9 H H'->H' r=some (.tup [.int mn,.int dv,.ref b])->SqL K H' b (us.map V.ref)->RwZ H' us M'->((mn=n/\(dv:Rat)=dt n (exM n M)/\dv ≠ 0/\dv.natAbs<=2 ^ ((W+4)*(n+1))/\bC5 n m W M M' dv) \/ (mn<n/\dt n (exM n M)=0))->Q (.ref r) H'
abbrev W3:Stmt:=top 44
theorem N0:j4 ["rows","divisor","at","led","chosen"] ["rows"] (c8 W3):=by and_intros
theorem aF2 {f f1 f2:Addr} (d:Df K mg "eliminated" W3 ["rows"] f) (G_with_lead:Def P w K mg base CX0 1 "with_lead" f1 ["rows","at"] (bo2 K)) (G_cleaned:Def P w K mg base CX0 1 "cleaned" f2 ["row","chosen","at","before"] (as1 K)) (n_len:mg "len" = none) (n_range:mg "range" = none) (n_enumerate:mg "enumerate" = none):Def P w K mg base CX0 2 "eliminated" f ["rows"] (aK4 K):=by
 refine d.ok (N:=["rows","divisor","at","led","chosen"]) N0 (by rintro vs H Q E ⟨_,_,_,_,_,_,h,_⟩;rw [h];rfl) (λcdv A outer s H vs Q E hr h=>?_)
 obtain ⟨a,ts,M,n,m,W,rfl,hA,hR,ln,lm,nm,m60,hb,n13,W1,hV,kk⟩:=h
 refine ⟨_,(c7 (i9 (i:=1) N0.nd rfl (z0w rfl) b9)
   (c7 (P6 PassesOwn.never rfl (E4 rfl n_range (b7 (i7 k6 rfl n_len (by decide +kernel) (b7 (pv 0) b8)) b8)) (d5 (i:=2) N0.nd rfl (z0w rfl)) (c7 (i9 (i:=3) N0.nd rfl (q0x rfl) (d2 G_with_lead hr (b7 (pv 0) (b7 (pv 2) b8)) i4))
   (c7 (E7 (l9 bw5 (pv 3) aV6 (j8 _)) (d4 (j2 (m6 (b7 (pv 2) (b7 (pv 1) (b7 (pv 0) b8)))))) o0)
   (c7 (i9 (i:=4) N0.nd rfl (z0w rfl) (j6 j9 (pv 3) (pv 2) (λ_ _=>rfl)))
   (c7 (V6 (i₀:=0) N0.nd rfl (q0x rfl) (Nc:=["divisor","chosen","at","place","row"]) (caps:=[some 1,some 4,some 2,none,none]) rfl (G5.of (osc:=c8 W3) (N:=["rows","divisor","at","led","chosen"]) (ks:=["divisor","chosen","at"]) rfl rfl rfl rfl (j7 rfl (j7 rfl (j7 rfl k9))) (by decide +kernel)) (az7 rfl n_enumerate (b7 (pv 3) b8)) (λC s₂ H₂ fp pins=>(show PG _ _ (U2 K 2 (w9 (t4 3) (w9 (t4 4) U3))) from by (refine F4 (n:=2) ?_ ?_ ?_ ?_;rfl;(refine j1 ?_ ?_ ?_;(exact (d5 (i:=3) (show z0q (["divisor","chosen","at","place","row"]:List Str) by decide +kernel) rfl (q0x rfl) (z0w rfl)));(refine j1 ?_ ?_ ?_;(exact (d5 (i:=4) (show z0q (["divisor","chosen","at","place","row"]:List Str) by decide +kernel) rfl (q0x rfl) (z0w rfl)));(exact C6);rfl);rfl);rfl;rfl))) (λC s₂ H₂ fp pins=>(ag9 (l9 Q3 (pv 3) (pv 2) (j8 _)) (pv 4) (d2 G_cleaned hr (b7 (pv 4) (b7 (pv 1) (b7 (pv 2) (b7 (pv 0) b8)))) i4))))
   (d4 (i9 (i:=1) N0.nd rfl (z0w rfl) (j6 j9 (pv 4) (pv 2) (λ_ _=>rfl)))))))))
   (d4 (j2 (m6 (b7 (i7 k6 rfl n_len (by decide +kernel) (b7 (pv 0) b8)) (b7 (pv 1) (b7 (pv 0) b8)))))))),?_⟩
 rw [show start ["rows","divisor","at","led","chosen"] [.ref a]=[some (.ref a),none,none,none,none] from rfl]
 simp! [bo2,as1]
 have tl:ts.length=n:=by rw [hR.length,ln]
 obtain ⟨V0,hV0⟩:∃ V0,V0=(W+4)*(n+1):=⟨_,rfl⟩;obtain ⟨I,hI⟩:∃ I:Nat->L2.St->Hp->Prop,∀ i σ H1,I i σ H1 ↔ c9 H H1/\∃ (a':Addr) (ts':List Addr) (M':List (List Int)) (B:Mt) (dv:Int) (o2 o3 o4:Option V),σ=[some (.ref a'),some (.int dv),o2,o3,o4]/\SqL K H1 a' (ts'.map V.ref)/\RwZ H1 ts' M'/\Ew n m (exM n M) B i M' dv/\(∀ r c,∃ z:Int,B r c=(z:Rat)/\z.natAbs<2 ^ W)/\∀ Q,m=n+n->Rl n Q M->Rl n Q M':=⟨_,λ_ _ _=>Iff.rfl⟩
 have zlt:∀ r c,∃ z:Int,exM n M r c=(z:Rat)/\z.natAbs<2 ^ W:=λr c=>by
  unfold exM;have one:(1:Nat)<2 ^ W:=q0b (show 1<2 ^ 1 by decide) (i6 W1)
  split
  ·refine ⟨_,rfl,?_⟩
   unfold zz
   cases e:M[r]? with
   | none=>exact v0g _
   | some L=>exact aT5 (hb L (q0c e)) c
  ·split
   ·exact ⟨-1,rfl,one⟩
   ·exact ⟨0,rfl,v0g _⟩
 refine ⟨_,rfl,a,rfl,_,.inl hA,_,rfl,?_,?_,T9 I ((hI _ _ _).mpr ⟨c9.refl _,a,ts,M,exM n M,1,_,_,_,rfl,hA,hR,Ew.start ln lm nm,zlt,λ_ _ h=>h⟩) ?_ ?_⟩
 ·simp
 ·rw [q0e,tl];lia
 ·rintro i σ H1 hi h
  obtain ⟨S,a',ts',M',B,dv,o2,o3,o4,rfl,hA1,hR1,E,hB,rel1⟩:=(hI _ _ _).mp h;rw [q0e,tl] at hi;rw [q1m];refine k7 (λσ H2=>c9 H1 H2/\((σ=[some (.ref a'),some (.int dv),some (.int i),some .non,o4]/\∀ x,i<=x->x<n->zz M' x i=0) \/ ∃ (a2:Addr) (ts2:List Addr) (M2:List (List Int)),σ=[some (.ref a'),some (.int dv),some (.int i),some (.ref a2),o4]/\SqL K H2 a2 (ts2.map V.ref)/\RwZ H2 ts2 M2/\Led M' M2 i n m)) (λN hN=>?_) ?_
  ·simp! [bo2]
   refine ⟨ts',M',i,rfl,hA1,hR1,m,E.row,by rw [E.len];exact hi,by exact Nat.lt_of_lt_of_le ‹_› ‹_›,by rw [E.len];lia,⋯,?_⟩
   rw [E.len];exact ⟨λhz H' s=>hN _ _ ⟨s,.inl ⟨rfl,hz⟩⟩,λr ts2 M2 H' s hA2 hR2 LD=>hN _ _ ⟨s,.inr ⟨r,ts2,M2,rfl,hA2,hR2,LD⟩⟩⟩
  rintro σ H2 ⟨S2,h⟩;rcases h with ⟨rfl,hz⟩ | ⟨a2,ts2,M2,rfl,hA2,hR2,LD⟩
  ·subst_eqs
   refine ⟨by decide,λp hp=>?_⟩
   have X:=S2.trans (c9.new hp (.tup [.int i,.int dv,.ref a']));exact kk p i dv a' ts' M' _ (S.trans X) c6 (X.seq hA1) (hR1.same X) (.inr ⟨hi,E.stuck hi hz⟩)
  ·simp! [as1]
   obtain ⟨B2,E2,hB2,rel2⟩:∃ B2,Ew n m (exM n M) B2 i M2 dv/\(∀ r c,∃ z:Int,B2 r c=(z:Rat)/\z.natAbs<2 ^ W)/\∀ Q,m=n+n->Rl n Q M->Rl n Q M2:=by
    rcases LD.alt with h | ⟨s,h1,h2,h3⟩
    ·rw [h];exact ⟨B,E,hB,rel1⟩
    ·refine ⟨_,E.swap h1 h2 LD.len LD.row h3,λr c=>?_,λQ hm hq=>(rel1 Q hm hq).swap hi h2 h3⟩
     unfold swN
     split
     ·exact hB _ _
     ·split
      ·obtain ⟨z,e,b⟩:=hB i c
       exact ⟨-z,by rw [e,y0e],by rw [v0n];exact b⟩
      ·exact hB _ _
   obtain ⟨c,C,c1,c2,c3,c4,c5⟩:=hR2.at E2.len E2.row hi;have at':∀ (j:Nat) (p:Addr),ts2[j]? = some p->(ts2.map V.ref)[j]? = some (.ref p):=λj p e=>by rw [q0m,e];rfl
   have t2:ts2.length=n:=by rw [hR2.length,E2.len]
   have d0:=E2.d0
   have lt:∀ z:Int,z.natAbs<=2 ^ V0->z.natAbs<2 ^ (V0+1):=λz h=>by
    have:=v0g V0;rw [v0r];lia
   have ebit:∀ x L,M2[x]? = some L->x<n->∀ v ∈ L,j0y v<2 ^ (V0+1):=λx L eL hx v hv=>by
    obtain ⟨y,hy,ey⟩:=List.mem_iff_getElem.mp hv;have lL:=E2.row L (q0c eL);have:zz M2 x y=v:=by unfold zz aZ;rw [eL];show (L[y]?).getD 0=v;rw [q0d hy,ey];rfl
    rw [<- this];refine lt _ ?_;rw [hV0];exact E2.bits hB2 n13 (by exact Nat.le_of_lt ‹_›) hx (by lia)
   refine ⟨_,hA2,_,v9 (at' _ _ c1),⟨_,hA2⟩,λD hD=>?_⟩;obtain ⟨Pv,hPv⟩:∃ Pv:Nat->L2.St->Hp->Prop,∀ j σ H4,Pv j σ H4 ↔ ∃ (us:List Addr) (N:List (List Int)) (o3 o4:Option V),σ=[some (.int dv),some (.ref c),some (.int i),o3,o4]/\c9 H2 H4/\H4 D=some (.lst (us.map V.ref))/\D ∉ us/\RwZ H4 us N/\N.length=j/\(∀ L ∈ N,L.length=m)/\∀ x y,x<j->y<m->zz N x y=if x=i then zz M2 i y else (zz M2 i i*zz M2 x y-zz M2 x i*zz M2 i y).fdiv dv:=⟨_,λ_ _ _=>Iff.rfl⟩;refine bs1 (ts2.map V.ref) Pv ((hPv _ _ _).mpr ⟨[],[],_,_,rfl,c9.new hD _,c6,by simp,.nil,rfl,by simp,λx y h=>by lia⟩) (by intro j σ H4 h;obtain ⟨_,_,_,_,_,s4,_⟩:=(hPv _ _ _).mp h;exact s4.seq hA2) ?_ ?_
   ·intro j x σ H4 q hx h hq
    obtain ⟨us,N,o3,o4,rfl,s4,e4,nD,hN4,lN,rN,vN⟩:=(hPv _ _ _).mp h
    have hj:j<n:=by
     have:=(q0g.mp hx).1;rw [q0e,t2] at this;exact this
    obtain ⟨p,L,p1,p2,p3,p4,p5⟩:=hR2.at E2.len E2.row hj;rw [at' _ _ p1] at hx
    cases hx
    simp! [as1]
    obtain ⟨H5,y5,X,g5⟩:=M6 (.tup [V.int j,V.ref p]) hq;rw [<- y5];refine ⟨_,SqT.of g5,rfl,_,_,rfl,_,_,rfl,rfl,rfl,?_⟩;have e5:=X _ _ e4
    have sz:(us.map V.ref).length<sizeLine:=by
     rw [q0e,hN4.length,lN];exact q0b (show j<100 by lia) (by decide)
    have lj:j<(ts2.map V.ref).length:=by rw [q0e,t2];exact hj
    have add:∀ (r:Addr) (T:List Int) (H6:Hp),c9 H5 H6->r ≠ D->H6 r=some (.lst (T.map V.int))->T.length=m->(∀ y,y<m->aZ T y=if j=i then zz M2 i y else (zz M2 i i*zz M2 j y-zz M2 j i*zz M2 i y).fdiv dv)->t6 D (ts2.map V.ref).length Pv j [some (.int dv),some (.ref c),some (.int i),some (.int j),some (.ref p)] (.ref r) H6:=λr T H6 s6 hr e6 l6 v6=>by
     have e7:=s6 _ _ e5
     have nn:D ∉ us ++ [r]:=λz=>by
      rcases z0t.mp z with z | z
      ·exact nD z
      ·exact hr (z0d.mp z).symm
     refine t6.mk lj e7 sz ((hPv _ _ _).mpr ⟨us ++ [r],N ++ [T],_,_,rfl,(s4.trans (X.trans s6)).over hD _,by rw [c6,y0t];rfl,nn,RwZ.over nn ((hN4.same (X.trans s6)).append (.cons e6 .nil)),by rw [z0z,lN];rfl,?_,?_⟩)
     ·intro L' hL'
      rcases z0t.mp hL' with z | z
      ·exact rN _ z
      ·rw [z0d.mp z];exact l6
     ·intro x y h1 h3
      have ez:zz (N ++ [T]) x y=if x<j then zz N x y else aZ T y:=by
       unfold zz
       by_cases z:x<j
       ·rw [j0e (by lia),if_pos z]
       ·rw [j0c (by lia),if_neg z,show x-N.length=0 by lia];rfl
      rw [ez]
      by_cases z:x<j
      ·rw [if_pos z];exact vN x y z h3
      ·rw [if_neg z]
       have:x=j:=by lia
       rw [this];exact v6 y h3
    refine F2 (λh1=>?_) (λh1=>?_)
    ·have eji:j=i:=by have:=V.int.inj h1;lia
     refine add p L H5 (c9.refl _) (λz=>?_) (X _ _ (s4 _ _ p3)) p4 (λy hy=>?_)
     ·rw [z,hD] at p3;cases p3
     ·rw [if_pos eji,<- eji,p5]
    ·have nji:j ≠ i:=λz=>h1 (by rw [z])
     have hl:=ebit j L p2 hj;refine ⟨p,rfl,L,C,i,rfl,SqL.of (X _ _ (s4 _ _ p3)),SqL.of (X _ _ (s4 _ _ c3)),by rw [p4,c4],by lia,by lia,d0,V0+1,lt _ (by rw [hV0];exact E2.dvb hB2 n13 (by exact Nat.le_of_lt ‹_›)),hl,ebit i C c2 hi,by lia,λr T H6 s6 f6 e6 l6 v6=>?_⟩
     refine add r T H6 s6 (λz=>?_) e6 (by lia) (λy hy=>?_)
     ·rw [z,e5] at f6;cases f6
     ·rw [if_neg nji,v6 y (by lia),c5,p5]
   ·intro σ H4 h
    rw [q0e,t2] at h;obtain ⟨us,N,o3,o4,rfl,s4,e4,nD,hN4,lN,rN,vN⟩:=(hPv _ _ _).mp h
    have gC:(C.map V.int)[i]? = some (.int (zz M2 i i)):=by
     rw [c5];unfold aZ;rw [q0m,q0d (by lia)];rfl
    have sm:∀ y,y<m->zz N i y=zz M2 i y:=λy hy=>by rw [vN i y hi hy,if_pos rfl]
    have st:=E2.step hi LD.top lN rN sm λx y h1 h2 h3=>by rw [vN x y h1 h3,if_neg h2]
    refine ⟨c,rfl,_,SqL.of (s4 _ _ c3),_,v9 gC,(hI _ _ _).mpr ⟨(S.trans S2).trans s4,D,us,N,B2,_,_,_,_,rfl,SqL.of e4,hN4,st.1,hB2,λQ hm hq=>?_⟩⟩;exact (rel2 Q hm hq).step hi d0 (λy hy=>sm y (by lia)) λx y h1 h2 h3=>st.2 x y h1 h2 (by lia)
 ·intro σ H1 h
  obtain ⟨S,a',ts',M',B,dv,o2,o3,o4,rfl,hA1,hR1,E,hB,rel1⟩:=(hI _ _ _).mp h
  subst_eqs
  have t1:ts'.length=n:=by rw [hR1.length,E.len]
  refine ⟨_,.inl hA1,by decide,λp hp=>?_⟩
  rw [q0e,tl] at E;rw [q0e,t1];have X:=c9.new hp (.tup [.int n,.int dv,.ref a']);exact kk p n dv a' ts' M' _ (S.trans X) c6 (X.seq hA1) (hR1.same X) (.inl ⟨rfl,E.done,E.d0,E.dvb hB n13 (q0h _),⟨E.len,E.row,E.dia,rel1,λx y h1 h2=>E.bits hB n13 (q0h _) h1 h2⟩⟩)
def bpN:List (List Rat)->Nat
 | []=>1
 | L :: Ls=>n9 L*bpN Ls
theorem bb0:∀ X:List (List Rat),0<bpN X
 | []=>Nat.one_pos
 | L :: Ls=>j0a (M7 L) (bb0 Ls)
theorem aT4:∀ X:List (List Rat),P7 (λr=>((n9 ((X[r]?).getD []):Nat):Rat)) X.length=((bpN X:Nat):Rat)
 | []=>rfl
 | L :: Ls=>by
  rw [j0m,W5];have:=aT4 Ls
  show ((n9 L:Nat):Rat)*P7 (λr=>((n9 ((Ls[r]?).getD []):Nat):Rat)) Ls.length=((n9 L*bpN Ls:Nat):Rat);rw [this,Rat.natCast_mul]
def aY0 (M:List (List Rat)):List (List Int):=M.map λL=>k8 (n9 L) L
theorem bl4 {n:Nat} {M:List (List Rat)} (ln:M.length=n) (lm:∀ L ∈ M,L.length=n):dt n (mZ (aY0 M))=((bpN M:Nat):Rat)*dt n (qq M):=by
 rw [<- aT4,ln,<- au4];refine K8 λr hr c hc=>?_;have e:=q0d (l:=M) (i:=r) (by lia)
 generalize M[r]'⋯=L at e;have lL:=lm L (q0c e);unfold mZ zz qq aY0;rw [q0m,e]
 show ((aZ (k8 (n9 L) L) c:Int):Rat)=((n9 L:Nat):Rat)*aQ L c;have ec:=q0d (l:=L) (i:=c) (by lia)
 generalize L[c]'⋯=q at ec;have we:=ar6 (M7 L) (ac3 (q0c ec));unfold aZ aQ k8;rw [q0m,ec]
 show ((q.num*((n9 L:Nat):Int).fdiv (q.den:Int):Int):Rat)=((n9 L:Nat):Rat)*q;generalize q.num*((n9 L:Nat):Int).fdiv (q.den:Int)=z at *
 have l0:(((n9 L:Nat):Int):Rat) ≠ 0:=λy=>by
  have:((n9 L:Nat):Int)=0:=z0x.mp y;have:=M7 L
  lia
 rw [we,j0k]
 show _=(((n9 L:Nat):Int):Rat)*_;rw [g0q,u0k l0]
theorem aX0 {a g:Int} {n:Nat} (hg:0<g) (hd:g ∣ a) (h:a.natAbs<n):(a.fdiv g).natAbs<n:=q0p (ao1 hg hd) h
theorem bq6 (s:Rat) {v:Int} (hv:v ≠ 0):v.fdiv (q0y (s.den:Int) v:Nat)*s.num=(s*(v:Rat)).num/\(s.den:Int).fdiv (q0y (s.den:Int) v:Nat)=((s*(v:Rat)).den:Int):=by
 have dp:=A4 s;have hg:=Q4 (t:=(s.den:Int)) hv;obtain ⟨d',hd⟩:=j0v (s.den:Int) v;obtain ⟨v',hv'⟩:=j0q (s.den:Int) v;have hc:q0y d' v'=1:=Z4 hv hd hv'
 have e1:v.fdiv (q0y (s.den:Int) v:Nat)=v':=by
  conv=>lhs;arg 1;rw [hv']
  exact w4 (by lia)
 have e2:(s.den:Int).fdiv (q0y (s.den:Int) v:Nat)=d':=by
  conv=>lhs;arg 1;rw [hd]
  exact w4 ⋯
 rw [e1,e2]
 have ev:s*(v:Rat)=q0z (s.num*v) s.den:=by
  have h1:=z0j (v:Rat);rw [g0m,g0n] at h1
  conv=>lhs;rw [<- z0j s,<- h1]
  rw [y0a]
  simp
 rw [ev]
 have hd0:0<d':=by
  rcases g0j 0 d' with z | z
  ·exact z
  ·have:=g0r (show (0:Int)<=(q0y (s.den:Int) v:Nat) by simp) (show 0<=-d' by lia)
   rw [g0t] at this;lia
 have c1:q0y d' s.num=1:=by
  have:=ba7 (k:=s.num) (m:=(s.den:Int)) (n:=d') (aL8 s) ⟨_,by rw [y0g];exact hd⟩
  exact aE4 this
 refine ac2 hd0 (aE4 (af9 hc c1)) (by lia) ?_
 generalize (q0y (s.den:Int) v:Int)=g at *;rw [hd,hv']
 grind
def bu2 (b:Int) (ws:List Int) (d:Int):Prop:=0<d/\d ∣ b/\∀ v ∈ ws,v ≠ 0->q0y d v=q0y b v
def bt6 (K:q0a):Sp:=λvs H Q _ => ∃ (a:Addr) (ws:List Int) (b:Int),vs=[.ref a,.int b]/\SqL K H a (ws.map V.int)/\ws.length<=100/\0<b/\b.natAbs<2 ^ 6000/\(∀ v ∈ ws,j0y v<2 ^ 20000)/\∀ H' d,c9 H H'->bu2 b ws d->Q (.int d) H'
abbrev M4:Stmt:=top 32
theorem K3:j4 ["wholes","bottom","longest","product","whole"] ["wholes","bottom"] (c8 M4):=by and_intros
theorem aq4 {f fc:Addr} {tL:Tok} (d:Df K mg "divisor_for_all" M4 ["wholes","bottom"] f) (G_common_divisor:Def P w K mg base CX0 1 "common_divisor" fc ["one","other"] as2) (c_LONG:mg "LONG" = some (.int 1000 tL)) (n_max:mg "max" = none):Def P w K mg base CX0 2 "divisor_for_all" f ["wholes","bottom"] (bt6 K):=by
  refine d.ok (N:=["wholes","bottom","longest","product","whole"]) K3 (by rintro vs H Q E ⟨a,b,c,h,_⟩;rw [h];rfl) (λcdv A outer s H vs Q E hr h=>?_)
  obtain ⟨a,ws,b,rfl,hS,hl,hb0,hb,hws,k⟩:=h
  refine ⟨_, (c7 (i9 (i := 2) K3.nd rfl (Or.inl rfl) (bp2 rfl rfl n_max (b7 (t9 (Nc := ["whole"]) (caps := [none]) rfl (G5.of (osc := c8 M4) (N := ["wholes", "bottom", "longest", "product", "whole"]) (ks := []) rfl rfl rfl rfl k9 (by decide +kernel)) (A5 (pv 0)) (fun C s₂ H₂ fp pins => (d5 (i := 0) (show List.Nodup (["whole"] : List Str) by decide +kernel) rfl (Or.inl rfl) (Or.inr rfl))) (fun C s₂ H₂ fp pins => (show PE _ _ (bo0 K "int" _ _) from by exact (av6 PySem.F.plainAttrs_int PySem.F.slot_int_bit_length PySem.F.type_int_bit_length ah2 (pv 0))))) b8)))
      (c7 (E7 (PW.pt (ad1 (l9 al4 (av6 PySem.F.plainAttrs_int PySem.F.slot_int_bit_length PySem.F.type_int_bit_length ah2 (pv 1)) (F8 (v:=.int 1000) rfl c_LONG ⟨_,rfl⟩) (j8 _)) (af6 (l9 aj9 (av6 PySem.F.plainAttrs_int PySem.F.slot_int_bit_length PySem.F.type_int_bit_length ah2 (pv 1)) (i5 z9 b9 (pv 2)) (j8 _))))) (d4 (j2 (pv 1))) o0)
      (c7 (i9 (i:=3) K3.nd rfl (Or.inl rfl) b9)
      (c7 (P6 PassesOwn.never rfl (A5 (pv 0)) (d5 (i:=4) K3.nd rfl (Or.inl rfl)) (d4 (E7 (as9 (pv 4) (λ_=>rfl)) (d4 (i9 (i:=3) K3.nd rfl (Or.inl rfl) (i5 S9 (i5 z9 (pv 3) (pv 4)) (pv 1)))) o0)))
      (d4 (j2 (d2 G_common_divisor hr (b7 (pv 1) (b7 (pv 3) b8)) i4))))))),?_⟩
  rw [show start ["wholes","bottom","longest","product","whole"] [.ref a,.int b]=[some (.ref a),some (.int b),none,none,none] from rfl]
  subst_eqs
  have triv:bu2 b ws b:=⟨hb0,Int.dvd_refl _,λ_ _ _=>rfl⟩;refine ⟨⟨_,hS⟩,λD hD=>?_⟩;refine B9 (ws.map V.int) (λi σ H2 => ∃ o,σ=[o]/\c9 H H2/\∃ ns:List Int,ns.length=i/\H2 D=some (.lst (ns.map V.int))) ⟨_,rfl,c9.new hD _,[],rfl,c6⟩ (by rintro i σ H2 _ ⟨_,_,s2,_⟩;exact s2.seq hS) ?_ ?_
  · rintro i x σ H2 hx ⟨o,rfl,s2,ns,hn,e2⟩
    have hi:=(List.getElem?_eq_some_iff.mp hx).1;obtain ⟨v,hw,rfl⟩:=aa1 hx
    subst_eqs
    refine t6.mk hi e2 ?_ ⟨_,rfl,s2.over hD _,?_⟩
    · rw [List.length_map] at hi ⊢
      exact Nat.lt_of_lt_of_le (show ns.length<101 by lia) (by decide)
    · refine ⟨ns ++ [(Builtin.Int.intBits v:Int)],by simp [hn],?_⟩
      rw [c6,List.map_append];rfl
  · rintro σ H2 ⟨o,rfl,s2,ns,hn,e2⟩
    refine ⟨D,rfl,ns,SqL.of e2,λi=>?_⟩;refine F2 (λ_=>k H2 b s2 triv) (λ_=>?_);refine ⟨bq4 (by decide),F2 (λ_=>k H2 b s2 triv) (λ_=>?_)⟩
    refine ⟨_,rfl,a,rfl,⟨_,s2.seq hS⟩,au1 (xs:=ws.map V.int) (λi' σ H3=>H3=H2/\∃ p o,σ=[some (.ref a),some (.int b),some (.int i),some (.int p),o]/\p.natAbs<2 ^ 6000/\∃ e,ax5 (ws.take i')=p+b*e) ⟨rfl,1,_,rfl,Nat.lt_of_lt_of_le (show _<2 ^ 1 by decide) (i6 (by decide)),0,by simp [ax5]⟩ (by rintro i' σ H3 _ ⟨rfl,_⟩;exact s2.seq hS) ?_ ?_⟩
    · rintro i' x σ H3 hx ⟨rfl,p,o,rfl,hp,e,he⟩
      obtain ⟨v,hv,rfl⟩:=aa1 hx;have hvm:=hws v (List.mem_of_getElem? hv);have es:ws.take (i'+1)=ws.take i' ++ [v]:=by rw [List.take_succ,hv];rfl
      simp! [aX7]
      refine F2 (λh=>?_) (λh=>?_)
      · have hv0:v ≠ 0:=by simpa using h
        refine ⟨U0 hp hvm,by lia,?_,(p*v).fdiv b+e*v,?_⟩
        · have h1:=Int.fmod_nonneg_of_pos (p*v) hb0
          have h2:=Int.fmod_lt_of_pos (p*v) hb0
          lia
        · rw [es,aC0,if_neg hv0,he]
          have:=Int.fmod_add_mul_fdiv (p*v) b
          grind
      · have hv0:v=0:=by simpa using h
        refine ⟨hp,e,?_⟩;rw [es,aC0,if_pos hv0,he]
    · rintro σ H3 ⟨rfl,p,o,rfl,hp,e,he⟩
      rw [List.length_map,List.take_length] at he
      simp! [as2]
      refine ⟨.inl hb,k _ _ s2 ⟨?_,Int.gcd_dvd_left _ _,λv hv hv0=>?_⟩⟩
      · have:=Q4 (t:=p) (b:=b) (by lia)
        rw [Int.gcd_comm] at this;lia
      · have e1 : Int.gcd b p = Int.gcd b (ax5 ws) := by
          rw [he];refine Nat.dvd_antisymm ?_ ?_
          · exact Int.dvd_gcd (Int.gcd_dvd_left _ _) (Int.dvd_add (Int.gcd_dvd_right _ _) (Int.dvd_trans (Int.gcd_dvd_left _ _) ⟨e,rfl⟩))
          · refine Int.dvd_gcd (Int.gcd_dvd_left _ _) ?_
            have h1:=Int.gcd_dvd_right b (p+b*e);have h2:((Int.gcd b (p+b*e):Nat):Int) ∣ b*e:=Int.dvd_trans (Int.gcd_dvd_left _ _) ⟨e,rfl⟩;have:=Int.dvd_sub h1 h2
            rwa [Int.add_sub_cancel] at this
        rw [e1];exact bk9 (bc8 hv hv0)
def av2 (K:q0a):Sp:=λvs H Q _ => ∃ (x:V) (s:Rat) (a:Addr) (ws:List Int),vs=[x,.ref a]/\Num K H x s/\SqL K H a (ws.map V.int)/\s.den<2 ^ 6000/\s.num.natAbs<2 ^ 6000/\(∀ v ∈ ws,j0y v<2 ^ 20000)/\ws.length<=100 /\
 ∀ r xs H',c9 H H'->H r=none->H' r=some (.lst xs)->C9 H' xs (scl s ws)->Q (.ref r) H'
abbrev an5:Stmt:=top 33
theorem V2:j4 ["scale","wholes","divisor","numbers","whole","top","bottom","shared"] ["scale","wholes"] (c8 an5):=by and_intros
theorem aV9 {f fd fc:Addr} (d:Df K mg "lowered" an5 ["scale","wholes"] f) (G_divisor_for_all:Def P w K mg base CX0 2 "divisor_for_all" fd ["wholes","bottom"] (bt6 K)) (G_common_divisor:Def P w K mg base CX0 1 "common_divisor" fc ["one","other"] as2):Def P w K mg base CX0 3 "lowered" f ["scale","wholes"] (av2 K):=by
  refine d.ok (N:=["scale","wholes","divisor","numbers","whole","top","bottom","shared"]) V2 (by rintro vs H Q E ⟨a,b,c,e,h,_⟩;rw [h];rfl) (λcdv A outer s H vs Q E hr h=>?_)
  obtain ⟨x,sc,a,ws,rfl,⟨px,rfl,hx⟩,hS,hd,hn,hw,hl,k⟩:=h
  refine ⟨_, (c7 (K7 (pv 0) (show PG _ _ (U2 K 2 (w9 (t4 5) (w9 (t4 6) U3))) from by (refine F4 (n := 2) ?_ ?_ ?_ ?_; rfl; (refine j1 ?_ ?_ ?_; (exact (d5 (i := 5) V2.nd rfl (Or.inl rfl))); (refine j1 ?_ ?_ ?_; (exact (d5 (i := 6) V2.nd rfl (Or.inl rfl))); (exact C6); rfl); rfl); rfl; rfl)))
      (c7 (i9 (i:=2) V2.nd rfl (Or.inl rfl) (d2 G_divisor_for_all hr (b7 (pv 1) (b7 (pv 6) b8)) i4))
      (c7 (i9 (i:=3) V2.nd rfl (Or.inl rfl) (C5 b8))
      (c7 (P6 PassesOwn.never rfl (A5 (pv 1)) (d5 (i:=4) V2.nd rfl (Or.inl rfl)) (c7 (i9 (i:=7) V2.nd rfl (Or.inl rfl) (ag9 (as9 (pv 4) (λ_=>rfl)) (d2 G_common_divisor hr (b7 (pv 2) (b7 (pv 4) b8)) i4) (pv 6)))
      (d4 (W4 (at3 PySem.F.plainAttrs_list PySem.F.slot_list_append PySem.F.type_list_append N6 (pv 3) (b7 (m6 (b7 (i5 z9 (i5 J1 (pv 4) (pv 7)) (pv 5)) (b7 (i5 J1 (pv 6) (pv 7)) b8))) b8))))))
      (d4 (j2 (pv 3))))))),?_⟩
  rw [show start ["scale","wholes","divisor","numbers","whole","top","bottom","shared"] [.ref px,.ref a]=[some (.ref px),some (.ref a),none,none,none,none,none,none] from rfl]
  simp! [aX7]
  refine ⟨_,hx,rfl,_,_,rfl,_,_,rfl,rfl,a,ws,_,rfl,hS,hl,by have:=A4 sc;omega,by rw [Int.natAbs_natCast];exact hd,hw,λH1 dv s1 ⟨dv0,dv1,dv2⟩=>⟨by decide,λp hp=>?_⟩⟩
  refine ⟨_,rfl,a,rfl,⟨_,(s1.trans (c9.new hp _)).seq hS⟩,au1 (xs:=ws.map V.int) (λi σ H2 => ∃ o1 o2,σ=[some (.ref px),some (.ref a),some (.int dv),some (.ref p),o1,some (.int sc.num),some (.int sc.den),o2]/\c9 H1 H2/\∃ xs,H2 p=some (.lst xs)/\C9 H2 xs (scl sc (ws.take i))) ⟨_,_,rfl,c9.new hp _,[],c6,.nil⟩ (λi σ H2 _ ⟨_,_,_,s2,_⟩=>s2.seq (s1.seq hS)) ?_ ?_⟩
  · rintro i x σ H2 hx' ⟨o1,o2,rfl,s2,xs,e2,n2⟩
    have hi:=(List.getElem?_eq_some_iff.mp hx').1;obtain ⟨v,hv,rfl⟩:=aa1 hx';have dp:=A4 sc;have es:ws.take (i+1)=ws.take i ++ [v]:=by rw [List.take_succ,hv];rfl
    have hvb:=hw v (List.mem_of_getElem? hv);have hdb:(sc.den:Int).natAbs<2 ^ 6000:=by rw [Int.natAbs_natCast];exact hd
    simp! [aX7,as2]
    have fin : ∀ (A B : Int), A = (sc * (v : Rat)).num → B = ((sc * (v : Rat)).den : Int) → ∀ p1, H2 p1 = none → ∃ x, upd H2 p1 (.tup [.int A, .int B]) p = some (.lst x) ∧ x.length < sizeLine ∧ c9 H1 (upd (upd H2 p1 (.tup [.int A, .int B])) p (.lst (x ++ [.ref p1]))) ∧
        ∃ xs,upd (upd H2 p1 (.tup [.int A,.int B])) p (.lst (x ++ [.ref p1])) p=some (.lst xs)/\C9 (upd (upd H2 p1 (.tup [.int A,.int B])) p (.lst (x ++ [.ref p1]))) xs (scl sc (ws.take (i+1))):=by
      intro A B hA hB p1 hp1;have e:=c9.new hp1 (.tup [.int A,.int B]) _ _ e2;refine ⟨xs,e,?_,(s2.trans (c9.new hp1 _)).over hp _,_,c6,?_⟩
      · rw [n2.length,aZ1,List.length_take]
        exact Nat.lt_of_le_of_lt (show _<=100 by lia) (by decide)
      · have e3:scl sc (ws.take (i+1))=scl sc (ws.take i) ++ [sc*(v:Rat)]:=by rw [es];simp [scl]
        rw [e3];exact ((n2.mono (aa2.new hp1)).append (.cons (by rw [c6];unfold E8;rw [hA,hB]) .nil)).mono (aa2.lst e)
    refine F2 (λh=>?_) (λh=>?_)
    · have hv0:v ≠ 0:=by simpa using h
      obtain ⟨q1,q2⟩:=bq6 sc hv0;have gp:=Q4 (t:=(sc.den:Int)) hv0;have gl:=aS8 (b:=v) (show (sc.den:Int) ≠ 0 by lia) hdb
      have hdvb:dv.natAbs<2 ^ 6000:=by
        have:=Int.le_of_dvd ⋯ dv1
        lia
      rw [dv2 v (List.mem_of_getElem? hv) hv0];refine ⟨.inl hdvb,.inl ⟨_,SqL.of e2⟩,aa7 (by lia) (Y1 gl),U0 (aX0 (by lia) (Int.gcd_dvd_right _ _) hvb) hn,aa7 ⋯ (Y1 gl),t8,fin _ _ q1 q2⟩
    · have hv0:v=0:=by simpa using h
      subst hv0;have z1:sc*((0:Int):Rat)=0:=by rw [Rat.intCast_zero];grind
      refine ⟨.inl ⟨_,SqL.of e2⟩,aa7 (by lia) (Y1 hdb),U0 (m:=1) (by rw [Int.zero_fdiv];decide) hn,aa7 ⋯ (Y1 hdb),t8,fin _ _ ?_ ?_⟩
      · rw [z1,Int.zero_fdiv,Int.zero_mul];rfl
      · rw [z1,Int.fdiv_self ⋯];rfl
  · rintro σ H2 ⟨o1,o2,rfl,s2,xs,e2,n2⟩
    rw [List.length_map,List.take_length] at n2;exact ⟨_,rfl,k p xs H2 (s1.trans s2) (s1.free hp) e2 n2⟩
def wdR (n i:Nat) (L:List Rat):List Int:=k8 (n9 L) L ++ (z0r n).map λ(o:Nat)=>if i=o then ((n9 L:Nat):Int) else 0
def wdN (n:Nat) (M:List (List Rat)) (j:Nat):List (List Int):=(z0r j).map λi=>wdR n i ((M[i]?).getD [])
theorem ar7 (n:Nat) (M:List (List Rat)) (j:Nat):(wdN n M j).length=j:=by unfold wdN;rw [q0e,y0b]
theorem bg4 (n:Nat) (M:List (List Rat)) (j:Nat):wdN n M (j+1)=wdN n M j ++ [wdR n j ((M[j]?).getD [])]:=by unfold wdN;rw [List.range_succ,y0t];rfl
theorem bn5 {n i:Nat} {L:List Rat} (h:L.length=n):(wdR n i L).length=n+n:=by unfold wdR;rw [z0z,q0e,y0b,k8,q0e,h]
theorem bu3 {n i c:Nat} {L:List Rat} (h:L.length=n) (hc:c<n):((aZ (wdR n i L) c:Int):Rat)=((n9 L:Nat):Rat)*aQ L c:=by
 have ec:=q0d (l:=L) (i:=c) (by lia)
 have l1:(k8 (n9 L) L).length=n:=by rw [k8,q0e,h]
 have e:aZ (wdR n i L) c=aZ (k8 (n9 L) L) c:=by unfold aZ wdR;rw [j0e (by lia)]
 rw [e];generalize L[c]'(by lia)=q at ec
 have we:=ar6 (M7 L) (ac3 (q0c ec));unfold aZ aQ k8;rw [q0m,ec]
 show ((q.num*((n9 L:Nat):Int).fdiv (q.den:Int):Int):Rat)=((n9 L:Nat):Rat)*q;generalize q.num*((n9 L:Nat):Int).fdiv (q.den:Int)=z at *
 have l0:(((n9 L:Nat):Int):Rat) ≠ 0:=λy=>by
  have:((n9 L:Nat):Int)=0:=z0x.mp y;have:=M7 L
  lia
 rw [we,j0k]
 show _=(((n9 L:Nat):Int):Rat)*_;rw [g0q,u0k l0]
theorem bu4 {n i t:Nat} {L:List Rat} (h:L.length=n) (ht:t<n):aZ (wdR n i L) (n+t)=if i=t then ((n9 L:Nat):Int) else 0:=by
 have l1:(k8 (n9 L) L).length=n:=by rw [k8,q0e,h]
 unfold aZ wdR;rw [j0c (by lia),l1,m0h,q0m,y0w ht];rfl
theorem aT7 {n:Nat} {M:List (List Rat)} {i:Nat} {L:List Rat} (hi:i<n) (e:M[i]? = some L) (c:Nat):zz (wdN n M n) i c=aZ (wdR n i L) c:=by
 unfold zz wdN;rw [q0m,y0w hi,m0r,e];rfl
section
variable {M:List (List Rat)} {n W:Nat}
theorem aJ5 (ln:M.length=n) (lm:∀ L ∈ M,L.length=n/\ClN W L) {i:Nat} (hi:i<n):∃ L,M[i]? = some L/\L.length=n/\ClN W L/\∀ c,qq M i c=aQ L c:=by
 have e:=q0d (l:=M) (i:=i) (by lia)
 have:=lm _ (q0c e);exact ⟨_,e,this.1,this.2,λc=>by unfold qq;rw [e];rfl⟩
theorem bu5 (ln:M.length=n) (lm:∀ L ∈ M,L.length=n/\ClN W L):Rl n (qq M) (wdN n M n):=λi j hi hj=>by
 obtain ⟨L,e,l1,_,v⟩:=aJ5 ln lm hi;rw [aT7 hi e,bu3 l1 hj,<- v];rw [j5 (g:=λt=>(((n9 L:Nat):Rat)*qq M t j)*dij t i) λt ht=>?_]
 ·rw [aA4 (λt=>((n9 L:Nat):Rat)*qq M t j) hi]
 ·rw [aT7 hi e,bu4 l1 ht]
  unfold dij
  by_cases z:i=t
  ·rw [if_pos z,if_pos z.symm]
   show ((n9 L:Nat):Rat)*_=_
   grind
  ·rw [if_neg z,if_neg (Ne.symm z)]
   show ((0:Int):Rat)*_=_;rw [v0s];grind
theorem bn6 (ln:M.length=n) (lm:∀ L ∈ M,L.length=n/\ClN W L):(∀ L ∈ wdN n M n,L.length=n+n)/\∀ L ∈ wdN n M n,∀ v ∈ L,j0y v<2 ^ W:=by
 refine ⟨λL hL=>?_,λL hL v hv=>?_⟩
 ·obtain ⟨i,hi,rfl⟩:=z0e.mp hL
  obtain ⟨L',e,l1,_,_⟩:=aJ5 ln lm (u0m.mp hi);rw [e];exact bn5 l1
 ·obtain ⟨i,hi,rfl⟩:=z0e.mp hL
  obtain ⟨L',e,l1,cl,_⟩:=aJ5 ln lm (u0m.mp hi);rw [e] at hv;rcases z0t.mp hv with z | z
  ·exact cl.w v z
  ·obtain ⟨o,_,rfl⟩:=z0e.mp z
   split
   ·rw [q0w];exact cl.l
   ·exact v0g _
theorem bu6 (ln:M.length=n) (lm:∀ L ∈ M,L.length=n/\ClN W L):dt n (exM n (wdN n M n))=((bpN M:Nat):Rat)*dt n (qq M):=by
 rw [<- bl4 ln λL hL=>(lm L hL).1];refine K8 λr hr c hc=>?_;obtain ⟨L,e,l1,_,v⟩:=aJ5 ln lm hr;have l2:(k8 (n9 L) L).length=n:=by rw [k8,q0e,l1]
 unfold exM mZ;rw [if_pos hr,aT7 hr e]
 congr 1
 have e1:zz (aY0 M) r c=aZ (k8 (n9 L) L) c:=by unfold zz aY0;rw [q0m,e];rfl
 rw [e1];unfold aZ wdR;rw [j0e (by lia)]
end
def aU8 (K:q0a) (C:Addr):Sp:=λvs H Q E => ∃ (a:Addr) (ts:List Addr) (M:List (List Rat)) (n W:Nat),vs=[.ref a]/\SqL K H a (ts.map V.ref)/\P8 K H ts M/\M.length=n/\(∀ L ∈ M,L.length=n/\ClN W L)/\n<=13/\1<=W/\(W+4)*(n+1)<=3900 /\
 (dt n (qq M)=0->∀ H',c9 H H'->E (.ref C) none H') /\
 (dt n (qq M) ≠ 0->∀ r N H',t7 H r N H'->H r=none->N.length=n->(∀ L ∈ N,L.length=n)->(∀ i j,i<n->j<n->m8 (λt=>qq N i t*qq M t j) n=dij i j)->(∃ B V,0<B/\B<2 ^ V/\V<=(W+4)*(n+1)+1/\∀ L ∈ N,∀ q ∈ L,OvB B V q)->Q (.ref r) H')
abbrev ac6:Stmt:=top 45
theorem N3:j4 ["table","n","rows","place","row","many","divisor","wholes","bottom"] ["table"] (c8 ac6):=by and_intros
theorem aW2 {f f1 f2 f3 f4 C:Addr} (d:Df K mg "back_of" ac6 ["table"] f) (G_cleared:Def P w K mg base CX0 2 "cleared" f1 ["numbers"] (ag3 K)) (G_eliminated:Def P w K mg base CX0 2 "eliminated" f2 ["rows"] (aK4 K)) (G_fraction:Def P w K mg base CX0 2 "fraction" f3 ["top","bottom"] ai0) (G_lowered:Def P w K mg base CX0 3 "lowered" f4 ["scale","wholes"] (av2 K)) (x_NoBack:ExT K mg "NoBack" C) (n_len:mg "len" = none) (n_range:mg "range" = none) (n_enumerate:mg "enumerate" = none):Def P w K mg base (CXR P w) 4 "back_of" f ["table"] (aU8 K C):=by
  refine d.okR (N:=["table","n","rows","place","row","many","divisor","wholes","bottom"]) N3 (by rintro vs H Q E ⟨_,_,_,_,_,h,_⟩;rw [h];rfl) (λcdv A outer s H vs Q E hr h=>?_)
  obtain ⟨a,ts,M,n,W,rfl,hA,hR,ln,lm,n13,W1,hV,k0,k1⟩:=h
  refine ⟨_, (c7 (i9 (i := 1) N3.nd rfl (Or.inr rfl) (i7 k6 rfl n_len (by decide +kernel) (b7 (pv 0) b8)))
      (c7 (i9 (i:=2) N3.nd rfl (Or.inl rfl) (C5 b8))
      (c7 (PS.nox (P6 PassesOwn.never rfl (az7 rfl n_enumerate (b7 (pv 0) b8)) (show PG _ _ (U2 K 2 (w9 (t4 3) (w9 (t4 4) U3))) from by (refine F4 (n:=2) ?_ ?_ ?_ ?_;rfl;(refine j1 ?_ ?_ ?_;(exact (d5 (i:=3) N3.nd rfl (Or.inr rfl)));(refine j1 ?_ ?_ ?_;(exact (d5 (i:=4) N3.nd rfl (Or.inl rfl)));(exact C6);rfl);rfl);rfl;rfl)) (c7 (K7 (d2 G_cleared hr (b7 (pv 4) b8) i4) (show PG _ _ (U2 K 2 (w9 (t4 7) (w9 (t4 8) U3))) from by (refine F4 (n:=2) ?_ ?_ ?_ ?_;rfl;(refine j1 ?_ ?_ ?_;(exact (d5 (i:=7) N3.nd rfl (Or.inl rfl)));(refine j1 ?_ ?_ ?_;(exact (d5 (i:=8) N3.nd rfl (Or.inr rfl)));(exact C6);rfl);rfl);rfl;rfl)))
      (d4 (W4 (at3 PySem.F.plainAttrs_list PySem.F.slot_list_append PySem.F.type_list_append N6 (pv 2) (b7 (i5 aa4 (pv 7) (t9 (Nc:=["place","bottom","other"]) (caps:=[some 3,some 8,none]) rfl (G5.of (osc:=c8 ac6) (N:=["table","n","rows","place","row","many","divisor","wholes","bottom"]) (ks:=["place","bottom"]) rfl rfl rfl rfl (j7 rfl (j7 rfl k9)) (by decide +kernel)) (E4 rfl n_range (b7 (pv 1) b8)) (λC s₂ H₂ fp pins=>(d5 (i:=2) (show List.Nodup (["place","bottom","other"]:List Str) by decide +kernel) rfl (Or.inl rfl) (Or.inr rfl))) (λC s₂ H₂ fp pins=>(ag9 (l9 Q3 (pv 0) (pv 2) (j8 _)) (pv 1) b9)))) b8)))))))
      (c7 (K7 (d2 G_eliminated hr (b7 (pv 2) b8) i4) (show PG _ _ (U2 K 3 (w9 (t4 5) (w9 (t4 6) (w9 (t4 2) U3)))) from by (refine F4 (n:=3) ?_ ?_ ?_ ?_;rfl;(refine j1 ?_ ?_ ?_;(exact (d5 (i:=5) N3.nd rfl (Or.inl rfl)));(refine j1 ?_ ?_ ?_;(exact (d5 (i:=6) N3.nd rfl (Or.inr rfl)));(refine j1 ?_ ?_ ?_;(exact (d5 (i:=2) N3.nd rfl (Or.inl rfl)));(exact C6);rfl);rfl);rfl);rfl;rfl)))
      (c7 (E7 (l9 al4 (pv 5) (pv 1) (j8 _)) (d4 (aR2 x_NoBack.ox PySem.F.excBase_ValueError rfl rfl x_NoBack.m aH1 (b7 af8 b8))) o0)
      (d4 (j2 (t9 (Nc:=["n","divisor","row"]) (caps:=[some 1,some 6,none]) rfl (G5.of (osc:=c8 ac6) (N:=["table","n","rows","place","row","many","divisor","wholes","bottom"]) (ks:=["n","divisor"]) rfl rfl rfl rfl (j7 rfl (j7 rfl k9)) (by decide +kernel)) (A5 (pv 2)) (λC s₂ H₂ fp pins=>(d5 (i:=2) (show List.Nodup (["n","divisor","row"]:List Str) by decide +kernel) rfl (Or.inl rfl) (Or.inr rfl))) (λC s₂ H₂ fp pins=>(d2 G_lowered hr (b7 (d2 G_fraction hr (b7 b9 (b7 (pv 1) b8)) i4) (b7 (U8 (by exact Y9:SlR _ (as7 K)) (pv 2) (W6 (pv 0)) ac1) b8)) i4)))))))))),?_⟩
  rw [show start ["table","n","rows","place","row","many","divisor","wholes","bottom"] [.ref a]=[some (.ref a),none,none,none,none,none,none,none,none] from rfl]
  have tl:ts.length=n:=by rw [hR.length,ln]
  refine k7 (λσ H1=>H1=H/\σ=[some (.ref a),some (.int (n:Int)),none,none,none,none,none,none,none]) (λN hN=>?_) ?_
  · subst_eqs
    exact ⟨_,.inl hA,hN _ _ ⟨rfl,by rw [List.length_map,tl]⟩⟩
  rintro σ H1 ⟨rfl,rfl⟩;refine k7 (λσ H2 => ∃ l:Addr,σ=[some (.ref a),some (.int (n:Int)),some (.ref l),none,none,none,none,none,none]/\H1 l=none/\H2=upd H1 l (.lst [])) (λN hN=>?_) ?_
  · subst_eqs
    exact ⟨Nat.zero_le _,λp hp=>hN _ _ ⟨p,rfl,hp,rfl⟩⟩
  rintro σ H2 ⟨l,rfl,fl,rfl⟩;refine k7 (λσ H3 => ∃ (us:List Addr) (o3 o4 o7 o8:Option V),σ=[some (.ref a),some (.int (n:Int)),some (.ref l),o3,o4,none,none,o7,o8]/\c9 H1 H3/\H3 l=some (.lst (us.map V.ref))/\RwZ H3 us (wdN n M n)) (λN hN=>?_) ?_
  · obtain ⟨I,hI⟩:∃ I:Nat->L2.St->Hp->Prop,∀ i σ H3,I i σ H3 ↔ ∃ (us:List Addr) (o3 o4 o7 o8:Option V),σ=[some (.ref a),some (.int (n:Int)),some (.ref l),o3,o4,none,none,o7,o8]/\c9 H1 H3/\H3 l=some (.lst (us.map V.ref))/\l ∉ us/\RwZ H3 us (wdN n M i):=⟨_,λ_ _ _=>Iff.rfl⟩
    refine ⟨_,rfl,a,rfl,⟨_,(c9.new fl _).seq hA⟩,aD2 (ts.map V.ref) I ((hI _ _ _).mpr ⟨[],_,_,_,_,rfl,c9.new fl _,c6,by simp,.nil⟩) (λi σ H3 h=>?_) ?_ ?_⟩
    · obtain ⟨_,_,_,_,_,_,s3,_⟩:=(hI _ _ _).mp h
      exact s3.seq hA
    · rintro i x σ H3 q hx h hq
      obtain ⟨us,o3,o4,o7,o8,rfl,s3,e3,nl,R3⟩:=(hI _ _ _).mp h;obtain ⟨p,hp,rfl⟩:=B7 hx;obtain ⟨xs,L,e1,e2,e4⟩:=hR.get hp;have hi:i<n:=by have:=(List.getElem?_eq_some_iff.mp e1).1;lia
      obtain ⟨lL,cL⟩:=lm L (List.mem_of_getElem? e1);obtain ⟨H4,y4,X4,g4⟩:=M6 (.tup [.int i,.ref p]) hq;rw [<- y4];have S4:=s3.trans X4
      simp! [ag3]
      refine ⟨_,SqT.of g4,rfl,_,_,rfl,_,_,rfl,rfl,p,rfl,_,SqL.of (S4 _ _ e2),L,e4.mono S4.tups,⟨W,cL,?_⟩,by lia,λr l1 H5 s5 f1 er el1=>?_⟩
      · have:=Nat.mul_le_mul_left (W+4) (show 1<=n+1 by simp)
        lia
      refine ⟨_,SqT.of er,rfl,_,_,rfl,_,_,rfl,rfl,.inl ⟨_,SqL.of ((X4.trans s5) _ _ e3)⟩,by simp,by lia,λD hD=>?_⟩
      rw [Int.toNat_natCast];obtain ⟨Pv,hPv⟩:∃ Pv:Nat->L2.St->Hp->Prop,∀ j σ H6,Pv j σ H6 ↔ ∃ (o:Option V),σ=[some (.int (i:Int)),some (.int ((n9 L:Nat):Int)),o]/\c9 H5 H6/\H6 D=some (.lst (((List.range j).map λ(o:Nat)=>if i=o then ((n9 L:Nat):Int) else 0).map V.int)):=⟨_,λ_ _ _=>Iff.rfl⟩;refine O0 Pv ((hPv _ _ _).mpr ⟨_,rfl,c9.new hD _,c6⟩) ?_ ?_
      · rintro j σ H6 hj h
        obtain ⟨o,rfl,s6,e6⟩:=(hPv _ _ _).mp h
        have add:∀ z:Int,(z=if i=j then ((n9 L:Nat):Int) else 0)->t6 D n Pv j [some (.int (i:Int)),some (.int ((n9 L:Nat):Int)),some (.int (0+(j:Int)))] (.int z) H6:=λz hz=>by
          refine t6.mk hj e6 (w5 (by rw [List.length_map,List.length_map,List.length_range];lia)) ((hPv _ _ _).mpr ⟨_,rfl,s6.over hD _,?_⟩)
          rw [c6,List.range_succ,List.map_append,List.map_append,hz];rfl
        subst_eqs
        refine ⟨rfl,F2 (λh1=>add _ ?_) (λh1=>add _ ?_)⟩
        · rw [if_pos (by lia)]
        · rw [if_neg (by lia)]
      · intro σ H6 h
        obtain ⟨o,rfl,s6,e6⟩:=(hPv _ _ _).mp h;have lw:(k8 (n9 L) L).length=n:=by rw [k8,List.length_map,lL]
        refine ⟨l1,rfl,D,rfl,_,s6 _ _ el1,_,e6,?_,λq2 h2=>?_⟩
        · rw [List.length_map,List.length_map,List.length_map,List.length_range,lw]
          exact Nat.le_trans (show n+n<=100 by lia) (by decide)
        rw [<- List.map_append,show k8 (n9 L) L ++ ((List.range n).map λ(o:Nat)=>if i=o then ((n9 L:Nat):Int) else 0)=wdR n i L from rfl];obtain ⟨H7,y7,X7,g7⟩:=M6 (.lst ((wdR n i L).map V.int)) h2;rw [<- y7];have S47:=(X4.trans s5).trans (s6.trans X7);have e7:=S47 _ _ e3;have lq:l ≠ q2:=j3 ((X4.trans (s5.trans s6)) _ _ e3) h2
        have nn:l ∉ us ++ [q2]:=λz=>by
          rcases List.mem_append.mp z with z | z
          · exact nl z
          · exact lq (List.mem_singleton.mp z)
        refine ⟨_,e7,w5 (by rw [List.length_map,R3.length,ar7];lia),(hI _ _ _).mpr ⟨us ++ [q2],_,_,_,_,rfl,(s3.trans S47).over fl _,by rw [c6,List.map_append];rfl,nn,?_⟩⟩
        rw [bg4,e1];exact RwZ.over nn ((R3.same S47).append (.cons g7 .nil))
    · rintro σ H3 h
      obtain ⟨us,o3,o4,o7,o8,rfl,s3,e3,nl,R3⟩:=(hI _ _ _).mp h;rw [List.length_map,tl] at R3;exact hN _ _ ⟨us,o3,o4,o7,o8,rfl,s3,e3,R3⟩
  rintro σ H3 ⟨us,o3,o4,o7,o8,rfl,s3,e3,R3⟩;obtain ⟨rw1,rw2⟩:=bn6 ln lm;have bp:=bb0 M
  have b0:((bpN M:Nat):Rat) ≠ 0:=λy=>by
    have:((bpN M:Nat):Int)=0:=Rat.intCast_inj.mp y
    lia
  simp! [aK4]
  refine ⟨us,SqL.of e3,wdN n M n,R3,n+n,rw1,by rw [ar7];simp,by lia,W,rw2,by rw [ar7];exact n13,W1,by rw [ar7];lia,λr mn dv b vs M' H4 s4 e4 hB R4 alt=>?_⟩
  rw [ar7,bu6 ln lm] at alt;refine ⟨_,SqT.of e4,rfl,_,_,rfl,_,_,rfl,_,_,rfl,rfl,_,rfl,?_⟩;rcases alt with ⟨rfl,ed,d0,db,F⟩ | ⟨em,ed⟩
  · rw [if_neg (by simp)]
    have dn:dt mn (qq M) ≠ 0:=λz=>by
      rw [z] at ed;exact d0 (Rat.intCast_inj.mp (by rw [ed,Rat.intCast_zero];grind))
    have k1:=k1 dn;obtain ⟨V0,hV0⟩:∃ V0,V0=(W+4)*(mn+1):=⟨_,rfl⟩;rw [<- hV0] at db hV
    have lt:∀ z:Int,z.natAbs<=2 ^ V0->z.natAbs<2 ^ (V0+1):=λz h=>by
      have:=Nat.two_pow_pos V0;rw [Nat.pow_succ];lia
    have d6:dv.natAbs<2 ^ 6000:=Nat.lt_of_lt_of_le (lt _ db) (i6 (by lia))
    obtain ⟨sc,hsc⟩:∃ sc,sc=Rat.divInt 1 dv:=⟨_,rfl⟩;have dq:((dv:Int):Rat) ≠ 0:=λz=>d0 (Rat.intCast_inj.mp (by rw [z,Rat.intCast_zero]))
    have scd:sc*((dv:Int):Rat)=1:=by
      rw [hsc,Rat.divInt_eq_div];exact Rat.div_mul_cancel dq
    obtain ⟨sn,sd⟩:=N9 (t:=1) d0;rw [<- hsc] at sn sd;obtain ⟨NN,hNN⟩:∃ NN,NN=(List.range mn).map λi=>scl sc (((M'[i]?).getD []).drop mn):=⟨_,rfl⟩;have lNN:NN.length=mn:=by rw [hNN,List.length_map,List.length_range]
    have gN:∀ i L',i<mn->M'[i]? = some L'->NN[i]? = some (scl sc (L'.drop mn)):=λi L' hi e=>by rw [hNN,List.getElem?_map,List.getElem?_range hi,Option.map_some,e];rfl
    have mAt:∀ i,i<mn->∃ L',M'[i]? = some L'/\L'.length=mn+mn:=λi hi=>by
      have e:=List.getElem?_eq_getElem (l:=M') (i:=i) (by rw [F.len];exact hi)
      exact ⟨_,e,F.row _ (List.mem_of_getElem? e)⟩
    have lv:vs.length=mn:=by rw [R4.length,F.len]
    refine ⟨b,rfl,⟨_,hB⟩,λD hD=>?_⟩;obtain ⟨Pv,hPv⟩:∃ Pv:Nat->L2.St->Hp->Prop,∀ j σ H5,Pv j σ H5 ↔ ∃ (o:Option V),σ=[some (.int (mn:Int)),some (.int dv),o]/\t7 H4 D (NN.take j) H5:=⟨_,λ_ _ _=>Iff.rfl⟩;refine B9 (vs.map V.ref) Pv ((hPv _ _ _).mpr ⟨_,rfl,t7.start hD⟩) (λj σ H5 _ h=>?_) ?_ ?_
    · obtain ⟨_,_,T⟩:=(hPv _ _ _).mp h
      exact T.same.seq hB
    · rintro j x σ H5 hx h
      obtain ⟨o,rfl,T⟩:=(hPv _ _ _).mp h;have hj:j<mn:=by have:=(List.getElem?_eq_some_iff.mp hx).1;rw [List.length_map,lv] at this;exact this
      obtain ⟨pt,hpt,rfl⟩:=B7 hx;obtain ⟨L',eL,ep⟩:=R4.get hpt;have lL:=F.row L' (List.mem_of_getElem? eL)
      simp! [av2,ai0]
      refine ⟨d6,d0,λr6 H6 s6 e6=>?_⟩;refine ⟨_,SqL.of ((T.same.trans s6) _ _ ep),λq7 h7=>?_⟩;rw [aE3 _ (by rw [List.length_map];lia),<- List.map_drop]
      obtain ⟨H7,y7,X7,g7⟩:=M6 (.lst ((L'.drop mn).map V.int)) h7;rw [<- y7]
      have bz:∀ v ∈ L'.drop mn,Int.natAbs v<2 ^ (V0+1):=λv hv=>by
        obtain ⟨y,hy,ey⟩:=List.mem_iff_getElem.mp (List.mem_of_mem_drop hv);have:zz M' j y=v:=by unfold zz aZ;rw [eL];show (L'[y]?).getD 0=v;rw [List.getElem?_eq_getElem hy,ey];rfl
        rw [<- this];refine lt _ ?_;rw [hV0];exact F.bit j y hj (by lia)
      refine ⟨sc,⟨r6,rfl,SqT.of (by rw [hsc];exact X7 _ _ e6)⟩,_,SqL.of g7,Nat.lt_of_le_of_lt sd d6,Nat.lt_of_le_of_lt sn (show 1<2 ^ 6000 from Nat.lt_of_lt_of_le (show 1<2 ^ 1 by decide) (i6 (by decide))),λv hv=>Nat.lt_of_lt_of_le (bz v hv) (i6 (by lia)),by rw [List.length_drop];lia,λr8 xs8 H8 s8 f8 e8 n8=>?_⟩
      have S7:=s6.trans X7;obtain ⟨zs,eD,zl,T'⟩:=T.add hD (S7.free f8) ⟨S7.trans s8,xs8,e8,n8⟩;refine t6.mk (by rw [List.length_map,lv];exact hj) eD (w5 (by rw [zl,List.length_take];lia)) ((hPv _ _ _).mpr ⟨_,rfl,?_⟩)
      rw [d7 (gN j L' hj eL)];exact T'
    · intro σ H5 h
      obtain ⟨o,rfl,T⟩:=(hPv _ _ _).mp h;rw [t5 (by rw [List.length_map,lv,lNN];exact Nat.le_refl _)] at T
      have qN:∀ i y,i<mn->y<mn->qq NN i y=sc*((zz M' i (mn+y):Int):Rat):=λi y hi hy=>by
        obtain ⟨L',eL,lL⟩:=mAt i hi;have e1:qq NN i y=aQ (scl sc (L'.drop mn)) y:=by unfold qq;rw [gN i L' hi eL];rfl
        rw [e1,bz0]
        show sc*((aZ (L'.drop mn) y:Int):Rat)=_
        have e2:aZ (L'.drop mn) y=zz M' i (mn+y):=by
          unfold zz aZ;rw [eL,List.getElem?_drop];rfl
        rw [e2]
      have s34:=s3.trans s4;obtain ⟨s5,vs5,e5,n5,nd5,R5⟩:=T;refine k1 D NN H5 ⟨s34.trans s5,vs5,e5,λt ht=>⟨s34.free (n5 t ht).1,(n5 t ht).2⟩,nd5,R5⟩ (s34.free hD) lNN (λL hL=>?_) (λi j hi hj=>?_) ⟨dv.natAbs,V0+1,by lia,lt _ db,⋯,λL hL q hq=>?_⟩
      · rw [hNN] at hL
        obtain ⟨i,hi,rfl⟩:=List.mem_map.mp hL;obtain ⟨L',eL,lL⟩:=mAt i (List.mem_range.mp hi);rw [eL,aZ1]
        show (L'.drop mn).length=mn;rw [List.length_drop];lia
      · have rl:=F.rel (qq M) rfl (bu5 ln lm) i j hi hj
        rw [j5 (g:=λt=>sc*(((zz M' i (mn+t):Int):Rat)*qq M t j)) λt ht=>by rw [qN i t hi ht];grind,<- C7,<- rl,F.dia i j hi hj]
        unfold dij
        by_cases z:i=j
        · rw [if_pos z,if_pos z];exact scd
        · rw [if_neg z,if_neg z,Rat.intCast_zero];grind
      · rw [hNN] at hL
        obtain ⟨i,hi,rfl⟩:=List.mem_map.mp hL;have hi:=List.mem_range.mp hi;obtain ⟨L',eL,lL⟩:=mAt i hi;rw [eL,Option.getD_some] at hq;obtain ⟨z,hz,rfl⟩:=List.mem_map.mp hq;obtain ⟨y,hy,ey⟩:=List.mem_iff_getElem.mp (List.mem_of_mem_drop hz);have ez:zz M' i y=z:=by unfold zz aZ;rw [eL];show (L'[y]?).getD 0=z;rw [List.getElem?_eq_getElem hy,ey];rfl
        have bz:z.natAbs<=2 ^ V0:=by
          rw [<- ez,hV0];exact F.bit i y hi ⋯
        have n0:((dv.natAbs:Nat):Int) ≠ 0:=by lia
        have eq:sc*((z:Int):Rat)=Rat.divInt z dv:=by
          rw [hsc,Rat.divInt_eq_div,Rat.divInt_eq_div,Rat.div_def,Rat.div_def]
          show (1:Rat)*_*_=_
          grind
        rcases Int.natAbs_eq dv with y | y
        · exact ⟨z,by rw [eq,<- y],lt _ bz⟩
        · refine ⟨-z,?_,lt _ (by rw [Int.natAbs_neg];exact bz)⟩
          have e3:((dv.natAbs:Nat):Int)=-dv:=by lia
          rw [eq,e3];exact (Rat.divInt_eq_divInt_iff d0 (by lia)).mpr (by rw [Int.neg_mul,Int.mul_neg])
  · rw [if_pos (by lia)]
    refine ⟨by decide,k0 ?_ H4 (s3.trans s4)⟩
    rcases Rat.mul_eq_zero.mp ed with z | z
    · exact absurd z b0
    · exact z
theorem B8.tf {B W:Nat} {M:List (List Rat)} (h:B8 B W M):F6 M.length M (qq M):=F6.of rfl λL hL=>(h.row L hL).1
theorem B8.sum {B W:Nat} {M N:List (List Rat)} (h:B8 B W M) (k:B8 B W N) (e:M.length=N.length):B8 B (W+1) (ag1 M N):=by
 have f:=(h.tf.sum (by rw [e];exact k.tf))
 have fl:=f.len;have B0:=h.B0;refine ⟨by rw [fl];exact h.n7,h.B0,q0b h.BW (i6 (by simp)),λL hL=>⟨by rw [f.row L hL,fl],λq hq=>?_⟩⟩
 obtain ⟨i,hi⟩:=j0b.mp hL;unfold ag1 at hi;rw [y0p] at hi
 cases ea:M[i]? with
 | none=>rw [ea] at hi;cases hi
 | some a =>
  cases eb:N[i]? with
  | none=>rw [ea,eb] at hi;cases hi
  | some b =>
   rw [ea,eb] at hi;obtain rfl:=Option.some.inj hi;obtain ⟨j,hj⟩:=j0b.mp hq;rw [y0p] at hj
   cases ec:a[j]? with
   | none=>rw [ec] at hj;cases hj
   | some c =>
    cases ed:b[j]? with
    | none=>rw [ec,ed] at hj;cases hj
    | some d =>
     rw [ec,ed] at hj;obtain rfl:=Option.some.inj hj;exact OvB.add B0 ((h.row a (q0c ea)).2 c (q0c ec)) ((k.row b (q0c eb)).2 d (q0c ed))
theorem B8.unit {B W n:Nat} (h0:0<B) (hW:B<2 ^ W) (n7:n<=7):B8 B W (P1 n):=by
 have f:=F6.unit n;refine ⟨by rw [f.len];exact n7,h0,hW,λL hL=>⟨by rw [f.row L hL,f.len],λq hq=>?_⟩⟩
 obtain ⟨i,_,rfl⟩:=z0e.mp hL;obtain ⟨j,_,rfl⟩:=z0e.mp hq
 by_cases z:i=j
 ·rw [if_pos z]
  have nb:((B:Int):Rat) ≠ 0:=λz=>by
   have:=z0x.mp (show ((B:Int):Rat)=((0:Int):Rat) from z)
   lia
  exact ⟨(B:Int),by rw [j0k,v0m,j0g _ nb],by rw [q0w];exact hW⟩
 ·rw [if_neg z];exact OvB.zero _ _
theorem B8.prod {B W C V':Nat} {M N:List (List Rat)} (h:B8 B W M) (k:B8 C V' N) (e:M.length=N.length):B8 (B*C) (W+V'+7) (al3 M N):=by
 have f:=(h.tf.prod (by rw [e];exact k.tf))
 have fl:=f.len;refine ⟨by rw [fl];exact h.n7,j0a h.B0 k.B0,?_,λL hL=>⟨by rw [f.row L hL,fl],λq hq=>?_⟩⟩
 ·rw [z0f,z0f]
  exact q0b (z0g h.BW k.BW) (y0v _ (by decide))
 ·obtain ⟨L0,h0,rfl⟩:=z0e.mp hL
  obtain ⟨Cc,hC,rfl⟩:=z0e.mp hq;obtain ⟨l,r⟩:=h.row L0 h0;have n7:=h.n7;refine OvB.mono (V:=W+V'+L0.length) (an7 h.B0 k.B0 r λx hx=>?_) (by lia)
  obtain ⟨j,_,rfl⟩:=z0e.mp hC;obtain ⟨L1,h1,rfl⟩:=z0e.mp hx
  cases ec:L1[j]? with
  | none=>exact OvB.zero _ _
  | some q=>exact (k.row L1 h1).2 q (q0c ec)
theorem F6.neg {n:Nat} {A:List (List Rat)} {f:Mt} (h:F6 n A f):F6 n (az3 A) (λi j=>0-f i j):=h.map λq=>0-q
def bm8 (n:Nat) (s:Rat) (B W:Nat) (M T:List (List Rat)):Prop:=F6 n T (qq T)/\ad6 n s (qq M) (qq T)/\∃ C V',B8 C V' T/\V'<=W+(W+5)*(n+1)+9
def aK0 (K:q0a) (C:Addr) (s:Rat):Sp:=λvs H Q E => ∃ (a:Addr) (ts:List Addr) (M:List (List Rat)) (n B W:Nat),vs=[.ref a]/\H a=some (.lst (ts.map V.ref))/\Rws H ts M/\M.length=n/\1<=n/\B8 B W M/\(W+5)*(n+1)<=3900 /\
 (dt n (lin 1 s (qq M))=0->∀ H',c9 H H'->E (.ref C) none H') /\
 (dt n (lin 1 s (qq M)) ≠ 0->∀ T,bm8 n s B W M T->O9 H Q T)
abbrev an4:Stmt:=top 49
theorem aA9:j4 ["table","one"] ["table"] (c8 an4):=by and_intros
theorem aV7 {f f1 f2 f3 f4 f5 C D:Addr} (d:Df K mg "turn_of" an4 ["table"] f) (G_unit:Def P w K mg base CX0 1 "unit" f1 ["n"] (aU5 K)) (G_table_sum:Def P w K mg base (CXR P w) 4 "table_sum" f2 ["table","other"] (aK1 K D)) (G_opposite:Def P w K mg base CX0 4 "opposite" f3 ["table"] (bh9 K)) (G_back_of:Def P w K mg base (CXR P w) 4 "back_of" f4 ["table"] (aU8 K C)) (G_table_times:Def P w K mg base (CXR P w) 4 "table_times" f5 ["table","other"] (av0 K D)) (n_len:mg "len" = none):Def P w K mg base (CXR P w) 5 "turn_of" f ["table"] (aK0 K C (-1)):=by
  refine d.okR (N:=["table","one"]) aA9 (by rintro vs H Q E ⟨_,_,_,_,_,_,h,_⟩;rw [h];rfl) (λcdv A outer s H vs Q E hr h=>?_)
  obtain ⟨a,ts,M,n,B,W,rfl,ha,hR,ln,n1,hM,hW,k0,k1⟩:=h
  refine ⟨_, (c7 (i9 (i := 1) aA9.nd rfl (Or.inl rfl) (d2 G_unit hr (b7 (i7 k6 rfl n_len (by decide +kernel) (b7 (pv 0) b8)) b8) i4))
      (d4 (j2 (d2 G_table_times hr (b7 (d2 G_table_sum hr (b7 (pv 1) (b7 (pv 0) b8)) (L8 λ_ _ h=>h)) (b7 (d2 G_back_of hr (b7 (d2 G_table_sum hr (b7 (pv 1) (b7 (d2 G_opposite hr (b7 (pv 0) b8) i4) b8)) (L8 λ_ _ h=>h)) b8) (L8 λ_ _ h=>h)) b8)) (L8 λ_ _ h=>h))))),?_⟩
  rw [show start ["table","one"] [.ref a]=[some (.ref a),none] from rfl]
  subst_eqs
  have hRl:=hR.length;have n7:=hM.n7;have hb:(W+5)*2<=(W+5)*(n+1):=Nat.mul_le_mul_left _ (by lia)
  have fS:F6 n (ag1 (P1 n) (az3 M)) (lin 1 (-1) (qq M)):=((F6.unit n).sum (F6.neg (by rw [<- ln];exact hM.tf))).to λi j _ _=>by unfold lin;grind
  have fA:F6 n (ag1 (P1 n) M) (lin (-(-1)) 1 (qq M)):=((F6.unit n).sum (by rw [<- ln];exact hM.tf)).to λi j _ _=>by unfold lin;grind
  have lu:(P1 n).length=n:=(F6.unit n).len;have oU:=B8.unit (n:=n) hM.B0 hM.BW (by lia)
  refine ⟨_,.inl (SqL.of ha),n,by rw [List.length_map,hRl,ln],by lia,λu us H1 s1 fu fus nd eu ru=>?_⟩
  refine ⟨u,a,us,ts,P1 n,M,B,W,B,W,rfl,eu,ru,s1 _ _ ha,(hR.same s1).toC,oU,hM,by lia,λz=>absurd (lu.trans ln.symm) z,λ_ r1 t1 H2 s2 f2 g2 nd2 e2 R2=>?_⟩
  refine ⟨a,ts,M,B,W,rfl,s2 _ _ (s1 _ _ ha),(hR.same (s1.trans s2)).toC,hM,by lia,λr2 t2 H3 s3 f3 g3 nd3 e3 R3=>?_⟩
  refine ⟨u,r2,us,t2,P1 n,az3 M,B,W,B,W,rfl,s3 _ _ (s2 _ _ eu),ru.same (s2.trans s3),e3,R3.toC,oU,hM.neg,⋯,λz=>absurd (by rw [lu,af1,ln]) z,λ_ r3 t3 H4 s4 f4 g4 nd4 e4 R4=>?_⟩
  have oS:=oU.sum hM.neg (by rw [lu,af1,ln])
  have oA:=oU.sum hM (by rw [lu,ln])
  refine ⟨r3,t3,_,n,W+1,rfl,SqL.of e4,R4.toC,fS.len,λL hL=>⟨fS.row L hL,(oS.cl L hL).2⟩,by lia,by simp,by rw [show W+1+4=W+5 from rfl];omega,λd H' s'=>?_,λd r N H5 T5 hr lN rN inv ob=>?_⟩
  · rw [fS.det] at d
    exact k0 d H' (s1.trans (s2.trans (s3.trans (s4.trans s'))))
  rw [fS.det] at d;obtain ⟨C',V',c0,cV,hV,oN⟩:=ob;obtain ⟨s5,ts5,e5,_,_,R5⟩:=T5;have oN':B8 C' V' N:=⟨by lia,c0,cV,λL hL=>⟨by rw [rN L hL,lN],oN L hL⟩⟩
  refine ⟨r1,r,t1,ts5,_,N,B,W+1,C',V',rfl,s5 _ _ (s4 _ _ (s3 _ _ e2)),((R2.same (s3.trans s4)).same s5).toC,e5,R5,oA,oN',by rw [show W+1+4=W+5 from rfl] at hV;lia,λz=>absurd (by rw [fA.len,lN]) z,λ_=>?_⟩
  have fN:F6 n N (qq N):=F6.of lN rN;have fT:=fA.prod fN;have oT:=oA.prod oN' (by rw [fA.len,lN])
  refine (k1 d _ ⟨F6.of fT.len fT.row,aG5 (N:=qq N) (λi j hi hj=>?_) λi j hi hj=>fT.at' i j hi hj,_,_,oT,?_⟩).from (s1.trans (s2.trans (s3.trans (s4.trans s5))))
  · rw [<- inv i j hi hj]
    exact ah3 (λ_ _=>rfl) λt ht=>(fS.at' t j ht hj).symm
  · rw [show W+1+4=W+5 from rfl] at hV;lia
abbrev ae0:Stmt:=top 50
theorem as3:j4 ["table","one"] ["table"] (c8 ae0):=by and_intros
theorem aN2 {f f1 f2 f3 f4 f5 C D:Addr} (d:Df K mg "turn_back" ae0 ["table"] f) (G_unit:Def P w K mg base CX0 1 "unit" f1 ["n"] (aU5 K)) (G_table_sum:Def P w K mg base (CXR P w) 4 "table_sum" f2 ["table","other"] (aK1 K D)) (G_opposite:Def P w K mg base CX0 4 "opposite" f3 ["table"] (bh9 K)) (G_back_of:Def P w K mg base (CXR P w) 4 "back_of" f4 ["table"] (aU8 K C)) (G_table_times:Def P w K mg base (CXR P w) 4 "table_times" f5 ["table","other"] (av0 K D)) (n_len:mg "len" = none):Def P w K mg base (CXR P w) 5 "turn_back" f ["table"] (aK0 K C 1):=by
  refine d.okR (N:=["table","one"]) as3 (by rintro vs H Q E ⟨_,_,_,_,_,_,h,_⟩;rw [h];rfl) (λcdv A outer s H vs Q E hr h=>?_)
  obtain ⟨a,ts,M,n,B,W,rfl,ha,hR,ln,n1,hM,hW,k0,k1⟩:=h
  refine ⟨_, (c7 (i9 (i := 1) as3.nd rfl (Or.inl rfl) (d2 G_unit hr (b7 (i7 k6 rfl n_len (by decide +kernel) (b7 (pv 0) b8)) b8) i4))
      (d4 (j2 (d2 G_table_times hr (b7 (d2 G_table_sum hr (b7 (pv 0) (b7 (d2 G_opposite hr (b7 (pv 1) b8) i4) b8)) (L8 λ_ _ h=>h)) (b7 (d2 G_back_of hr (b7 (d2 G_table_sum hr (b7 (pv 0) (b7 (pv 1) b8)) (L8 λ_ _ h=>h)) b8) (L8 λ_ _ h=>h)) b8)) (L8 λ_ _ h=>h))))),?_⟩
  rw [show start ["table","one"] [.ref a]=[some (.ref a),none] from rfl]
  subst_eqs
  have hRl:=hR.length;have n7:=hM.n7;have hb:(W+5)*2<=(W+5)*(n+1):=Nat.mul_le_mul_left _ ⋯;have fM:F6 n M (qq M):=by rw [<- ln];exact hM.tf
  have fS:F6 n (ag1 M (P1 n)) (lin 1 1 (qq M)):=(fM.sum (F6.unit n)).to λi j _ _=>by unfold lin;grind
  have fA:F6 n (ag1 M (az3 (P1 n))) (lin (-1) 1 (qq M)):=(fM.sum (F6.unit n).neg).to λi j _ _=>by unfold lin;grind
  have lu:(P1 n).length=n:=(F6.unit n).len;have oU:=B8.unit (n:=n) hM.B0 hM.BW ⋯;refine ⟨_,.inl (SqL.of ha),n,by rw [List.length_map,hRl,ln],⋯,λu us H1 s1 fu fus nd eu ru=>?_⟩
  refine ⟨u,us,P1 n,B,W,rfl,eu,ru,oU,⋯,λr1 t1 H2 s2 f2 g2 nd2 e2 R2=>?_⟩;refine ⟨a,r1,ts,t1,M,az3 (P1 n),B,W,B,W,rfl,s2 _ _ (s1 _ _ ha),(hR.same (s1.trans s2)).toC,e2,R2.toC,hM,oU.neg,⋯,λz=>absurd (by rw [af1,lu,ln]) z,λ_ r2 t2 H3 s3 f3 g3 nd3 e3 R3=>?_⟩
  refine ⟨a,u,ts,us,M,P1 n,B,W,B,W,rfl,s3 _ _ (s2 _ _ (s1 _ _ ha)),(hR.same (s1.trans (s2.trans s3))).toC,s3 _ _ (s2 _ _ eu),ru.same (s2.trans s3),hM,oU,⋯,λz=>absurd (by rw [lu,ln]) z,λ_ r3 t3 H4 s4 f4 g4 nd4 e4 R4=>?_⟩
  have oS:=hM.sum oU (by rw [lu,ln])
  have oA:=hM.sum oU.neg (by rw [af1,lu,ln])
  refine ⟨r3,t3,_,n,W+1,rfl,SqL.of e4,R4.toC,fS.len,λL hL=>⟨fS.row L hL,(oS.cl L hL).2⟩,by lia,⋯,by rw [show W+1+4=W+5 from rfl];omega,λd H' s'=>?_,λd r N H5 T5 hr lN rN inv ob=>?_⟩
  · rw [fS.det] at d
    exact k0 d H' (s1.trans (s2.trans (s3.trans (s4.trans s'))))
  rw [fS.det] at d;obtain ⟨C',V',c0,cV,hV,oN⟩:=ob;obtain ⟨s5,ts5,e5,_,_,R5⟩:=T5;have oN':B8 C' V' N:=⟨by lia,c0,cV,λL hL=>⟨by rw [rN L hL,lN],oN L hL⟩⟩
  refine ⟨r2,r,t2,ts5,_,N,B,W+1,C',V',rfl,s5 _ _ (s4 _ _ e3),((R3.same s4).same s5).toC,e5,R5,oA,oN',by rw [show W+1+4=W+5 from rfl] at hV;omega,λz=>absurd (by rw [fA.len,lN]) z,λ_=>?_⟩
  have fN:F6 n N (qq N):=F6.of lN rN;have fT:=fA.prod fN;have oT:=oA.prod oN' (by rw [fA.len,lN])
  refine (k1 d _ ⟨F6.of fT.len fT.row,aG5 (N:=qq N) (λi j hi hj=>?_) λi j hi hj=>fT.at' i j hi hj,_,_,oT,?_⟩).from (s1.trans (s2.trans (s3.trans (s4.trans s5))))
  · rw [<- inv i j hi hj]
    exact ah3 (λ_ _=>rfl) λt ht=>(fS.at' t j ht hj).symm
  · rw [show W+1+4=W+5 from rfl] at hV;omega
def aO3 (c:Rat) (M:List (List Rat)):List (List Rat):=M.map λL=>L.map λq=>c*q
theorem ao0 (c:Rat) (M:List (List Rat)):(aO3 c M).length=M.length:=by unfold aO3;rw [q0e]
theorem bd2 {B W:Nat} {q c:Rat} (hc:c=1 \/ c=-1) (h:OvB B W q):OvB B W (c*q):=by
 rcases hc with rfl | rfl
 ·rw [m0s];exact h
 ·rw [show (-1:Rat)*q=-q by grind];exact h.neg
theorem B8.often {B W:Nat} {M:List (List Rat)} {c:Rat} (h:B8 B W M) (hc:c=1 \/ c=-1):B8 B W (aO3 c M):=⟨by rw [ao0];exact h.n7,h.B0,h.BW,λL hL=>by
 obtain ⟨L0,h0,rfl⟩:=z0e.mp hL;obtain ⟨l,k⟩:=h.row L0 h0;refine ⟨by rw [q0e,ao0,l],λq hq=>?_⟩
 obtain ⟨x,hx,rfl⟩:=z0e.mp hq;exact bd2 hc (k x hx)⟩
theorem F6.often {n:Nat} {A:List (List Rat)} {f:Mt} (c:Rat) (h:F6 n A f):F6 n (aO3 c A) (λi j=>c*f i j):=h.map λq=>c*q
def aA6:Sp:=λvs H Q _ => ∃ (a:Addr) (ts:List Addr) (M:List (List Rat)),vs=[.ref a]/\H a=some (.lst (ts.map V.ref))/\Rws H ts M/\M.length<=7/\O9 H Q M
abbrev U6:Stmt:=top 81
theorem aB1:j4 ["_law_table"] ["_law_table"] (c8 U6):=by and_intros
theorem aC3 {f:Addr} (d:Df K mg "_law_copied" U6 ["_law_table"] f) (n_list:mg "list" = none):Def P w K mg base CX0 1 "_law_copied" f ["_law_table"] aA6:=by
 refine d.ok (N:=["_law_table"]) aB1 (by rintro vs H Q E ⟨_,_,_,h,_⟩;rw [h];rfl) (λcdv A outer s H vs Q E hr h=>?_)
 obtain ⟨a,ts,M,rfl,ha,hR,m7,k1⟩:=h;refine ⟨_,(d4 (j2 (t9 (Nc:=["_law_row"]) (caps:=[none]) rfl (G5.of (osc:=c8 U6) (N:=["_law_table"]) (ks:=[]) rfl rfl rfl rfl k9 (by decide +kernel)) (A5 (pv 0)) (λC s₂ H₂ fp pins=>(d5 (i:=0) (show z0q (["_law_row"]:List Str) by decide +kernel) rfl (q0x rfl) (z0w rfl))) (λC s₂ H₂ fp pins=>(C8 (by exact M9:aa9 _ (.type "list") (aV1 K)) rfl n_list (by decide +kernel) (b7 (pv 0) b8)))))),?_⟩
 rw [show start ["_law_table"] [.ref a]=[some (.ref a)] from rfl]
 subst_eqs
 have hRl:=hR.length;refine ⟨⟨_,SqL.of ha⟩,λD hD=>?_⟩;refine B9 (ts.map V.ref) (λi σ H2 => ∃ o1,σ=[o1]/\t7 H D (M.take i) H2) ⟨_,rfl,t7.start hD⟩ (λi σ H2 _ ⟨_,_,T⟩=>SqL.of (T.same _ _ ha)) ?_ ?_
 ·rintro i x σ H2 hx ⟨o1,rfl,T⟩
  have hi:=(q0g.mp hx).1;obtain ⟨t,ht,rfl⟩:=B7 hx;obtain ⟨xs,L,hL,et,nt⟩:=hR.get ht
  subst_eqs
  refine ⟨xs,.inl (SqL.of (T.same _ _ et)),λl fl=>?_⟩;obtain ⟨zs,eD,yl,T'⟩:=T.add hD fl ⟨c9.new fl _,xs,c6,nt.mono (T.same.trans (c9.new fl _)).tups⟩;refine t6.mk hi eD (w5 (by rw [yl,q0v];lia)) ⟨_,rfl,?_⟩
  rw [d7 hL];exact T'
 ·rintro σ H2 ⟨o1,rfl,T⟩
  rw [t5 (by rw [q0e];lia)] at T
  exact T.res k1 hD
def aK2 (K:q0a):Sp:=λvs H Q _ => ∃ (x:V) (c:Rat) (a:Addr) (ts:List Addr) (M:List (List Rat)) (B W:Nat),vs=[x,.ref a]/\Num K H x c/\(c=1 \/ c=-1)/\H a=some (.lst (ts.map V.ref))/\P8 K H ts M/\B8 B W M/\W<=5990/\O9 H Q (aO3 c M)
abbrev K6:Stmt:=top 74
theorem ao6:j4 ["_law_number_here","_law_table"] ["_law_number_here","_law_table"] (c8 K6):=by and_intros
theorem ao8 {f f1:Addr} (d:Df K mg "_law_table_often" K6 ["_law_number_here","_law_table"] f) (G__law_times:Def P w K mg base CX0 2 "_law_times" f1 ["_law_one_here","_law_other_here"] (J3 K (· * ·))):Def P w K mg base CX0 3 "_law_table_often" f ["_law_number_here","_law_table"] (aK2 K):=by
 refine d.ok (N:=["_law_number_here","_law_table"]) ao6 (by rintro vs H Q E ⟨_,_,_,_,_,_,_,h,_⟩;rw [h];rfl) (λcdv A outer s H vs Q E hr h=>?_)
 obtain ⟨_,c,a,ts,M,B,W,rfl,⟨ax,rfl,hx0⟩,hc,ha,hR,hM,hW,k1⟩:=h;have bc:BdN 1 c:=by rcases hc with rfl | rfl <;> exact ⟨by decide,by decide⟩
 refine ⟨_,(d4 (j2 (t9 (Nc:=["_law_number_here","_law_row"]) (caps:=[some 0,none]) rfl (G5.of (osc:=c8 K6) (N:=["_law_number_here","_law_table"]) (ks:=["_law_number_here"]) rfl rfl rfl rfl (j7 rfl k9) (by decide +kernel)) (A5 (pv 1)) (λC s₂ H₂ fp pins=>(d5 (i:=1) (show z0q (["_law_number_here","_law_row"]:List Str) by decide +kernel) rfl (q0x rfl) (z0w rfl))) (λC s₂ H₂ fp pins=>(t9 (Nc:=["_law_number_here","_law_one_here"]) (caps:=[some 0,none]) rfl (G5.of (osc:=_) (N:=["_law_number_here","_law_row"]) (ks:=["_law_number_here"]) rfl rfl rfl rfl (j7 rfl k9) (by kernel_rfl)) (show PI _ _ _ (am0 K _) from by exact (A5 (pv 1))) (λC s₂ H₂ fp pins=>(d5 (i:=1) (show z0q (["_law_number_here","_law_one_here"]:List Str) by decide +kernel) rfl (q0x rfl) (z0w rfl))) (λC s₂ H₂ fp pins=>(d2 G__law_times hr (b7 (pv 0) (b7 (pv 1) b8)) i4))))))),?_⟩
 rw [show start ["_law_number_here","_law_table"] [.ref ax,.ref a]=[some (.ref ax),some (.ref a)] from rfl]
 subst_eqs
 have hRl:=hR.length;refine ⟨⟨_,SqL.of ha⟩,λD hD=>?_⟩;refine B9 (ts.map V.ref) (λi σ H2 => ∃ o1,σ=[some (.ref ax),o1]/\t7 H D ((aO3 c M).take i) H2) ⟨_,rfl,t7.start hD⟩ (λi σ H2 _ ⟨_,_,T⟩=>SqL.of (T.same _ _ ha)) ?_ ?_
 ·rintro i x σ H2 hx ⟨o1,rfl,T⟩
  have hi:=(q0g.mp hx).1;obtain ⟨t,ht,rfl⟩:=B7 hx;obtain ⟨xs,L,hL,et,nt⟩:=hR.get ht;have hLm:=hM.bd L (q0c hL);have S2:=T.same;have lx:=nt.length;have m7:=hM.n7;have l7:=hLm.1
  subst_eqs
  refine ⟨⟨_,SqL.of (S2 _ _ et)⟩,λD2 hD2=>?_⟩;refine B9 xs (λj σ H3 => ∃ o1,σ=[some (.ref ax),o1]/\G8 H2 D2 ((L.map λq=>c*q).take j) H3) ⟨_,rfl,G8.start hD2⟩ (λj σ H3 _ ⟨_,_,R⟩=>SqL.of (R.same _ _ (S2 _ _ et))) ?_ ?_
  ·rintro j x σ H3 hx2 ⟨o1,rfl,R⟩
   have hj:=(q0g.mp hx2).1;obtain ⟨px,q1,rfl,hq1,hpx⟩:=nt.getV hx2;have b1:=hLm.2 q1 (q0c hq1);have S3:=S2.trans R.same
   subst_eqs
   refine ⟨_,_,c,q1,1,W,rfl,⟨ax,rfl,S3.tup hx0⟩,⟨px,rfl,(hpx.mono S3.tups).sqt⟩,bc.t (by decide),b1.t (by lia),by lia,λp5 H5 s5 e5=>?_⟩
   obtain ⟨zs,eD,yl,R'⟩:=R.add hD2 s5 e5;refine t6.mk hj eD (w5 (by rw [yl,q0v,q0e];lia)) ⟨_,rfl,?_⟩
   rw [d7 (l:=L.map λq=>c*q) (by rw [q0m,hq1];rfl)]
   exact R'
  ·rintro σ H3 ⟨o1,rfl,R⟩
   rw [t5 (by rw [q0e,lx];exact q0h _)] at R
   obtain ⟨zs,eD,yl,T'⟩:=T.add hD hD2 R;refine t6.mk hi eD (w5 (by rw [yl,q0v,ao0];lia)) ⟨_,rfl,?_⟩
   rw [d7 (l:=aO3 c M) (by unfold aO3;rw [q0m,hL];rfl)]
   exact T'
 ·rintro σ H2 ⟨o1,rfl,T⟩
  rw [t5 (by rw [ao0,q0e];omega)] at T
  exact T.res k1 hD
def bt4 (K:q0a):Sp:=λvs H Q _ => ∃ (a:Addr) (s:Int) (ts:List Addr) (M:List (List Rat)) (n B W:Nat),vs=[.ref a,.int s]/\(s=1 \/ s=-1)/\H a=some (.lst (ts.map V.ref))/\Rws H ts M/\M.length=n/\B8 B W M/\W<=2990/\∀ T,F6 n T (lin 1 (s:Rat) (qq M))->B8 B (W+1) T->O9 H Q T
abbrev ai5:Stmt:=top 86
theorem aQ9:j4 ["_law_table","_law_sign_here"] ["_law_table","_law_sign_here"] (c8 ai5):=by and_intros
theorem aR7 {f f1 f2 f3:Addr} (d:Df K mg "_law_one" ai5 ["_law_table","_law_sign_here"] f) (G__law_table_plus:Def P w K mg base CX0 4 "_law_table_plus" f1 ["_law_one_here","_law_other_here"] (aQ4 K)) (G__law_table_often:Def P w K mg base CX0 3 "_law_table_often" f2 ["_law_number_here","_law_table"] (aK2 K)) (G__law_unit:Def P w K mg base CX0 1 "_law_unit" f3 ["_law_n"] aY3) (n_len:mg "len" = none):Def P w K mg base CX0 5 "_law_one" f ["_law_table","_law_sign_here"] (bt4 K):=by
 refine d.ok (N:=["_law_table","_law_sign_here"]) aQ9 (by rintro vs H Q E ⟨_,_,_,_,_,_,_,h,_⟩;rw [h];rfl) (λcdv A outer s H vs Q E hr h=>?_)
 obtain ⟨a,s,ts,M,n,B,W,rfl,hs,ha,hR,ln,hM,hW,k1⟩:=h;refine ⟨_,(d4 (j2 (d2 G__law_table_plus hr (b7 (d2 G__law_table_often hr (b7 (m6 (b7 (pv 1) (b7 b9 b8))) (b7 (pv 0) b8)) i4) (b7 (d2 G__law_unit hr (b7 (i7 k6 rfl n_len (by decide +kernel) (b7 (pv 0) b8)) b8) i4) b8)) i4))),?_⟩
 rw [show start ["_law_table","_law_sign_here"] [.ref a,.int s]=[some (.ref a),some (.int s)] from rfl]
 subst_eqs
 have hRl:=hR.length;have n7:=hM.n7;have lu:(P1 n).length=n:=(F6.unit n).len;have oU:=B8.unit (n:=n) hM.B0 hM.BW (by lia)
 have fM:F6 n M (qq M):=by rw [<- ln];exact hM.tf
 have hc:(s:Rat)=1 \/ (s:Rat)=-1:=by
  rcases hs with rfl | rfl
  ·exact .inl rfl
  ·exact .inr rfl
 have oO:=hM.often hc;refine ⟨by decide,λp fp=>?_⟩
 have S1:=c9.new fp (.tup [.int s,.int 1]);refine ⟨.ref p,(s:Rat),a,ts,M,B,W,rfl,⟨p,rfl,by rw [show E8 (s:Rat)=[.int s,.int 1] from rfl];exact SqT.of c6⟩,hc,S1 _ _ ha,(hR.same S1).toC,hM,by lia,λr1 t1 H1 s1 f1 g1 nd1 e1 R1=>?_⟩
 have S2:=S1.trans s1;refine ⟨_,.inl (SqL.of (S2 _ _ ha)),n,by rw [q0e,hRl,ln],by lia,λr2 t2 H2 s2 f2 g2 nd2 e2 R2=>?_⟩
 have fT:=(fM.often (s:Rat)).sum (F6.unit n);refine ⟨r1,r2,t1,t2,aO3 s M,P1 n,B,W,B,W,rfl,s2 _ _ e1,(R1.same s2).toC,e2,R2.toC,oO,oU,by lia,by rw [ao0,lu,ln],?_⟩
 exact (k1 _ (fT.to λi j _ _=>by unfold lin;grind) (oO.sum oU (by rw [ao0,lu,ln]))).from (S2.trans s2)
def ap1 (j i:Nat):List V:=[V.bl (decide (j=i)),V.bl (decide (j=i+1)),V.bl (decide (j=i+2)),V.bl (decide (j=i+3))]
abbrev ab4:Stmt:=top 80
theorem P5:j4 ["_law_e","_law_told","_law_names"] ["_law_e"] (c8 ab4):=by and_intros
theorem aF5 {a:CAd} {f:Addr} (d:Df K mg "_law_which" ab4 ["_law_e"] f) (X:XTx K mg a) (n_isinstance:mg "isinstance" = none) (n_ValueError:mg "ValueError" = none):bt0 P w K mg base 1 "_law_which" f ["_law_e"] (aJ9 K a):=by
  obtain ⟨x_NoFraction,x_NoPolynomial,x_NoStretch,x_NoRow,x_NoPair,x_NoBack,x_NoForm,x_NoParts,x_NoDegree,x_NoSteps,x_NoBox,x_NoGain,x_NoText,x_NoLine,x_NoName,x_NoDeed⟩:=X;refine d.okX (N:=["_law_e","_law_told","_law_names"]) P5 (λvs H Q E ⟨u,q,j,h,_⟩=>by rw [h];rfl) (λcdv A outer s H vs Q E hr h=>?_)
  obtain ⟨e,C,j,rfl,kt,hj,he,k⟩:=h
  refine ⟨_, (c7 (i9 (i := 1) P5.nd rfl (Or.inl rfl) (C5 (b7 (i7 p9 rfl n_isinstance (by decide +kernel) (b7 (pv 0) (b7 (F8 (v := .ref _) rfl x_NoFraction.m rfl) b8))) (b7 (i7 p9 rfl n_isinstance (by decide +kernel) (b7 (pv 0) (b7 (F8 (v := .ref _) rfl x_NoPolynomial.m rfl) b8))) (b7 (i7 p9 rfl n_isinstance (by decide +kernel) (b7 (pv 0) (b7 (F8 (v := .ref _) rfl x_NoStretch.m rfl) b8))) (b7 (i7 p9 rfl n_isinstance (by decide +kernel) (b7 (pv 0) (b7 (F8 (v := .ref _) rfl x_NoRow.m rfl) b8))) b8))))))
      (c7 (i9 (i:=1) P5.nd rfl (Or.inl rfl) (i5 aa4 (pv 1) (C5 (b7 (i7 p9 rfl n_isinstance (by decide +kernel) (b7 (pv 0) (b7 (F8 (v:=.ref _) rfl x_NoPair.m rfl) b8))) (b7 (i7 p9 rfl n_isinstance (by decide +kernel) (b7 (pv 0) (b7 (F8 (v:=.ref _) rfl x_NoBack.m rfl) b8))) (b7 (i7 p9 rfl n_isinstance (by decide +kernel) (b7 (pv 0) (b7 (F8 (v:=.ref _) rfl x_NoForm.m rfl) b8))) (b7 (i7 p9 rfl n_isinstance (by decide +kernel) (b7 (pv 0) (b7 (F8 (v:=.ref _) rfl x_NoParts.m rfl) b8))) b8)))))))
      (c7 (i9 (i:=1) P5.nd rfl (Or.inl rfl) (i5 aa4 (pv 1) (C5 (b7 (i7 p9 rfl n_isinstance (by decide +kernel) (b7 (pv 0) (b7 (F8 (v:=.ref _) rfl x_NoDegree.m rfl) b8))) (b7 (i7 p9 rfl n_isinstance (by decide +kernel) (b7 (pv 0) (b7 (F8 (v:=.ref _) rfl x_NoSteps.m rfl) b8))) (b7 (i7 p9 rfl n_isinstance (by decide +kernel) (b7 (pv 0) (b7 (F8 (v:=.ref _) rfl x_NoBox.m rfl) b8))) (b7 (i7 p9 rfl n_isinstance (by decide +kernel) (b7 (pv 0) (b7 (F8 (v:=.ref _) rfl x_NoGain.m rfl) b8))) b8)))))))
      (c7 (i9 (i:=1) P5.nd rfl (Or.inl rfl) (i5 aa4 (pv 1) (C5 (b7 (i7 p9 rfl n_isinstance (by decide +kernel) (b7 (pv 0) (b7 (F8 (v:=.ref _) rfl x_NoText.m rfl) b8))) (b7 (i7 p9 rfl n_isinstance (by decide +kernel) (b7 (pv 0) (b7 (F8 (v:=.ref _) rfl x_NoLine.m rfl) b8))) (b7 (i7 p9 rfl n_isinstance (by decide +kernel) (b7 (pv 0) (b7 (F8 (v:=.ref _) rfl x_NoName.m rfl) b8))) (b7 (i7 p9 rfl n_isinstance (by decide +kernel) (b7 (pv 0) (b7 (F8 (v:=.ref _) rfl x_NoDeed.m rfl) b8))) b8)))))))
      (c7 (i9 (i:=2) P5.nd rfl (Or.inl rfl) af8)
      (c7 (E7 (PW.pt (ad1 (l9 ap7 (at3 PySem.F.plainAttrs_list PySem.F.slot_list_count PySem.F.type_list_count bj8 (pv 1) (b7 ae9 b8)) b9 (j8 _)) (af6 (V5 (V4 (i7 p9 rfl n_isinstance (by decide +kernel) (b7 (pv 0) (b7 (ae8 (v:=.ty "ValueError") rfl n_ValueError (by decide +kernel) rfl) b8)))))))) (d4 (j2 af8)) o0)
      (d4 (j2 (j6 j9 (at3 PySem.F.plainAttrs_str PySem.F.slot_str_split PySem.F.type_str_split bj6 (pv 2) (b7 af8 b8)) (at3 PySem.F.plainAttrs_list PySem.F.slot_list_index PySem.F.type_list_index bj7 (pv 1) (b7 ae9 b8)) (λ_ _=>rfl)))))))))),?_⟩
  rw [show start ["_law_e","_law_told","_law_names"] [.ref e]=[some (.ref e),none,none] from rfl]
  have ty:∀ {H':Hp},c9 H H'->TyX K H' (.ref e) (.ref C):=λsm=>.exc (sm _ _ he) kt.ec;refine k7 (λσ H1 => ∃ l,σ=[some (.ref e),some (.ref l),none]/\c9 H H1/\H1 l=some (.lst (ap1 j 0))) (λN hN=>?_) ?_
  · subst_eqs
    exact ⟨trivial,_,ty (c9.refl _),_,kt.k_NoFraction,trivial,_,ty (c9.refl _),_,kt.k_NoPolynomial,trivial,_,ty (c9.refl _),_,kt.k_NoStretch,trivial,_,ty (c9.refl _),_,kt.k_NoRow,by decide,λl h=>hN _ _ ⟨l,rfl,c9.new h _,c6⟩⟩
  rintro σ H1 ⟨l1,rfl,sA1,eA1⟩;refine k7 (λσ H2 => ∃ l,σ=[some (.ref e),some (.ref l),none]/\c9 H H2/\H2 l=some (.lst (ap1 j 0 ++ ap1 j 4))) (λN hN=>?_) ?_
  · subst_eqs
    exact ⟨trivial,_,ty sA1,_,kt.k_NoPair,trivial,_,ty sA1,_,kt.k_NoBack,trivial,_,ty sA1,_,kt.k_NoForm,trivial,_,ty sA1,_,kt.k_NoParts,by decide,λp hp=>⟨_,(i8 (j3 eA1 hp)).trans eA1,_,c6,(show (8:Nat)<=sizeLine from by decide),λl h=>hN _ _ ⟨l,rfl,(sA1.trans (c9.new hp _)).trans (c9.new h _),c6⟩⟩⟩
  rintro σ H2 ⟨l2,rfl,sA2,eA2⟩;refine k7 (λσ H2 => ∃ l,σ=[some (.ref e),some (.ref l),none]/\c9 H H2/\H2 l=some (.lst (ap1 j 0 ++ ap1 j 4 ++ ap1 j 8))) (λN hN=>?_) ?_
  · subst_eqs
    exact ⟨trivial,_,ty sA2,_,kt.k_NoDegree,trivial,_,ty sA2,_,kt.k_NoSteps,trivial,_,ty sA2,_,kt.k_NoBox,trivial,_,ty sA2,_,kt.k_NoGain,by decide,λp hp=>⟨_,(i8 (j3 eA2 hp)).trans eA2,_,c6,(show (12:Nat)<=sizeLine from by decide),λl h=>hN _ _ ⟨l,rfl,(sA2.trans (c9.new hp _)).trans (c9.new h _),c6⟩⟩⟩
  rintro σ H3 ⟨l3,rfl,sA3,eA3⟩;refine k7 (λσ H2 => ∃ l,σ=[some (.ref e),some (.ref l),none]/\c9 H H2/\H2 l=some (.lst (ap1 j 0 ++ ap1 j 4 ++ ap1 j 8 ++ ap1 j 12))) (λN hN=>?_) ?_
  · subst_eqs
    exact ⟨trivial,_,ty sA3,_,kt.k_NoText,trivial,_,ty sA3,_,kt.k_NoLine,trivial,_,ty sA3,_,kt.k_NoName,trivial,_,ty sA3,_,kt.k_NoDeed,by decide,λp hp=>⟨_,(i8 (j3 eA3 hp)).trans eA3,_,c6,(show (16:Nat)<=sizeLine from by decide),λl h=>hN _ _ ⟨l,rfl,(sA3.trans (c9.new hp _)).trans (c9.new h _),c6⟩⟩⟩
  rintro σ H4 ⟨l4,rfl,sA4,eA4⟩;have eT:H4 l4=some (.lst (aP9 j)):=eA4;clear eA4
  subst_eqs
  refine ⟨.inl ⟨_,SqL.of eT⟩,_,eT,rfl,aG6 j hj,rfl,?_⟩;rw [aT9 j hj];refine F2 (λhh=>absurd rfl hh) (λ_=>?_);refine ⟨trivial,_,ty sA4,_,kt.kV,?_⟩;refine F2 (λhh=>absurd hh (by decide)) (λ_=>?_)
  refine ⟨by decide +kernel,by decide +kernel,by decide +kernel,by decide +kernel,by rw [ax7];decide,λl hl=>?_⟩
  have eT':(upd H4 l (.lst ((an6 "fraction polynomial stretch row pair back form parts degree steps box gain text line name deed" " ").map V.str))) l4=some (.lst (aP9 j)):=(i8 (j3 eT hl)).trans eT
  refine ⟨.inl ⟨_,SqL.of eT'⟩,_,eT',rfl,aG6 j hj,_,bg7 j hj,_,SqL.of c6,_,bq2 hj,?_⟩;exact k _ (sA4.trans (c9.new hl _))
def bB2 (H:Hp) (Q:VK) (x:Str):Prop:=∀ t H',c9 H H'->H t=none->H' t=some (.tup [.str "refused",.str x])->Q (.ref t) H'
def bt1 (H:Hp) (Q:VK) (a:Addr) (s:Rat):Prop:=∃ (ts:List Addr) (M:List (List Rat)) (n B W:Nat),H a=some (.lst (ts.map V.ref))/\Rws H ts M/\M.length=n/\1<=n/\B8 B W M/\(W+5)*(n+1)<=3900 /\
 (dt n (lin 1 s (qq M))=0->bB2 H Q "back") /\
 (dt n (lin 1 s (qq M)) ≠ 0->∀ T,bm8 n s B W M T->O9 H Q T)
def bC6 (K:q0a) (H:Hp) (Q:VK) (a b:Addr) (n:Nat):Prop:=∃ (ts:List Addr) (M:List (List Rat)) (ys:List V) (q:List Rat) (B W C' V':Nat),H a=some (.lst (ts.map V.ref))/\Rws H ts M/\SqL K H b ys/\C9 H ys q/\B8 B W M/\au7 C' V' q/\n<=20/\W+V'+n*(W+7)<=5990/\q.length<=20/\(M.length ≠ q.length->bB2 H Q "pair") /\
 (M.length=q.length->O9 H Q ((z0r (n+1)).map (wkQ M q)))
def an3 (K:q0a):Sp:=λvs H Q _ => ∃ (way:Int) (a b:Addr) (n:Nat),vs=[.int way,.ref a,.ref b,.int n]/\((way=0/\bt1 H Q a (-1)) \/ (way=1/\bt1 H Q a 1) \/ (way=2/\bC6 K H Q a b n))
abbrev ab8:Stmt:=top 85
theorem Z0:j4 ["_law_way","_law_table","_law_column_here","_law_n","_law_e","_law_found"] ["_law_way","_law_table","_law_column_here","_law_n"] (c8 ab8):=by and_intros
theorem aF8 {a : CAd} {f fw f1 f2 f3 : Addr} (d : Df K mg "_law_asked" ab8 ["_law_way", "_law_table", "_law_column_here", "_law_n"] f) (G_turn_of : Def P w K mg base (CXR P w) 5 "turn_of" f1 ["table"] (aK0 K a.c_NoBack (-1))) (G_turn_back : Def P w K mg base (CXR P w) 5 "turn_back" f2 ["table"] (aK0 K a.c_NoBack 1)) (G_walk : Def P w K mg base (CXR P w) 5 "walk" f3 ["table", "column", "n"] (bh6 K a.c_NoPair)) (G__law_which : bt0 P w K mg base 1 "_law_which" fw ["_law_e"] (aJ9 K a)) (x_RestError : ExT K mg "RestError" a.c_RestError) (kt : bn3 K a a.c_NoBack 5) (kt2 : bn3 K a a.c_NoPair 4) :
    Def P w K mg base CX0 6 "_law_asked" f ["_law_way","_law_table","_law_column_here","_law_n"] (an3 K):=by
  refine d.ok (N:=["_law_way","_law_table","_law_column_here","_law_n","_law_e","_law_found"]) Z0 (by rintro vs H Q E ⟨_,_,_,_,h,_⟩;rw [h];rfl) (λcdv A outer s H vs Q E hr h=>?_)
  obtain ⟨way,al,bl,n,rfl,h⟩:=h
  refine ⟨_, (c7 (bo9 (i := 4) (C := a.c_RestError) rfl rfl rfl Z0.nd rfl rfl rfl x_RestError.m (fun E xe pn hx => (d4 (i9 (i := 5) Z0.nd rfl (Or.inl rfl) (ag9 (l9 Q3 (pv 0) b9 (j8 _)) (d2 G_turn_of hr (b7 (pv 1) b8) hx) (ag9 (l9 Q3 (pv 0) b9 (j8 _)) (d2 G_turn_back hr (b7 (pv 1) b8) hx) (d2 G_walk hr (b7 (pv 1) (b7 (pv 2) (b7 (pv 3) b8))) hx)))))) (fun b => (d4 (i9 (i := 5) Z0.nd rfl (Or.inl rfl) (m6 (b7 af8 (b7 (bp3 G__law_which (hr.toX.mark _) (b7 (pv 4) b8)) b8)))))))
      (d4 (j2 (pv 5)))),?_⟩
  rw [show start ["_law_way","_law_table","_law_column_here","_law_n","_law_e","_law_found"] [.int way,.ref al,.ref bl,.int n]=[some (.int way),some (.ref al),some (.ref bl),some (.int n),none,none] from rfl]
  simp! [aJ9]
  rcases h with ⟨rfl,h⟩ | ⟨rfl,h⟩ | ⟨rfl,h⟩
  · obtain ⟨ts,M,m,B,W,hA,hR,ln,n1,hM,hW,k0,k1⟩:=h
    refine ⟨rfl,F2 (λ_=>?_) (λz=>absurd rfl z)⟩;exact ⟨al,ts,M,m,B,W,rfl,hA,hR,ln,n1,hM,hW,λh0 H1 s1=>⟨kt.ex,λe he=>⟨_,rfl,e,rfl,_,5,kt,by decide,c6,λH2 s2=>⟨t8,λp hp=>⟨_,rfl,k0 h0 p _ (s1.trans ((c9.new he _).trans (s2.trans (c9.new hp _)))) ((s1.trans ((c9.new he _).trans s2)).free hp) c6⟩⟩⟩⟩,k1⟩
  · obtain ⟨ts,M,m,B,W,hA,hR,ln,n1,hM,hW,k0,k1⟩:=h
    refine ⟨rfl,F2 (λz=>absurd z (by decide)) (λ_=>⟨rfl,F2 (λ_=>?_) (λz=>absurd rfl z)⟩)⟩
    exact ⟨al,ts,M,m,B,W,rfl,hA,hR,ln,n1,hM,hW,λh0 H1 s1=>⟨kt.ex,λe he=>⟨_,rfl,e,rfl,_,5,kt,by decide,c6,λH2 s2=>⟨t8,λp hp=>⟨_,rfl,k0 h0 p _ (s1.trans ((c9.new he _).trans (s2.trans (c9.new hp _)))) ((s1.trans ((c9.new he _).trans s2)).free hp) c6⟩⟩⟩⟩,k1⟩
  · obtain ⟨ts,M,ys,q,B,W,C',V',hA,hR,hS,hN,hM,hq,n20,hW,hl,k0,k1⟩:=h
    refine ⟨rfl,F2 (λz=>absurd z (by decide)) (λ_=>⟨rfl,F2 (λz=>absurd z (by decide)) (λ_=>?_)⟩)⟩
    exact ⟨al,bl,ts,M,ys,q,B,W,C',V',n,rfl,hA,hR,hS,hN,hM,hq,n20,hW,hl,λh0=>⟨kt2.ex,λe he=>⟨_,rfl,e,rfl,_,4,kt2,by decide,c6,λH2 s2=>⟨t8,λp hp=>⟨_,rfl,k0 h0 p _ ((c9.new he _).trans (s2.trans (c9.new hp _))) (((c9.new he _).trans s2).free hp) c6⟩⟩⟩⟩,k1⟩
def aX8 (p q:List Rat):Prop:=∀ (i:Nat) (x y:Rat),p[i]? = some x->q[i]? = some y->∃ m n W e:Nat,BtN m x/\BtN n y/\m+n<=6000/\BtN W (G9 (p.take i) (q.take i))/\BtN e (x*y)/\W+e<=6000
def aY8 (K:q0a):Sp:=λvs H Q _ => ∃ (a b:Addr) (xs ys:List V) (p q:List Rat),vs=[.ref a,.ref b]/\SqL K H a xs/\SqL K H b ys/\C9 H xs p/\C9 H ys q/\aX8 p q/\p.length=q.length/\am9 H Q (G9 p q)
theorem aO2 {f f1 f2:Addr} (d:Df K mg "_law_dot" ad0 ["_law_row","_law_column_here"] f) (G__law_plus:Def P w K mg base CX0 2 "_law_plus" f1 ["_law_one_here","_law_other_here"] (J3 K (· + ·))) (G__law_times:Def P w K mg base CX0 2 "_law_times" f2 ["_law_one_here","_law_other_here"] (J3 K (· * ·))) (n_zip:mg "zip" = none):Def P w K mg base CX0 3 "_law_dot" f ["_law_row","_law_column_here"] (aY8 K):=by
 refine d.ok (N:=["_law_row","_law_column_here","_law_found","_law_one_here","_law_other_here"]) K0 (by rintro vs H Q E ⟨_,_,_,_,_,_,h,_⟩;rw [h];rfl) (λcdv A outer s H vs Q E hr h=>?_)
 obtain ⟨a,b,xs,ys,p,q,rfl,hS,hS',hN,hN',hB,hlq,k⟩:=h
 refine ⟨_,(c7 (i9 (i:=2) K0.nd rfl (q0x rfl) (m6 (b7 b9 (b7 b9 b8))))
   (c7 (P6 PassesOwn.never rfl (af7 rfl n_zip (b7 (pv 0) (b7 (pv 1) b8))) (show PG _ _ (U2 K 2 (w9 (t4 3) (w9 (t4 4) U3))) from by (refine F4 (n:=2) ?_ ?_ ?_ ?_;rfl;(refine j1 ?_ ?_ ?_;(exact (d5 (i:=3) K0.nd rfl (q0x rfl)));(refine j1 ?_ ?_ ?_;(exact (d5 (i:=4) K0.nd rfl (q0x rfl)));(exact C6);rfl);rfl);rfl;rfl)) (d4 (i9 (i:=2) K0.nd rfl (q0x rfl) (d2 G__law_plus hr (b7 (pv 2) (b7 (d2 G__law_times hr (b7 (pv 3) (b7 (pv 4) b8)) i4) b8)) i4))))
   (d4 (j2 (pv 2))))),?_⟩
 rw [show start ["_law_row","_law_column_here","_law_found","_law_one_here","_law_other_here"] [.ref a,.ref b]=[some (.ref a),some (.ref b),none,none,none] from rfl]
 subst_eqs
 have lx:=hN.length;have ly:=hN'.length;refine ⟨t8,λz hz=>?_⟩;have Sz:=c9.new hz (.tup [.int 0,.int 1]);refine ⟨_,rfl,_,rfl,a,b,rfl,⟨_,Sz.seq hS⟩,⟨_,Sz.seq hS'⟩,aZ9 xs ys (λi σ H2 => ∃ pf o1 o2,σ=[some (.ref a),some (.ref b),some (.ref pf),o1,o2]/\c9 H H2/\H2 pf=some (.tup (E8 (G9 (p.take i) (q.take i))))) ⟨z,_,_,rfl,Sz,c6⟩ (by rintro i σ H2 ⟨_,_,_,_,s2,_⟩;exact ⟨s2.seq hS,s2.seq hS'⟩) ?_ ?_⟩
 ·rintro i x y σ H2 pt hx hy ⟨pf,o1,o2,rfl,s2,ef⟩ hpt
  obtain ⟨px,q1,rfl,hq1,hpx⟩:=hN.getV hx;obtain ⟨py,q2,rfl,hq2,hpy⟩:=hN'.getV hy;have st:=c9.new hpt (.tup [.ref px,.ref py]);have S2:=s2.trans st;obtain ⟨m,n,W,e,b1,b2,hmn,bi,be,hwe⟩:=hB i q1 q2 hq1 hq2;have hd:=aw9 i hq1 hq2
  subst_eqs
  refine ⟨_,SqT.of c6,rfl,_,_,rfl,_,_,rfl,rfl,?_⟩;refine ⟨_,_,q1,q2,m,n,rfl,⟨px,rfl,SqT.of (S2 _ _ hpx)⟩,⟨py,rfl,SqT.of (S2 _ _ hpy)⟩,b1,b2,⋯,λp5 H5 s5 e5=>?_⟩;refine ⟨_,_,_,_,W,e,rfl,⟨pf,rfl,SqT.of (s5 _ _ (st _ _ ef))⟩,⟨p5,rfl,SqT.of e5⟩,bi,be,?_,λp6 H6 s6 e6=>?_⟩
  ·omega
  ·exact ⟨p6,rfl,S2.trans (s5.trans s6),by rw [hd];exact e6⟩
 ·rintro σ H2 ⟨pf,o1,o2,rfl,s2,ef⟩
  have ml:min xs.length ys.length=p.length:=by lia
  rw [ml,y0k,hlq,y0k] at ef;exact ⟨_,rfl,k pf H2 s2 ef⟩
def aY9 (K:q0a):Sp:=λvs H Q _ => ∃ (a b:Addr) (ts:List Addr) (M:List (List Rat)) (ys:List V) (q:List Rat),vs=[.ref a,.ref b]/\H a=some (.lst (ts.map V.ref))/\Rws H ts M/\SqL K H b ys/\C9 H ys q/\(∀ L ∈ M,L.length=q.length/\aX8 L q)/\M.length<=8/\∀ r zs H',c9 H H'->H r=none->H' r=some (.lst zs)->C9 H' zs (M.map λL=>G9 L q)->Q (.ref r) H'
theorem az2 {f f1:Addr} (d:Df K mg "_law_column" U7 ["_law_table","_law_column_here"] f) (GD__law_dot:Def P w K mg base CX0 3 "_law_dot" f1 ["_law_row","_law_column_here"] (aY8 K)):Def P w K mg base CX0 4 "_law_column" f ["_law_table","_law_column_here"] (aY9 K):=by
 refine d.ok (N:=["_law_table","_law_column_here"]) aB2 (by rintro vs H Q E ⟨_,_,_,_,_,_,h,_⟩;rw [h];rfl) (λcdv A outer s H vs Q E hr h=>?_)
 obtain ⟨a,b,ts,M,ys,q,rfl,ha,hR,hS,hN,hM,hMl,k⟩:=h;have G__law_dot:=GD__law_dot;refine ⟨_,(d4 (j2 (t9 (Nc:=["_law_column_here","_law_row"]) (caps:=[some 1,none]) rfl (G5.of (osc:=c8 U7) (N:=["_law_table","_law_column_here"]) (ks:=["_law_column_here"]) rfl rfl rfl rfl (j7 rfl k9) (by decide +kernel)) (A5 (pv 0)) (λC s₂ H₂ fp pins=>(d5 (i:=1) (show z0q (["_law_column_here","_law_row"]:List Str) by decide +kernel) rfl (q0x rfl) (z0w rfl))) (λC s₂ H₂ fp pins=>(d2 G__law_dot hr (b7 (pv 1) (b7 (pv 0) b8)) i4))))),?_⟩
 rw [show start ["_law_table","_law_column_here"] [.ref a,.ref b]=[some (.ref a),some (.ref b)] from rfl]
 subst_eqs
 refine ⟨⟨_,SqL.of ha⟩,λD hD=>?_⟩;have hRl:=hR.length;refine B9 (ts.map V.ref) (λi σ H2 => ∃ o,σ=[some (.ref b),o]/\c9 H H2/\∃ zs,H2 D=some (.lst zs)/\C9 H2 zs ((M.map λL=>G9 L q).take i)) ⟨_,rfl,c9.new hD _,[],c6,.nil⟩ (λi σ H2 _ ⟨_,_,s2,_⟩=>SqL.of (s2 _ _ ha)) ?_ ?_
 ·rintro i x σ H2 hx ⟨o,rfl,s2,zs,e2,n2⟩
  have hi:=(q0g.mp hx).1;obtain ⟨t,ht,rfl⟩:=B7 hx;obtain ⟨xs,L,hL,et,nt⟩:=hR.get ht;have hLm:=hM L (q0c hL);rw [q0e] at hi
  subst_eqs
  refine ⟨t,b,xs,ys,L,q,rfl,SqL.of (s2 _ _ et),s2.seq hS,nt.mono s2.tups,hN.mono s2.tups,hLm.2,hLm.1,λp4 H4 s4 e4=>?_⟩;have eD:=s4 _ _ e2;have hMi:(M.map λL=>G9 L q)[i]? = some (G9 L q):=by rw [q0m,hL];rfl
  refine t6.mk (by rw [q0e];exact hi) eD ?_ ⟨_,rfl,(s2.trans s4).over hD _,_,c6,?_⟩
  ·rw [n2.length,q0v]
   exact q0p (show _<=100 by lia) (by decide)
  ·rw [d7 hMi]
   exact ((n2.mono s4.tups).append (.cons e4 .nil)).mono (aa2.lst eD)
 ·rintro σ H2 ⟨o,rfl,s2,zs,e2,n2⟩
  rw [u0x (by rw [q0e,q0e];omega)] at n2
  exact k D zs H2 s2 hD e2 n2
theorem an8 {D w k:Nat} {q:Rat} (D0:0<D) (h:OvB D w q) (hD:D<2 ^ k) (hw:w<=20000):BtN k q:=by
 obtain ⟨v,rfl,b⟩:=h;have x:=N9 (t:=v) (b:=(D:Int)) (by lia)
 rw [q0w] at x;exact ⟨q0b (q0p x.1 b) (i6 hw),q0p x.2 hD⟩
theorem br8 {B C W V' E:Nat} {L q:List Rat} (B0:0<B) (C0:0<C) (hL:∀ x ∈ L,OvB B W x) (hq:∀ y ∈ q,OvB C V' y) (hE:B*C<2 ^ E) (h2:E+E<=6000) (hw:W+V'+7<=20000) (l7:L.length<=7):aX8 L q:=λi x y hx hy=>by
 have x1:=hL x (q0c hx);have y1:=hq y (q0c hy);have BC:=j0a B0 C0;exact ⟨E,E,E,E,an8 B0 x1 (q0p (y0v _ C0) hE) (by lia),an8 C0 y1 (q0p (v0a _ B0) hE) (by lia),h2,an8 BC (aN0 B0 C0 hL hq l7 i) hE hw,an8 BC (x1.mul y1) hE (by lia),h2⟩
theorem aT6 {B W V':Nat} {M:List (List Rat)} {q:List Rat} (h:B8 B W M) (hq:∀ x ∈ q,OvB 1 V' x):∀ k,∀ x ∈ wkQ M q k,OvB (B ^ k) (V'+k*(W+7)) x
 | 0=>by rw [Nat.zero_mul,Nat.pow_zero];exact hq
 | k+1=>λx hx=>by
  obtain ⟨L,hL,rfl⟩:=z0e.mp hx;obtain ⟨l,r⟩:=h.row L hL;have n7:=h.n7;have B0:=h.B0;rw [v0r,v0z];exact (an7 B0 (q1t B0) r (aT6 h hq k)).mono (by rw [m0d];lia)
theorem aH2 {B W:Nat} (h:B<2 ^ W):∀ k,B ^ (k+1)<2 ^ (W*(k+1))
 | 0=>by rw [Nat.zero_add,Nat.pow_one,q1q];exact h
 | k+1=>by
  rw [v0r B (k+1),v0e,z0f 2];exact z0g (aH2 h k) h
theorem be7 {B W V' k:Nat} {M:List (List Rat)} {q:List Rat} (h:B8 B W M) (hq:∀ x ∈ q,OvB 1 V' x) (hW:W<=150) (hV:V'<=100) (hk:k<20) {L:List Rat} (hL:L ∈ M):aX8 L (wkQ M q k):=by
 obtain ⟨l,r⟩:=h.row L hL;have n7:=h.n7;have B0:=h.B0;have w1:k*(W+7)<=20*(W+7):=v0k _ (by exact Nat.le_of_lt ‹_›)
 have w2:W*(k+1)<=W*20:=z0v _ (by lia)
 refine br8 (E:=W*(k+1)) B0 (q1t B0) r (aT6 h hq k) ?_ (by lia) (by lia) (by lia)
 rw [v0z,<- v0r];exact aH2 h.BW k
theorem by6 {m:Nat} {q:Rat} (h:BdN m q):OvB q.den m q:=⟨q.num,(z0j q).symm,h.n⟩
theorem bm0 {L q:List Rat} {e V':Nat} (l2:L.length<=2) (hL:∀ x ∈ L,BdN 40 x) (hq:∀ y ∈ q,∃ C,0<C/\C<2 ^ e/\OvB C V' y) (he:40+e+(40+e)<=6000) (hV:40+V'<=20000):aX8 L q:=by
 have pr:∀ x ∈ L,∀ y ∈ q,BtN (40+e) (x*y):=λx hx y hy=>by
  obtain ⟨C,C0,Ce,oy⟩:=hq y hy;have bx:=hL x hx;have d0:0<x.den:=by have:=x.den_nz;lia
  refine an8 (j0a d0 C0) ((by6 bx).mul oy) ?_ hV;rw [z0f];exact z0g bx.d Ce
 intro i x y hx hy;have mx:=q0c hx;have my:=q0c hy;obtain ⟨C,C0,Ce,oy⟩:=hq y my;refine ⟨40,e,40+e,40+e,(hL x mx).t (by decide),an8 C0 oy Ce (by lia),by lia,?_,pr x mx y my,⋯⟩
 have hi:i<2:=by have:=(q0g.mp hx).1;exact Nat.lt_of_lt_of_le ‹_› ‹_›
 have z0:G9 (L.take 0) (q.take 0)=0:=rfl;have h:i=0 \/ i=1:=by lia
 rcases h with rfl | rfl
 ·rw [z0];exact BtN.zero (by lia)
 ·obtain ⟨x0,e0⟩:∃ x0,L[0]? = some x0:=⟨_,q0d (by have:=(q0g.mp hx).1;exact Nat.le_of_lt ‹_›)⟩
  obtain ⟨y0,f0⟩:∃ y0,q[0]? = some y0:=⟨_,q0d (by have:=(q0g.mp hy).1;exact Nat.le_of_lt ‹_›)⟩
  rw [show (1:Nat)=0+1 from rfl,aw9 0 e0 f0,z0,Rat.zero_add];exact pr x0 (q0c e0) y0 (q0c f0)
theorem OvB.bt {B W e:Nat} {q:Rat} (h:OvB B W q) (hB:0<B) (hBe:B<2 ^ e) (hW:W<=20000):BtN e q:=by
 obtain ⟨v,rfl,b⟩:=h;have:=N9 (t:=v) (b:=(B:Int)) ⋯;rw [q0w] at this;exact ⟨q0p this.1 (q0b b (i6 hW)),q0p this.2 hBe⟩
def aY7 (K:q0a):Sp:=λvs H Q _ => ∃ (a b:Addr) (xs ys:List V) (ps qs:List Rat) (B C V' W e:Nat),vs=[.ref a,.ref b]/\SqL K H a xs/\SqL K H b ys/\C9 H xs ps/\C9 H ys qs/\(∀ q ∈ ps,OvB B V' q)/\(∀ q ∈ qs,OvB C W q)/\0<B/\0<C/\B*C<2 ^ e/\1<=e/\2*e<=6000/\V'+W<=19000/\ps.length<=20/\qs.length<=20 /\
 ∀ m r zs H',ad8 (Q8 ps qs) m->(∀ q ∈ Q8 ps qs,OvB (B*C) (V'+W+400) q)->c9 H H'->H r=none->H' r=some (.lst zs)->C9 H' zs ((Q8 ps qs).take m)->Q (.ref r) H'
abbrev Q0:Stmt:=top 65
theorem G1:j4 ["_law_p","_law_q","_law_found","_law_i","_law_one_here","_law_j","_law_other_here"] ["_law_p","_law_q"] (c8 Q0):=by and_intros
theorem aq8 {f fp f1 f2:Addr} (d:Df K mg "_law_poly_times" Q0 ["_law_p","_law_q"] f) (G__law_plus:Def P w K mg base CX0 2 "_law_plus" fp ["_law_one_here","_law_other_here"] (J3 K (· + ·))) (G__law_times:Def P w K mg base CX0 2 "_law_times" f1 ["_law_one_here","_law_other_here"] (J3 K (· * ·))) (G__law_trim:Def P w K mg base CX0 1 "_law_trim" f2 ["_law_numbers"] (bh7 K)) (n_len:mg "len" = none) (n_enumerate:mg "enumerate" = none):Def P w K mg base CX0 3 "_law_poly_times" f ["_law_p","_law_q"] (aY7 K):=by
 refine d.ok (N:=["_law_p","_law_q","_law_found","_law_i","_law_one_here","_law_j","_law_other_here"]) G1 (by rintro vs H Q E ⟨_,_,_,_,_,_,_,_,_,_,_,h,_⟩;rw [h];rfl) (λcdv A outer s H vs Q E hr h=>?_)
 obtain ⟨a,b,xs,ys,ps,qs,B,C,V',W,e,rfl,hS,hS',hN,hN',hs,hs',hB,hC,hBC,he1,he,hVW,hl,hl',k⟩:=h;have hBCp:=j0a hB hC;have hBe:B<2 ^ e:=q0p (y0v _ hC) hBC;have hCe:C<2 ^ e:=q0p (v0a _ hB) hBC;have hu:=hr.units
 refine ⟨_,(c7 (E7 (PW.pt (ad1 (l9 (ai9 hu) (pv 0) (C5 b8) (j8 _)) (af6 (l9 (ai9 hu) (pv 1) (C5 b8) (j8 _))))) (d4 (j2 (C5 b8))) o0)
   (c7 (i9 (i:=2) G1.nd rfl (q0x rfl) (i5 bw4 (C5 (b7 (m6 (b7 b9 (b7 b9 b8))) b8)) (i5 U1 (i5 E9 (i7 k6 rfl n_len (by decide +kernel) (b7 (pv 0) b8)) (i7 k6 rfl n_len (by decide +kernel) (b7 (pv 1) b8))) b9)))
   (c7 (P6 PassesOwn.never rfl (az7 rfl n_enumerate (b7 (pv 0) b8)) (show PG _ _ (U2 K 2 (w9 (t4 3) (w9 (t4 4) U3))) from by (refine F4 (n:=2) ?_ ?_ ?_ ?_;rfl;(refine j1 ?_ ?_ ?_;(exact (d5 (i:=3) G1.nd rfl (q0x rfl)));(refine j1 ?_ ?_ ?_;(exact (d5 (i:=4) G1.nd rfl (q0x rfl)));(exact C6);rfl);rfl);rfl;rfl)) (d4 (P6 PassesOwn.never rfl (az7 rfl n_enumerate (b7 (pv 1) b8)) (show PG _ _ (U2 K 2 (w9 (t4 5) (w9 (t4 6) U3))) from by (refine F4 (n:=2) ?_ ?_ ?_ ?_;rfl;(refine j1 ?_ ?_ ?_;(exact (d5 (i:=5) G1.nd rfl (q0x rfl)));(refine j1 ?_ ?_ ?_;(exact (d5 (i:=6) G1.nd rfl (q0x rfl)));(exact C6);rfl);rfl);rfl;rfl)) (d4 (K7 (d2 G__law_plus hr (b7 (j6 j9 (pv 2) (i5 E9 (pv 3) (pv 5)) (λ_ _=>rfl)) (b7 (d2 G__law_times hr (b7 (pv 4) (b7 (pv 6) b8)) i4) b8)) i4) (V7 (pv 2) (i5 E9 (pv 3) (pv 5)) K2))))))
   (d4 (j2 (d2 G__law_trim hr (b7 (pv 2) b8) i4)))))),?_⟩
 rw [show start ["_law_p","_law_q","_law_found","_law_i","_law_one_here","_law_j","_law_other_here"] [.ref a,.ref b]=[some (.ref a),some (.ref b),none,none,none,none,none] from rfl]
 subst_eqs
 have tl0:ad8 ([]:List Rat) 0:=⟨q0h _,λi q _ e=>by simp at e,λh=>absurd rfl h⟩
 refine ⟨by decide,λp hp=>?_⟩
 have S1:=c9.new hp (.lst []);refine ⟨O6 ps,O6 [],rfl,W7 (S1.seq hS) (hN.mono S1.tups),W7 (SqL.of c6) .nil,al7 _ _,q0s (au5 _) (by decide),?_⟩
 rw [ah6];refine ⟨_,rfl,F2 (λh=>⟨by decide,λr hr'=>?_⟩) (λh=>?_)⟩
 ·have e:Q8 ps qs=[]:=by rw [Q8,if_pos (.inl (by simpa using h))]
  rw [e] at k;exact k 0 r [] _ tl0 (by simp) (S1.trans (c9.new hr' _)) (S1.free hr') c6 .nil
 have np:ps ≠ []:=λz=>h (by simp [z])
 refine ⟨by decide,λp2 hp2=>?_⟩
 have S2:=S1.trans (c9.new hp2 (.lst []));refine ⟨O6 qs,O6 [],rfl,W7 (S2.seq hS') (hN'.mono S2.tups),W7 (SqL.of c6) .nil,al7 _ _,q0s (au5 _) (by decide),?_⟩
 rw [ah6];refine ⟨_,rfl,F2 (λh=>⟨by decide,λr hr'=>?_⟩) (λh=>?_)⟩
 ·have e:Q8 ps qs=[]:=by rw [Q8,if_pos (.inr (by simpa using h))]
  rw [e] at k;exact k 0 r [] _ tl0 (by simp) (S2.trans (c9.new hr' _)) (S2.free hr') c6 .nil
 have nq:qs ≠ []:=λz=>h (by simp [z])
 have lx:=hN.length;have ly:=hN'.length;have lp:0<ps.length:=u0f.mpr np;have lq:0<qs.length:=u0f.mpr nq;refine ⟨t8,λp3 hp3=>⟨aU9,λp4 hp4=>?_⟩⟩;have S3:=S2.trans (c9.new hp3 (.tup [.int 0,.int 1]));have S4:=S3.trans (c9.new hp4 (.lst [.ref p3]));refine ⟨_,.inl (S4.seq hS),_,.inl (S4.seq hS'),_,c6,by lia,by lia,?_,λl hl0=>?_⟩
 ·simp only [j0m,List.length_nil]
  exact q0s (show _<=40 by lia) (by decide)
 have hz:(z0a ((xs.length:Int)+(ys.length:Int)-1).toNat [V.ref p3]).flatten=z0a (ps.length+qs.length-1) (V.ref p3):=by
  have e:((xs.length:Int)+(ys.length:Int)-1).toNat=ps.length+qs.length-1:=by lia
  rw [e,List.flatten_replicate_singleton]
 rw [hz];have S5:=S4.trans (c9.new hl0 (.lst (z0a (ps.length+qs.length-1) (.ref p3))));have hlH:H l=none:=S4.free hl0;have ez:(upd (upd (upd (upd (upd H p (.lst [])) p2 (.lst [])) p3 (.tup [.int 0,.int 1])) p4 (.lst [.ref p3])) l (.lst (z0a (ps.length+qs.length-1) (.ref p3)))) p3=some (.tup (E8 0)):=c9.new hl0 _ _ _ (c9.new hp4 _ _ _ c6)
 refine ⟨_,rfl,a,rfl,⟨_,S5.seq hS⟩,aD2 xs (λi σ H2 => ∃ o3 o4 o5 o6,σ=[some (.ref a),some (.ref b),some (.ref l),o3,o4,o5,o6]/\c9 H H2/\∃ zs,H2 l=some (.lst zs)/\C9 H2 zs (J4 0 (z0a (ps.length+qs.length-1) (0:Rat)) ps qs i)/\∀ v ∈ J4 0 (z0a (ps.length+qs.length-1) (0:Rat)) ps qs i,OvB (B*C) (V'+W+i*qs.length) v)
  ⟨_,_,_,_,rfl,S5,_,c6,C9.rep ez _,λv hv=>by rw [(List.mem_replicate.mp hv).2];exact OvB.zero _ _⟩ (λi σ H2 ⟨_,_,_,_,_,s2,_⟩=>s2.seq hS) ?_ ?_⟩
 ·rintro i x σ H2 r hx ⟨o3,o4,o5,o6,rfl,s2,zs,e2,n2,b2⟩ hr'
  obtain ⟨px,q,rfl,hq,hpx⟩:=hN.getV hx;have hi:=(q0g.mp hq).1;have sr:=c9.new hr' (.tup [.int i,.ref px]);refine ⟨_,_,rfl,SqT.of c6,rfl,_,_,rfl,_,_,rfl,rfl,?_⟩
  refine ⟨_,rfl,b,rfl,⟨_,(s2.trans sr).seq hS'⟩,aD2 ys (λj σ H4 => ∃ o5 o6,σ=[some (.ref a),some (.ref b),some (.ref l),some (.int i),some (.ref px),o5,o6]/\c9 H H4/\∃ zs,H4 l=some (.lst zs)/\C9 H4 zs (N7 0 (J4 0 (z0a (ps.length+qs.length-1) (0:Rat)) ps qs i) i q qs j)/\∀ v ∈ N7 0 (J4 0 (z0a (ps.length+qs.length-1) (0:Rat)) ps qs i) i q qs j,OvB (B*C) (V'+W+(i*qs.length+j)) v)
   ⟨_,_,rfl,s2.trans sr,_,sr _ _ e2,n2.mono sr.tups,b2⟩ (λi σ H2 ⟨_,_,_,s2,_⟩=>s2.seq hS') ?_ ?_⟩
  ·rintro j y σ H4 t hy ⟨o5,o6,rfl,s4,zs4,e4,n4,b4⟩ ht
   obtain ⟨py,q',rfl,hq',hpy⟩:=hN'.getV hy;have hj:=(q0g.mp hq').1;have st:=c9.new ht (.tup [.int j,.ref py]);have e5:=st _ _ e4
   have hF:i+j<(N7 0 (J4 0 (z0a (ps.length+qs.length-1) (0:Rat)) ps qs i) i q qs j).length:=by
    rw [aw5,an9,y0n];lia
   have eg:=q0d hF;obtain ⟨pv,hv,hpv⟩:=(n4.mono st.tups).get eg;have ec:(i:Int)+(j:Int)=((i+j:Nat):Int):=by simp
   have hc:i*qs.length+j<400:=by
    have h1:i*qs.length<=19*qs.length:=v0k _ (by lia)
    lia
   subst_eqs
   have o1:=hs q (q0c hq);have o2:=hs' q' (q0c hq');have sq:=o1.bt hB hBe (by lia)
   have sq':=o2.bt hC hCe (by lia)
   refine ⟨_,SqT.of c6,rfl,_,_,rfl,_,_,rfl,rfl,_,rfl,_,SqL.of e5,_,(by rw [ec];exact v9 hv),?_⟩
   refine ⟨_,_,q,q',e,e,rfl,⟨px,rfl,SqT.of (st _ _ (s4 _ _ hpx))⟩,⟨py,rfl,SqT.of (st _ _ (s4 _ _ hpy))⟩,sq,sq',by lia,λr1 H5 s5 er1=>?_⟩
   have bold:=b4 _ (List.getElem_mem hF);refine ⟨_,_,_,_,e,e,rfl,⟨pv,rfl,SqT.of (s5 _ _ hpv)⟩,⟨r1,rfl,SqT.of er1⟩,bold.bt hBCp hBC (by lia),(o1.mul o2).bt hBCp hBC (by lia),⋯,λr2 H6 s6 er2=>?_⟩
   have e6:=s6 _ _ (s5 _ _ e5);have lz:zs4.length=(N7 0 (J4 0 (z0a (ps.length+qs.length-1) (0:Rat)) ps qs i) i q qs j).length:=n4.length;have n6:C9 H6 zs4 (N7 0 (J4 0 (z0a (ps.length+qs.length-1) (0:Rat)) ps qs i) i q qs j):=((n4.mono st.tups).mono s5.tups).mono s6.tups
   have estep:N7 0 (J4 0 (z0a (ps.length+qs.length-1) (0:Rat)) ps qs i) i q qs (j+1)=af4 (N7 0 (J4 0 (z0a (ps.length+qs.length-1) (0:Rat)) ps qs i) i q qs j) (i+j) (q*q'):=by
    rw [N7,hq'];rfl
   refine ⟨_,rfl,_,e6,i+j,?_,(s4.trans (st.trans (s5.trans s6))).over hlH _,_,c6,?_,?_⟩
   ·rw [ec]
    unfold ixN;rw [if_pos (by lia),if_pos (by rw [lz];lia)]
    rfl
   ·rw [estep,<- aI9 _ _ _ _ eg]
    exact (n6.set (i+j) er2).mono (aa2.lst e6)
   ·rw [estep]
    intro v hv';exact (bf8 hBCp b4 ((o1.mul o2).mono (by simp)) v hv').mono (by lia)
  ·rintro σ H4 ⟨o5,o6,rfl,s4,zs4,e4,n4,b4⟩
   refine ⟨_,_,_,_,rfl,s4,zs4,e4,?_,?_⟩
   ·rw [ly] at n4
    rw [J4,hq];exact n4
   ·rw [ly] at b4
    rw [J4,hq];intro v hv;refine (b4 v hv).mono ?_;have e:(i+1)*qs.length=i*qs.length+qs.length:=by grind
    lia
 ·rintro σ H2 ⟨o3,o4,o5,o6,rfl,s2,zs,e2,n2,b2⟩
  rw [lx] at n2 b2;have em:Q8 ps qs=J4 0 (z0a (ps.length+qs.length-1) 0) ps qs ps.length:=by rw [Q8,if_neg (by simp [np,nq])]
  rw [<- em] at n2 b2;refine ⟨_,rfl,l,zs,_,rfl,SqL.of e2,n2,λm r H3 tl s3 hr' e3=>?_⟩;refine k m r _ _ tl (λv hv=>(b2 v hv).mono ?_) (s2.trans s3) (s2.free hr') e3 ((n2.take m).mono s3.tups);have:ps.length*qs.length<=20*20:=y0y hl hl'
  lia
theorem by8 {q:Rat} {b:Nat} (s:BdN b q) (h:q ≠ 0):∃ q',E8 q'=[.int (if q.num<0 then -q.num else q.num),.int (q.den:Int)]/\BdN b q'/\q' ≠ 0:=by
 by_cases hs:0<=q.num
 ·exact ⟨q,by unfold E8;rw [if_neg (by lia)],s,h⟩
 ·refine ⟨-q,by unfold E8;rw [u0e,u0z,if_pos (by lia)],⟨by rw [u0e,v0n];exact s.n,by rw [u0z];exact s.d⟩,λz=>h ?_⟩
  grind
abbrev ab9:Stmt:=top 63
theorem ap6:j4 ["_law_urn_here","_law_kind_here","_law_found"] ["_law_urn_here","_law_kind_here"] (c8 ab9):=by and_intros
theorem aC6 {f f1:Addr} (d:Df K mg "_law_above" ab9 ["_law_urn_here","_law_kind_here"] f) (GD__law_other:Def P w K mg base CX0 3 "_law_other" f1 ["_law_urn_here","_law_kind_here"] ag2) (n_abs:mg "abs" = none):Def P w K mg base CX0 4 "_law_above" f ["_law_urn_here","_law_kind_here"] ag2:=by
 refine d.ok (N:=["_law_urn_here","_law_kind_here","_law_found"]) ap6 (by rintro vs H Q E ⟨_,_,h,_⟩;rw [h];rfl) (λcdv A outer s H vs Q E hr h=>?_)
 obtain ⟨u,kd,rfl,hu,k⟩:=h;have G__law_other:=GD__law_other
 refine ⟨_,(c7 (i9 (i:=2) ap6.nd rfl (q0x rfl) (d2 G__law_other hr (b7 (pv 0) (b7 (pv 1) b8)) i4))
   (d4 (j2 (m6 (b7 (i7 ad5 rfl n_abs (by decide +kernel) (b7 (j6 y3 (pv 2) b9 (λ_ _=>rfl)) b8)) (b7 (j6 y3 (pv 2) b9 (λ_ _=>rfl)) b8)))))),?_⟩
 rw [show start ["_law_urn_here","_law_kind_here","_law_found"] [.ref u,.int kd]=[some (.ref u),some (.int kd),none] from rfl]
 subst_eqs
 refine ⟨u,kd,rfl,hu,λr q H1 sm q0 s1 u1 e1=>?_⟩;obtain ⟨q',e',b',z'⟩:=by8 sm q0;refine ⟨r,rfl,_,SqT.of e1,_,at0 q,_,rfl,r,rfl,_,SqT.of e1,_,at1 q,t8,λp hp=>?_⟩;refine k p q' _ b' z' (s1.trans (c9.x (c9.new hp _) u)) (J2 u1 hp) ?_;rw [c6,e']
def bh8 (K:q0a):Sp:=λvs H Q _ => ∃ x q,vs=[x]/\Num K H x q/\∀ i:Int,-1<=i->i<=1->Q (.int i) H
abbrev ae2:Stmt:=top 59
theorem aL0:j4 ["_law_number_here"] ["_law_number_here"] (c8 ae2):=by and_intros
theorem aN6 {f:Addr} (d:Df K mg "_law_sign" ae2 ["_law_number_here"] f) (n_int:mg "int" = none):Def P w K mg base CX0 1 "_law_sign" f ["_law_number_here"] (bh8 K):=by
 refine d.ok (N:=["_law_number_here"]) aL0 (by rintro vs H Q E ⟨_,_,h,_⟩;rw [h];rfl) (λcdv A outer s H vs Q E hr h=>?_)
 obtain ⟨x,q,rfl,⟨a,rfl,ha⟩,k⟩:=h;refine ⟨_,(d4 (j2 (i5 U1 (C8 M0 rfl n_int (by decide +kernel) (b7 (G3 aj9 (j6 y3 (pv 0) b9 (λ_ _=>rfl)) b9 (j8 _)) b8)) (C8 M0 rfl n_int (by decide +kernel) (b7 (G3 al4 (j6 y3 (pv 0) b9 (λ_ _=>rfl)) b9 (j8 _)) b8))))),?_⟩
 rw [show start ["_law_number_here"] [.ref a]=[some (.ref a)] from rfl]
 subst_eqs
 refine ⟨_,ha,_,at0 q,_,rfl,_,ha,_,at0 q,_,rfl,k _ ?_ ?_⟩
 ·split <;> split <;> simp
 ·split <;> split <;> simp
def aY4 (K:q0a):Sp:=λvs H Q _ => ∃ (x:V) (q:Rat) (m:Int),vs=[x,.int m]/\Num K H x q/\BdN 100 q/\0<=m/\m<=4/\∀ r i j l H',c9 H H'->H r=none->H' r=some (.tup [.int i,.int j,.int l])->Q (.ref r) H'
abbrev ab6:Stmt:=top 66
theorem ap4:j4 ["_law_far","_law_many","_law_sign_here"] ["_law_far","_law_many"] (c8 ab6):=by and_intros
theorem aF7 {f f1 f2:Addr} (d:Df K mg "_law_round" ab6 ["_law_far","_law_many"] f) (G__law_sign:Def P w K mg base CX0 1 "_law_sign" f1 ["_law_number_here"] (bh8 K)) (G__law_less:Def P w K mg base CX0 2 "_law_less" f2 ["_law_one_here","_law_other_here"] (J3 K (· - ·))) (n_int:mg "int" = none):Def P w K mg base CX0 3 "_law_round" f ["_law_far","_law_many"] (aY4 K):=by
 refine d.ok (N:=["_law_far","_law_many","_law_sign_here"]) ap4 (by rintro vs H Q E ⟨_,_,_,h,_⟩;rw [h];rfl) (λcdv A outer s H vs Q E hr h=>?_)
 obtain ⟨x,q,m,rfl,hx,bq,m0,m4,k⟩:=h
 refine ⟨_,(c7 (i9 (i:=2) ap4.nd rfl (q0x rfl) (d2 G__law_sign hr (b7 (d2 G__law_less hr (b7 (pv 0) (b7 (m6 (b7 b9 (b7 b9 b8))) b8)) i4) b8) i4))
   (d4 (j2 (m6 (b7 (i5 z9 (pv 1) (C8 M0 rfl n_int (by decide +kernel) (b7 (G3 al4 (pv 2) b9 (j8 _)) b8))) (b7 (i5 z9 (pv 1) (C8 M0 rfl n_int (by decide +kernel) (b7 (G3 Q3 (pv 2) b9 (j8 _)) b8))) (b7 (i5 z9 (pv 1) (C8 M0 rfl n_int (by decide +kernel) (b7 (G3 aj9 (pv 2) b9 (j8 _)) b8))) b8))))))),?_⟩
 rw [show start ["_law_far","_law_many","_law_sign_here"] [x,.int m]=[some (x),some (.int m),none] from rfl]
 subst_eqs
 refine ⟨t8,λp hp=>?_⟩;have S1:=c9.new hp (.tup [.int 1,.int 1]);refine ⟨_,_,q,1,100,1,rfl,hx.same S1,⟨p,rfl,SqT.of c6⟩,bq.t (by decide),(⟨by decide,by decide⟩:BdN 1 (1:Rat)).t (by decide),by decide,λp2 H2 s2 e2=>?_⟩
 refine ⟨_,_,rfl,⟨p2,rfl,SqT.of e2⟩,λi i0 i1=>?_⟩;refine ⟨i,rfl,ap8 ?_,rfl,ap8 ?_,i,rfl,ap8 ?_,(by decide:3<=sizeLine),λp3 hp3=>k p3 _ _ _ _ (S1.trans (s2.trans (c9.new hp3 _))) ((S1.trans s2).free hp3) c6⟩
 all_goals (split <;> decide)
structure aq0 (u:Addr) (H:Hp) (t l rt:Addr) (xs:List V) (fs:List Rat) (i j m:Int) (C:Nat):Prop where
 tu:t ≠ u
 et:H t=some (.tup [.ref l,.ref rt])
 ls:LsX u H l xs fs
 ru:rt ≠ u
 er:H rt=some (.tup [.int i,.int j,.int m])
 l2:2<=fs.length
 l5:fs.length<=5
 C0:0<C
 C1:C<2 ^ 12
 ov:∀ x ∈ fs,OvB C 14 x
 last:fs[fs.length-1]? = some 1
theorem Z1 {q:Rat} {b:Nat} (h:BdN b q):OvB q.den b q:=⟨q.num,(z0j q).symm,h.n⟩
theorem ai8 {C:Nat} (hC:0<C) {W:Nat} (h:C<2 ^ W):OvB C W 1:=by
 refine ⟨C,?_,by rw [q0w];exact h⟩
 have hz:(C:Int) ≠ 0:=by lia
 exact (Rat.divInt_self' hz).symm
theorem aM9 {v:Int} {W:Nat} (h:v.natAbs<2 ^ W):OvB 1 W (v:Rat):=by
 refine ⟨v,?_,h⟩;have:=z0j (v:Rat);rw [g0m,g0n] at this;exact this.symm
theorem ak8:(3:Nat)<=sizeLine:=by decide
theorem bx3 {P:Rat->Prop} {a b c:Rat} (ha:P a) (hb:P b) (hc:P c):∀ x ∈ [a,b,c],P x:=λx hx=>by
 simp only [z0m,m0g,or_false] at hx;rcases hx with rfl | rfl | rfl
 ·exact ha
 ·exact hb
 ·exact hc
theorem bA4 {P:Rat->Prop} {a b:Rat} (ha:P a) (hb:P b):∀ x ∈ [a,b],P x:=λx hx=>by
 simp only [z0m,m0g,or_false] at hx;rcases hx with rfl | rfl
 ·exact ha
 ·exact hb
theorem V1 (q:Rat):0<q.den:=by have:=q.den_nz;lia
def aQ5 (K:q0a):Sp:=λvs H Q _ => ∃ u kd,vs=[.ref u,.int kd]/\y9 H u/\(kd=0 \/ kd=1)/\∀ t l rt xs fs i j m C H',A0 u H H'->y9 H' u->aq0 u H' t l rt xs fs i j m C->Q (.ref t) H'
abbrev N5:Stmt:=top 67
theorem A3:j4 ["_law_urn_here","_law_kind_here","_law_way","_law_v","_law_top","_law_u","_law_root","_law_far"] ["_law_urn_here","_law_kind_here"] (c8 N5):=by and_intros
theorem al6 {f f1 f2 f3 f4 f5 f6 f7:Addr} (d:Df K mg "_law_round_factor" N5 ["_law_urn_here","_law_kind_here"] f) (G__law_draw:Def P w K mg base CX0 1 "_law_draw" f1 ["_law_urn_here","_law_many"] F9) (G__law_low:Def P w K mg base CX0 1 "_law_low" f2 ["_law_top","_law_bottom"] ap3) (G__law_times:Def P w K mg base CX0 2 "_law_times" f3 ["_law_one_here","_law_other_here"] (J3 K (· * ·))) (G__law_plus:Def P w K mg base CX0 2 "_law_plus" f4 ["_law_one_here","_law_other_here"] (J3 K (· + ·))) (GD__law_number:Def P w K mg base CX0 2 "_law_number" f5 ["_law_urn_here","_law_kind_here"] ac4) (GD__law_above:Def P w K mg base CX0 4 "_law_above" f6 ["_law_urn_here","_law_kind_here"] ag2) (G__law_round:Def P w K mg base CX0 3 "_law_round" f7 ["_law_far","_law_many"] (aY4 K)) (n_abs:mg "abs" = none):Def P w K mg base CX0 5 "_law_round_factor" f ["_law_urn_here","_law_kind_here"] (aQ5 K):=by
 refine d.ok (N:=["_law_urn_here","_law_kind_here","_law_way","_law_v","_law_top","_law_u","_law_root","_law_far"]) A3 (by rintro vs H Q E ⟨_,_,h,_⟩;rw [h];rfl) (λcdv A outer s H vs Q E hr h=>?_)
 obtain ⟨u,kd,rfl,hU,hk,k⟩:=h;have G__law_number:=GD__law_number;have G__law_above:=GD__law_above;have hb:bK kd=4:=by rcases hk with rfl | rfl <;> rfl
 refine ⟨_,(c7 (i9 (i:=2) A3.nd rfl (q0x rfl) (d2 G__law_draw hr (b7 (pv 0) (b7 b9 b8)) i4))
   (c7 (E7 (l9 Q3 (pv 2) b9 (j8 _)) (d4 (j2 (m6 (b7 (C5 (b7 (m6 (b7 (j6 j9 (C5 (b7 (aa0 Q5 b9) (b7 b9 b8))) (d2 G__law_draw hr (b7 (pv 0) (b7 b9 b8)) i4) (λ_ _=>rfl)) (b7 b9 b8))) (b7 (m6 (b7 b9 (b7 b9 b8))) b8))) (b7 (m6 (b7 b9 (b7 b9 (b7 b9 b8)))) b8))))) o0)
   (c7 (E7 (l9 Q3 (pv 2) b9 (j8 _)) (c7 (i9 (i:=4) A3.nd rfl (q0x rfl) (i5 U1 (d2 G__law_draw hr (b7 (pv 0) (b7 b9 b8)) i4) b9))
   (c7 (i9 (i:=5) A3.nd rfl (q0x rfl) (d2 G__law_low hr (b7 (pv 4) (b7 (i5 E9 (i5 E9 (i7 ad5 rfl n_abs (by decide +kernel) (b7 (pv 4) b8)) b9) (d2 G__law_draw hr (b7 (pv 0) (b7 b9 b8)) i4)) b8)) i4))
   (d4 (j2 (m6 (b7 (C5 (b7 (m6 (b7 b9 (b7 b9 b8))) (b7 (d2 G__law_times hr (b7 (m6 (b7 (aa0 Q5 b9) (b7 b9 b8))) (b7 (pv 5) b8)) i4) (b7 (m6 (b7 b9 (b7 b9 b8))) b8)))) (b7 (m6 (b7 b9 (b7 b9 (b7 b9 b8)))) b8))))))) o0)
   (c7 (E7 (l9 al4 (pv 2) b9 (j8 _)) (c7 (i9 (i:=6) A3.nd rfl (q0x rfl) (d2 G__law_number hr (b7 (pv 0) (b7 (pv 1) b8)) i4))
   (d4 (j2 (m6 (b7 (C5 (b7 (m6 (b7 (i5 U1 b9 (j6 y3 (pv 6) b9 (λ_ _=>rfl))) (b7 (j6 y3 (pv 6) b9 (λ_ _=>rfl)) b8))) (b7 (m6 (b7 b9 (b7 b9 b8))) b8))) (b7 (d2 G__law_round hr (b7 (d2 G__law_times hr (b7 (pv 6) (b7 (pv 6) b8)) i4) (b7 b9 b8)) i4) b8)))))) o0)
   (c7 (i9 (i:=3) A3.nd rfl (q0x rfl) (d2 G__law_above hr (b7 (pv 0) (b7 (pv 1) b8)) i4))
   (c7 (E7 (l9 al4 (pv 2) b9 (j8 _)) (c7 (i9 (i:=5) A3.nd rfl (q0x rfl) (d2 G__law_number hr (b7 (pv 0) (b7 (pv 1) b8)) i4))
   (c7 (i9 (i:=7) A3.nd rfl (q0x rfl) (d2 G__law_plus hr (b7 (d2 G__law_times hr (b7 (pv 5) (b7 (pv 5) b8)) i4) (b7 (pv 3) b8)) i4))
   (d4 (j2 (m6 (b7 (C5 (b7 (pv 7) (b7 (d2 G__law_times hr (b7 (m6 (b7 (aa0 Q5 b9) (b7 b9 b8))) (b7 (pv 5) b8)) i4) (b7 (m6 (b7 b9 (b7 b9 b8))) b8)))) (b7 (d2 G__law_round hr (b7 (pv 7) (b7 b9 b8)) i4) b8))))))) o0)
   (c7 (E7 (l9 Q3 (pv 2) b9 (j8 _)) (c7 (i9 (i:=3) A3.nd rfl (q0x rfl) (m6 (b7 (i5 z9 (j6 y3 (pv 3) b9 (λ_ _=>rfl)) (j6 j9 (C5 (b7 b9 (b7 (aa0 Q5 b9) b8))) (d2 G__law_draw hr (b7 (pv 0) (b7 b9 b8)) i4) (λ_ _=>rfl))) (b7 (j6 y3 (pv 3) b9 (λ_ _=>rfl)) b8))))
   (d4 (j2 (m6 (b7 (C5 (b7 (pv 3) (b7 (m6 (b7 b9 (b7 b9 b8))) (b7 (m6 (b7 b9 (b7 b9 b8))) b8)))) (b7 (d2 G__law_round hr (b7 (d2 G__law_times hr (b7 (pv 3) (b7 (pv 3) b8)) i4) (b7 b9 b8)) i4) b8)))))) o0)
   (d4 (j2 (m6 (b7 (C5 (b7 (pv 3) (b7 (m6 (b7 b9 (b7 b9 b8))) (b7 (m6 (b7 b9 (b7 b9 b8))) (b7 (m6 (b7 b9 (b7 b9 b8))) (b7 (m6 (b7 b9 (b7 b9 b8))) b8)))))) (b7 (d2 G__law_round hr (b7 (pv 3) (b7 b9 b8)) i4) b8)))))))))))),?_⟩
 rw [show start ["_law_urn_here","_law_kind_here","_law_way","_law_v","_law_top","_law_u","_law_root","_law_far"] [.ref u,.int kd]=[some (.ref u),some (.int kd),none,none,none,none,none,none] from rfl]
 refine k7 (λσ H1 => ∃ wy:Int,σ=[some (.ref u),some (.int kd),some (.int wy),none,none,none,none,none]/\A0 u H H1/\y9 H1 u/\0<=wy/\wy<8) (λN hN=>?_) ?_
 ·simp! [F9]
  exact ⟨hU,by decide,by decide,λr H1 r0 r7 s1 u1=>hN _ _ ⟨r,rfl,s1,u1,r0,r7⟩⟩
 rintro σ H1 ⟨wy,rfl,s1,u1,w0,w8⟩;refine k7 (λσ H2=>σ=[some (.ref u),some (.int kd),some (.int wy),none,none,none,none,none]/\H1=H2) (λN hN=>?_) ?_
 ·simp! [F9]
  refine ⟨rfl,F2 (λhw=>?_) (λhw=>hN _ _ ⟨rfl,rfl⟩)⟩;refine ⟨t8,λp hp=>⟨J2 u1 hp,by decide,by decide,λr H3 r0 r2 s3 u3=>?_⟩⟩
  have e3:=s3 p _ c6 (E1 u1 hp);have sx:=s1.trans ((c9.x (c9.new hp (.lst [.int (-1),.int 1])) u).trans s3)
  have go:∀ z:Int,z=-1 \/ z=1->atI [V.int (-1),V.int 1] r=some (.int z)->∃ x,SqL K H3 p x/\∃ x_1,atI x r=some x_1/\0+1+1<=sizeLine/\∀ (p:Addr),H3 p=none->0+1+1<=sizeLine/\∀ (p_1:Addr),upd H3 p (HO.tup [x_1,V.int 1]) p_1=none->0+1+1<=sizeLine/\∀ (p_2:Addr),upd (upd H3 p (HO.tup [x_1,V.int 1])) p_1 (HO.tup [V.int 1,V.int 1]) p_2=none->0+1+1+1<=sizeLine/\∀ (p_3:Addr),upd (upd (upd H3 p (HO.tup [x_1,V.int 1])) p_1 (HO.tup [V.int 1,V.int 1])) p_2 (HO.lst [V.ref p,V.ref p_1]) p_3=none->0+1+1<=sizeLine/\∀ (p_4:Addr),upd (upd (upd (upd H3 p (HO.tup [x_1,V.int 1])) p_1 (HO.tup [V.int 1,V.int 1])) p_2 (HO.lst [V.ref p,V.ref p_1])) p_3 (HO.tup [V.int 0,V.int 1,V.int 0]) p_4=none->Q (V.ref p_4) (upd (upd (upd (upd (upd H3 p (HO.tup [x_1,V.int 1])) p_1 (HO.tup [V.int 1,V.int 1])) p_2 (HO.lst [V.ref p,V.ref p_1])) p_3 (HO.tup [V.int 0,V.int 1,V.int 0])) p_4 (HO.tup [V.ref p_2,V.ref p_3])):=λz hz ha=>by
   refine ⟨_,SqL.of e3,_,ha,t8,λq1 h1=>⟨t8,λq2 h2=>⟨t8,λq3 h3=>⟨ak8,λq4 h4=>⟨t8,λq5 h5=>?_⟩⟩⟩⟩⟩;have S1:=c9.new h1 (.tup [.int z,.int 1]);have S2:=c9.new h2 (.tup [.int 1,.int 1]);have S3:=c9.new h3 (.lst [.ref q1,.ref q2]);have S4:=c9.new h4 (.tup [.int 0,.int 1,.int 0]);have S5:=c9.new h5 (.tup [.ref q3,.ref q4]);have T4:=S4.trans S5;have T3:=S3.trans T4;have T2:=S2.trans T3;have T1:=S1.trans T2;have v1:=J2 (o:=.tup [.int z,.int 1]) u3 h1;have v2:=J2 (o:=.tup [.int 1,.int 1]) v1 h2;have v3:=J2 (o:=.lst [.ref q1,.ref q2]) v2 h3;have v4:=J2 (o:=.tup [.int 0,.int 1,.int 0]) v3 h4;have ez:(HO.tup [V.int z,V.int 1])=.tup (E8 (z:Rat)):=by unfold E8;rw [g0m,g0n];rfl
   exact k q5 q3 q4 [.ref q1,.ref q2] [(z:Rat),1] 0 1 0 1 _ (sx.trans (c9.x T1 u)) (c9.urn T1 u3) ⟨E1 v4 h5,c6,⟨E1 v2 h3,T4 _ _ c6,.cons (T2 _ _ (by rw [c6,ez])) (.cons (T3 _ _ c6) .nil)⟩,E1 v3 h4,S5 _ _ c6,by simp,by simp,by decide,by decide,bA4 (aM9 (by lia)) (ai8 (by decide) (by decide)),rfl⟩
  have h3:r=0 \/ r=1:=by lia
  rcases h3 with h | h <;> subst h
  ·exact go (-1) (.inl rfl) rfl
  ·exact go 1 (.inr rfl) rfl
 rintro σ H2 ⟨rfl,rfl⟩;refine k7 (λσ H2=>σ=[some (.ref u),some (.int kd),some (.int wy),none,none,none,none,none]/\H1=H2) (λN hN=>?_) ?_
 ·simp! [F9]
  refine ⟨rfl,F2 (λhw=>?_) (λhw=>hN _ _ ⟨rfl,rfl⟩)⟩;refine ⟨u1,by decide,by decide,λr H3 r0 r19 s3 u3=>⟨u3,by decide,by decide,λr1 H4 r10 r16 s4 u4=>?_⟩⟩
  obtain ⟨bt,hbt⟩:∃ bt:Int,bt=(if r-9<0 then -(r-9) else r-9)+1+r1:=⟨_,rfl⟩;have hb0:1<=bt/\bt<=15:=by rw [hbt];split <;> lia
  rw [<- hbt];refine ⟨_,_,rfl,⋯,q0b (show bt.natAbs<2 ^ 64 by omega) (i6 (by decide)),λpu H5 s5 e5=>?_⟩
  obtain ⟨u0,hu0⟩:∃ q,q=q0z (r-9) bt:=⟨_,rfl⟩;rw [<- hu0] at e5
  have bu:BdN 4 u0:=by
   have:=N9 (t:=r-9) (b:=bt) ⋯;rw [hu0];exact ⟨q0p this.1 (by lia),q0p this.2 ⋯⟩
  have u5:=c9.urn s5 u4;have sx:=s1.trans (s3.trans (s4.trans (c9.x s5 u)));refine ⟨t8,λq1 h1=>⟨t8,λq2 h2=>?_⟩⟩;have S1:=c9.new h1 (.tup [.int 1,.int 1]);have S2:=c9.new h2 (.tup [.int (-2),.int 1]);refine ⟨.ref q2,.ref pu,(((-2:Int)):Rat),u0,2,4,rfl,⟨q2,rfl,SqT.of c6⟩,⟨pu,rfl,SqT.of (S2 _ _ (S1 _ _ e5))⟩,(show BdN 2 (((-2:Int)):Rat) from ⟨by decide,by decide⟩).t (by decide),bu.t (by decide),by decide,λp3 H6 s6 e6=>?_⟩
  refine ⟨t8,λq4 h4=>⟨ak8,λq5 h5=>⟨ak8,λq6 h6=>⟨t8,λq7 h7=>?_⟩⟩⟩⟩;have S4:=c9.new h4 (.tup [.int 1,.int 1]);have S5:=c9.new h5 (.lst [.ref q1,.ref p3,.ref q4]);have S6:=c9.new h6 (.tup [.int 0,.int 2,.int 0]);have S7:=c9.new h7 (.tup [.ref q5,.ref q6]);have T6:=S6.trans S7;have T5:=S5.trans T6;have T4:=S4.trans T5;have T2:=S2.trans (s6.trans T4);have T1:=S1.trans T2;have v6:=c9.urn (S1.trans (S2.trans s6)) u5;have v4:=J2 (o:=.tup [.int 1,.int 1]) v6 h4;have v5:=J2 (o:=.lst [.ref q1,.ref p3,.ref q4]) v4 h5;have v6':=J2 (o:=.tup [.int 0,.int 2,.int 0]) v5 h6
  have om:OvB u0.den 14 (((-2:Int):Rat)*u0):=by
   have:=(aM9 (v:=-2) (W:=2) (by decide)).mul (Z1 bu)
   rw [q1s] at this;exact this.mono (by decide)
  exact k q7 q5 q6 [.ref q1,.ref p3,.ref q4] [1,((-2:Int):Rat)*u0,1] 0 2 0 u0.den _ (sx.trans (c9.x T1 u)) (c9.urn T1 u5) ⟨E1 v6' h7,c6,⟨E1 v4 h5,T6 _ _ c6,.cons (T2 _ _ c6) (.cons (T4 _ _ e6) (.cons (T5 _ _ c6) .nil))⟩,E1 v5 h6,S7 _ _ c6,by simp,by simp,V1 _,q0b bu.d (by decide),bx3 (ai8 (V1 _) (q0b bu.d (by decide))) om (ai8 (V1 _) (q0b bu.d (by decide))),rfl⟩
 rintro σ H2 ⟨rfl,rfl⟩;refine k7 (λσ H2=>σ=[some (.ref u),some (.int kd),some (.int wy),none,none,none,none,none]/\H1=H2) (λN hN=>?_) ?_
 ·subst_eqs
  refine F2 (λhw=>?_) (λhw=>hN _ _ ⟨rfl,rfl⟩);refine ⟨u,kd,rfl,u1,λpr root H3 br s3 u3 e3=>?_⟩;rw [hb] at br;refine ⟨pr,rfl,_,SqT.of e3,_,at0 root,_,rfl,pr,rfl,_,SqT.of e3,_,at1 root,t8,λq1 h1=>⟨t8,λq2 h2=>⟨t8,λq3 h3=>?_⟩⟩⟩;have S1:=c9.new h1 (.tup [.int (0-root.num),.int root.den]);have S2:=c9.new h2 (.tup [.int 1,.int 1]);have S3:=c9.new h3 (.lst [.ref q1,.ref q2]);have S13:=S1.trans (S2.trans S3);refine ⟨.ref pr,.ref pr,root,root,4,4,rfl,⟨pr,rfl,SqT.of (S13 _ _ e3)⟩,⟨pr,rfl,SqT.of (S13 _ _ e3)⟩,br.t (by decide),br.t (by decide),by decide,λp4 H4 s4 e4=>?_⟩
  refine ⟨.ref p4,_,1,rfl,⟨p4,rfl,SqT.of e4⟩,(br.mul br).mono (by decide),by decide,by decide,λrt i j l H5 s5 f5 e5=>⟨t8,λq6 h6=>?_⟩⟩
  have S6:=c9.new h6 (.tup [.ref q3,.ref rt]);have T4:=s4.trans (s5.trans S6);have T3:=S3.trans T4;have T2:=S2.trans T3;have T1:=S1.trans T2;have v3:=c9.urn (S1.trans S2) u3;have v4:=c9.urn (S13.trans s4) u3;have v5:=c9.urn ((S13.trans s4).trans s5) u3;have en:(HO.tup [V.int (0-root.num),V.int root.den])=.tup (E8 (-root)):=by unfold E8;rw [u0e,u0z,Int.zero_sub]
  exact k q6 q3 rt [.ref q1,.ref q2] [-root,1] i j l root.den _ ((s1.trans s3).trans (c9.x T1 u)) (c9.urn T1 u3) ⟨E1 v5 h6,c6,⟨E1 v3 h3,T4 _ _ c6,.cons (T2 _ _ (by rw [c6,en])) (.cons (T3 _ _ c6) .nil)⟩,E1 v4 f5,S6 _ _ e5,by simp,by simp,V1 _,q0b br.d (by decide),bA4 ((Z1 br).neg.mono (by decide)) (ai8 (V1 _) (q0b br.d (by decide))),rfl⟩
 rintro σ H2 ⟨rfl,rfl⟩;refine k7 (λσ H2 => ∃ av v,σ=[some (.ref u),some (.int kd),some (.int wy),some (.ref av),none,none,none,none]/\A0 u H H2/\y9 H2 u/\H2 av=some (.tup (E8 v))/\BdN 4 v) (λN hN=>?_) ?_
 ·subst_eqs
  refine ⟨u,kd,rfl,u1,λr v H2 bv v0 s2 u2 e2=>hN _ _ ⟨r,v,rfl,s1.trans s2,u2,e2,by rw [hb] at bv;exact bv⟩⟩
 clear s1 u1;rintro σ H2 ⟨av,v,rfl,s2,u2,ev,bv⟩;refine k7 (λσ H3=>σ=[some (.ref u),some (.int kd),some (.int wy),some (.ref av),none,none,none,none]/\H2=H3) (λN hN=>?_) ?_
 ·subst_eqs
  refine F2 (λhw=>?_) (λhw=>hN _ _ ⟨rfl,rfl⟩);refine ⟨u,kd,rfl,u2,λpu u0 H3 bu s3 u3 e3=>?_⟩;rw [hb] at bu;have ev3:=s3.tups u2 _ _ ev;refine ⟨.ref pu,.ref pu,u0,u0,4,4,rfl,⟨pu,rfl,SqT.of e3⟩,⟨pu,rfl,SqT.of e3⟩,bu.t (by decide),bu.t (by decide),by decide,λp4 H4 s4 e4=>?_⟩
  refine ⟨.ref p4,.ref av,_,v,8,4,rfl,⟨p4,rfl,SqT.of e4⟩,⟨av,rfl,SqT.of (s4 _ _ ev3)⟩,(bu.mul bu).t (by decide),bv.t (by decide),by decide,λpf H5 s5 e5=>⟨t8,λq1 h1=>?_⟩⟩
  have S1:=c9.new h1 (.tup [.int (-2),.int 1]);refine ⟨.ref q1,.ref pu,(((-2:Int)):Rat),u0,2,4,rfl,⟨q1,rfl,SqT.of c6⟩,⟨pu,rfl,SqT.of (S1 _ _ (s5 _ _ (s4 _ _ e3)))⟩,(show BdN 2 (((-2:Int)):Rat) from ⟨by decide,by decide⟩).t (by decide),bu.t (by decide),by decide,λp6 H6 s6 e6=>?_⟩
  refine ⟨t8,λq2 h2=>⟨ak8,λq3 h3=>?_⟩⟩;have S2:=c9.new h2 (.tup [.int 1,.int 1]);have S3:=c9.new h3 (.lst [.ref pf,.ref p6,.ref q2]);have bf:BdN 13 (u0*u0+v):=(bu.mul bu).add bv;refine ⟨.ref pf,u0*u0+v,2,rfl,⟨pf,rfl,SqT.of (S3 _ _ (S2 _ _ (s6 _ _ (S1 _ _ e5))))⟩,bf.mono (by decide),by decide,by decide,λrt i j l H7 s7 f7 e7=>⟨t8,λq8 h8=>?_⟩⟩
  have S8:=c9.new h8 (.tup [.ref q3,.ref rt]);have T7:=s7.trans S8;have T3:=S3.trans T7;have T2:=S2.trans T3;have T1:=S1.trans (s6.trans T2);have T:=s4.trans (s5.trans T1);have v2:=c9.urn (((s4.trans s5).trans S1).trans (s6.trans S2)) u3;have v3:=c9.urn S3 v2;have v7:=c9.urn s7 v3;have du:=V1 u0;have dv:=V1 v;have C0:0<u0.den*u0.den*v.den:=j0a (j0a du du) dv;have d8:u0.den*u0.den<2 ^ (4+4):=by rw [z0f];exact z0g bu.d bu.d
  have C1:u0.den*u0.den*v.den<2 ^ 12:=by
   have:u0.den*u0.den*v.den<2 ^ (4+4+4):=by rw [z0f 2 (4+4) 4];exact z0g d8 bv.d
   exact this
  have o1:OvB (u0.den*u0.den*v.den) 14 (u0*u0+v):=by
   have a1:=((Z1 bu).mul (Z1 bu)).up (j0a du du) dv bv.d;have a2:=(Z1 bv).up dv (j0a du du) d8;rw [v0z v.den] at a2;exact (a1.add C0 (a2.mono (by decide))).mono (by decide)
  have o2:OvB (u0.den*u0.den*v.den) 14 (((-2:Int):Rat)*u0):=by
   have a1:=(aM9 (v:=-2) (W:=2) (by decide)).mul (Z1 bu)
   rw [q1s] at a1;have d9:u0.den*v.den<2 ^ (4+4):=by rw [z0f];exact z0g bu.d bv.d
   have a2:=a1.up du (j0a du dv) d9;rw [<- Nat.mul_assoc] at a2;exact a2.mono (by decide)
  exact k q8 q3 rt [.ref pf,.ref p6,.ref q2] [u0*u0+v,((-2:Int):Rat)*u0,1] i j l (u0.den*u0.den*v.den) _ ((s2.trans s3).trans (c9.x T u)) (c9.urn T u3) ⟨E1 v7 h8,c6,⟨E1 v2 h3,T7 _ _ c6,.cons (T1 _ _ e5) (.cons (T2 _ _ e6) (.cons (T3 _ _ c6) .nil))⟩,E1 v3 f7,S8 _ _ e7,by simp,by simp,C0,C1,bx3 o1 o2 (ai8 C0 (q0b C1 (by decide))),rfl⟩
 rintro σ H3 ⟨rfl,rfl⟩;refine k7 (λσ H3=>σ=[some (.ref u),some (.int kd),some (.int wy),some (.ref av),none,none,none,none]/\H2=H3) (λN hN=>?_) ?_
 ·simp! [F9]
  refine ⟨rfl,F2 (λhw=>?_) (λhw=>hN _ _ ⟨rfl,rfl⟩)⟩;refine ⟨_,SqT.of ev,_,at0 v,t8,λp hp=>⟨J2 u2 hp,by decide,by decide,λr H3 r0 r2 s3 u3=>?_⟩⟩
  have u2':=J2 (o:=.lst [.int 1,.int (-1)]) u2 hp;have e3:=s3 p _ c6 (E1 u2 hp);have ev3:=s3.tups u2' _ _ (c9.new hp (.lst [.int 1,.int (-1)]) _ _ ev);have sx:=s2.trans ((c9.x (c9.new hp (.lst [.int 1,.int (-1)])) u).trans s3)
  obtain ⟨z,hz,ha⟩:∃ z:Int,(z=1 \/ z=-1)/\atI [V.int 1,V.int (-1)] r=some (.int z):=by
   have h3:r=0 \/ r=1:=⋯;rcases h3 with h | h <;> subst h
   ·exact ⟨1,.inl rfl,rfl⟩
   ·exact ⟨-1,.inr rfl,rfl⟩
  obtain ⟨v',en,bv',ov'⟩:∃ v':Rat,(HO.tup [V.int (v.num*z),V.int v.den])=.tup (E8 v')/\BdN 4 v'/\OvB v.den 4 v':=by
   rcases hz with rfl | rfl
   ·exact ⟨v,by rw [q1n];rfl,bv,Z1 bv⟩
   ·refine ⟨-v,?_,⟨by rw [u0e,v0n];exact bv.n,by rw [u0z];exact bv.d⟩,(Z1 bv).neg⟩
    unfold E8;rw [u0e,u0z,g0t,q1n]
  refine ⟨_,SqL.of e3,_,ha,_,rfl,z,rfl,ap8 (by lia),_,SqT.of ev3,_,at1 v,t8,λq1 h1=>⟨t8,λq2 h2=>⟨t8,λq3 h3=>⟨ak8,λq4 h4=>?_⟩⟩⟩⟩
  rw [en] at h2 h3 h4 ⊢;have S1:=c9.new h1 (.tup (E8 v'));have S2:=c9.new h2 (.tup [.int 0,.int 1]);have S3:=c9.new h3 (.tup [.int 1,.int 1]);have S4:=c9.new h4 (.lst [.ref q1,.ref q2,.ref q3]);have T14:=S2.trans (S3.trans S4);refine ⟨.ref q1,.ref q1,v',v',4,4,rfl,⟨q1,rfl,SqT.of (T14 _ _ c6)⟩,⟨q1,rfl,SqT.of (T14 _ _ c6)⟩,bv'.t (by decide),bv'.t (by decide),by decide,λp5 H5 s5 e5=>?_⟩
  refine ⟨.ref p5,_,2,rfl,⟨p5,rfl,SqT.of e5⟩,(bv'.mul bv').mono (by decide),by decide,by decide,λrt i j l H6 s6 f6 e6=>⟨t8,λq7 h7=>?_⟩⟩
  have S7:=c9.new h7 (.tup [.ref q4,.ref rt]);have T5:=s5.trans (s6.trans S7);have T4:=S4.trans T5;have T3:=S3.trans T4;have T2:=S2.trans T3;have T1:=S1.trans T2;have v3:=c9.urn (S1.trans (S2.trans S3)) u3;have v4:=c9.urn S4 v3;have v5:=c9.urn s5 v4;have v6:=c9.urn s6 v5;exact k q7 q4 rt [.ref q1,.ref q2,.ref q3] [v',0,1] i j l v.den _ (sx.trans (c9.x T1 u)) (c9.urn T1 u3) ⟨E1 v6 h7,c6,⟨E1 v3 h4,T5 _ _ c6,.cons (T2 _ _ c6) (.cons (T3 _ _ c6) (.cons (T4 _ _ c6) .nil))⟩,E1 v5 f6,S7 _ _ e6,by simp,by simp,V1 _,q0b bv.d (by decide),bx3 (ov'.mono (by decide)) (OvB.zero _ _) (ai8 (V1 _) (q0b bv.d (by decide))),rfl⟩
 rintro σ H3 ⟨rfl,rfl⟩
 subst_eqs
 refine ⟨t8,λq1 h1=>⟨t8,λq2 h2=>⟨t8,λq3 h3=>⟨t8,λq4 h4=>⟨(by decide:5<=sizeLine),λq5 h5=>?_⟩⟩⟩⟩⟩
 have S1:=c9.new h1 (.tup [.int 0,.int 1]);have S2:=c9.new h2 (.tup [.int 0,.int 1]);have S3:=c9.new h3 (.tup [.int 0,.int 1]);have S4:=c9.new h4 (.tup [.int 1,.int 1]);have S5:=c9.new h5 (.lst [.ref av,.ref q1,.ref q2,.ref q3,.ref q4]);have T15:=S1.trans (S2.trans (S3.trans (S4.trans S5)));refine ⟨.ref av,v,4,rfl,⟨av,rfl,SqT.of (T15 _ _ ev)⟩,bv.mono (by decide),by decide,by decide,λrt i j l H6 s6 f6 e6=>⟨t8,λq7 h7=>?_⟩⟩
 have S7:=c9.new h7 (.tup [.ref q5,.ref rt]);have T5:=s6.trans S7;have T4:=S5.trans T5;have T3:=S4.trans T4;have T2:=S3.trans T3;have T1:=S2.trans T2;have T:=S1.trans T1;have v4:=c9.urn (S1.trans (S2.trans (S3.trans S4))) u2;have v5:=c9.urn S5 v4;have v6:=c9.urn s6 v5;refine k q7 q5 rt [.ref av,.ref q1,.ref q2,.ref q3,.ref q4] [v,0,0,0,1] i j l v.den _ (s2.trans (c9.x T u)) (c9.urn T u2) ⟨E1 v6 h7,c6,⟨E1 v4 h5,T5 _ _ c6,.cons (T _ _ ev) (.cons (T1 _ _ c6) (.cons (T2 _ _ c6) (.cons (T3 _ _ c6) (.cons (T4 _ _ c6) .nil))))⟩,E1 v5 f6,S7 _ _ e6,by simp,by simp,V1 _,q0b bv.d (by decide),λx hx=>?_,rfl⟩
 simp only [z0m,m0g,or_false] at hx;rcases hx with rfl | rfl | rfl | rfl | rfl
 ·exact (Z1 bv).mono (by decide)
 ·exact OvB.zero _ _
 ·exact OvB.zero _ _
 ·exact OvB.zero _ _
 ·exact ai8 (V1 _) (q0b bv.d (by decide))
end
end R
set_option maxRecDepth 100000
namespace L2
open PySem PySem.Spec PyProof.Rows
section
variable {K:q0a} {a b D:Addr} {xs ys:List V} {g:TG} {te:TE} {σ0:St} {H0:Hp} {Q:VK}
theorem bs0 (xs ys:List V) (Pv:Nat->St->Hp->Prop) (h0:Pv 0 σ0 H0) (hl:∀ i σ H,Pv i σ H->SqT K H a xs/\SqT K H b ys)
  (hs:∀ i x y σ H p,xs[i]? = some x->ys[i]? = some y->Pv i σ H->H p=none->g (.ref p) σ (upd H p (.tup [x,y])) λσ4 H4=>te σ4 H4 λv H5=>t6 D (min xs.length ys.length) Pv i σ4 v H5)
  (hd:∀ σ H,Pv (min xs.length ys.length) σ H->Q (.ref D) H):aa8 (bz6 K a b) D σ0 H0 g te Q:=by
 refine ⟨λi m σ H=>m=min xs.length ys.length-i/\i<=min xs.length ys.length/\Pv i σ H,⟨_,rfl,z0s _,h0⟩,?_⟩;rintro i m σ H ⟨rfl,hi,p⟩;obtain ⟨q,q'⟩:=hl i σ H p
 by_cases hlt:i<min xs.length ys.length
 ·have h1:i<xs.length:=⋯
  have h2:i<ys.length:=⋯;refine .inr ⟨⟨xs,ys,xs[i],ys[i],q,q',q0d h1,q0d h2⟩,?_⟩;intro v H3 hy;obtain ⟨x,y,r,e1,e2,hr,rfl,rfl⟩:=hy xs ys q q';exact hs i x y σ _ r e1 e2 p hr
 ·have e:i=min xs.length ys.length:=⋯
  subst e;exact .inl ⟨⟨xs,ys,q,q',⋯⟩,hd σ H p⟩
end
end L2
set_option maxRecDepth 100000
namespace R
open PySem L2 PyProof.Rows
theorem aq0.same {u:Addr} {H H':Hp} {t l rt:Addr} {xs:List V} {fs:List Rat} {i j m:Int} {C:Nat} (f:aq0 u H t l rt xs fs i j m C) (s:c9 H H'):aq0 u H' t l rt xs fs i j m C:=⟨f.tu,s _ _ f.et,f.ls.same s,f.ru,s _ _ f.er,f.l2,f.l5,f.C0,f.C1,f.ov,f.last⟩
theorem aq0.samex {u:Addr} {H H':Hp} {t l rt:Addr} {xs:List V} {fs:List Rat} {i j m:Int} {C:Nat} (f:aq0 u H t l rt xs fs i j m C) (s:A0 u H H') (hu:y9 H u):aq0 u H' t l rt xs fs i j m C:=⟨f.tu,s _ _ f.et f.tu,f.ls.samex s hu,f.ru,s _ _ f.er f.ru,f.l2,f.l5,f.C0,f.C1,f.ov,f.last⟩
section
variable {P:Program} {w:World} {K:q0a} {mg:Str->Option Value} {base:Heap}
def aG8 (K:q0a):Sp:=λvs H Q _ => ∃ u kd,vs=[.ref u,.int kd,.int 4]/\y9 H u/\(kd=0 \/ kd=1)/\∀ t l rn xs qs H',A0 u H H'->y9 H' u->H' t=some (.tup [.ref l,.ref rn])->LsX u H' l xs qs->H l=none->1<=qs.length->qs.length<=5->ad8 qs qs.length->ClN 80 qs->Q (.ref t) H'
abbrev Q7:Stmt:=top 68
theorem F5:j4 ["_law_urn_here","_law_kind_here","_law_most","_law_found","_law_numbers","_law_factor","_law_turn"] ["_law_urn_here","_law_kind_here","_law_most"] (c8 Q7):=by and_intros
theorem ay9 {f f1 f2 f3 f4:Addr} (d:Df K mg "_law_circled" Q7 ["_law_urn_here","_law_kind_here","_law_most"] f) (G__law_draw:Def P w K mg base CX0 1 "_law_draw" f1 ["_law_urn_here","_law_many"] F9) (GD__law_other:Def P w K mg base CX0 3 "_law_other" f2 ["_law_urn_here","_law_kind_here"] ag2) (G__law_round_factor:Def P w K mg base CX0 5 "_law_round_factor" f3 ["_law_urn_here","_law_kind_here"] (aQ5 K)) (G__law_poly_times:Def P w K mg base CX0 3 "_law_poly_times" f4 ["_law_p","_law_q"] (aY7 K)) (n_range:mg "range" = none) (n_len:mg "len" = none) (n_tuple:mg "tuple" = none) (n_zip:mg "zip" = none):Def P w K mg base CX0 6 "_law_circled" f ["_law_urn_here","_law_kind_here","_law_most"] (aG8 K):=by
 refine d.ok (N:=["_law_urn_here","_law_kind_here","_law_most","_law_found","_law_numbers","_law_factor","_law_turn"]) F5 (by rintro vs H Q E ⟨_,_,h,_⟩;rw [h];rfl) (λcdv A outer s H vs Q E hr h=>?_)
 obtain ⟨u,kd,rfl,hU,hk,k⟩:=h;have G__law_other:=GD__law_other;have hb:bK kd=4:=by rcases hk with rfl | rfl <;> rfl
 refine ⟨_,(c7 (i9 (i:=3) F5.nd rfl (q0x rfl) (C5 (b7 (d2 G__law_other hr (b7 (pv 0) (b7 (pv 1) b8)) i4) b8)))
   (c7 (i9 (i:=4) F5.nd rfl (q0x rfl) (m6 (b7 b9 (b7 b9 (b7 b9 b8)))))
   (c7 (i9 (i:=5) F5.nd rfl (q0x rfl) (d2 G__law_round_factor hr (b7 (pv 0) (b7 (pv 1) b8)) i4))
   (c7 (P6 PassesOwn.never rfl (E4 rfl n_range (b7 (d2 G__law_draw hr (b7 (pv 0) (b7 (i5 E9 (pv 2) b9) b8)) i4) b8)) (d5 (i:=6) F5.nd rfl (q0x rfl)) (c7 (E7 (l9 aj9 (d2 G__law_draw hr (b7 (pv 0) (b7 b9 b8)) i4) b9 (j8 _)) (d4 (i9 (i:=5) F5.nd rfl (q0x rfl) (d2 G__law_round_factor hr (b7 (pv 0) (b7 (pv 1) b8)) i4))) o0)
   (d4 (E7 (l9 bA1 (i5 U1 (i5 E9 (i7 k6 rfl n_len (by decide +kernel) (b7 (pv 3) b8)) (i7 k6 rfl n_len (by decide +kernel) (b7 (j6 y3 (pv 5) b9 (λ_ _=>rfl)) b8))) b9) (pv 2) (j8 _)) (c7 (i9 (i:=3) F5.nd rfl (q0x rfl) (d2 G__law_poly_times hr (b7 (pv 3) (b7 (j6 y3 (pv 5) b9 (λ_ _=>rfl)) b8)) i4))
   (d4 (i9 (i:=4) F5.nd rfl (q0x rfl) (C8 aG0 rfl n_tuple (by decide +kernel) (b7 (t9 (Nc:=["_law_a","_law_b"]) (caps:=[none,none]) rfl (G5.of (osc:=c8 Q7) (N:=["_law_urn_here","_law_kind_here","_law_most","_law_found","_law_numbers","_law_factor","_law_turn"]) (ks:=[]) rfl rfl rfl rfl k9 (by decide +kernel)) (bp1 rfl n_zip (b7 (pv 4) (b7 (j6 y3 (pv 5) b9 (λ_ _=>rfl)) b8))) (λC s₂ H₂ fp pins=>(show PG _ _ (U2 K 2 (w9 (t4 0) (w9 (t4 1) U3))) from by (refine F4 (n:=2) ?_ ?_ ?_ ?_;rfl;(refine j1 ?_ ?_ ?_;(exact (d5 (i:=0) (show z0q (["_law_a","_law_b"]:List Str) by decide +kernel) rfl (q0x rfl) (z0w rfl)));(refine j1 ?_ ?_ ?_;(exact (d5 (i:=1) (show z0q (["_law_a","_law_b"]:List Str) by decide +kernel) rfl (q0x rfl) (z0w rfl)));(exact C6);rfl);rfl);rfl;rfl))) (λC s₂ H₂ fp pins=>(i5 E9 (pv 0) (pv 1)))) b8))))) o0))))
   (d4 (j2 (m6 (b7 (pv 3) (b7 (pv 4) b8))))))))),?_⟩
 rw [show start ["_law_urn_here","_law_kind_here","_law_most","_law_found","_law_numbers","_law_factor","_law_turn"] [.ref u,.int kd,.int 4]=[some (.ref u),some (.int kd),some (.int 4),none,none,none,none] from rfl]
 refine k7 (λσ H1 => ∃ l q,σ=[some (.ref u),some (.int kd),some (.int 4),some (.ref l),none,none,none]/\A0 u H H1/\y9 H1 u/\(∃ xs,LsX u H1 l xs [q])/\BdN 4 q/\q ≠ 0/\H l=none) (λN hN=>?_) ?_
 ·subst_eqs
  refine ⟨u,kd,rfl,hU,λr q H1 bq q0 s1 u1 e1=>⟨by decide,λp hp=>hN _ _ ⟨p,q,rfl,s1.trans (c9.x (c9.new hp _) u),J2 u1 hp,⟨_,E1 u1 hp,c6,.cons (c9.new hp _ _ _ e1) .nil⟩,by rw [hb] at bq;exact bq,q0,s1.free u1 hp⟩⟩⟩
 rintro σ H1 ⟨l0,q0,rfl,s1,u1,⟨xs0,L0⟩,bq0,q0n,fl0⟩;refine k7 (λσ H2 => ∃ rn,σ=[some (.ref u),some (.int kd),some (.int 4),some (.ref l0),some (.ref rn),none,none]/\c9 H1 H2/\H2 rn=some (.tup [.int 0,.int 0,.int 0])) (λN hN=>?_) ?_
 ·subst_eqs
  exact ⟨(by decide:3<=sizeLine),λp hp=>hN _ _ ⟨p,rfl,c9.new hp _,c6⟩⟩
 rintro σ H2 ⟨rn0,rfl,s2,e2⟩;have u2:=c9.urn s2 u1;refine k7 (λσ H3 => ∃ tf lf rf fx fs i j m C,σ=[some (.ref u),some (.int kd),some (.int 4),some (.ref l0),some (.ref rn0),some (.ref tf),none]/\A0 u H2 H3/\y9 H3 u/\aq0 u H3 tf lf rf fx fs i j m C) (λN hN=>?_) ?_
 ·subst_eqs
  exact ⟨u,kd,rfl,u2,hk,λt l rt xs fs i j m C H3 s3 u3 F3=>hN _ _ ⟨t,l,rt,xs,fs,i,j,m,C,rfl,s3,u3,F3⟩⟩
 rintro σ H3 ⟨tf0,lf0,rf0,fx0,fs0,i0,j0,m0,C0,rfl,s3,u3,F0⟩
 have rn0u:rn0 ≠ u:=λz=>by
  obtain ⟨g,m,p,hg,_⟩:=u2;rw [z,hg] at e2;cases e2
 have sH3:A0 u H H3:=s1.trans ((c9.x s2 u).trans s3);refine k7 (λσ H4 => ∃ l rn o5 o6 xs qs,σ=[some (.ref u),some (.int kd),some (.int 4),some (.ref l),some (.ref rn),o5,o6]/\A0 u H H4/\y9 H4 u/\LsX u H4 l xs qs/\1<=qs.length/\qs.length<=5/\ad8 qs qs.length/\ClN 80 qs/\H l=none) (λN hN=>?_) ?_
 ·obtain ⟨I,hI⟩:∃ I:Nat->L2.St->Hp->Prop,∀ i σ H4,I i σ H4 ↔ ∃ l rn tf lf rf fx fs a b c C o6 xs qs B i' j' m',σ=[some (.ref u),some (.int kd),some (.int 4),some (.ref l),some (.ref rn),some (.ref tf),o6]/\A0 u H H4/\y9 H4 u/\LsX u H4 l xs qs/\aq0 u H4 tf lf rf fx fs a b c C/\rn ≠ u/\H4 rn=some (.tup [.int i',.int j',.int m'])/\1<=qs.length/\qs.length<=5/\ad8 qs qs.length/\0<B/\B<2 ^ (4+12*i)/\(∀ x ∈ qs,OvB B (4+19*i) x)/\H l=none:=⟨_,λ_ _ _=>Iff.rfl⟩
  have hfin:∀ i σ H4,i<=4->I i σ H4->N σ H4:=λi σ H4 hi h=>by
   obtain ⟨l,rn,tf,lf,rf,fx,fs,a,b,c,C,o6,xs,qs,B,i',j',m',rfl,s4,u4,L,F,rnu,er,l1,l8,tl,B0,B1,ov,fl⟩:=(hI i σ H4).mp h;refine hN _ _ ⟨l,rn,_,o6,xs,qs,rfl,s4,u4,L,l1,l8,tl,ah7 B0 (q0b B1 (i6 (by lia))) λx hx=>(ov x hx).mono (by lia),fl⟩
  refine ⟨_,rfl,_,rfl,_,_,rfl,rfl,u,_,rfl,u3,by decide,by decide,λr H4 r0 r8 s4 u4=>⟨r,rfl,by lia,by lia,T9 I ?_ ?_ (λσ H5 h=>hfin _ σ H5 (by lia) h)⟩⟩
  ·refine (hI 0 _ _).mpr ⟨l0,rn0,tf0,lf0,rf0,fx0,fs0,i0,j0,m0,C0,_,xs0,[q0],q0.den,0,0,0,rfl,sH3.trans s4,u4,((L0.same s2).samex s3 u2).samex s4 u3,F0.samex s4 u3,rn0u,s4 _ _ (s3 _ _ e2 rn0u) rn0u,by simp,by simp,aY1 (qs:=[]) q0n,V1 _,bq0.d,(λx hx=>?_),fl0⟩
   rw [z0d.mp hx];exact Z1 bq0
  rintro n σ H5 hn h;obtain ⟨l,rn,tf,lf,rf,fx,fs,a,b,c,C,o6,xs,qs,B,i',j',m',rfl,s5,u5,L,F,rnu,er,l1,l8,tl,B0,B1,ov,fl⟩:=(hI n σ H5).mp h;have hn7:n<4:=by lia
  refine k7 (λσ H6 => ∃ tf lf rf fx fs a b c C,σ=[some (.ref u),some (.int kd),some (.int 4),some (.ref l),some (.ref rn),some (.ref tf),some (.int (0+n))]/\A0 u H H6/\y9 H6 u/\LsX u H6 l xs qs/\aq0 u H6 tf lf rf fx fs a b c C/\H6 rn=some (.tup [.int i',.int j',.int m'])) (λN' hN'=>?_) ?_
  ·simp! [F9]
   refine ⟨u5,by decide,by decide,λr2 H6 _ _ s6 u6=>F2 (λ_=>?_) (λ_=>?_)⟩
   ·refine ⟨u,kd,rfl,u6,hk,λt l' rt xs' fs' i j m C' H7 s7 u7 F7=>hN' _ _ ⟨t,l',rt,xs',fs',i,j,m,C',rfl,s5.trans (s6.trans s7),u7,(L.samex s6 u5).samex s7 u6,F7,s7 _ _ (s6 _ _ er rnu) rnu⟩⟩
   ·exact hN' _ _ ⟨tf,lf,rf,fx,fs,a,b,c,C,rfl,s5.trans s6,u6,L.samex s6 u5,F.samex s6 u5,s6 _ _ er rnu⟩
  rintro σ H6 ⟨tf,lf,rf,fx,fs,a,b,c,C,rfl,s6,u6,L,F,er⟩;have lx:=L.nums.length;have lf':=F.ls.nums.length;have f2:=F.l2;have f5:=F.l5
  subst_eqs
  refine ⟨_,.inl (SqL.of L.at'),_,SqT.of F.et,_,rfl,lf,rfl,_,.inl (SqL.of F.ls.at'),F2 (λhle=>?_) (λhgt=>?_)⟩
  ·have hBC:B*C<2 ^ (4+12*n+12):=by rw [z0f];exact z0g B1 F.C1
   refine ⟨_,SqT.of F.et,_,rfl,l,lf,xs,fx,qs,fs,B,C,4+19*n,14,4+12*n+12,rfl,SqL.of L.at',SqL.of F.ls.at',L.nums,F.ls.nums,ov,F.ov,B0,F.C0,hBC,by simp,by lia,by lia,by lia,by lia,λm1 r1 zs1 H7 tm1 _ s7 f7 e7 n7=>?_⟩
   have F7:=F.same s7;have er7:=s7 _ _ er;refine ⟨_,SqT.of F7.et,_,rfl,rf,rfl,⟨_,SqT.of er7⟩,⟨_,SqT.of F7.er⟩,λD hD=>?_⟩;refine bs0 [.int i',.int j',.int m'] [.int a,.int b,.int c] (λj σ H8 => ∃ o1 o2,σ=[o1,o2]/\c9 H7 H8/\∃ ns:List Int,ns.length=j/\H8 D=some (.lst (ns.map V.int))) ⟨_,_,rfl,c9.new hD _,[],rfl,c6⟩ (by rintro j σ H8 ⟨_,_,_,s8,_⟩;exact ⟨SqT.of (s8 _ _ er7),SqT.of (s8 _ _ F7.er)⟩) ?_ ?_
   ·rintro j x y σ H8 pt hx hy ⟨o1,o2,rfl,s8,ns,hns,e8⟩ hpt
    have hj:j<3:=(q0g.mp hx).1;obtain ⟨v1,hv1,rfl⟩:=aa1 (ws:=[i',j',m']) hx;obtain ⟨v2,hv2,rfl⟩:=aa1 (ws:=[a,b,c]) hy;have st:=c9.new hpt (.tup [.int v1,.int v2])
    subst_eqs
    refine ⟨_,SqT.of c6,rfl,_,_,rfl,_,_,rfl,rfl,_,rfl,_,rfl,t6.mk hj (st _ _ e8) (w5 (by rw [q0e];lia)) ⟨_,_,rfl,(s8.trans st).over hD _,ns ++ [v1+v2],by simp [hns],?_⟩⟩
    rw [c6,y0t];rfl
   ·rintro σ H8 ⟨o1,o2,rfl,s8,ns,hns,e8⟩
    have hns3:ns.length=3:=hns
    obtain ⟨x1,x2,x3,rfl⟩:∃ x1 x2 x3,ns=[x1,x2,x3]:=by
     match ns,hns3 with
     | [x1,x2,x3],_=>exact ⟨x1,x2,x3,rfl⟩
    refine ⟨D,rfl,_,.inl ⟨SqL.of e8,λq hq=>?_⟩⟩;have S:=s7.trans (s8.trans (c9.new hq (.tup [.int x1,.int x2,.int x3])));have S8:=s8.trans (c9.new hq (.tup [.int x1,.int x2,.int x3]));have ml:(Q8 qs fs).length=qs.length+fs.length-1:=at8 (λz=>by rw [z] at l1;simp at l1) (λz=>by rw [z] at f2;simp at f2)
    have hlast:(Q8 qs fs)[(Q8 qs fs).length-1]? = some (qs[qs.length-1]*1):=bd5 (λz=>by rw [z] at l1;simp at l1) (λz=>by rw [z] at f2;simp at f2) (q0d ⋯) F.last
    have tlf:ad8 (Q8 qs fs) (Q8 qs fs).length:=aU0 λv hv=>by
     rw [hlast] at hv;cases hv;rw [m0t];exact tl.last (by lia) _ (q0d ⋯)
    have hm1:=tm1.uniq tlf;have e9:(Q8 qs fs).take m1=Q8 qs fs:=by rw [hm1,y0k]
    rw [e9] at n7;refine (hI (n+1) _ _).mpr ⟨r1,q,tf,lf,rf,fx,fs,a,b,c,C,_,zs1,Q8 qs fs,B*C,x1,x2,x3,rfl,s6.trans (c9.x S u),c9.urn S u6,⟨E1 u6 f7,S8 _ _ e7,n7.mono S8.tups⟩,F.same S,E1 (c9.urn (s7.trans s8) u6) hq,c6,by lia,by lia,tlf,j0a B0 F.C0,q0b hBC (i6 (by lia)),λx hx=>(bq3 B0 F.C0 ov F.ov x hx).mono (by lia),s6.free u6 f7⟩
  ·exact (hI (n+1) _ _).mpr ⟨l,rn,tf,lf,rf,fx,fs,a,b,c,C,_,xs,qs,B,i',j',m',rfl,s6,u6,L,F,rnu,er,l1,l8,tl,B0,q0b B1 (i6 (by lia)),λx hx=>(ov x hx).mono (by lia),fl⟩
 rintro σ H4 ⟨l,rn,o5,o6,xs,qs,rfl,s4,u4,L,l1,l8,tl,cl,fl⟩
 subst_eqs
 refine ⟨t8,λp hp=>?_⟩;have Sp:=c9.new hp (.tup [.ref l,.ref rn]);exact k p l rn xs qs _ (s4.trans (c9.x Sp u)) (J2 u4 hp) c6 (L.same Sp) fl l1 l8 tl cl
theorem bA7:∀ d:Nat,d<16->0<d->d ∣ 360360:=by decide
theorem bw3 {q:Rat} (h:BdN 4 q):OvB 360360 23 q:=by
 have d0:0<q.den:=by have:=q.den_nz;omega
 obtain ⟨c,hc⟩:=bA7 q.den h.d d0;refine ⟨q.num*(c:Int),?_,?_⟩
 ·have e:((360360:Nat):Int)=(q.den:Int)*(c:Int):=by rw [<- j0t,<- hc]
  have c0:(c:Int) ≠ 0:=λz=>by
   have:c=0:=by lia
   rw [this,Nat.mul_zero] at hc;cases hc
  rw [e,m0y c0,z0j]
 ·have cl:c<2 ^ 19:=by
   have:1*c<=q.den*c:=v0k _ d0;rw [<- hc] at this;exact q0p (show c<=360360 by lia) (by decide)
  rw [z0k,q0w,show 23=4+19 from rfl,z0f];exact z0g h.n cl
theorem bi9 {C:Nat} {q:Rat} {m:Nat} (h:BdN m q):OvB q.den m q:=⟨q.num,(z0j q).symm,h.n⟩
def ak2 (L:List Rat):Nat:=(L.map (·.den)).foldr (· * ·) 1
theorem W9:∀ L:List Rat,0<ak2 L
 | []=>Nat.one_pos
 | q :: L=>by
  have d0:0<q.den:=by have:=q.den_nz;omega
  exact j0a d0 (W9 L)
theorem aA1 {m:Nat}:∀ L:List Rat,(∀ q ∈ L,BdN m q)->ak2 L<2 ^ (m*L.length+1)
 | [],_=>by simp [ak2]
 | q :: L,h=>by
  have a:=(h q z0c).d;have b:=aA1 L λx hx=>h x (q0u _ hx)
  show q.den*ak2 L<_;rw [j0m,v0e,show m*L.length+m+1=m+(m*L.length+1) by lia,z0f]
  exact z0g a b
theorem aA0 {m:Nat}:∀ L:List Rat,(∀ q ∈ L,BdN m q)->∀ q ∈ L,OvB (ak2 L) (m*L.length+1) q
 | [],_,_,hq=>absurd hq (by simp)
 | x :: L,h,q,hq=>by
  have d0:0<x.den:=by have:=x.den_nz;omega
  have bx:=h x z0c;have hL:=λy hy=>h y (q0u x hy)
  show OvB (x.den*ak2 L) _ q;rw [j0m,v0e];rcases z0m.mp hq with rfl | hq
  ·exact ((bi9 bx (C:=0)).up d0 (W9 L) (aA1 L hL)).mono (by lia)
  ·rw [v0z]
   exact ((aA0 L hL q hq).up (W9 L) d0 bx.d).mono (by lia)
def bB4 (N:List (List Rat)):Prop:=(∃ C,B8 C 120 N) \/ (N.length<=2/\∀ L ∈ N,L.length=N.length/\∀ q ∈ L,BdN 40 q)
theorem bq5 {N:List (List Rat)} (h2:N.length<=2) (h:∀ L ∈ N,L.length=N.length/\∀ q ∈ L,BdN 40 q):∃ C,B8 C 162 N:=by
 have ln:(N.flatten).length<=4:=by
  rw [q1e]
  match N,h2,h with
  | [],_,_=>simp
  | [a],_,h=>have:=(h a (by simp)).1;simp at this;simp [this]
  | [a,b],_,h =>
   have h1:=(h a (by simp)).1
   have h2:=(h b (by simp)).1
   simp at h1 h2;simp [h1,h2]
 have bd:∀ q ∈ N.flatten,BdN 40 q:=λq hq=>by
  obtain ⟨L,hL,hq⟩:=g0a.mp hq;exact (h L hL).2 q hq
 refine ⟨ak2 N.flatten,by lia,W9 _,q0b (aA1 _ bd) (i6 (by lia)),λL hL=>⟨(h L hL).1,λq hq=>(aA0 _ bd q (g0a.mpr ⟨L,hL,hq⟩)).mono ⋯⟩⟩
theorem aa3.to {u l:Addr} {H0 H H':Hp} {us:List Addr} {M:List (List Rat)} (d:aa3 u H l us M H') (hU:y9 H u) (s:A0 u H0 H):aa3 u H0 l us M H':=⟨s.trans d.same,d.urn,s.free hU d.fr,d.lu,d.at',d.nl,d.nu,λt ht=>s.free hU (d.nf t ht),d.rws⟩
theorem by1 {u D:Addr} {H:Hp} {kd:Int} {n:Nat} {Q:VK} (hU:y9 H u) (hD:H D=none) (n4:n<=4) (k:∀ us N H',aa3 u H D us N H'->N.length=n->(∀ L ∈ N,L.length=n/\∀ q ∈ L,BdN (bK kd) q)->Q (.ref D) H'):aa8 (Itr 0 n) D [some (V.ref u),some (V.int (n:Int)),some (V.int kd),none] (upd H D (HO.lst [])) (t4 3) (λσ H Q => ∃ v,σ[1]? = some (some v)/\∃ j,v=V.int j/\-2 ^ 62<=j/\j<2 ^ 62/\∀ (D:Addr),H D=none->aa8 (Itr 0 j.toNat) D [σ[0]?.join,σ[2]?.join,none] (upd H D (HO.lst [])) (t4 2) (aA2 ac4 E0 (P2 (O1 0) (P2 (O1 1) ak4))) Q) Q:=by
 refine O0 (λi σ H2 => ∃ (o:Option V) (us:List Addr) (N:List (List Rat)),σ=[some (.ref u),some (.int (n:Int)),some (.int kd),o]/\aa3 u H D us N H2/\N.length=i/\∀ L ∈ N,L.length=n/\∀ q ∈ L,BdN (bK kd) q) ⟨_,[],[],rfl,⟨c9.x (c9.new hD _) u,J2 hU hD,hD,E1 hU hD,c6,by simp,by simp,by simp,.nil⟩,rfl,by simp⟩ ?_ ?_
 ·rintro i σ H2 hi ⟨o,us,N,rfl,dA,lN,bN⟩
  refine ⟨_,rfl,_,rfl,by simp,by lia,λD2 fD2=>?_⟩
  have D2u:D2 ≠ u:=E1 dA.urn fD2;have D2D:D2 ≠ D:=(j3 dA.at' fD2).symm;obtain ⟨Pv,hPv⟩:∃ Pv:Nat->L2.St->Hp->Prop,∀ j σ H3,Pv j σ H3 ↔ ∃ (o:Option V) (xs:List V) (qs:List Rat),σ=[some (.ref u),some (.int kd),o]/\A0 u H2 H3/\y9 H3 u/\H3 D2=some (.lst xs)/\C9 H3 xs qs/\qs.length=j/\∀ q ∈ qs,BdN (bK kd) q:=⟨_,λ_ _ _=>Iff.rfl⟩;refine O0 Pv ((hPv _ _ _).mpr ⟨_,[],[],rfl,c9.x (c9.new fD2 _) u,J2 dA.urn fD2,c6,.nil,rfl,by simp⟩) ?_ ?_
  ·rintro j σ H3 hj h
   obtain ⟨o,xs,qs,rfl,s3,u3,e3,n3,l3,b3⟩:=(hPv _ _ _).mp h
   subst_eqs
   refine ⟨u,kd,rfl,u3,λr q H4 bq s4 u4 e4=>?_⟩;have e5:=s4 _ _ e3 D2u;refine t6.mk hj e5 (w5 (by rw [n3.length,l3];lia)) ((hPv _ _ _).mpr ⟨_,_,qs ++ [q],rfl,(s3.trans s4).over fD2 _,u4.other D2u,c6,((n3.mono (s4.tups u3)).append (.cons e4 .nil)).mono (aa2.lst e5),by simp [l3],λx hx=>?_⟩)
   rcases z0t.mp hx with z | z
   ·exact b3 x z
   ·rw [z0d.mp z];exact bq
  ·intro σ H3 h
   obtain ⟨o,xs,qs,rfl,s3,u3,e3,n3,l3,b3⟩:=(hPv _ _ _).mp h;have d3:=dA.x s3 u3
   have nD:D2 ∉ us:=λz=>by
    obtain ⟨i,hi⟩:=j0b.mp z;obtain ⟨_,_,_,e,_⟩:=dA.rws.get hi;rw [fD2] at e;cases e
   have nl:D ∉ us ++ [D2]:=λz=>by
    rcases z0t.mp z with z | z
    ·exact d3.nl z
    ·exact D2D (z0d.mp z).symm
   refine t6.mk hi d3.at' (w5 (by rw [q0e,d3.rws.length,lN];lia)) ⟨_,us ++ [D2],N ++ [qs],rfl,⟨λb o h z=>?_,d3.urn.other d3.lu,d3.fr,d3.lu,by rw [c6,y0t];rfl,nl,λt ht=>?_,λt ht=>?_,(d3.rws.append (.cons e3 n3 .nil)).over d3.at' nl⟩,by simp [lN],λL hL=>?_⟩
   ·rw [i8 (j3 h d3.fr)]
    exact d3.same _ _ h z
   ·rcases z0t.mp ht with z | z
    ·exact d3.nu t z
    ·rw [z0d.mp z];exact D2u
   ·rcases z0t.mp ht with z | z
    ·exact d3.nf t z
    ·rw [z0d.mp z];exact dA.same.free dA.urn fD2
   ·rcases z0t.mp hL with z | z
    ·exact bN L z
    ·rw [z0d.mp z];exact ⟨by lia,b3⟩
 ·rintro σ H2 ⟨o,us,N,rfl,dA,lN,bN⟩
  exact k us N H2 dA lN bN
def bi0:Sp:=λvs H Q _ => ∃ u,vs=[.ref u]/\y9 H u/\∀ r l v us N H',aa3 u H l us N H'->1<=N.length->N.length<=4->bB4 N->H' r=some (.tup [.ref l,v])->Q (.ref r) H'
abbrev G4:Stmt:=top 84
theorem A9:j4 ["_law_urn_here","_law_told","_law_kind_here","_law_p","_law_numbers","_law_n"] ["_law_urn_here"] (c8 G4):=by and_intros
theorem ak1 {f f1 f2 f3 f4 f5 f6:Addr} (d:Df K mg "_law_round_machine" G4 ["_law_urn_here"] f) (G__law_draw:Def P w K mg base CX0 1 "_law_draw" f1 ["_law_urn_here","_law_many"] F9) (G__law_kind:Def P w K mg base CX0 2 "_law_kind" f2 ["_law_urn_here"] aU6) (G__law_circled:Def P w K mg base CX0 6 "_law_circled" f3 ["_law_urn_here","_law_kind_here","_law_most"] (aG8 K)) (GD__law_number:Def P w K mg base CX0 2 "_law_number" f4 ["_law_urn_here","_law_kind_here"] ac4) (G__law_likened:Def P w K mg base CX0 7 "_law_likened" f5 ["_law_urn_here","_law_kind_here","_law_table","_law_most"] (av3 K)) (G__law_companion:Def P w K mg base CX0 3 "_law_companion" f6 ["_law_p"] (aU7 K)) (n_len:mg "len" = none) (n_range:mg "range" = none):Def P w K mg base CX0 8 "_law_round_machine" f ["_law_urn_here"] bi0:=by
 refine d.ok (N:=["_law_urn_here","_law_told","_law_kind_here","_law_p","_law_numbers","_law_n"]) A9 (by rintro vs H Q E ⟨_,h,_⟩;rw [h];rfl) (λcdv A outer s H vs Q E hr h=>?_)
 obtain ⟨u,rfl,hU,k⟩:=h;have G__law_number:=GD__law_number
 refine ⟨_,(c7 (i9 (i:=1) A9.nd rfl (q0x rfl) (G3 aj9 (d2 G__law_draw hr (b7 (pv 0) (b7 b9 b8)) i4) b9 (j8 _)))
   (c7 (i9 (i:=2) A9.nd rfl (z0w rfl) (d2 G__law_kind hr (b7 (pv 0) b8) i4))
   (c7 (K7 (d2 G__law_circled hr (b7 (pv 0) (b7 (i5 S9 (pv 2) b9) (b7 b9 b8))) i4) (show PG _ _ (U2 K 2 (w9 (t4 3) (w9 (t4 4) U3))) from by (refine F4 (n:=2) ?_ ?_ ?_ ?_;rfl;(refine j1 ?_ ?_ ?_;(exact (d5 (i:=3) A9.nd rfl (q0x rfl)));(refine j1 ?_ ?_ ?_;(exact (d5 (i:=4) A9.nd rfl (q0x rfl)));(exact C6);rfl);rfl);rfl;rfl)))
   (c7 (E7 (V5 (V4 (pv 1))) (c7 (i9 (i:=5) A9.nd rfl (z0w rfl) (i5 E9 b9 (d2 G__law_draw hr (b7 (pv 0) (b7 b9 b8)) i4)))
   (c7 (E7 (l9 aj9 (pv 5) b9 (j8 _)) (d4 (i9 (i:=2) A9.nd rfl (z0w rfl) (i5 S9 (pv 2) b9))) o0)
   (d4 (j2 (m6 (b7 (t9 (Nc:=["_law_urn_here","_law_n","_law_kind_here","_law_i"]) (caps:=[some 0,some 5,some 2,none]) rfl (G5.of (osc:=c8 G4) (N:=["_law_urn_here","_law_told","_law_kind_here","_law_p","_law_numbers","_law_n"]) (ks:=["_law_urn_here","_law_n","_law_kind_here"]) rfl rfl rfl rfl (j7 rfl (j7 rfl (j7 rfl k9))) (by decide +kernel)) (E4 rfl n_range (b7 (pv 5) b8)) (λC s₂ H₂ fp pins=>(d5 (i:=3) (show z0q (["_law_urn_here","_law_n","_law_kind_here","_law_i"]:List Str) by decide +kernel) rfl (q0x rfl) (z0w rfl))) (λC s₂ H₂ fp pins=>(t9 (Nc:=["_law_urn_here","_law_kind_here","_law_j"]) (caps:=[some 0,some 2,none]) rfl (G5.of (osc:=_) (N:=["_law_urn_here","_law_n","_law_kind_here","_law_i"]) (ks:=["_law_urn_here","_law_kind_here"]) rfl rfl rfl rfl (j7 rfl (j7 rfl k9)) (by kernel_rfl)) (E4 rfl n_range (b7 (pv 1) b8)) (λC s₂ H₂ fp pins=>(d5 (i:=2) (show z0q (["_law_urn_here","_law_kind_here","_law_j"]:List Str) by decide +kernel) rfl (q0x rfl) (z0w rfl))) (λC s₂ H₂ fp pins=>(d2 G__law_number hr (b7 (pv 0) (b7 (pv 1) b8)) i4))))) (b7 aV6 b8))))))) o0)
   (c7 (E7 (l9 al4 (i7 k6 rfl n_len (by decide +kernel) (b7 (pv 3) b8)) b9 (j8 _)) (d4 (av4 (i:=3) (j:=4) rfl A9.nd rfl rfl (by decide) rfl rfl (b7 (C5 (b7 (m6 (b7 (aa0 Q5 b9) (b7 b9 b8))) (b7 (m6 (b7 b9 (b7 b9 b8))) b8))) (b7 (m6 (b7 b9 (b7 b9 (b7 b9 b8)))) b8)) rfl)) o0)
   (d4 (j2 (m6 (b7 (d2 G__law_likened hr (b7 (pv 0) (b7 b9 (b7 (d2 G__law_companion hr (b7 (pv 3) b8) i4) (b7 b9 b8)))) i4) (b7 (pv 4) b8)))))))))),?_⟩
 rw [show start ["_law_urn_here","_law_told","_law_kind_here","_law_p","_law_numbers","_law_n"] [.ref u]=[some (.ref u),none,none,none,none,none] from rfl]
 refine k7 (λσ H1 => ∃ b,σ=[some (.ref u),some (.bl b),none,none,none,none]/\A0 u H H1/\y9 H1 u) (λN hN=>?_) ?_
 ·simp! [F9]
  refine ⟨hU,by decide,by decide,λr H1 r0 r1 s1 u1=>hN _ _ ⟨_,rfl,s1,u1⟩⟩
 rintro σ H1 ⟨b,rfl,s1,u1⟩;refine k7 (λσ H2 => ∃ kd:Int,σ=[some (.ref u),some (.bl b),some (.int kd),none,none,none]/\A0 u H H2/\y9 H2 u/\(kd=0 \/ kd=1 \/ kd=2)) (λN hN=>?_) ?_
 ·simp! [aU6]
  exact ⟨u1,λr H2 hk s2 u2=>hN _ _ ⟨r,rfl,s1.trans s2,u2,hk⟩⟩
 rintro σ H2 ⟨kd,rfl,s2,u2,hk⟩;refine k7 (λσ H3 => ∃ l rn xs qs,σ=[some (.ref u),some (.bl b),some (.int kd),some (.ref l),some (.ref rn),none]/\A0 u H H3/\y9 H3 u/\LsX u H3 l xs qs/\1<=qs.length/\qs.length<=5/\ad8 qs qs.length/\ClN 80 qs) (λN hN=>?_) ?_
 ·subst_eqs
  refine ⟨by decide,u,_,rfl,u2,by rcases hk with rfl | rfl | rfl <;> decide,λt l rn xs qs H3 s3 u3 e3 L3 fl l1 l5 tl cl=>?_⟩
  exact ⟨t,rfl,_,SqT.of e3,rfl,_,_,rfl,_,_,rfl,rfl,hN _ _ ⟨l,rn,xs,qs,rfl,s2.trans s3,u3,L3,l1,l5,tl,cl⟩⟩
 rintro σ H3 ⟨l,rn,xs,qs,rfl,s3,u3,L3,l1,l5,tl,cl⟩
 -- a polynomial's table,and one alike to it
 have aP9:∀ {p v:Addr} {xs:List V} {qs:List Rat} {H4:Hp},A0 u H H4->y9 H4 u->LsX u H4 p xs qs->2<=qs.length->qs.length<=5->ad8 qs qs.length->ClN 80 qs->aU7 K [V.ref p] H4 (λx H1=>av3 K [V.ref u,V.int 0,x,V.int 4] H1 (λx H1=>0+1+1<=sizeLine/\∀ (p:Addr),H1 p=none->Q (V.ref p) (upd H1 p (HO.tup [x,V.ref v]))) E0) E0:=fun {p v xs qs H4} s4 u4 L4 l2 l5 tl cl=>by
  refine ⟨p,xs,qs,qs.length-1,rfl,SqL.of L4.at',L4.nums,cl,tl,by lia,by lia,by lia,λM B lM oM r ts H5 s5 f5 g5 nd5 e5 R5=>?_⟩
  have u5:=c9.urn s5 u4;refine ⟨u,r,ts,M,B,M.length,rfl,u5,TbX.made u4 f5 g5 e5 R5,rfl,by lia,by lia,oM,λr2 us N C H6 dA lN oN=>⟨by decide,λp2 f2=>?_⟩⟩
  have S:=c9.new f2 (.tup [.ref r2,.ref v]);exact k p2 r2 _ us N _ ((dA.to u5 (s4.trans (c9.x s5 u))).s S) (by lia) (by lia) (.inl ⟨C,oN⟩) c6
 simp! [F9]
 refine F2 (λ_=>?_) (λ_=>?_)
 ·refine ⟨u3,by decide,by decide,λr H4 r0 r4 s4 u4=>?_⟩
  obtain ⟨n,hn⟩:∃ n:Nat,1+r=(n:Int):=⟨(1+r).toNat,by lia⟩
  rw [hn];have S4:=s3.trans s4
  have drawn:∀ kd':Int,(bK kd'=4 \/ n<=2/\bK kd'<=40)->∀ (D:Addr),H4 D=none->aa8 (Itr 0 (n:Int).toNat) D [some (V.ref u),some (V.int (n:Int)),some (V.int kd'),none] (upd H4 D (HO.lst [])) (t4 3) (λσ H Q => ∃ v,σ[1]? = some (some v)/\∃ j,v=V.int j/\-2 ^ 62<=j/\j<2 ^ 62/\∀ (D:Addr),H D=none->aa8 (Itr 0 j.toNat) D [σ[0]?.join,σ[2]?.join,none] (upd H D (HO.lst [])) (t4 2) (aA2 ac4 E0 (P2 (O1 0) (P2 (O1 1) ak4))) Q) λx H1=>0+1+1<=sizeLine/\∀ (p:Addr),H1 p=none->Q (V.ref p) (upd H1 p (HO.tup [x,V.non])):=λkd' hb D fD=>by
   rw [m0b];refine by1 u4 fD (by lia) λus N H5 dA lN bN=>⟨by decide,λp fp=>?_⟩
   refine k p D _ us N _ ((dA.to u4 S4).s (c9.new fp _)) (by lia) (by lia) ?_ c6
   rcases hb with hb | ⟨h2,hb⟩
   ·rw [hb] at bN
    exact .inl ⟨360360,by lia,by decide,by decide,λL hL=>⟨by rw [(bN L hL).1,lN],λq hq=>(bw3 ((bN L hL).2 q hq)).mono (by decide)⟩⟩
   ·exact .inr ⟨by lia,λL hL=>⟨by rw [(bN L hL).1,lN],λq hq=>((bN L hL).2 q hq).mono hb⟩⟩
  refine F2 (λh2=>⟨by decide,by simp,by lia,drawn _ (.inl ?_)⟩) (λh2=>⟨by simp,by lia,drawn _ ?_⟩)
  ·rcases hk with rfl | rfl | rfl <;> rfl
  ·exact .inr ⟨by lia,by unfold bK;split <;> decide⟩
 ·have ex:=L3.nums.length
  refine ⟨xs,.inl (SqL.of L3.at'),F2 (λ_=>?_) (λ_=>?_)⟩
  ·refine ⟨by decide,λp1 f1=>⟨by decide,λp2 f2=>⟨by decide,λp3 f3=>⟨by decide,λp4 f4=>?_⟩⟩⟩⟩
   have S1:=c9.new f1 (HO.tup [V.int (-1),V.int 2]);have S2:=c9.new f2 (HO.tup [V.int 1,V.int 1]);have S3:=c9.new f3 (HO.lst [V.ref p1,V.ref p2]);have S4:=c9.new f4 (HO.tup [V.int 1,V.int 0,V.int 0]);have S:=(S1.trans S2).trans (S3.trans S4);have u4:=c9.urn (S1.trans S2) u3;have e1:E8 (q0z (-1) 2)=[V.int (-1),V.int 2]:=by decide
   refine aP9 (s3.trans (c9.x S u)) (c9.urn S u3) (qs:=[q0z (-1) 2,1]) (xs:=[V.ref p1,V.ref p2]) ⟨E1 u4 f3,S4 _ _ c6,.cons (S4 _ _ (S3 _ _ (S2 _ _ (by rw [e1];exact c6)))) (.cons (S4 _ _ (S3 _ _ c6)) .nil)⟩ (by decide) (by decide) (aY1 (qs:=[q0z (-1) 2]) (by decide)) ?_
   exact (ah7 (B:=2) (W:=80) (by decide) (by decide) λx hx=>by
    rcases z0m.mp hx with rfl | hx
    ·exact ⟨-1,rfl,by decide⟩
    ·rw [z0d.mp hx];exact ⟨2,by decide,by decide⟩)
  ·exact aP9 s3 u3 L3 (by lia) l5 tl cl
def bi2 (K:q0a):Sp:=λvs H Q _ => ∃ (a:Addr) (ts:List Addr) (M:List (List Rat)) (n B W:Nat),vs=[.ref a]/\SqL K H a (ts.map V.ref)/\P8 K H ts M/\M.length=n/\(∀ L ∈ M,L.length=n/\∀ q ∈ L,OvB B W q)/\0<B/\B<2 ^ W/\n<=14/\(W+4)*(n+1)<=900 /\
 ∀ r H',c9 H H'->H' r=some (.tup (E8 (dt n (qq M))))->Q (.ref r) H'
theorem aH5 {H:Hp}:∀ ks:List Nat,ak3 K H (ks.map λ(k:Nat)=>V.int (k:Int)) (ks.map λ(k:Nat)=>D.v (.int (k:Int)))
 | []=>.nil
 | _ :: ks=>.cons (.v rfl) (aH5 ks)
theorem bj2 (ks:List Nat):okD (.lst (ks.map λ(k:Nat)=>D.v (.int (k:Int)))) (.lst [])=true:=by
 cases ks <;> simp [okD,ah1]
theorem bl2 (ks:List Nat):eqD (.lst (ks.map λ(k:Nat)=>D.v (.int (k:Int)))) (.lst [])=ks.isEmpty:=by
 cases ks <;> simp [eqD,Q9]
theorem aI2:∀ ks:List Nat,am4 (ks.map λ(k:Nat)=>D.v (.int (k:Int)))<=1
 | []=>by simp [am4]
 | k :: ks=>by
  have:=aI2 ks;rw [j0d,am4,dpD];lia
theorem br7 (ks:List Nat):dpD (.lst (ks.map λ(k:Nat)=>D.v (.int (k:Int))))<=60:=by
 rw [dpD];have:=aI2 ks;lia
structure aJ2 (K:q0a) (H:Hp) (l:Addr) (ts:List Addr) (M:List (List Rat)) (H3:Hp):Prop where
 same:c9 H H3
 fr:H l=none
 at':H3 l=some (.lst (ts.map V.ref))
 nl:l ∉ ts
 rws:P8 K H3 ts M
theorem aJ2.next {H H3 H4:Hp} {l:Addr} {ts:List Addr} {M:List (List Rat)} (d:aJ2 K H l ts M H3) (s:c9 H3 H4):aJ2 K H l ts M H4:=⟨d.same.trans s,d.fr,s _ _ d.at',d.nl,d.rws.same s⟩
theorem bA9 {qa D:Addr} {ts:List Addr} {M:List (List Rat)} {H1:Hp} {Q:VK} (hA:SqL K H1 qa (ts.map V.ref)) (R:P8 K H1 ts M) (hD:H1 D=none) (hl:M.length<=50) (k:∀ H2,az6 K H1 D M H2->Q (.ref D) H2):aa8 (Itl K qa) D [none] (upd H1 D (.lst [])) (t4 0) (tCB (aV1 K) (P2 (O1 0) ak4)) Q:=by
 refine B9 (ts.map V.ref) (λj σ H3 => ∃ o,σ=[o]/\az6 K H1 D (M.take j) H3) ⟨_,rfl,az6.start hD⟩ (λj σ H3 _ ⟨o,_,T⟩=>T.same.seq hA) ?_ ?_
 ·rintro j x σ H3 hx ⟨o,rfl,T⟩
  have hj:=(q0g.mp hx).1;obtain ⟨pr,hpr,rfl⟩:=B7 hx;obtain ⟨ys,Lr,hLr,er,nr⟩:=R.get hpr
  subst_eqs
  refine ⟨ys,.inl (SqL.of (T.same _ _ er)),λl hl'=>?_⟩;obtain ⟨ys',eD,yl,T'⟩:=T.add hD hl' ⟨c9.new hl' (.lst ys),ys,c6,(nr.mono T.same.tups).mono (c9.new hl' _).tups⟩;refine t6.mk hj eD (w5 (by rw [yl,q0v];omega)) ⟨_,rfl,?_⟩
  rw [d7 hLr];exact T'
 ·rintro σ H3 ⟨o,rfl,T⟩
  rw [t5 (by rw [q0e,R.length];exact q0h _)] at T
  exact k H3 T
abbrev V3:Stmt:=top 76
theorem M1:j4 ["_law_table","_law_rows","_law_found","_law_i","_law_some","_law_k","_law_often"] ["_law_table"] (c8 V3):=by and_intros
theorem aS0 {f f1 f2 f3:Addr} (d:Df K mg "_law_det" V3 ["_law_table"] f) (G__law_times:Def P w K mg base CX0 2 "_law_times" f1 ["_law_one_here","_law_other_here"] (J3 K (· * ·))) (G__law_less:Def P w K mg base CX0 2 "_law_less" f2 ["_law_one_here","_law_other_here"] (J3 K (· - ·))) (G__law_over:Def P w K mg base CX0 2 "_law_over" f3 ["_law_one_here","_law_other_here"] (ah9 K)) (n_len:mg "len" = none) (n_range:mg "range" = none) (n_list:mg "list" = none) (n_zip:mg "zip" = none):Def P w K mg base CX0 3 "_law_det" f ["_law_table"] (bi2 K):=by
  refine d.ok (N:=["_law_table","_law_rows","_law_found","_law_i","_law_some","_law_k","_law_often"]) M1 (by rintro vs H Q E ⟨_,_,_,_,_,_,h,_⟩;rw [h];rfl) (λcdv A outer s H vs Q E hr h=>?_)
  obtain ⟨a,ts,M,n,B,W,rfl,hA,hR,ln,lm,B0,hBW,n14,hW,kk⟩:=h;have hu:=hr.units
  refine ⟨_, (c7 (i9 (i := 1) M1.nd rfl (Or.inr rfl) (t9 (Nc := ["_law_row"]) (caps := [none]) rfl (G5.of (osc := c8 V3) (N := ["_law_table", "_law_rows", "_law_found", "_law_i", "_law_some", "_law_k", "_law_often"]) (ks := []) rfl rfl rfl rfl k9 (by decide +kernel)) (A5 (pv 0)) (fun C s₂ H₂ fp pins => (d5 (i := 0) (show List.Nodup (["_law_row"] : List Str) by decide +kernel) rfl (Or.inl rfl) (Or.inr rfl))) (fun C s₂ H₂ fp pins => (C8 (by exact M9 : aa9 _ (.type "list") (aV1 K)) rfl n_list (by decide +kernel) (b7 (pv 0) b8)))))
      (c7 (i9 (i:=2) M1.nd rfl (Or.inl rfl) (m6 (b7 b9 (b7 b9 b8))))
      (c7 (P6 PassesOwn.never rfl (E4 rfl n_range (b7 (i7 k6 rfl n_len (by decide +kernel) (b7 (pv 1) b8)) b8)) (d5 (i:=3) M1.nd rfl (Or.inr rfl)) (c7 (aM3 (i₀:=4) M1.nd rfl (Or.inl rfl) (Nc:=["_law_rows","_law_i","_law_k"]) (caps:=[some 1,some 3,none]) rfl (G5.of (osc:=c8 V3) (N:=["_law_table","_law_rows","_law_found","_law_i","_law_some","_law_k","_law_often"]) (ks:=["_law_rows","_law_i"]) rfl rfl rfl rfl (j7 rfl (j7 rfl k9)) (by decide +kernel)) (av5 rfl n_range (b7 (pv 3) (b7 (i7 k6 rfl n_len (by decide +kernel) (b7 (pv 1) b8)) b8))) (λC s₂ H₂ fp pins=>(d5 (i:=2) (show List.Nodup (["_law_rows","_law_i","_law_k"]:List Str) by decide +kernel) rfl (Or.inl rfl) (Or.inr rfl))) (λC s₂ H₂ fp pins=>(l9 ap7 (j6 (by exact y3:IxR _ (bc7 K)) (j6 (by exact j9:IxR _ (al1 K)) (j6 (by exact j9:IxR _ (al1 K)) (pv 0) (pv 2) (λ_ _=>rfl)) (pv 1) (λ_ _=>rfl)) b9 (λ_ _=>rfl)) b9 (j8 _))) (λC s₂ H₂ fp pins=>(pv 2)))
      (c7 (E7 (l9 (ai9 hu) (pv 4) (C5 b8) (j8 _)) (d4 (j2 (m6 (b7 b9 (b7 b9 b8))))) o0)
      (c7 (E7 (l9 ap7 (j6 j9 (pv 4) b9 (λ_ _=>rfl)) (pv 3) (j8 _)) (c7 (K7 (m6 (b7 (j6 j9 (pv 1) (j6 j9 (pv 4) b9 (λ_ _=>rfl)) (λ_ _=>rfl)) (b7 (j6 j9 (pv 1) (pv 3) (λ_ _=>rfl)) b8))) (show PG _ _ (U2 K 2 (w9 (aW9 _ _ aB6) (w9 (aW9 _ _ aB6) U3))) from by (refine F4 (n:=2) ?_ ?_ ?_ ?_;rfl;(refine j1 ?_ ?_ ?_;(exact (V7 (pv 1) (pv 3) K2));(refine j1 ?_ ?_ ?_;(exact (V7 (pv 1) (j6 j9 (pv 4) b9 (λ_ _=>rfl)) K2));(exact C6);rfl);rfl);rfl;rfl)))
      (d4 (i9 (i:=2) M1.nd rfl (Or.inl rfl) (m6 (b7 (i5 U1 b9 (j6 y3 (pv 2) b9 (λ_ _=>rfl))) (b7 (j6 y3 (pv 2) b9 (λ_ _=>rfl)) b8)))))) o0)
      (c7 (i9 (i:=2) M1.nd rfl (Or.inl rfl) (d2 G__law_times hr (b7 (pv 2) (b7 (j6 j9 (j6 j9 (pv 1) (pv 3) (λ_ _=>rfl)) (pv 3) (λ_ _=>rfl)) b8)) i4))
      (d4 (P6 PassesOwn.never rfl (av5 rfl n_range (b7 (i5 E9 (pv 3) b9) (b7 (i7 k6 rfl n_len (by decide +kernel) (b7 (pv 1) b8)) b8))) (d5 (i:=5) M1.nd rfl (Or.inl rfl)) (c7 (i9 (i:=6) M1.nd rfl (Or.inr rfl) (d2 G__law_over hr (b7 (j6 j9 (j6 j9 (pv 1) (pv 5) (λ_ _=>rfl)) (pv 3) (λ_ _=>rfl)) (b7 (j6 j9 (j6 j9 (pv 1) (pv 3) (λ_ _=>rfl)) (pv 3) (λ_ _=>rfl)) b8)) i4))
      (d4 (K7 (t9 (Nc:=["_law_often","_law_a","_law_b"]) (caps:=[some 6,none,none]) rfl (G5.of (osc:=c8 V3) (N:=["_law_table","_law_rows","_law_found","_law_i","_law_some","_law_k","_law_often"]) (ks:=["_law_often"]) rfl rfl rfl rfl (j7 rfl k9) (by decide +kernel)) (af7 rfl n_zip (b7 (j6 j9 (pv 1) (pv 5) (λ_ _=>rfl)) (b7 (j6 j9 (pv 1) (pv 3) (λ_ _=>rfl)) b8))) (λC s₂ H₂ fp pins=>(show PG _ _ (U2 K 2 (w9 (t4 1) (w9 (t4 2) U3))) from by (refine F4 (n:=2) ?_ ?_ ?_ ?_;rfl;(refine j1 ?_ ?_ ?_;(exact (d5 (i:=1) (show List.Nodup (["_law_often","_law_a","_law_b"]:List Str) by decide +kernel) rfl (Or.inl rfl) (Or.inr rfl)));(refine j1 ?_ ?_ ?_;(exact (d5 (i:=2) (show List.Nodup (["_law_often","_law_a","_law_b"]:List Str) by decide +kernel) rfl (Or.inl rfl) (Or.inr rfl)));(exact C6);rfl);rfl);rfl;rfl))) (λC s₂ H₂ fp pins=>(d2 G__law_less hr (b7 (pv 1) (b7 (d2 G__law_times hr (b7 (pv 0) (b7 (pv 2) b8)) i4) b8)) i4))) (V7 (pv 1) (pv 5) K2)))))))))))
      (d4 (j2 (pv 2)))))),?_⟩
  rw [show start ["_law_table","_law_rows","_law_found","_law_i","_law_some","_law_k","_law_often"] [.ref a]=[some (.ref a),none,none,none,none,none,none] from rfl]
  subst_eqs
  have lm1:∀ L ∈ M,L.length=n:=λL hL=>(lm L hL).1;have sc:Sc W (qq M):=bc6 B0 hBW λL hL=>(lm L hL).2;have bw:∀ k,k<=n->(W+4)*k<=900:=λk hk=>Nat.le_trans (Nat.mul_le_mul_left _ (by lia)) hW
  refine ⟨⟨_,hA⟩,λl hl=>bA9 hA hR hl (by lia) λH1 T=>⟨by decide,λp hp=>?_⟩⟩
  obtain ⟨S1,ts1,el1,n1,_,R1⟩:=T;obtain ⟨H2,y2,X2,g2⟩:=M6 (.tup [.int 1,.int 1]) hp;rw [<- y2];obtain ⟨I,hI⟩:∃ I:Nat->L2.St->Hp->Prop,∀ i σ H3,I i σ H3 ↔ ∃ (ts':List Addr) (M':List (List Rat)) (B':Mt) (sg fd:Rat) (pf:Addr) (o3 o4 o5 o6:Option V),σ=[some (.ref a),some (.ref l),some (.ref pf),o3,o4,o5,o6]/\aJ2 K H l ts' M' H3/\Ld W n (qq M) B' sg i M' fd/\H3 pf=some (.tup (E8 fd)):=⟨_,λ_ _ _=>Iff.rfl⟩;have lt1:ts1.length=n:=by rw [R1.length,ln]
  refine ⟨_,rfl,l,rfl,_,.inl (SqL.of (X2 _ _ el1)),_,rfl,?_,?_,T9 I ((hI _ _ _).mpr ⟨ts1,M,qq M,1,1,p,_,_,_,_,rfl,⟨S1.trans X2,hl,X2 _ _ el1,λz=>(n1 l z).2 rfl,R1.same X2⟩,Ld.start ln lm1 sc,g2⟩) ?_ ?_⟩
  · simp
  · rw [List.length_map,lt1];lia
  · rintro i σ H3 hi h
    obtain ⟨ts',M',B',sg,fd,pf,o3,o4,o5,o6,rfl,D3,E3,ef⟩:=(hI _ _ _).mp h;rw [List.length_map,lt1] at hi;rw [Int.zero_add]
    have bit:∀ {k:Nat} {N:List (List Rat)} {B2:Mt} {s2 f2:Rat},Ld W n (qq M) B2 s2 k N f2->∀ x y,k<=x->x<n->y<n->BdN 901 (qq N x y):=λE x y h1 h2 h3=>by
      have b:=E.bits (by lia) h1 h2 h3
      have le:2 ^ ((W+4)*(n+1))<2 ^ 901:=Nat.pow_lt_pow_right (by decide) ⋯
      exact ⟨Nat.lt_of_le_of_lt b.1 le,Nat.lt_of_le_of_lt b.2 le⟩
    refine k7 (λσ H4=>c9 H3 H4/\∃ (c:Addr) (ks:List Nat),σ=[some (.ref a),some (.ref l),some (.ref pf),some (.int i),some (.ref c),o5,o6]/\H4 c=some (.lst (ks.map λ(k:Nat)=>V.int (k:Int)))/\(∀ k ∈ ks,i<=k/\k<n/\qq M' k i ≠ 0)/\(ks=[]->∀ x,i<=x->x<n->qq M' x i=0)/\l ≠ c) (λN hN=>?_) ?_
    · subst_eqs
      have lts:=D3.rws.length;refine ⟨_,.inl (SqL.of D3.at'),by simp,by lia,by simp,by rw [List.length_map,lts,E3.len];lia,λD hD=>?_⟩
      rw [List.length_map,lts,E3.len,show ((n:Int)-(i:Int)).toNat=n-i by simp]
      obtain ⟨Pv,hPv⟩:∃ Pv:Nat->L2.St->Hp->Prop,∀ j σ H4,Pv j σ H4 ↔ c9 H3 H4/\∃ (o:Option V) (ks:List Nat),σ=[some (.ref l),some (.int i),o]/\H4 D=some (.lst (ks.map λ(k:Nat)=>V.int (k:Int)))/\(∀ k ∈ ks,i<=k/\k<n/\qq M' k i ≠ 0)/\ks.length<=j/\(ks=[]->∀ x,i<=x->x<i+j->qq M' x i=0):=⟨_,λ_ _ _=>Iff.rfl⟩;refine aX5 Pv ((hPv _ _ _).mpr ⟨c9.new hD _,_,[],rfl,c6,by simp,Nat.le_refl _,λ_ x h1 h2=>by lia⟩) ?_ ?_
      · rintro j σ H4 hj h
        obtain ⟨s4,o,ks,rfl,e4,k4,lk,z4⟩:=(hPv _ _ _).mp h;obtain ⟨q,xs,L,f1,f2,f3,f4,f5,f6,f7⟩:=D3.rws.at E3.len E3.row (i:=i+j) (by lia)
        have ei:=List.getElem?_eq_getElem (l:=L) (i:=i) (by lia)
        obtain ⟨pq,g1,g2⟩:=f5.get ei;have vq:qq M' (i+j) i=L[i]'⋯:=by rw [f7];unfold aQ;rw [ei];rfl
        rw [<- vq] at g2;have ij:(i:Int)+(j:Int)=((i+j:Nat):Int):=by simp
        subst_eqs
        refine ⟨_,s4.seq (SqL.of D3.at'),_,by rw [ij];exact v9 f1,q,rfl,xs,SqL.of (s4 _ _ f4),_,v9 g1,pq,rfl,_,(g2.mono s4.tups).sqt,_,at0 _,rfl,?_⟩
        rw [ij];refine F2 (λh1=>?_) (λh1=>?_)
        · have h0:qq M' (i+j) i ≠ 0:=λz=>h1 (by rw [z];rfl)
          refine t6.mk hj e4 (by rw [List.length_map];exact Nat.lt_of_lt_of_le (show _<100 by lia) (by decide)) ((hPv _ _ _).mpr ⟨s4.over hD _,_,ks ++ [i+j],rfl,by rw [c6,List.map_append];rfl,?_,by rw [List.length_append];show _+1<=_;lia,λz=>absurd z (by simp)⟩)
          intro k hk;rcases List.mem_append.mp hk with z | z
          · exact k4 k z
          · rw [List.mem_singleton.mp z];exact ⟨by simp,by lia,h0⟩
        · have h0:qq M' (i+j) i=0:=Classical.byContradiction λz=>h1 λy=>z (Rat.num_eq_zero.mp (V.int.inj y))
          refine bb4.mk hj ((hPv _ _ _).mpr ⟨s4,_,ks,rfl,e4,k4,by lia,λz x h2 h3=>?_⟩)
          by_cases y:x=i+j
          · rw [y];exact h0
          · exact z4 z x h2 (by lia)
      · rintro σ H4 h
        obtain ⟨s4,o,ks,rfl,e4,k4,lk,z4⟩:=(hPv _ _ _).mp h;exact hN _ _ ⟨s4,D,ks,rfl,e4,k4,λz x h1 h2=>z4 z x h1 (by lia),j3 D3.at' hD⟩
    rintro σ H4 ⟨s4,c,ks,rfl,ec,k4,z4,lc⟩;have D4:=D3.next s4;have ef4:=s4 _ _ ef;refine k7 (λσ H5=>c9 H4 H5/\σ=[some (.ref a),some (.ref l),some (.ref pf),some (.int i),some (.ref c),o5,o6]/\ks ≠ []) (λN hN=>?_) ?_
    · subst_eqs
      refine ⟨Nat.zero_le _,λq hq=>?_⟩;obtain ⟨H5,y5,X5,g5⟩:=M6 (.lst []) hq;rw [<- y5];refine ⟨.lst (ks.map λ(k:Nat)=>.v (.int (k:Int))),.lst [],rfl,.lst (SqL.of (X5 _ _ ec)) (aH5 ks),.lst (SqL.of g5) .nil,bj2 ks,br7 ks,_,rfl,?_⟩;rw [bl2];refine F2 (λh1=>⟨by decide,λr hr=>?_⟩) (λh1=>hN _ _ ⟨X5,rfl,λz=>h1 (by rw [z];rfl)⟩)
      have z0:dt n (qq M)=0:=E3.stuck hi (z4 (List.isEmpty_iff.mp h1));refine kk r _ ((D4.same.trans X5).trans (c9.new hr _)) ?_;rw [c6,z0];rfl
    rintro σ H5 ⟨s5,rfl,kn⟩
    obtain ⟨s,ks',rfl⟩:∃ s ks',ks=s :: ks':=by
      cases ks with
      | nil=>exact absurd rfl kn
      | cons s ks'=>exact ⟨s,ks',rfl⟩
    obtain ⟨is,sn,q0⟩:=k4 s List.mem_cons_self;have D5:=D4.next s5;have ec5:=s5 _ _ ec;have ef5:=s5 _ _ ef4;have lts:=D3.rws.length;have a0:atI ((s :: ks').map λ(k:Nat)=>V.int (k:Int)) 0=some (.int (s:Int)):=v9 (j:=0) rfl;refine k7 (λσ H6 => ∃ (ts2:List Addr) (M2:List (List Rat)) (B2:Mt) (sg2 fd2:Rat) (pf2:Addr),σ=[some (.ref a),some (.ref l),some (.ref pf2),some (.int i),some (.ref c),o5,o6]/\aJ2 K H l ts2 M2 H6/\Ld W n (qq M) B2 sg2 i M2 fd2/\H6 pf2=some (.tup (E8 fd2))/\qq M2 i i ≠ 0) (λN hN=>?_) ?_
    · subst_eqs
      obtain ⟨q,xs,L,f1,f2,f3,f4,f5,f6,f7⟩:=D5.rws.at E3.len E3.row (i:=i) hi;obtain ⟨q',xs',L',f1',f2',f3',f4',f5',f6',f7'⟩:=D5.rws.at E3.len E3.row (i:=s) sn;refine ⟨_,SqL.of ec5,.int (s:Int),a0,rfl,?_⟩;refine F2 (λh1=>?_) (λh1=>?_)
      · have si:i ≠ s:=λz=>h1 (by rw [z])
        refine ⟨_,SqL.of ec5,.int (s:Int),a0,_,_,rfl,SqL.of D5.at',_,v9 f1',_,SqL.of D5.at',_,v9 f1,by decide,λr hr=>?_⟩
        obtain ⟨H6,y6,X6,g6⟩:=M6 (.tup [V.ref q',V.ref q]) hr;rw [<- y6];have e6:=X6 _ _ D5.at';have lt':(ts'.map V.ref).length=n:=by rw [List.length_map,lts,E3.len]
        have fl:pf ≠ l:=λz=>by rw [z,D5.at'] at ef5;cases ef5
        have si':i<s:=by lia
        have nl2:l ∉ (ts'.set i q').set s q:=λz=>by
          rcases List.mem_or_eq_of_mem_set z with z | z
          · rcases List.mem_or_eq_of_mem_set z with z | z
            · exact D5.nl z
            · exact D5.nl (z ▸ List.mem_of_getElem? f2')
          · exact D5.nl (z ▸ List.mem_of_getElem? f2)
        have ml:(M'.set i L').length=n:=by rw [List.length_set,E3.len]
        have qe:∀ x y,qq ((M'.set i L').set s L) x y=if x=i then qq M' s y else if x=s then qq M' i y else qq M' x y:=λx y=>by
          rw [aV4 (by rw [ml];exact sn),aV4 (by rw [E3.len];exact hi),f7,f7']
          by_cases z:x=s
          · rw [if_pos z,if_neg (by lia),if_pos z]
          · rw [if_neg z,if_neg z]
        have rl:∀ N ∈ (M'.set i L').set s L,N.length=n:=λN hN=>by
          rcases List.mem_or_eq_of_mem_set hN with z | z
          · rcases List.mem_or_eq_of_mem_set z with z | z
            · exact E3.row N z
            · rw [z];exact f6'
          · rw [z];exact f6
        have pf8:∀ o1 o2,upd (upd H6 l o1) l o2 pf=some (.tup (E8 fd)):=λo1 o2=>by rw [i8 fl,i8 fl];exact X6 _ _ ef5
        refine ⟨_,SqT.of g6,rfl,_,_,rfl,_,e6,i,aa5 (by rw [lt'];exact hi),_,_,rfl,_,SqL.of (show _=some (HO.lst ((s :: ks').map λ(k:Nat)=>V.int (k:Int))) by rw [i8 (Ne.symm lc)];exact X6 _ _ ec5),_,a0,_,_,rfl,c6,s,aa5 (by rw [List.length_set,lt'];exact sn),rfl,_,SqT.of (pf8 _ _),_,at0 _,_,rfl,_,SqT.of (pf8 _ _),_,at1 _,by decide,λr2 hr2=>?_⟩
        have S8:c9 H _:=((D5.same.trans X6).over D5.fr (.lst ((ts'.map V.ref).set i (V.ref q')))).over D5.fr (.lst (((ts'.map V.ref).set i (V.ref q')).set s (V.ref q)));have em:((ts'.map V.ref).set i (V.ref q')).set s (V.ref q)=((ts'.set i q').set s q).map V.ref:=by rw [List.map_set,List.map_set]
        have R8:=((((D5.rws.same X6).set i (X6 _ _ f4') (f5'.mono X6.tups)).set s (X6 _ _ f4) (f5.mono X6.tups)).over (o:=.lst ((ts'.map V.ref).set i (V.ref q'))) e6 nl2).over (o:=.lst (((ts'.map V.ref).set i (V.ref q')).set s (V.ref q))) c6 nl2;have X9:=c9.new hr2 (.tup [V.int (0-fd.num),V.int (fd.den:Int)]);refine hN _ _ ⟨_,(M'.set i L').set s L,_,_,-fd,r2,rfl,⟨S8.trans X9,D5.fr,?_,nl2,R8.same X9⟩,E3.swap si' sn (by rw [List.length_set,ml]) rl qe,?_,?_⟩
        · refine X9 _ _ ?_
          rw [c6,em]
        · rw [c6]
          unfold E8;rw [Rat.neg_num,Rat.neg_den,Int.zero_sub]
        · rw [qe,if_pos rfl];exact q0
      · have si:s=i:=Classical.byContradiction λz=>h1 λy=>z (by have:=V.int.inj y;lia)
        rw [si] at q0;exact hN _ _ ⟨ts',M',B',sg,fd,pf,rfl,D5,E3,ef5,q0⟩
    rintro σ H6 ⟨ts2,M2,B2,sg2,fd2,pf2,rfl,D6,E6,ef6,q2⟩
    simp! [J3]
    obtain ⟨q,xs,L,f1,f2,f3,f4,f5,f6,f7⟩:=D6.rws.at E6.len E6.row (i:=i) hi;have ei:=List.getElem?_eq_getElem (l:=L) (i:=i) (by lia)
    obtain ⟨pq,g1,gq⟩:=f5.get ei;have vq:qq M2 i i=L[i]'⋯:=by rw [f7];unfold aQ;rw [ei];rfl
    rw [<- vq] at gq
    have bf:BdN 901 fd2:=by
      have b:=E6.fbits (by lia) (by exact Nat.le_of_lt ‹_›)
      have le:2 ^ ((W+4)*n)<2 ^ 901:=Nat.pow_lt_pow_right (by decide) (by have:=bw n (Nat.le_refl _);lia)
      exact ⟨Nat.lt_of_le_of_lt b.1 le,Nat.lt_of_le_of_lt b.2 le⟩
    have bii:=bit E6 i i (Nat.le_refl _) hi hi;refine ⟨_,SqL.of D6.at',_,v9 f1,q,rfl,xs,SqL.of f4,_,v9 g1,fd2,⟨_,rfl,SqT.of ef6⟩,qq M2 i i,⟨_,rfl,gq.sqt⟩,901,bf.t (by simp),901,bii.t ⋯,by simp,λr H7 s7 er=>?_⟩
    have D7:=D6.next s7;have lt2:(ts2.map V.ref).length=n:=by rw [List.length_map,D6.rws.length,E6.len]
    obtain ⟨J,hJ⟩:∃ J:Nat->L2.St->Hp->Prop,∀ j σ H8,J j σ H8 ↔ ∃ (ts3:List Addr) (M3:List (List Rat)) (o5 o6:Option V),σ=[some (.ref a),some (.ref l),some (.ref r),some (.int i),some (.ref c),o5,o6]/\aJ2 K H l ts3 M3 H8/\M3.length=n/\(∀ N ∈ M3,N.length=n)/\H8 r=some (.tup (E8 (fd2*qq M2 i i)))/\∀ x y,y<n->qq M3 x y=if i<x/\x<i+1+j then qq M2 x y-qq M2 x i*(qq M2 i i)⁻¹*qq M2 i y else qq M2 x y:=⟨_,λ_ _ _=>Iff.rfl⟩;refine ⟨_,rfl,_,_,rfl,rfl,_,rfl,l,rfl,_,.inl (SqL.of D7.at'),_,_,rfl,⟨by lia,by lia,by simp,by rw [lt2];lia⟩,T9 J ((hJ _ _ _).mpr ⟨ts2,M2,_,_,rfl,D7,E6.len,E6.row,er,λx y _=>by rw [if_neg (by lia)]⟩) ?_ ?_⟩
    · rintro j σ H8 hj h
      obtain ⟨ts3,M3,o5',o6',rfl,D8,l8,r8,er8,v8⟩:=(hJ _ _ _).mp h;rw [lt2] at hj;have hk:i+1+j<n:=by lia
      have ek:(i:Int)+1+(j:Int)=((i+1+j:Nat):Int):=by simp
      rw [ek];obtain ⟨k,hkk⟩:∃ k,k=i+1+j:=⟨_,rfl⟩;rw [<- hkk];have lt3:(ts3.map V.ref).length=n:=by rw [List.length_map,D8.rws.length,l8]
      obtain ⟨q,xs,L,f1,f2,f3,f4,f5,f6,f7⟩:=D8.rws.at l8 r8 (i:=i) hi;obtain ⟨q',xs',L',f1',f2',f3',f4',f5',f6',f7'⟩:=D8.rws.at l8 r8 (i:=k) (by lia)
      have vL:∀ y,y<n->aQ L y=qq M2 i y:=λy hy=>by rw [<- f7,v8 i y hy,if_neg (by simp)]
      have vL':∀ y,y<n->aQ L' y=qq M2 k y:=λy hy=>by rw [<- f7',v8 k y hy,if_neg (by lia)]
      have at2:∀ {xs:List V} {L:List Rat},P4 K H8 xs L->L.length=n->∀ y,y<n->∃ py,xs[y]? = some (.ref py)/\NmC K H8 py (aQ L y):=λhN hl y hy=>by
        rename_i xs L
        have ey:=List.getElem?_eq_getElem (l:=L) (i:=y) (by lia)
        obtain ⟨py,g1,g2⟩:=hN.get ey;exact ⟨py,g1,by unfold aQ;rw [ey];exact g2⟩
      obtain ⟨p1,g1,h1⟩:=at2 f5' f6' i hi;obtain ⟨p2,g2,h2⟩:=at2 f5 f6 i hi;rw [vL' i hi] at h1;rw [vL i hi] at h2;have bki:=bit E6 k i (by lia) (by lia) hi
      simp! [ah9]
      refine ⟨_,SqL.of D8.at',_,v9 f1',q',rfl,_,SqL.of f4',_,v9 g1,_,SqL.of D8.at',_,v9 f1,q,rfl,_,SqL.of f4,_,v9 g2,_,⟨_,rfl,h1.sqt⟩,_,⟨_,rfl,h2.sqt⟩,901,bki.t (by simp),q2,901,bii.n,Y1 bii.d ⋯,by simp,λro H9 s9 eo=>?_⟩
      obtain ⟨tt,htt⟩:∃ tt,tt=qq M2 k i / qq M2 i i:=⟨_,rfl⟩;rw [<- htt] at eo;have bt:BdN 1802 tt:=by rw [htt,Rat.div_def];exact bki.mul (bii.inv q2)
      obtain ⟨NR,hNR⟩:∃ NR,NR=(List.range n).map λy=>qq M2 k y-tt*qq M2 i y:=⟨_,rfl⟩;have nl:NR.length=n:=by rw [hNR,List.length_map,List.length_range]
      have nv:∀ y,y<n->NR[y]? = some (qq M2 k y-tt*qq M2 i y):=λy hy=>by rw [hNR,List.getElem?_map,List.getElem?_range hy];rfl
      have lx':xs'.length=n:=by rw [f5'.length,f6']
      have lx:xs.length=n:=by rw [f5.length,f6]
      refine ⟨_,SqL.of (s9 _ _ D8.at'),_,v9 f1',_,SqL.of (s9 _ _ D8.at'),_,v9 f1,q',rfl,q,rfl,⟨_,SqL.of (s9 _ _ f4')⟩,⟨_,SqL.of (s9 _ _ f4)⟩,λD hD=>?_⟩;have mn:min xs'.length xs.length=n:=by lia
      obtain ⟨Pv,hPv⟩:∃ Pv:Nat->L2.St->Hp->Prop,∀ y σ H10,Pv y σ H10 ↔ ∃ (o1 o2:Option V),σ=[some (.ref ro),o1,o2]/\aG2 K H9 D (NR.take y) H10:=⟨_,λ_ _ _=>Iff.rfl⟩;refine am5 xs' xs Pv ((hPv _ _ _).mpr ⟨_,_,rfl,aG2.start hD⟩) (λy σ H10 h=>?_) ?_ ?_
      · obtain ⟨_,_,_,R⟩:=(hPv _ _ _).mp h
        exact ⟨SqL.of (R.same _ _ (s9 _ _ f4')),SqL.of (R.same _ _ (s9 _ _ f4))⟩
      · rintro y vx vy σ H10 pp hx hy h hpp
        obtain ⟨o1,o2,rfl,R⟩:=(hPv _ _ _).mp h;have yn:y<n:=by have:=(List.getElem?_eq_some_iff.mp hx).1;lia
        obtain ⟨pa,ga,ha⟩:=at2 f5' f6' y yn;obtain ⟨pb,gb,hb⟩:=at2 f5 f6 y yn;rw [vL' y yn] at ha;rw [vL y yn] at hb;rw [ga] at hx;rw [gb] at hy
        cases hx
        cases hy
        obtain ⟨H11,y11,X11,g11⟩:=M6 (.tup [V.ref pa,V.ref pb]) hpp;rw [<- y11];have S:=(s9.trans R.same).trans X11;have bky:=bit E6 k y (by lia) (by lia) yn
        have biy:=bit E6 i y (Nat.le_refl _) hi yn
        simp! [J3]
        refine ⟨_,SqT.of g11,rfl,_,_,rfl,_,_,rfl,rfl,?_⟩;refine ⟨tt,⟨_,rfl,SqT.of ((R.same.trans X11) _ _ eo)⟩,_,⟨_,rfl,(hb.mono S.tups).sqt⟩,1802,bt.t (by simp),901,biy.t (by simp),by simp,λr1 H12 s12 e12=>?_⟩
        refine ⟨_,⟨_,rfl,((ha.mono S.tups).mono s12.tups).sqt⟩,_,⟨_,rfl,SqT.of e12⟩,901,bky.t ⋯,2703,(bt.mul biy).t (by simp),by simp,λr2 H13 s13 e13=>?_⟩
        obtain ⟨ys,eD,yl,R'⟩:=R.add hD ((X11.trans s12).trans s13) (Or.inl e13);refine t6.mk (by rw [mn];exact yn) eD (w5 (by rw [yl,List.length_take];lia)) ((hPv _ _ _).mpr ⟨_,_,rfl,?_⟩)
        rw [d7 (nv y yn)];exact R'
      · intro σ H10 h
        obtain ⟨o1,o2,rfl,R⟩:=(hPv _ _ _).mp h;rw [t5 (by rw [mn,nl];exact Nat.le_refl _)] at R
        obtain ⟨s10,ys,eD,nD⟩:=R;have S10:=s9.trans s10;have D10:=D8.next S10;have lD:l ≠ D:=j3 (s9 _ _ D8.at') hD;have rl:r ≠ l:=λz=>by rw [z,D8.at'] at er8;cases er8
        have nl2:l ∉ ts3.set k D:=λz=>by
          rcases List.mem_or_eq_of_mem_set z with z | z
          · exact D8.nl z
          · exact lD z
        refine ⟨_,D10.at',k,aa5 (by rw [lt3];lia),(hJ _ _ _).mpr ⟨ts3.set k D,M3.set k NR,_,_,rfl,⟨D10.same.over D10.fr _,D10.fr,by rw [c6,List.map_set],nl2,((D10.rws.set k eD nD).over D10.at' nl2)⟩,by rw [List.length_set,l8],λN hN=>?_,by rw [i8 rl];exact S10 _ _ er8,λx y hy=>?_⟩⟩
        · rcases List.mem_or_eq_of_mem_set hN with z | z
          · exact r8 N z
          · rw [z];exact nl
        · rw [aV4 (by rw [l8];omega)]
          by_cases z:x=k
          · rw [if_pos z,z,if_pos (by lia)]
            unfold aQ;rw [nv y hy,htt,Rat.div_def];rfl
          · rw [if_neg z,v8 x y hy]
            by_cases w:i<x/\x<i+1+j
            · rw [if_pos w,if_pos (by lia)]
            · rw [if_neg w,if_neg (by lia)]
    · intro σ H8 h
      obtain ⟨ts3,M3,o5',o6',rfl,D8,l8,r8,er8,v8⟩:=(hJ _ _ _).mp h;rw [lt2] at v8;refine (hI _ _ _).mpr ⟨ts3,M3,B2,sg2,_,r,_,_,_,_,rfl,D8,E6.step hi q2 l8 r8 λx y h1 h2 h3=>?_,er8⟩;rw [v8 x y h3,if_pos (by lia)]
  · intro σ H3 h
    obtain ⟨ts',M',B',sg,fd,pf,o3,o4,o5,o6,rfl,D3,E3,ef⟩:=(hI _ _ _).mp h;rw [List.length_map,lt1] at E3
    subst_eqs
    refine kk pf H3 D3.same ?_;rw [ef,E3.done]
theorem bj1 {B C V U:Nat} (hB:0<B) (hC:0<C):∀ (p q:List Rat),(∀ x ∈ p,OvB B V x)->(∀ x ∈ q,OvB C U x)->OvB (B*C) (V+U+p.length) (G9 p q)
 | [],q,_,_=>by unfold G9;exact OvB.zero _ _
 | a :: p,[],_,_=>by unfold G9;exact OvB.zero _ _
 | a :: p,b :: q,hp,hq=>by
  have ih:=bj1 hB hC p q (λx hx=>hp x (q0u _ hx)) (λx hx=>hq x (q0u _ hx))
  have e:G9 (a :: p) (b :: q)=a*b+G9 p q:=by
   unfold G9;rw [u0y,y0r,aw7];grind
  rw [e];have m:=(hp a z0c).mul (hq b z0c);exact ((m.mono (show V+U<=V+U+p.length by omega)).add (j0a hB hC) ih).mono (by rw [j0m];omega)
theorem br3 {N:List (List Rat)} {n C U:Nat} (h:∀ L ∈ N,L.length=n/\∀ q ∈ L,OvB C U q) {L:List Rat} (hL:L ∈ W8 N N.length):L.length=N.length/\∀ q ∈ L,OvB C U q:=by
 obtain ⟨i,_,rfl⟩:=z0e.mp hL;refine ⟨aj6 ..,λq hq=>?_⟩;obtain ⟨L',hL',rfl⟩:=z0e.mp hq
 cases e:L'[i]? with
 | none=>exact OvB.zero _ _
 | some x=>exact (h L' hL').2 x (q0c e)
def bt5 (K:q0a):Sp:=λvs H Q E => ∃ (a b:Addr) (ts us:List Addr) (M N:List (List Rat)) (n B V' C U:Nat),vs=[.ref a,.ref b]/\H a=some (.lst (ts.map V.ref))/\Rws H ts M/\H b=some (.lst (us.map V.ref))/\Rws H us N/\M.length=n/\N.length=n/\n<=8/\(∀ L ∈ M,L.length=n/\∀ q ∈ L,OvB B V' q)/\(∀ L ∈ N,L.length=n/\∀ q ∈ L,OvB C U q)/\0<B/\0<C/\B<2 ^ V'/\C<2 ^ U/\V'+U+(V'+U+8)<=6000/\O9 H Q (al3 M N)
abbrev K5:Stmt:=top 72
theorem aa6:j4 ["_law_one_here","_law_other_here","_law_columns"] ["_law_one_here","_law_other_here"] (c8 K5):=by and_intros
theorem ao7 {f f1 f2:Addr} (d:Df K mg "_law_table_times" K5 ["_law_one_here","_law_other_here"] f) (G__law_flipped:Def P w K mg base CX0 1 "_law_flipped" f1 ["_law_table"] (as0 K)) (G__law_dot:Def P w K mg base CX0 3 "_law_dot" f2 ["_law_row","_law_column_here"] (bi1 K)):Def P w K mg base CX0 4 "_law_table_times" f ["_law_one_here","_law_other_here"] (bt5 K):=by
 refine d.ok (N:=["_law_one_here","_law_other_here","_law_columns"]) aa6 (by rintro vs H Q E ⟨_,_,_,_,_,_,_,_,_,_,_,h,_⟩;rw [h];rfl) (λcdv A outer s H vs Q E hr h=>?_)
 obtain ⟨a,b,ts,us,M,N,n,B,V',C,U,rfl,ha,hR,hb,hS,lM,lN,n8,hM,hN,B0,C0,hBV,hCU,hz,k1⟩:=h;have hl:M.length=N.length:=by lia
 refine ⟨_,(c7 (i9 (i:=2) aa6.nd rfl (z0w rfl) (d2 G__law_flipped hr (b7 (pv 1) b8) i4))
   (d4 (j2 (ah0 (Nc:=["_law_columns","_law_row"]) (caps:=[some 2,none]) rfl (ak0.of (osc:=c8 K5) (N:=["_law_one_here","_law_other_here","_law_columns"]) (ks:=["_law_columns"]) rfl rfl rfl rfl (j7 rfl k9) (by decide +kernel)) (A5 (pv 0)) (λC s₂ H₂ fp pins=>(d5 (i:=1) (show z0q (["_law_columns","_law_row"]:List Str) by decide +kernel) rfl (z0w rfl) (q0x rfl))) (λC s₂ H₂ fp pins=>(t9 (Nc:=["_law_row","_law_column_here"]) (caps:=[some 1,none]) rfl (G5.of (osc:=_) (N:=["_law_columns","_law_row"]) (ks:=["_law_row"]) rfl rfl rfl rfl (j7 rfl k9) (by kernel_rfl)) (show PI _ _ _ (am0 K _) from by exact (A5 (pv 0))) (λC s₂ H₂ fp pins=>(d5 (i:=1) (show z0q (["_law_row","_law_column_here"]:List Str) by decide +kernel) rfl (q0x rfl) (z0w rfl))) (λC s₂ H₂ fp pins=>(d2 G__law_dot hr (b7 (pv 0) (b7 (pv 1) b8)) i4)))))))),?_⟩
 rw [show start ["_law_one_here","_law_other_here","_law_columns"] [.ref a,.ref b]=[some (.ref a),some (.ref b),none] from rfl]
 subst_eqs
 refine ⟨b,us,N,rfl,hb,hS,λL hL=>by rw [lN];exact (hN L hL).1,by lia,λc cs H1 s1 fc fcs ndc ec hC=>?_⟩
 have lC:=hC.length;rw [N8] at lC;have hRl:=hR.length;refine ⟨⟨_,SqL.of (s1 _ _ ha)⟩,λD hD=>?_⟩;refine B9 (ts.map V.ref) (λi σ H2 => ∃ o,σ=[some (.ref c),o]/\t7 H1 D ((al3 M N).take i) H2) ⟨_,rfl,t7.start hD⟩ (λi σ H2 _ ⟨_,_,T⟩=>SqL.of (T.same _ _ (s1 _ _ ha))) ?_ ?_
 ·rintro i x σ H2 hx ⟨o,rfl,T⟩
  have hi:=(q0g.mp hx).1;obtain ⟨t,ht,rfl⟩:=B7 hx;obtain ⟨xs,L,hL,et,nt⟩:=hR.get ht;have hLm:=hM L (q0c hL);have S2:=s1.trans T.same
  subst_eqs
  refine ⟨⟨_,SqL.of (T.same _ _ ec)⟩,λD2 hD2=>?_⟩;refine B9 (cs.map V.ref) (λj σ H3 => ∃ o,σ=[some (.ref t),o]/\G8 H2 D2 (((W8 N N.length).map (G9 L)).take j) H3) ⟨_,rfl,G8.start hD2⟩ (λj σ H3 _ ⟨_,_,R⟩=>SqL.of (R.same _ _ (T.same _ _ ec))) ?_ ?_
  ·rintro j y σ H3 hy ⟨o,rfl,R⟩
   have hj:=(q0g.mp hy).1;obtain ⟨u,hu,rfl⟩:=B7 hy;obtain ⟨ys,C',hC',eu,nu⟩:=hC.get hu;have hCm:=br3 hN (q0c hC')
   subst_eqs
   have S3:=S2.trans R.same;have S3':=T.same.trans R.same;have l7:=hLm.1;have l8:=hCm.1;refine ⟨t,u,xs,ys,L,C',V',U,V'+U+8,rfl,SqL.of (S3 _ _ et),SqL.of (S3' _ _ eu),nt.mono S3.tups,nu.mono S3'.tups,λx hx=>(hLm.2 x hx).bdN B0 hBV,λx hx=>(hCm.2 x hx).bdN C0 hCU,λi=>?_,⋯,by rw [hLm.1,hCm.1,lN],λp5 H5 s5 e5=>?_⟩
   ·have o:=bj1 B0 C0 (L.take i) (C'.take i) (λx hx=>hLm.2 x (j0w hx)) (λx hx=>hCm.2 x (j0w hx))
    refine OvB.bdN (j0a B0 C0) (q0b (z0g hBV hCU) ?_) (o.mono ?_)
    ·rw [<- z0f];exact i6 (by simp)
    ·rw [q0v];lia
   obtain ⟨zs,eD,yl,R'⟩:=R.add hD2 s5 e5;refine t6.mk hj eD (w5 (by rw [yl,q0v,q0e,N8];lia)) ⟨_,rfl,?_⟩
   rw [d7 (l:=(W8 N N.length).map (G9 L)) (x:=G9 L C') (by rw [q0m,hC'];rfl)]
   exact R'
  ·rintro σ H3 ⟨o,rfl,R⟩
   rw [t5 (by rw [q0e,q0e,N8];lia)] at R
   obtain ⟨zs,eD,yl,T'⟩:=T.add hD hD2 R;refine t6.mk hi eD (w5 (by rw [yl,q0v,al2];lia)) ⟨_,rfl,?_⟩
   rw [d7 (aB9 hL)];exact T'
 ·rintro σ H2 ⟨o,rfl,T⟩
  rw [t5 (by rw [al2,q0e];lia)] at T
  exact T.res (k1.from s1) hD
def aZ0 (K:q0a):Sp:=λvs H Q _ => ∃ (a:Addr) (ts:List Addr) (M:List (List Rat)),vs=[.ref a,.int M.length]/\H a=some (.lst (ts.map V.ref))/\P8 K H ts M/\M.length<=7/\(∀ L ∈ M,L.length=M.length/\∀ q ∈ L,BdN 6000 q)/\∀ H',c9 H H'->Q (.bl true) H'
abbrev P3:Stmt:=top 79
theorem ag4:j4 ["_law_thing","_law_n","_law_row"] ["_law_thing","_law_n"] (c8 P3):=by and_intros
theorem av8 {f fd:Addr} (d:Df K mg "_law_is_table" P3 ["_law_thing","_law_n"] f) (G__law_is_number:Def P w K mg base CX0 2 "_law_is_number" fd ["_law_thing"] (aK3 K)) (n_isinstance:mg "isinstance" = none) (n_list:mg "list" = none) (n_len:mg "len" = none) (n_all:mg "all" = none):Def P w K mg base CX0 3 "_law_is_table" f ["_law_thing","_law_n"] (aZ0 K):=by
  refine d.ok (N:=["_law_thing","_law_n","_law_row"]) ag4 (by rintro vs H Q E ⟨_,_,_,h,_⟩;rw [h];rfl) (λcdv A outer s H vs Q E hr h=>?_)
  obtain ⟨a,ts,M,rfl,ha,hR,hM,hL,k⟩:=h;have hu:=hr.units
  refine ⟨_, (c7 (E7 (PW.pt (ad1 (V5 (V4 (i7 p9 rfl n_isinstance (by decide +kernel) (b7 (pv 0) (b7 (ae8 (v := .ty "list") rfl n_list (by decide +kernel) rfl) b8))))) (af6 (l9 ap7 (i7 k6 rfl n_len (by decide +kernel) (b7 (pv 0) b8)) (pv 1) (j8 _))))) (d4 (j2 ae9)) o0)
      (c7 (P6 PassesOwn.never rfl (A5 (pv 0)) (d5 (i:=2) ag4.nd rfl (Or.inl rfl)) (d4 (E7 (PW.pt (ad1 (V5 (V4 (i7 p9 rfl n_isinstance (by decide +kernel) (b7 (pv 2) (b7 (ae8 (v:=.ty "list") rfl n_list (by decide +kernel) rfl) b8))))) (ad1 (l9 ap7 (i7 k6 rfl n_len (by decide +kernel) (b7 (pv 2) b8)) (pv 1) (j8 _)) (af6 (V5 (V4 (i7 (au6 rfl) rfl n_all (by decide +kernel) (b7 (t9 (Nc:=["_law_one_here"]) (caps:=[none]) rfl (G5.of (osc:=c8 P3) (N:=["_law_thing","_law_n","_law_row"]) (ks:=[]) rfl rfl rfl rfl k9 (by decide +kernel)) (A5 (pv 2)) (λC s₂ H₂ fp pins=>(d5 (i:=0) (show List.Nodup (["_law_one_here"]:List Str) by decide +kernel) rfl (Or.inl rfl) (Or.inr rfl))) (λC s₂ H₂ fp pins=>(d2 G__law_is_number hr (b7 (pv 0) b8) i4))) b8)))))))) (d4 (j2 ae9)) o0)))
      (d4 (j2 ae9)))),?_⟩
  rw [show start ["_law_thing","_law_n","_law_row"] [.ref a,.int M.length]=[some (.ref a),some (.int M.length),none] from rfl]
  subst_eqs
  have hRl:=hR.length;refine ⟨trivial,_,.of (.lst ha),_,Z3,F2 (λz=>by cases z) (λ_=>?_)⟩
  refine ⟨_,.inl (SqL.of ha),rfl,F2 (λz=>absurd (by rw [List.length_map,hRl]) z) (λ_=>?_)⟩
  refine ⟨_,rfl,a,rfl,⟨_,SqL.of ha⟩,au1 (xs:=ts.map V.ref) (λi σ H2 => ∃ o,σ=[some (.ref a),some (.int M.length),o]/\c9 H H2) ⟨_,rfl,c9.refl _⟩ (λi σ H2 _ ⟨_,_,s2⟩=>SqL.of (s2 _ _ ha)) ?_ ?_⟩
  · rintro i x σ H2 hx ⟨o,rfl,s2⟩
    obtain ⟨t,ht,rfl⟩:=B7 hx;obtain ⟨xs,L,hL',et,nt⟩:=hR.get ht;have hLm:=hL L (List.mem_of_getElem? hL');have lx:=nt.length;have l7:=hLm.1;have et2:=s2 _ _ et
    subst_eqs
    refine ⟨trivial,_,.of (.lst et2),_,Z3,F2 (λz=>by cases z) (λ_=>?_)⟩
    refine ⟨_,.inl (SqL.of et2),rfl,F2 (λz=>absurd (by rw [lx,l7]) z) (λ_=>?_)⟩
    refine ⟨⟨_,SqL.of et2⟩,λD hD=>?_⟩;refine B9 xs (λj σ H3 => ∃ o,σ=[o]/\c9 H2 H3/\H3 D=some (.lst ((List.replicate j true).map V.bl))) ⟨_,rfl,c9.new hD _,c6⟩ (λj σ H3 _ ⟨o,_,s3,_⟩=>SqL.of (s3 _ _ et2)) ?_ ?_
    · rintro j x σ H3 hx2 ⟨o,rfl,s3,e3⟩
      have hj:j<xs.length:=(List.getElem?_eq_some_iff.mp hx2).1;obtain ⟨p,q,rfl,hq,hp⟩:=nt.getV hx2
      subst_eqs
      have sq:=(hLm.2 q (List.mem_of_getElem? hq)).bd6 (by decide)
      refine ⟨_,q,rfl,⟨p,rfl,(hp.mono (s2.trans s3).tups).sqt⟩,?_,λH4 s4=>?_⟩
      · rw [Int.natAbs_natCast]
        exact sq.d
      · refine t6.mk hj (s4 _ _ e3) (by simp;exact Nat.lt_of_lt_of_le (show j<1000 by lia) (by decide)) ⟨_,rfl,(s3.trans s4).over hD _,?_⟩
        rw [c6,List.replicate_succ',List.map_append];rfl
    · rintro σ H3 ⟨o,rfl,s3,e3⟩
      refine ⟨D,rfl,_,SqL.of e3,F2 (λz=>by simp at z) (λ_=>s2.trans s3)⟩
  · rintro σ H2 ⟨o,rfl,s2⟩
    subst_eqs
    exact k H2 s2
theorem bb9 {W n V':Nat} (hW:(W+5)*(n+1)<=630) (n1:1<=n) (n4:n<=4) (hV:V'<=W+(W+5)*(n+1)+9):(V'+5)*(n+1)<=3900:=by
 have h:n=1 \/ n=2 \/ n=3 \/ n=4:=by lia
 rcases h with rfl | rfl | rfl | rfl <;> lia
def bu1 (H:Hp) (n:Nat) (s:Rat) (B W:Nat) (M:List (List Rat)) (v:V) (H':Hp):Prop:=(dt n (lin 1 s (qq M))=0/\∃ t,v=.ref t/\H' t=some (.tup [.str "refused",.str "back"])) \/ (dt n (lin 1 s (qq M)) ≠ 0/\∃ T r,v=.ref r/\bm8 n s B W M T/\t7 H r T H'/\H r=none)
structure TbF (H:Hp) (a:Addr) (n B W:Nat) (f:Mt):Prop where
 ex:∃ ts N,H a=some (.lst (ts.map V.ref))/\Rws H ts N/\F6 n N f/\B8 B W N
theorem TbF.same {H H':Hp} {a:Addr} {n B W:Nat} {f:Mt} (h:TbF H a n B W f) (e:c9 H H'):TbF H' a n B W f:=by
 obtain ⟨ts,N,h1,h2,h3,h4⟩:=h.ex;exact ⟨ts,N,e _ _ h1,h2.same e,h3,h4⟩
def aQ3:Sp:=λvs H Q _ => ∃ (way:Int) (a:Addr) (ts:List Addr) (M:List (List Rat)) (n B W:Nat),vs=[.int way,.ref a]/\(way=0 \/ way=1)/\H a=some (.lst (ts.map V.ref))/\Rws H ts M/\M.length=n/\1<=n/\B8 B W M/\(W+5)*(n+1)<=630/\n<=4/\∀ H',c9 H H'->Q (.bl true) H'
abbrev P9:Stmt:=top 87
theorem G0:j4 ["_law_way","_law_table","_law_handed","_law_told","_law_before","_law_below","_law_above_here"] ["_law_way","_law_table"] (c8 P9):=by and_intros
theorem aq6 {f f1 f2 f3 f4 f5 f6 f7:Addr} (d:Df K mg "_law_turn_right" P9 ["_law_way","_law_table"] f) (G__law_copied:Def P w K mg base CX0 1 "_law_copied" f1 ["_law_table"] aA6) (G__law_asked:Def P w K mg base CX0 6 "_law_asked" f2 ["_law_way","_law_table","_law_column_here","_law_n"] (an3 K)) (G__law_one:Def P w K mg base CX0 5 "_law_one" f3 ["_law_table","_law_sign_here"] (bt4 K)) (G__law_table_often:Def P w K mg base CX0 3 "_law_table_often" f4 ["_law_number_here","_law_table"] (aK2 K)) (G__law_det:Def P w K mg base CX0 3 "_law_det" f5 ["_law_table"] (bi2 K)) (G__law_is_table:Def P w K mg base CX0 3 "_law_is_table" f6 ["_law_thing","_law_n"] (aZ0 K)) (G__law_table_times:Def P w K mg base CX0 4 "_law_table_times" f7 ["_law_one_here","_law_other_here"] (bt5 K)) (n_len:mg "len" = none):Def P w K mg base CX0 7 "_law_turn_right" f ["_law_way","_law_table"] aQ3:=by
 refine d.ok (N:=["_law_way","_law_table","_law_handed","_law_told","_law_before","_law_below","_law_above_here"]) G0 (by rintro vs H Q E ⟨_,_,_,_,_,_,_,h,_⟩;rw [h];rfl) (λcdv A outer s H vs Q E hr h=>?_)
 obtain ⟨way,al,ts,M,n,B,W,rfl,hw,ha,hR,ln,n1,hM,hW,n4,k⟩:=h;have hu:=hr.units
 obtain ⟨s,hws⟩:∃ s:Rat,(way=0/\s=-1) \/ (way=1/\s=1):=by
  rcases hw with rfl | rfl
  ·exact ⟨_,.inl ⟨rfl,rfl⟩⟩
  ·exact ⟨_,.inr ⟨rfl,rfl⟩⟩
 have s2:s*s=1:=by rcases hws with ⟨_,rfl⟩ | ⟨_,rfl⟩ <;> grind
 have hb:(W+5)*2<=(W+5)*(n+1):=z0v _ (by lia)
 have fM:F6 n M (qq M):=by rw [<- ln];exact hM.tf
 -- a turn asked of a copy
 have ask:∀ {H0 H1:Hp} {Q':VK} {hd pl:Addr},t7 H0 hd M H1->(∀ v H2,c9 H1 H2->bu1 H1 n s B W M v H2->Q' v H2)->an3 K [.int way,.ref hd,.ref pl,.int 0] H1 Q' E0:=fun {H0 H1 Q' hd pl} tA k'=>by
  obtain ⟨_,us,e1,_,_,r1⟩:=tA;have T:bt1 H1 Q' hd s:=⟨us,M,n,B,W,e1,r1,ln,n1,hM,⋯,λd t H2 s2 ft et=>k' _ _ s2 (.inl ⟨d,t,rfl,et⟩),λd T tT r ts' H2 s2 fr fts nd er rr=>k' _ _ s2 (.inr ⟨d,T,r,rfl,tT,⟨s2,ts',er,fts,nd,rr⟩,fr⟩)⟩;refine ⟨way,hd,pl,0,rfl,?_⟩;rcases hws with ⟨h,rfl⟩ | ⟨h,rfl⟩
  ·exact .inl ⟨h,T⟩
  ·exact .inr (.inl ⟨h,T⟩)
 refine ⟨_,(c7 (i9 (i:=2) G0.nd rfl (q0x rfl) (d2 G__law_copied hr (b7 (pv 1) b8) i4))
   (c7 (i9 (i:=3) G0.nd rfl (q0x rfl) (d2 G__law_asked hr (b7 (pv 0) (b7 (pv 2) (b7 (C5 b8) (b7 b9 b8)))) i4))
   (c7 (av4 (i:=5) (j:=6) rfl G0.nd rfl rfl (by decide) rfl rfl (b7 (d2 G__law_one hr (b7 (pv 1) (b7 (aa0 Q5 b9) b8)) i4) (b7 (d2 G__law_one hr (b7 (pv 1) (b7 b9 b8)) i4) b8)) rfl)
   (c7 (E7 (l9 Q3 (pv 0) b9 (j8 _)) (d4 (av4 (i:=5) (j:=6) rfl G0.nd rfl rfl (by decide) rfl rfl (b7 (pv 6) (b7 (d2 G__law_table_often hr (b7 (m6 (b7 (aa0 Q5 b9) (b7 b9 b8))) (b7 (pv 5) b8)) i4) b8)) rfl)) o0)
   (c7 (E7 (l9 (aq3 hu) (pv 2) (pv 1) (j8 _)) (d4 (j2 ae9)) o0)
   (c7 (E7 (l9 Q3 (j6 y3 (d2 G__law_det hr (b7 (pv 5) b8) i4) b9 (λ_ _=>rfl)) b9 (j8 _)) (d4 (j2 (aM6 (G3 (ai9 hu) (pv 3) (m6 (b7 af8 (b7 af8 b8))) (j8 _)) (aM5 (G3 (ai9 hu) (d2 G__law_asked hr (b7 (pv 0) (b7 (d2 G__law_copied hr (b7 (pv 1) b8) i4) (b7 (C5 b8) (b7 b9 b8)))) i4) (pv 3) (j8 _)))))) o0)
   (c7 (E7 (PW.pt (ad1 (V5 (V4 (d2 G__law_is_table hr (b7 (pv 3) (b7 (i7 k6 rfl n_len (by decide +kernel) (b7 (pv 1) b8)) b8)) i4))) (af6 (l9 (aq3 hu) (d2 G__law_table_times hr (b7 (pv 3) (b7 (pv 5) b8)) i4) (pv 6) (j8 _))))) (d4 (j2 ae9)) o0)
   (c7 (i9 (i:=4) G0.nd rfl (q0x rfl) (d2 G__law_copied hr (b7 (pv 3) b8) i4))
   (c7 (E7 (l9 (aq3 hu) (d2 G__law_asked hr (b7 (i5 U1 b9 (pv 0)) (b7 (d2 G__law_copied hr (b7 (pv 3) b8) i4) (b7 (C5 b8) (b7 b9 b8)))) i4) (pv 1) (j8 _)) (d4 (j2 ae9)) o0)
   (c7 (K7 (m6 (b7 b9 (b7 b9 b8))) (V7 (j6 j9 (pv 3) b9 (λ_ _=>rfl)) b9 K2))
   (c7 (W4 (at3 PySem.F.plainAttrs_list PySem.F.slot_list_append PySem.F.type_list_append N6 (j6 j9 (pv 3) (aa0 Q5 b9) (λ_ _=>rfl)) (b7 (m6 (b7 b9 (b7 b9 b8))) b8)))
   (c7 (K7 (m6 (b7 b9 (b7 b9 b8))) (V7 (j6 j9 (pv 2) b9 (λ_ _=>rfl)) b9 K2))
   (d4 (j2 (G3 (ai9 hu) (d2 G__law_asked hr (b7 (pv 0) (b7 (d2 G__law_copied hr (b7 (pv 1) b8) i4) (b7 (C5 b8) (b7 b9 b8)))) i4) (pv 4) (j8 _)))))))))))))))),?_⟩
 rw [show start ["_law_way","_law_table","_law_handed","_law_told","_law_before","_law_below","_law_above_here"] [.int way,.ref al]=[some (.int way),some (.ref al),none,none,none,none,none] from rfl]
 refine k7 (λσ H1 => ∃ hd,σ=[some (.int way),some (.ref al),some (.ref hd),none,none,none,none]/\t7 H hd M H1/\H hd=none) (λN hN=>?_) ?_
 ·subst_eqs
  exact ⟨al,ts,M,rfl,ha,hR,by lia,λr us H1 s1 fr fus nd er rr=>hN _ _ ⟨r,rfl,⟨s1,us,er,fus,nd,rr⟩,fr⟩⟩
 rintro σ H1 ⟨hd,rfl,A1,fhd⟩;refine k7 (λσ H2 => ∃ v,σ=[some (.int way),some (.ref al),some (.ref hd),some v,none,none,none]/\t7 H hd M H2/\c9 H1 H2/\bu1 H1 n s B W M v H2) (λN hN=>?_) ?_
 ·subst_eqs
  refine ⟨by decide,λp fp=>?_⟩
  have Sp:=c9.new fp (.lst []);refine ask (A1.to Sp) λv H2 s2 tv=>hN _ _ ⟨v,rfl,A1.to (Sp.trans s2),Sp.trans s2,?_⟩;rcases tv with ⟨d,t,rfl,et⟩ | ⟨d,T,r,rfl,tT,⟨sA,ts',er,fts,nd,rr⟩,fr⟩
  ·exact .inl ⟨d,t,rfl,et⟩
  ·exact .inr ⟨d,T,r,rfl,tT,⟨Sp.trans s2,ts',er,λt ht=>⟨Sp.free (fts t ht).1,(fts t ht).2⟩,nd,rr⟩,Sp.free fr⟩
 rintro σ H2 ⟨v,rfl,A2,S2,tv⟩;have S02:=A2.same;refine k7 (λσ H3 => ∃ b c,σ=[some (.int way),some (.ref al),some (.ref hd),some v,none,some (.ref b),some (.ref c)]/\c9 H2 H3/\TbF H3 b n B (W+1) (lin 1 (-1) (qq M))/\TbF H3 c n B (W+1) (lin 1 1 (qq M))) (λN hN=>?_) ?_
 ·subst_eqs
  refine ⟨al,-1,ts,M,n,B,W,rfl,.inr rfl,S02 _ _ ha,hR.same S02,ln,hM,by lia,λT fT oT r1 t1 H3 s3 f3 g3 nd3 e3 R3=>?_⟩
  have S3:=S02.trans s3;refine ⟨al,1,ts,M,n,B,W,rfl,.inl rfl,S3 _ _ ha,hR.same S3,ln,hM,⋯,λT' fT' oT' r2 t2 H4 s4 f4 g4 nd4 e4 R4=>?_⟩;exact hN _ _ ⟨r1,r2,rfl,s3.trans s4,⟨t1,T,s4 _ _ e3,R3.same s4,fT,oT⟩,⟨t2,T',e4,R4,fT',oT'⟩⟩
 rintro σ H3 ⟨b,c,rfl,s3,B3,C3⟩;refine k7 (λσ H4 => ∃ b c,σ=[some (.int way),some (.ref al),some (.ref hd),some v,none,some (.ref b),some (.ref c)]/\c9 H2 H4/\TbF H4 b n B (W+1) (lin 1 s (qq M))/\TbF H4 c n B (W+1) (lin (-s) 1 (qq M))) (λN hN=>?_) ?_
 ·subst_eqs
  obtain ⟨tb,Nb,eb,Rb,fb,ob⟩:=B3.ex;rcases hws with ⟨rfl,rfl⟩ | ⟨rfl,rfl⟩
  ·refine ⟨rfl,F2 (λz=>absurd z (by decide)) λ_=>?_⟩
   exact hN _ _ ⟨b,c,rfl,s3,B3,by rw [show (-(-1):Rat)=1 by decide];exact C3⟩
  ·refine ⟨rfl,F2 (λ_=>⟨by decide,λp fp=>?_⟩) (λz=>absurd rfl z)⟩
   have Sp:=c9.new fp (.tup [.int (-1),.int 1]);refine ⟨.ref p,-1,b,tb,Nb,B,W+1,rfl,⟨p,rfl,SqT.of c6⟩,.inr rfl,Sp _ _ eb,(Rb.same Sp).toC,ob,by lia,λr t1 H4 s4 f4 g4 nd4 e4 R4=>?_⟩
   exact hN _ _ ⟨c,r,rfl,s3.trans (Sp.trans s4),C3.same (Sp.trans s4),⟨t1,_,e4,R4,(fb.often (-1)).to λi j _ _=>by unfold lin;grind,ob.often (.inr rfl)⟩⟩
 rintro σ H4 ⟨b,c,rfl,s4,B4,C4⟩;have S24:=S02.trans s4;obtain ⟨s01,hs,e1hd,fhs,ndh,R1hd⟩:=A1;have ehd:=(S2.trans s4) _ _ e1hd;have Rhd:=R1hd.same (S2.trans s4);have eal:=S24 _ _ ha;have Ral:=hR.same S24;refine k7 (λσ H5=>σ=[some (.int way),some (.ref al),some (.ref hd),some v,none,some (.ref b),some (.ref c)]/\H5=H4) (λN hN=>?_) ?_
 ·subst_eqs
  refine ⟨L5 M,L5 M,rfl,.lst (SqL.of ehd) Rhd.isDs,.lst (SqL.of eal) Ral.isDs,Y5 _ _,ad2 _,_,rfl,?_⟩;rw [Y7,decide_eq_true rfl,if_neg (by decide)]
  exact hN _ _ ⟨rfl,rfl⟩
 rintro σ H5 ⟨rfl,rfl⟩;obtain ⟨tb,Nb,eb,Rb,fb,ob⟩:=B4.ex;obtain ⟨tc,Nc,ec,Rc,fc,oc⟩:=C4.ex
 subst_eqs
 refine ⟨b,tb,Nb,n,B,W+1,rfl,SqL.of eb,Rb.toC,fb.len,λL hL=>⟨fb.row L hL,(ob.row L hL).2⟩,ob.B0,ob.BW,by lia,by rw [show W+1+4=W+5 from rfl];omega,?_⟩
 intro r H6 s6 e6;rw [fb.det] at e6;refine ⟨r,rfl,_,SqT.of e6,_,at0 _,rfl,F2 (λhz=>?_) (λhz=>?_)⟩
 ·have d0:dt n (lin 1 s (qq M))=0:=m0p.mp (by injection hz)
  rcases tv with ⟨_,t,rfl,et⟩ | ⟨d,_⟩
  ·refine ⟨by decide,λp fp=>?_⟩
   have Sp:=c9.new fp (.tup [.str "refused",.str "back"])
   have S6:=s4.trans s6;refine ⟨ad3 "refused" "back",ad3 "refused" "back",rfl,ah5 (SqT.of (Sp _ _ (S6 _ _ et))),ah5 (SqT.of c6),aC4 _ _ _ _,aP2 _ _,_,rfl,?_⟩
   rw [aD4,if_pos rfl];have S7:=S24.trans (s6.trans Sp);refine ⟨al,ts,M,rfl,S7 _ _ ha,hR.same S7,⋯,λr2 us2 H8 s8 f8 g8 nd8 e8 R8=>⟨by decide,λp2 fp2=>?_⟩⟩
   have Sq:=c9.new fp2 (.lst []);have A8:t7 _ r2 M (upd H8 p2 (.lst [])):=t7.to ⟨s8,us2,e8,g8,nd8,R8⟩ Sq;refine ask A8 λv2 H9 s9 tv2=>?_;rcases tv2 with ⟨_,t2,rfl,et2⟩ | ⟨d,_⟩
   ·refine ⟨ad3 "refused" "back",ad3 "refused" "back",rfl,ah5 (SqT.of et2),ah5 (SqT.of (s9 _ _ (Sq _ _ (s8 _ _ (Sp _ _ (S6 _ _ et)))))),aC4 _ _ _ _,aP2 _ _,?_⟩
    rw [aD4];exact k _ (S7.trans (s8.trans (Sq.trans s9)))
   ·exact absurd d0 d
  ·exact absurd d0 d
 have d0:dt n (lin 1 s (qq M)) ≠ 0:=λz=>hz (by rw [z];rfl)
 rcases tv with ⟨d,_⟩ | ⟨_,T,r0,rfl,tT,tA,fr0⟩
 ·exact absurd d d0
 obtain ⟨fT,tuT,C',V',oT,hV⟩:=tT;have A6:=(tA.to s4).to s6;obtain ⟨sT,tsT,erT,fT0,ndT,RT⟩:=A6;have S6:=S24.trans s6;have lts:ts.length=n:=by rw [hR.length,ln]
 refine ⟨_,.inl (SqL.of (S6 _ _ ha)),r0,tsT,T,by rw [q0e,lts,fT.len],erT,RT.toC,by rw [fT.len];lia,λL hL=>⟨(oT.row L hL).1,λq hq=>((oT.bd L hL).2 q hq).mono (by lia)⟩,λH7 s7=>⟨true,rfl,?_⟩⟩
 rw [if_neg (by decide)]
 refine ⟨r0,b,tsT,tb,T,Nb,n,C',V',B,W+1,rfl,s7 _ _ erT,RT.same s7,(s6.trans s7) _ _ eb,Rb.same (s6.trans s7),fT.len,fb.len,by lia,λL hL=>⟨fT.row L hL,(oT.row L hL).2⟩,λL hL=>⟨fb.row L hL,(ob.row L hL).2⟩,oT.B0,ob.B0,oT.BW,ob.BW,by lia,λr1 us1 H8 s8 f8 g8 nd8 e8 R8=>?_⟩
 have pe:al3 T Nb=Nc:=((fT.prod fb).to tuT).eq fc;have S68:=s6.trans (s7.trans s8);refine ⟨L5 Nc,L5 Nc,rfl,by rw [<- pe];exact .lst (SqL.of e8) R8.isDs,.lst (SqL.of (S68 _ _ ec)) (Rc.same S68).isDs,Y5 _ _,ad2 _,_,rfl,?_⟩
 rw [Y7,decide_eq_true rfl,if_neg (by decide)]
 have S08:=S6.trans (s7.trans s8);have eT8:=(s7.trans s8) _ _ erT;have RT8:=RT.same (s7.trans s8);refine ⟨r0,tsT,T,rfl,eT8,RT8,by rw [fT.len];omega,λr2 us2 H9 s9 f9 g9 nd9 e9 R9=>?_⟩
 refine ⟨r0,tsT,T,rfl,s9 _ _ eT8,RT8.same s9,by rw [fT.len];omega,λr3 us3 H10 s10 f10 g10 nd10 e10 R10=>⟨by decide,λp3 fp3=>?_⟩⟩
 have Sp3:=c9.new fp3 (.lst []);have rm:=bb9 hW n1 n4 hV;have tB:ad6 n (-s) (qq T) (qq M):=tuT.back s2 d0;have dB:dt n (lin 1 (-s) (qq T)) ≠ 0:=tuT.det s2 d0
 have ws:(1-way=0/\-s=-1) \/ (1-way=1/\-s=1):=by
  rcases hws with ⟨rfl,rfl⟩ | ⟨rfl,rfl⟩
  ·exact .inr ⟨by decide,by decide⟩
  ·exact .inl ⟨by decide,by decide⟩
 have askB:∀ {Q':VK},(∀ r ts' H2,c9 (upd H10 p3 (.lst [])) H2->H2 r=some (.lst (ts'.map V.ref))->Rws H2 ts' M->Q' (.ref r) H2)->an3 K [.int (1-way),.ref r3,.ref p3,.int 0] (upd H10 p3 (.lst [])) Q' E0:=fun {Q'} k'=>by
  have X:bt1 (upd H10 p3 (.lst [])) Q' r3 (-s):=⟨us3,T,n,C',V',Sp3 _ _ e10,R10.same Sp3,fT.len,n1,oT,rm,λd=>absurd d dB,λd U tU r ts' H2 s2 fr fts nd er rr=>by
   have:U=M:=(tU.1.to λi j hi hj=>ad6.uniq dB tU.2.1 tB hi hj).eq fM;exact k' r ts' H2 s2 er (this ▸ rr)⟩
  refine ⟨1-way,r3,p3,0,rfl,?_⟩;rcases ws with ⟨h,h2⟩ | ⟨h,h2⟩
  ·exact .inl ⟨h,h2 ▸ X⟩
  ·exact .inr (.inl ⟨h,h2 ▸ X⟩)
 refine askB λr4 us4 H11 s11 e11 R11=>?_;have S911:=s10.trans (Sp3.trans s11);have S11:=S08.trans (s9.trans S911);refine ⟨L5 M,L5 M,rfl,.lst (SqL.of e11) R11.isDs,.lst (SqL.of (S11 _ _ ha)) (hR.same S11).isDs,Y5 _ _,ad2 _,_,rfl,?_⟩;rw [Y7,decide_eq_true rfl,if_neg (by decide)]
 refine ⟨by decide,λp5 fp5=>?_⟩
 have Sp5:=c9.new fp5 (.tup [.int 77,.int 1]);have S12:=S11.trans Sp5;have T12:=(s9.trans S911).trans Sp5;have lT:tsT.length=n:=by rw [RT.length,fT.len]
 obtain ⟨D1,h1⟩:∃ D1,tsT[0]? = some D1:=⟨_,q0d (by lia)⟩
 obtain ⟨D2,h2⟩:∃ D2,tsT[n-1]? = some D2:=⟨_,q0d (by lia)⟩
 obtain ⟨D3,h3⟩:∃ D3,hs[0]? = some D3:=⟨_,q0d (by rw [Rhd.length,ln];lia)⟩
 obtain ⟨x1,L1,eL1,ex1,nx1⟩:=(RT8.same T12).get h1;obtain ⟨x2,L2,eL2,ex2,nx2⟩:=(RT8.same T12).get h2;have eT12:=T12 _ _ eT8;have lx1:x1.length=n:=by rw [nx1.length,fT.row _ (q0c eL1)]
 have lx2:x2.length=n:=by rw [nx2.length,fT.row _ (q0c eL2)]
 refine ⟨r0,rfl,_,SqL.of eT12,.ref D1,by exact v9 (j:=0) (by rw [q0m,h1];rfl),D1,rfl,x1,ex1,0,by exact aa5 (k:=0) (by lia),?_⟩
 have d1r:D1 ≠ r0:=(fT0 D1 (q0c h1)).2;refine ⟨r0,rfl,_,SqL.of (by rw [i8 d1r.symm];exact eT12),.ref D2,aO6 (by rw [q0e,lT,q0m,h2];rfl),?_⟩
 have m3:=q0c h3;obtain ⟨x3,L3,eL3,ex3,nx3⟩:=R1hd.get h3;have lx3:x3.length=n:=by rw [nx3.length,hM.row _ (q0c eL3) |>.1,ln]
 have far:∀ D ∈ tsT,D ≠ al/\D ∉ ts/\D ≠ r2/\D ∉ us2/\D ≠ hd/\D ≠ D3/\D ≠ r0:=λD hD=>by
  have fD:=(fT0 D hD).1;obtain ⟨i,hi⟩:=j0b.mp hD;obtain ⟨_,_,_,eD8,_⟩:=RT8.get hi;refine ⟨λz=>?_,λz=>?_,λz=>?_,λz=>?_,λz=>?_,λz=>?_,(fT0 D hD).2⟩
  ·have:=s01 _ _ ha;rw [<- z,fD] at this;cases this
  ·obtain ⟨j,hj⟩:=j0b.mp z
   obtain ⟨_,_,_,e,_⟩:=(hR.same s01).get hj;rw [fD] at e;cases e
  ·rw [z,f9] at eD8;cases eD8
  ·rw [(g9 D z).1] at eD8;cases eD8
  ·rw [z] at fD;rw [fD] at e1hd;cases e1hd
  ·rw [z] at fD;rw [fD] at ex3;cases ex3
 have f1:=far D1 (q0c h1);have f2:=far D2 (q0c h2);obtain ⟨Kp,hKp⟩:∃ Kp:Hp->Prop,∀ G,Kp G ↔ (G al=some (.lst (ts.map V.ref))/\Rws G ts M/\G r2=some (.lst (us2.map V.ref))/\Rws G us2 T/\G hd=some (.lst (hs.map V.ref))/\G D3=some (.lst x3)):=⟨_,λ_=>Iff.rfl⟩
 have KpS:∀ {G G':Hp},Kp G->c9 G G'->Kp G':=fun {G G'} h e=>by
  obtain ⟨a1,a2,a3,a4,a5,a6⟩:=(hKp G).mp h;exact (hKp G').mpr ⟨e _ _ a1,a2.same e,e _ _ a3,a4.same e,e _ _ a5,e _ _ a6⟩
 have KpU:∀ {G:Hp} {D:Addr} {zs:List V} {o:HO},Kp G->D ∈ tsT->G D=some (.lst zs)->Kp (upd G D o):=fun {G D zs o} h hD e=>by
  obtain ⟨a1,a2,a3,a4,a5,a6⟩:=(hKp G).mp h;obtain ⟨q1,q2,q3,q4,q5,q6,_⟩:=far D hD;exact (hKp _).mpr ⟨by rw [i8 q1.symm];exact a1,a2.over e q2,by rw [i8 q3.symm];exact a3,a4.over e q4,by rw [i8 q5.symm];exact a5,by rw [i8 q6.symm];exact a6⟩
 have K12:Kp (upd H11 p5 (.tup [.int 77,.int 1])):=(hKp _).mpr ⟨S12 _ _ ha,hR.same S12,(S911.trans Sp5) _ _ e9,R9.same (S911.trans Sp5),(s6.trans (s7.trans (s8.trans T12))) _ _ ehd,(S2.trans (s4.trans (s6.trans (s7.trans (s8.trans T12))))) _ _ ex3⟩;have K13:=KpU (o:=.lst (x1.set 0 (.ref p5))) K12 (q0c h1) ex1;generalize hGa:upd (upd H11 p5 (.tup [.int 77,.int 1])) D1 (.lst (x1.set 0 (.ref p5)))=Ga at *
 obtain ⟨y2,ly2,ey2⟩:∃ y2:List V,y2.length=n/\Ga D2=some (.lst y2):=by
  by_cases z:D2=D1
  ·exact ⟨x1.set 0 (.ref p5),by rw [y0d,lx1],by rw [<- hGa,z,c6]⟩
  ·exact ⟨x2,lx2,by rw [<- hGa,i8 z];exact ex2⟩
 refine ⟨.inl ⟨_,SqL.of ey2⟩,by decide,λp6 fp6=>?_⟩
 have Sp6:=c9.new fp6 (.tup [.int 5,.int 1]);refine ⟨D2,rfl,y2,Sp6 _ _ ey2,w5 (by lia),by decide,λp7 fp7=>?_⟩
 have K14:=KpU (o:=.lst (y2 ++ [.ref p6])) (KpS K13 Sp6) (q0c h2) (Sp6 _ _ ey2);have Sp7:=c9.new fp7 (.tup [.int 55,.int 1]);have K15:=KpS K14 Sp7;obtain ⟨_,_,_,_,a5,a6⟩:=(hKp _).mp K15;refine ⟨_,SqL.of a5,.ref D3,by exact v9 (j:=0) (by rw [q0m,h3];rfl),D3,rfl,x3,a6,0,by exact aa5 (k:=0) (by lia),?_⟩
 obtain ⟨a1,a2,a3,a4,_,_⟩:=(hKp _).mp K15;have d3H:=(fhs D3 m3).1;have d1H:=s01.free (fT0 D1 (q0c h1)).1;have d2H:=s01.free (fT0 D2 (q0c h2)).1;have ex38:H8 D3=some (.lst x3):=(S2.trans (s4.trans (s6.trans (s7.trans s8)))) _ _ ex3;have q1:al ≠ D3:=λz=>by rw [z,d3H] at ha;cases ha
 have q2:D3 ∉ ts:=λz=>by
  obtain ⟨j,hj⟩:=j0b.mp z;obtain ⟨_,_,_,e,_⟩:=hR.get hj;rw [d3H] at e;cases e
 have q3:r2 ≠ D3:=λz=>by rw [<- z,f9] at ex38;cases ex38
 have q4:D3 ∉ us2:=λz=>by rw [(g9 D3 z).1] at ex38;cases ex38
 have SGa:c9 H Ga:=by rw [<- hGa];exact S12.over d1H _
 have SH:=(((SGa.trans Sp6).over d2H (.lst (y2 ++ [.ref p6]))).trans Sp7).over d3H (.lst (x3.set 0 (.ref p7)));have e2f:=(i8 (o:=HO.lst (x3.set 0 (V.ref p7))) q3).trans a3;have R2f:=a4.over (o:=.lst (x3.set 0 (.ref p7))) a6 q4;refine ⟨al,ts,M,rfl,by rw [i8 q1];exact a1,a2.over a6 q2,by lia,λr7 us7 H20 s20 f20 g20 nd20 e20 R20=>⟨by decide,λp8 fp8=>?_⟩⟩
 have Sp8:=c9.new fp8 (.lst []);have A20:t7 _ r7 M (upd H20 p8 (.lst [])):=t7.to ⟨s20,us7,e20,g20,nd20,R20⟩ Sp8;refine ask A20 λv2 H21 s21 tv2=>?_;rcases tv2 with ⟨d,_⟩ | ⟨_,T2,r8,rfl,tT2,tA2,_⟩
 ·exact absurd d d0
 have eT:T2=T:=(tT2.1.to λi j hi hj=>ad6.uniq d0 tT2.2.1 tuT hi hj).eq fT;subst eT;obtain ⟨_,us8,e8',_,_,R8'⟩:=tA2;have S2f:=s20.trans (Sp8.trans s21);refine ⟨L5 T2,L5 T2,rfl,.lst (SqL.of e8') R8'.isDs,.lst (SqL.of (S2f _ _ e2f)) (R2f.same S2f).isDs,Y5 _ _,ad2 _,?_⟩;rw [Y7,decide_eq_true rfl];exact k _ (SH.trans S2f)
def aQ2:Sp:=λvs H Q _ => ∃ (a b:Addr) (ts:List Addr) (M:List (List Rat)) (ys:List V) (q:List Rat) (B W C' V' n:Nat),vs=[.ref a,.ref b,.int n]/\H a=some (.lst (ts.map V.ref))/\Rws H ts M/\H b=some (.lst ys)/\C9 H ys q/\B8 B W M/\au7 C' V' q/\n<=20/\W+V'+n*(W+7)<=5990/\q.length<=20/\1<=M.length/\(M.length=q.length->∀ k,k<n->∀ L ∈ M,aX8 L (wkQ M q k))/\∀ H',c9 H H'->Q (.bl true) H'
abbrev G6:Stmt:=top 88
theorem K4:j4 ["_law_table","_law_column_here","_law_n","_law_told","_law_due","_law_k","_law_beside","_law_handed"] ["_law_table","_law_column_here","_law_n"] (c8 G6):=by and_intros
theorem aq5 {f f1 f2 f3 f4:Addr} (d:Df K mg "_law_walk_right" G6 ["_law_table","_law_column_here","_law_n"] f) (G__law_copied:Def P w K mg base CX0 1 "_law_copied" f1 ["_law_table"] aA6) (G__law_asked:Def P w K mg base CX0 6 "_law_asked" f2 ["_law_way","_law_table","_law_column_here","_law_n"] (an3 K)) (GD__law_column:Def P w K mg base CX0 4 "_law_column" f3 ["_law_table","_law_column_here"] (aY9 K)) (G__law_is_number:Def P w K mg base CX0 2 "_law_is_number" f4 ["_law_thing"] (aK3 K)) (n_len:mg "len" = none) (n_list:mg "list" = none) (n_range:mg "range" = none) (n_isinstance:mg "isinstance" = none) (n_all:mg "all" = none):Def P w K mg base CX0 7 "_law_walk_right" f ["_law_table","_law_column_here","_law_n"] aQ2:=by
  refine d.ok (N:=["_law_table","_law_column_here","_law_n","_law_told","_law_due","_law_k","_law_beside","_law_handed"]) K4 (by rintro vs H Q E ⟨_,_,_,_,_,_,_,_,_,_,_,h,_⟩;rw [h];rfl) (λcdv A outer s H vs Q E hr h=>?_)
  obtain ⟨al,bl,ts,M,ys,q,B,W,C',V',n,rfl,ha,hR,hb,hN,hM,hq,n20,hWV,hql,m1,hD,k⟩:=h;have hu:=hr.units;have G__law_column:=GD__law_column;have m7:=hM.n7
  -- the bz8 asked of copies
  have ask:∀ {H0 H1:Hp} {Q':VK} {hd cl:Addr},t7 H0 hd M H1->H1 cl=some (.lst ys)->C9 H1 ys q->(∀ v H2,c9 H1 H2->((M.length ≠ q.length/\∃ t,v=.ref t/\H2 t=some (.tup [.str "refused",.str "pair"])) \/ (M.length=q.length/\∃ r,v=.ref r/\H1 r=none/\t7 H1 r ((List.range (n+1)).map (wkQ M q)) H2))->Q' v H2)->an3 K [.int 2,.ref hd,.ref cl,.int n] H1 Q' E0:=fun {H0 H1 Q' hd cl} tA ec nc k'=>by
    obtain ⟨_,us,e1,_,_,r1⟩:=tA;exact ⟨2,hd,cl,n,rfl,.inr (.inr ⟨rfl,us,M,ys,q,B,W,C',V',e1,r1,SqL.of ec,nc,hM,hq,n20,hWV,hql,λd t H2 s2 ft et=>k' _ _ s2 (.inl ⟨d,t,rfl,et⟩),λd r ts' H2 s2 fr fts nd er rr=>k' _ _ s2 (.inr ⟨d,r,rfl,fr,⟨s2,ts',er,fts,nd,rr⟩⟩)⟩)⟩
  refine ⟨_, (c7 (av4 (i := 6) (j := 7) rfl K4.nd rfl rfl (by decide) rfl rfl (b7 (d2 G__law_copied hr (b7 (pv 0) b8) i4) (b7 (C8 M9 rfl n_list (by decide +kernel) (b7 (pv 1) b8)) b8)) rfl)
      (c7 (i9 (i:=3) K4.nd rfl (Or.inl rfl) (d2 G__law_asked hr (b7 b9 (b7 (pv 6) (b7 (pv 7) (b7 (pv 2) b8)))) i4))
      (c7 (E7 (PW.pt (ad1 (l9 (aq3 hu) (pv 6) (pv 0) (j8 _)) (af6 (l9 (aq3 hu) (pv 7) (pv 1) (j8 _))))) (d4 (j2 ae9)) o0)
      (c7 (E7 (l9 ap7 (i7 k6 rfl n_len (by decide +kernel) (b7 (pv 1) b8)) (i7 k6 rfl n_len (by decide +kernel) (b7 (pv 0) b8)) (j8 _)) (d4 (j2 (G3 (ai9 hu) (pv 3) (m6 (b7 af8 (b7 af8 b8))) (j8 _)))) o0)
      (c7 (i9 (i:=4) K4.nd rfl (Or.inl rfl) (C5 (b7 (C8 M9 rfl n_list (by decide +kernel) (b7 (pv 1) b8)) b8)))
      (c7 (P6 PassesOwn.never rfl (E4 rfl n_range (b7 (pv 2) b8)) (d5 (i:=5) K4.nd rfl (Or.inl rfl)) (d4 (W4 (at3 PySem.F.plainAttrs_list PySem.F.slot_list_append PySem.F.type_list_append N6 (pv 4) (b7 (d2 G__law_column hr (b7 (pv 0) (b7 (j6 j9 (pv 4) (aa0 Q5 b9) (λ_ _=>rfl)) b8)) i4) b8)))))
      (c7 (E7 (PW.pt (ad1 (V5 (V4 (i7 p9 rfl n_isinstance (by decide +kernel) (b7 (pv 3) (b7 (ae8 (v:=.ty "list") rfl n_list (by decide +kernel) rfl) b8))))) (ad1 (l9 (aq3 hu) (pv 3) (pv 4) (j8 _)) (af6 (V5 (V4 (i7 (au6 rfl) rfl n_all (by decide +kernel) (b7 (t9 (Nc:=["_law_one_here"]) (caps:=[none]) rfl (G5.of (osc:=c8 G6) (N:=["_law_table","_law_column_here","_law_n","_law_told","_law_due","_law_k","_law_beside","_law_handed"]) (ks:=[]) rfl rfl rfl rfl k9 (by decide +kernel)) (A5 (pv 3)) (λC s₂ H₂ fp pins=>(d5 (i:=0) (show List.Nodup (["_law_one_here"]:List Str) by decide +kernel) rfl (Or.inl rfl) (Or.inr rfl))) (λC s₂ H₂ fp pins=>(i7 (by exact p9:aa9 _ (.builtin "isinstance") (bo7 K)) rfl n_isinstance (by decide +kernel) (b7 (pv 0) (b7 (ae8 (v:=.ty "list") rfl n_list (by decide +kernel) rfl) b8))))) b8)))))))) (d4 (j2 ae9)) o0)
      (c7 (E7 (V5 (V4 (i7 (au6 rfl) rfl n_all (by decide +kernel) (b7 (t9 (Nc:=["_law_row"]) (caps:=[none]) rfl (G5.of (osc:=c8 G6) (N:=["_law_table","_law_column_here","_law_n","_law_told","_law_due","_law_k","_law_beside","_law_handed"]) (ks:=[]) rfl rfl rfl rfl k9 (by decide +kernel)) (A5 (pv 3)) (λC s₂ H₂ fp pins=>(d5 (i:=0) (show List.Nodup (["_law_row"]:List Str) by decide +kernel) rfl (Or.inl rfl) (Or.inr rfl))) (λC s₂ H₂ fp pins=>(i7 (by exact au6 rfl:aa9 _ (.builtin "all") (λxs H Q => ∃ (p:Addr) (bs:List Bool),xs=[.ref p]/\SqL K H p (bs.map V.bl)/\Q (.bl (bs.all id)) H)) rfl n_all (by decide +kernel) (b7 (t9 (Nc:=["_law_one_here"]) (caps:=[none]) rfl (G5.of (osc:=_) (N:=["_law_row"]) (ks:=[]) rfl rfl rfl rfl k9 (by kernel_rfl)) (show PI _ _ _ (am0 K _) from by exact (A5 (pv 0))) (λC s₂ H₂ fp pins=>(d5 (i:=0) (show List.Nodup (["_law_one_here"]:List Str) by decide +kernel) rfl (Or.inl rfl) (Or.inr rfl))) (λC s₂ H₂ fp pins=>(d2 G__law_is_number hr (b7 (pv 0) b8) i4))) b8)))) b8)))) (d4 (j2 ae9)) o0)
      (c7 (K7 (m6 (b7 b9 (b7 b9 b8))) (V7 (j6 j9 (pv 3) b9 (λ_ _=>rfl)) b9 K2))
      (c7 (W4 (at3 PySem.F.plainAttrs_list PySem.F.slot_list_append PySem.F.type_list_append N6 (j6 j9 (pv 3) (aa0 Q5 b9) (λ_ _=>rfl)) (b7 (m6 (b7 b9 (b7 b9 b8))) b8)))
      (c7 (K7 (m6 (b7 b9 (b7 b9 b8))) (V7 (pv 7) b9 K2))
      (d4 (j2 (G3 (ai9 hu) (d2 G__law_asked hr (b7 b9 (b7 (d2 G__law_copied hr (b7 (pv 0) b8) i4) (b7 (C8 M9 rfl n_list (by decide +kernel) (b7 (pv 1) b8)) (b7 (pv 2) b8)))) i4) (pv 4) (j8 _))))))))))))))),?_⟩
  rw [show start ["_law_table","_law_column_here","_law_n","_law_told","_law_due","_law_k","_law_beside","_law_handed"] [.ref al,.ref bl,.int n]=[some (.ref al),some (.ref bl),some (.int n),none,none,none,none,none] from rfl]
  refine k7 (λσ H1 => ∃ hd hc,σ=[some (.ref al),some (.ref bl),some (.int n),none,none,none,some (.ref hd),some (.ref hc)]/\t7 H hd M H1/\H hd=none/\H hc=none/\H1 hc=some (.lst ys)) (λN hN'=>?_) ?_
  · subst_eqs
    exact ⟨al,ts,M,rfl,ha,hR,m7,λr us H1 s1 fr fus nd er rr=>⟨ys,.inl (SqL.of (s1 _ _ hb)),λl fl=>hN' _ _ ⟨r,l,rfl,t7.to ⟨s1,us,er,fus,nd,rr⟩ (c9.new fl _),fr,s1.free fl,c6⟩⟩⟩
  rintro σ H1 ⟨hd,hc,rfl,A1,fhd,fhc,ehc⟩;have S1:=A1.same;have lts:=hR.length;have lys:=hN.length;refine k7 (λσ H2 => ∃ v,σ=[some (.ref al),some (.ref bl),some (.int n),some v,none,none,some (.ref hd),some (.ref hc)]/\c9 H1 H2/\((M.length ≠ q.length/\∃ t,v=.ref t/\H2 t=some (.tup [.str "refused",.str "pair"])) \/ (M.length=q.length/\∃ r,v=.ref r/\H1 r=none/\t7 H1 r ((List.range (n+1)).map (wkQ M q)) H2))) (λN hN'=>?_) ?_
  · subst_eqs
    exact ask A1 ehc (hN.mono S1.tups) λv H2 s2 tv=>hN' _ _ ⟨v,rfl,s2,tv⟩
  rintro σ H2 ⟨v,rfl,S2,tv⟩;have S12:=S1.trans S2;obtain ⟨s01,us,e1hd,fus,ndu,R1hd⟩:=A1;refine k7 (λσ H3=>σ=[some (.ref al),some (.ref bl),some (.int n),some v,none,none,some (.ref hd),some (.ref hc)]/\H3=H2) (λN hN'=>?_) ?_
  · subst_eqs
    refine ⟨L5 M,L5 M,rfl,.lst (SqL.of (S2 _ _ e1hd)) (R1hd.same S2).isDs,.lst (SqL.of (S12 _ _ ha)) (hR.same S12).isDs,Y5 _ _,ad2 _,_,rfl,?_⟩;rw [Y7,decide_eq_true rfl,if_neg (by decide)]
    refine ⟨O6 q,O6 q,rfl,W7 (SqL.of (S2 _ _ ehc)) (hN.mono S12.tups),W7 (SqL.of (S12 _ _ hb)) (hN.mono S12.tups),al7 _ _,Nat.le_trans (au5 _) (by decide),_,rfl,?_⟩
    rw [ah6,decide_eq_true rfl,if_neg (by decide)]
    exact hN' _ _ ⟨rfl,rfl⟩
  rintro σ H3 ⟨rfl,rfl⟩;refine k7 (λσ H4=>σ=[some (.ref al),some (.ref bl),some (.int n),some v,none,none,some (.ref hd),some (.ref hc)]/\H4=H3/\M.length=q.length) (λN hN'=>?_) ?_
  · subst_eqs
    refine ⟨ys,.inl (SqL.of (S12 _ _ hb)),_,.inl (SqL.of (S12 _ _ ha)),rfl,F2 (λhne=>?_) (λhe=>hN' _ _ ⟨rfl,rfl,?_⟩)⟩
    · rw [List.length_map] at hne
      rcases tv with ⟨_,t,rfl,et⟩ | ⟨hl,_⟩
      · refine ⟨by decide,λp fp=>?_⟩
        have Sp:=c9.new fp (.tup [.str "refused",.str "pair"])
        refine ⟨ad3 "refused" "pair",ad3 "refused" "pair",rfl,ah5 (SqT.of (Sp _ _ et)),ah5 (SqT.of c6),aC4 _ _ _ _,aP2 _ _,?_⟩
        rw [aD4];exact k _ (S12.trans Sp)
      · exact absurd (by lia) hne
    · rw [List.length_map] at he;lia
  rintro σ H4 ⟨rfl,rfl,hl⟩;rcases tv with ⟨hne,_⟩ | ⟨_,r0,rfl,fr0,tA⟩
  · exact absurd hl hne
  refine k7 (λσ H5 => ∃ p,σ=[some (.ref al),some (.ref bl),some (.int n),some (.ref r0),some (.ref p),none,some (.ref hd),some (.ref hc)]/\t7 H4 p [wkQ M q 0] H5/\H4 p=none) (λN hN'=>?_) ?_
  · subst_eqs
    refine ⟨ys,.inl (SqL.of (S12 _ _ hb)),λl fl=>⟨by decide,λp fp=>?_⟩⟩
    have Sa:=c9.new fl (.lst ys);have Sb:=c9.new fp (.lst [.ref l]);have lp:l ≠ p:=j3 c6 fp;exact hN' _ _ ⟨p,rfl,⟨Sa.trans Sb,[l],c6,by simp [fl,lp],by simp,.cons (Sb _ _ c6) (hN.mono (S12.trans (Sa.trans Sb)).tups) .nil⟩,Sa.free fp⟩
  rintro σ H5 ⟨pd,rfl,T5,fpd⟩;refine k7 (λσ H6 => ∃ o,σ=[some (.ref al),some (.ref bl),some (.int n),some (.ref r0),some (.ref pd),o,some (.ref hd),some (.ref hc)]/\t7 H4 pd ((List.range (n+1)).map (wkQ M q)) H6) (λN hN'=>?_) ?_
  · refine ⟨_,rfl,(n:Int),rfl,by simp,by lia,T9 (λi σ H6 => ∃ o,σ=[some (.ref al),some (.ref bl),some (.int n),some (.ref r0),some (.ref pd),o,some (.ref hd),some (.ref hc)]/\t7 H4 pd ((List.range (i+1)).map (wkQ M q)) H6) ⟨_,rfl,T5⟩ ?_ ?_⟩
    · rintro i σ H6 hi ⟨o,rfl,T⟩
      have hi':i<n:=by lia
      obtain ⟨rs,er,hnn,nd,R⟩:=T.at';have lr:=R.length;rw [List.length_map,List.length_range] at lr;have wl:=aJ4 hl i;have lg:((List.range (i+1)).map (wkQ M q))[i]? = some (wkQ M q i):=by rw [List.getElem?_map,ac0 (by simp)];rfl
      have hr':i<rs.length:=by lia
      have hti:rs[i]? = some rs[i]:=List.getElem?_eq_getElem hr';obtain ⟨xs,L,hL,et,nt⟩:=R.get hti;rw [lg] at hL;obtain rfl:=Option.some.inj hL
      subst_eqs
      refine ⟨.inl ⟨_,SqL.of er⟩,_,SqL.of er,.ref rs[i],aO6 (by rw [List.length_map,lr,Nat.add_sub_cancel,List.getElem?_map,hti];rfl),?_⟩
      have S6:=S12.trans T.same;refine ⟨al,rs[i],ts,M,xs,wkQ M q i,rfl,S6 _ _ ha,hR.same S6,SqL.of et,nt,λL hL=>⟨by rw [wl];exact (hM.row L hL).1,hD hl i hi' L hL⟩,by lia,λr zs H7 s7 f7 e7 n7=>?_⟩
      obtain ⟨zs2,eD,yl,T'⟩:=T.add fpd f7 ⟨s7,zs,e7,n7⟩;rw [List.length_map,List.length_range] at yl;refine ⟨zs2,eD,w5 (by lia),?_⟩
      rw [List.range_succ,List.map_append];exact T'
    · rintro σ H6 ⟨o,rfl,T⟩
      rw [show ((n:Int)).toNat+1=n+1 from rfl] at T;exact hN' _ _ ⟨_,rfl,T⟩
  rintro σ H6 ⟨o,rfl,T6⟩;have T6r:=tA.to T6.same;obtain ⟨W',hW'⟩:∃ X,X=(List.range (n+1)).map (wkQ M q):=⟨_,rfl⟩;rw [<- hW'] at T6 T6r
  subst_eqs
  obtain ⟨sT,tr,eT,fT,ndT,RT⟩:=T6r;obtain ⟨sP,tp,eP,fP,ndP,RP⟩:=T6;have lW:W'.length=n+1:=by rw [hW',List.length_map,List.length_range]
  have ltr:=RT.length;refine ⟨trivial,_,.of (.lst eT),_,Z3,F2 (λz=>by cases z) (λ_=>?_)⟩
  refine ⟨L5 W',L5 W',rfl,.lst (SqL.of eT) RT.isDs,.lst (SqL.of eP) RP.isDs,Y5 _ _,ad2 _,_,rfl,?_⟩;rw [Y7,decide_eq_true rfl,if_neg (by decide)]
  refine ⟨⟨_,SqL.of eT⟩,λD hDn=>?_⟩;refine B9 (tr.map V.ref) (λj σ H7 => ∃ o,σ=[o]/\c9 H6 H7/\H7 D=some (.lst ((List.replicate j true).map V.bl))) ⟨_,rfl,c9.new hDn _,c6⟩ (λj σ H7 _ ⟨o,_,s7,_⟩=>SqL.of (s7 _ _ eT)) ?_ ?_
  · rintro j x σ H7 hx ⟨o,rfl,s7,e7⟩
    have hj:=(List.getElem?_eq_some_iff.mp hx).1;obtain ⟨t,ht,rfl⟩:=B7 hx;obtain ⟨xs,L,hL',et,nt⟩:=RT.get ht;rw [List.length_map] at hj
    subst_eqs
    refine ⟨trivial,_,.of (.lst (s7 _ _ et)),_,Z3,?_⟩;refine t6.mk (by rw [List.length_map];exact hj) e7 (by simp;exact Nat.lt_of_lt_of_le (show j<1000 by lia) (by decide)) ⟨_,rfl,s7.over hDn _,?_⟩
    rw [c6,List.replicate_succ',List.map_append];rfl
  rintro σ H7 ⟨o,rfl,s7,e7⟩;refine ⟨D,rfl,_,SqL.of e7,F2 (λz=>by simp at z) (λ_=>?_)⟩
  have eT7:=s7 _ _ eT;have RT7:=RT.same s7;refine ⟨⟨_,SqL.of eT7⟩,λD2 hD2=>?_⟩;refine B9 (tr.map V.ref) (λj σ H8 => ∃ o,σ=[o]/\c9 H7 H8/\H8 D2=some (.lst ((List.replicate j true).map V.bl))) ⟨_,rfl,c9.new hD2 _,c6⟩ (λj σ H8 _ ⟨o,_,s8,_⟩=>SqL.of (s8 _ _ eT7)) ?_ ?_
  · rintro j x σ H8 hx ⟨o,rfl,s8,e8⟩
    have hj:=(List.getElem?_eq_some_iff.mp hx).1;obtain ⟨t,ht,rfl⟩:=B7 hx;obtain ⟨xs,L,hL',et,nt⟩:=RT7.get ht;rw [List.length_map] at hj
    have eL:L=wkQ M q j:=by
      rw [hW',List.getElem?_map,ac0 (by lia)] at hL'
      exact (Option.some.inj hL').symm
    obtain ⟨C2,cO⟩:=bg2 hM hq j;have jb:j*(W+7)<=n*(W+7):=Nat.mul_le_mul_right _ (by lia)
    have lx:=nt.length;have lL:L.length=M.length:=by rw [eL,aJ4 hl]
    have et8:=s8 _ _ et
    subst_eqs
    refine ⟨⟨_,SqL.of et8⟩,λD3 hD3=>?_⟩;refine B9 xs (λj σ H9 => ∃ o,σ=[o]/\c9 H8 H9/\H9 D3=some (.lst ((List.replicate j true).map V.bl))) ⟨_,rfl,c9.new hD3 _,c6⟩ (λj σ H9 _ ⟨o,_,s9,_⟩=>SqL.of (s9 _ _ et8)) ?_ ?_
    · rintro i x σ H9 hx2 ⟨o,rfl,s9,e9⟩
      have hi:i<xs.length:=(List.getElem?_eq_some_iff.mp hx2).1;obtain ⟨p,q',rfl,hq',hp⟩:=nt.getV hx2;have sq:=(cO.bd q' (eL ▸ List.mem_of_getElem? hq')).d
      subst_eqs
      refine ⟨_,q',rfl,⟨p,rfl,SqT.of ((s8.trans s9) _ _ hp)⟩,?_,λH10 s10=>?_⟩
      · rw [Int.natAbs_natCast]
        exact Nat.lt_of_lt_of_le sq (i6 (by lia))
      · refine t6.mk hi (s10 _ _ e9) (by simp;exact Nat.lt_of_lt_of_le (show i<1000 by lia) (by decide)) ⟨_,rfl,(s9.trans s10).over hD3 _,?_⟩
        rw [c6,List.replicate_succ',List.map_append];rfl
    · rintro σ H9 ⟨o,rfl,s9,e9⟩
      refine ⟨D3,rfl,_,SqL.of e9,t6.mk (by rw [List.length_map];exact hj) (s9 _ _ e8) (by simp;exact Nat.lt_of_lt_of_le (show j<1000 by lia) (by decide)) ⟨_,rfl,(s8.trans s9).over hD2 _,?_⟩⟩
      rw [c6,List.replicate_succ',List.map_append,show (List.replicate xs.length true).all id=true by simp]
      rfl
  rintro σ H8 ⟨o,rfl,s8,e8⟩;refine ⟨D2,rfl,_,SqL.of e8,F2 (λz=>by simp at z) (λ_=>?_)⟩
  refine ⟨by decide,λp5 fp5=>?_⟩
  have Sp5:=c9.new fp5 (.tup [.int 77,.int 1]);have S68:=(s7.trans s8).trans Sp5;have S46:=sP;have S49:=S46.trans S68;have eT9:=S68 _ _ eT;have RT9:=RT.same S68;obtain ⟨D1,h1⟩:∃ D1,tr[0]? = some D1:=⟨_,List.getElem?_eq_getElem (by lia)⟩
  obtain ⟨D9,h9⟩:∃ D9,tr[n]? = some D9:=⟨_,List.getElem?_eq_getElem (by lia)⟩
  have rlen:∀ L ∈ W',L.length=M.length:=λL hL=>by
    rw [hW'] at hL;obtain ⟨j,_,rfl⟩:=List.mem_map.mp hL;exact aJ4 hl j
  obtain ⟨x1,L1,eL1,ex1,nx1⟩:=RT9.get h1;obtain ⟨x9,L9,eL9,ex9,nx9⟩:=RT9.get h9;have lx1:x1.length=M.length:=by rw [nx1.length,rlen _ (List.mem_of_getElem? eL1)]
  have lx9:x9.length=M.length:=by rw [nx9.length,rlen _ (List.mem_of_getElem? eL9)]
  have n1r:=(fT D1 (List.mem_of_getElem? h1)).2;refine ⟨_,SqL.of eT9,.ref D1,by exact v9 (j:=0) (by rw [List.getElem?_map,h1];rfl),D1,rfl,x1,ex1,0,by exact aa5 (k:=0) (by lia),?_⟩
  refine ⟨_,SqL.of (by rw [i8 n1r.symm];exact eT9),.ref D9,aO6 (by rw [List.length_map,ltr,lW,Nat.add_sub_cancel,List.getElem?_map,h9];rfl),?_⟩
  obtain ⟨_,tr4,eT4,_,_,RT4⟩:=tA
  have tr4e:tr4.map V.ref=tr.map V.ref:=by
    have:=S46 _ _ eT4;rw [eT] at this
    injection this with h;injection h with h;exact h.symm
  have far:∀ D ∈ tr,D ≠ al/\D ∉ ts/\D ≠ bl/\D ≠ pd/\D ∉ tp/\D ≠ hc:=λD hD=>by
    have fD:=(fT D hD).1;obtain ⟨i,hi⟩:=List.mem_iff_getElem?.mp hD;have h4:(tr4.map V.ref)[i]? = some (V.ref D):=by rw [tr4e,List.getElem?_map,hi];rfl
    obtain ⟨D',hD',eD'⟩:=B7 h4
    injection eD' with eD'
    subst eD';obtain ⟨_,_,_,eD4,_⟩:=RT4.get hD';refine ⟨λz=>?_,λz=>?_,λz=>?_,λz=>?_,λz=>?_,λz=>?_⟩
    · have:=s01 _ _ ha;rw [<- z,fD] at this;cases this
    · obtain ⟨j,hj⟩:=List.mem_iff_getElem?.mp z
      obtain ⟨_,_,_,e,_⟩:=(hR.same s01).get hj;rw [fD] at e;cases e
    · have:=s01 _ _ hb;rw [<- z,fD] at this;cases this
    · rw [z,fpd] at eD4;cases eD4
    · rw [(fP D z).1] at eD4;cases eD4
    · rw [z] at fD;rw [fD] at ehc;cases ehc
  have m1':=List.mem_of_getElem? h1;have m9':=List.mem_of_getElem? h9;obtain ⟨Kp,hKp⟩:∃ Kp:Hp->Prop,∀ G,Kp G ↔ (G al=some (.lst (ts.map V.ref))/\Rws G ts M/\G bl=some (.lst ys)/\C9 G ys q/\G pd=some (.lst (tp.map V.ref))/\Rws G tp W'/\G hc=some (.lst ys)):=⟨_,λ_=>Iff.rfl⟩
  have KpS:∀ {G G':Hp},Kp G->c9 G G'->Kp G':=fun {G G'} h e=>by
    obtain ⟨a1,a2,a3,a4,a5,a6,a7⟩:=(hKp G).mp h;exact (hKp G').mpr ⟨e _ _ a1,a2.same e,e _ _ a3,a4.mono e.tups,e _ _ a5,a6.same e,e _ _ a7⟩
  have KpU:∀ {G:Hp} {D:Addr} {zs:List V} {o:HO},Kp G->D ∈ tr->G D=some (.lst zs)->Kp (upd G D o):=fun {G D zs o} h hD e=>by
    obtain ⟨a1,a2,a3,a4,a5,a6,a7⟩:=(hKp G).mp h;obtain ⟨q1,q2,q3,q4,q5,q6⟩:=far D hD;exact (hKp _).mpr ⟨by rw [i8 q1.symm];exact a1,a2.over e q2,by rw [i8 q3.symm];exact a3,a4.mono (aa2.lst e),by rw [i8 q4.symm];exact a5,a6.over e q5,by rw [i8 q6.symm];exact a7⟩
  have S19:=S12.trans S49;have K12:Kp (upd H8 p5 (.tup [.int 77,.int 1])):=(hKp _).mpr ⟨S19 _ _ ha,hR.same S19,S19 _ _ hb,hN.mono S19.tups,S68 _ _ eP,RP.same S68,(S2.trans S49) _ _ ehc⟩;have K13:=KpU (o:=.lst (x1.set 0 (.ref p5))) K12 m1' ex1;have d1H:=s01.free (fT D1 m1').1;have d9H:=s01.free (fT D9 m9').1;have SGa:=S19.over d1H (.lst (x1.set 0 (.ref p5)));generalize hGa:upd (upd H8 p5 (.tup [.int 77,.int 1])) D1 (.lst (x1.set 0 (.ref p5)))=Ga at *
  obtain ⟨y2,ly2,ey2⟩:∃ y2:List V,y2.length=M.length/\Ga D9=some (.lst y2):=by
    by_cases z:D9=D1
    · exact ⟨x1.set 0 (.ref p5),by rw [List.length_set,lx1],by rw [<- hGa,z,c6]⟩
    · exact ⟨x9,lx9,by rw [<- hGa,i8 z];exact ex9⟩
  refine ⟨.inl ⟨_,SqL.of ey2⟩,by decide,λp6 fp6=>?_⟩
  have Sp6:=c9.new fp6 (.tup [.int 5,.int 1]);refine ⟨D9,rfl,y2,Sp6 _ _ ey2,w5 (by lia),by decide,λp7 fp7=>?_⟩
  have K14:=KpU (o:=.lst (y2 ++ [.ref p6])) (KpS K13 Sp6) m9' (Sp6 _ _ ey2);have Sp7:=c9.new fp7 (.tup [.int 55,.int 1]);have K15:=KpS K14 Sp7;have SH:=(((SGa.trans Sp6).over d9H (.lst (y2 ++ [.ref p6]))).trans Sp7).over fhc (.lst (ys.set 0 (.ref p7)));obtain ⟨a1,a2,a3,a4,a5,a6,a7⟩:=(hKp _).mp K15;refine ⟨ys,a7,0,by exact aa5 (k:=0) (by lia),?_⟩
  have q1:al ≠ hc:=λz=>by rw [z,fhc] at ha;cases ha
  have q2:hc ∉ ts:=λz=>by
    obtain ⟨j,hj⟩:=List.mem_iff_getElem?.mp z;obtain ⟨_,_,_,e,_⟩:=hR.get hj;rw [fhc] at e;cases e
  have q3:bl ≠ hc:=λz=>by rw [z,fhc] at hb;cases hb
  have ehc4:=S2 _ _ ehc;have q4:pd ≠ hc:=λz=>by rw [<- z,fpd] at ehc4;cases ehc4
  have q5:hc ∉ tp:=λz=>by rw [(fP hc z).1] at ehc4;cases ehc4
  have b3:=(i8 (o:=HO.lst (ys.set 0 (V.ref p7))) q3).trans a3;have b4:=a4.mono (aa2.lst (o:=HO.lst (ys.set 0 (V.ref p7))) a7);have b5:=(i8 (o:=HO.lst (ys.set 0 (V.ref p7))) q4).trans a5;have b6:=a6.over (o:=HO.lst (ys.set 0 (V.ref p7))) a7 q5;refine ⟨al,ts,M,rfl,by rw [i8 q1];exact a1,a2.over a7 q2,m7,λr7 us7 H20 s20 f20 g20 nd20 e20 R20=>⟨ys,.inl (SqL.of (s20 _ _ b3)),λp8 fp8=>?_⟩⟩
  have Sp8:=c9.new fp8 (.lst ys);have A20:t7 _ r7 M (upd H20 p8 (.lst ys)):=t7.to ⟨s20,us7,e20,g20,nd20,R20⟩ Sp8;refine ask A20 c6 (b4.mono (s20.trans Sp8).tups) λv2 H21 s21 tv2=>?_;rcases tv2 with ⟨d,_⟩ | ⟨_,r8,rfl,_,tA2⟩
  · exact absurd hl d
  obtain ⟨_,us8,e8',_,_,R8'⟩:=tA2;rw [<- hW'] at R8';have S2f:=s20.trans (Sp8.trans s21);refine ⟨L5 W',L5 W',rfl,.lst (SqL.of e8') R8'.isDs,.lst (SqL.of (S2f _ _ b5)) (b6.same S2f).isDs,Y5 _ _,ad2 _,?_⟩;rw [Y7,decide_eq_true rfl];exact k _ (SH.trans S2f)
theorem aP5 {m:Nat}:∀ L:List Rat,(∀ q ∈ L,BdN m q)->ak2 L<=2 ^ (m*L.length)
 | [],_=>by simp [ak2]
 | q :: L,h=>by
  have a:=(h q z0c).d;have b:=aP5 L λx hx=>h x (q0u _ hx)
  show q.den*ak2 L<=_;rw [j0m,v0e,m0e,z0f];exact y0y (v0b a) b
theorem bm2 {m:Nat} {L:List Rat} (h:∀ q ∈ L,BdN m q) (h1:1<=L.length):ak2 L<2 ^ (m*L.length):=by
 match L,h1 with
 | q :: L,_ =>
  have a:=(h q z0c).d;have b:=aP5 L λx hx=>h x (q0u _ hx)
  show q.den*ak2 L<_;rw [j0m,v0e,m0e,z0f];exact q0b (g0w a (W9 L)) (z0v _ b)
theorem aZ6 {B w:Nat} (h:B<=2 ^ w):∀ k,B ^ k<=2 ^ (w*k)
 | 0=>q0h _
 | k+1=>by
  rw [v0r,v0e,z0f];exact y0y (aZ6 h k) h
theorem be8 {N:List (List Rat)} {q:List Rat} {k:Nat} (h2:N.length<=2) (h:∀ L ∈ N,L.length=N.length/\∀ x ∈ L,BdN 40 x) (hq:∀ x ∈ q,OvB 1 4 x) (hk:k<20) {L:List Rat} (hL:L ∈ N):aX8 L (wkQ N q k):=by
 have n1:1<=N.length:=List.length_pos_of_mem hL
 have ln:(N.flatten).length<=4:=by
  rw [q1e]
  match N,h2,h with
  | [],_,_=>simp
  | [a],_,h=>have:=(h a (by simp)).1;simp at this;simp [this]
  | [a,b],_,h =>
   have h1:=(h a (by simp)).1
   have h2:=(h b (by simp)).1
   simp at h1 h2;simp [h1,h2]
 have bd:∀ q ∈ N.flatten,BdN 40 q:=λq hq=>by
  obtain ⟨L,hL,hq⟩:=g0a.mp hq;exact (h L hL).2 q hq
 have hB:ak2 N.flatten<=2 ^ 160:=q0s (aP5 _ bd) (j0f (by decide) (by lia))
 have oT:B8 (ak2 N.flatten) 162 N:=⟨by lia,W9 _,q0b (aA1 _ bd) (i6 (by lia)),λL hL=>⟨(h L hL).1,λq hq=>(aA0 _ bd q (g0a.mpr ⟨L,hL,hq⟩)).mono ⋯⟩⟩
 refine bm0 (e:=2960) (V':=10000) (by rw [(h L hL).1];exact h2) (h L hL).2 (λy hy=>?_) (by decide) (by decide)
 match k,hk with
 | 0,_=>exact ⟨1,by decide,q0b (show 1<2 ^ 1 by decide) (i6 (by decide)),(hq y hy).mono (by decide)⟩
 | k+1,hk =>
  obtain ⟨L',hL',rfl⟩:=z0e.mp hy;have r:=h L' hL';have w1:=aT6 oT hq k;have a:=bm2 r.2 (by lia)
  have a2:ak2 L'<2 ^ 80:=q0b a (i6 (by lia))
  have b:=aZ6 hB k;have b2:ak2 N.flatten ^ k<=2 ^ 2880:=q0s b (j0f (by decide) (by lia))
  have P0:=q1t (n:=k) (W9 N.flatten);refine ⟨ak2 L'*ak2 N.flatten ^ k,j0a (W9 _) P0,?_,?_⟩
  ·rw [show 2960=80+2880 from rfl,z0f]
   exact q0b (g0w a2 P0) (z0v _ b2)
  ·have kb:k*(162+7)<=18*(162+7):=v0k _ (by lia)
   have lb:40*L'.length<=40*2:=z0v _ (by lia)
   exact (an7 (W9 L') P0 (aA0 L' r.2) w1).mono (by lia)
theorem bd1 {q:Rat} (b:BdN 4 q) (h:q.den=1):OvB 1 4 q:=⟨q.num,by rw [<- h];exact (z0j q).symm,b.n⟩
def aG7:Sp:=λvs H Q _ => ∃ u,vs=[.ref u,.int 1]/\y9 H u/\∀ r q H',BdN 4 q->q.den=1->A0 u H H'->y9 H' u->H' r=some (.tup (E8 q))->Q (.ref r) H'
theorem az0 {f fd fl:Addr} (d:Df K mg "_law_number" U5 ["_law_urn_here","_law_kind_here"] f) (G__law_draw:Def P w K mg base CX0 1 "_law_draw" fd ["_law_urn_here","_law_many"] F9) (G__law_low:Def P w K mg base CX0 1 "_law_low" fl ["_law_top","_law_bottom"] ap3) (n_int:mg "int" = none):Def P w K mg base CX0 2 "_law_number" f ["_law_urn_here","_law_kind_here"] aG7:=by
 refine d.ok (N:=["_law_urn_here","_law_kind_here","_law_top"]) V9 (λvs H Q E ⟨u,h,_⟩=>by rw [h];rfl) (λcdv A outer s H vs Q E hr h=>?_)
 obtain ⟨u,rfl,hu,k⟩:=h
 refine ⟨_,(c7 (E7 (l9 Q3 (pv 1) b9 (j8 _)) (c7 (i9 (i:=2) V9.nd rfl (q0x rfl) (i5 E9 (i5 z9 (d2 G__law_draw hr (b7 (pv 0) (b7 (i5 Y4 b9 b9) b8)) i4) (i5 Y4 b9 b9)) (d2 G__law_draw hr (b7 (pv 0) (b7 (i5 Y4 b9 b9) b8)) i4)))
   (d4 (j2 (d2 G__law_low hr (b7 (i5 z9 (pv 2) (j6 j9 (C5 (b7 b9 (b7 (aa0 Q5 b9) b8))) (d2 G__law_draw hr (b7 (pv 0) (b7 b9 b8)) i4) (λ_ _=>rfl))) (b7 (i5 E9 b9 (i5 z9 (d2 G__law_draw hr (b7 (pv 0) (b7 (i5 Y4 b9 b9) b8)) i4) (i5 Y4 b9 b9))) b8)) i4)))) o0)
   (d4 (j2 (d2 G__law_low hr (b7 (i5 U1 (d2 G__law_draw hr (b7 (pv 0) (b7 b9 b8)) i4) b9) (b7 (i5 E9 b9 (i5 z9 (d2 G__law_draw hr (b7 (pv 0) (b7 b9 b8)) i4) (C8 M0 rfl n_int (by decide +kernel) (b7 (G3 Q3 (pv 1) b9 (j8 _)) b8)))) b8)) i4)))),?_⟩
 rw [show start ["_law_urn_here","_law_kind_here","_law_top"] [.ref u,.int 1]=[some (.ref u),some (.int 1),none] from rfl]
 simp! [F9,aQ7]
 refine F2 (λhk2=>absurd hk2 (by decide)) (λhk2=>?_)
 refine ⟨hu,by decide,by decide,λr2 H2 a2 b2 s2 u2=>⟨u2,by decide,by decide,λr3 H3 a3 b3 s3 u3=>⟨bq4 ⋯,?_⟩⟩⟩
 rw [if_neg (by decide),Int.mul_zero]
 refine ⟨_,_,rfl,by decide,q0b (show (1+0:Int).natAbs<2 ^ 64 by decide) (i6 (by decide)),λr H' sm hr'=>?_⟩
 have nd:=aq9 (n:=r2-9) (d:=1+0) (by decide) (by simp)
 exact k r _ H' (bm6 (by decide) (by lia) (by decide)) (by have:=nd.2;lia) (s2.trans (s3.trans (c9.x sm u))) (c9.urn sm u3) hr'
abbrev aB4:Stmt:=top 89
theorem af5:j4 ["_law_script","_law_at","_law_urn_here","_law_n","_law_other_here","_law_same","_law_column_here","_law_table","_law_numbers"] ["_law_script"] (c8 aB4):=by and_intros
theorem bw6 {f g1 g2 g3 g4 g5 g6:Addr} {fd:FuncData} (F:Fun K "law" "law" aB4 f fd) (G__law_urn:Def P w K mg base CX0 1 "_law_urn" g1 ["_law_script","_law_at"] (bt3 K)) (G__law_draw:Def P w K mg base CX0 1 "_law_draw" g2 ["_law_urn_here","_law_many"] F9) (GP__law_number:Def P w K mg base CX0 2 "_law_number" g3 ["_law_urn_here","_law_kind_here"] aG7) (G__law_round_machine:Def P w K mg base CX0 8 "_law_round_machine" g4 ["_law_urn_here"] bi0) (G__law_walk_right:Def P w K mg base CX0 7 "_law_walk_right" g5 ["_law_table","_law_column_here","_law_n"] aQ2) (G__law_turn_right:Def P w K mg base CX0 7 "_law_turn_right" g6 ["_law_way","_law_table"] aQ3)
  (n_range:mg "range" = none) (n_len:mg "len" = none) (n_int:mg "int" = none):an0 P w K mg base CX0 9 f fd ["_law_script"] (aY6 K):=by
 refine F.ok (N:=["_law_script","_law_at","_law_urn_here","_law_n","_law_other_here","_law_same","_law_column_here","_law_table","_law_numbers"]) af5 (λvs H Q E ⟨x,y,h,_⟩=>by rw [h];rfl) (λcdv A outer s H vs Q E hr h=>?_)
 obtain ⟨as,ns,rfl,hS,h63,k⟩:=h;have hu:=hr.units;have G__law_number:=GP__law_number
 refine ⟨_,(c7 (P6 PassesOwn.never rfl (E4 rfl n_range (b7 b9 b8)) (d5 (i:=1) af5.nd rfl (q0x rfl)) (c7 (i9 (i:=2) af5.nd rfl (z0w rfl) (d2 G__law_urn hr (b7 (pv 0) (b7 (pv 1) b8)) i4))
   (c7 (i9 (i:=3) af5.nd rfl (q0x rfl) (d2 G__law_draw hr (b7 (pv 2) (b7 b9 b8)) i4))
   (c7 (i9 (i:=4) af5.nd rfl (q0x rfl) (d2 G__law_draw hr (b7 (pv 2) (b7 b9 b8)) i4))
   (c7 (i9 (i:=5) af5.nd rfl (q0x rfl) (G3 aj9 (d2 G__law_draw hr (b7 (pv 2) (b7 b9 b8)) i4) b9 (j8 _)))
   (c7 (V6 (i₀:=6) af5.nd rfl (q0x rfl) (Nc:=["_law_urn_here","_law_k"]) (caps:=[some 2,none]) rfl (G5.of (osc:=c8 aB4) (N:=["_law_script","_law_at","_law_urn_here","_law_n","_law_other_here","_law_same","_law_column_here","_law_table","_law_numbers"]) (ks:=["_law_urn_here"]) rfl rfl rfl rfl (j7 rfl k9) (by decide +kernel)) (E4 rfl n_range (b7 b9 b8)) (λC s₂ H₂ fp pins=>(d5 (i:=1) (show z0q (["_law_urn_here","_law_k"]:List Str) by decide +kernel) rfl (q0x rfl) (z0w rfl))) (λC s₂ H₂ fp pins=>(d2 G__law_number hr (b7 (pv 0) (b7 b9 b8)) i4)))
   (c7 (K7 (d2 G__law_round_machine hr (b7 (pv 2) b8) i4) (show PG _ _ (U2 K 2 (w9 (t4 7) (w9 (t4 8) U3))) from by (refine F4 (n:=2) ?_ ?_ ?_ ?_;rfl;(refine j1 ?_ ?_ ?_;(exact (d5 (i:=7) af5.nd rfl (q0x rfl)));(refine j1 ?_ ?_ ?_;(exact (d5 (i:=8) af5.nd rfl (q0x rfl)));(exact C6);rfl);rfl);rfl;rfl)))
   (c7 (i9 (i:=6) af5.nd rfl (q0x rfl) (U8 Y9 (pv 6) ac1 (W6 (j6 j9 (C5 (b7 (pv 4) (b7 (i7 k6 rfl n_len (by decide +kernel) (b7 (pv 7) b8)) b8))) (C8 M0 rfl n_int (by decide +kernel) (b7 (pv 5) b8)) (λ_ _=>rfl)))))
   (d4 (E7 (PW.pt (ad1 (V5 (V4 (d2 G__law_walk_right hr (b7 (pv 7) (b7 (pv 6) (b7 (pv 3) b8))) i4))) (ad1 (V5 (V4 (d2 G__law_turn_right hr (b7 b9 (b7 (pv 7) b8)) i4))) (af6 (V5 (V4 (d2 G__law_turn_right hr (b7 b9 (b7 (pv 7) b8)) i4))))))) (d4 (j2 ae9)) o0))))))))))
   (d4 (j2 ae9))),?_⟩
 rw [show start ["_law_script","_law_at","_law_urn_here","_law_n","_law_other_here","_law_same","_law_column_here","_law_table","_law_numbers"] [.ref as]=[some (.ref as),none,none,none,none,none,none,none,none] from rfl]
 refine ⟨_,rfl,by decide,by decide,T9 (λi σ H1 => ∃ o1 o2 o3 o4 o5 o6 o7 o8:Option V,σ=[some (.ref as),o1,o2,o3,o4,o5,o6,o7,o8]/\SqL K H1 as (ns.map V.int)) ⟨_,_,_,_,_,_,_,_,rfl,hS⟩ ?_ ?_⟩
 ·rintro i σ H1 hi ⟨o1,o2,o3,o4,o5,o6,o7,o8,rfl,hS1⟩
  refine k7 (λσ H2 => ∃ u,σ=[some (.ref as),some (.int (0+(i:Int))),some (.ref u),o3,o4,o5,o6,o7,o8]/\c9 H1 H2/\H1 u=none/\y9 H2 u) (λN hN=>?_) ?_
  ·subst_eqs
   exact ⟨as,ns,_,rfl,hS1,by simp,by lia,λu H2 s2 hu0 hu2=>hN _ _ ⟨u,rfl,s2,hu0,hu2⟩⟩
  rintro σ H2 ⟨u,rfl,s2,fu,u2⟩;have su:∀ {H'},A0 u H2 H'->SqL K H' as (ns.map V.int):=λs=>((c9.x s2 u).trans s).seq fu hS1;refine k7 (λσ H3 => ∃ n:Nat,σ=[some (.ref as),some (.int (0+(i:Int))),some (.ref u),some (.int (n:Int)),o4,o5,o6,o7,o8]/\A0 u H2 H3/\y9 H3 u/\n<=20) (λN hN=>?_) ?_
  ·simp! [F9]
   exact ⟨u2,by decide,by decide,λr H3 r0 r1 s3 u3=>hN _ _ ⟨r.toNat,by rw [q1f r0],s3,u3,by lia⟩⟩
  rintro σ H3 ⟨n,rfl,s3,u3,n20⟩;refine k7 (λσ H4 => ∃ m:Nat,σ=[some (.ref as),some (.int (0+(i:Int))),some (.ref u),some (.int (n:Int)),some (.int (m:Int)),o5,o6,o7,o8]/\A0 u H2 H4/\y9 H4 u/\m<=5) (λN hN=>?_) ?_
  ·simp! [F9]
   exact ⟨u3,by decide,by decide,λr H4 r0 r1 s4 u4=>hN _ _ ⟨r.toNat,by rw [q1f r0],s3.trans s4,u4,by lia⟩⟩
  rintro σ H4 ⟨m,rfl,s4,u4,m5⟩;refine k7 (λσ H5 => ∃ b,σ=[some (.ref as),some (.int (0+(i:Int))),some (.ref u),some (.int (n:Int)),some (.int (m:Int)),some (.bl b),o6,o7,o8]/\A0 u H2 H5/\y9 H5 u) (λN hN=>?_) ?_
  ·simp! [F9]
   exact ⟨u4,by decide,by decide,λr H5 r0 r1 s5 u5=>hN _ _ ⟨_,rfl,s4.trans s5,u5⟩⟩
  rintro σ H5 ⟨b,rfl,s5,u5⟩;refine k7 (λσ H6 => ∃ c xs q,σ=[some (.ref as),some (.int (0+(i:Int))),some (.ref u),some (.int (n:Int)),some (.int (m:Int)),some (.bl b),some (.ref c),o7,o8]/\A0 u H2 H6/\y9 H6 u/\LsX u H6 c xs q/\q.length=5/\∀ x ∈ q,OvB 1 4 x) (λN hN=>?_) ?_
  ·subst_eqs
   refine ⟨by decide,by decide,λD fD=>?_⟩
   have Du:D ≠ u:=E1 u5 fD;obtain ⟨Pv,hPv⟩:∃ Pv:Nat->L2.St->Hp->Prop,∀ j σ H6,Pv j σ H6 ↔ ∃ (o:Option V) (xs:List V) (qs:List Rat),σ=[some (.ref u),o]/\A0 u H5 H6/\y9 H6 u/\H6 D=some (.lst xs)/\C9 H6 xs qs/\qs.length=j/\∀ q ∈ qs,OvB 1 4 q:=⟨_,λ_ _ _=>Iff.rfl⟩;refine O0 Pv ((hPv _ _ _).mpr ⟨_,[],[],rfl,c9.x (c9.new fD _) u,J2 u5 fD,c6,.nil,rfl,by simp⟩) ?_ ?_
   ·rintro j σ H6 hj h
    obtain ⟨o,xs,qs,rfl,s6,u6,e6,n6,l6,b6⟩:=(hPv _ _ _).mp h;have hj5:j<5:=by lia
    subst_eqs
    refine ⟨u,rfl,u6,λr q H7 bq q1 s7 u7 e7=>?_⟩;have e8:=s7 _ _ e6 Du;refine t6.mk hj e8 (w5 (by rw [n6.length,l6];lia)) ((hPv _ _ _).mpr ⟨_,_,qs ++ [q],rfl,(s6.trans s7).over fD _,u7.other Du,c6,((n6.mono (s7.tups u6)).append (.cons e7 .nil)).mono (aa2.lst e8),by simp [l6],λx hx=>?_⟩)
    rcases z0t.mp hx with z | z
    ·exact b6 x z
    ·rw [z0d.mp z];exact bd1 bq q1
   ·intro σ H6 h
    obtain ⟨o,xs,qs,rfl,s6,u6,e6,n6,l6,b6⟩:=(hPv _ _ _).mp h;exact hN _ _ ⟨D,xs,qs,rfl,s5.trans s6,u6,⟨Du,e6,n6⟩,l6,b6⟩
  rintro σ H6 ⟨c,xs,q,rfl,s6,u6,L6,lq,bq⟩;refine k7 (λσ H7 => ∃ l v us M,σ=[some (.ref as),some (.int (0+(i:Int))),some (.ref u),some (.int (n:Int)),some (.int (m:Int)),some (.bl b),some (.ref c),some (.ref l),some v]/\aa3 u H6 l us M H7/\1<=M.length/\M.length<=4/\bB4 M) (λN hN=>?_) ?_
  ·subst_eqs
   refine ⟨u,rfl,u6,λr l v us M H7 dA m1 m4 mT e7=>?_⟩;exact ⟨r,rfl,_,SqT.of e7,rfl,_,_,rfl,_,_,rfl,rfl,hN _ _ ⟨l,v,us,M,rfl,dA,m1,m4,mT⟩⟩
  rintro σ H7 ⟨l,v,us,M,rfl,dA,m1,m4,mT⟩;have L7:=L6.samex dA.same u6;have S7:=s6.trans dA.same;refine k7 (λσ H8 => ∃ p m',σ=[some (.ref as),some (.int (0+(i:Int))),some (.ref u),some (.int (n:Int)),some (.int (m:Int)),some (.bl b),some (.ref p),some (.ref l),some v]/\c9 H7 H8/\H8 p=some (.lst (xs.take m'))/\m'<=5) (λN hN=>?_) ?_
  ·subst_eqs
   have lus:=dA.rws.length;have lxs:=L7.nums.length;refine ⟨_,.inl (SqL.of dA.at'),by decide,λp fp=>⟨_,SqL.of c6,?_⟩⟩
   have Sp:=c9.new fp (HO.lst [V.int (m:Int),V.int ((us.map V.ref).length:Int)])
   have go:∀ m':Nat,m'<=5->∃ x_3,SqL K (upd H7 p (HO.lst [V.int (m:Int),V.int ((us.map V.ref).length:Int)])) c x_3/\∀ (p_1:Addr),upd H7 p (HO.lst [V.int (m:Int),V.int ((us.map V.ref).length:Int)]) p_1=none->N [some (V.ref as),some (V.int (0+(i:Int))),some (V.ref u),some (V.int (n:Int)),some (V.int (m:Int)),some (V.bl b),some (V.ref p_1),some (V.ref l),some v] (upd (upd H7 p (HO.lst [V.int (m:Int),V.int ((us.map V.ref).length:Int)])) p_1 (HO.lst (ao9 x_3 none (some (m':Int))))):=λm' hm=>⟨xs,SqL.of (Sp _ _ L7.at'),λp1 f1=>by
    rw [am6 xs (by lia)]
    exact hN _ _ ⟨p1,m',rfl,Sp.trans (c9.new f1 _),c6,hm⟩⟩
   cases b
   ·exact ⟨_,rfl,_,rfl,go m m5⟩
   ·exact ⟨_,rfl,_,rfl,go _ (by rw [q0e];lia)⟩
  rintro σ H8 ⟨p,m',rfl,s8,e8,hm'⟩
  subst_eqs
  have d8:=dA.s s8
  obtain ⟨C,W,oM,hW,hWn⟩:∃ C W,B8 C W M/\W<=162/\(W+5)*(M.length+1)<=630:=by
   rcases mT with ⟨C,h⟩ | ⟨h2,h⟩
   ·exact ⟨C,120,h,by decide,q0s (z0v _ (show M.length+1<=5 by lia)) (by decide)⟩
   ·obtain ⟨C,h⟩:=bq5 h2 h
    exact ⟨C,162,h,by decide,q0s (z0v _ (show M.length+1<=3 by lia)) (by decide)⟩
  have bq':∀ x ∈ q.take m',OvB 1 4 x:=λx hx=>bq x (j0w hx);have nw:n*(W+7)<=20*169:=y0y n20 (by lia)
  refine ⟨l,p,us,M,xs.take m',q.take m',C,W,1,4,n,rfl,d8.at',d8.rws,e8,(L7.nums.take m').mono s8.tups,oM,⟨by decide,by decide,bq'⟩,n20,by lia,by rw [q0v];lia,m1,λ_ k hk L hL=>?_,λH9 s9=>⟨true,rfl,F2 (λz=>by cases z) λ_=>?_⟩⟩
  ·rcases mT with ⟨C,h⟩ | ⟨h2,h⟩
   ·exact be7 h bq' (by decide) (by decide) (by exact Nat.lt_of_lt_of_le ‹_› ‹_›) hL
   ·exact be8 h2 h bq' ⋯ hL
  have d9:=d8.s s9;refine ⟨0,l,us,M,M.length,C,W,rfl,.inl rfl,d9.at',d9.rws,rfl,m1,oM,hWn,m4,λH10 s10=>⟨true,rfl,F2 (λz=>by cases z) λ_=>?_⟩⟩
  have d10:=d9.s s10;refine ⟨1,l,us,M,M.length,C,W,rfl,.inr rfl,d10.at',d10.rws,rfl,m1,oM,hWn,m4,λH11 s11=>⟨true,rfl,F2 (λz=>by cases z) λ_=>su (S7.trans (c9.x (s8.trans (s9.trans (s10.trans s11))) u))⟩⟩
 ·rintro σ H1 ⟨o1,o2,o3,o4,o5,o6,o7,o8,rfl,hS1⟩
  exact k H1
end
end R
set_option maxRecDepth 100000
namespace PySem.W.Fast
def tw3494747043031734503:=0
def tw6962381863812564387:=0
def tw14212248001487795826:=0
def tw10015884054740614136:=0
def tw6690605702282948695:=0
def tw11435496496972218462:=0
def tw17609804618443017847:=0
def tw9786633152741800707:=0
def tw13468606128423769242:=0
def tw3303040433221972420:=0
def tw5726008204716478070:=0
def tw2208906389648528246:=0
def tw14597139351036290315:=0
def tw9629484801809734422:=0
def tw14309206777867790532:=0
def tw11859034630225832307:=0
def tw4030203914544129150:=0
def tw2666000753822637409:=0
def tw16588226974320754251:=0
def tw3827449464895850738:=0
def tw16132847006278499005:=0
def tw5778007975094292009:=0
def tw577414244428873875:=0
def tw6609522176488064041:=0
def tw16504230102115629973:=0
def tw18434379319199027544:=0
def tw14218141076100371449:=0
def tw3697047921456829006:=0
def tw4564768188918320952:=0
def tw8663109571120846403:=0
def tw11678070632217900933:=0
def tw14076417093770878696:=0
def tw12089834704311744549:=0
def tw6597617356676148021:=0
def tw8889603964194917715:=0
def tw15981761709521316050:=0
def tw11577766782355410798:=0
def tw3582915919649400058:=0
def tw132751528133090239:=0
def tw16235957414205374407:=0
def tw2557740714496480399:=0
def tw4752799743265113799:=0
def tw4047067932265697080:=0
def tw2132307009333563290:=0
def tw7094153301275500597:=0
def tw4243280185442288118:=0
def tw1245878234244418545:=0
def tw17628127373670588803:=0
def tw10375089159149582049:=0
def tw1390427911120692110:=0
def tw7500602785149524193:=0
def tw16960768669666844502:=0
def tw9686939412413687782:=0
def tw247168825718599721:=0
def tw17487426693585116539:=0
def tw6244639351561592391:=0
def tw3649501532568174987:=0
def tw7231549797460044515:=0
def tw9975392683298227324:=0
def tw13433812261745425155:=0
def tw7241922487403620353:=0
def tw2946862467035164783:=0
def tw10951342695636683379:=0
def tw5368244312623359087:=0
def tw12949149376769582355:=0
def tw16587610747096145622:=0
def tw17296823302966709367:=0
def tw6205587635804784905:=0
def tw3705502795095902525:=0
def tw4654196302385116565:=0
def tw9462012384264190560:=0
def tw9196635033732610402:=0
def tw14873430928443700720:=0
def tw9178342100987961679:=0
def tw17970770991274557367:=0
def tw2334499659978281755:=0
def tw9986937113022155432:=0
def tw16995748756754141867:=0
def tw18109624357788390684:=0
def tw4726403458496705491:=0
def tw7228308888946527270:=0
def tw16607835436702890840:=0
def tw16812474502729322824:=0
def tw16988152593267785360:=0
def tw5569515428539925050:=0
def tw4095678751895503997:=0
def tw17129360105565345931:=0
def tw7925813359293972250:=0
def tw6979928498938327681:=0
def tw9000081472141123006:=0
def tw3584206233846523134:=0
def tw4235763903389924540:=0
def tw14447275845029947179:=0
def tw133304342480075278:=0
def tw12625012745741249201:=0
def tw11057274306238179144:=0
def tw14237545422840854436:=0
def tw10138785672819578081:=0
def tw7462255909230156801:=0
def tw16899324980255009347:=0
def tw6342498961428932996:=0
def tw17712224198607889557:=0
def tw5560098305985727617:=0
def tw16099695052619538060:=0
def tw10731904512550047521:=0
def tw16422668069021291110:=0
def tw1626743038969959132:=0
def tw18001724539891853749:=0
def tw18397118189362966139:=0
def tw3320692149290524451:=0
def tw16007672464025257453:=0
def tw1167582404311926588:=0
def tw17684583309921095069:=0
def tw15297088195341150479:=0
def tw9863734037226213505:=0
def tw16837032710492791175:=0
def tw7387758673028355679:=0
def tw6179736128186163751:=0
def tw10479077268557578257:=0
def tw14938157582955921176:=0
def tw3681425340045914171:=0
def tw9574742358757736058:=0
def tw155081141024562230:=0
def tw16276674663445418838:=0
def tw13341001329503822383:=0
def tw559363229732174526:=0
def tw16563620383566729385:=0
def tw8249507114009010609:=0
def tw12850133612601977414:=0
def tw7938735155905912256:=0
def tw7451407403397289424:=0
def tw15071798810649585795:=0
def tw8000046134901519872:=0
def tw11452149849289634416:=0
def tw4452575783890227088:=0
def tw16687280506069784929:=0
def tw17128498970249037607:=0
def tw3473362408287604633:=0
def tw4065215394409417834:=0
def tw2876292695204047738:=0
def tw900041232449750544:=0
def tw17857307682572308490:=0
def tw6891988226775386707:=0
def tw17087774192502184832:=0
def tw16110686076499886544:=0
def tw6944100047258904076:=0
def tw6701147753234305098:=0
def tw6835673376442832192:=0
def tw13385174657378861439:=0
def tw8837370898821174270:=0
def tw2137442798458060668:=0
def tw10219404856346920116:=0
def tw4357019598139199817:=0
def tw6897166684999809853:=0
def tw2961522349366897080:=0
def tw15282932182204064575:=0
def tw6254279209942747602:=0
def tw14129456062848418037:=0
def tw15001296503195438360:=0
def tw6311358934731188328:=0
def tw17034887032774697388:=0
def tw3438526098507653873:=0
def tw6557093922893533783:=0
def tw9731540938718685242:=0
def tw16502111633401375578:=0
def tw14002202017054408708:=0
def tw5445761315709757946:=0
def tw7734234681176911246:=0
def tw14865597463186668937:=0
def tw9330208644326227328:=0
def tw7118234225457534767:=0
def tw9823264156191658000:=0
def tw11397863923305967140:=0
def tw12879299769203275357:=0
def tw3087928615812016387:=0
def tw912365606283349142:=0
def tw4138752078143670115:=0
def tw16865832191382186153:=0
def tw6551236791944718504:=0
def tw14956368858590783974:=0
def tw2985458175946839179:=0
def tw3827785079637147894:=0
def tw16690518659901642419:=0
def tw5001995288392008624:=0
def tw1914908054956368175:=0
def tw5554194559707966269:=0
def tw1918711030819638479:=0
def tw5781726029267116297:=0
def tw12710342853060873612:=0
def tw14855934275112586140:=0
def tw6641881405663032336:=0
def tw16452365642129876846:=0
def tw1692326845942718534:=0
def tw1041641582794615273:=0
def tw408761751164094821:=0
def tw6728729777912623405:=0
def tw5802207812887117268:=0
def tw16049766712782808735:=0
def tw17845549170975140256:=0
def tw16251840175139748338:=0
def tw7952166235655745642:=0
def tw14578951259901684306:=0
def tw12982409394257552364:=0
def tw13566142511734169902:=0
def tw2215003574835272919:=0
def tw920893483073343109:=0
def tw7118783819244295609:=0
def tw7052371044842525542:=0
def tw7069971748207742137:=0
def tw16014855399961573833:=0
def tw10603700323442319796:=0
def tw6192368223354389873:=0
def tw11522163331275206816:=0
def tw3355356172354323443:=0
def tw5880523996087606583:=0
def tw3423787570575677614:=0
def tw15367434148065252608:=0
def tw18045713379144292032:=0
def tw7459304095407434871:=0
def tw6468006726810488431:=0
def tw17453506153159911958:=0
def tw14153084367037399961:=0
def tw14444861062199046665:=0
def tw16366607465973190510:=0
def tw4867006570259835825:=0
def tw16921911560053358864:=0
def tw11590529482874620422:=0
def tw4155122748617563284:=0
def tw15933766243996666516:=0
def tw17825692510718584832:=0
def tw8325309889316813430:=0
def tw12765703810408459077:=0
def tw7775289388751512375:=0
def tw2488148720530724714:=0
def tw8322766989581893858:=0
def tw6695058853107096850:=0
def tw17304611056580171731:=0
def tw16508177285663015634:=0
def tw3066157796031345342:=0
def tw14194697119719183427:=0
def tw18356572909445341325:=0
def tw3402612226793169712:=0
def tw8999760369753169696:=0
def tw2868010237854056558:=0
def tw10942154562211334851:=0
def tw1578120722386409415:=0
def tw8590189760516310110:=0
def tw10251998688026732624:=0
def tw3178709938055885044:=0
def tw1066360236312776332:=0
def tw8257724848037466782:=0
def tw15648095857869996922:=0
def tw16491965075427866798:=0
def tw15923024487609948930:=0
def tw6422293693701951493:=0
def tw17830447496066571962:=0
def tw5078055015117963883:=0
def tw8743830082818936868:=0
def tw15516038471594544981:=0
def tw241566465896917699:=0
def tw17008310502169311492:=0
def tw3974043221483145421:=0
def tw11592450205641971489:=0
def tw9818376764676615093:=0
def tw8650116676565671458:=0
def tw17973289288109824409:=0
def tw13735389086366091054:=0
def tw11857135129889459653:=0
def tw13757963711976634438:=0
def tw5078958588907712121:=0
def tw11746283838321619313:=0
def tw18066694618639096774:=0
def tw15237701167406373123:=0
def tw9260257743340932436:=0
def tw4646109729324317545:=0
def tw9876038064355248163:=0
def tw9587801458647990556:=0
def tw8545783969177637880:=0
def tw7243783003875755641:=0
def tw5133619392883395423:=0
def tw6066413236673562366:=0
def tw3252921990609829618:=0
def tw9981094546489231315:=0
def tw4929538570119142673:=0
def tw6437704064958224126:=0
def tw6874495720971673006:=0
def tw15647858641193736197:=0
def tw3905819856244248605:=0
def tw17354160890715432034:=0
def tw1379624032288588381:=0
def tw16922816005001120973:=0
def tw15427090338749932501:=0
def tw14445426949977254972:=0
def tw13130716790727316108:=0
def tw4923411763466161774:=0
def tw18290773607546342913:=0
def tw13914485097915995066:=0
def tw9463345920708522198:=0
def tw10863061885002764285:=0
def tw6932118176620856947:=0
def tw5399284916125804002:=0
def tw8540872162793919040:=0
def tw1943675862021631747:=0
def tw15401290927876805074:=0
def tw4961716263454270462:=0
def tw827120347161174593:=0
def tw16952421903255542952:=0
def tw378326477801788800:=0
def tw3848217134360412183:=0
def tw15560494683554094138:=0
def tw5348114299564509436:=0
def tw3290309075630240270:=0
def tw13027240268517356850:=0
def tw11343255197520136806:=0
def tw14636331892192370050:=0
def tw4361651501306295476:=0
def tw7987380276158165063:=0
def tw7733646309913573724:=0
def tw9499832735728101655:=0
def tw17137827502542457403:=0
def tw4979863185399701349:=0
def tw15758175579400459116:=0
def tw16821788613343187846:=0
def tw9472087600117484892:=0
def tw8225358767041764933:=0
def tw12044129772352060275:=0
def tw6705394318125643645:=0
def tw6570426069522952113:=0
def tw10475467479255632631:=0
def tw11603810313889851804:=0
def tw8489977312101859080:=0
def tw17136425023851992241:=0
def tw11630605828948224048:=0
def tw3084268475528053354:=0
def tw3342616142070214683:=0
def tw3445213125246780243:=0
def tw11662707553583001005:=0
def tw12679305140083277718:=0
def tw15305982350092545530:=0
def tw14730044786178532841:=0
def tw3303042370597396715:=0
def tw10749465918686436118:=0
def tw13168442126653171107:=0
def tw12964514619840320040:=0
def tw11866467452132894339:=0
def tw10659190935225198333:=0
def tw1787668455264781432:=0
def tw11856981264060124467:=0
def tw17455041723885384096:=0
def tw10787604707911388262:=0
def tw4542328028365086913:=0
def tw10187299078527580498:=0
def tw13153639300082012603:=0
def tw7852005621819851157:=0
def tw6064960477313954991:=0
def tw6221925671026844511:=0
def tw3606838907565260352:=0
def tw7371947138962677241:=0
def tw686234384663624896:=0
def tw7755106298103828526:=0
def tw2863240442231102764:=0
def tw15510059916529126265:=0
def tw6264930752268865700:=0
def tw414626851096269350:=0
def tw11960283894660251267:=0
def tw9207813020082533161:=0
def tw14355123610945058887:=0
def tw8056051694791034481:=0
def tw5023749941408988171:=0
def tw936219823051167589:=0
def tw301400411471282168:=0
def tw178908399205145401:=0
def tw1029043233815136910:=0
def tw13276772095492157416:=0
def tw14679625069824292577:=0
def tw16067830971783535565:=0
def tw12579434869897891241:=0
def tw1372062296898981030:=0
def tw3267456462878991822:=0
def tw7308793572804855320:=0
def tw17670187807273131175:=0
def tw8590879224899419925:=0
def tw4621405458605561920:=0
def tw12271228484211048233:=0
def tw8077346836787928035:=0
def tw13367790611435270408:=0
def tw6940100401033038530:=0
def tw189974811940165631:=0
def tw13357504915722659279:=0
def tw4915293003260675584:=0
end PySem.W.Fast
namespace R
open PySem L2 PyProof.Rows
section
variable {l:m0m} {w:World} {K:q0a} {h:Heap} {mg:Str->Option Value}
structure Gd (K:q0a) (nm:Str) (st:Stmt) (f:Addr):Prop where
 a:z0y K mainGlobals nm=some (some (.ref f))
 F:∃ fd,Fun K nm nm st f fd
theorem Gd.df {nm:Str} {st:Stmt} {f:Addr} {ps:List Str} (X:K.In h) (G:h.Ns mainGlobals mg) (g:Gd K nm st f) (hb:∀ (kV doc pm:Value) (an:Option Addr) (cdv ct:Value) (us:List Value),us.length=ps.length->bindArgs (v0p nm nm (ao2 st) (X0 st) (c8 st) .none kV doc pm an cdv ct) ⟨us,[]⟩=pure (ps.zip us)):Df K mg nm st ps f:=by
 obtain ⟨a,_,F⟩:=g;exact ⟨⟨_,F,F.binds hb⟩,v0h X G a⟩
structure Gx (K:q0a) (nm:Str) (C:Addr):Prop where
 m:z0y K mainGlobals nm=some (some (.ref C))
 x:m0z K C [.type "ValueError",.type "Exception",.type "BaseException",.type "object"] "ValueError.__new__" = true
 e:aE7 K C
theorem Gx.t {nm:Str} {C:Addr} (X:K.In h) (G:h.Ns mainGlobals mg) (g:Gx K nm C):ExT K mg nm C:=⟨v0h X G g.m,⟨g.x⟩,g.e⟩
theorem bq8 {us:List Value} {n:Nat} (h:us.length=n+1):∃ a r,us=a :: r/\r.length=n:=by
 cases us with
 | nil=>cases h
 | cons a r=>exact ⟨a,r,rfl,Nat.succ.inj h⟩
theorem bA5 {us:List Value} (h:us.length=0):us=[]:=List.eq_nil_of_length_eq_zero h
theorem U9 {us:List Value} (h:us.length=1):∃ a0,us=[a0]:=by
 obtain ⟨_,_,rfl,g⟩:=bq8 h;obtain ⟨rfl⟩:=bA5 g;exact ⟨_,rfl⟩
theorem G7 {us:List Value} (h:us.length=2):∃ a0,∃ a1,us=[a0,a1]:=by
 obtain ⟨_,_,rfl,g⟩:=bq8 h;obtain ⟨_,rfl⟩:=U9 g;exact ⟨_,_,rfl⟩
theorem aZ5 {us:List Value} (h:us.length=3):∃ a0,∃ a1,∃ a2,us=[a0,a1,a2]:=by
 obtain ⟨_,_,rfl,g⟩:=bq8 h;obtain ⟨_,_,rfl⟩:=G7 g;exact ⟨_,_,_,rfl⟩
theorem bk0 {us:List Value} (h:us.length=4):∃ a0,∃ a1,∃ a2,∃ a3,us=[a0,a1,a2,a3]:=by
 obtain ⟨_,_,rfl,g⟩:=bq8 h;obtain ⟨_,_,_,rfl⟩:=aZ5 g;exact ⟨_,_,_,_,rfl⟩
theorem by7 {fa f_common_divisor f_plus f_less f_fraction f_cleared f_check_pair f_matched f_made_of f_turned f__law_flipped f__law_unit f_unit f__law_low f__law_urn f__law_draw f__law_kind f__law_number f__law_whole f__law_is_number f__law_other f__law_trim f__law_plus f__law_times f_table_sum f__law_table_plus f_table_times f__law_less f__law_over f__law_companion f__law_likened f__law_dot f__law_column f_opposite f_walk f_with_lead f_cleaned f_eliminated f_divisor_for_all f_lowered f_back_of f_turn_of f_turn_back f__law_copied f__law_table_often f__law_one f__law_which f__law_asked f__law_poly_times f__law_above f__law_sign f__law_round f__law_round_factor f__law_circled f__law_round_machine f__law_det f__law_table_times f__law_is_table f__law_turn_right f__law_walk_right f_law:Addr} {C_NoFraction C_NoPolynomial C_NoStretch C_NoRow C_NoPair C_NoBack C_NoForm C_NoParts C_NoDegree C_NoSteps C_NoBox C_NoGain C_NoText C_NoLine C_NoName C_NoDeed C_RestError:Addr} {t_SHORT:Tok} {t_LONG:Tok} {A_ONE:Addr} {td_ONE:Option Addr} {ts_ONE:Array (Option Value)} {tn_ONE:Nat} {tt0_ONE tt1_ONE:Tok} {A_NOUGHT:Addr} {td_NOUGHT:Option Addr} {ts_NOUGHT:Array (Option Value)} {tn_NOUGHT:Nat} {tt0_NOUGHT tt1_NOUGHT:Tok}
  (X:K.In h) (G:h.Ns mainGlobals mg) (hfa:mg "law" = some (.ref fa))
  (g_common_divisor:Gd K "common_divisor" R7 f_common_divisor)
  (g_plus:Gd K "plus" aL6 f_plus)
  (g_less:Gd K "less" aL7 f_less)
  (g_fraction:Gd K "fraction" ai3 f_fraction)
  (g_cleared:Gd K "cleared" ag7 f_cleared)
  (g_check_pair:Gd K "check_pair" ab2 f_check_pair)
  (g_matched:Gd K "matched" ag5 f_matched)
  (g_made_of:Gd K "made_of" ag6 f_made_of)
  (g_turned:Gd K "turned" al0 f_turned)
  (g__law_flipped:Gd K "_law_flipped" Q6 f__law_flipped)
  (g__law_unit:Gd K "_law_unit" Z8 f__law_unit)
  (g_unit:Gd K "unit" aB3 f_unit)
  (g__law_low:Gd K "_law_low" ai6 f__law_low)
  (g__law_urn:Gd K "_law_urn" ai4 f__law_urn)
  (g__law_draw:Gd K "_law_draw" ae7 f__law_draw)
  (g__law_kind:Gd K "_law_kind" ae6 f__law_kind)
  (g__law_number:Gd K "_law_number" U5 f__law_number)
  (g__law_whole:Gd K "_law_whole" ab3 f__law_whole)
  (g__law_is_number:Gd K "_law_is_number" S0 f__law_is_number)
  (g__law_other:Gd K "_law_other" ab7 f__law_other)
  (g__law_trim:Gd K "_law_trim" ae1 f__law_trim)
  (g__law_plus:Gd K "_law_plus" ae3 f__law_plus)
  (g__law_times:Gd K "_law_times" ab5 f__law_times)
  (g_table_sum:Gd K "table_sum" Z7 f_table_sum)
  (g__law_table_plus:Gd K "_law_table_plus" M5 f__law_table_plus)
  (g_table_times:Gd K "table_times" N4 f_table_times)
  (g__law_less:Gd K "_law_less" ae5 f__law_less)
  (g__law_over:Gd K "_law_over" ae4 f__law_over)
  (g__law_companion:Gd K "_law_companion" K1 f__law_companion)
  (g__law_likened:Gd K "_law_likened" E5 f__law_likened)
  (g__law_dot:Gd K "_law_dot" ad0 f__law_dot)
  (g__law_column:Gd K "_law_column" U7 f__law_column)
  (g_opposite:Gd K "opposite" ac9 f_opposite)
  (g_walk:Gd K "walk" aL5 f_walk)
  (g_with_lead:Gd K "with_lead" Z6 f_with_lead)
  (g_cleaned:Gd K "cleaned" ag8 f_cleaned)
  (g_eliminated:Gd K "eliminated" W3 f_eliminated)
  (g_divisor_for_all:Gd K "divisor_for_all" M4 f_divisor_for_all)
  (g_lowered:Gd K "lowered" an5 f_lowered)
  (g_back_of:Gd K "back_of" ac6 f_back_of)
  (g_turn_of:Gd K "turn_of" an4 f_turn_of)
  (g_turn_back:Gd K "turn_back" ae0 f_turn_back)
  (g__law_copied:Gd K "_law_copied" U6 f__law_copied)
  (g__law_table_often:Gd K "_law_table_often" K6 f__law_table_often)
  (g__law_one:Gd K "_law_one" ai5 f__law_one)
  (g__law_which:Gd K "_law_which" ab4 f__law_which)
  (g__law_asked:Gd K "_law_asked" ab8 f__law_asked)
  (g__law_poly_times:Gd K "_law_poly_times" Q0 f__law_poly_times)
  (g__law_above:Gd K "_law_above" ab9 f__law_above)
  (g__law_sign:Gd K "_law_sign" ae2 f__law_sign)
  (g__law_round:Gd K "_law_round" ab6 f__law_round)
  (g__law_round_factor:Gd K "_law_round_factor" N5 f__law_round_factor)
  (g__law_circled:Gd K "_law_circled" Q7 f__law_circled)
  (g__law_round_machine:Gd K "_law_round_machine" G4 f__law_round_machine)
  (g__law_det:Gd K "_law_det" V3 f__law_det)
  (g__law_table_times:Gd K "_law_table_times" K5 f__law_table_times)
  (g__law_is_table:Gd K "_law_is_table" P3 f__law_is_table)
  (g__law_turn_right:Gd K "_law_turn_right" P9 f__law_turn_right)
  (g__law_walk_right:Gd K "_law_walk_right" G6 f__law_walk_right)
  (g_law:Gd K "law" aB4 f_law)
  (z_ValueError:z0y K mainGlobals "ValueError" = some none)
  (z_abs:z0y K mainGlobals "abs" = some none)
  (z_all:z0y K mainGlobals "all" = some none)
  (z_bool:z0y K mainGlobals "bool" = some none)
  (z_enumerate:z0y K mainGlobals "enumerate" = some none)
  (z_int:z0y K mainGlobals "int" = some none)
  (z_isinstance:z0y K mainGlobals "isinstance" = some none)
  (z_len:z0y K mainGlobals "len" = some none)
  (z_list:z0y K mainGlobals "list" = some none)
  (z_max:z0y K mainGlobals "max" = some none)
  (z_range:z0y K mainGlobals "range" = some none)
  (z_sum:z0y K mainGlobals "sum" = some none)
  (z_tuple:z0y K mainGlobals "tuple" = some none)
  (z_zip:z0y K mainGlobals "zip" = some none)
  (y_SHORT:z0y K mainGlobals "SHORT" = some (some (.int 6000 t_SHORT)))
  (y_LONG:z0y K mainGlobals "LONG" = some (some (.int 1000 t_LONG)))
  (y_ONE:z0y K mainGlobals "ONE" = some (some (.ref A_ONE)))
  (u_ONE:K.lookup A_ONE=some ⟨.type "tuple",td_ONE,.seq #[.int 1 tt0_ONE,.int 1 tt1_ONE] tn_ONE,ts_ONE⟩)
  (y_NOUGHT:z0y K mainGlobals "NOUGHT" = some (some (.ref A_NOUGHT)))
  (u_NOUGHT:K.lookup A_NOUGHT=some ⟨.type "tuple",td_NOUGHT,.seq #[.int 0 tt0_NOUGHT,.int 1 tt1_NOUGHT] tn_NOUGHT,ts_NOUGHT⟩)
  (h_NoFraction:Gx K "NoFraction" C_NoFraction)
  (h_NoPolynomial:Gx K "NoPolynomial" C_NoPolynomial)
  (h_NoStretch:Gx K "NoStretch" C_NoStretch)
  (h_NoRow:Gx K "NoRow" C_NoRow)
  (h_NoPair:Gx K "NoPair" C_NoPair)
  (h_NoBack:Gx K "NoBack" C_NoBack)
  (h_NoForm:Gx K "NoForm" C_NoForm)
  (h_NoParts:Gx K "NoParts" C_NoParts)
  (h_NoDegree:Gx K "NoDegree" C_NoDegree)
  (h_NoSteps:Gx K "NoSteps" C_NoSteps)
  (h_NoBox:Gx K "NoBox" C_NoBox)
  (h_NoGain:Gx K "NoGain" C_NoGain)
  (h_NoText:Gx K "NoText" C_NoText)
  (h_NoLine:Gx K "NoLine" C_NoLine)
  (h_NoName:Gx K "NoName" C_NoName)
  (h_NoDeed:Gx K "NoDeed" C_NoDeed)
  (h_RestError:Gx K "RestError" C_RestError)
  (kt_NoBack:bn3 K (⟨C_NoFraction,C_NoPolynomial,C_NoStretch,C_NoRow,C_NoPair,C_NoBack,C_NoForm,C_NoParts,C_NoDegree,C_NoSteps,C_NoBox,C_NoGain,C_NoText,C_NoLine,C_NoName,C_NoDeed,C_RestError⟩:CAd) C_NoBack 5)
  (kt_NoPair:bn3 K (⟨C_NoFraction,C_NoPolynomial,C_NoStretch,C_NoRow,C_NoPair,C_NoBack,C_NoForm,C_NoParts,C_NoDegree,C_NoSteps,C_NoBox,C_NoGain,C_NoText,C_NoLine,C_NoName,C_NoDeed,C_RestError⟩:CAd) C_NoPair 4) :
  ∃ fd:FuncData,(∀ (s:Shared) (v:Value),BindsTo s fd ⟨[v],[]⟩ [("_law_script",v)])/\∀ base:Heap,K.In base->base.Ns mainGlobals mg->an0 l.prog w K mg base CX0 9 fa fd ["_law_script"] (aY6 K):=by
 have e:=hfa.symm.trans (v0h X G g_law.a)
 cases e
 obtain ⟨_,F_law⟩:=g_law.F;obtain ⟨oc,od,kV,doc,pm,an,cdv,ct,osl,rfl,_,_⟩:=F_law.ex;have d_common_divisor:Df K mg "common_divisor" R7 ["one","other"] f_common_divisor:=g_common_divisor.df X G λ_ _ _ _ _ _ us hl=>by obtain ⟨_,_,rfl⟩:=G7 hl;rfl
 have d_plus:Df K mg "plus" aL6 ["one","other"] f_plus:=g_plus.df X G λ_ _ _ _ _ _ us hl=>by obtain ⟨_,_,rfl⟩:=G7 hl;rfl
 have d_less:Df K mg "less" aL7 ["one","other"] f_less:=g_less.df X G λ_ _ _ _ _ _ us hl=>by obtain ⟨_,_,rfl⟩:=G7 hl;rfl
 have d_fraction:Df K mg "fraction" ai3 ["top","bottom"] f_fraction:=g_fraction.df X G λ_ _ _ _ _ _ us hl=>by obtain ⟨_,_,rfl⟩:=G7 hl;rfl
 have d_cleared:Df K mg "cleared" ag7 ["numbers"] f_cleared:=g_cleared.df X G λ_ _ _ _ _ _ us hl=>by obtain ⟨_,rfl⟩:=U9 hl;rfl
 have d_check_pair:Df K mg "check_pair" ab2 ["one","other"] f_check_pair:=g_check_pair.df X G λ_ _ _ _ _ _ us hl=>by obtain ⟨_,_,rfl⟩:=G7 hl;rfl
 have d_matched:Df K mg "matched" ag5 ["one","other"] f_matched:=g_matched.df X G λ_ _ _ _ _ _ us hl=>by obtain ⟨_,_,rfl⟩:=G7 hl;rfl
 have d_made_of:Df K mg "made_of" ag6 ["table","column"] f_made_of:=g_made_of.df X G λ_ _ _ _ _ _ us hl=>by obtain ⟨_,_,rfl⟩:=G7 hl;rfl
 have d_turned:Df K mg "turned" al0 ["table"] f_turned:=g_turned.df X G λ_ _ _ _ _ _ us hl=>by obtain ⟨_,rfl⟩:=U9 hl;rfl
 have d__law_flipped:Df K mg "_law_flipped" Q6 ["_law_table"] f__law_flipped:=g__law_flipped.df X G λ_ _ _ _ _ _ us hl=>by obtain ⟨_,rfl⟩:=U9 hl;rfl
 have d__law_unit:Df K mg "_law_unit" Z8 ["_law_n"] f__law_unit:=g__law_unit.df X G λ_ _ _ _ _ _ us hl=>by obtain ⟨_,rfl⟩:=U9 hl;rfl
 have d_unit:Df K mg "unit" aB3 ["n"] f_unit:=g_unit.df X G λ_ _ _ _ _ _ us hl=>by obtain ⟨_,rfl⟩:=U9 hl;rfl
 have d__law_low:Df K mg "_law_low" ai6 ["_law_top","_law_bottom"] f__law_low:=g__law_low.df X G λ_ _ _ _ _ _ us hl=>by obtain ⟨_,_,rfl⟩:=G7 hl;rfl
 have d__law_urn:Df K mg "_law_urn" ai4 ["_law_script","_law_at"] f__law_urn:=g__law_urn.df X G λ_ _ _ _ _ _ us hl=>by obtain ⟨_,_,rfl⟩:=G7 hl;rfl
 have d__law_draw:Df K mg "_law_draw" ae7 ["_law_urn_here","_law_many"] f__law_draw:=g__law_draw.df X G λ_ _ _ _ _ _ us hl=>by obtain ⟨_,_,rfl⟩:=G7 hl;rfl
 have d__law_kind:Df K mg "_law_kind" ae6 ["_law_urn_here"] f__law_kind:=g__law_kind.df X G λ_ _ _ _ _ _ us hl=>by obtain ⟨_,rfl⟩:=U9 hl;rfl
 have d__law_number:Df K mg "_law_number" U5 ["_law_urn_here","_law_kind_here"] f__law_number:=g__law_number.df X G λ_ _ _ _ _ _ us hl=>by obtain ⟨_,_,rfl⟩:=G7 hl;rfl
 have d__law_whole:Df K mg "_law_whole" ab3 ["_law_thing"] f__law_whole:=g__law_whole.df X G λ_ _ _ _ _ _ us hl=>by obtain ⟨_,rfl⟩:=U9 hl;rfl
 have d__law_is_number:Df K mg "_law_is_number" S0 ["_law_thing"] f__law_is_number:=g__law_is_number.df X G λ_ _ _ _ _ _ us hl=>by obtain ⟨_,rfl⟩:=U9 hl;rfl
 have d__law_other:Df K mg "_law_other" ab7 ["_law_urn_here","_law_kind_here"] f__law_other:=g__law_other.df X G λ_ _ _ _ _ _ us hl=>by obtain ⟨_,_,rfl⟩:=G7 hl;rfl
 have d__law_trim:Df K mg "_law_trim" ae1 ["_law_numbers"] f__law_trim:=g__law_trim.df X G λ_ _ _ _ _ _ us hl=>by obtain ⟨_,rfl⟩:=U9 hl;rfl
 have d__law_plus:Df K mg "_law_plus" ae3 ["_law_one_here","_law_other_here"] f__law_plus:=g__law_plus.df X G λ_ _ _ _ _ _ us hl=>by obtain ⟨_,_,rfl⟩:=G7 hl;rfl
 have d__law_times:Df K mg "_law_times" ab5 ["_law_one_here","_law_other_here"] f__law_times:=g__law_times.df X G λ_ _ _ _ _ _ us hl=>by obtain ⟨_,_,rfl⟩:=G7 hl;rfl
 have d_table_sum:Df K mg "table_sum" Z7 ["table","other"] f_table_sum:=g_table_sum.df X G λ_ _ _ _ _ _ us hl=>by obtain ⟨_,_,rfl⟩:=G7 hl;rfl
 have d__law_table_plus:Df K mg "_law_table_plus" M5 ["_law_one_here","_law_other_here"] f__law_table_plus:=g__law_table_plus.df X G λ_ _ _ _ _ _ us hl=>by obtain ⟨_,_,rfl⟩:=G7 hl;rfl
 have d_table_times:Df K mg "table_times" N4 ["table","other"] f_table_times:=g_table_times.df X G λ_ _ _ _ _ _ us hl=>by obtain ⟨_,_,rfl⟩:=G7 hl;rfl
 have d__law_less:Df K mg "_law_less" ae5 ["_law_one_here","_law_other_here"] f__law_less:=g__law_less.df X G λ_ _ _ _ _ _ us hl=>by obtain ⟨_,_,rfl⟩:=G7 hl;rfl
 have d__law_over:Df K mg "_law_over" ae4 ["_law_one_here","_law_other_here"] f__law_over:=g__law_over.df X G λ_ _ _ _ _ _ us hl=>by obtain ⟨_,_,rfl⟩:=G7 hl;rfl
 have d__law_companion:Df K mg "_law_companion" K1 ["_law_p"] f__law_companion:=g__law_companion.df X G λ_ _ _ _ _ _ us hl=>by obtain ⟨_,rfl⟩:=U9 hl;rfl
 have d__law_likened:Df K mg "_law_likened" E5 ["_law_urn_here","_law_kind_here","_law_table","_law_most"] f__law_likened:=g__law_likened.df X G λ_ _ _ _ _ _ us hl=>by obtain ⟨_,_,_,_,rfl⟩:=bk0 hl;rfl
 have d__law_dot:Df K mg "_law_dot" ad0 ["_law_row","_law_column_here"] f__law_dot:=g__law_dot.df X G λ_ _ _ _ _ _ us hl=>by obtain ⟨_,_,rfl⟩:=G7 hl;rfl
 have d__law_column:Df K mg "_law_column" U7 ["_law_table","_law_column_here"] f__law_column:=g__law_column.df X G λ_ _ _ _ _ _ us hl=>by obtain ⟨_,_,rfl⟩:=G7 hl;rfl
 have d_opposite:Df K mg "opposite" ac9 ["table"] f_opposite:=g_opposite.df X G λ_ _ _ _ _ _ us hl=>by obtain ⟨_,rfl⟩:=U9 hl;rfl
 have d_walk:Df K mg "walk" aL5 ["table","column","n"] f_walk:=g_walk.df X G λ_ _ _ _ _ _ us hl=>by obtain ⟨_,_,_,rfl⟩:=aZ5 hl;rfl
 have d_with_lead:Df K mg "with_lead" Z6 ["rows","at"] f_with_lead:=g_with_lead.df X G λ_ _ _ _ _ _ us hl=>by obtain ⟨_,_,rfl⟩:=G7 hl;rfl
 have d_cleaned:Df K mg "cleaned" ag8 ["row","chosen","at","before"] f_cleaned:=g_cleaned.df X G λ_ _ _ _ _ _ us hl=>by obtain ⟨_,_,_,_,rfl⟩:=bk0 hl;rfl
 have d_eliminated:Df K mg "eliminated" W3 ["rows"] f_eliminated:=g_eliminated.df X G λ_ _ _ _ _ _ us hl=>by obtain ⟨_,rfl⟩:=U9 hl;rfl
 have d_divisor_for_all:Df K mg "divisor_for_all" M4 ["wholes","bottom"] f_divisor_for_all:=g_divisor_for_all.df X G λ_ _ _ _ _ _ us hl=>by obtain ⟨_,_,rfl⟩:=G7 hl;rfl
 have d_lowered:Df K mg "lowered" an5 ["scale","wholes"] f_lowered:=g_lowered.df X G λ_ _ _ _ _ _ us hl=>by obtain ⟨_,_,rfl⟩:=G7 hl;rfl
 have d_back_of:Df K mg "back_of" ac6 ["table"] f_back_of:=g_back_of.df X G λ_ _ _ _ _ _ us hl=>by obtain ⟨_,rfl⟩:=U9 hl;rfl
 have d_turn_of:Df K mg "turn_of" an4 ["table"] f_turn_of:=g_turn_of.df X G λ_ _ _ _ _ _ us hl=>by obtain ⟨_,rfl⟩:=U9 hl;rfl
 have d_turn_back:Df K mg "turn_back" ae0 ["table"] f_turn_back:=g_turn_back.df X G λ_ _ _ _ _ _ us hl=>by obtain ⟨_,rfl⟩:=U9 hl;rfl
 have d__law_copied:Df K mg "_law_copied" U6 ["_law_table"] f__law_copied:=g__law_copied.df X G λ_ _ _ _ _ _ us hl=>by obtain ⟨_,rfl⟩:=U9 hl;rfl
 have d__law_table_often:Df K mg "_law_table_often" K6 ["_law_number_here","_law_table"] f__law_table_often:=g__law_table_often.df X G λ_ _ _ _ _ _ us hl=>by obtain ⟨_,_,rfl⟩:=G7 hl;rfl
 have d__law_one:Df K mg "_law_one" ai5 ["_law_table","_law_sign_here"] f__law_one:=g__law_one.df X G λ_ _ _ _ _ _ us hl=>by obtain ⟨_,_,rfl⟩:=G7 hl;rfl
 have d__law_which:Df K mg "_law_which" ab4 ["_law_e"] f__law_which:=g__law_which.df X G λ_ _ _ _ _ _ us hl=>by obtain ⟨_,rfl⟩:=U9 hl;rfl
 have d__law_asked:Df K mg "_law_asked" ab8 ["_law_way","_law_table","_law_column_here","_law_n"] f__law_asked:=g__law_asked.df X G λ_ _ _ _ _ _ us hl=>by obtain ⟨_,_,_,_,rfl⟩:=bk0 hl;rfl
 have d__law_poly_times:Df K mg "_law_poly_times" Q0 ["_law_p","_law_q"] f__law_poly_times:=g__law_poly_times.df X G λ_ _ _ _ _ _ us hl=>by obtain ⟨_,_,rfl⟩:=G7 hl;rfl
 have d__law_above:Df K mg "_law_above" ab9 ["_law_urn_here","_law_kind_here"] f__law_above:=g__law_above.df X G λ_ _ _ _ _ _ us hl=>by obtain ⟨_,_,rfl⟩:=G7 hl;rfl
 have d__law_sign:Df K mg "_law_sign" ae2 ["_law_number_here"] f__law_sign:=g__law_sign.df X G λ_ _ _ _ _ _ us hl=>by obtain ⟨_,rfl⟩:=U9 hl;rfl
 have d__law_round:Df K mg "_law_round" ab6 ["_law_far","_law_many"] f__law_round:=g__law_round.df X G λ_ _ _ _ _ _ us hl=>by obtain ⟨_,_,rfl⟩:=G7 hl;rfl
 have d__law_round_factor:Df K mg "_law_round_factor" N5 ["_law_urn_here","_law_kind_here"] f__law_round_factor:=g__law_round_factor.df X G λ_ _ _ _ _ _ us hl=>by obtain ⟨_,_,rfl⟩:=G7 hl;rfl
 have d__law_circled:Df K mg "_law_circled" Q7 ["_law_urn_here","_law_kind_here","_law_most"] f__law_circled:=g__law_circled.df X G λ_ _ _ _ _ _ us hl=>by obtain ⟨_,_,_,rfl⟩:=aZ5 hl;rfl
 have d__law_round_machine:Df K mg "_law_round_machine" G4 ["_law_urn_here"] f__law_round_machine:=g__law_round_machine.df X G λ_ _ _ _ _ _ us hl=>by obtain ⟨_,rfl⟩:=U9 hl;rfl
 have d__law_det:Df K mg "_law_det" V3 ["_law_table"] f__law_det:=g__law_det.df X G λ_ _ _ _ _ _ us hl=>by obtain ⟨_,rfl⟩:=U9 hl;rfl
 have d__law_table_times:Df K mg "_law_table_times" K5 ["_law_one_here","_law_other_here"] f__law_table_times:=g__law_table_times.df X G λ_ _ _ _ _ _ us hl=>by obtain ⟨_,_,rfl⟩:=G7 hl;rfl
 have d__law_is_table:Df K mg "_law_is_table" P3 ["_law_thing","_law_n"] f__law_is_table:=g__law_is_table.df X G λ_ _ _ _ _ _ us hl=>by obtain ⟨_,_,rfl⟩:=G7 hl;rfl
 have d__law_turn_right:Df K mg "_law_turn_right" P9 ["_law_way","_law_table"] f__law_turn_right:=g__law_turn_right.df X G λ_ _ _ _ _ _ us hl=>by obtain ⟨_,_,rfl⟩:=G7 hl;rfl
 have d__law_walk_right:Df K mg "_law_walk_right" G6 ["_law_table","_law_column_here","_law_n"] f__law_walk_right:=g__law_walk_right.df X G λ_ _ _ _ _ _ us hl=>by obtain ⟨_,_,_,rfl⟩:=aZ5 hl;rfl
 have n_ValueError:=z0u X G z_ValueError;have n_abs:=z0u X G z_abs;have n_all:=z0u X G z_all;have n_bool:=z0u X G z_bool;have n_enumerate:=z0u X G z_enumerate;have n_int:=z0u X G z_int;have n_isinstance:=z0u X G z_isinstance;have n_len:=z0u X G z_len;have n_list:=z0u X G z_list;have n_max:=z0u X G z_max;have n_range:=z0u X G z_range;have n_sum:=z0u X G z_sum;have n_tuple:=z0u X G z_tuple;have n_zip:=z0u X G z_zip;have c_SHORT:=v0h X G y_SHORT;have c_LONG:=v0h X G y_LONG;have c_ONE:=v0h X G y_ONE;have t_ONE:∀ H:Hp,SqT K H A_ONE [.int 1,.int 1]:=λH=>.inr ⟨_,_,_,u_ONE,rfl,rfl,(show 2<=sizeLine by decide),(.cons ⟨_,rfl⟩ (.cons ⟨_,rfl⟩ .nil))⟩
 have c_NOUGHT:=v0h X G y_NOUGHT;have t_NOUGHT:∀ H:Hp,SqT K H A_NOUGHT [.int 0,.int 1]:=λH=>.inr ⟨_,_,_,u_NOUGHT,rfl,rfl,(show 2<=sizeLine by decide),(.cons ⟨_,rfl⟩ (.cons ⟨_,rfl⟩ .nil))⟩
 have X_NoFraction:=h_NoFraction.t X G;have X_NoPolynomial:=h_NoPolynomial.t X G;have X_NoStretch:=h_NoStretch.t X G;have X_NoRow:=h_NoRow.t X G;have X_NoPair:=h_NoPair.t X G;have X_NoBack:=h_NoBack.t X G;have X_NoForm:=h_NoForm.t X G;have X_NoParts:=h_NoParts.t X G;have X_NoDegree:=h_NoDegree.t X G;have X_NoSteps:=h_NoSteps.t X G;have X_NoBox:=h_NoBox.t X G;have X_NoGain:=h_NoGain.t X G;have X_NoText:=h_NoText.t X G;have X_NoLine:=h_NoLine.t X G;have X_NoName:=h_NoName.t X G;have X_NoDeed:=h_NoDeed.t X G;have X_RestError:=h_RestError.t X G;have XX:XTx K mg (⟨C_NoFraction,C_NoPolynomial,C_NoStretch,C_NoRow,C_NoPair,C_NoBack,C_NoForm,C_NoParts,C_NoDegree,C_NoSteps,C_NoBox,C_NoGain,C_NoText,C_NoLine,C_NoName,C_NoDeed,C_RestError⟩:CAd):=⟨X_NoFraction,X_NoPolynomial,X_NoStretch,X_NoRow,X_NoPair,X_NoBack,X_NoForm,X_NoParts,X_NoDegree,X_NoSteps,X_NoBox,X_NoGain,X_NoText,X_NoLine,X_NoName,X_NoDeed⟩;refine ⟨v0p "law" "law" (ao2 aB4) (X0 aB4) (c8 aB4) .none kV doc pm an cdv ct,λs v=>.of_eq rfl,λbase _ _=>?_⟩
 have G_common_divisor:=at4 (P:=l.prog) (w:=w) (base:=base) d_common_divisor ⟨_,c_SHORT⟩ n_abs;have G_plus:=bp8 (P:=l.prog) (w:=w) (base:=base) d_plus G_common_divisor;have G_less:=bp9 (P:=l.prog) (w:=w) (base:=base) d_less G_plus;have G_fraction:=aR5 (P:=l.prog) (w:=w) (base:=base) d_fraction G_common_divisor;have G_cleared:=aW0 (P:=l.prog) (w:=w) (base:=base) d_cleared G_common_divisor;have G_check_pair:=aF3 (P:=l.prog) (w:=w) (base:=base) d_check_pair X_NoPair n_len;have G_matched:=aV8 (P:=l.prog) (w:=w) (base:=base) d_matched G_fraction n_zip n_sum;have G_turned:=bd3 (P:=l.prog) (w:=w) (base:=base) d_turned n_range n_len;have G__law_flipped:=ay8 (P:=l.prog) (w:=w) (base:=base) d__law_flipped n_range n_len;have G__law_unit:=aN4 (P:=l.prog) (w:=w) (base:=base) d__law_unit n_range n_int;have G_unit:=bp7 (P:=l.prog) (w:=w) (base:=base) d_unit n_range c_ONE t_ONE c_NOUGHT t_NOUGHT;have G__law_low:=aR8 (P:=l.prog) (w:=w) (base:=base) d__law_low n_abs;have G__law_urn:=aR6 (P:=l.prog) (w:=w) (base:=base) d__law_urn n_len n_abs;have G__law_draw:=aO1 (P:=l.prog) (w:=w) (base:=base) d__law_draw;have G__law_kind:=aO0 (P:=l.prog) (w:=w) (base:=base) d__law_kind G__law_draw;have G__law_whole:=aF4 (P:=l.prog) (w:=w) (base:=base) d__law_whole n_isinstance n_int n_bool;have G__law_is_number:=at5 (P:=l.prog) (w:=w) (base:=base) d__law_is_number G__law_whole G__law_low n_isinstance n_tuple n_len;have G__law_trim:=aN5 (P:=l.prog) (w:=w) (base:=base) d__law_trim n_list;have G__law_plus:=aN7 (P:=l.prog) (w:=w) (base:=base) d__law_plus G__law_low;have G__law_times:=aF6 (P:=l.prog) (w:=w) (base:=base) d__law_times G__law_low;have G_table_sum:=aN3 (P:=l.prog) (w:=w) (base:=base) d_table_sum G_check_pair G_plus n_zip;have G__law_table_plus:=aq7 (P:=l.prog) (w:=w) (base:=base) d__law_table_plus G__law_plus n_zip;have G_table_times:=aC2 (P:=l.prog) (w:=w) (base:=base) d_table_times G_check_pair G_cleared G_matched G_turned;have G__law_less:=aN9 (P:=l.prog) (w:=w) (base:=base) d__law_less G__law_low;have G__law_over:=aN8 (P:=l.prog) (w:=w) (base:=base) d__law_over G__law_low;have G__law_companion:=at6 (P:=l.prog) (w:=w) (base:=base) d__law_companion G__law_over n_len n_range n_int;have GD__law_number:=az1 (P:=l.prog) (w:=w) (base:=base) d__law_number G__law_draw G__law_low n_int;have GD__law_other:=aC5 (P:=l.prog) (w:=w) (base:=base) d__law_other G__law_draw GD__law_number;have G__law_likened:=ay7 (P:=l.prog) (w:=w) (base:=base) d__law_likened G__law_draw GD__law_other G__law_plus G__law_times G__law_less G__law_over n_len n_range n_list n_max n_zip n_int;have G__law_dot:=aR9 (P:=l.prog) (w:=w) (base:=base) d__law_dot G__law_plus G__law_times n_zip;have G_opposite:=aR4 (P:=l.prog) (w:=w) (base:=base) d_opposite G_less c_NOUGHT t_NOUGHT;have GD_made_of:=aS1 (P:=l.prog) (w:=w) (base:=base) d_made_of G_check_pair G_cleared G_matched;have G_walk:=bp6 (P:=l.prog) (w:=w) (base:=base) d_walk G_check_pair GD_made_of n_list n_range;have G_with_lead:=aN1 (P:=l.prog) (w:=w) (base:=base) d_with_lead n_len n_range
 have G_cleaned:=aW1 (P:=l.prog) (w:=w) (base:=base) d_cleaned n_zip;have G_eliminated:=aF2 (P:=l.prog) (w:=w) (base:=base) d_eliminated G_with_lead G_cleaned n_len n_range n_enumerate;have G_divisor_for_all:=aq4 (P:=l.prog) (w:=w) (base:=base) d_divisor_for_all G_common_divisor c_LONG n_max;have G_lowered:=aV9 (P:=l.prog) (w:=w) (base:=base) d_lowered G_divisor_for_all G_common_divisor;have G_back_of:=aW2 (P:=l.prog) (w:=w) (base:=base) d_back_of G_cleared G_eliminated G_fraction G_lowered X_NoBack n_len n_range n_enumerate;have G_turn_of:=aV7 (P:=l.prog) (w:=w) (base:=base) d_turn_of G_unit G_table_sum G_opposite G_back_of G_table_times n_len;have G_turn_back:=aN2 (P:=l.prog) (w:=w) (base:=base) d_turn_back G_unit G_table_sum G_opposite G_back_of G_table_times n_len;have G__law_copied:=aC3 (P:=l.prog) (w:=w) (base:=base) d__law_copied n_list;have G__law_table_often:=ao8 (P:=l.prog) (w:=w) (base:=base) d__law_table_often G__law_times;have G__law_one:=aR7 (P:=l.prog) (w:=w) (base:=base) d__law_one G__law_table_plus G__law_table_often G__law_unit n_len;have G__law_which:=aF5 (P:=l.prog) (w:=w) (base:=base) d__law_which XX n_isinstance n_ValueError;have G__law_asked:=aF8 (P:=l.prog) (w:=w) (base:=base) d__law_asked G_turn_of G_turn_back G_walk G__law_which X_RestError kt_NoBack kt_NoPair;have GD__law_dot:=aO2 (P:=l.prog) (w:=w) (base:=base) d__law_dot G__law_plus G__law_times n_zip;have GD__law_column:=az2 (P:=l.prog) (w:=w) (base:=base) d__law_column GD__law_dot;have G__law_poly_times:=aq8 (P:=l.prog) (w:=w) (base:=base) d__law_poly_times G__law_plus G__law_times G__law_trim n_len n_enumerate;have GD__law_above:=aC6 (P:=l.prog) (w:=w) (base:=base) d__law_above GD__law_other n_abs;have G__law_sign:=aN6 (P:=l.prog) (w:=w) (base:=base) d__law_sign n_int;have G__law_round:=aF7 (P:=l.prog) (w:=w) (base:=base) d__law_round G__law_sign G__law_less n_int;have G__law_round_factor:=al6 (P:=l.prog) (w:=w) (base:=base) d__law_round_factor G__law_draw G__law_low G__law_times G__law_plus GD__law_number GD__law_above G__law_round n_abs;have G__law_circled:=ay9 (P:=l.prog) (w:=w) (base:=base) d__law_circled G__law_draw GD__law_other G__law_round_factor G__law_poly_times n_range n_len n_tuple n_zip;have G__law_round_machine:=ak1 (P:=l.prog) (w:=w) (base:=base) d__law_round_machine G__law_draw G__law_kind G__law_circled GD__law_number G__law_likened G__law_companion n_len n_range;have G__law_det:=aS0 (P:=l.prog) (w:=w) (base:=base) d__law_det G__law_times G__law_less G__law_over n_len n_range n_list n_zip;have G__law_table_times:=ao7 (P:=l.prog) (w:=w) (base:=base) d__law_table_times G__law_flipped G__law_dot;have G__law_is_table:=av8 (P:=l.prog) (w:=w) (base:=base) d__law_is_table G__law_is_number n_isinstance n_list n_len n_all;have G__law_turn_right:=aq6 (P:=l.prog) (w:=w) (base:=base) d__law_turn_right G__law_copied G__law_asked G__law_one G__law_table_often G__law_det G__law_is_table G__law_table_times n_len;have G__law_walk_right:=aq5 (P:=l.prog) (w:=w) (base:=base) d__law_walk_right G__law_copied G__law_asked GD__law_column G__law_is_number n_len n_list n_range n_isinstance n_all
 have GP__law_number:=az0 (P:=l.prog) (w:=w) (base:=base) d__law_number G__law_draw G__law_low n_int;exact bw6 (P:=l.prog) (w:=w) (base:=base) F_law G__law_urn G__law_draw GP__law_number G__law_round_machine G__law_walk_right G__law_turn_right n_range n_len n_int
end
theorem bz8 {l:m0m} {q:Program} {loose:List Str} {XP:(Str->Option Value)->Heap->Prop} {YP:World->Heap->Prop} {d:DefRec} {K:Params->q0a} (hn:l.most=some 63) (hdf:d.params.defaults=[])
  (hY:∀ (w:World) (h:Heap),YP w h->(K w.params).In h)
  (F:∀ (w:World) (mg:Str->Option Value) (fa:Addr) (h:Heap),(K w.params).In h->h.Ns mainGlobals mg->mg d.name=some (.ref fa) ->
   ∃ fd:FuncData,(∀ (s:Shared) (u:Value),BindsTo s fd ⟨[u],[]⟩ [("_law_script",u)])/\∀ base:Heap,(K w.params).In base->base.Ns mainGlobals mg->an0 l.prog w (K w.params) mg base CX0 9 fa fd ["_law_script"] (aY6 (K w.params))) :
  PySem.W.WalkO q loose XP YP l.row.toRowW d [] (λf vs=>PySem.call f vs) :=
 L2.aX9 (n:=63) (k:=9) (x := "_law_script") (CX:=λ_=>CX0) (sp:=λw=>aY6 (K w.params)) hn (by decide) hdf ⟨rfl,by decide,by decide⟩ hY F (λ_ _ a ns hl _ hS=>⟨a,ns,rfl,hS,hl,λ_=>rfl⟩) λ_ _ _ _ _ z=>z
end R
local macro_rules | `(tactic|left) => `(tactic|exact ⟨by k_is, _, L2.bx9 (by k_is) (by k_is) (by k_is)⟩)
local macro_rules | `(tactic|right) => `(tactic|exact ⟨by k_is, by k_exc, by (refine ⟨?_, ?_, ?_, ?_, ?_, ?_⟩ <;> first | k_is | kernel_rfl)⟩)
open PySem PySem.W PyProof.Rows
set_option maxRecDepth 100000 in
theorem PySem.Challenge.cw_restward_k46_walks_and_turns_holds : PySem.Challenge.rw_restward_k46_walks_and_turns.Holds := by
  w_on;o_law;k_head;(case hw=>w_witness2)
  k_fill
  refine R.bz8 (l:=PySem.Challenge.rw_restward_k46_walks_and_turns) rfl rfl (λw h Y=>PySem.W.kIn_of Y) ?F
  case F =>
    intro w mg fa h KX G hmg
    refine' R.by7 KX G hmg ?g_common_divisor ?g_plus ?g_less ?g_fraction ?g_cleared ?g_check_pair ?g_matched ?g_made_of ?g_turned ?g__law_flipped ?g__law_unit ?g_unit ?g__law_low ?g__law_urn ?g__law_draw ?g__law_kind ?g__law_number ?g__law_whole ?g__law_is_number ?g__law_other ?g__law_trim ?g__law_plus ?g__law_times ?g_table_sum ?g__law_table_plus ?g_table_times ?g__law_less ?g__law_over ?g__law_companion ?g__law_likened ?g__law_dot ?g__law_column ?g_opposite ?g_walk ?g_with_lead ?g_cleaned ?g_eliminated ?g_divisor_for_all ?g_lowered ?g_back_of ?g_turn_of ?g_turn_back ?g__law_copied ?g__law_table_often ?g__law_one ?g__law_which ?g__law_asked ?g__law_poly_times ?g__law_above ?g__law_sign ?g__law_round ?g__law_round_factor ?g__law_circled ?g__law_round_machine ?g__law_det ?g__law_table_times ?g__law_is_table ?g__law_turn_right ?g__law_walk_right ?g_law ?z_ValueError ?z_abs ?z_all ?z_bool ?z_enumerate ?z_int ?z_isinstance ?z_len ?z_list ?z_max ?z_range ?z_sum ?z_tuple ?z_zip ?y_SHORT ?y_LONG ?y_ONE ?u_ONE ?y_NOUGHT ?u_NOUGHT ?h_NoFraction ?h_NoPolynomial ?h_NoStretch ?h_NoRow ?h_NoPair ?h_NoBack ?h_NoForm ?h_NoParts ?h_NoDegree ?h_NoSteps ?h_NoBox ?h_NoGain ?h_NoText ?h_NoLine ?h_NoName ?h_NoDeed ?h_RestError ?kt_NoBack ?kt_NoPair
    (case g_common_divisor=>left)
    (case g_plus=>left)
    (case g_less=>left)
    (case g_fraction=>left)
    (case g_cleared=>left)
    (case g_check_pair=>left)
    (case g_matched=>left)
    (case g_made_of=>left)
    (case g_turned=>left)
    (case g__law_flipped=>left)
    (case g__law_unit=>left)
    (case g_unit=>left)
    (case g__law_low=>left)
    (case g__law_urn=>left)
    (case g__law_draw=>left)
    (case g__law_kind=>left)
    (case g__law_number=>left)
    (case g__law_whole=>left)
    (case g__law_is_number=>left)
    (case g__law_other=>left)
    (case g__law_trim=>left)
    (case g__law_plus=>left)
    (case g__law_times=>left)
    (case g_table_sum=>left)
    (case g__law_table_plus=>left)
    (case g_table_times=>left)
    (case g__law_less=>left)
    (case g__law_over=>left)
    (case g__law_companion=>left)
    (case g__law_likened=>left)
    (case g__law_dot=>left)
    (case g__law_column=>left)
    (case g_opposite=>left)
    (case g_walk=>left)
    (case g_with_lead=>left)
    (case g_cleaned=>left)
    (case g_eliminated=>left)
    (case g_divisor_for_all=>left)
    (case g_lowered=>left)
    (case g_back_of=>left)
    (case g_turn_of=>left)
    (case g_turn_back=>left)
    (case g__law_copied=>left)
    (case g__law_table_often=>left)
    (case g__law_one=>left)
    (case g__law_which=>left)
    (case g__law_asked=>left)
    (case g__law_poly_times=>left)
    (case g__law_above=>left)
    (case g__law_sign=>left)
    (case g__law_round=>left)
    (case g__law_round_factor=>left)
    (case g__law_circled=>left)
    (case g__law_round_machine=>left)
    (case g__law_det=>left)
    (case g__law_table_times=>left)
    (case g__law_is_table=>left)
    (case g__law_turn_right=>left)
    (case g__law_walk_right=>left)
    (case g_law=>left)
    (case z_ValueError=>k_is)
    (case z_abs=>k_is)
    (case z_all=>k_is)
    (case z_bool=>k_is)
    (case z_enumerate=>k_is)
    (case z_int=>k_is)
    (case z_isinstance=>k_is)
    (case z_len=>k_is)
    (case z_list=>k_is)
    (case z_max=>k_is)
    (case z_range=>k_is)
    (case z_sum=>k_is)
    (case z_tuple=>k_is)
    (case z_zip=>k_is)
    (case y_SHORT=>k_is)
    (case y_LONG=>k_is)
    (case y_ONE=>k_is);(case u_ONE=>k_is)
    (case y_NOUGHT=>k_is);(case u_NOUGHT=>k_is)
    (case h_NoFraction=>right)
    (case h_NoPolynomial=>right)
    (case h_NoStretch=>right)
    (case h_NoRow=>right)
    (case h_NoPair=>right)
    (case h_NoBack=>right)
    (case h_NoForm=>right)
    (case h_NoParts=>right)
    (case h_NoDegree=>right)
    (case h_NoSteps=>right)
    (case h_NoBox=>right)
    (case h_NoGain=>right)
    (case h_NoText=>right)
    (case h_NoLine=>right)
    (case h_NoName=>right)
    (case h_NoDeed=>right)
    (case h_RestError=>right)
    (case kt_NoBack=>(refine ⟨?_,?_,?_,?_,?_,?_,?_,?_,?_,?_,?_,?_,?_,?_,?_,?_,?_,?_,?_⟩ <;> first | kernel_rfl | (refine ⟨?_,?_,?_,?_,?_,?_⟩ <;> first | k_is | kernel_rfl)))
    (case kt_NoPair=>(refine ⟨?_,?_,?_,?_,?_,?_,?_,?_,?_,?_,?_,?_,?_,?_,?_,?_,?_,?_,?_⟩ <;> first | kernel_rfl | (refine ⟨?_,?_,?_,?_,?_,?_⟩ <;> first | k_is | kernel_rfl)))
