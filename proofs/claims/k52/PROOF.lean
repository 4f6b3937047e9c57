import PyProof.Rows.All
import Wide.All
import OpenK.AllK
import Wide.FinOn
import PyProof.EqAt
import PyProof.EqKinds
import PyProof.TupleCall
import KE.KTryMore
import KE.KIsNot
import PyProof.MeetsStr
import PyProof.Rows.RuleM_int
import PyProof.CompFree
import PyProof.WalksEnum
import PyProof.EnumMake
import PyProof.NeKinds
import PyProof.ConsumeWalk
import PyProof.CompMap
import PyProof.Rows.EqBoolInt
import KE.IntBitsLaws
import PyProof.ZipIter
import PyProof.Rows.ZipGen
import PyProof.MinMaxWalk
import PyProof.WalkInts
import PyProof.Rows.CallKwBuiltin
import PyProof.CompUse
import KE.KRevIter
import PyProof.Rows.Range3
import PyProof.NsDelKeeps
import PyProof.SumAny
import PyProof.TupleIter
import PyProof.WalksMore
import PyProof.ListRange
import PyProof.CollectStr
import PyProof.TupleOfStr
import KE.BitLaws
import PySem.Challenge.RW_restward_k52_lines
open PySem.W renaming Frag→q0a,kitOne→z0m,mg_none_of→z0v,nsIn→j0e,kia_one→j0x,keepIn→y0r,fnOf→v0k,hideAll_get→v0r,mg_of→v0z,findIn→u0m,cellsFrom_some→u0u,methodObj→m0n,instObj→q1g,hideAll→q1h,OpenLaw→q1k,lookIn→q1t,codeIn→q1u,excIn→z1a
open Nat renaming lt_of_lt_of_le→q0b,le_refl→q0j,lt_of_le_of_lt→q0k,add_sub_cancel→q0w,ne_of_lt→z0c,le_trans→z0p,pow_add→z0u,mul_lt_mul''→j0b,two_pow_pos→j0f,mul_le_mul_left→j0j,zero_le→j0k,pow_le_pow_right→j0p,pow_succ→j0w,pow_lt_pow_right→y0u,lt_irrefl→y0v,mul_pos→v0g,pow_pos→v0h,le_of_lt→v0j,eq_zero_or_pos→v0t,le_mul_of_pos_left→v0u,mul_le_mul→v0x,mul_le_mul_right→v0y,le_of_dvd→u0a,mod_two_eq_zero_or_one→u0b,le_succ→u0c,add_assoc→u0w,lt_succ_self→u0y,le_add_right→u0z,succ_ne_zero→g0b,lcm→g0e,mul_comm→g0n,sub_self→g0q,Coprime→m0d,lt_trichotomy→m0s,eq_of_mul_eq_mul_left→m0v,add_comm→m0y,sub_zero→q1c,mul_zero→q1e,le_mul_of_pos_right→q1f,not_lt_zero→q1m,dvd_trans→z1b,mul_assoc→z1c,ne_of_gt→z1f,succ_mul→z1g,mul_succ→z1k,lt_or_ge→z1m,zero_add→z1q,mul_one→z1r,log2_lt→z1s
open List renaming getElem?_eq_getElem→q0c,size_toArray→q0g,replicate→q0v,length_cons→q0x,getElem?_eq_none→q0z,mem_append_right→z0d,getElem?_eq_some_iff→z0f,length_map→z0g,mem_cons_of_mem→z0h,getElem?_map→z0k,mem_of_getElem?→z0r,mem_cons_self→z0s,mem_cons→z0z,getElem?_cons_succ→j0d,map_cons→j0g,length_append→j0n,mem_singleton→j0q,length_drop→j0s,filterMap_cons→j0u,length_nil→j0y,range→y0f,eq_nil_of_length_eq_zero→y0h,getElem?_cons_zero→y0k,length_pos_iff→y0m,map_map→y0p,length_take→y0q,length_replicate→y0s,getElem?_replicate→y0w,take_append_drop→v0b,getElem?_append_right→v0d,mem_map→v0p,take_length→v0q,replicate_succ→v0s,take_of_length_le→v0v,append_assoc→v0w,getElem_of_mem→u0d,mem_append→u0e,take_succ→u0p,flatten_cons→u0q,getElem?_nil→u0s,length_range→u0t,getElem_mem→u0x,mem_append_left→g0g,append_nil→g0j,nodup_cons→g0k,of_mem_zip→g0m,mem_of_mem_take→g0r,map_congr_left→g0z,length→m0c,mem_filterMap→m0g,set_cons_succ→m0h,set_cons_zero→m0j,all_cons→m0k,ext_getElem?→m0r,getElem?_eq_none_iff→m0t,getElem?_append_left→m0u,drop_eq_getElem_cons→m0w,lookup_cons→m0z,nil_append→q1j,map_append→q1p,getElem?_set_self→q1q,drop_eq_nil_of_le→q1r,mem_iff_getElem?→q1w,getElem?_set_ne→q1x,mem_of_mem_drop→q1y,getElem?_range→z1e,map_nil→z1h,map_id→z1t
open Rat renaming mul_inv_cancel→q0d,divInt→q0e,le_of_lt→q0p,pow_succ→q0r,mul_pos→q0s,mul_nonneg→q0t,div_def→q0u,divInt_eq_div→q0y,pow_zero→z0a,intCast_mul→z0e,mul_eq_zero→z0n,le_trans→z0t,divInt_eq_divInt_iff→z0w,num_divInt_den→z0y,pow_pos→j0c,mul_assoc→j0m,intCast_pos→j0r,intCast_inj→j0z,inv_pos→y0a,natCast_le_natCast→y0d,intCast_natCast→y0e,intCast_pow→y0t,inv_mul_cancel→y0z,divInt_mul_divInt→v0a,intCast_neg→v0c,le_refl→v0f,natCast_nonneg→u0k,divInt_add_divInt→g0d,num_intCast→g0s,den_intCast→g0t,natCast_add→g0v,natCast_mul→g0y,mul_one→m0f,lt_iff→m0x,le_total→q1d,intCast_add→q1n,intCast_le_intCast→q1s,divInt_mul_right→q1z,mul_comm→z1p
open PySem.Heap renaming lt_size→q0f,get?_push_of_some→q0h,get?_push_size→z0j,get?_update_other→y0c,get?_update_self→g0c,SameBut→g0h,size_push→m0a,FlyingW→z1j
open Int renaming natAbs_natCast→q0m,gcd→q0q,natAbs_mul→z0b,natAbs→z0q,natCast_mul→z0x,natCast_dvd_natCast→j0h,gcd_dvd_right→j0v,gcd_dvd_left→y0b,natAbs_dvd_natAbs→y0g,dvd_mul_left→y0j,fmod_nonneg_of_pos→y0n,gcd_eq_natAbs_gcd_natAbs→y0x,fmod_lt_of_pos→y0y,dvd_trans→v0e,mul_comm→v0n,lt_or_le→u0h,le_of_lt→u0j,mul_nonneg→u0n,mul_pos→u0v,toNat→g0f,mul_ne_zero→g0u,mul_le_mul_of_nonneg_right→g0w,natCast_pow→g0x,natAbs_neg→m0b,mul_neg→m0e,mul_assoc→m0m,natAbs_add_le→m0q,ne_of_gt→q1a,zero_mul→q1b,mul_fdiv_add_fmod→q1v,mul_zero→z1n
open Bool renaming false_ne_true→q0n,and_eq_true→j0t,eq_iff_iff→u0f,eq_false_iff→u0r,or_eq_true→g0p,not_eq_true'→m0p
open Or renaming inl→j0a
open Option renaming getD_none→v0m,isSome_iff_exists→u0g,getD_some→g0a
open Array renaming length_toList→z1d
set_option Elab.async false
set_option linter.all false
local macro_rules | `(def $i:declId $s:optDeclSig $v:declVal) => `(noncomputable def $i:declId $s:optDeclSig $v:declVal)
local macro_rules | `(abbrev $i:declId $s:optDeclSig $v:declVal) => `(noncomputable abbrev $i:declId $s:optDeclSig $v:declVal)
local macro_rules | `(⋯) => `(by omega)
set_option maxHeartbeats 0
noncomputable section
-- CHANGE: your row's module here,as the last of these rows
set_option maxRecDepth 100000
namespace L2
open PySem PySem.Spec PyProof.Rows
abbrev Key:=Sum Int Str
def br0:Key->Value->Bool
 | .inl k,v=>Value.isInt k v
 | .inr x,v=>Value.isStrOf x v
def bD8 (w:World):Key->Int
 | .inl k=>hashInt k
 | .inr x=>hashStr w x
theorem z9:∀ {k:Key} {v:Value},br0 k v=true->(∃ i t,k=Sum.inl i/\v=Value.int i t) \/ (∃ x t,k=Sum.inr x/\v=Value.str x t)
 | .inl i,v,h=>by
  obtain ⟨t,e⟩:=Value.isInt_shape (k:=i) (v:=v) h;exact .inl ⟨i,t,rfl,e⟩
 | .inr x,v,h=>by
  obtain ⟨t,e⟩:=Value.isStrOf_shape (x:=x) (v:=v) h;exact .inr ⟨x,t,rfl,e⟩
theorem bw3 (a b:Int):decide ((Sum.inl a:Key)=Sum.inl b)=(a == b):=by
 by_cases e:a=b
 ·subst e;simp
 ·have h:¬ (Sum.inl a:Key)=Sum.inl b:=λq=>e (Sum.inl.inj q)
  rw [decide_eq_false h];exact (beq_eq_false_iff_ne.mpr e).symm
theorem bw0 (a b:Str):decide ((Sum.inr a:Key)=Sum.inr b)=decide (a=b):=by
 by_cases e:a=b
 ·subst e;simp
 ·have h:¬ (Sum.inr a:Key)=Sum.inr b:=λq=>e (Sum.inr.inj q)
  rw [decide_eq_false h,decide_eq_false e]
theorem bw2 (a:Int) (b:Str):decide ((Sum.inl a:Key)=Sum.inr b)=false:=decide_eq_false (λq=>nomatch q)
theorem bw1 (a:Str) (b:Int):decide ((Sum.inr a:Key)=Sum.inl b)=false:=decide_eq_false (λq=>nomatch q)
def aD5 (prog:Program) (w:World):PySem.KeyKind prog w Key where
 is:=br0
 hash:=bD8 w
 inj:=λv a b ha hb=>by
  rcases z9 ha with ⟨i,t,rfl,rfl⟩ | ⟨x,t,rfl,rfl⟩
  ·rcases z9 hb with ⟨j,u,rfl,e⟩ | ⟨y,u,rfl,e⟩
   ·injection e with e1 _;rw [e1]
   ·exact nomatch e
  ·rcases z9 hb with ⟨j,u,rfl,e⟩ | ⟨y,u,rfl,e⟩
   ·exact nomatch e
   ·injection e with e1 _;rw [e1]
 byValue:=λk v h=>by
  rcases z9 h with ⟨i,t,rfl,rfl⟩ | ⟨x,t,rfl,rfl⟩ <;> rfl
 pyHash:=λhv h=>by
  rcases z9 hv with ⟨i,t,rfl,rfl⟩ | ⟨x,t,rfl,rfl⟩
  ·exact wpAny_pyHash_int h
  ·exact wpAny_pyHash_str h
 eqBool:=λhu hv h=>by
  rcases z9 hu with ⟨i,t,rfl,rfl⟩ | ⟨x,t,rfl,rfl⟩
  ·rcases z9 hv with ⟨j,u,rfl,rfl⟩ | ⟨y,u,rfl,rfl⟩
   ·rw [bw3] at h;exact wpAny_eqBool_int h
   ·rw [bw2] at h;exact SeqAt.EqAt.int_str i t y u _ _ _ _ h
  ·rcases z9 hv with ⟨j,u,rfl,rfl⟩ | ⟨y,u,rfl,rfl⟩
   ·rw [bw1] at h;exact SeqAt.EqAt.str_int x t j u _ _ _ _ h
   ·rw [bw0] at h;exact wpAny_eqBool_str h
 «strs» := λk x t v h=>by
  rcases z9 h with ⟨i,u,rfl,e⟩ | ⟨y,u,rfl,e⟩
  ·exact nomatch e
  ·injection e with e1 _
   subst e1
   cases v <;> rfl
inductive V where
 | non | bl (b:Bool) | int (i:Int) | str (x:Str) | byt (b:Array UInt8) | flt (b:UInt64) | ref (a:Addr) | ty (n:String)
 deriving DecidableEq
def u0:V->Value->Prop
 | .non,u=>u=Value.none
 | .bl b,u=>u=Value.bool b
 | .int i,u => ∃ t,u=Value.int i t
 | .str x,u => ∃ t,u=Value.str x t
 | .byt b,u => ∃ t,u=Value.bytes b t
 | .flt b,u => ∃ t,u=Value.float b t
 | .ref a,u=>u=Value.ref a
 | .ty n,u=>u=Value.type n
abbrev j8:List V->List Value->Prop:=Paired u0
theorem j8.length {xs:List V} {us:List Value} (r:j8 xs us):xs.length=us.length:=Paired.length r
theorem j8.get:∀ {xs:List V} {us:List Value} {i:Nat} {x:V},j8 xs us->xs[i]? = some x->∃ u,us[i]? = some u/\u0 x u
 | _,_,_,_,.nil,e=>by simp at e
 | _,_,0,_,.cons r _,e=>by simp at e;subst e;exact ⟨_,rfl,r⟩
 | _,_,i+1,x,.cons _ t,e=>by
  obtain ⟨u,h1,h2⟩:=j8.get (i:=i) (x:=x) t (by simpa using e)
  exact ⟨u,by simpa using h1,h2⟩
theorem j8.set {x:V} {u:Value} (r:u0 x u):∀ {xs:List V} {us:List Value} (i:Nat),j8 xs us->j8 (xs.set i x) (us.set i u)
 | _,_,_,.nil=>.nil
 | _,_,0,.cons _ t=>.cons r t
 | _,_,i+1,.cons q t=>.cons q (j8.set r i t)
theorem j8.append:∀ {xs ys:List V} {us ws:List Value},j8 xs us->j8 ys ws->j8 (xs ++ ys) (us ++ ws)
 | _,_,_,_,.nil,s=>s
 | _,_,_,_,.cons r t,s=>.cons r (j8.append t s)
theorem j8.take:∀ {xs:List V} {us:List Value} (n:Nat),j8 xs us->j8 (xs.take n) (us.take n)
 | _,_,0,_=>.nil
 | _,_,_+1,.nil=>.nil
 | _,_,n+1,.cons r t=>.cons r (j8.take n t)
theorem j8.drop:∀ {xs:List V} {us:List Value} (n:Nat),j8 xs us->j8 (xs.drop n) (us.drop n)
 | _,_,0,r=>r
 | _,_,_+1,.nil=>.nil
 | _,_,n+1,.cons _ t=>j8.drop n t
theorem j8.none_of:∀ {xs:List V} {us:List Value} {i:Nat},j8 xs us->xs[i]? = none->us[i]? = none:=fun {xs us i} r e=>by
 have h1:=r.length;have h2:xs.length<=i:=m0t.mp e;exact m0t.mpr ⋯
def bz1:Option V->Option Value->Prop
 | some v,some u=>u0 v u
 | none,none=>True
 | _,_=>False
def KV {κ:Type}:List (κ × V)->List (κ × Value)->Prop:=Paired λ(p:κ × V) (q:κ × Value)=>p.1=q.1/\u0 p.2 q.2
def kV:Key->V
 | .inl i=>.int i
 | .inr x=>.str x
inductive HO where
  | lst (xs:List V)
  | tup (xs:List V)
  | dK (kvs:List (Key × V)) | dT (kvs:List (List Key × V))
  | set (S:Int->Bool) (n:Nat)
  | ins (C dx:Addr) (fs:List (Str × V))
  | own (x:Addr)
  | xd (fs:List (Str × V))
  | met (f x:Addr)
  | rng (lo hi:Int)
  | frz (o:Obj) (u:HO)
  | tbl (ps:Array Value)
  | ext (φ:Heap->Prop)
abbrev Hp:=Addr->Option HO
def upd (H:Hp) (a:Addr) (o:HO):Hp:=λb=>if b=a then some o else H b
theorem b6 {H:Hp} {a:Addr} {o:HO}:upd H a o a=some o:=by unfold upd;rw [if_pos rfl]
theorem i9 {H:Hp} {a b:Addr} {o:HO} (h:b ≠ a):upd H a o b=H b:=by unfold upd;rw [if_neg h]
theorem bq7 {H:Hp} {a b:Addr} {o u:HO} (h:H a=some o) (h':H b=some u) (d:o ≠ u):a ≠ b:=by
 intro e;subst e;rw [h] at h';exact d (Option.some.inj h')
theorem i6 {H:Hp} {a b:Addr} {o:HO} (h:H a=some o) (h':H b=none):a ≠ b:=by
 intro e;subst e;rw [h] at h';cases h'
section
variable (P:Program) (w:World)
def C2 (H:Hp) (h:Heap) (a:Addr):HO->Prop
 | .lst xs=>xs.length<=sizeLine/\∃ (its:List Value) (n:Nat),j8 xs its/\h.get? a=some { cls:=.type "list",data:=.seq its.toArray n }
 | .tup xs=>xs.length<=sizeLine/\∃ its:List Value,j8 xs its/\IsTup h a its.toArray
 | .dK kvs=>kvs.length<=sizeLine/\(a == sysModules)=false/\∃ vs,KV kvs vs/\h.DictOf (aD5 P w) a vs
 | .dT kvs=>kvs.length<=sizeLine/\(a == sysModules)=false/\∃ xs:List (List Key × Addr × Value),
   Paired (λ(p:List Key × V) (q:List Key × Addr × Value)=>p.1=q.1/\H q.2.1=some (.tup (p.1.map kV))/\u0 p.2 q.2.2) kvs xs /\
   ∃ o es ep,h.get? a=some o/\o.ExactDict/\o.data=.dict es ep/\es.toList=xs.map (entryOfKey (tupleKind (aD5 P w)))/\(xs.map (·.1)).Nodup
 | .set S n=>h.SetOf (intKind P w) a S n
 | .ins C dx fs=>H dx=some (.own a)/\fs.length<=1000/\dx ≠ a/\h.get? a=some (q1g C dx) /\
   ∃ mA,h.Ns1 dx mA/\(∀ f,bz1 (fs.lookup f) (mA f))/\PySem.Within mA (fs.map (·.1))
 | .own _ => ∃ o,h.get? a=some o
 | .xd fs => ∃ mA,h.Ns1 a mA/\∀ f,bz1 (fs.lookup f) (mA f)
 | .rng lo hi => ∃ t u v,h.get? a=some { cls:=.type "range",data:=.fields #[.int lo t,.int hi u,.int 1 v] }
 | .frz o u=>h.get? a=some o/\C2 H h a u
 | .tbl ps=>h.get? a=some { cls:=.none,data:=.fields ps }
 | .met f x=>h.get? a=some (m0n (.ref f) (.ref x))
 | .ext φ=>φ h/\(∃ o,h.get? a=some o)/\∀ h1 h2:Heap,φ h1->(∀ o,h1.get? a=some o->h2.get? a=some o)->φ h2
def HOk (H:Hp) (h:Heap):Prop:=∀ a o,H a=some o->C2 P w H h a o
end
section
variable {P:Program} {w:World} {H H':Hp} {h h':Heap} {a:Addr} {o:HO}
theorem C2.lt (x:C2 P w H h a o):a<h.objs.size:=by
 cases o with
 | lst xs=>obtain ⟨_,_,_,_,e⟩:=x;exact q0f e
 | tup xs=>obtain ⟨_,_,_,p⟩:=x;exact p.lt
 | dK kvs=>obtain ⟨_,_,_,_,o,_,_,e,_⟩:=x;exact q0f e
 | dT kvs=>obtain ⟨_,_,_,_,o,_,_,e,_⟩:=x;exact q0f e
 | set S n=>obtain ⟨o,_,_,_,e,_⟩:=x;exact q0f e
 | ins C dx fs=>obtain ⟨_,_,_,e,_⟩:=x;exact q0f e
 | own y=>obtain ⟨_,e⟩:=x;exact q0f e
 | xd fs=>obtain ⟨_,⟨_,_,_,e,_⟩,_⟩:=x;exact q0f e
 | rng lo hi=>obtain ⟨_,_,_,e⟩:=x;exact q0f e
 | frz ob u=>obtain ⟨e,_⟩:=x;exact q0f e
 | tbl ps=>exact q0f (show h.get? a=some _ from x)
 | met f y=>exact q0f (show h.get? a=some _ from x)
 | ext φ=>obtain ⟨_,⟨_,e⟩,_⟩:=x;exact q0f e
theorem Paired.mapP {α β:Type} {F G:α->β->Prop}:∀ {l₁:List α} {l₂:List β},Paired F l₁ l₂->(∀ a b,F a b->G a b)->Paired G l₁ l₂
 | _,_,.nil,_=>.nil
 | _,_,.cons r t,f=>.cons (f _ _ r) (Paired.mapP t f)
theorem C2.stay (x:C2 P w H h a o) (k:∀ b u,(b=a \/ H b=some (.own a))->h.get? b=some u->h'.get? b=some u)
  (ho:∀ b,H b=some (.own a)->H' b=some (.own a)) (ht:∀ b xs,H b=some (.tup xs)->H' b=some (.tup xs)):C2 P w H' h' a o:=by
 induction o with
 | lst xs=>obtain ⟨z,its,n,r,e⟩:=x;exact ⟨z,its,n,r,k _ _ (.inl rfl) e⟩
 | tup xs=>obtain ⟨z,its,r,ob,e,c⟩:=x;exact ⟨z,its,r,ob,k _ _ (.inl rfl) e,c⟩
 | dK kvs=>obtain ⟨z,y,vs,r,ob,es,ep,e,c⟩:=x;exact ⟨z,y,vs,r,ob,es,ep,k _ _ (.inl rfl) e,c⟩
 | dT kvs =>
  obtain ⟨z,y,xs,r,ob,es,ep,e,c⟩:=x;exact ⟨z,y,xs,Paired.mapP r λp q z=>⟨z.1,ht _ _ z.2.1,z.2.2⟩,ob,es,ep,k _ _ (.inl rfl) e,c⟩
 | set S n=>obtain ⟨ob,es,ep,t,e,c⟩:=x;exact ⟨ob,es,ep,t,k _ _ (.inl rfl) e,c⟩
 | ins C dx fs =>
  obtain ⟨d,z,ne,e,mA,⟨od,es,ep,e2,c⟩,r⟩:=x;exact ⟨ho _ d,z,ne,k _ _ (.inl rfl) e,mA,⟨od,es,ep,k _ _ (.inr d) e2,c⟩,r⟩
 | own y=>obtain ⟨ob,e⟩:=x;exact ⟨ob,k _ _ (.inl rfl) e⟩
 | xd fs=>obtain ⟨mA,⟨od,es,ep,e,c⟩,r⟩:=x;exact ⟨mA,⟨od,es,ep,k _ _ (.inl rfl) e,c⟩,r⟩
 | rng lo hi=>obtain ⟨t,u,v,e⟩:=x;exact ⟨t,u,v,k _ _ (.inl rfl) e⟩
 | frz ob u ih=>obtain ⟨e,q⟩:=x;exact ⟨k _ _ (.inl rfl) e,ih q⟩
 | tbl ps =>
  have e:h.get? a=some { cls:=.none,data:=.fields ps }:=x
  show h'.get? a=some { cls:=.none,data:=.fields ps };exact k a _ (.inl rfl) e
 | met f y =>
  have e:h.get? a=some (m0n (.ref f) (.ref y)):=x
  show h'.get? a=some (m0n (.ref f) (.ref y));exact k a _ (.inl rfl) e
 | ext φ=>obtain ⟨p,⟨o,e⟩,st⟩:=x;exact ⟨st _ _ p λo q=>k _ _ (.inl rfl) q,⟨o,k _ _ (.inl rfl) e⟩,st⟩
theorem HOk.lt (x:HOk P w H h) (e:H a=some o):a<h.objs.size:=(x a o e).lt
theorem HOk.fresh (x:HOk P w H h) (e:h.objs.size<=a):H a=none:=by
 cases q:H a with
 | none=>rfl
 | some u=>exact absurd (q0b (x.lt q) e) (y0v _)
theorem HOk.kept (x:HOk P w H h) (k:∀ b u,h.get? b=some u->h'.get? b=some u):HOk P w H h':=λa o e =>
 (x a o e).stay (λb u _ q=>k b u q) (λ_ q=>q) λ_ _ q=>q
theorem HOk.laid (x:HOk P w H h) (k:∀ b u,h.get? b=some u->h'.get? b=some u) (hp:h.objs.size<=a) (new:C2 P w (upd H a o) h' a o):HOk P w (upd H a o) h':=λb u e=>by
 have hn:=x.fresh hp
 by_cases hb:b=a
 ·subst hb;rw [b6] at e;cases e;exact new
 ·rw [i9 hb] at e
  exact (x b u e).stay (λc v _ q=>k c v q) (λc q=>by rw [i9 (i6 q hn)];exact q) λc xs q=>by rw [i9 (i6 q hn)];exact q
end
def Rd (H:Hp) (a:Addr) (u:HO):Prop:=H a=some u \/ ∃ o,H a=some (.frz o u)
theorem Rd.ok {P:Program} {w:World} {H:Hp} {h:Heap} {a:Addr} {u:HO} (r:Rd H a u) (x:HOk P w H h):C2 P w H h a u:=by
 rcases r with r | ⟨o,r⟩
 ·exact x a u r
 ·obtain ⟨_,q⟩:=x a _ r
  exact q
def Mut:Option HO->Prop
 | some (.lst _)=>True
 | some (.dK _)=>True
 | some (.dT _)=>True
 | some (.set _ _)=>True
 | some (.ins _ _ _)=>True
 | some (.ext _)=>True
 | _=>False
section
variable {P:Program} {w:World} {H:Hp} {h h':Heap} {x e:Addr} {o':HO}
theorem HOk.write (ok:HOk P w H h) (mu:Mut (H x)) (he:e=x \/ H e=some (.own x)) (k:∀ b u,b ≠ e->h.get? b=some u->h'.get? b=some u) (heo:∃ u,h'.get? e=some u)
  (new:C2 P w (upd H x o') h' x o'):HOk P w (upd H x o') h':=λb u q=>by
 have nown:∀ c y,H c=some (.own y)->c ≠ x:=λc y r z=>by subst z;rw [r] at mu;exact mu
 have ntup:∀ c xs,H c=some (.tup xs)->c ≠ x:=λc xs r z=>by subst z;rw [r] at mu;exact mu
 by_cases hb:b=x
 ·subst hb;rw [b6] at q;cases q;exact new
 ·rw [i9 hb] at q
  by_cases hbe:b=e
  ·have q':H b=some (.own x):=by
    rcases he with z | z
    ·exact absurd (hbe.trans z) hb
    ·rw [hbe];exact z
   rw [q] at q';cases q';obtain ⟨v,hv⟩:=heo;exact ⟨v,by rw [hbe];exact hv⟩
  ·refine (ok b u q).stay (λc v hc r=>k c v ?_ r) (λc r=>by rw [i9 (nown c b r)];exact r) λc xs r=>by rw [i9 (ntup c xs r)];exact r
   rcases hc with rfl | hc
   ·exact hbe
   ·rintro rfl
    rcases he with z | z
    ·exact nown c b hc z
    ·rw [hc] at z;cases z;exact hb rfl
end
structure Un (fs ex:List Addr) (H H':Hp) (h h':Heap):Prop where
 keep:∀ b o,h.get? b=some o->H b=none->b ∉ fs->b ∉ ex->h'.get? b=some o
 slot:∀ b o,h.get? b=some o->H b=none->b ∈ fs->b ∉ ex->∃ sl,h'.get? b=some { o with slots:=sl }
 free:∀ b o,h.get? b=some o->H b=none->b ∉ ex->H' b=none
 there:∀ b o,h.get? b=some o->b ∉ ex->∃ o',h'.get? b=some o'
 tups:∀ b xs,H b=some (.tup xs)->H' b=some (.tup xs)
 frzs:∀ b o u,H b=some (.frz o u)->H' b=some (.frz o u)
 tbls:∀ b ps,H b=some (.tbl ps)->∃ more,H' b=some (.tbl (ps ++ more))
section
variable {fs fs' ex ex':List Addr} {H H1 H2:Hp} {h h1 h2 h':Heap} {a x e:Addr} {o:HO}
theorem Un.any (u:Un fs ex H H1 h h1) {b:Addr} {ob:Obj} (q:h.get? b=some ob) (n:H b=none) (hx:b ∉ ex):∃ sl,h1.get? b=some { ob with slots:=sl }:=by
 by_cases hb:b ∈ fs
 ·exact u.slot b ob q n hb hx
 ·exact ⟨ob.slots,u.keep b ob q n hb hx⟩
theorem Un.kept (k:∀ b u,h.get? b=some u->h'.get? b=some u):Un fs ex H H h h' :=
 ⟨λb ob q _ _ _=>k b ob q,λb ob q _ _ _=>⟨ob.slots,k b ob q⟩,λ_ _ _ n _=>n,λb ob q _=>⟨ob,k b ob q⟩,λ_ _ q=>q,λ_ _ _ q=>q,λ_ ps q=>⟨#[],by rw [q];simp⟩⟩
theorem Un.refl:Un fs ex H H h h:=Un.kept λ_ _ q=>q
theorem Un.laid (k:∀ b u,h.get? b=some u->h'.get? b=some u) (hp:h.objs.size<=a) (hn:H a=none):Un fs ex H (upd H a o) h h' where
 keep:=λb u q _ _ _=>k b u q
 slot:=λb u q _ _ _=>⟨u.slots,k b u q⟩
 free:=λb u q n _=>by rw [i9 (z0c (q0b (q0f q) hp))];exact n
 there:=λb u q _=>⟨u,k b u q⟩
 tups:=λb xs q=>by rw [i9 (i6 q hn)];exact q
 frzs:=λb u xs q=>by rw [i9 (i6 q hn)];exact q
 tbls:=λb ps q=>⟨#[],by rw [i9 (i6 q hn),q];simp⟩
theorem Un.write (mu:Mut (H x)) (he:e=x \/ H e=some (.own x)) (k:∀ b u,b ≠ e->h.get? b=some u->h'.get? b=some u) (heo:∃ u,h'.get? e=some u):Un fs ex H (upd H x o) h h':=by
 have hx:∀ b,H b=none->b ≠ x:=λb n z=>by subst z;rw [n] at mu;exact mu
 have hb:∀ b,H b=none->b ≠ e:=λb n z=>by
  subst z;rcases he with r | r
  ·exact hx b n r
  ·rw [n] at r;cases r
 have hm:∀ b u,H b=some u->¬ Mut (some u)->b ≠ x:=λb u q nm z=>by subst z;rw [q] at mu;exact nm mu
 refine ⟨λb u q n _ _=>k b u (hb b n) q,λb u q n _ _=>⟨u.slots,k b u (hb b n) q⟩,λb u q n _=>by rw [i9 (hx b n)];exact n,λb u q _=>?_,
  λb xs q=>by rw [i9 (hm b _ q λz=>z)];exact q,λb u xs q=>by rw [i9 (hm b _ q λz=>z)];exact q,λb ps q=>⟨#[],by rw [i9 (hm b _ q λz=>z),q];simp⟩⟩
 by_cases hbe:b=e
 ·subst hbe;exact heo
 ·exact ⟨u,k b u hbe q⟩
end
def trk (h:Heap) (H:Hp):List Addr:=(y0f h.objs.size).filter λa=>(H a).isSome
def aE0 (h:Heap) (H:Hp):Heap:=q1h h (trk h H)
theorem aX7 (h:Heap) (H:Hp):(aE0 h H).objs.size=h.objs.size:=PySem.W.hideAll_size _ _
theorem bf7 {h:Heap} {H:Hp} {b:Addr} {o:Obj} (e:h.get? b=some o) (n:H b=none):(aE0 h H).get? b=some o :=
 v0r _ e λhm=>by
  have q:(H b).isSome=true:=(List.mem_filter.mp hm).2;rw [n] at q;simp at q
theorem bl6 {h:Heap} {H:Hp} {b:Addr} {o:Obj} (e:(aE0 h H).get? b=some o):h.get? b=some o/\H b=none:=by
 have e':h.get? b=some o:=PySem.W.of_hideAll (trk h H) e;refine ⟨e',?_⟩
 cases q:H b with
 | none=>rfl
 | some x =>
  have hm:b ∈ trk h H:=List.mem_filter.mpr ⟨List.mem_range.mpr (q0f e'),by simp [q]⟩
  have z:(aE0 h H).get? b=none:=PySem.W.hideAll_none (trk h H) hm;rw [z] at e;cases e
def bp0 (g h:Heap) (L:Addr):List (Addr × Obj):=(y0f h.objs.size).filterMap λa=>if a=L \/ (g.get? a).isSome=true then none else (h.get? a).map λo=>(a,o)
def ao0 (g h:Heap) (L d:Addr):List (Addr × Obj):=(bp0 g h L).filter λp=>decide (p.1 ≠ d)
structure Mod (K:q0a) (mg:Str->Option Value) (base:Heap):Prop where
 kin:K.In base
 glob:base.Ns mainGlobals mg
 blt:∃ mb,base.Ns builtinsNs mb/\∀ x:Str,x ≠ "__name__"->mb x=bootBuiltins x
 nolimit:base.NoLimit
structure Cx where
 prog:Program
 w:World
 K:q0a
 mg:Str->Option Value
 base:Heap
 A:Around
 N:List Str
 s₀:Shared
 H₀:Hp
 env:Env
 outer:List Env
 stack:List Env
 ex:List Addr
 fn:Str->Bool
 calm:Bool
 pn:List (Addr × Obj)
 xe:Value->Shared->Prop
def frs (l:List Env):List Addr:=l.filterMap (·.frame)
abbrev Cx.fs (X:Cx):List Addr:=frs X.outer
def Vis (sc:Scope) (x:Str):Prop:=sc.names.lookup x=some .local \/ sc.names.lookup x=some .cell \/ sc.names.lookup x=some .free
def Loc (sc:Scope) (x:Str):Prop:=sc.names.lookup x=some .local \/ sc.names.lookup x=some .cell
def bE3 (env:Env) (h:Heap) (m:Str->Option Value) (x:Str) (u:Value):Prop :=
 (env.kindOf x=some .local/\m x=some u) \/ ((env.kindOf x=some .cell \/ env.kindOf x=some .free)/\∃ c,env.cells.lookup x=some c/\h.IsCell c (some u))
structure Cx.Ok (X:Cx):Prop where
 mod:Mod X.K X.mg X.base
 kind:X.env.scope.kind=.function
 glob:X.env.globals=mainGlobals
 blt:X.env.builtins=builtinsNs
 above:X.s₀.heap.objs.size<=X.env.locals
 inj:∀ x y c,X.env.cells.lookup x=some c->X.env.cells.lookup y=some c->x=y
 has:∀ x,(X.env.kindOf x=some .cell \/ X.env.kindOf x=some .free)->∃ c,X.env.cells.lookup x=some c
 cab:∀ x c,X.fn x=true->X.env.cells.lookup x=some c->X.s₀.heap.objs.size<=c
 hd:X.calm=true->X.A.handled=none
 frames:X.A.frames=some X.stack
 stk:X.stack=X.outer \/ (X.stack=X.env :: X.outer/\X.env.frame=some X.env.locals)
 exf:∀ b ∈ X.ex,b ≠ X.env.locals/\∀ x c,X.env.cells.lookup x=some c->c ≠ b
 bs:∀ b o,X.base.get? b=some o->X.s₀.heap.get? b=some o/\X.H₀ b=none
 bsz:X.base.objs.size<=X.s₀.heap.objs.size
 noex:∀ b o,X.base.get? b=some o->b ∉ X.ex
 exfs:∀ b ∈ X.ex,b ∉ X.fs
 funs:X.s₀.heap.FunFrames X.base X.outer
 frf:∀ b ∈ X.fs,X.H₀ b=none
structure Inv (X:Cx) (pins:List (Addr × Obj)) (σ:List (Option V)) (H:Hp) (s:Shared):Prop where
 ok:X.Ok
 os:s.os=X.s₀.os
 bare:AllBare s.gens
 base:Un X.fs X.ex X.H₀ H X.s₀.heap s.heap
 loc:∃ m,s.heap.Ns X.env.locals m/\∀ (i:Nat) (x:Str) (v:V),X.N[i]? = some x->σ[i]? = some (some v)->Vis X.env.scope x->∃ u,u0 v u/\bE3 X.env s.heap m x u
 cell:∀ x c,X.env.cells.lookup x=some c->∃ v,s.heap.IsCell c v
 free:H X.env.locals=none
 freeC:∀ x c,X.env.cells.lookup x=some c->H c=none
 pin:∀ p ∈ X.pn ++ pins,s.heap.get? p.1=some p.2/\H p.1=none/\p.1 ≠ X.env.locals/\p.1 ∉ X.fs/\∀ v,p.2.data ≠ .cell v
 hok:HOk X.prog X.w H s.heap
 len:σ.length=X.N.length
section
variable {X:Cx} {pins:List (Addr × Obj)} {σ:List (Option V)} {H H':Hp} {s:Shared} {h':Heap}
theorem Cx.Ok.nofr (ok:X.Ok) {b:Addr} {o:Obj} (e:X.base.get? b=some o):b ∉ X.fs:=λhb=>by
 have:=(ok.funs.mem hb).1;rw [e] at this;cases this
theorem Inv.bs (I:Inv X pins σ H s):∀ b o,X.base.get? b=some o->s.heap.get? b=some o/\H b=none:=λb o e =>
 ⟨I.base.keep b o (I.ok.bs b o e).1 (I.ok.bs b o e).2 (I.ok.nofr e) (I.ok.noex b o e),I.base.free b o (I.ok.bs b o e).1 (I.ok.bs b o e).2 (I.ok.noex b o e)⟩
theorem Inv.bk (I:Inv X pins σ H s):∀ b o,X.base.get? b=some o->s.heap.get? b=some o:=λb o e=>(I.bs b o e).1
theorem Inv.mod (I:Inv X pins σ H s):Mod X.K X.mg X.base:=I.ok.mod
theorem Inv.kIn (I:Inv X pins σ H s):X.K.In s.heap:=I.ok.mod.kin.keeps I.bk
theorem Inv.fr (I:Inv X pins σ H s):∃ m,Fr X.base X.env.locals s.heap m :=
 let ⟨m,hn,_⟩:=I.loc
 ⟨m,hn,I.bk,z0p I.ok.bsz I.ok.above⟩
theorem Inv.lt (I:Inv X pins σ H s):X.env.locals<s.heap.objs.size:=let ⟨_,hn,_⟩:=I.loc;hn.lt
theorem Inv.sz (I:Inv X pins σ H s):X.s₀.heap.objs.size<=s.heap.objs.size:=z0p I.ok.above (v0j I.lt)
theorem Inv.nofs (I:Inv X pins σ H s) {a:Addr} (h:s.heap.objs.size<=a):a ∉ X.fs:=λhb=>by
 obtain ⟨_,o,ho,_⟩:=I.ok.funs.mem hb;exact absurd (q0b (q0f ho) (z0p I.sz h)) (y0v _)
theorem Inv.cne (I:Inv X pins σ H s):∀ x c,X.env.cells.lookup x=some c->c ≠ X.env.locals:=λx c e z=>by
 obtain ⟨v,o,ho,hd⟩:=I.cell x c e;obtain ⟨m,⟨o',es,ep,ho',hd',_⟩,_⟩:=I.loc;rw [z,ho'] at ho;cases ho;rw [hd'] at hd;cases hd
theorem Inv.funs (I:Inv X pins σ H s):s.heap.FunFrames X.base X.outer:=by
 have all:∀ (l:List Env),(∀ b ∈ frs l,b ∈ X.fs)->X.s₀.heap.FunFrames X.base l->s.heap.FunFrames X.base l:=by
  intro l
  induction l with
  | nil=>intro _ _;trivial
  | cons env r ih =>
   intro hs hl;obtain ⟨hk,⟨L,o,hf,hn,ho,hd⟩,hr⟩:=hl;have hL:L ∈ X.fs:=hs L (by unfold frs;rw [j0u,hf];exact z0s)
   obtain ⟨sl,e⟩:=I.base.slot L o ho (I.ok.frf L hL) hL λz=>I.ok.exfs L z hL;exact ⟨hk,⟨L,_,hf,hn,e,hd⟩,ih (λb hb=>hs b (by unfold frs;rw [j0u,hf];exact z0h _ hb)) hr⟩
 exact all X.outer (λ_ hb=>hb) I.ok.funs
theorem Inv.stack (I:Inv X pins σ H s):s.heap.FunFrames X.base X.stack:=by
 rcases I.ok.stk with e | ⟨e,hf⟩
 ·rw [e];exact I.funs
 ·rw [e]
  obtain ⟨m,hn,_⟩:=I.loc;refine .cons (by rw [I.ok.kind];decide) hf hn ?_ I.funs
  exact Heap.get?_none_of_le (z0p I.ok.bsz I.ok.above)
theorem Inv.stkSub (I:Inv X pins σ H s):∀ b ∈ frs X.stack,b ∈ X.env.locals :: X.fs:=λb hb=>by
 rcases I.ok.stk with e | ⟨e,hf⟩
 ·rw [e] at hb;exact z0h _ hb
 ·rw [e] at hb
  unfold frs at hb;rw [j0u,hf] at hb;exact hb
theorem Inv.stkFree (I:Inv X pins σ H s):∀ b ∈ frs X.stack,H b=none:=λb hb=>by
 rcases z0z.mp (I.stkSub b hb) with e | hb
 ·rw [e];exact I.free
 ·obtain ⟨_,o,ho,_⟩:=I.ok.funs.mem hb
  exact I.base.free b o ho (I.ok.frf b hb) λz=>I.ok.exfs b z hb
theorem Inv.step {g':Array GenState} {t':Nat} {d':Drawn} {ch:List Addr} (I:Inv X pins σ H s)
  (hch:∀ b ∈ ch,(b ∈ X.ex \/ X.s₀.heap.objs.size<=b)/\b ≠ X.env.locals/\(∀ x c,X.env.cells.lookup x=some c->c ≠ b)/\∀ p ∈ X.pn ++ pins,p.1 ≠ b)
  (keep:∀ b o,b ≠ X.env.locals->b ∉ X.fs->b ∉ ch->s.heap.get? b=some o->H b=none->h'.get? b=some o)
  (slot:∀ b o,b ≠ X.env.locals->b ∈ X.fs->b ∉ ch->s.heap.get? b=some o->H b=none->∃ sl,h'.get? b=some { o with slots:=sl }) (free:∀ b o,b ∉ ch->s.heap.get? b=some o->H b=none->H' b=none)
  (there:∀ b o,b ∉ ch->s.heap.get? b=some o->∃ o',h'.get? b=some o')
  (tups:∀ b xs,H b=some (.tup xs)->H' b=some (.tup xs)) (frzs:∀ b o u,H b=some (.frz o u)->H' b=some (.frz o u)) (tbls:∀ b ps,H b=some (.tbl ps)->∃ more,H' b=some (.tbl (ps ++ more)))
  (ns:∀ m,s.heap.Ns X.env.locals m->h'.Ns X.env.locals m) (hok:HOk X.prog X.w H' h') (hg:AllBare g') :
  Inv X pins σ H' { s with heap:=h',gens:=g',drawn:=d',toks:=t' }:=by
 have neL:∀ b o,X.s₀.heap.get? b=some o->b ≠ X.env.locals:=λb o e=>z0c (q0b (q0f e) I.ok.above)
 have neC:∀ b o,X.s₀.heap.get? b=some o->b ∉ X.ex->b ∉ ch:=λb o e hx hb=>by
  rcases (hch b hb).1 with z | z
  ·exact hx z
  ·exact absurd (q0b (q0f e) z) (y0v _)
 have cellK:∀ x c,X.env.cells.lookup x=some c->∀ v,s.heap.IsCell c v->h'.IsCell c v:=λx c e v ⟨o,ho,hd⟩=>by
  have nch:c ∉ ch:=λz=>(hch c z).2.2.1 x c e rfl
  by_cases hc:c ∈ X.fs
  ·obtain ⟨sl,q⟩:=slot c o (I.cne x c e) hc nch ho (I.freeC x c e)
   exact ⟨_,q,hd⟩
  ·exact ⟨o,keep c o (I.cne x c e) hc nch ho (I.freeC x c e),hd⟩
 refine ⟨I.ok,I.os,hg,⟨λb o e n hb hx=>?_,λb o e n hb hx=>?_,λb o e n hx=>?_,λb o e hx=>?_,λb xs e=>tups b xs (I.base.tups b xs e),λb o xs e=>frzs b o xs (I.base.frzs b o xs e),λb ps e=>?_⟩,?_,λx c e=>?_,?_,λx c e=>?_,λp hp=>?_,hok,I.len⟩
 ·exact keep b o (neL b o e) hb (neC b o e hx) (I.base.keep b o e n hb hx) (I.base.free b o e n hx)
 ·obtain ⟨sl,e1⟩:=I.base.slot b o e n hb hx
  obtain ⟨sl',e2⟩:=slot b _ (neL b o e) hb (neC b o e hx) e1 (I.base.free b o e n hx);exact ⟨sl',e2⟩
 ·obtain ⟨o',e1⟩:=I.base.there b o e hx
  exact free b o' (neC b o e hx) e1 (I.base.free b o e n hx)
 ·obtain ⟨o',e1⟩:=I.base.there b o e hx
  exact there b o' (neC b o e hx) e1
 ·obtain ⟨m1,e1⟩:=I.base.tbls b ps e
  obtain ⟨m2,e2⟩:=tbls b _ e1;exact ⟨m1 ++ m2,by rw [e2,Array.append_assoc]⟩
 ·obtain ⟨m,hn,hl⟩:=I.loc
  refine ⟨m,ns m hn,λi x v e1 e2 e3=>?_⟩;obtain ⟨u,r,l⟩:=hl i x v e1 e2 e3;refine ⟨u,r,?_⟩;rcases l with l | ⟨k,c,e,z⟩
  ·exact .inl l
  ·exact .inr ⟨k,c,e,cellK x c e _ z⟩
 ·obtain ⟨v,z⟩:=I.cell x c e
  exact ⟨v,cellK x c e v z⟩
 ·obtain ⟨m,⟨o,_,_,ho,_⟩,_⟩:=I.loc
  exact free _ o (λz=>(hch _ z).2.1 rfl) ho I.free
 ·obtain ⟨v,o,ho,hd⟩:=I.cell x c e
  exact free c o (λz=>(hch c z).2.2.1 x c e rfl) ho (I.freeC x c e)
 ·obtain ⟨e,n,ne,nf,d⟩:=I.pin p hp
  have nch:p.1 ∉ ch:=λz=>(hch p.1 z).2.2.2 p hp rfl;exact ⟨keep p.1 p.2 ne nf nch e n,free p.1 p.2 nch e n,ne,nf,d⟩
theorem Inv.un {t':Nat} (I:Inv X pins σ H s) (u:Un X.fs [] H H' s.heap h') (hok:HOk X.prog X.w H' h'):Inv X pins σ H' { s with heap:=h',toks:=t' }:=by
 obtain ⟨m,⟨o,es,ep,ho,r⟩,_⟩:=id I.loc;obtain ⟨sl,hL⟩:=u.any ho I.free (by simp)
 exact I.step (g':=s.gens) (d':=s.drawn) (ch:=[]) (λ_ z=>nomatch z) (λb o _ hb _ e n=>u.keep b o e n hb (by simp)) (λb o _ hb _ e n=>u.slot b o e n hb (by simp)) (λb o _ e n=>u.free b o e n (by simp)) (λb o _ e=>u.there b o e (by simp)) u.tups u.frzs u.tbls (λm' hm=>by
  obtain ⟨o',es',ep',ho',r'⟩:=hm;rw [ho] at ho';cases ho';exact ⟨_,es',ep',hL,r'⟩) hok I.bare
theorem Inv.call {g':Array GenState} {t':Nat} {d':Drawn} {ch:List Addr} (I:Inv X pins σ H s) (u:Un (frs X.stack) ch H H' s.heap h') (hok:HOk X.prog X.w H' h') (hg:AllBare g')
  (hch:∀ b ∈ ch,(b ∈ X.ex \/ X.s₀.heap.objs.size<=b)/\b ≠ X.env.locals/\(∀ x c,X.env.cells.lookup x=some c->c ≠ b)/\∀ p ∈ X.pn ++ pins,p.1 ≠ b) :
  Inv X pins σ H' { s with heap:=h',gens:=g',drawn:=d',toks:=t' }:=by
 obtain ⟨m,⟨o,es,ep,ho,r⟩,_⟩:=id I.loc;obtain ⟨sl,hL⟩:=u.any ho I.free λz=>(hch _ z).2.1 rfl
 exact I.step (ch:=ch) hch (λb o hL hb hc e n=>u.keep b o e n (λz=>(z0z.mp (I.stkSub b z)).elim hL hb) hc) (λb o _ _ hc e n=>u.any e n hc) (λb o hc e n=>u.free b o e n hc) (λb o hc e=>u.there b o e hc) u.tups u.frzs u.tbls (λm' hm=>by
  obtain ⟨o',es',ep',ho',r'⟩:=hm;rw [ho] at ho';cases ho';exact ⟨_,es',ep',hL,r'⟩) hok hg
theorem Inv.turned {t':Nat} {it:Addr} (I:Inv X pins σ H s) (k:∀ b o,b ≠ it->s.heap.get? b=some o->h'.get? b=some o) (hn:H it=none) (hL:it ≠ X.env.locals)
  (h1:it ∈ X.ex \/ X.s₀.heap.objs.size<=it) (h2:∀ x c,X.env.cells.lookup x=some c->c ≠ it) (h3:∀ p ∈ X.pn ++ pins,p.1 ≠ it):Inv X pins σ H { s with heap:=h',toks:=t' }:=by
 have nit:∀ b u,H b=some u->b ≠ it:=λb u e z=>by rw [z,hn] at e;cases e
 refine I.step (g':=s.gens) (d':=s.drawn) (ch:=[it]) (λb hb=>?_) (λb o _ _ hc e _=>k b o (λz=>hc (by simp [z])) e) (λb o _ _ hc e _=>⟨o.slots,k b o (λz=>hc (by simp [z])) e⟩) (λ_ _ _ _ n=>n)
  (λb o hc e=>⟨o,k b o (λz=>hc (by simp [z])) e⟩) (λ_ _ e=>e) (λ_ _ _ e=>e) (λb ps e=>⟨#[],by rw [e];simp⟩) (λm hm=>?_) (λb u e=>?_) I.bare
 ·have e:b=it:=by simpa using hb
  subst e;exact ⟨h1,hL,h2,h3⟩
 ·obtain ⟨o,es,ep,ho,r⟩:=hm
  exact ⟨o,es,ep,k _ o (Ne.symm hL) ho,r⟩
 ·refine (I.hok b u e).stay (λc v hc q=>k c v ?_ q) (λ_ q=>q) λ_ _ q=>q
  rcases hc with z | z
  ·rw [z];exact nit b u e
  ·exact nit c _ z
theorem Inv.tok (I:Inv X pins σ H s) (t:Nat):Inv X pins σ H { s with toks:=t }:=I.un (h':=s.heap) (t':=t) Un.refl I.hok
theorem Inv.kept {t':Nat} (I:Inv X pins σ H s) (k:∀ b u,s.heap.get? b=some u->h'.get? b=some u):Inv X pins σ H { s with heap:=h',toks:=t' }:=I.un (Un.kept k) (I.hok.kept k)
theorem Inv.laid {a:Addr} {o:HO} {t':Nat} (I:Inv X pins σ H s) (k:∀ b u,s.heap.get? b=some u->h'.get? b=some u) (hp:s.heap.objs.size<=a) (new:C2 X.prog X.w (upd H a o) h' a o) :
  Inv X pins σ (upd H a o) { s with heap:=h',toks:=t' }:=I.un (Un.laid k hp (I.hok.fresh hp)) (I.hok.laid k hp new)
theorem Inv.write {x e:Addr} {o:HO} {t':Nat} (I:Inv X pins σ H s) (mu:Mut (H x)) (he:e=x \/ H e=some (.own x)) (k:∀ b u,b ≠ e->s.heap.get? b=some u->h'.get? b=some u) (heo:∃ u,h'.get? e=some u)
  (new:C2 X.prog X.w (upd H x o) h' x o):Inv X pins σ (upd H x o) { s with heap:=h',toks:=t' }:=I.un (Un.write mu he k heo) (I.hok.write mu he k heo new)
theorem Inv.weak {σ':List (Option V)} (I:Inv X pins σ H s) (hl:σ'.length=σ.length) (w:∀ (i:Nat) v,σ'[i]? = some (some v)->σ[i]? = some (some v)):Inv X pins σ' H s :=
 ⟨I.ok,I.os,I.bare,I.base,let ⟨m,hn,hl'⟩:=I.loc;⟨m,hn,λi x v e1 e2 e3=>hl' i x v e1 (w i v e2) e3⟩,I.cell,I.free,I.freeC,I.pin,I.hok,hl.trans I.len⟩
theorem Inv.pins_of {pins':List (Addr × Obj)} (I:Inv X pins σ H s) (h:∀ p ∈ pins',s.heap.get? p.1=some p.2/\H p.1=none/\p.1 ≠ X.env.locals/\p.1 ∉ X.fs/\∀ v,p.2.data ≠ .cell v):Inv X pins' σ H s :=
 ⟨I.ok,I.os,I.bare,I.base,I.loc,I.cell,I.free,I.freeC,λp hp=>(u0e.mp hp).elim (λz=>I.pin p (g0g _ z)) (h p),I.hok,I.len⟩
theorem aI6 {N:List Str} (hN:N.Nodup) {i j:Nat} {x:Str} (a:N[i]? = some x) (b:N[j]? = some x):i=j:=by
 obtain ⟨h1,e1⟩:=z0f.mp a;obtain ⟨h2,e2⟩:=z0f.mp b;exact (List.getElem_inj hN).mp (e1.trans e2.symm)
theorem aV3 {M:Model} {A:Around} {E:Value->Shared->Prop} {i:Nat} {x:Str} {v:V} {u:Value} {Q:Unit->Shared->Prop} (I:Inv X pins σ H s) (hN:X.N.Nodup) (hi:X.N[i]? = some x) (hx:Loc X.env.scope x) (r:u0 v u)
  (h:∀ s',Inv X pins (σ.set i (some v)) H s'->(∃ a,g0h a s.heap s'.heap/\(a=X.env.locals \/ X.env.cells.lookup x=some a))->Q () s') (hf:X.fn x=true \/ X.env.scope.names.lookup x=some .local:=by first | exact .inl rfl | exact .inr rfl | assumption):wpAny M A (storeName X.env x u) Q E s:=by
 obtain ⟨m,hn,hl⟩:=id I.loc;have hcls:(X.env.scope.kind == .class || (X.env.scope.kind == .module && X.env.locals != X.env.globals))=false:=by rw [I.ok.kind];rfl
 have hiσ:i<σ.length:=by rw [I.len];exact (z0f.mp hi).1
 have cne:=I.cne
 have tracked:∀ {a:Addr} {h':Heap},(∃ o,s.heap.get? a=some o/\H a=none)->g0h a s.heap h'->HOk X.prog X.w H h':=fun {a h'} ha hs b ob e=>by
  obtain ⟨_,_,hfree⟩:=ha;refine (I.hok b ob e).stay (λc w' hc q=>(hs.2 c ?_).trans q) (λ_ q=>q) λ_ _ q=>q;rintro rfl;rcases hc with rfl | hc
  ·rw [hfree] at e;cases e
  ·rw [hfree] at hc;cases hc
 rcases hx with hk | hk
 ·refine wpAny_storeName_local hk hn (λh' hn' hs=>?_) hcls
  obtain ⟨oL,_,_,hoL,_⟩:=id hn;refine h _ ⟨I.ok,I.os,I.bare,⟨λb o e n hb hx=>?_,λb o e n hb hx=>?_,I.base.free,λb o e hx=>?_,I.base.tups,I.base.frzs,I.base.tbls⟩,⟨_,hn',λj y v' e1 e2 e3=>?_⟩,λy c e=>?_,I.free,I.freeC,λp hp=>?_,tracked ⟨oL,hoL,I.free⟩ hs,by simpa using I.len⟩ ⟨_,hs,.inl rfl⟩
  ·exact (hs.2 b (z0c (q0b (q0f e) I.ok.above))).trans (I.base.keep b o e n hb hx)
  ·obtain ⟨sl,e1⟩:=I.base.slot b o e n hb hx
   exact ⟨sl,(hs.2 b (z0c (q0b (q0f e) I.ok.above))).trans e1⟩
  ·obtain ⟨o',e1⟩:=I.base.there b o e hx
   exact ⟨o',(hs.2 b (z0c (q0b (q0f e) I.ok.above))).trans e1⟩
  ·by_cases hj:j=i
   ·subst hj
    rw [hi] at e1;cases e1;rw [q1q hiσ] at e2
    cases e2
    exact ⟨u,r,.inl ⟨hk,by simp⟩⟩
   ·rw [q1x (Ne.symm hj)] at e2
    obtain ⟨u',r',q⟩:=hl j y v' e1 e2 e3;refine ⟨u',r',?_⟩;rcases q with ⟨k,e⟩ | ⟨k,c,e,z⟩
    ·refine .inl ⟨k,?_⟩
     have:y ≠ x:=λe=>hj (aI6 hN e1 (e ▸ hi))
     simp [this,e]
    ·exact .inr ⟨k,c,e,z.sameBut hs (cne y c e)⟩
  ·obtain ⟨w',z⟩:=I.cell y c e
   exact ⟨w',z.sameBut hs (cne y c e)⟩
  ·obtain ⟨e,n,ne,nf,d⟩:=I.pin p hp
   exact ⟨(hs.2 p.1 ne).trans e,n,ne,nf,d⟩
 ·have hfn:X.fn x=true:=by
   rcases hf with z | z
   ·exact z
   ·rw [z] at hk;cases hk
  obtain ⟨c,hc⟩:=I.ok.has x (.inl hk);obtain ⟨w',z⟩:=I.cell x c hc;refine wpAny_storeName_cell I.ok.kind hk hc z (λh' hc' hs=>?_);obtain ⟨oc,hoc,hocd⟩:=id z;refine h { s with heap:=h' } ⟨I.ok,I.os,I.bare,⟨λb o e n hb hx=>?_,λb o e n hb hx=>?_,I.base.free,λb o e hx=>?_,I.base.tups,I.base.frzs,I.base.tbls⟩,⟨m,hn.sameBut hs (Ne.symm (cne x c hc)),λj y v' e1 e2 e3=>?_⟩,λy c' e=>?_,I.free,I.freeC,λp hp=>?_,tracked ⟨oc,hoc,I.freeC x c hc⟩ hs,by simpa using I.len⟩ ⟨c,hs,.inr hc⟩
  ·exact (hs.2 b (z0c (q0b (q0f e) (I.ok.cab x c hfn hc)))).trans (I.base.keep b o e n hb hx)
  ·obtain ⟨sl,e1⟩:=I.base.slot b o e n hb hx
   exact ⟨sl,(hs.2 b (z0c (q0b (q0f e) (I.ok.cab x c hfn hc)))).trans e1⟩
  ·obtain ⟨o',e1⟩:=I.base.there b o e hx
   exact ⟨o',(hs.2 b (z0c (q0b (q0f e) (I.ok.cab x c hfn hc)))).trans e1⟩
  ·by_cases hj:j=i
   ·subst hj
    rw [hi] at e1;cases e1;rw [q1q hiσ] at e2
    cases e2
    exact ⟨u,r,.inr ⟨.inl hk,c,hc,hc'⟩⟩
   ·rw [q1x (Ne.symm hj)] at e2
    obtain ⟨u',r',q⟩:=hl j y v' e1 e2 e3;refine ⟨u',r',?_⟩;rcases q with q | ⟨k,c',e,z'⟩
    ·exact .inl q
    ·refine .inr ⟨k,c',e,z'.sameBut hs ?_⟩
     rintro rfl;exact hj (aI6 hN e1 (I.ok.inj _ _ _ e hc ▸ hi))
  ·by_cases hcc:c'=c
   ·subst hcc;exact ⟨_,hc'⟩
   ·obtain ⟨w2,z2⟩:=I.cell y c' e
    exact ⟨w2,z2.sameBut hs hcc⟩
  ·obtain ⟨e,n,ne,nf,d⟩:=I.pin p hp
   refine ⟨(hs.2 p.1 ?_).trans e,n,ne,nf,d⟩;intro q;rw [q,hoc] at e;have q':oc=p.2:=Option.some.inj e;exact d w' (by rw [<- q'];exact hocd)
theorem U4 {M:Model} {A:Around} {E:Value->Shared->Prop} {i:Nat} {x:Str} {v:V} {u:Value} {Q:Unit->Shared->Prop} (I:Inv X pins σ H s) (hN:X.N.Nodup) (hi:X.N[i]? = some x) (hx:Loc X.env.scope x) (r:u0 v u)
  (h:∀ s',Inv X pins (σ.set i (some v)) H s'->Q () s') (hf:X.fn x=true \/ X.env.scope.names.lookup x=some .local:=by first | exact .inl rfl | exact .inr rfl | assumption):wpAny M A (storeName X.env x u) Q E s :=
 aV3 I hN hi hx r (λs' I' _=>h s' I') hf
theorem Inv.call' {s':Shared} {ch:List Addr} (I:Inv X pins σ H s) (ho:s'.os=s.os) (u:Un (frs X.stack) ch H H' s.heap s'.heap) (hok:HOk X.prog X.w H' s'.heap) (hg:AllBare s'.gens)
  (hch:∀ b ∈ ch,(b ∈ X.ex \/ X.s₀.heap.objs.size<=b)/\b ≠ X.env.locals/\(∀ x c,X.env.cells.lookup x=some c->c ≠ b)/\∀ p ∈ X.pn ++ pins,p.1 ≠ b):Inv X pins σ H' s':=by
 obtain ⟨h',g',d',t',o'⟩:=s';have e:o'=s.os:=ho;subst e;exact I.call (g':=g') (t':=t') (d':=d') u hok hg hch
end
abbrev XK:=Value->Option Addr->Hp->Prop
abbrev St:=List (Option V)
abbrev VK:=V->Hp->Prop
abbrev TE:=St->Hp->VK->Prop
abbrev TT:=St->Hp->(Bool->Hp->Prop)->Prop
abbrev TA:=St->Hp->(List V->Hp->Prop)->Prop
structure aa0 where
 nx:St->Hp->Prop
 rt:VK
 bk:St->Hp->Prop:=λ_ _=>False
 ct:St->Hp->Prop:=λ_ _=>False
abbrev TS:=aa0->St->Hp->Prop
def EP (X:Cx) (pins:List (Addr × Obj)) (σ:St) (Q:VK) (u:Value) (s':Shared):Prop:=∃ v H',Inv X pins σ H' s'/\u0 v u/\Q v H'
def TP (X:Cx) (pins:List (Addr × Obj)) (σ:St) (Q:Bool->Hp->Prop) (b:Bool) (s':Shared):Prop:=∃ H',Inv X pins σ H' s'/\Q b H'
def AP (X:Cx) (pins:List (Addr × Obj)) (σ:St) (Q:List V->Hp->Prop) (us:List Value) (s':Shared):Prop:=∃ vs H',Inv X pins σ H' s'/\j8 vs us/\Q vs H'
def SP (X:Cx) (pins:List (Addr × Obj)) (D:aa0) (f:Flow) (s':Shared):Prop :=
 match f with
 | .next => ∃ σ' H',Inv X pins σ' H' s'/\D.nx σ' H'
 | .brk => ∃ σ' H',Inv X pins σ' H' s'/\D.bk σ' H'
 | .cont => ∃ σ' H',Inv X pins σ' H' s'/\D.ct σ' H'
 | .ret u => ∃ v σ' H',Inv X pins σ' H' s'/\u0 v u/\D.rt v H'
def PE (X:Cx) (e:Expr) (t:TE):Prop :=
 ∀ (pins:List (Addr × Obj)) (s:Shared) (σ:St) (H:Hp) (Q:VK),Inv X pins σ H s->t σ H Q->wpAny (model X.prog X.w) X.A (eval e X.env) (EP X pins σ Q) X.xe s
def PT (X:Cx) (e:Expr) (t:TT):Prop :=
 ∀ (pins:List (Addr × Obj)) (s:Shared) (σ:St) (H:Hp) (Q:Bool->Hp->Prop),Inv X pins σ H s->t σ H Q->wpAny (model X.prog X.w) X.A (isTrue e X.env (eval e X.env)) (TP X pins σ Q) X.xe s
def PW (X:Cx) (e:Expr) (t:TT):Prop :=
 ∀ (whole:Sem Value) (pins:List (Addr × Obj)) (s:Shared) (σ:St) (H:Hp) (Q:Bool->Hp->Prop),Inv X pins σ H s->t σ H Q->wpAny (model X.prog X.w) X.A (isTrue e X.env whole) (TP X pins σ Q) X.xe s
theorem PW.pt {X:Cx} {e:Expr} {t:TT} (h:PW X e t):PT X e t:=h _
def PA (X:Cx) (es:List Expr) (t:TA):Prop :=
 ∀ (pos:Pos) (pins:List (Addr × Obj)) (s:Shared) (σ:St) (H:Hp) (Q:List V->Hp->Prop),Inv X pins σ H s->t σ H Q->wpAny (model X.prog X.w) X.A (spliced (backTo pos (starEach es X.env))) (AP X pins σ Q) X.xe s
def PS (X:Cx) (st:Stmt) (t:TS):Prop :=
 ∀ (pins:List (Addr × Obj)) (s:Shared) (σ:St) (H:Hp) (D:aa0),Inv X pins σ H s->t D σ H->wpAny (model X.prog X.w) X.A (exec st X.env) (SP X pins D) X.xe s
def PSs (X:Cx) (st:List Stmt) (t:TS):Prop :=
 ∀ (pins:List (Addr × Obj)) (s:Shared) (σ:St) (H:Hp) (D:aa0),Inv X pins σ H s->t D σ H->wpAny (model X.prog X.w) X.A (execs st X.env) (SP X pins D) X.xe s
theorem thn {α:Type} {t:Sem α} {Q Q':α->Shared->Prop} {M:Model} {A:Around} {E:Value->Shared->Prop} {s:Shared} (h:wpAny M A t Q E s) (hQ:∀ a s,Q a s->Q' a s):wpAny M A t Q' E s:=wpAny_mono h hQ λ_ _ x=>x
section
variable {X:Cx}
def ak7 (i:Nat):TE:=λσ H Q => ∃ v,σ[i]? = some (some v)/\Q v H
def tC (v:V):TE:=λ_ H Q=>Q v H
theorem bu5 {i:Nat} {x:Str} {pos:Pos} (hN:X.N[i]? = some x) (hv:Vis X.env.scope x) (hd:(x == ("__debug__" : Str))=false:=by decide) (hcd:(x == ("__classdict__" : Str))=false:=by decide):PE X (.Name x pos) (ak7 i):=by
 intro pins s σ H Q I h;obtain ⟨v,e,h⟩:=h;obtain ⟨m,hn,hl⟩:=I.loc;obtain ⟨u,r,l⟩:=hl i x v hN e hv;have fin:EP X pins σ Q u s:=⟨v,H,I,r,h⟩;rcases l with ⟨hk,hm⟩ | ⟨hk,c,hc,hcell⟩
 ·exact wpAny_Name (wpAny_loadName_local I.ok.kind hk hn hm fin) hd
 ·rcases hk with hk | hk
  ·exact wpAny_Name (wpAny_loadName_cell I.ok.kind hk hc hcell fin) hd
  ·exact wpAny_Name (wpAny_loadName_free I.ok.kind hk hc hcell fin hcd) hd
theorem a9 {i j pos}:PE X (.Constant (.int i) j pos) (tC (.int i)):=λ_ _ _ H _ I h=>wpAny_Constant_int ⟨.int i,H,I.tok _,⟨_,rfl⟩,h⟩
theorem M4 {b j pos}:PE X (.Constant (.bool b) j pos) (tC (.bl b)):=λ_ _ _ H _ I h=>Constant_bool ⟨.bl b,H,I,rfl,h⟩
theorem al1 {j pos}:PE X (.Constant .none j pos) (tC .non):=λ_ _ _ H _ I h=>Constant_none ⟨.non,H,I,rfl,h⟩
theorem Y6 {x j pos}:PE X (.Constant (.str x) j pos) (tC (.str x)):=λ_ _ _ H _ I h=>Calls.Constant_str ⟨.str x,H,I.tok _,⟨_,rfl⟩,h⟩
def Gl (X:Cx) (x:Str):Prop:=X.env.kindOf x=some .globalImplicit
theorem aj7 {E:Value->Shared->Prop} {pins:List (Addr × Obj)} {s:Shared} {σ:St} {H:Hp} {x:Str} {u:Value} {pos:Pos} {Q:Value->Shared->Prop} (I:Inv X pins σ H s) (hg:Gl X x) (hm:X.mg x=some u) (h:Q u s)
  (hd:(x == ("__debug__" : Str))=false:=by decide):wpAny (model X.prog X.w) X.A (eval (.Name x pos) X.env) Q E s :=
 Calls.Name_function_global I.ok.kind hg (Calls.loadGlobal_global (by rw [I.ok.glob];exact I.mod.glob.keeps I.bk) hm h) hd
theorem U2 {E:Value->Shared->Prop} {pins:List (Addr × Obj)} {s:Shared} {σ:St} {H:Hp} {x:Str} {u:Value} {pos:Pos} {Q:Value->Shared->Prop} (I:Inv X pins σ H s) (hg:Gl X x) (hm:X.mg x=none) (hv:bootBuiltins x=some u) (h:Q u s)
  (hn:x ≠ "__name__" := by decide) (hd:(x == ("__debug__" : Str))=false:=by decide):wpAny (model X.prog X.w) X.A (eval (.Name x pos) X.env) Q E s:=by
 obtain ⟨mb,h1,h2⟩:=I.mod.blt;exact Calls.Name_function_global I.ok.kind hg (Calls.loadGlobal_builtin (by rw [I.ok.glob];exact I.mod.glob.keeps I.bk) hm (by rw [I.ok.blt];exact h1.keeps I.bk) ((h2 x hn).trans hv) h) hd
theorem y0 {x:Str} {v:V} {u:Value} {pos:Pos} (hg:Gl X x) (hm:X.mg x=some u) (r:u0 v u) (hd:(x == ("__debug__" : Str))=false:=by decide):PE X (.Name x pos) (tC v) :=
 λ_ _ _ H _ I h=>aj7 I hg hm ⟨v,H,I,r,h⟩ hd
theorem aj0 {x:Str} {v:V} {u:Value} {pos:Pos} (hg:Gl X x) (hm:X.mg x=none) (hv:bootBuiltins x=some u) (r:u0 v u) (hn:x ≠ "__name__" := by decide) (hd:(x == ("__debug__" : Str))=false:=by decide):PE X (.Name x pos) (tC v) :=
 λ_ _ _ H _ I h=>U2 I hg hm hv ⟨v,H,I,r,h⟩ hn hd
variable {a b:Expr} {ta tb:TE} {pos:Pos}
def PC (X:Cx) (op:CmpOp) (a b:Expr) (t:TE):Prop :=
 ∀ (pins:List (Addr × Obj)) (s:Shared) (σ:St) (H:Hp) (Q:VK),Inv X pins σ H s->t σ H Q ->
  wpAny (model X.prog X.w) X.A (eval a X.env) (λv s₁=>wpAny (model X.prog X.w) X.A (eval b X.env) (λu s₂=>wpAny (model X.prog X.w) X.A (compareOp op v u) (EP X pins σ Q) X.xe s₂) X.xe s₁) X.xe s
def tB (t:TE):TT:=λσ H Q=>t σ H λx H1 => ∃ c,x=.bl c/\Q c H1
theorem E4 {e:Expr} {t:TE} (h:PE X e t) (he:∀ whole,isTrue e X.env whole=(do let v <- whole;standAt e.pos;holding [v] (truthy v)):=by intro _;rfl):PT X e (tB t):=by
 intro pins s σ H Q I hw;refine isTrue_plain (thn (h pins s σ H _ I hw) λv s1 zq=>?_) (he _);obtain ⟨x,H1,I1,r1,q1⟩:=zq;obtain ⟨d,rfl,q⟩:=q1
 cases r1
 exact wpAny_truthy_bool ⟨H1,I1,q⟩
variable {tA tB':TT} {ao0:List Expr}
def bs5 (t u:TT):TT:=λσ H Q=>t σ H λc H1=>if c=true then u σ H1 Q else Q false H1
def tOr (t u:TT):TT:=λσ H Q=>t σ H λc H1=>if c=true then Q true H1 else u σ H1 Q
def bs0 (t:TT):TT:=λσ H Q=>t σ H λc H1=>Q (!c) H1
theorem aB9 (ha:PT X a tA):PW X (.BoolOp .And [a] pos) tA:=by
 intro wh pins s σ H Q I h;refine isTrue_and (thn (ha pins s σ H Q I h) λc s1 e=>?_)
 cases c with
 | true=>exact isTrue_and_nil e
 | false=>exact e
theorem Y1 (ha:PT X a tA):PW X (.BoolOp .Or [a] pos) tA:=by
 intro wh pins s σ H Q I h;refine isTrue_or (thn (ha pins s σ H Q I h) λc s1 e=>?_)
 cases c with
 | false=>exact isTrue_or_nil e
 | true=>exact e
theorem aM5 (ha:PT X a tA) (hb:PW X (.BoolOp .And (b :: ao0) pos) tB'):PW X (.BoolOp .And (a :: b :: ao0) pos) (bs5 tA tB'):=by
 intro wh pins s σ H Q I h;refine isTrue_and (thn (ha pins s σ H _ I h) λc s1 zq=>?_);obtain ⟨H1,I1,q1⟩:=zq
 cases c with
 | true=>exact hb wh pins s1 σ H1 Q I1 q1
 | false=>exact ⟨H1,I1,q1⟩
theorem T8 (ha:PT X a tA) (hb:PW X (.BoolOp .Or (b :: ao0) pos) tB'):PW X (.BoolOp .Or (a :: b :: ao0) pos) (tOr tA tB'):=by
 intro wh pins s σ H Q I h;refine isTrue_or (thn (ha pins s σ H _ I h) λc s1 zq=>?_);obtain ⟨H1,I1,q1⟩:=zq
 cases c with
 | true=>exact ⟨H1,I1,q1⟩
 | false=>exact hb wh pins s1 σ H1 Q I1 q1
theorem N1 (ha:PT X a tA):PT X (.UnaryOp .Not a pos) (bs0 tA):=by
 intro pins s σ H Q I h;exact isTrue_not (ha pins s σ H (λc H1=>Q (!c) H1) I h)
def ba7 (ta tb:TE):TE:=λσ H Q=>ta σ H λx H1 => ∃ c,x=.bl c/\if c=true then tb σ H1 Q else Q (.bl false) H1
def ba1 (ta:TE):TE:=λσ H Q=>ta σ H λx H1 => ∃ c,x=.bl c/\Q (.bl (!c)) H1
theorem aM9 {op} {t:TE} (h:PE X a t):PE X (.BoolOp op [a] pos) t:=λpins s σ H Q I hw=>BoolOp_one (h pins s σ H Q I hw)
theorem aN0 (ha:PE X a ta) (hb:PE X (.BoolOp .And (b :: ao0) pos) tb):PE X (.BoolOp .And (a :: b :: ao0) pos) (ba7 ta tb):=by
 intro pins s σ H Q I h;refine BoolOp_and (thn (ha pins s σ H _ I h) λv s1 zq=>?_);obtain ⟨x,H1,I1,r1,q1⟩:=zq;obtain ⟨c,rfl,q1⟩:=q1
 cases r1
 refine wpAny_truthy_bool ?_
 cases c with
 | true=>exact hb pins s1 σ H1 Q I1 q1
 | false=>exact ⟨.bl false,H1,I1,rfl,q1⟩
theorem bc6 (ha:PE X a ta):PE X (.UnaryOp .Not a pos) (ba1 ta):=by
 intro pins s σ H Q I h;refine UnaryOp_ (thn (ha pins s σ H _ I h) λv s1 zq=>?_);obtain ⟨x,H1,I1,r1,q1⟩:=zq;obtain ⟨c,rfl,q1⟩:=q1
 cases r1
 exact not_of (wpAny_truthy_bool ⟨.bl (!c),H1,I1,rfl,q1⟩)
def tIf (t:TT) (ta tb:TE):TE:=λσ H Q=>t σ H λc H1=>if c=true then ta σ H1 Q else tb σ H1 Q
theorem aH9 {c:Expr} (hc:PT X c tA) (ha:PE X a ta) (hb:PE X b tb):PE X (.IfExp c a b pos) (tIf tA ta tb):=by
 intro pins s σ H Q I h;refine wpAny_IfExp (thn (hc pins s σ H _ I h) λd s1 zq=>?_);obtain ⟨H1,I1,q1⟩:=zq
 cases d with
 | true=>exact ha pins s1 σ H1 Q I1 q1
 | false=>exact hb pins s1 σ H1 Q I1 q1
end
def SqL (K:q0a) (H:Hp) (a:Addr) (xs:List V):Prop :=
 Rd H a (.lst xs) \/
  ∃ (o:Obj) (its:Array Value) (n:Nat),K.lookup a=some o/\o.cls=.type "list"/\o.dict=none/\o.data=.seq its n/\its.size<=sizeLine/\j8 xs its.toList
def SqT (K:q0a) (H:Hp) (a:Addr) (xs:List V):Prop :=
 Rd H a (.tup xs) \/
  ∃ (o:Obj) (its:Array Value) (n:Nat),K.lookup a=some o/\o.cls=.type "tuple"/\o.data=.seq its n/\its.size<=sizeLine/\j8 xs its.toList
def bE1:Value->Option V
 | .none=>some .non
 | .bool b=>some (.bl b)
 | .int i _=>some (.int i)
 | .str x _=>some (.str x)
 | .bytes b _=>some (.byt b)
 | .float b _=>some (.flt b)
 | .ref a=>some (.ref a)
 | .type n=>some (.ty n)
 | _=>none
theorem u0.abs {x:V} {u:Value} (r:u0 x u):bE1 u=some x:=by
 cases x with
 | non=>cases r;rfl
 | bl _=>cases r;rfl
 | int _=>obtain ⟨t,rfl⟩:=r;rfl
 | str _=>obtain ⟨t,rfl⟩:=r;rfl
 | byt _=>obtain ⟨t,rfl⟩:=r;rfl
 | flt _=>obtain ⟨t,rfl⟩:=r;rfl
 | ref _=>cases r;rfl
 | ty _=>cases r;rfl
theorem u0.inj {x y:V} {u:Value} (r:u0 x u) (q:u0 y u):x=y:=Option.some.inj (r.abs.symm.trans q.abs)
theorem j8.inj:∀ {xs ys:List V} {us:List Value},j8 xs us->j8 ys us->xs=ys
 | _,_,_,.nil,.nil=>rfl
 | _,_,_,.cons r t,.cons r' t'=>by rw [r.inj r',j8.inj t t']
section
variable {X:Cx} {pins:List (Addr × Obj)} {σ:St} {H:Hp} {s:Shared} {a:Addr} {xs ys:List V}
theorem SqL.of {K:q0a} (h:H a=some (.lst xs)):SqL K H a xs:=.inl (.inl h)
theorem SqT.of {K:q0a} (h:H a=some (.tup xs)):SqT K H a xs:=.inl (.inl h)
theorem Inv.list (I:Inv X pins σ H s) (h:SqL X.K H a xs):∃ its:List Value,j8 xs its/\PlainL s.heap a its.toArray/\xs.length<=sizeLine:=by
 rcases h with h | ⟨o,its,n,hk,hc,hd,hs,hz,r⟩
 ·obtain ⟨z,its,n,r,e⟩:=h.ok I.hok
  exact ⟨its,r,⟨_,n,e,rfl,rfl,rfl⟩,z⟩
 ·refine ⟨its.toList,r,⟨o,n,I.kIn a o hk,hc,hd,by simpa using hs⟩,?_⟩
  have e:=r.length;simp only [z1d] at e;omega
theorem Inv.tuple (I:Inv X pins σ H s) (h:SqT X.K H a xs):∃ its:List Value,j8 xs its/\IsTup s.heap a its.toArray/\xs.length<=sizeLine:=by
 rcases h with h | ⟨o,its,n,hk,hc,hs,hz,r⟩
 ·obtain ⟨z,its,r,p⟩:=h.ok I.hok
  exact ⟨its,r,p,z⟩
 ·refine ⟨its.toList,r,⟨o,I.kIn a o hk,hc,n,by simpa using hs⟩,?_⟩
  have e:=r.length;simp only [z1d] at e;omega
theorem Inv.list_inj (I:Inv X pins σ H s) (h:SqL X.K H a xs) (h':SqL X.K H a ys):xs=ys:=by
 obtain ⟨its,r,⟨o,n,e,_,_,d⟩,_⟩:=I.list h;obtain ⟨its',r',⟨o',n',e',_,_,d'⟩,_⟩:=I.list h';rw [e] at e';cases e';rw [d] at d'
 injection d' with d1 _
 have:its=its':=by simpa using congrArg Array.toList d1
 subst this;exact r.inj r'
theorem Inv.tuple_inj (I:Inv X pins σ H s) (h:SqT X.K H a xs) (h':SqT X.K H a ys):xs=ys:=by
 obtain ⟨its,r,⟨o,e,_,n,d⟩,_⟩:=I.tuple h;obtain ⟨its',r',⟨o',e',_,n',d'⟩,_⟩:=I.tuple h';rw [e] at e';cases e';rw [d] at d'
 injection d' with d1 _
 have:its=its':=by simpa using congrArg Array.toList d1
 subst this;exact r.inj r'
end
abbrev Cx.wish (X:Cx) (E:Value->Shared->Prop):Cx:={ X with xe:=E }
abbrev Cx.nox (X:Cx):Cx:=X.wish λ_ _=>False
theorem Cx.Ok.wish {X:Cx} (ok:X.Ok) (E:Value->Shared->Prop):(X.wish E).Ok :=
 ⟨ok.mod,ok.kind,ok.glob,ok.blt,ok.above,ok.inj,ok.has,ok.cab,ok.hd,ok.frames,ok.stk,ok.exf,ok.bs,ok.bsz,ok.noex,ok.exfs,ok.funs,ok.frf⟩
theorem Cx.Ok.unwish {X:Cx} {E:Value->Shared->Prop} (ok:(X.wish E).Ok):X.Ok :=
 ⟨ok.mod,ok.kind,ok.glob,ok.blt,ok.above,ok.inj,ok.has,ok.cab,ok.hd,ok.frames,ok.stk,ok.exf,ok.bs,ok.bsz,ok.noex,ok.exfs,ok.funs,ok.frf⟩
section
variable {X:Cx} {pins:List (Addr × Obj)} {σ:St} {H:Hp} {s:Shared} {E:Value->Shared->Prop}
theorem Inv.wish (I:Inv X pins σ H s) (E:Value->Shared->Prop):Inv (X.wish E) pins σ H s:=⟨I.ok.wish E,I.os,I.bare,I.base,I.loc,I.cell,I.free,I.freeC,I.pin,I.hok,I.len⟩
theorem Inv.unwish (I:Inv (X.wish E) pins σ H s):Inv X pins σ H s:=⟨I.ok.unwish,I.os,I.bare,I.base,I.loc,I.cell,I.free,I.freeC,I.pin,I.hok,I.len⟩
theorem SP.unwish {D:aa0} {f:Flow} {s':Shared} (h:SP (X.wish E) pins D f s'):SP X pins D f s':=by
 cases f with
 | next=>obtain ⟨σ',H',I,q⟩:=h;exact ⟨σ',H',I.unwish,q⟩
 | brk=>obtain ⟨σ',H',I,q⟩:=h;exact ⟨σ',H',I.unwish,q⟩
 | cont=>obtain ⟨σ',H',I,q⟩:=h;exact ⟨σ',H',I.unwish,q⟩
 | ret u=>obtain ⟨v,σ',H',I,r,q⟩:=h;exact ⟨v,σ',H',I.unwish,r,q⟩
theorem PSs.nox {st:List Stmt} {t:TS} (h:PSs X.nox st t):PSs X st t:=λpins s σ H D I hw =>
 wpAny_mono (h pins s σ H D (I.wish _) hw) (λ_ _ q=>q.unwish) λ_ _ z=>False.elim z
end
section
variable {X:Cx} {st:Stmt} {ao0:List Stmt} {t u:TS} {e:Expr} {te:TE} {pos:Pos}
def ba2:TS:=λD σ H=>D.nx σ H
def bj7 (t u:TS):TS:=λD σ H=>t { D with nx:=u D } σ H
theorem o0:PSs X [] ba2:=λ_ _ σ H _ I h=>wpAny_execs_nil ⟨σ,H,I,h⟩
theorem b7 (h1:PS X st t) (h2:PSs X ao0 u):PSs X (st :: ao0) (bj7 t u):=by
 intro pins s σ H D I h;refine wpAny_execs_cons (thn (h1 pins s σ H { D with nx:=u D } I h) λf s1 q=>?_)
 cases f with
 | next =>
  obtain ⟨σ',H',I',q⟩:=q;exact h2 pins s1 σ' H' D I' q
 | ret v=>exact q
 | brk=>exact q
 | cont=>exact q
theorem c5 (h1:PS X st t):PSs X [st] t:=by
 intro pins s σ H D I h;refine wpAny_execs_cons (thn (h1 pins s σ H D I h) λf s1 q=>?_)
 cases f with
 | next=>exact wpAny_execs_nil q
 | ret v=>exact q
 | brk=>exact q
 | cont=>exact q
theorem Inv.quiet {pins:List (Addr × Obj)} {σ:St} {H:Hp} {s:Shared} (I:Inv X pins σ H s):interactive X.env=false:=by simp [interactive,I.ok.kind]
def ba3 (te:TE):TS:=λD σ H=>te σ H λ_ H1=>D.nx σ H1
theorem aR0 (he:PE X e te) (hs:swapsWith e none pos.line X.env=pure false:=by rfl):PS X (.Expr e pos) (ba3 te):=by
 intro pins s σ H D I h;exact wpAny_Expr_any (thn (he pins s σ H _ I h) λv s1 ⟨x,H1,I1,r1,q1⟩=>⟨σ,H1,I1,q1⟩) I.quiet hs
def bj8 (te:TE):TS:=λD σ H=>te σ H D.rt
theorem i5 (he:PE X e te):PS X (.Return (some e) pos) (bj8 te):=by
 intro pins s σ H D I h;exact wpAny_Return_some (thn (he pins s σ H _ I h) λv s1 ⟨x,H1,I1,r1,q1⟩=>⟨x,σ,H1,I1,r1,q1⟩)
def bs2 (c:TT) (t u:TS):TS:=λD σ H=>c σ H λb H1=>if b=true then t D σ H1 else u D σ H1
theorem y7 {c:Expr} {a b:List Stmt} {tc:TT} (hc:PT X c tc) (ha:PSs X a t) (hb:PSs X b u):PS X (.If c a b pos) (bs2 tc t u):=by
 intro pins s σ H D I h;refine wpAny_If (thn (hc pins s σ H _ I h) λd s1 zq=>?_);obtain ⟨H1,I1,q1⟩:=zq
 cases d with
 | true=>exact ha pins s1 σ H1 D I1 q1
 | false=>exact hb pins s1 σ H1 D I1 q1
def aL6:TS:=λ_ _ _=>False
theorem bc3:PS X st aL6:=λ_ _ _ _ _ _ h=>h.elim
end
abbrev TG:=V->St->Hp->(St->Hp->Prop)->Prop
abbrev TGs:=List V->St->Hp->(St->Hp->Prop)->Prop
def PG (X:Cx) (target:Expr) (t:TG):Prop :=
 ∀ (pins:List (Addr × Obj)) (s:Shared) (σ:St) (H:Hp) (v:V) (u:Value) (Q:St->Hp->Prop),Inv X pins σ H s->u0 v u->t v σ H Q ->
  wpAny (model X.prog X.w) X.A (assign target X.env u) (λ_ s' => ∃ σ' H',Inv X pins σ' H' s'/\Q σ' H') X.xe s
def PGs (X:Cx) (ts:List Expr) (t:TGs):Prop :=
 ∀ (pins:List (Addr × Obj)) (s:Shared) (σ:St) (H:Hp) (vs:List V) (us:List Value) (Q:St->Hp->Prop),Inv X pins σ H s->j8 vs us->t vs σ H Q ->
  wpAny (model X.prog X.w) X.A (assignInOrder ((assignEach ts X.env).map (·.2)) us) (λ_ s' => ∃ σ' H',Inv X pins σ' H' s'/\Q σ' H') X.xe s
abbrev bj0:=V->V->V->Hp->(Hp->Prop)->Prop
def bz3 (X:Cx) (t:bj0):Prop :=
 ∀ (pins:List (Addr × Obj)) (s:Shared) (σ:St) (H:Hp) (o i v:V) (ov iv u:Value) (Q:Hp->Prop),Inv X pins σ H s->u0 o ov->u0 i iv->u0 v u->t o i v H Q ->
  wpAny (model X.prog X.w) X.A (setItem ov iv u) (λ_ s' => ∃ H',Inv X pins σ H' s'/\Q H') X.xe s
abbrev TIp:=V->V->Hp->VK->Prop
def PIp (X:Cx) (op:Operator) (t:TIp):Prop :=
 ∀ (pins:List (Addr × Obj)) (s:Shared) (σ:St) (H:Hp) (x y:V) (v u:Value) (Q:VK),Inv X pins σ H s->u0 x v->u0 y u->t x y H Q ->
  wpAny (model X.prog X.w) X.A (inplaceOp op v u) (EP X pins σ Q) X.xe s
section
variable {X:Cx} {pos:Pos}
def t6 (i:Nat):TG:=λv σ H Q=>Q (σ.set i (some v)) H
theorem d9 {i:Nat} {x:Str} (hN:X.N.Nodup) (hi:X.N[i]? = some x) (hx:Loc X.env.scope x) (hf:X.fn x=true \/ X.env.scope.names.lookup x=some .local:=by first | exact .inl rfl | exact .inr rfl | assumption):PG X (.Name x pos) (t6 i):=by
 intro pins s σ H v u Q I r h;exact wpAny_assign_Name (U4 I hN hi hx r (λs' I'=>⟨_,H,I',h⟩) hf)
def V0:TGs:=λvs σ H Q=>vs=[]/\Q σ H
def v9 (t:TG) (u:TGs):TGs:=λvs σ H Q => ∃ v r,vs=v :: r/\t v σ H λσ' H'=>u r σ' H' Q
theorem z8:PGs X [] V0:=by
 intro pins s σ H vs us Q I r h;obtain ⟨e,h⟩:=h;subst e
 cases r
 exact assignInOrder_nil ⟨σ,H,I,h⟩
theorem j3 {e:Expr} {es:List Expr} {t:TG} {u:TGs} (h1:PG X e t) (h2:PGs X es u)
  (hs:(assignEach (e :: es) X.env).map (·.2)=assign e X.env :: (assignEach es X.env).map (·.2):=by rfl):PGs X (e :: es) (v9 t u):=by
 intro pins s σ H vs us Q I r h;obtain ⟨v,vr,e1,h⟩:=h;subst e1
 cases r with
 | cons r rr =>
  rw [hs];refine assignInOrder_cons (thn (h1 pins s σ H _ _ _ I r h) λ_ s1 zq=>?_);obtain ⟨σ1,H1,I1,q1⟩:=zq;exact h2 pins s1 σ1 H1 _ _ Q I1 rr q1
def U9 (K:q0a) (n:Nat) (t:TGs):TG:=λv σ H Q => ∃ a xs,v=.ref a/\SqT K H a xs/\xs.length=n/\t xs σ H Q
theorem C9 {es:List Expr} {k:Nat} {t:TGs} {n:Nat} (hc:X.calm=true) (h:PGs X es t)
  (hn:(assignEach es X.env).length=n:=by rfl) (hst:(assignEach es X.env).findIdx? (·.1)=none:=by rfl):PG X (.Tuple es k pos) (U9 X.K n t):=by
 intro pins s σ H v u Q I r hw;obtain ⟨a,xs,e1,hq,hl,hw⟩:=hw;subst e1
 cases r
 obtain ⟨its,rv,ht,hz⟩:=I.tuple hq;refine assign_Tuple_tuple (I.ok.hd hc) ht (by simp [hn,<- hl,rv.length]) hst λh' hx=>?_
 have I1:Inv X pins σ H { s with heap:=h' }:=I.kept (t':=s.toks) λb o e=>hx b o (z0c (q0f e)) e;exact h pins _ σ H xs _ Q I1 (by simpa using rv) hw
def bx5 (to ti:TE) (t:bj0):TG:=λv σ H Q=>to σ H λo H1=>ti σ H1 λi H2=>t o i v H2 λH3=>Q σ H3
theorem aM7 {o i:Expr} {to ti:TE} {t:bj0} (ho:PE X o to) (hi:PE X i ti) (hs:bz3 X t)
  (ha:∀ v,assign (.Subscript o i pos) X.env v=(do
   let ov <- holding [v] (eval o X.env)
   let iv <- holding [v,ov] (eval i X.env)
   standAt pos
   holding [v,ov,iv] (setItem ov iv v)
   release [v,ov,iv] []):=by intro _;rfl):PG X (.Subscript o i pos) (bx5 to ti t):=by
 intro pins s σ H v u Q I r h;rw [ha];refine wpAny_bind (wpAny_holding (thn (ho pins s σ H _ I h) λov s1 zq=>?_));obtain ⟨x,H1,I1,r1,q1⟩:=zq;refine wpAny_bind (wpAny_holding (thn (hi pins s1 σ H1 _ I1 q1) λiv s2 zq=>?_));obtain ⟨y,H2,I2,r2,q2⟩:=zq;refine wpAny_bind (wpAny_standAt (wpAny_bind (wpAny_holding (thn (hs pins s2 σ H2 x y v ov iv u _ I2 r1 r2 r q2) λ_ s3 zq=>?_))));obtain ⟨H3,I3,q3⟩:=zq;exact wpAny_release ⟨σ,H3,I3,q3⟩
def ba6 (te:TE) (g:TG):TS:=λD σ H=>te σ H λx H1=>g x σ H1 D.nx
theorem G8 {tg e : Expr} {te : TE} {g : TG} (he : PE X e te) (hg : PG X tg g) (hs : swapsWithSole [tg] e pos.line X.env = pure false := by rfl) (hw : swappedStores [tg] e X.env = pure none := by rfl)
    (h1:(assignEach [tg] X.env).map (·.2)=[assign tg X.env]:=by rfl):PS X (.Assign [tg] e pos) (ba6 te g):=by
  intro pins s σ H D I h;refine wpAny_Assign_stores (thn (he pins s σ H _ I h) λv s1 zq=>?_) hs hw;obtain ⟨x,H1,I1,r1,q1⟩:=zq;rw [h1];exact thn (hg pins s1 σ H1 x v _ I1 r1 q1) λ_ s2 q=>q
theorem i4 {i:Nat} {x:Str} {e:Expr} {te:TE} {pos':Pos} (hN:X.N.Nodup) (hi:X.N[i]? = some x) (hx:Loc X.env.scope x) (he:PE X e te) (hs:swapsWith e (some (.Name x pos')) pos.line X.env=pure false:=by rfl) (hf:X.fn x=true \/ X.env.scope.names.lookup x=some .local:=by first | exact .inl rfl | exact .inr rfl | assumption) :
  PS X (.Assign [.Name x pos'] e pos) (ba6 te (t6 i)):=by
 intro pins s σ H D I h;refine wpAny_Assign_Name (thn (he pins s σ H _ I h) λv s1 zq=>?_) hs;obtain ⟨y,H1,I1,r1,q1⟩:=zq;exact U4 I1 hN hi hx r1 (λs2 I2=>⟨_,H1,I2,q1⟩) hf
def bj9 (i j:Nat) (ta:TA):TS:=λD σ H=>ta σ H λvs H1 => ∃ v w,vs=[v,w]/\D.nx ((σ.set i (some v)).set j (some w)) H1
theorem Y2 {i j:Nat} {x y:Str} {a b:Expr} {ta:TA} {px py pt:Pos} {kt k2 pt2} (hc:X.calm=true) (hN:X.N.Nodup) (hi:X.N[i]? = some x) (hj:X.N[j]? = some y) (hij:i ≠ j)
  (hx:X.env.scope.names.lookup x=some .local) (hy:X.env.scope.names.lookup y=some .local) (ha:PA X [a,b] ta)
  (hw:swappedStores [.Tuple [.Name x px,.Name y py] kt pt] (.Tuple [a,b] k2 pt2) X.env=pure (some [x,y]))
  (hs:swapsWithSole [.Tuple [.Name x px,.Name y py] kt pt] (.Tuple [a,b] k2 pt2) pos.line X.env=pure false:=by rfl) :
  PS X (.Assign [.Tuple [.Name x px,.Name y py] kt pt] (.Tuple [a,b] k2 pt2) pos) (bj9 i j ta):=by
 intro pins s σ H D I h;rw [exec_Assign_arm];refine wpAny_bind (wpAny_standAt ?_);rw [hs];refine wpAny_bind (wpAny_pure ?_);rw [if_neg (by decide)]
 refine wpAny_bind (Tuple_ (thn (ha _ pins s σ H _ I h) λus s1 zq=>?_));obtain ⟨vs,H1,I1,r1,q1⟩:=zq;obtain ⟨v,w,e1,q1⟩:=q1;subst e1
 obtain ⟨u1,u2,rfl,rv,rw'⟩:∃ u1 u2,us=[u1,u2]/\u0 v u1/\u0 w u2:=by
  cases r1 with
  | cons p q =>
   cases q with
   | cons p' q' =>
    cases q'
    exact ⟨_,_,rfl,p,p'⟩
 refine wpAny_newObj_type ?_ (by show 2<=sizeLine;decide)
 have I2:Inv X pins σ H1 { s1 with heap:=s1.heap.push { cls:=.type "tuple",data:=.seq [u1,u2].toArray } }:=I1.kept (t':=s1.toks) λb o e=>q0h _ e
 rw [hw];refine wpAny_bind (wpAny_pure ?_)
 show wpAny (model X.prog X.w) X.A (do rule "assign.swapped-stores";let items <- unpackItems (.ref s1.heap.objs.size) 2 none;assignInOrder [λv=>bindName X.env y v,λv=>bindName X.env x v] items.reverse;pure Flow.next) _ _ _
 refine wpAny_bind (wpAny_rule (wpAny_bind (unpackItems_tuple (items:=#[u1,u2]) (I.ok.hd hc) (IsTup.new s1.heap _) λh' hx'=>?_)));have I3:=I2.kept (h':=h') (t':=s1.toks) λb o e=>hx' b o (z0c (q0f e)) e
 show wpAny _ _ (assignInOrder [λv=>bindName X.env y v,λv=>bindName X.env x v] [u2,u1] >>= λ_=>pure Flow.next) _ _ _;refine wpAny_bind (assignInOrder_cons (wpAny_bindName (U4 I3 hN hj (.inl hy) rw' (λs2 I4=>?_) (.inr hy))));refine assignInOrder_cons (wpAny_bindName (U4 I4 hN hi (.inl hx) rv (λs3 I5=>assignInOrder_nil (wpAny_pure ?_)) (.inr hx)));rw [List.set_comm _ _ (Ne.symm hij)] at I5;exact ⟨_,H1,I5,q1⟩
def bs4 (i:Nat) (te:TE) (ti:TIp):TS:=λD σ H => ∃ x,σ[i]? = some (some x)/\te σ H λy H1=>ti x y H1 λz H2=>D.nx (σ.set i (some z)) H2
theorem bt8 {i:Nat} {x:Str} {e:Expr} {te:TE} {op:Operator} {ti:TIp} {pos':Pos} (hN:X.N.Nodup) (hi:X.N[i]? = some x) (hx:Loc X.env.scope x) (he:PE X e te) (ho:PIp X op ti) (hf:X.fn x=true \/ X.env.scope.names.lookup x=some .local:=by first | exact .inl rfl | exact .inr rfl | assumption) :
  PS X (.AugAssign (.Name x pos') op e pos) (bs4 i te ti):=by
 intro pins s σ H D I h;obtain ⟨v,e1,h⟩:=h;obtain ⟨m,hn,hl⟩:=I.loc;have vis:Vis X.env.scope x:=by rcases hx with k | k;exact .inl k;exact .inr (.inl k)
 obtain ⟨u,r,l⟩:=hl i x v hi e1 vis;refine wpAny_AugAssign_Name ?_
 have go:wpAny (model X.prog X.w) X.A (eval e X.env) (λw s₂=>wpAny (model X.prog X.w) X.A (inplaceOp op u w) (λr s₃=>wpAny (model X.prog X.w) X.A (storeName X.env x r) (λ_=>SP X pins D .next) X.xe s₃) X.xe s₂) X.xe s:=by
  refine thn (he pins s σ H _ I h) λw s1 zq=>?_;obtain ⟨y,H1,I1,r1,q1⟩:=zq;refine thn (ho pins s1 σ H1 v y u w _ I1 r r1 q1) λz s2 zq=>?_;obtain ⟨zv,H2,I2,r2,q2⟩:=zq;exact U4 I2 hN hi hx r2 (λs3 I3=>⟨_,H2,I3,q2⟩) hf
 rcases l with ⟨hk,hm⟩ | ⟨hk,c,hc,hcell⟩
 ·exact wpAny_loadName_local I.ok.kind hk hn hm go
 ·rcases hk with hk | hk
  ·exact wpAny_loadName_cell I.ok.kind hk hc hcell go
  ·rcases hx with k | k
   ·have:X.env.scope.names.lookup x=some .free:=hk
    rw [k] at this;cases this
   ·have:X.env.scope.names.lookup x=some .free:=hk
    rw [k] at this;cases this
def ba5 (to ti te:TE) (tget:V->V->Hp->VK->Prop) (tip:TIp) (tset:bj0):TS:=λD σ H=>to σ H λo H1=>ti σ H1 λi H2=>tget o i H2 λx H3=>te σ H3 λy H4=>tip x y H4 λz H5=>tset o i z H5 λH6=>D.nx σ H6
def bD0 (X:Cx) (t:V->V->Hp->VK->Prop):Prop :=
 ∀ (pins:List (Addr × Obj)) (s:Shared) (σ:St) (H:Hp) (o i:V) (ov iv:Value) (Q:VK),Inv X pins σ H s->u0 o ov->u0 i iv->t o i H Q ->
  wpAny (model X.prog X.w) X.A (getItem ov iv) (EP X pins σ Q) X.xe s
theorem bk7 {o i e:Expr} {to ti te:TE} {tget:V->V->Hp->VK->Prop} {tip:TIp} {tset:bj0} {op:Operator} {tpos:Pos} (ho:PE X o to) (hi:PE X i ti) (hg:bD0 X tget) (he:PE X e te) (hp:PIp X op tip) (hs:bz3 X tset)
  (ha:∀ ov iv new,augStore i ov iv new=(do holding [new,ov,iv] (setItem ov iv new);release [new,ov,iv] [];pure .next):=by intros;rfl):PS X (.AugAssign (.Subscript o i tpos) op e pos) (ba5 to ti te tget tip tset):=by
 intro pins s σ H D I h;refine wpAny_AugAssign_SubscriptAny (thn (ho pins s σ H _ I h) λov s1 zq=>?_) ha;obtain ⟨x1,H1,I1,r1,q1⟩:=zq;refine thn (hi pins s1 σ H1 _ I1 q1) λiv s2 zq=>?_;obtain ⟨x2,H2,I2,r2,q2⟩:=zq;refine thn (hg pins s2 σ H2 x1 x2 ov iv _ I2 r1 r2 q2) λold s3 zq=>?_;obtain ⟨x3,H3,I3,r3,q3⟩:=zq;refine thn (he pins s3 σ H3 _ I3 q3) λv s4 zq=>?_;obtain ⟨x4,H4,I4,r4,q4⟩:=zq;refine thn (hp pins s4 σ H4 x3 x4 old v _ I4 r3 r4 q4) λnew s5 zq=>?_;obtain ⟨x5,H5,I5,r5,q5⟩:=zq;refine thn (hs pins s5 σ H5 x1 x2 x5 ov iv new _ I5 r1 r2 r5 q5) λ_ s6 zq=>?_;obtain ⟨H6,I6,q6⟩:=zq;exact ⟨σ,H6,I6,q6⟩
def ipI (f:Int->Int->Int):TIp:=λx y H Q => ∃ i j,x=.int i/\y=.int j/\Q (.int (f i j)) H
theorem bw6:PIp X .Add (ipI λi j=>i+j):=by
 intro pins s σ H x y v u Q I r1 r2 h;obtain ⟨i,j,e1,e2,q⟩:=h;subst e1;subst e2;obtain ⟨t,rfl⟩:=r1;obtain ⟨t',rfl⟩:=r2;exact iadd_int ⟨.int _,H,I.tok _,⟨_,rfl⟩,q⟩
def af5 (c:TT) (tb:TS):TS:=λD σ H => ∃ W:Nat->St->Hp->Prop,(∃ m,W m σ H)/\∀ m σ H,W m σ H ->
 c σ H λb H1=>if b=true then ∃ N:St->Hp->Prop,(∀ σ' H',N σ' H'->∃ m',m'<m/\W m' σ' H')/\tb { D with nx:=N,ct:=N,bk:=D.nx } σ H1 else D.nx σ H1
theorem ab0 {c:Expr} {body:List Stmt} {tc:TT} {tb:TS} (hp:PassesOwn (model X.prog X.w) X.A X.env X.xe) (hc:PT X c tc) (hb:PSs X body tb):PS X (.While c body [] pos) (af5 tc tb):=by
 intro pins s σ H D I h;obtain ⟨W,⟨m0,w0⟩,turn⟩:=h;refine wpAny_While (codeAny_whileLoop (λn s' => ∃ σ' H',Inv X pins σ' H' s'/\W n σ' H') ?_ m0 ⟨σ,H,I,w0⟩);rintro n s1 ⟨σ1,H1,I1,w1⟩;refine wpAny_passesOwn hp (thn (hc pins s1 σ1 H1 _ I1 (turn n σ1 H1 w1)) λb s2 zq=>?_);obtain ⟨H2,I2,q2⟩:=zq
 cases b with
 | true =>
  obtain ⟨N,hN,q2⟩:=q2;rw [if_pos rfl];refine wpAny_passesOwn hp (thn (hb pins s2 σ1 H2 _ I2 q2) λf s3 q3=>?_)
  cases f with
  | next =>
   obtain ⟨σ3,H3,I3,n3⟩:=q3;obtain ⟨m',hm,w3⟩:=hN σ3 H3 n3;exact ⟨m',hm,σ3,H3,I3,w3⟩
  | cont =>
   obtain ⟨σ3,H3,I3,n3⟩:=q3;obtain ⟨m',hm,w3⟩:=hN σ3 H3 n3;exact ⟨m',hm,σ3,H3,I3,w3⟩
  | brk=>exact q3
  | ret v=>exact q3
 | false =>
  rw [if_neg q0n];exact wpAny_execs_nil ⟨σ1,H2,I2,q2⟩
end
structure It where
 go:Nat->Hp->Prop
 yld:Nat->Hp->V->Hp->Prop
 stop:Nat->Hp->Prop
def ao6 (X:Cx) (pins:List (Addr × Obj)) (H:Hp) (b:Addr):Prop :=
 H b=none/\b ≠ X.env.locals/\b ∉ X.fs/\(b ∈ X.ex \/ X.s₀.heap.objs.size<=b)/\(∀ x c,X.env.cells.lookup x=some c->c ≠ b)/\∀ p ∈ X.pn ++ pins,p.1 ≠ b
theorem Inv.fpOk {X:Cx} {pins:List (Addr × Obj)} {σ:St} {H H':Hp} {s:Shared} {b:Addr} (I:Inv X pins σ H s) (hb:s.heap.objs.size<=b) (hn:H' b=none):ao6 X pins H' b:=by
 refine ⟨hn,z1f (q0b I.lt hb),I.nofs hb,.inr (z0p I.sz hb),λx c e z=>?_,λp hp z=>?_⟩
 ·obtain ⟨v,q⟩:=I.cell x c e
  exact absurd (q0b q.lt (by rw [z];exact hb)) (y0v _)
 ·exact absurd (q0b (q0f (I.pin p hp).1) (by rw [z];exact hb)) (y0v _)
structure aG1 (P:Program) (w:World) (K:q0a) (tg:Expr) (J:It) (fp:List Addr) (it:Addr) (tn:Nat->Heap->Prop):Prop where
 mem:it ∈ fp
 obj:∀ i h,tn i h->∀ b ∈ fp,∃ o,h.get? b=some o/\∀ v,o.data ≠ .cell v
 keep:∀ i h h',tn i h->(∀ b ∈ fp,∀ o,h.get? b=some o->h'.get? b=some o)->tn i h'
 item:∀ (X:Cx),X.prog=P->X.w=w->X.K=K->X.calm=true->∀ (i:Nat) (pins:List (Addr × Obj)) (s:Shared) (σ:St) (H:Hp) (E:Value->Shared->Prop),Inv X pins σ H s->(∀ b ∈ fp,ao6 X pins H b)->tn i s.heap->J.go i H ->
  wpAny (model P w) X.A (pyNext (.ref it)) (λr s1 => ∃ u,r=some u /\
   wpAny (model P w) X.A (letOwnedTupleGo tg (.ref it) u) (λ_ s2 => ∃ x H',Inv X pins σ H' s2/\u0 x u/\J.yld i H x H'/\tn (i+1) s2.heap/\∀ b ∈ fp,H' b=none) E s1) E s
 done:∀ (X:Cx),X.prog=P->X.w=w->X.K=K->X.calm=true->∀ (i:Nat) (pins:List (Addr × Obj)) (s:Shared) (σ:St) (H:Hp) (E:Value->Shared->Prop),Inv X pins σ H s->(∀ b ∈ fp,ao6 X pins H b)->tn i s.heap->J.stop i H ->
  wpAny (model P w) X.A (pyNext (.ref it)) (λr s1=>r=none/\Inv X pins σ H s1) E s
 self:∀ (A:Around) (i:Nat) (s:Shared) (Q:Value->Shared->Prop) (E:Value->Shared->Prop),tn i s.heap->Q (.ref it) s->wpAny (model P w) A (pyIter (.ref it)) Q E s
abbrev TI:=St->Hp->(It->Hp->Prop)->Prop
def PIE (X:Cx) (pins:List (Addr × Obj)) (σ:St) (tg:Expr) (R:It->Hp->Prop) (itv:Value) (s2:Shared):Prop :=
 ∃ (it:Addr) (fp:List Addr) (tn:Nat->Heap->Prop) (J:It) (H':Hp),itv=.ref it/\Inv X pins σ H' s2/\aG1 X.prog X.w X.K tg J fp it tn/\tn 0 s2.heap/\(∀ b ∈ fp,ao6 X pins H' b)/\R J H'
def PI (X:Cx) (tg iter:Expr) (wi:TI):Prop :=
 ∀ (pins:List (Addr × Obj)) (s:Shared) (σ:St) (H:Hp) (R:It->Hp->Prop),Inv X pins σ H s->wi σ H R ->
  wpAny (model X.prog X.w) X.A (eval iter X.env) (λv s1=>wpAny (model X.prog X.w) X.A (pyIter v) (PIE X pins σ tg R) X.xe s1) X.xe s
theorem ax4 {M : Model} {A : Around} {E : Value → Shared → Prop} {s : Shared} {tg : Expr} {it : Addr} {u : Value} {o : Obj} {n : String} {vs : Array Value} {Q : Unit → Shared → Prop} (ho : s.heap.get? it = some o) (hc : o.cls = .type n) (hd : o.data = .fields vs)
    (hn:["enumerate","zip","dict_itemiterator","dict_reverseitemiterator","odict_iterator","itertools.zip_longest","itertools.pairwise"].contains n=false) (hQ:Q () s):wpAny M A (letOwnedTupleGo tg (.ref it) u) Q E s:=by
  unfold letOwnedTupleGo
  cases tg <;> first
    | exact wpAny_pure hQ
    | (cases u <;> first
        | exact wpAny_pure hQ
        | (refine wpAny_bind (wpAny_load ho ?_)
           rw [hc,hd]
           show wpAny M A (if (["enumerate","zip","dict_itemiterator","dict_reverseitemiterator","odict_iterator","itertools.zip_longest","itertools.pairwise"].contains n && vs[0]? == some (rawInt _))=true then _ else _) Q E s
           rw [if_neg (by intro h;rw [hn,Bool.false_and] at h;cases h)]
           exact wpAny_pure hQ))
def Itl (K:q0a) (a:Addr):It :=
 ⟨λi H => ∃ xs x,SqL K H a xs/\xs[i]? = some x,λi H x H'=>H'=H/\∀ xs,SqL K H a xs->xs[i]? = some x,λi H => ∃ xs,SqL K H a xs/\xs.length<=i⟩
def Itt (K:q0a) (a:Addr):It :=
 ⟨λi H => ∃ xs x,SqT K H a xs/\xs[i]? = some x,λi H x H'=>H'=H/\∀ xs,SqT K H a xs->xs[i]? = some x,λi H => ∃ xs,SqT K H a xs/\xs.length<=i⟩
def Itr (lo:Int) (n:Nat):It:=⟨λi _=>i<n,λi H x H'=>H'=H/\x=.int (lo+i),λi _=>n<=i⟩
theorem aU9 {P:Program} {w:World} {K:q0a} {tg:Expr} (a it:Addr):aG1 P w K tg (Itl K a) [it] it (λi h=>h.IsListIter it a i) where
 mem:=by simp
 obj:=λi h st b hb=>by
  have e:b=it:=by simpa using hb
  subst e;obtain ⟨o,e,c,d⟩:=st;exact ⟨o,e,λv z=>by rw [d] at z;cases z⟩
 keep:=λi h h' st k=>st.at λo e=>k it (by simp) o e
 item:=by
  intro X hP hw hK hc i pins s σ H E I hf st hg;subst hP hw hK;obtain ⟨xs,x,hq,hx⟩:=hg;obtain ⟨its,rv,p,hz⟩:=I.list hq;obtain ⟨u,hu,ru⟩:=rv.get hx;obtain ⟨f0,f1,f2,f3,f4,f5⟩:=hf it (by simp)
  refine wpAny_pyNext_list_item st p.isList (x:=u) (by simpa using hu) λh' st' sb=>?_
  have I1:Inv X pins σ H { s with heap:=h' }:=I.turned (t':=s.toks) (λb o hb e=>(sb.2 b hb).trans e) f0 f1 f3 f4 f5;obtain ⟨o,e,c,d⟩:=id st';exact ⟨u,rfl,ax4 (s:={ s with heap:=h' }) e c d (by decide) ⟨x,H,I1,ru,⟨rfl,λys hy=>by rw [I.list_inj hy hq];exact hx⟩,st',λb hb=>(hf b hb).1⟩⟩
 done:=by
  intro X hP hw hK hc i pins s σ H E I hf st hg;subst hP hw hK;obtain ⟨xs,hq,hx⟩:=hg;obtain ⟨its,rv,p,hz⟩:=I.list hq;obtain ⟨f0,f1,f2,f3,f4,f5⟩:=hf it (by simp)
  have hl:=rv.length;exact wpAny_pyNext_list_end (I.ok.hd hc) st p.isList (by simp;omega) λh' eb=>⟨rfl,I.turned (t':=s.toks) (λb o hb e=>eb b o hb e) f0 f1 f3 f4 f5⟩
 self:=λ_ _ _ _ _ st h=>wpAny_pyIter_listiter st h
theorem aL1 {P:Program} {w:World} {K:q0a} {tg:Expr} (a it:Addr):aG1 P w K tg (Itt K a) [it] it (λi h=>h.IsTupleIter it a i) where
 mem:=by simp
 obj:=λi h st b hb=>by
  have e:b=it:=by simpa using hb
  subst e;obtain ⟨o,e,c,d⟩:=st;exact ⟨o,e,λv z=>by rw [d] at z;cases z⟩
 keep:=λi h h' st k=>st.at λo e=>k it (by simp) o e
 item:=by
  intro X hP hw hK hc i pins s σ H E I hf st hg;subst hP hw hK;obtain ⟨xs,x,hq,hx⟩:=hg;obtain ⟨its,rv,p,hz⟩:=I.tuple hq;obtain ⟨u,hu,ru⟩:=rv.get hx;obtain ⟨f0,f1,f2,f3,f4,f5⟩:=hf it (by simp)
  refine wpAny_pyNext_tuple_item st (show s.heap.IsTuple a its.toArray from p) (x:=u) (by simpa using hu) λh' st' sb=>?_
  have I1:Inv X pins σ H { s with heap:=h' }:=I.turned (t':=s.toks) (λb o hb e=>(sb.2 b hb).trans e) f0 f1 f3 f4 f5;obtain ⟨o,e,c,d⟩:=id st';exact ⟨u,rfl,ax4 (s:={ s with heap:=h' }) e c d (by decide) ⟨x,H,I1,ru,⟨rfl,λys hy=>by rw [I.tuple_inj hy hq];exact hx⟩,st',λb hb=>(hf b hb).1⟩⟩
 done:=by
  intro X hP hw hK hc i pins s σ H E I hf st hg;subst hP hw hK;obtain ⟨xs,hq,hx⟩:=hg;obtain ⟨its,rv,p,hz⟩:=I.tuple hq;obtain ⟨f0,f1,f2,f3,f4,f5⟩:=hf it (by simp)
  have hl:=rv.length;exact wpAny_pyNext_tuple_end (I.ok.hd hc) st (show s.heap.IsTuple a its.toArray from p) (by simp;omega) λh' eb=>⟨rfl,I.turned (t':=s.toks) (λb o hb e=>eb b o hb e) f0 f1 f3 f4 f5⟩
 self:=λ_ _ _ _ _ st h=>wpAny_pyIter_tupleiter st h
theorem aL2 {P:Program} {w:World} {K:q0a} {tg:Expr} (it:Addr) (lo:Int) (n:Nat):aG1 P w K tg (Itr lo n) [it] it (λi h=>IsRangeIter h it (lo+(i:Nat)*1) ((n:Int)-(i:Nat)) 1) where
 mem:=by simp
 obj:=λi h st b hb=>by
  have e:b=it:=by simpa using hb
  subst e
  exact ⟨_,st,λv z=>by
   have z':Data.fields _=Data.cell v:=z
   cases z'⟩
 keep:=λi h h' st k=>k it (by simp) _ st
 item:=by
  intro X hP hw hK hc i pins s σ H E I hf st hg;subst hP hw hK;obtain ⟨f0,f1,f2,f3,f4,f5⟩:=hf it (by simp)
  have W:=Walks.range (prog:=X.prog) (w:=X.w) (I.ok.hd hc) it lo 1 n;refine W.item i s _ _ hg st λv h' tk hv st' kk=>?_;obtain ⟨t,rfl⟩:=hv;have I1:Inv X pins σ H { s with heap:=h',toks:=tk }:=I.turned (λb o hb e=>kk b o (by simpa using hb) e) f0 f1 f3 f4 f5
  refine ⟨_,rfl,ax4 (s:={ s with heap:=h',toks:=tk }) (n := "range_iterator") st' rfl rfl (by decide) ⟨.int (lo+i),H,I1,⟨t,?_⟩,⟨rfl,rfl⟩,st',λb hb=>(hf b hb).1⟩⟩
  rw [Int.mul_one]
 done:=by
  intro X hP hw hK hc i pins s σ H E I hf st hg;subst hP hw hK;obtain ⟨f0,f1,f2,f3,f4,f5⟩:=hf it (by simp)
  exact wpAny_pyNext_range_end (I.ok.hd hc) st (by have:n<=i:=hg;omega) λh' eb=>⟨rfl,I.turned (t':=s.toks) (λb o hb e=>eb b o hb e) f0 f1 f3 f4 f5⟩
 self:=λ_ _ _ _ _ st h=>wpAny_pyIter_rangeiter st h
section
variable {X:Cx} {tg:Expr}
def bf5 (K:q0a) (tl:TE):TI:=λσ H R=>tl σ H λx H1 => ∃ a,x=.ref a/\(∃ xs,SqL K H1 a xs)/\R (Itl K a) H1
def bx0 (K:q0a) (tl:TE):TI:=λσ H R=>tl σ H λx H1 => ∃ a,x=.ref a/\(∃ xs,SqT K H1 a xs)/\R (Itt K a) H1
theorem Y5 {l:Expr} {tl:TE} (hl:PE X l tl):PI X tg l (bf5 X.K tl):=by
 intro pins s σ H R I h;refine thn (hl pins s σ H _ I h) λv s1 zq=>?_;obtain ⟨x,H1,I1,r1,q1⟩:=zq;obtain ⟨a,e,⟨xs,hq⟩,q⟩:=q1;subst e
 cases r1
 obtain ⟨its,rv,p,hz⟩:=I1.list hq;refine wpAny_pyIter_list p.isList ?_;refine ⟨s1.heap.objs.size,[s1.heap.objs.size],_,_,H1,rfl,I1.kept (t':=s1.toks) λb o e=>q0h _ e,aU9 a _,⟨_,z0j _ rfl,rfl,rfl⟩,λb hb=>?_,q⟩;have e:b=s1.heap.objs.size:=by simpa using hb
 subst e;exact I1.fpOk (q0j _) (I1.hok.fresh (q0j _))
theorem bu3 {l:Expr} {tl:TE} (hl:PE X l tl):PI X tg l (bx0 X.K tl):=by
 intro pins s σ H R I h;refine thn (hl pins s σ H _ I h) λv s1 zq=>?_;obtain ⟨x,H1,I1,r1,q1⟩:=zq;obtain ⟨a,e,⟨xs,hq⟩,q⟩:=q1;subst e
 cases r1
 obtain ⟨its,rv,p,hz⟩:=I1.tuple hq;refine wpAny_pyIter_tuple (show s1.heap.IsTuple a its.toArray from p) ?_;refine ⟨s1.heap.objs.size,[s1.heap.objs.size],_,_,H1,rfl,I1.kept (t':=s1.toks) λb o e=>q0h _ e,aL1 a _,⟨_,z0j _ rfl,rfl,rfl⟩,λb hb=>?_,q⟩;have e:b=s1.heap.objs.size:=by simpa using hb
 subst e;exact I1.fpOk (q0j _) (I1.hok.fresh (q0j _))
theorem aH6 {pins:List (Addr × Obj)} {σ:St} {H:Hp} {s:Shared} {R:It->Hp->Prop} {E:Value->Shared->Prop} {lo hi:Int} {t u v:Tok} {tk:Nat} (I:Inv X pins σ H s) (h1:-(2 ^ 62)<=lo) (h2:lo<2 ^ 62) (h3:-(2 ^ 62)<=hi) (h4:hi<2 ^ 62)
  (q:R (Itr lo (hi-lo).toNat) H):wpAny (model X.prog X.w) X.A (pyIter (.ref s.heap.objs.size)) (PIE X pins σ tg R) E { s with heap:=s.heap.push { cls:=.type "range",data:=.fields #[.int lo t,.int hi u,.int 1 v] },toks:=tk }:=by
 refine wpAny_pyIter_range (IsRange.new ..) (small_one h1 h2 h3 h4) ?_;have I1:Inv X pins σ H { s with heap:=s.heap.push { cls:=.type "range",data:=.fields #[.int lo t,.int hi u,.int 1 v] },toks:=tk }:=I.kept λb o e=>q0h _ e
 refine ⟨(s.heap.push { cls:=.type "range",data:=.fields #[.int lo t,.int hi u,.int 1 v] }).objs.size,[(s.heap.push { cls:=.type "range",data:=.fields #[.int lo t,.int hi u,.int 1 v] }).objs.size],_,_,H,rfl,
  I1.kept (t':=tk) λb o e=>q0h _ e,aL2 _ lo (hi-lo).toNat,?_,λb hb=>?_,q⟩
 ·have e1:lo+((0:Nat):Int)*1=lo:=by simp
  have e2:(((hi-lo).toNat:Nat):Int)-((0:Nat):Int)=Builtin.Range.rangeSize lo hi 1:=by rw [rangeSize_one];split <;> omega
  show IsRangeIter _ _ (lo+((0:Nat):Int)*1) ((((hi-lo).toNat:Nat):Int)-((0:Nat):Int)) 1;rw [e1,e2];exact z0j _ rfl
 ·have e:b=(s.heap.push { cls:=.type "range",data:=.fields #[.int lo t,.int hi u,.int 1 v] }).objs.size:=by simpa using hb
  subst e;exact I1.fpOk (q0j _) (I1.hok.fresh (q0j _))
def bf4 (ta:TA):TI:=λσ H R=>ta σ H λvs H1 => ∃ j:Int,vs=[.int j]/\-(2 ^ 62)<=j/\j<2 ^ 62/\R (Itr 0 j.toNat) H1
def bf3 (ta:TA):TI:=λσ H R=>ta σ H λvs H1 => ∃ i j:Int,vs=[.int i,.int j]/\(-(2 ^ 62)<=i/\i<2 ^ 62/\-(2 ^ 62)<=j/\j<2 ^ 62)/\R (Itr i (j-i).toNat) H1
theorem K4 {a:Expr} {ta:TA} {p pos:Pos} (hg:Gl X "range") (hm:X.mg "range" = none) (ha:PA X [a] ta) (hs:starEach [a] X.env=[(false,eval a X.env)]:=by rfl):PI X tg (.Call (.Name "range" p) [a] [] pos) (bf4 ta):=by
 intro pins s σ H R I h;refine Call_ (U2 I hg hm boot_range (PyProof.Rows.callWith_type1 (thn (ha pos pins s σ H _ I h) λus s1 zq=>?_) hs rfl));obtain ⟨vs,H1,I1,r1,q1⟩:=zq;obtain ⟨j,e,q1,q2,q⟩:=q1;subst e
 cases r1 with
 | cons r rr =>
  cases rr
  obtain ⟨t,rfl⟩:=r;exact call_range_1 (aH6 I1 ⋯ ⋯ q1 q2 (by simpa using q))
theorem aW5 {a b:Expr} {ta:TA} {p pos:Pos} (hg:Gl X "range") (hm:X.mg "range" = none) (ha:PA X [a,b] ta) (hs:starEach [a,b] X.env=[(false,eval a X.env),(false,eval b X.env)]:=by rfl) (hs2:starEach [b] X.env=[(false,eval b X.env)]:=by rfl) :
  PI X tg (.Call (.Name "range" p) [a,b] [] pos) (bf3 ta):=by
 intro pins s σ H R I h;refine Call_ (U2 I hg hm boot_range (PyProof.Rows.callWith_type1 (thn (ha pos pins s σ H _ I h) λus s1 zq=>?_) (by rw [hs,hs2]) (by rw [hs2];rfl)))
 obtain ⟨vs,H1,I1,r1,q1⟩:=zq;obtain ⟨i,j,e,⟨q1,q2,q3,q4⟩,q⟩:=q1;subst e
 cases r1 with
 | cons r rr =>
  cases rr with
  | cons r' rr =>
   cases rr
   obtain ⟨t,rfl⟩:=r;obtain ⟨t',rfl⟩:=r';exact call_range_2 (aH6 I1 q1 q2 q3 q4 q)
def bD3 (wi:TI) (g:TG) (tb:TS):TS:=λD σ H=>wi σ H λJ H1 => ∃ W:Nat->Nat->St->Hp->Prop,(∃ m,W 0 m σ H1)/\∀ i m σ H,W i m σ H ->
 (J.stop i H/\D.nx σ H) \/ (J.go i H/\∃ N:St->Hp->Prop,(∀ σ' H',N σ' H'->∃ m',m'<m/\W (i+1) m' σ' H')/\∀ x H',J.yld i H x H'->g x σ H' λσ2 H2=>tb { D with nx:=N,ct:=N,bk:=D.nx } σ2 H2)
def aC1 (fp:List Addr) (h:Heap):List (Addr × Obj):=fp.filterMap λb=>(h.get? b).map λo=>(b,o)
theorem D4 {fp:List Addr} {h:Heap} {b:Addr} {o:Obj} (hb:b ∈ fp) (e:h.get? b=some o):(b,o) ∈ aC1 fp h:=m0g.mpr ⟨b,hb,by rw [e];rfl⟩
theorem aW9 {fp:List Addr} {h:Heap} {p:Addr × Obj} (hp:p ∈ aC1 fp h):p.1 ∈ fp/\h.get? p.1=some p.2:=by
 obtain ⟨b,hb,e⟩:=m0g.mp hp
 cases q:h.get? b with
 | none=>rw [q] at e;cases e
 | some o =>
  rw [q] at e;have e':(b,o)=p:=Option.some.inj e;subst e';exact ⟨hb,q⟩
theorem Inv.pinned {pins:List (Addr × Obj)} {σ:St} {H:Hp} {s:Shared} {fp:List Addr} (I:Inv X pins σ H s) (hf:∀ b ∈ fp,ao6 X pins H b) (ho:∀ b ∈ fp,∃ o,s.heap.get? b=some o/\∀ v,o.data ≠ .cell v):Inv X (pins ++ aC1 fp s.heap) σ H s :=
 I.pins_of λp hp=>(u0e.mp hp).elim (λz=>I.pin p (z0d _ z)) λz=>by
  obtain ⟨hb,e⟩:=aW9 z;obtain ⟨f0,f1,f2,_⟩:=hf p.1 hb;obtain ⟨o,e',d⟩:=ho p.1 hb;rw [e] at e';cases e';exact ⟨e,f0,f1,f2,d⟩
theorem Inv.unpinned {pins pl:List (Addr × Obj)} {σ:St} {H:Hp} {s:Shared} (I:Inv X (pins ++ pl) σ H s):Inv X pins σ H s:=I.pins_of λp hp=>I.pin p (z0d _ (g0g _ hp))
theorem G7 {iter:Expr} {body:List Stmt} {wi:TI} {g:TG} {tb:TS} {pos:Pos} (hp:PassesOwn (model X.prog X.w) X.A X.env X.xe) (hc:X.calm=true) (hi:PI X tg iter wi) (hg:PG X tg g) (hb:PSs X body tb)
  (hs:∀ x,foldedSetIterable iter X.env x=pure x:=by intro _;rfl):PS X (.For tg iter body [] pos) (bD3 wi g tb):=by
 intro pins s σ H D I h;refine wpAny_For (thn (hi pins s σ H _ I h) λv s1 h1=>thn h1 λitv s2 h2=>?_) hs;obtain ⟨it,fp,tn,J,H2,e,I2,T,st2,f2,W,⟨m0,w0⟩,turn⟩:=h2;subst e
 -- what stays true of the iterator's objects through the loop
 have stat:∀ {H':Hp},(∀ b ∈ fp,H' b=none)->∀ b ∈ fp,ao6 X pins H' b:=λhn b hb=>⟨hn b hb,(f2 b hb).2⟩;refine codeAny_forLoop_any (λn s' => ∃ i σ' H',Inv X pins σ' H' s'/\tn i s'.heap/\(∀ b ∈ fp,H' b=none)/\W i n σ' H') ?_ m0 ⟨0,σ,H2,I2,st2,λb hb=>(f2 b hb).1,w0⟩;rintro n s3 ⟨i,σ3,H3,I3,st3,fr3,w3⟩;rcases turn i n σ3 H3 w3 with ⟨stop,qn⟩ | ⟨go,N,hN,step⟩
 ·refine wpAny_passesOwn hp (thn (T.done X rfl rfl rfl hc i pins s3 σ3 H3 X.xe I3 (stat fr3) st3 stop) λr s4 zq=>?_)
  obtain ⟨hr,I4⟩:=zq;subst hr;exact wpAny_execs_nil ⟨σ3,H3,I4,qn⟩
 ·refine wpAny_passesOwn hp (thn (T.item X rfl rfl rfl hc i pins s3 σ3 H3 X.xe I3 (stat fr3) st3 go) λr s4 zq=>?_)
  obtain ⟨u,hr,h4⟩:=zq;subst hr;refine wpAny_passesOwn hp (thn h4 λ_ s5 zq=>?_);obtain ⟨x,H5,I5,r5,y5,st5,fr5⟩:=zq;have I5':=I5.pinned (stat fr5) (T.obj _ _ st5);refine wpAny_passesOwn hp (thn (hg _ s5 σ3 H5 x u _ I5' r5 (step x H5 y5)) λ_ s6 zq=>?_);obtain ⟨σ6,H6,I6,q6⟩:=zq;refine wpAny_passesOwn hp (thn (hb _ s6 σ6 H6 _ I6 q6) λf s7 q7=>?_)
  have again:∀ {σ7:St} {H7:Hp},Inv X (pins ++ aC1 fp s5.heap) σ7 H7 s7->N σ7 H7->∃ m,m<n/\∃ i σ' H',Inv X pins σ' H' s7/\tn i s7.heap/\(∀ b ∈ fp,H' b=none)/\W i m σ' H':=fun {σ7 H7} I7 n7=>by
   obtain ⟨m',hm,w7⟩:=hN σ7 H7 n7;refine ⟨m',hm,i+1,σ7,H7,I7.unpinned,T.keep _ _ _ st5 λb hb o e=>(I7.pin (b,o) (z0d _ (z0d _ (D4 hb e)))).1,λb hb=>?_,w7⟩;obtain ⟨o,e,d⟩:=T.obj _ _ st5 b hb;exact (I7.pin (b,o) (z0d _ (z0d _ (D4 hb e)))).2.1
  cases f with
  | next=>obtain ⟨σ7,H7,I7,n7⟩:=q7;exact again I7 n7
  | cont=>obtain ⟨σ7,H7,I7,n7⟩:=q7;exact again I7 n7
  | brk=>obtain ⟨σ7,H7,I7,q7⟩:=q7;exact ⟨σ7,H7,I7.unpinned,q7⟩
  | ret v=>obtain ⟨x7,σ7,H7,I7,r7,q7⟩:=q7;exact ⟨x7,σ7,H7,I7.unpinned,r7,q7⟩
end
theorem as5 {K:q0a} {a:Addr} {xs:List V} {g:TG} {tb:TS} {D:aa0} {σ:St} {H:Hp} (Pv:Nat->St->Hp->Prop) (h0:Pv 0 σ H) (hl:∀ i σ H,i<=xs.length->Pv i σ H->SqL K H a xs)
  (hs:∀ i x σ H,xs[i]? = some x->Pv i σ H->g x σ H λσ2 H2=>tb { D with nx:=Pv (i+1),ct:=Pv (i+1),bk:=D.nx } σ2 H2) (hd:∀ σ H,Pv xs.length σ H->D.nx σ H) :
  ∃ W:Nat->Nat->St->Hp->Prop,(∃ m,W 0 m σ H)/\∀ i m σ H,W i m σ H ->
   ((Itl K a).stop i H/\D.nx σ H) \/ ((Itl K a).go i H/\∃ N:St->Hp->Prop,(∀ σ' H',N σ' H'->∃ m',m'<m/\W (i+1) m' σ' H')/\∀ x H',(Itl K a).yld i H x H'->g x σ H' λσ2 H2=>tb { D with nx:=N,ct:=N,bk:=D.nx } σ2 H2):=by
 refine ⟨λi m σ H=>m=xs.length-i/\i<=xs.length/\Pv i σ H,⟨xs.length,by simp,j0k _,h0⟩,?_⟩
 rintro i m σ H ⟨rfl,hi,p⟩;have q:=hl i σ H hi p
 by_cases hlt:i<xs.length
 ·refine .inr ⟨⟨xs,xs[i],q,by simp [hlt]⟩,Pv (i+1),λσ' H' p'=>⟨xs.length-(i+1),⋯,rfl,hlt,p'⟩,λx H' y=>?_⟩
  obtain ⟨e,y⟩:=y;subst e;exact hs i x σ _ (y xs q) p
 ·have e:i=xs.length:=⋯
  subst e;exact .inl ⟨⟨xs,q,q0j _⟩,hd σ H p⟩
theorem K7 {lo:Int} {n:Nat} {g:TG} {tb:TS} {D:aa0} {σ:St} {H:Hp} (Pv:Nat->St->Hp->Prop) (h0:Pv 0 σ H)
  (hs:∀ i σ H,i<n->Pv i σ H->g (.int (lo+i)) σ H λσ2 H2=>tb { D with nx:=Pv (i+1),ct:=Pv (i+1),bk:=D.nx } σ2 H2) (hd:∀ σ H,Pv n σ H->D.nx σ H) :
  ∃ W:Nat->Nat->St->Hp->Prop,(∃ m,W 0 m σ H)/\∀ i m σ H,W i m σ H ->
   ((Itr lo n).stop i H/\D.nx σ H) \/ ((Itr lo n).go i H/\∃ N:St->Hp->Prop,(∀ σ' H',N σ' H'->∃ m',m'<m/\W (i+1) m' σ' H')/\∀ x H',(Itr lo n).yld i H x H'->g x σ H' λσ2 H2=>tb { D with nx:=N,ct:=N,bk:=D.nx } σ2 H2):=by
 refine ⟨λi m σ H=>m=n-i/\i<=n/\Pv i σ H,⟨n,by simp,j0k _,h0⟩,?_⟩
 rintro i m σ H ⟨rfl,hi,p⟩
 by_cases hlt:i<n
 ·refine .inr ⟨hlt,Pv (i+1),λσ' H' p'=>⟨n-(i+1),⋯,rfl,hlt,p'⟩,λx H' y=>?_⟩
  obtain ⟨e,y⟩:=y;subst e y;exact hs i σ _ hlt p
 ·have e:i=n:=⋯
  subst e;exact .inl ⟨q0j _,hd σ H p⟩
theorem aG4 {c:TT} {tb:TS} {D:aa0} {σ:St} {H:Hp} (Pv:St->Hp->Prop) (μ:St->Hp->Nat) (h0:Pv σ H)
  (hs:∀ σ H,Pv σ H->c σ H λb H1=>if b=true then tb { D with nx:=λσ' H'=>Pv σ' H'/\μ σ' H'<μ σ H,ct:=λσ' H'=>Pv σ' H'/\μ σ' H'<μ σ H,bk:=D.nx } σ H1 else D.nx σ H1)
  (mono:∀ σ H Q Q',(∀ b H1,Q b H1->Q' b H1)->c σ H Q->c σ H Q'):af5 c tb D σ H:=by
 refine ⟨λm σ H=>m=μ σ H/\Pv σ H,⟨_,rfl,h0⟩,?_⟩;rintro m σ H ⟨rfl,p⟩;refine mono σ H _ _ (λb H1 q=>?_) (hs σ H p)
 cases b with
 | true=>exact ⟨_,λσ' H' ⟨p',l⟩=>⟨_,l,rfl,p'⟩,q⟩
 | false=>exact q
abbrev R2:=V->V->Hp->VK->Prop
def OpR (X:Cx) (f:Value->Value->Sem Value) (r:R2):Prop :=
 ∀ (pins:List (Addr × Obj)) (s:Shared) (σ:St) (H:Hp) (x y:V) (v u:Value) (Q:VK),Inv X pins σ H s->u0 x v->u0 y u->r x y H Q ->
  wpAny (model X.prog X.w) X.A (f v u) (EP X pins σ Q) X.xe s
def UnR (X:Cx) (f:Value->Sem Value) (r:V->Hp->VK->Prop):Prop :=
 ∀ (pins:List (Addr × Obj)) (s:Shared) (σ:St) (H:Hp) (x:V) (v:Value) (Q:VK),Inv X pins σ H s->u0 x v->r x H Q ->
  wpAny (model X.prog X.w) X.A (f v) (EP X pins σ Q) X.xe s
def ac6 (X:Cx) (f:Value) (r:List V->Hp->VK->Prop):Prop :=
 ∀ (pins:List (Addr × Obj)) (s:Shared) (σ:St) (H:Hp) (xs:List V) (us:List Value) (Q:VK),Inv X pins σ H s->j8 xs us->r xs H Q ->
  wpAny (model X.prog X.w) X.A (call f us) (EP X pins σ Q) X.xe s
def bE2 (X:Cx) (r:V->Hp->(Bool->Hp->Prop)->Prop):Prop :=
 ∀ (pins:List (Addr × Obj)) (s:Shared) (σ:St) (H:Hp) (x:V) (v:Value) (Q:Bool->Hp->Prop),Inv X pins σ H s->u0 x v->r x H Q ->
  wpAny (model X.prog X.w) X.A (truthy v) (TP X pins σ Q) X.xe s
def tOp (r:R2) (ta tb:TE):TE:=λσ H Q=>ta σ H λx H1=>tb σ H1 λy H2=>r x y H2 Q
def tUn (r:V->Hp->VK->Prop) (ta:TE):TE:=λσ H Q=>ta σ H λx H1=>r x H1 Q
def rI (C:Int->Int->Prop) (g:Int->Int->V):R2:=λx y H Q => ∃ i j,x=.int i/\y=.int j/\C i j/\Q (g i j) H
def rI0 (g:Int->Int->V):R2:=λx y H Q => ∃ i j,x=.int i/\y=.int j/\Q (g i j) H
def rU (g:Int->V):V->Hp->VK->Prop:=λx H Q => ∃ i,x=.int i/\Q (g i) H
section
variable {X:Cx} {a b c:Expr} {ta tb tc:TE} {pos:Pos}
theorem by7 (ha:PE X a ta) (hb:PE X b tb) {pins:List (Addr × Obj)} {s:Shared} {σ:St} {H:Hp} {R:V->V->Hp->Prop} (I:Inv X pins σ H s)
  (h:ta σ H λx H1=>tb σ H1 λy H2=>R x y H2) {Q:Value->Shared->Prop} {f:Value->Value->Sem Value}
  (hf:∀ v u s2 x y H2,Inv X pins σ H2 s2->u0 x v->u0 y u->R x y H2->wpAny (model X.prog X.w) X.A (f v u) Q X.xe s2) :
  wpAny (model X.prog X.w) X.A (eval a X.env) (λv s₁=>wpAny (model X.prog X.w) X.A (eval b X.env) (λu s₂=>wpAny (model X.prog X.w) X.A (f v u) Q X.xe s₂) X.xe s₁) X.xe s:=by
 refine thn (ha pins s σ H _ I h) λv s1 zq=>?_;obtain ⟨x,H1,I1,r1,q1⟩:=zq;refine thn (hb pins s1 σ H1 _ I1 q1) λu s2 zq=>?_;obtain ⟨y,H2,I2,r2,q2⟩:=zq;exact hf v u s2 x y H2 I2 r1 r2 q2
theorem d4 {op:Operator} {r:R2} (ho:OpR X (binaryOp op) r) (ha:PE X a ta) (hb:PE X b tb):PE X (.BinOp a op b pos) (tOp r ta tb):=by
 intro pins s σ H Q I h;exact wpAny_BinOp (by7 ha hb I h λv u s2 x y H2 I2 rx ry q=>ho pins s2 σ H2 x y v u Q I2 rx ry q)
theorem E6 {op:UnaryOp} {r:V->Hp->VK->Prop} (ho:UnR X (unaryOp op) r) (ha:PE X a ta):PE X (.UnaryOp op a pos) (tUn r ta):=by
 intro pins s σ H Q I h;exact UnaryOp_ (thn (ha pins s σ H _ I h) λv s1 ⟨x,H1,I1,r1,q1⟩=>ho pins s1 σ H1 x v Q I1 r1 q1)
theorem opI {f:Value->Value->Sem Value} {C:Int->Int->Prop} {g:Int->Int->Int}
  (rule:∀ (i j:Int) (t u:Tok) (s:Shared) (Q:Value->Shared->Prop) (E:Value->Shared->Prop),C i j->Q (.int (g i j) s.toks) { s with toks:=s.toks+1 }->wpAny (model X.prog X.w) X.A (f (.int i t) (.int j u)) Q E s) :
  OpR X f (rI C λi j=>.int (g i j)):=by
 intro pins s σ H x y v u Q I rx ry h;obtain ⟨i,j,rfl,rfl,hc,q⟩:=h;obtain ⟨t,rfl⟩:=rx;obtain ⟨t',rfl⟩:=ry;exact rule i j t t' s _ _ hc ⟨.int (g i j),H,I.tok _,⟨_,rfl⟩,q⟩
theorem bB1 {f:Value->Value->Sem Value} {g:Int->Int->Int}
  (rule:∀ (i j:Int) (t u:Tok) (s:Shared) (Q:Value->Shared->Prop) (E:Value->Shared->Prop),Q (.int (g i j) s.toks) { s with toks:=s.toks+1 }->wpAny (model X.prog X.w) X.A (f (.int i t) (.int j u)) Q E s) :
  OpR X f (rI0 λi j=>.int (g i j)):=by
 intro pins s σ H x y v u Q I rx ry h;obtain ⟨i,j,rfl,rfl,q⟩:=h;obtain ⟨t,rfl⟩:=rx;obtain ⟨t',rfl⟩:=ry;exact rule i j t t' s _ _ ⟨.int (g i j),H,I.tok _,⟨_,rfl⟩,q⟩
theorem bl2 {f:Value->Value->Sem Value} {g:Int->Int->Bool}
  (rule:∀ (i j:Int) (t u:Tok) (s:Shared) (Q:Value->Shared->Prop) (E:Value->Shared->Prop),Q (.bool (g i j)) s->wpAny (model X.prog X.w) X.A (f (.int i t) (.int j u)) Q E s) :
  OpR X f (rI0 λi j=>.bl (g i j)):=by
 intro pins s σ H x y v u Q I rx ry h;obtain ⟨i,j,rfl,rfl,q⟩:=h;obtain ⟨t,rfl⟩:=rx;obtain ⟨t',rfl⟩:=ry;exact rule i j t t' s _ _ ⟨.bl (g i j),H,I,rfl,q⟩
def bp6 (i j:Int):Prop:=0<=j/\j<=1000000/\i.natAbs<2 ^ 64
theorem D3:OpR X (binaryOp .Add) (rI0 λi j=>.int (i+j)):=bB1 λ_ _ _ _ _ _ _ q=>add_int q
theorem A8:OpR X (binaryOp .Sub) (rI0 λi j=>.int (i-j)):=bB1 λ_ _ _ _ _ _ _ q=>sub_int q
theorem L7:OpR X (binaryOp .Mod) (rI (λ_ j=>j ≠ 0) λi j=>.int (i.fmod j)):=opI λ_ _ _ _ _ _ _ hc q=>mod_int' hc q
theorem ab4:OpR X (binaryOp .Pow) (rI bp6 λi j=>.int (i ^ j.toNat)):=opI λ_ _ _ _ _ _ _ hc q=>pow_int_small hc.1 hc.2.1 hc.2.2 q
theorem bv0:OpR X (binaryOp .LShift) (rI bp6 λi j=>.int (i*2 ^ j.toNat)):=opI λ_ _ _ _ _ _ _ hc q=>lshift_int_small hc.1 hc.2.1 hc.2.2 q
theorem unI {f:Value->Sem Value} {g:Int->Int}
  (rule:∀ (i:Int) (t:Tok) (s:Shared) (Q:Value->Shared->Prop) (E:Value->Shared->Prop),Q (.int (g i) s.toks) { s with toks:=s.toks+1 }->wpAny (model X.prog X.w) X.A (f (.int i t)) Q E s) :
  UnR X f (rU λi=>.int (g i)):=by
 intro pins s σ H x v Q I rx h;obtain ⟨i,rfl,q⟩:=h;obtain ⟨t,rfl⟩:=rx;exact rule i t s _ _ ⟨.int (g i),H,I.tok _,⟨_,rfl⟩,q⟩
theorem A7:UnR X (unaryOp .USub) (rU λi=>.int (-i)):=unI λ_ _ _ _ _ q=>neg_int q
def aV6:V->V->Bool
 | .non,.non=>true | .non,.int _=>true | .int _,.non=>true | .non,.bl _=>true | .bl _,.non=>true | .non,.str _=>true | .str _,.non=>true
 | .int _,.int _=>true | .bl _,.bl _=>true | .str _,.str _=>true | .byt _,.byt _=>true
 | .int _,.str _=>true | .str _,.int _=>true | .bl _,.str _=>true | .str _,.bl _=>true
 | _,_=>false
def rEq:R2:=λx y H Q=>aV6 x y=true/\Q (.bl (decide (x=y))) H
def rNe:R2:=λx y H Q=>aV6 x y=true/\Q (.bl (!decide (x=y))) H
theorem aT6 {i j:Int}:decide (V.int i=V.int j)=(i == j):=by
 rw [u0f]
 simp
theorem bh3 {i j:Bool}:decide (V.bl i=V.bl j)=(i == j):=by
 rw [u0f]
 simp
theorem aT5 {i j:Str}:decide (V.str i=V.str j)=(i == j):=by
 rw [u0f]
 simp
theorem aT7 {i j:Array UInt8}:decide (V.byt i=V.byt j)=(i.toList == j.toList):=by
 rw [u0f]
 cases i
 cases j
 simp
theorem t4 {pins:List (Addr × Obj)} {σ:St} {H:Hp} {s:Shared} {Q:VK} {k k':Bool} (I:Inv X pins σ H s) (q:Q (.bl k) H) (e:k=k'):EP X pins σ Q (.bool k') s:=by
 subst e;exact ⟨.bl k,H,I,rfl,q⟩
theorem an0:OpR X (compareOp .Eq) rEq:=by
 intro pins s σ H x y v u Q I rx ry h;obtain ⟨hs,q⟩:=h
 cases x with
 | non =>
  cases rx
  cases y with
  | non=>cases ry;exact PySem.EqNone.eq_none_none (t4 I q (by simp))
  | bl j=>cases ry;exact PySem.EqNone.eq_none_bool (t4 I q (by simp))
  | int j=>obtain ⟨t',rfl⟩:=ry;exact PySem.EqNone.eq_none_int (t4 I q (by simp))
  | str j=>obtain ⟨t',rfl⟩:=ry;exact PySem.EqNone.eq_none_str (t4 I q (by simp))
  | _=>exact absurd (show false=true from hs) q0n
 | bl i =>
  cases rx
  cases y with
  | non=>cases ry;exact PySem.EqNone.eq_bool_none (t4 I q (by simp))
  | bl j=>cases ry;exact eq_bool (t4 I q bh3)
  | str j=>obtain ⟨t',rfl⟩:=ry;exact PySem.EqMixed.eq_bool_str (t4 I q (by simp))
  | _=>exact absurd (show false=true from hs) q0n
 | int i =>
  obtain ⟨t,rfl⟩:=rx
  cases y with
  | non=>cases ry;exact PySem.EqNone.eq_int_none (t4 I q (by simp))
  | int j=>obtain ⟨t',rfl⟩:=ry;exact eq_int (t4 I q aT6)
  | str j=>obtain ⟨t',rfl⟩:=ry;exact PySem.EqMixed.eq_int_str (t4 I q (by simp))
  | _=>exact absurd (show false=true from hs) q0n
 | str i =>
  obtain ⟨t,rfl⟩:=rx
  cases y with
  | non=>cases ry;exact PySem.EqNone.eq_str_none (t4 I q (by simp))
  | bl j=>cases ry;exact PySem.EqMixed.eq_str_bool (t4 I q (by simp))
  | int j=>obtain ⟨t',rfl⟩:=ry;exact PySem.EqMixed.eq_str_int (t4 I q (by simp))
  | str j=>obtain ⟨t',rfl⟩:=ry;exact eq_str (t4 I q aT5)
  | _=>exact absurd (show false=true from hs) q0n
 | byt i =>
  obtain ⟨t,rfl⟩:=rx
  cases y with
  | byt j=>obtain ⟨t',rfl⟩:=ry;exact PySem.W.eq_bytes (t4 I q aT7)
  | _=>exact absurd (show false=true from hs) q0n
 | _=>cases y <;> exact absurd (show false=true from hs) q0n
theorem aI0:OpR X (compareOp .NotEq) rNe:=by
 intro pins s σ H x y v u Q I rx ry h;obtain ⟨hs,q⟩:=h
 cases x with
 | non =>
  cases rx
  cases y with
  | non=>cases ry;exact PySem.EqNone.ne_none_none (t4 I q (by simp))
  | bl j=>cases ry;exact PySem.EqNone.ne_none_bool (t4 I q (by simp))
  | int j=>obtain ⟨t',rfl⟩:=ry;exact PySem.EqNone.ne_none_int (t4 I q (by simp))
  | str j=>obtain ⟨t',rfl⟩:=ry;exact PySem.EqNone.ne_none_str (t4 I q (by simp))
  | _=>exact absurd (show false=true from hs) q0n
 | bl i =>
  cases rx
  cases y with
  | non=>cases ry;exact PySem.EqNone.ne_bool_none (t4 I q (by simp))
  | bl j=>cases ry;exact ne_bool (t4 I q (congrArg not bh3))
  | str j=>obtain ⟨t',rfl⟩:=ry;exact PySem.EqMixed.ne_bool_str (t4 I q (by simp))
  | _=>exact absurd (show false=true from hs) q0n
 | int i =>
  obtain ⟨t,rfl⟩:=rx
  cases y with
  | non=>cases ry;exact PySem.EqNone.ne_int_none (t4 I q (by simp))
  | int j=>obtain ⟨t',rfl⟩:=ry;exact ne_int (t4 I q (congrArg not aT6))
  | str j=>obtain ⟨t',rfl⟩:=ry;exact PySem.EqMixed.ne_int_str (t4 I q (by simp))
  | _=>exact absurd (show false=true from hs) q0n
 | str i =>
  obtain ⟨t,rfl⟩:=rx
  cases y with
  | non=>cases ry;exact PySem.EqNone.ne_str_none (t4 I q (by simp))
  | bl j=>cases ry;exact PySem.EqMixed.ne_str_bool (t4 I q (by simp))
  | int j=>obtain ⟨t',rfl⟩:=ry;exact PySem.EqMixed.ne_str_int (t4 I q (by simp))
  | str j=>obtain ⟨t',rfl⟩:=ry;exact ne_str (t4 I q (congrArg not aT5))
  | _=>exact absurd (show false=true from hs) q0n
 | byt i =>
  obtain ⟨t,rfl⟩:=rx
  cases y with
  | byt j=>obtain ⟨t',rfl⟩:=ry;exact PySem.W.ne_bytes (t4 I q (congrArg not aT7))
  | _=>exact absurd (show false=true from hs) q0n
 | _=>cases y <;> exact absurd (show false=true from hs) q0n
theorem aj1:OpR X (compareOp .Lt) (rI0 λi j=>.bl (decide (i<j))):=bl2 λ_ _ _ _ _ _ _ q=>lt_int q
theorem bc8:OpR X (compareOp .LtE) (rI0 λi j=>.bl (decide (i<=j))):=bl2 λ_ _ _ _ _ _ _ q=>le_int q
theorem ax0:OpR X (compareOp .Gt) (rI0 λi j=>.bl (decide (j<i))):=bl2 λ_ _ _ _ _ _ _ q=>gt_int q
theorem bB0:OpR X (compareOp .GtE) (rI0 λi j=>.bl (decide (j<=i))):=bl2 λ_ _ _ _ _ _ _ q=>ge_int q
theorem bv1:OpR X (compareOp .Is) (λx y H Q=>y=.non/\Q (.bl (decide (x=.non))) H):=by
 intro pins s σ H x y v u Q I rx ry h;obtain ⟨rfl,q⟩:=h
 cases ry
 refine is_none_gen (t4 I q ?_)
 cases x <;> first
  | (cases rx;rfl)
  | (obtain ⟨t,rfl⟩:=rx;rfl)
theorem aR5:OpR X (compareOp .IsNot) (λx y H Q=>y=.non/\Q (.bl (!decide (x=.non))) H):=by
 intro pins s σ H x y v u Q I rx ry h;obtain ⟨rfl,q⟩:=h
 cases ry
 refine isnot_none_gen (t4 I q ?_)
 cases x <;> first
  | (cases rx;rfl)
  | (obtain ⟨t,rfl⟩:=rx;rfl)
theorem l5 (b:Expr) {op:CmpOp} (h:op ≠ .In:=by decide) (h2:op ≠ .NotIn:=by decide):behindInMarks op b=false:=by
 have e1:(op == CmpOp.In)=false:=by cases op <;> first | rfl | exact absurd rfl h
 have e2:(op == CmpOp.NotIn)=false:=by cases op <;> first | rfl | exact absurd rfl h2
 cases b <;> simp [behindInMarks,e1,e2]
theorem Y7 {op:CmpOp} {r:R2} (ho:OpR X (compareOp op) r) (ha:PE X a ta) (hb:PE X b tb) (hm:behindInMarks op b=false):PE X (.Compare a [op] [b] pos) (tOp r ta tb):=by
 intro pins s σ H Q I h;exact wpAny_Compare1 (by7 ha hb I h λv u s2 x y H2 I2 rx ry q=>ho pins s2 σ H2 x y v u Q I2 rx ry q) hm
def aP7 (t:TE):TT:=λσ H Q=>t σ H λx H' => ∃ k,x=.bl k/\Q k H'
theorem j9 {op:CmpOp} {r:R2} (ho:OpR X (compareOp op) r) (ha:PE X a ta) (hb:PE X b tb) (hm:behindInMarks op b=false):PT X (.Compare a [op] [b] pos) (aP7 (tOp r ta tb)):=by
 intro pins s σ H Q I h
 refine wpAny_isTrue_Compare1 (thn (ha pins s σ H _ I h) λv s1 ⟨x,H1,I1,r1,q1⟩=>thn (hb pins s1 σ H1 _ I1 q1) λu s2 ⟨y,H2,I2,r2,q2⟩ =>
  thn (ho pins s2 σ H2 x y v u _ I2 r1 r2 q2) λc s3 ⟨z,H3,I3,r3,k,e,q3⟩=>?_) hm
 subst e
 cases r3
 exact wpAny_truthy_bool ⟨H3,I3,q3⟩
def aP4 (K:q0a) (x:V) (H:Hp) (k:Bool):Prop :=
 match x with
 | .non=>k=false
 | .bl b=>k=b
 | .int i=>k=(i != 0)
 | .str y=>y.length<=sizeLine/\k=((y.length:Int) != 0)
 | .byt y=>y.size<=sizeLine/\k=((y.size:Int) != 0)
 | .ref p=>(∃ xs,SqL K H p xs/\k = !xs.isEmpty) \/ (∃ xs,SqT K H p xs/\k = !xs.isEmpty) \/ ∃ kvs,H p=some (.dK kvs)/\k = !kvs.isEmpty
 | _=>False
theorem aO2 {κ:Type} {kvs:List (κ × V)} {vs:List (κ × Value)} (r:KV kvs vs):(!vs.isEmpty) = !kvs.isEmpty:=by
 cases r <;> rfl
theorem as4 {xs:List V} {its:List Value} (r:j8 xs its):(!its.toArray.isEmpty) = !xs.isEmpty:=by
 cases r <;> simp
theorem ag2:(sizeLine:Nat)<2 ^ 63:=by rw [sizeLine_eq];decide
theorem br7:bE2 X (λx H Q => ∃ k,aP4 X.K x H k/\Q k H):=by
 intro pins s σ H x v Q I rx h;obtain ⟨k,e,q⟩:=h;have hl:=ag2;have hs:sizeLine=16777216:=sizeLine_eq
 cases x with
 | non =>
  cases rx
  have e':k=false:=e;subst e';exact truthy_none ⟨H,I,q⟩
 | bl b =>
  cases rx
  have e':k=b:=e;subst e';exact wpAny_truthy_bool ⟨H,I,q⟩
 | int i =>
  obtain ⟨t,rfl⟩:=rx;have e':k=(i != 0):=e;subst e';exact PySem.P.truthy_int ⟨H,I,q⟩
 | str y =>
  obtain ⟨t,rfl⟩:=rx;obtain ⟨hy,e'⟩:y.length<=sizeLine/\k=((y.length:Int) != 0):=e;subst e';exact PySem.P.truthy_str ⋯ ⟨H,I.tok _,q⟩
 | byt y =>
  obtain ⟨t,rfl⟩:=rx;obtain ⟨hy,e'⟩:y.size<=sizeLine/\k=((y.size:Int) != 0):=e;subst e';exact PySem.W.truthy_bytes ⋯ ⟨H,I.tok _,q⟩
 | ref p =>
  cases rx
  have e':(∃ xs,SqL X.K H p xs/\k = !xs.isEmpty) \/ (∃ xs,SqT X.K H p xs/\k = !xs.isEmpty) \/ ∃ kvs,H p=some (.dK kvs)/\k = !kvs.isEmpty:=e;rcases e' with ⟨xs,hx,e'⟩ | ⟨xs,hx,e'⟩ | ⟨kvs,hx,e'⟩
  ·subst e'
   obtain ⟨its,r,pl,hz⟩:=I.list hx;have hlen:=r.length;exact wpAny_truthy_list pl.isList (by simp only [q0g];omega) ⟨H,I.tok _,by rw [as4 r];exact q⟩
  ·subst e'
   obtain ⟨its,r,pl,hz⟩:=I.tuple hx;have hlen:=r.length;exact truthy_tuple pl (by simp only [q0g];omega) ⟨H,I.tok _,by rw [as4 r];exact q⟩
  ·subst e'
   obtain ⟨hz,hS,vs,r,m⟩:kvs.length<=sizeLine/\(p == sysModules)=false/\∃ vs,KV kvs vs/\s.heap.DictOf (aD5 X.prog X.w) p vs:=I.hok p _ hx;have hlen:kvs.length=vs.length:=Paired.length r;exact wpAny_truthy_dict hS m ⋯ ⟨H,I.tok _,by rw [aO2 r];exact q⟩
 | _=>exact (show False from e).elim
theorem ar2 (ha:PE X a ta) (he:∀ whole,isTrue a X.env whole=(do let v <- whole;standAt a.pos;holding [v] (truthy v))) :
  PT X a (λσ H Q=>ta σ H λx H' => ∃ k,aP4 X.K x H' k/\Q k H'):=by
 intro pins s σ H Q I h;exact isTrue_plain (thn (ha pins s σ H _ I h) λv s1 ⟨x,H1,I1,r1,q1⟩=>br7 pins s1 σ H1 x v Q I1 r1 q1) (he _)
theorem ah1 {x:V} {us:List Value} (r:j8 [x] us):∃ u,us=[u]/\u0 x u:=by
 cases r with
 | cons r1 r2=>cases r2;exact ⟨_,rfl,r1⟩
theorem bp7 {x y:V} {us:List Value} (r:j8 [x,y] us):∃ u w',us=[u,w']/\u0 x u/\u0 y w':=by
 cases r with
 | cons r1 r2 =>
  cases r2 with
  | cons r3 r4=>cases r4;exact ⟨_,_,rfl,r1,r3⟩
theorem V8:ac6 X (.builtin "abs") (λxs H Q => ∃ i,xs=[.int i]/\Q (.int (if i<0 then -i else i)) H):=by
 intro pins s σ H xs us Q I r h;obtain ⟨i,rfl,q⟩:=h;obtain ⟨u,rfl,t,rfl⟩:=ah1 r;exact call_abs_int λu tk=>⟨.int (if i<0 then -i else i),H,I.tok _,⟨_,rfl⟩,q⟩
theorem am4 (hc:X.calm=true):ac6 X (.builtin "max") (λxs H Q => ∃ i j,xs=[.int i,.int j]/\Q (.int (if j > i then j else i)) H):=by
 intro pins s σ H xs us Q I r h;obtain ⟨i,j,rfl,q⟩:=h;obtain ⟨u,w',rfl,⟨t,rfl⟩,⟨t',rfl⟩⟩:=bp7 r;refine max_two_ints (I.ok.hd hc) λh' tk k=>⟨_,H,I.kept k,?_,q⟩
 by_cases hj:j > i
 ·rw [if_pos hj,if_pos hj];exact ⟨_,rfl⟩
 ·rw [if_neg hj,if_neg hj];exact ⟨_,rfl⟩
theorem aY7 (hc:X.calm=true):ac6 X (.builtin "min") (λxs H Q => ∃ i j,xs=[.int i,.int j]/\Q (.int (if j<i then j else i)) H):=by
 intro pins s σ H xs us Q I r h;obtain ⟨i,j,rfl,q⟩:=h;obtain ⟨u,w',rfl,⟨t,rfl⟩,⟨t',rfl⟩⟩:=bp7 r;refine min_two_ints (I.ok.hd hc) λh' tk k=>⟨_,H,I.kept k,?_,q⟩
 by_cases hj:j<i
 ·rw [if_pos hj,if_pos hj];exact ⟨_,rfl⟩
 ·rw [if_neg hj,if_neg hj];exact ⟨_,rfl⟩
theorem am5:ac6 X (.type "int") (λxs H Q=>(∃ i,xs=[.int i]/\Q (.int i) H) \/ ∃ k,xs=[.bl k]/\Q (.int (if k then 1 else 0)) H):=by
 intro pins s σ H xs us Q I r h;rcases h with ⟨i,rfl,q⟩ | ⟨k,rfl,q⟩
 ·obtain ⟨u,rfl,t,rfl⟩:=ah1 r
  exact call_int_int ⟨.int i,H,I,⟨_,rfl⟩,q⟩
 ·obtain ⟨u,rfl,r1⟩:=ah1 r
  cases r1
  exact call_int_bool ⟨.int (if k then 1 else 0),H,I.tok _,⟨_,rfl⟩,q⟩
end
structure bz5 (h:Heap) (x dx C:Addr) (mA:Str->Option Value):Prop where
 obj:h.get? x=some (q1g C dx)
 ns:h.Ns1 dx mA
 ne:dx ≠ x
theorem aX3 {h:Heap} {dx:Addr} {mA:Str->Option Value} (n:h.Ns1 dx mA):∃ od,h.get? dx=some od/\∀ name,q1t name od=some (mA name):=by
 obtain ⟨o,es,ep,ho,hd,hk,_,hm⟩:=n;refine ⟨o,ho,λname=>?_⟩;have e:=hm name;unfold nsFind findBy at e;rw [<- Array.find?_toList] at e;unfold q1t;rw [hd]
 dsimp only
 split
 ·rename_i y q
  rw [q] at e;exact congrArg some e
 ·rename_i q
  rw [q] at e
  have a:es.toList.any (·.refKey)=false:=by
   rw [List.any_eq_false];intro y hy;obtain ⟨z,t,hkey⟩:=hk y (Array.mem_toList_iff.mp hy)
   simp [DictEntry.refKey,hkey]
  have a':¬ es.toList.any (·.refKey)=true:=by rw [a];exact q0n
  rw [if_neg a'];exact congrArg some e
theorem bz5.look {h:Heap} {x dx C:Addr} {mA:Str->Option Value} (I:bz5 h x dx C mA):∃ od,PySem.W.InstAt h x (q1g C dx) C (some od)/\∀ name,q1t name od=some (mA name) :=
 let ⟨od,ho,hl⟩:=aX3 I.ns
 ⟨od,⟨I.obj,rfl,rfl,ho⟩,hl⟩
section
variable {P:Program} {w:World} {H H':Hp} {h h':Heap} {a C dx:Addr} {fs fs':List (Str × V)}
theorem bn1 (hok:HOk P w H h) (e:H a=some (.ins C dx fs)):∃ mA,bz5 h a dx C mA/\(∀ f,bz1 (fs.lookup f) (mA f))/\PySem.Within mA (fs.map (·.1))/\fs.length<=1000/\H dx=some (.own a):=by
 obtain ⟨d,z,ne,ob,mA,n,r,q⟩:=(show C2 P w H h a (.ins C dx fs) from hok a _ e);exact ⟨mA,⟨ob,n,ne⟩,r,q,z,d⟩
end
structure Cls (K:q0a) (C:Addr):Prop where
 pg:PySem.W.plainGet K C Str.empty=true
 hd:PySem.W.hasDictIn K C=true
 po:PySem.W.plainOver K C=true
 sa:u0m K (.ref C) "__setattr__" = some (some (.builtin "object.__setattr__"))
theorem Cls.get {K:q0a} {C:Addr} (c:Cls K C) (f:Str):PySem.W.plainGet K C f=true:=c.pg
structure Con (K:q0a) (C:Addr) (f:Str) (v:V) (u:Value):Prop where
 at_:u0m K (.ref C) f=some (some u)
 rel:u0 v u
 get:PySem.W.specialIn K u "__get__" = some none
 cp:PySem.W.copiedNames.contains f=false
structure Meth (K:q0a) (C:Addr) (m:Str) (f:Addr):Prop where
 at_:u0m K (.ref C) m=some (some (.ref f))
 fn:PySem.W.isFn K (.ref f)=true
 kp:y0r K (.ref f)=true
section
variable {X:Cx} {pins:List (Addr × Obj)} {σ:St} {H:Hp} {s:Shared} {A:Around} {E:Value->Shared->Prop} {Q:Value->Shared->Prop} {c:Value} {b:Bool}
inductive am7 (K:q0a) (H:Hp):V->Value->Prop where
 | non:am7 K H .non (.type "NoneType")
 | bl (x:Bool):am7 K H (.bl x) (.type "bool")
 | int (i:Int):am7 K H (.int i) (.type "int")
 | str (x:Str):am7 K H (.str x) (.type "str")
 | flt (x:UInt64):am7 K H (.flt x) (.type "float")
 | lst {a:Addr} {xs:List V} (e:H a=some (.lst xs)):am7 K H (.ref a) (.type "list")
 | frz {a:Addr} {o:Obj} {xs:List V} (e:H a=some (.frz o (.lst xs))):am7 K H (.ref a) (.type "list")
 | tup {a:Addr} {xs:List V} (e:H a=some (.tup xs)):am7 K H (.ref a) (.type "tuple")
 | dK {a:Addr} {kvs:List (Key × V)} (e:H a=some (.dK kvs)):am7 K H (.ref a) (.type "dict")
 | dT {a:Addr} {kvs:List (List Key × V)} (e:H a=some (.dT kvs)):am7 K H (.ref a) (.type "dict")
 | ins {a C dx:Addr} {fs:List (Str × V)} (e:H a=some (.ins C dx fs)) (cl:Cls K C) (ha:u0m K (.ref C) "__class__" = some (some (.builtin "object.__class__")))
   (hn:PySem.W.specialIn K (.builtin "object.__class__") "__get__" = some (some (.builtin "getset_descriptor.__get__"))) (htk:PySem.W.takesIn K (.builtin "object.__class__")=some true)
   (hm:PySem.W.mroIn K C (.type "object")=some true):am7 K H (.ref a) (.ref C)
theorem aX6 {x:V} {u t:Value} (I:Inv X pins σ H s) (rx:u0 x u) (ty:am7 X.K H x t) (e:z0m X.K t c=some b) (h:∀ tk,Q (.bool b) { s with toks:=tk }) :
  wpAny (model X.prog X.w) A (call (.builtin "isinstance") [u,c]) Q E s:=by
 cases ty with
 | non=>cases (show u=Value.none from rx);exact j0x PySem.W.kitx_none I.kIn True.intro e (λz=>nomatch z) h
 | bl y=>cases (show u=Value.bool y from rx);exact j0x PySem.W.kitx_bool I.kIn True.intro e (λz=>nomatch z) h
 | int i=>obtain ⟨t,q⟩:=(show ∃ t,u=Value.int i t from rx);cases q;exact j0x PySem.W.kitx_int I.kIn True.intro e (λz=>nomatch z) h
 | str y=>obtain ⟨t,q⟩:=(show ∃ t,u=Value.str y t from rx);cases q;exact j0x PySem.W.kitx_str I.kIn True.intro e (λz=>nomatch z) h
 | flt y=>obtain ⟨t,q⟩:=(show ∃ t,u=Value.float y t from rx);cases q;exact j0x PySem.W.kitx_float I.kIn True.intro e (λz=>nomatch z) h
 | @lst a xs ea =>
  cases (show u=Value.ref a from rx)
  obtain ⟨_,_,n,_,h1⟩:=(show C2 X.prog X.w H s.heap a (.lst xs) from I.hok a _ ea);exact j0x PySem.W.kitx_list I.kIn ⟨_,h1,rfl⟩ e (λz=>nomatch z) h
 | @frz a ob xs ea =>
  cases (show u=Value.ref a from rx)
  obtain ⟨_,_,_,n,_,h1⟩:=(show C2 X.prog X.w H s.heap a (.frz ob (.lst xs)) from I.hok a _ ea);exact j0x PySem.W.kitx_list I.kIn ⟨_,h1,rfl⟩ e (λz=>nomatch z) h
 | @tup a xs ea =>
  cases (show u=Value.ref a from rx)
  obtain ⟨_,_,_,p⟩:=(show C2 X.prog X.w H s.heap a (.tup xs) from I.hok a _ ea);obtain ⟨o,h1,h2,_⟩:=p;exact j0x PySem.W.kitx_tuple I.kIn ⟨o,h1,h2⟩ e (λz=>nomatch z) h
 | @dK a kvs ea =>
  cases (show u=Value.ref a from rx)
  obtain ⟨_,_,vs,_,p⟩:=(show C2 X.prog X.w H s.heap a (.dK kvs) from I.hok a _ ea);obtain ⟨o,es,ep,h1,h2,_⟩:=p;exact j0x PySem.W.kitx_dict I.kIn ⟨o,h1,h2.1⟩ e (λz=>nomatch z) h
 | @dT a kvs ea =>
  cases (show u=Value.ref a from rx)
  obtain ⟨_,_,xs,_,o,es,ep,h1,h2,_⟩:=(show C2 X.prog X.w H s.heap a (.dT kvs) from I.hok a _ ea);exact j0x PySem.W.kitx_dict I.kIn ⟨o,h1,h2.1⟩ e (λz=>nomatch z) h
 | @ins a C dx fs ea cl ha hn htk hm =>
  cases (show u=Value.ref a from rx)
  obtain ⟨mA,O,_⟩:=bn1 I.hok ea;obtain ⟨od,J,_⟩:=O.look;exact j0x (PySem.W.kitx_own (cl.get _) cl.hd ha hn htk hm) I.kIn J e (λz=>nomatch z) h
end
structure Q6 (k:Nat) (A:Around):Prop where
 hd:A.handled=none
 dp:A.depth+3*k+5<recursionLimit
 un:A.units+16*k+200<cLine
theorem Q6.mono {j k:Nat} {A:Around} (r:Q6 k A) (h:j<=k):Q6 j A:=⟨r.hd,by have:=r.dp;omega,by have:=r.un;omega⟩
theorem Q6.deeper {k:Nat} {A:Around} (r:Q6 (k+1) A) (env:Env):Q6 k (A.deeper env) :=
 ⟨r.hd,by have:=r.dp;show A.depth+1+3*k+5<_;omega,by have:=r.un;show A.units+3+16*k+200<_;omega⟩
theorem Q6.depth {k:Nat} {A:Around} (r:Q6 k A):A.depth<recursionLimit:=by have:=r.dp;omega
theorem Q6.units {k:Nat} {A:Around} (r:Q6 k A):A.units+64<cLine:=by have:=r.un;omega
def aL5:TA:=λ_ H Q=>Q [] H
def ah3 (ta:TE) (tr:TA):TA:=λσ H Q=>ta σ H λx H1=>tr σ H1 λxs H2=>Q (x :: xs) H2
section
variable {X:Cx} {e:Expr} {es:List Expr} {te:TE} {t:TA} {pos:Pos}
theorem a8:PA X [] aL5:=λ_ _ _ _ H Q I h=>Calls.spliced_nil ⟨[],H,I,.nil,h⟩
theorem a7 (ha:PE X e te) (hr:PA X es t) (hs:starEach (e :: es) X.env=(false,eval e X.env) :: starEach es X.env:=by rfl):PA X (e :: es) (ah3 te t):=by
 intro pos pins s σ H Q I h;rw [hs]
 show wpAny _ _ (spliced ((false,eval e X.env) :: backTo pos (starEach es X.env))) _ _ s;refine Calls.spliced_cons (thn (ha pins s σ H _ I h) λu s1 zq=>?_);obtain ⟨x,H1,I1,r1,q1⟩:=zq;refine thn (hr pos pins s1 σ H1 _ I1 q1) λus s2 zq=>?_;obtain ⟨xs,H2,I2,r2,q2⟩:=zq;exact ⟨x :: xs,H2,I2,.cons r1 r2,q2⟩
def bj6 (t:TA):TE:=λσ H Q=>t σ H λxs H1=>xs.length<=sizeLine/\∀ p,H1 p=none->Q (.ref p) (upd H1 p (.tup xs))
def bs1 (t:TA):TE:=λσ H Q=>t σ H λxs H1=>xs.length<=sizeLine/\∀ p,H1 p=none->Q (.ref p) (upd H1 p (.lst xs))
theorem l6 {x1} (h:PA X es t):PE X (.Tuple es x1 pos) (bj6 t):=by
 intro pins s σ H Q I hq;refine wpAny_Tuple_spliced (thn (h pos pins s σ H _ I hq) λus s1 ⟨xs,H1,I1,r,z,q⟩=>⟨by rw [<- r.length];exact z,?_⟩)
 have hf:H1 s1.heap.objs.size=none:=I1.hok.fresh (q0j _);refine ⟨.ref s1.heap.objs.size,upd H1 s1.heap.objs.size (.tup xs),I1.laid (t':=s1.toks) (λb u e=>q0h _ e) (q0j _) ?_,rfl,q _ hf⟩;exact ⟨z,us,r,⟨_,z0j _ rfl,rfl,_,rfl⟩⟩
theorem t8 (h:PA X es t):PE X (.List es pos) (bs1 t):=by
 intro pins s σ H Q I hq;refine wpAny_List_spliced (thn (h pos pins s σ H _ I hq) λus s1 ⟨xs,H1,I1,r,z,q⟩=>⟨by rw [<- r.length];exact z,?_⟩)
 have hf:H1 s1.heap.objs.size=none:=I1.hok.fresh (q0j _);refine ⟨.ref s1.heap.objs.size,upd H1 s1.heap.objs.size (.lst xs),I1.laid (t':=s1.toks) (λb u e=>q0h _ e) (q0j _) ?_,rfl,q _ hf⟩;exact ⟨z,us,0,r,z0j _ rfl⟩
end
abbrev Sp:=List V->Hp->VK->XK->Prop
abbrev CXT:=List Env->Hp->Shared->XK->Value->Shared->Prop
structure aZ1 (P:Program) (w:World) (K:q0a) (mg:Str->Option Value) (base:Heap) (A:Around) (outer:List Env) (s:Shared) (H:Hp):Prop where
 frames:A.frames=some outer
 mod:Mod K mg base
 bs:∀ b o,base.get? b=some o->s.heap.get? b=some o/\H b=none
 bsz:base.objs.size<=s.heap.objs.size
 funs:s.heap.FunFrames base outer
 frf:∀ b ∈ frs outer,H b=none
 hok:HOk P w H s.heap
 bare:AllBare s.gens
def CE (outer:List Env) (P:Program) (w:World) (H:Hp) (s:Shared) (Q:VK) (u:Value) (s':Shared):Prop :=
 ∃ v H',s'.os=s.os/\AllBare s'.gens/\Un (frs outer) [] H H' s.heap s'.heap/\HOk P w H' s'.heap/\u0 v u/\Q v H'
def CR (CX:CXT) (outer:List Env) (P:Program) (w:World) (H:Hp) (s:Shared) (Q:VK) (E:XK) (r:Result) (s':Shared):Prop :=
 match r with
 | .ok (.ret u)=>CE outer P w H s Q u s'
 | .ok _=>False
 | .error e=>CX outer H s E e s'
structure ak5 (P:Program) (w:World) (K:q0a) (mg:Str->Option Value) (base:Heap) (CX:CXT) (k:Nat) (f:Addr) (fd:FuncData) (ps:List Str) (sp:Sp):Prop where
 len:∀ vs H Q E,sp vs H Q E->vs.length=ps.length
 run:∀ (A:Around) (outer:List Env) (s:Shared) (H:Hp) (args:Args) (us:List Value) (vs:List V) (Q:VK) (E:XK),Q6 k A->aZ1 P w K mg base A outer s H->BindsTo s fd args (ps.zip us)->j8 vs us->sp vs H Q E ->
  codeAny (model P w) A (.call (.ref f) args) (CR CX outer P w H s Q E) s
theorem ak5.mono {P:Program} {w:World} {K:q0a} {mg:Str->Option Value} {base:Heap} {CX:CXT} {j k:Nat} {f:Addr} {fd:FuncData} {ps:List Str} {sp:Sp} (F:ak5 P w K mg base CX j f fd ps sp) (h:j<=k) :
  ak5 P w K mg base CX k f fd ps sp:=⟨F.len,λA outer s H args us vs Q E hr=>F.run A outer s H args us vs Q E (hr.mono h)⟩
section
variable {X:Cx} {pins:List (Addr × Obj)} {σ:St} {H:Hp} {s s':Shared}
theorem Inv.env0 (I:Inv X pins σ H s):aZ1 X.prog X.w X.K X.mg X.base X.A X.stack s H :=
 ⟨I.ok.frames,I.ok.mod,I.bs,z0p I.ok.bsz I.sz,I.stack,I.stkFree,I.hok,I.bare⟩
theorem Inv.after {Q:VK} {u:Value} (I:Inv X pins σ H s) (h:CE X.stack X.prog X.w H s Q u s'):EP X pins σ Q u s':=by
 obtain ⟨v,H',os,bare,un,hok,r,q⟩:=h;obtain ⟨hh,g,d,t,os'⟩:=s';obtain rfl:os'=s.os:=os;exact ⟨v,H',I.call (h':=hh) (g':=g) (d':=d) (t':=t) (ch:=[]) un hok bare (λb z=>absurd z (by simp)),r,q⟩
end
def bp8 (sp:Sp) (dvs:List V) (E:XK) (t:TA):TE:=λσ H Q=>t σ H λvs H1=>sp (vs ++ dvs) H1 Q E
def ac7 (K:q0a) (fd:FuncData) (ps:List Str) (ds:List Value):Prop :=
 ∀ (s:Shared) (us:List Value),K.In s.heap->(us ++ ds).length=ps.length->BindsTo s fd ⟨us,[]⟩ (ps.zip (us ++ ds))
theorem ac7.all {K:q0a} {fd:FuncData} {ps:List Str} (h:∀ us:List Value,us.length=ps.length->bindArgs fd ⟨us,[]⟩=pure (ps.zip us)):ac7 K fd ps []:=λs us _ hl=>by
 rw [g0j] at hl ⊢;exact .of_eq (h us hl)
def at9 (CX:CXT) (X:Cx) (E:XK):Prop:=∀ (pins:List (Addr × Obj)) (σ:St) (H:Hp) (s:Shared) (e:Value) (s':Shared),Inv X pins σ H s->CX X.stack H s E e s'->X.xe e s'
section
variable {X:Cx} {CX:CXT} {k:Nat} {f C:Addr} {fd:FuncData} {ps:List Str} {sp:Sp} {dvs:List V} {ds:List Value} {E:XK} {x m:Str} {p pos apos:Pos} {e o:Expr} {es:List Expr} {ta:TE} {t:TA}
theorem bs8 {pins:List (Addr × Obj)} {σ:St} {H:Hp} {s:Shared} {Q:VK} {us:List Value} {vs:List V} (F:ak5 X.prog X.w X.K X.mg X.base CX k f fd ps sp) (hr:Q6 k X.A) (hb:ac7 X.K fd ps ds) (hd:j8 dvs ds) (hx:at9 CX X E)
  (I:Inv X pins σ H s) (r:j8 vs us) (h:sp (vs ++ dvs) H Q E):wpAny (model X.prog X.w) X.A (call (.ref f) us) (EP X pins σ Q) X.xe s:=by
 have r2:j8 (vs ++ dvs) (us ++ ds):=r.append hd;have hl:(us ++ ds).length=ps.length:=by rw [<- r2.length];exact F.len _ _ _ _ h
 refine wpAny_call (codeAny_mono (F.run X.A X.stack s H ⟨us,[]⟩ (us ++ ds) (vs ++ dvs) Q E hr I.env0 (hb s us I.kIn hl) r2 h) λr s' hq=>?_)
 cases r with
 | error e=>exact hx pins σ H s e s' I hq
 | ok fl =>
  cases fl with
  | ret u=>exact I.after hq
  | next=>exact False.elim hq
  | brk=>exact False.elim hq
  | cont=>exact False.elim hq
theorem bl1 (F:ak5 X.prog X.w X.K X.mg X.base CX k f fd ps sp) (hr:Q6 k X.A) (hg:Gl X x) (hm:X.mg x=some (.ref f)) (hk:y0r X.K (.ref f)=true) (hb:ac7 X.K fd ps ds) (hd:j8 dvs ds) (hx:at9 CX X E)
  (ha:PA X (e :: es) t) (hdb:(x == ("__debug__" : Str))=false:=by decide) (he:starEach (e :: es) X.env=(false,eval e X.env) :: starEach es X.env:=by rfl) (hpl:(backTo pos (starEach es X.env)).any (·.1)=false:=by rfl) :
  PE X (.Call (.Name x p) (e :: es) [] pos) (bp8 sp dvs E t):=by
 intro pins s σ H Q I h;refine wpAny_Call_Name_kw (aj7 I hg hm ?_ hdb);refine PySem.W.callWith_K (h₀:=X.base) I.ok.mod.kin hk (thn (ha pos pins s σ H _ I h) λus s1 ⟨vs,H1,I1,r,q⟩=>⟨I1.kIn,?_⟩) he hpl;exact bs8 F hr hb hd hx I1 r q
structure Mk (K:q0a) (C f:Addr):Prop where
 makes:PySem.W.makesIn K C=true
 init:u0m K (.ref C) "__init__" = some (some (.ref f))
 fn:PySem.W.isFn K (.ref f)=true
 kp:y0r K (.ref C)=true
end
section
variable {X:Cx} {CX:CXT} {k:Nat} {f C:Addr} {fd:FuncData} {ps ks:List Str} {sp:Sp} {E:XK} {x m:Str} {p pos apos kpos:Pos} {e o:Expr} {es:List Expr} {kws:List Keyword} {te ta:TE} {t tk:TA} {nm:Option Str}
structure KBinds (K:q0a) (fd:FuncData) (ps ks:List Str) (g:List Value->List Value->List Value) (gV:List V->List V->List V):Prop where
 to:∀ (s:Shared) (us ws:List Value),K.In s.heap->(g us ws).length=ps.length->BindsTo s fd ⟨us,ks.zip ws⟩ (ps.zip (g us ws))
 rel:∀ {vs:List V} {us:List Value} {zs:List V} {ws:List Value},j8 vs us->j8 zs ws->j8 (gV vs zs) (g us ws)
variable {g:List Value->List Value->List Value} {gV:List V->List V->List V}
end
structure i7 (N P:List Str) (sc:Scope):Prop where
 kind:sc.kind=.function
 co:sc.isCoroutine=false
 gen:sc.isGenerator=false
 nd:N.Nodup
 pre:N.take P.length=P
 par:∀ x ∈ P,sc.names.lookup x=some .local \/ sc.names.lookup x=some .cell
 nofree:∀ y ∈ sc.names,y.2 ≠ .free
theorem ay4 {kindOf:Str->Option NameKind} {x:Str}:∀ {binds:List (Str × Value)} {m:Str->Option Value},(∀ v,(x,v) ∉ binds)->bindL kindOf binds m x=m x
 | [],_,_=>rfl
 | (n,v) :: r,m,h=>by
  unfold bindL;rw [ay4 λw hw=>h w (z0h _ hw)]
  split
  ·have:x ≠ n:=by rintro rfl;exact h v z0s
   simp [this]
  ·rfl
theorem ay6 {kindOf:Str->Option NameKind} {x:Str}:∀ {binds:List (Str × Value)} {m:Str->Option Value},(∀ v,(x,v) ∉ binds)->bindC kindOf binds m x=m x
 | [],_,_=>rfl
 | (n,v) :: r,m,h=>by
  unfold bindC;rw [ay6 λw hw=>h w (z0h _ hw)]
  split
  ·rfl
  ·have:x ≠ n:=by rintro rfl;exact h v z0s
   simp [this]
theorem ay5 {kindOf:Str->Option NameKind} {x:Str} {v:Value}:∀ {P:List Str} {vs:List Value} {i:Nat} {m:Str->Option Value},P.Nodup->P[i]? = some x->vs[i]? = some v->kindOf x=some .local ->
  bindL kindOf (P.zip vs) m x=some v
 | [],_,_,_,_,h,_,_=>by simp at h
 | _ :: _,[],_,_,_,_,h,_=>by simp at h
 | p :: P,w :: vs,0,m,nd,h1,h2,hk=>by
  simp at h1 h2;subst h1;subst h2
  show bindL kindOf ((p,w) :: P.zip vs) m p=_;unfold bindL;rw [ay4 λv hv=>(g0k.mp nd).1 (g0m hv).1,if_pos hk]
  simp
 | p :: P,w :: vs,i+1,m,nd,h1,h2,hk=>by
  show bindL kindOf ((p,w) :: P.zip vs) m x=_;unfold bindL;exact ay5 (i:=i) (g0k.mp nd).2 (by simpa using h1) (by simpa using h2) hk
theorem ay7 {kindOf:Str->Option NameKind} {x:Str} {v:Value}:∀ {P:List Str} {vs:List Value} {i:Nat} {m:Str->Option Value},P.Nodup->P[i]? = some x->vs[i]? = some v->kindOf x ≠ some .local ->
  bindC kindOf (P.zip vs) m x=some v
 | [],_,_,_,_,h,_,_=>by simp at h
 | _ :: _,[],_,_,_,_,h,_=>by simp at h
 | p :: P,w :: vs,0,m,nd,h1,h2,hk=>by
  simp at h1 h2;subst h1;subst h2
  show bindC kindOf ((p,w) :: P.zip vs) m p=_;unfold bindC;rw [ay6 λv hv=>(g0k.mp nd).1 (g0m hv).1,if_neg hk]
  simp
 | p :: P,w :: vs,i+1,m,nd,h1,h2,hk=>by
  show bindC kindOf ((p,w) :: P.zip vs) m x=_;unfold bindC;exact ay7 (i:=i) (g0k.mp nd).2 (by simpa using h1) (by simpa using h2) hk
def start (N:List Str) (vs:List V):St:=vs.map some ++ q0v (N.length-vs.length) none
def ao5 (CX:CXT) (P:Program) (w:World) (K:q0a) (mg:Str->Option Value) (base:Heap) (N:List Str) (qual:Str) (scope:Scope) (f:Addr) (cd:Value) (A:Around) (outer:List Env) (s:Shared) (H:Hp) (E:XK):Cx where
 prog:=P
 w:=w
 K:=K
 mg:=mg
 base:=base
 A:=A.deeper (envOfC qual scope s.heap.objs.size f cd)
 N:=N
 s₀:=s
 H₀:=H
 env:=envOfC qual scope s.heap.objs.size f cd
 outer:=outer
 stack:=envOfC qual scope s.heap.objs.size f cd :: outer
 ex:=[]
 calm:=true
 fn:=λ_=>true
 pn:=[]
 xe:=λe s'=>wpAny (model P w) (A.deeper (envOfC qual scope s.heap.objs.size f cd)) (leaving (envOfC qual scope s.heap.objs.size f cd) e) (λ_ s''=>CX outer H s E e s'') (λe' s''=>CX outer H s E e' s'') s'
theorem aK2 {sc:Scope} {n:Nat} {x:Str} (h:sc.names.lookup x=some .cell):∃ c,(cellsFrom n sc.names []).lookup x=some c:=by
 have q:=u0u sc.names n [] (.inl h);exact u0g.mp q
theorem ax2 {CX:CXT} {P:Program} {w:World} {K:q0a} {mg:Str->Option Value} {base:Heap} {N ps:List Str} {qual:Str} {scope:Scope} {f:Addr} {cd:Value} {A:Around} {outer:List Env} {s s1:Shared} {H:Hp} {E:XK} {us:List Value} {vs:List V}
  (S:i7 N ps scope) (hd:A.handled=none) (e0:aZ1 P w K mg base A outer s H) (hl:vs.length=ps.length) (r:j8 vs us)
  (x:InCallC s s.heap.objs.size (bindL (envOfC qual scope s.heap.objs.size f cd).kindOf (ps.zip us) λ_=>none) (cellsFrom (s.heap.objs.size+1) scope.names []) (bindC (envOfC qual scope s.heap.objs.size f cd).kindOf (ps.zip us) λ_=>none) s1) :
  Inv (ao5 CX P w K mg base N qual scope f cd A outer s H E) [] (start N vs) H s1:=by
 have hpl:ps.length<=N.length:=by have:=congrArg m0c S.pre;rw [y0q] at this;omega
 obtain ⟨h1,tk,rfl,hk⟩:=x.done;have noA:∀ b:Addr,b ∉ (ao5 CX P w K mg base N qual scope f cd A outer s H E).ex:=λb z=>absurd (show b ∈ ([]:List Addr) from z) (by simp)
 refine ⟨⟨e0.mod,S.kind,rfl,rfl,q0j _,λy z c h1 h2=>?_,λy hy=>?_,λy c _ h=>?_,λ_=>hd,Around.frames_deeper e0.frames,.inr ⟨rfl,rfl⟩,λb z=>absurd z (noA b),e0.bs,e0.bsz,λb _ _=>noA b,λb z=>absurd z (noA b),e0.funs,e0.frf⟩,
  rfl,e0.bare,Un.kept hk,⟨_,x.toInCall.ns,λi y v h1 h2 h3=>?_⟩,λy c h=>⟨_,x.cell y c h⟩,e0.hok.fresh (q0j _),λy c h=>?_,λp hp=>absurd (show p ∈ ([]:List (Addr × Obj)) from hp) (by simp),e0.hok.kept hk,?_⟩
 ·exact name_of_addr x.apart (PySem.mem_of_lookup h1) (PySem.mem_of_lookup h2)
 ·have hy:scope.names.lookup y=some .cell \/ scope.names.lookup y=some .free:=hy
  rcases hy with hy | hy
  ·exact aK2 hy
  ·exact absurd rfl (S.nofree _ (PySem.mem_of_lookup hy))
 ·exact v0j (x.above y c (PySem.mem_of_lookup h))
 ·have hi:i<vs.length:=by
   unfold start at h2
   by_cases hi:i<vs.length
   ·exact hi
   ·rw [v0d (by simpa using hi)] at h2
    rw [y0w] at h2
    split at h2 <;> cases h2
  have ha:vs[i]? = some v:=by
   unfold start at h2;rw [m0u (by simpa using hi),z0k] at h2
   cases e:vs[i]? with
   | none=>rw [e] at h2;cases h2
   | some a=>rw [e] at h2;cases h2;rfl
  obtain ⟨u,hu,rv⟩:=r.get ha
  have hp:ps[i]? = some y:=by
   rw [<- S.pre,List.getElem?_take_of_lt ⋯];exact h1
  have ndP:ps.Nodup:=by rw [<- S.pre];exact S.nd.sublist (List.take_sublist _ _)
  refine ⟨u,rv,?_⟩;rcases S.par y (z0r hp) with k | k
  ·exact .inl ⟨k,ay5 ndP hp hu k⟩
  ·obtain ⟨c,e⟩:=aK2 (n:=s.heap.objs.size+1) k
   refine .inr ⟨.inl k,c,e,?_⟩;have q:=x.cell y c e;rw [ay7 ndP hp hu (by show scope.names.lookup y ≠ _;rw [k];decide)] at q
   exact q
 ·exact e0.hok.fresh (v0j (x.above y c (PySem.mem_of_lookup h)))
 ·unfold start
  show _=N.length;rw [j0n,z0g,y0s];omega
theorem br3 {CX:CXT} {P:Program} {w:World} {K:q0a} {mg:Str->Option Value} {base:Heap} {k:Nat} {f:Addr} {name qual:Str} {params:Arguments} {body:List Stmt} {scope:Scope} {dV kV doc pm cdv ct oc:Value} {an od:Option Addr}
  {osl:Array (Option Value)} {N ps:List Str} {sp:Sp} (lk:K.lookup f=some ⟨oc,od,.func (v0k name qual params body scope dV kV doc pm an cdv ct),osl⟩) (hcd:q1u K cdv qual=true) (S:i7 N ps scope)
  (len:∀ vs H Q E,sp vs H Q E->vs.length=ps.length)
  (hbody:∀ (A:Around) (outer:List Env) (s:Shared) (H:Hp) (vs:List V) (Q:VK) (E:XK),Q6 k (A.deeper (envOfC qual scope s.heap.objs.size f cdv))->sp vs H Q E ->
   ∃ t,PSs (ao5 CX P w K mg base N qual scope f cdv A outer s H E) body t/\t { nx:=λ_ H'=>Q .non H',rt:=Q } (start N vs) H) :
  ak5 P w K mg base CX (k+1) f (v0k name qual params body scope dV kV doc pm an cdv ct) ps sp:=by
 refine ⟨len,λA outer s H args us vs Q E hr e0 hb r hsp=>?_⟩;have hl:=len _ _ _ _ hsp;have KX:K.In s.heap:=e0.mod.kin.keeps λb o e=>(e0.bs b o e).1;have lim:s.heap.NoLimit:=e0.mod.nolimit.keeps λb o e=>(e0.bs b o e).1
 have hkind:∀ y ∈ ps.zip us,scope.names.lookup y.1=some .local \/ (scope.names.lookup y.1=some .cell/\((cellsFrom (s.heap.objs.size+1) scope.names []).lookup y.1).isSome=true):=λ⟨n,v⟩ hy=>by
  rcases S.par n (g0m hy).1 with q | q
  ·exact .inl q
  ·exact .inr ⟨q,u0u _ _ _ (.inl q)⟩
 refine codeAny_call_function hr.depth (KX _ _ lk) rfl S.co S.gen rfl (PySem.W.codeRec_of KX hcd) (hb _ _ _ _ ?_);refine wpAny_newFunctionEnv_cells S.kind hkind λenv he s1 x=>?_;subst he;refine ⟨lim.keeps x.toInCall.keep,codeAny_func ?_⟩;obtain ⟨t,ht,hq⟩:=hbody A outer s H vs Q E (hr.deeper _) hsp;have I:Inv (ao5 CX P w K mg base N qual scope f cdv A outer s H E) [] (start N vs) H s1:=ax2 S hr.hd e0 hl r x;refine wpAny_mono (ht [] s1 (start N vs) H _ I hq) (λfl s' hs=>?_) λe s' hs=>hs
 have fin:∀ {σ':St} {H':Hp} {v:V} {u:Value},Inv (ao5 CX P w K mg base N qual scope f cdv A outer s H E) [] σ' H' s'->u0 v u->Q v H'->CE outer P w H s Q u s' :=
  fun {σ' H' v u} J rv q=>⟨v,H',J.os,J.bare,J.base,J.hok,rv,q⟩
 cases fl with
 | ret u =>
  obtain ⟨v,σ',H',J,rv,q⟩:=hs;exact fin J rv q
 | next =>
  obtain ⟨σ',H',J,q⟩:=hs;exact fin (v:=V.non) (u:=Value.none) J rfl q
 | brk =>
  obtain ⟨_,_,_,q⟩:=hs;exact False.elim q
 | cont =>
  obtain ⟨_,_,_,q⟩:=hs;exact False.elim q
section
variable {X:Cx} {x:Str} {p pos:Pos} {e:Expr} {es:List Expr} {t:TA} {id T:String} {r:List V->Hp->VK->Prop}
def tCB (r:List V->Hp->VK->Prop) (t:TA):TE:=λσ H Q=>t σ H λvs H1=>r vs H1 Q
theorem d5 (hc : ac6 X (.builtin id) r) (hg : Gl X x) (hm : X.mg x = none) (hv : bootBuiltins x = some (.builtin id)) (ha : PA X (e :: es) t) (hn : x ≠ "__name__" := by decide) (hdb : (x == ("__debug__" : Str)) = false := by decide)
    (he:starEach (e :: es) X.env=(false,eval e X.env) :: starEach es X.env:=by rfl) (hpl:(backTo pos (starEach es X.env)).any (·.1)=false:=by rfl):PE X (.Call (.Name x p) (e :: es) [] pos) (tCB r t):=by
  intro pins s σ H Q I h;refine wpAny_Call_Name_kw (U2 I hg hm hv ?_ hn hdb);exact PyProof.Rows.callWith_builtin1 (thn (ha pos pins s σ H _ I h) λus s1 ⟨vs,H1,I1,r1,q1⟩=>hc pins s1 σ H1 vs us Q I1 r1 q1) he hpl
theorem O9 (hc : ac6 X (.type T) r) (hg : Gl X x) (hm : X.mg x = none) (hv : bootBuiltins x = some (.type T)) (ha : PA X (e :: es) t) (hn : x ≠ "__name__" := by decide) (hdb : (x == ("__debug__" : Str)) = false := by decide)
    (he:starEach (e :: es) X.env=(false,eval e X.env) :: starEach es X.env:=by rfl) (hpl:(backTo pos (starEach es X.env)).any (·.1)=false:=by rfl):PE X (.Call (.Name x p) (e :: es) [] pos) (tCB r t):=by
  intro pins s σ H Q I h;refine wpAny_Call_Name_kw (U2 I hg hm hv ?_ hn hdb);exact PyProof.Rows.callWith_type1 (thn (ha pos pins s σ H _ I h) λus s1 ⟨vs,H1,I1,r1,q1⟩=>hc pins s1 σ H1 vs us Q I1 r1 q1) he hpl
end
end L2
namespace HT
open PySem PyProof.Rows
section
open PySem.SeqAt
open PySem.AutoSeq1 (wpAny_loadPart')
open PySem.MeetsSeq PySem.MeetsSeq2 PySem.MeetsSeq3
end
section
variable {prog:Program} {w:World} {A:Around} {E:Value->Shared->Prop} {s:Shared}
def sIx (n d:Nat):Option Int->Nat
 | none=>d
 | some v=>if v<0 then (v+(n:Int)).toNat else min v.toNat n
end
end HT
namespace L2
open PySem PySem.Spec PyProof.Rows
abbrev TO:=St->Hp->(Option Int->Hp->Prop)->Prop
def PO (X:Cx) (e:Option Expr) (t:TO):Prop :=
 ∀ (pins:List (Addr × Obj)) (s:Shared) (σ:St) (H:Hp) (Q:Option Int->Hp->Prop),Inv X pins σ H s->t σ H Q ->
  wpAny (model X.prog X.w) X.A (evalPart e X.env) (λu s' => ∃ o H',Inv X pins σ H' s'/\IsPart u o/\Q o H') X.xe s
def az9:TO:=λ_ H Q=>Q none H
def ba0 (t:TE):TO:=λσ H Q=>t σ H λx H1 => ∃ i,x=.int i/\Q (some i) H1
section
variable {X:Cx} {e:Expr} {te:TE} {lo hi:Option Expr} {tl th:TO} {pos p2:Pos}
theorem Y4:PO X none az9:=by
 intro pins s σ H Q I h;rw [evalPart_none];exact wpAny_pure ⟨none,H,I,.none,h⟩
theorem Y3 (h:PE X e te):PO X (some e) (ba0 te):=by
 intro pins s σ H Q I hw;rw [evalPart_some];refine thn (h pins s σ H _ I hw) λu s1 zq=>?_;obtain ⟨x,H1,I1,r1,q1⟩:=zq;obtain ⟨i,rfl,q⟩:=q1;obtain ⟨t,rfl⟩:=r1;exact ⟨some i,H1,I1,.int i t,q⟩
def SlR (X:Cx) (r:V->Option Int->Option Int->Hp->VK->Prop):Prop :=
 ∀ (pins:List (Addr × Obj)) (s:Shared) (σ:St) (H:Hp) (x:V) (v vl vu:Value) (lo hi:Option Int) (sl:Addr) (Q:VK),Inv X pins σ H s->u0 x v->s.heap.IsSliceOf sl vl vu .none->IsPart vl lo->IsPart vu hi->r x lo hi H Q ->
  ∃ T id,typeLookup (.type T) "__getitem__" = pure (some (.builtin id))/\s.TypeIs v T/\wpAny (model X.prog X.w) X.A (getItem v (.ref sl)) (EP X pins σ Q) X.xe s
def tSl (r:V->Option Int->Option Int->Hp->VK->Prop) (te:TE) (tl th:TO):TE:=λσ H Q=>te σ H λx H1=>tl σ H1 λl H2=>th σ H2 λu H3=>r x l u H3 Q
theorem ai8 {r:V->Option Int->Option Int->Hp->VK->Prop} (hr:SlR X r) (he:PE X e te) (hl:PO X lo tl) (hu:PO X hi th):PE X (.Subscript e (.Slice lo hi none p2) pos) (tSl r te tl th):=by
 intro pins s σ H Q I h;refine Subscript_ (thn (he pins s σ H _ I h) λv s1 zq=>?_);obtain ⟨x,H1,I1,r1,q1⟩:=zq;refine wpAny_Slice (thn (hl pins s1 σ H1 _ I1 q1) λvl s2 ⟨l,H2,I2,pl,q2⟩=>thn (hu pins s2 σ H2 _ I2 q2) λvu s3 zq=>?_);obtain ⟨u,H3,I3,pu,q3⟩:=zq;rw [evalPart_none];refine wpAny_pure ?_;have I4:Inv X pins σ H3 { s3 with heap:=s3.heap.push { cls:=.type "slice",data:=.fields #[vl,vu,.none] } }:=I3.kept (t':=s3.toks) λb ob q=>q0h _ q
 obtain ⟨T,id,hT,ht,hg⟩:=hr pins { s3 with heap:=s3.heap.push { cls:=.type "slice",data:=.fields #[vl,vu,.none] } } σ H3 x v vl vu l u s3.heap.objs.size Q I4 r1 (Heap.IsSliceOf.new ..) pl pu q3
 show wpAny (model X.prog X.w) X.A (subscriptTail e (.Slice lo hi none p2) v (.ref s3.heap.objs.size)) (EP X pins σ Q) X.xe { s3 with heap:=s3.heap.push { cls:=.type "slice",data:=.fields #[vl,vu,.none] } }
 exact tail_any (ops:=[.ref s3.heap.objs.size,v]) ht hT hg (by with_unfolding_all rfl)
def aO9 (xs:List V) (lo hi:Option Int):List V:=(xs.drop (HT.sIx xs.length 0 lo)).take (HT.sIx xs.length xs.length hi-HT.sIx xs.length 0 lo)
theorem an9 (xs:List V) (lo hi:Option Int):(aO9 xs lo hi).length<=xs.length:=by
 unfold aO9;rw [y0q,j0s];omega
end
def ixN (n:Nat) (i:Int):Option Nat:=if 0<=i then (if i<n then some i.toNat else none) else if -(n:Int)<=i then some (i+n).toNat else none
def atI {α:Type} (xs:List α) (i:Int):Option α:=(ixN xs.length i).bind λj=>xs[j]?
theorem aS7 {n:Nat} {i:Int} {j:Nat} (h:ixN n i=some j):seqIndex? i n=some j/\j<n/\-(n:Int)<=i/\i<n:=by
 unfold ixN at h
 by_cases h0:0<=i
 ·rw [if_pos h0] at h
  by_cases h1:i<n
  ·rw [if_pos h1] at h
   have e:i.toNat=j:=Option.some.inj h;exact ⟨by rw [seqIndex_of h0 h1,e],⋯,⋯,h1⟩
  ·rw [if_neg h1] at h;cases h
 ·rw [if_neg h0] at h
  by_cases h1:-(n:Int)<=i
  ·rw [if_pos h1] at h
   have e:(i+n).toNat=j:=Option.some.inj h;exact ⟨by rw [seqIndex_neg ⋯ h1,e],⋯,h1,⋯⟩
  ·rw [if_neg h1] at h;cases h
theorem aF5 {α:Type} {xs:List α} {i:Int} {v:α} (h:atI xs i=some v):∃ j,seqIndex? i xs.length=some j/\xs[j]? = some v/\j<xs.length/\-(xs.length:Int)<=i/\i<xs.length:=by
 unfold atI at h
 cases e:ixN xs.length i with
 | none=>rw [e] at h;cases h
 | some j =>
  rw [e] at h;obtain ⟨h1,h2,h3,h4⟩:=aS7 e;exact ⟨j,h1,h,h2,h3,h4⟩
theorem B3 {α:Type} {xs:List α} {j:Nat} {v:α} (h:xs[j]? = some v):atI xs (j:Int)=some v:=by
 have hj:j<xs.length:=(z0f.mp h).1
 have e:ixN xs.length (j:Int)=some j:=by
  unfold ixN;rw [if_pos ⋯,if_pos ⋯];simp
 unfold atI;rw [e];exact h
def bp3 (b:Expr):Prop:=∀ o i,subscripted b false o i=operate [o,i] (getItem o i)
def IxR (X:Cx) (r:R2):Prop :=
 ∀ (value slice:Expr) (pins:List (Addr × Obj)) (s:Shared) (σ:St) (H:Hp) (x y:V) (v u:Value) (Q:VK),Inv X pins σ H s->u0 x v->u0 y u->r x y H Q ->
  subscripted slice false v u=operate [v,u] (getItem v u)->wpAny (model X.prog X.w) X.A (subscriptTail value slice v u) (EP X pins σ Q) X.xe s
def MtR (X:Cx) (id:String) (r:V->List V->Hp->VK->Prop):Prop :=
 ∀ (pins:List (Addr × Obj)) (s:Shared) (σ:St) (H:Hp) (x:V) (xs:List V) (v:Value) (us:List Value) (Q:VK),Inv X pins σ H s->u0 x v->j8 xs us->r x xs H Q ->
  wpAny (model X.prog X.w) X.A (call (.builtin id) (v :: us)) (EP X pins σ Q) X.xe s
section
variable {X:Cx} {a b:Expr} {ta tb:TE} {pos:Pos}
theorem j2 {r:R2} (hr:IxR X r) (ha:PE X a ta) (hb:PE X b tb) (hs:bp3 b):PE X (.Subscript a b pos) (tOp r ta tb):=by
 intro pins s σ H Q I h;exact Subscript_ (by7 ha hb I h λv u s2 x y H2 I2 rx ry q=>hr a b pins s2 σ H2 x y v u Q I2 rx ry q (hs _ _))
def aM2 (K:q0a):R2:=λx y H Q => ∃ p xs i v,x=.ref p/\y=.int i/\SqL K H p xs/\atI xs i=some v/\Q v H
def bt2 (K:q0a):R2:=λx y H Q => ∃ p xs i v,x=.ref p/\y=.int i/\SqT K H p xs/\atI xs i=some v/\Q v H
theorem m8:IxR X (aM2 X.K):=by
 intro value slice pins s σ H x y v u Q I rx ry h hs;obtain ⟨p,xs,i,z,rfl,rfl,hq,he,q⟩:=h
 cases rx
 obtain ⟨t,rfl⟩:=ry;obtain ⟨its,r,pl,hz⟩:=I.list hq;obtain ⟨j,h1,h2,h3,h4,h5⟩:=aF5 he;obtain ⟨w,ew,rw'⟩:=r.get h2;have hl:=r.length;have hn:=ag2;have fin:EP X pins σ Q w s:=⟨z,H,I,rw',q⟩
 by_cases h0:0<=i
 ·have hj:i.toNat=j:=by
   rw [seqIndex_of h0 h5] at h1;exact Option.some.inj h1
  exact item_listR pl.isList h0 ⋯ (by rw [hj];simpa using ew) fin hs
 ·have hj:(i+(its.toArray.size:Int)).toNat=j:=by
   rw [seqIndex_neg ⋯ h4] at h1;rw [q0g,<- hl];exact Option.some.inj h1
  exact subscriptTail_builtinR (x:=w) pl.isList.typeIs slot_list_getitem.lookup
   (wpAny_getItem_list_neg (Q:=λr s'=>r=w/\EP X pins σ Q r s') pl.isList ⋯ (by rw [q0g] <;> omega) ⋯ (by rw [hj];simpa using ew) ⟨rfl,fin⟩) hs
theorem j6:IxR X (bt2 X.K):=by
 intro value slice pins s σ H x y v u Q I rx ry h hs;obtain ⟨p,xs,i,z,rfl,rfl,hq,he,q⟩:=h
 cases rx
 obtain ⟨t,rfl⟩:=ry;obtain ⟨its,r,pl,hz⟩:=I.tuple hq;obtain ⟨j,h1,h2,h3,h4,h5⟩:=aF5 he;obtain ⟨w,ew,rw'⟩:=r.get h2;have hl:=r.length;have hn:=ag2;have fin:EP X pins σ Q w s:=⟨z,H,I,rw',q⟩
 exact subscriptTail_builtinR (x:=w) pl.typeIs slot_tuple_getitem.lookup
  (getItem_tuple (j:=j) (Q:=λr s'=>r=w/\EP X pins σ Q r s') pl ⋯ ⋯ (by rw [q0g,<- hl];exact h1) (by simpa using ew) ⟨rfl,fin⟩) hs
theorem aN9 (its:List Value) (n j:Nat) (u:Value):Obj.mapSeq (·.setIfInBounds j u) { cls:=.type "list",data:=.seq its.toArray n }={ cls:=.type "list",data:=.seq (its.set j u).toArray n }:=by
 simp [Obj.mapSeq]
theorem Inv.lst {pins:List (Addr × Obj)} {σ:St} {H:Hp} {s:Shared} {p:Addr} {xs:List V} (I:Inv X pins σ H s) (h:H p=some (.lst xs)) :
  ∃ (its:List Value) (n:Nat),j8 xs its/\s.heap.get? p=some { cls:=.type "list",data:=.seq its.toArray n }/\xs.length<=sizeLine:=by
 obtain ⟨z,its,n,r,e⟩:=I.hok p _ h;exact ⟨its,n,r,e,z⟩
theorem Inv.lstUpd {pins:List (Addr × Obj)} {σ:St} {H:Hp} {s:Shared} {p:Addr} {xs ys:List V} {its its':List Value} {n n':Nat} {f:Obj->Obj} (I:Inv X pins σ H s) (h:H p=some (.lst xs))
  (ho:s.heap.get? p=some { cls:=.type "list",data:=.seq its.toArray n }) (hf:f { cls:=.type "list",data:=.seq its.toArray n }={ cls:=.type "list",data:=.seq its'.toArray n' }) (r:j8 ys its') (hz:ys.length<=sizeLine) (t:Nat) :
  Inv X pins σ (upd H p (.lst ys)) { s with heap:=s.heap.update p f,toks:=t }:=by
 have e:(s.heap.update p f).get? p=some { cls:=.type "list",data:=.seq its'.toArray n' }:=by
  rw [g0c f ho (by rw [hf] <;> rfl),hf]
 refine I.write (x:=p) (e:=p) (by rw [h];trivial) (.inl rfl) (λb u hb q=>(y0c _ _ (Ne.symm hb)).trans q) ⟨_,e⟩ ?_
 exact ⟨hz,its',n',r,e⟩
def bb9:V->V->V->Hp->(Hp->Prop)->Prop:=λo i v H Q => ∃ p xs k j,o=.ref p/\i=.int k/\H p=some (.lst xs)/\ixN xs.length k=some j/\Q (upd H p (.lst (xs.set j v)))
theorem ai0:bz3 X bb9:=by
 intro pins s σ H o i v ov iv u Q I ro ri rv h;obtain ⟨p,xs,k,j,rfl,rfl,hp,hj,q⟩:=h
 cases ro
 obtain ⟨t,rfl⟩:=ri;obtain ⟨its,n,r,ho,hz⟩:=I.lst hp;obtain ⟨h1,h2,h3,h4⟩:=aS7 hj;have hl:=r.length;have hn:=ag2
 have I':Inv X pins σ (upd H p (.lst (xs.set j v))) { s with heap:=s.heap.update p (Obj.mapSeq (·.setIfInBounds j u)) } :=
  I.lstUpd hp ho (aN9 its n j u) (r.set rv j) (by rw [List.length_set];exact hz) s.toks
 by_cases h0:0<=k
 ·have hk:k.toNat=j:=by
   rw [seqIndex_of h0 h4] at h1;exact Option.some.inj h1
  exact PySem.W.ki_setAt ho h0 ⋯ (by rw [q0g,<- hl];exact h4) (by rw [hk];exact ⟨_,I',q⟩)
 ·have hk:(k+(its.toArray.size:Int)).toNat=j:=by
   rw [seqIndex_neg ⋯ h3] at h1;rw [q0g,<- hl];exact Option.some.inj h1
  exact PySem.W.ki_setBack ho ⋯ (by rw [q0g,<- hl];exact h3) ⋯ (by rw [hk];exact ⟨_,I',q⟩)
theorem aA5 (lo hi:Option Int) (n:Nat):(sliceBounds lo hi none n).1=((HT.sIx n 0 lo:Nat):Int)/\(sliceBounds lo hi none n).2.1=((HT.sIx n n hi:Nat):Int)/\(sliceBounds lo hi none n).2.2=1:=by
 refine ⟨?_,?_,rfl⟩
 ·cases lo with
  | none=>simp [sliceBounds,HT.sIx]
  | some i =>
   simp only [sliceBounds,HT.sIx,v0m,show (1:Int) > 0 by decide,if_true]
   by_cases h:i<0
   ·simp only [h,if_true] <;> omega
   ·simp only [h,if_false] <;> omega
 ·cases hi with
  | none=>simp [sliceBounds,HT.sIx]
  | some i =>
   simp only [sliceBounds,HT.sIx,v0m,show (1:Int) > 0 by decide,if_true]
   by_cases h:i<0
   ·simp only [h,if_true] <;> omega
   ·simp only [h,if_false] <;> omega
theorem au3 (its:List Value) (lo hi:Option Int):slicePick its.toArray lo hi none=((its.drop (HT.sIx its.length 0 lo)).take (HT.sIx its.length its.length hi-HT.sIx its.length 0 lo)).toArray:=by
 obtain ⟨h1,h2,h3⟩:=aA5 lo hi its.toArray.size;unfold slicePick;rw [h1,h2,h3];simp only [sliceRange_one,pick_run,q0g] <;> rfl
def bs9 (K:q0a):V->Option Int->Option Int->Hp->VK->Prop:=λx lo hi H Q => ∃ a xs,x=.ref a/\SqL K H a xs/\∀ p,H p=none->Q (.ref p) (upd H p (.lst (aO9 xs lo hi)))
theorem ao8:SlR X (bs9 X.K):=by
 intro pins s σ H x v vl vu lo hi sl Q I rx hs pl pu h;obtain ⟨a,xs,rfl,hx,q⟩:=h
 cases rx
 obtain ⟨its,r,ht,hz⟩:=I.list hx;have hlen:=r.length;refine ⟨"list",_,slot_list_getitem.lookup,ht.isList.typeIs,?_⟩
 refine wpAny_getItem_list_slice ht.isList hs pl pu .none (by simp) ?_ (by rw [q0g] <;> omega)
 rw [au3,<- hlen];refine ⟨.ref s.heap.objs.size,_,I.laid (t':=s.toks) (o:=.lst (aO9 xs lo hi)) (λb ob q=>q0h _ q) (q0j _) ?_,rfl,q _ (I.hok.fresh (q0j _))⟩;exact ⟨z0p (an9 xs lo hi) hz,_,0,(r.drop (HT.sIx xs.length 0 lo)).take (HT.sIx xs.length xs.length hi-HT.sIx xs.length 0 lo),z0j _ rfl⟩
def P9:V->Bool
 | .non=>true
 | .bl _=>true
 | .int _=>true
 | .str _=>true
 | _=>false
def eqV:V->V->Bool
 | .non,.non=>true
 | .bl a,.bl b=>a == b
 | .bl a,.int b=>(if a then 1 else 0) == b
 | .int a,.bl b=>a == (if b then 1 else 0)
 | .int a,.int b=>a == b
 | .str a,.str b=>a == b
 | _,_=>false
theorem bg6 {A:Around} {s:Shared} {y x:V} {u v:Value} (ry:u0 y u) (rx:u0 x v) (fy:P9 y=true) (fx:P9 x=true):SeqAt.EqAt A s u v (eqV y x):=by
 cases y with
 | non =>
  cases ry
  cases x with
  | non=>cases rx;exact SeqAt.EqAt.same _
  | bl b=>cases rx;exact SeqAt.EqAt.none_bool b
  | int b=>obtain ⟨t,rfl⟩:=rx;exact SeqAt.EqAt.none_int b t
  | str b=>obtain ⟨t,rfl⟩:=rx;exact SeqAt.EqAt.none_str b t
  | _=>exact absurd (show false=true from fx) q0n
 | bl a =>
  cases ry
  cases x with
  | non=>cases rx;exact SeqAt.EqAt.bool_none a
  | bl b=>cases rx;exact SeqAt.EqAt.bool_bool a b
  | int b=>obtain ⟨t,rfl⟩:=rx;exact SeqAt.EqAt.bool_int a b t
  | str b=>obtain ⟨t,rfl⟩:=rx;exact SeqAt.EqAt.bool_str a b t
  | _=>exact absurd (show false=true from fx) q0n
 | int a =>
  obtain ⟨t',rfl⟩:=ry
  cases x with
  | non=>cases rx;exact SeqAt.EqAt.int_none a t'
  | bl b=>cases rx;exact SeqAt.EqAt.int_bool a t' b
  | int b=>obtain ⟨t,rfl⟩:=rx;exact SeqAt.EqAt.int_int a t' b t
  | str b=>obtain ⟨t,rfl⟩:=rx;exact SeqAt.EqAt.int_str a t' b t
  | _=>exact absurd (show false=true from fx) q0n
 | str a =>
  obtain ⟨t',rfl⟩:=ry
  cases x with
  | non=>cases rx;exact SeqAt.EqAt.str_none a t'
  | bl b=>cases rx;exact SeqAt.EqAt.str_bool a t' b
  | int b=>obtain ⟨t,rfl⟩:=rx;exact SeqAt.EqAt.str_int a t' b t
  | str b=>obtain ⟨t,rfl⟩:=rx;exact SeqAt.EqAt.str_str a t' b t
  | _=>exact absurd (show false=true from fx) q0n
 | _=>exact absurd (show false=true from fy) q0n
def eqU (x:V) (u:Value):Bool:=match u with
 | .none=>eqV .non x
 | .bool b=>eqV (.bl b) x
 | .int i _=>eqV (.int i) x
 | .str z _=>eqV (.str z) x
 | _=>false
theorem aO6 {x y:V} {u:Value} (r:u0 y u) (f:P9 y=true):eqU x u=eqV y x:=by
 cases y with
 | non=>cases r;rfl
 | bl b=>cases r;rfl
 | int i=>obtain ⟨t,rfl⟩:=r;rfl
 | str z=>obtain ⟨t,rfl⟩:=r;rfl
 | _=>exact absurd (show false=true from f) q0n
theorem as1 {A:Around} {s:Shared} {x:V} {v:Value} (rx:u0 x v) (fx:P9 x=true):∀ {xs:List V} {us:List Value},j8 xs us->xs.all P9=true->∀ u ∈ us,SeqAt.EqAt A s u v (eqU x u)
 | _,_,.nil,_=>λu hu=>by cases hu
 | y :: xs,u :: us,.cons r t,f=>λu' hu=>by
  rw [m0k,j0t] at f;rcases z0z.mp hu with rfl | hu
  ·rw [aO6 r f.1];exact bg6 r rx f.1 fx
  ·exact as1 rx fx t f.2 u' hu
theorem j0:ac6 X (.builtin "len") (λxs H Q => ∃ p ys,xs=[.ref p]/\(SqL X.K H p ys \/ SqT X.K H p ys)/\Q (.int ys.length) H):=by
 intro pins s σ H xs us Q I r h;obtain ⟨p,ys,rfl,hq,q⟩:=h;obtain ⟨u,rfl,rx⟩:=ah1 r
 cases rx
 have hn:=ag2;rcases hq with hq | hq
 ·obtain ⟨its,r',pl,hz⟩:=I.list hq
  have hlen:=r'.length;exact Calls.call_len_list pl.isList (by simp only [q0g] <;> omega) ⟨.int ys.length,H,I.tok _,⟨s.toks+1,by rw [q0g,hlen]⟩,q⟩
 ·obtain ⟨its,r',pl,hz⟩:=I.tuple hq
  have hlen:=r'.length;exact len_tuple pl (by simp only [q0g] <;> omega) ⟨.int ys.length,H,I.tok _,⟨s.toks+1,by rw [q0g,hlen]⟩,q⟩
theorem Z8:ac6 X (.type "list") (λxs H Q => ∃ p ys,xs=[.ref p]/\(SqL X.K H p ys \/ SqT X.K H p ys)/\∀ l,H l=none->Q (.ref l) (upd H l (.lst ys))):=by
 intro pins s σ H xs us Q I r h;obtain ⟨p,ys,rfl,hq,q⟩:=h;obtain ⟨u,rfl,rx⟩:=ah1 r
 cases rx
 have fin:∀ (its:List Value),j8 ys its->ys.length<=sizeLine->∀ (h':Heap) (c':Nat),(∀ b o',s.heap.get? b=some o'->h'.get? b=some o') ->
   h'.get? s.heap.objs.size=some { cls:=.type "list",dict:=none,data:=.seq its.toArray c',slots:=#[] }->EP X pins σ Q (.ref s.heap.objs.size) { s with heap:=h' }:=λits r' hz h' c' kp e =>
  ⟨.ref s.heap.objs.size,_,I.laid (t':=s.toks) kp (q0j _) (show C2 X.prog X.w _ h' _ (.lst ys) from ⟨hz,its,c',r',e⟩),rfl,q _ (I.hok.fresh (q0j _))⟩
 rcases hq with hq | hq
 ·obtain ⟨its,r',pl,hz⟩:=I.list hq
  have hlen:=r'.length;obtain ⟨o,ho,hc,n,hd⟩:=pl.isList;exact call_list_seq p (.inl rfl) ho hc hd (λh' c' kp e=>fin its r' hz h' c' kp e) (by simp only [q0g] <;> omega)
 ·obtain ⟨its,r',pl,hz⟩:=I.tuple hq
  have hlen:=r'.length;obtain ⟨o,ho,hc,n,hd⟩:=pl;exact call_list_seq p (.inr rfl) ho hc hd (λh' c' kp e=>fin its r' hz h' c' kp e) (by simp only [q0g] <;> omega)
def tyV (K:PySem.W.Frag) (T:String) (x:V) (H:Hp):Prop:=match x with
  | .str _=>T = "str"
  | .int _=>T = "int"
  | .ref p => (T = "list" ∧ ∃ xs, SqL K H p xs) ∨ (T = "tuple" ∧ ∃ o, K.lookup p = some o ∧ o.cls = .type "tuple" ∧ o.dict = none) ∨
      (T = "dict"/\((∃ kvs,H p=some (.dK kvs)) \/ ∃ kvs,H p=some (.dT kvs))) \/ (T = "set"/\∃ S n,H p=some (.set S n))
  | _=>False
theorem aZ3 {pins:List (Addr × Obj)} {σ:St} {H:Hp} {s:Shared} {T:String} {x:V} {v:Value} (I:Inv X pins σ H s) (r:u0 x v) (ty:tyV X.K T x H) :
  s.TypeIs v T/\∀ a,v=.ref a->∃ ob,s.heap.get? a=some ob/\ob.dict=none:=by
 cases x with
 | str z =>
  obtain ⟨t,rfl⟩:=r
  cases (show T = "str" from ty)
  exact ⟨typeIs_str s z t,λ_ e=>nomatch e⟩
 | int i =>
  obtain ⟨t,rfl⟩:=r
  cases (show T = "int" from ty)
  exact ⟨typeIs_int s i t,λ_ e=>nomatch e⟩
 | ref p =>
  cases r
  rcases ty with ⟨rfl,xs,hq⟩ | ⟨rfl,o,hk,hc,hd⟩ | ⟨rfl,hk⟩ | ⟨rfl,S,n,hk⟩
  ·obtain ⟨its,_,pl,_⟩:=I.list hq
   refine ⟨pl.isList.typeIs,λa e=>?_⟩
   cases e
   obtain ⟨o,n,e,c,hd,_⟩:=pl;exact ⟨o,e,hd⟩
  ·refine ⟨⟨o,I.kIn p o hk,hc⟩,λa e=>?_⟩
   cases e
   exact ⟨o,I.kIn _ o hk,hd⟩
  ·have z:∃ o,s.heap.get? p=some o/\o.ExactDict:=by
    rcases hk with ⟨kvs,hk⟩ | ⟨kvs,hk⟩
    ·obtain ⟨_,_,_,_,o,_,_,e,ex,_⟩:=I.hok p _ hk
     exact ⟨o,e,ex⟩
    ·obtain ⟨_,_,_,_,o,_,_,e,ex,_⟩:=I.hok p _ hk
     exact ⟨o,e,ex⟩
   obtain ⟨o,e,ex⟩:=z;refine ⟨⟨o,e,ex.1⟩,λa e2=>?_⟩
   cases e2
   exact ⟨o,e,ex.2.1⟩
  ·obtain ⟨o,_,_,_,e,ex,_⟩:=I.hok p _ hk
   refine ⟨⟨o,e,ex.1⟩,λa e2=>?_⟩
   cases e2
   exact ⟨o,e,ex.2.1⟩
 | _=>exact False.elim ty
def bs3 (K:q0a) (T:String) (r:V->List V->Hp->VK->Prop) (to:TE):TE:=λσ H Q=>to σ H λx H1=>tyV K T x H1/\r x [] H1 Q
def tBM (K:q0a) (T:String) (r:V->List V->Hp->VK->Prop) (to:TE) (t:TA):TE:=λσ H Q=>to σ H λx H1=>tyV K T x H1/\t σ H1 λxs H2=>r x xs H2 Q
variable {o e:Expr} {es:List Expr} {to:TE} {t:TA} {name:Str} {apos cpos:Pos} {T id:String} {r:V->List V->Hp->VK->Prop}
theorem ar5 (pa:PlainAttrs T) (slot:Slot T name id) (hty:typeOf (.builtin id)=pure (.type "method_descriptor")) (hm:MtR X id r) (ho:PE X o to)
  (hbase:attributeBase o name X.env (eval o X.env)=eval o X.env:=by rfl) (hline:(apos.endLine == cpos.line)=true:=by rfl):PE X (.Call (.Attribute o name apos) [] [] cpos) (bs3 X.K T r to):=by
 intro pins s σ H Q I h;refine wpAny_Call_method0_late hbase hline (thn (ho pins s σ H _ I h) λv s1 zq=>?_);obtain ⟨x,H1,I1,r1,ty,q1⟩:=zq;obtain ⟨h1,h2⟩:=aZ3 I1 r1 ty;exact ⟨T,id,pa,slot,hty,h1,h2,Calls.callWith_builtin rfl (PySem.evalArgs_none (hm pins s1 σ H1 x [] v [] Q I1 r1 .nil q1))⟩
theorem aR3 (pa:PlainAttrs T) (slot:Slot T name id) (hty:typeOf (.builtin id)=pure (.type "method_descriptor")) (hm:MtR X id r) (ho:PE X o to) (ha:PA X (e :: es) t)
  (hbase:attributeBase o name X.env (eval o X.env)=eval o X.env:=by rfl)
  (hfew:((backTo cpos (starEach (e :: es) X.env)).all (λx => !x.1) && (backToKw cpos (keywordEach [] X.env)).all (λx=>x.1.isSome)
   && decide ((e :: es).length+([]:List Keyword).length+(if ([]:List Keyword).isEmpty then 0 else 1)<30))=true:=by rfl)
  (hline:(apos.endLine == cpos.line)=true:=by rfl) (hs:starEach (e :: es) X.env=(false,eval e X.env) :: starEach es X.env:=by rfl) (hplain:(backTo cpos (starEach es X.env)).any (·.1)=false:=by rfl) :
  PE X (.Call (.Attribute o name apos) (e :: es) [] cpos) (tBM X.K T r to t):=by
 intro pins s σ H Q I h;refine wpAny_Call_method_late hbase hfew hline rfl (thn (ho pins s σ H _ I h) λv s1 zq=>?_);obtain ⟨x,H1,I1,r1,ty,q1⟩:=zq;obtain ⟨h1,h2⟩:=aZ3 I1 r1 ty;refine ⟨T,id,pa,slot,hty,h1,h2,?_⟩;have hA:=ha cpos pins s1 σ H1 _ I1 q1;rw [hs] at hA ⊢;refine Calls.callWith_builtin (by show (false || (backTo cpos (starEach es X.env)).any (·.1))=false;rw [hplain] <;> rfl) (Calls.evalArgs_plain ?_)
 refine thn hA λus s2 zq=>?_;obtain ⟨vs,H2,I2,r2,q2⟩:=zq;exact hm pins s2 σ H2 x vs v us Q I2 r1 r2 q2
end
def MtM (X:Cx) (id:String) (r:V->List V->Hp->VK->Prop):Prop :=
 ∀ (pins:List (Addr × Obj)) (s:Shared) (σ:St) (H:Hp) (x:V) (xs:List V) (v:Value) (us:List Value) (Q:VK),Inv X pins σ H s->u0 x v->j8 xs us->r x xs H Q ->
  wpAny (model X.prog X.w) X.A (call (.builtin id) (v :: us)) (EP X pins σ Q) X.xe s
theorem j8.one:∀ {x:V} {us:List Value},j8 [x] us->∃ u,us=[u]/\u0 x u
 | _,_,.cons r .nil=>⟨_,rfl,r⟩
theorem j8.two:∀ {x y:V} {us:List Value},j8 [x,y] us->∃ u v,us=[u,v]/\u0 x u/\u0 y v
 | _,_,_,.cons r (.cons q .nil)=>⟨_,_,rfl,r,q⟩
theorem j8.zero:∀ {us:List Value},j8 [] us->us=[]
 | _,.nil=>rfl
theorem j8.dropLast {xs:List V} {us:List Value} (h:j8 xs us):j8 xs.dropLast us.dropLast:=by
 induction h with
 | nil=>exact .nil
 | cons r t ih =>
  cases t with
  | nil=>exact .nil
  | cons q t'=>exact .cons r ih
theorem j8.rep {xs:List V} {us:List Value} (h:j8 xs us):∀ k:Nat,j8 (q0v k xs).flatten (q0v k us).flatten
 | 0=>.nil
 | k+1=>by
  rw [v0s,v0s,u0q,u0q];exact j8.append h (j8.rep h k)
theorem aO5 {α:Type} (l:List α):l.eraseIdx (l.length-1)=l.dropLast:=by
 induction l with
 | nil=>rfl
 | cons a r ih =>
  cases r with
  | nil=>rfl
  | cons b r =>
   have e:(a :: b :: r).length-1=((b :: r).length-1)+1:=by
    have h1:(a :: b :: r).length=r.length+2:=rfl;have h2:(b :: r).length=r.length+1:=rfl;omega
   rw [e,List.eraseIdx_cons_succ,ih]
   all_goals rfl
theorem ax5 (its:List Value):∀ (k:Nat) (acc:List Value),
  List.foldl (λx1 x2=>x1 ++ x2) acc.toArray (q0v k its.toArray)=(acc ++ (q0v k its).flatten).toArray
 | 0,acc=>by simp
 | k+1,acc=>by
  have e:acc.toArray ++ its.toArray=(acc ++ its).toArray:=by simp
  have e2:(acc ++ its) ++ (q0v k its).flatten=acc ++ (q0v (k+1) its).flatten:=by
   rw [v0s,u0q,v0w]
  rw [<- e2,<- ax5 its k (acc ++ its),<- e,v0s,List.foldl_cons]
section
variable {X:Cx} {pins:List (Addr × Obj)} {σ:St} {H:Hp} {s:Shared} {l b:Addr} {xs ys zs:List V}
theorem Inv.lset {its its':List Value} {n:Nat} {f:Array Value->Array Value} {t':Nat} (I:Inv X pins σ H s) (hH:H l=some (.lst xs))
  (e:s.heap.get? l=some { cls:=.type "list",data:=.seq its.toArray n }) (hf:f its.toArray=its'.toArray) (hv:j8 ys its') (hz:ys.length<=sizeLine) :
  Inv X pins σ (upd H l (.lst ys)) { s with heap:=s.heap.update l (Obj.mapSeq f),toks:=t' }:=by
 have q:=PySem.IsL.update e f;rw [hf] at q;refine I.write (x:=l) (e:=l) (by rw [hH];exact trivial) (.inl rfl) (λb' u hb hu=>(y0c s.heap (Obj.mapSeq f) (Ne.symm hb)).trans hu) ⟨_,q⟩ ?_
 exact ⟨hz,its',_,hv,q⟩
theorem Inv.lnew {its:List Value} {t':Nat} (I:Inv X pins σ H s) (hv:j8 ys its) (hz:ys.length<=sizeLine) :
  Inv X pins σ (upd H s.heap.objs.size (.lst ys)) { s with heap:=s.heap.push { cls:=.type "list",data:=.seq its.toArray },toks:=t' } :=
 I.laid (λ_ _ q=>q0h _ q) (q0j _) ⟨hz,its,0,hv,z0j _ rfl⟩
theorem Inv.fresh (I:Inv X pins σ H s):H s.heap.objs.size=none:=I.hok.fresh (q0j _)
theorem Inv.lstM (I:Inv X pins σ H s) (hH:H l=some (.lst xs)):xs.length<=sizeLine/\∃ (its:List Value) (n:Nat),j8 xs its/\xs.length=its.length/\s.heap.get? l=some { cls:=.type "list",data:=.seq its.toArray n }:=by
 obtain ⟨z,its,n,r,e⟩:=I.hok l _ hH;exact ⟨z,its,n,r,r.length,e⟩
theorem bd3 {n:Nat} (h:n<=sizeLine):Builtin.List.listTooLong n=false:=by
 unfold Builtin.List.listTooLong;exact decide_eq_false ⋯
end
section
variable {X:Cx}
def aB7:V->List V->Hp->VK->Prop:=λx vs H Q => ∃ l xs y,x=.ref l/\vs=[y]/\H l=some (.lst xs)/\xs.length<sizeLine/\Q .non (upd H l (.lst (xs ++ [y])))
theorem al3:MtM X "list.append" aB7:=by
 intro pins s σ H x vs v us Q I rx rv h;obtain ⟨l,xs,y,rfl,rfl,hH,hz,q⟩:=h
 cases rx
 obtain ⟨u,rfl,ru⟩:=rv.one;obtain ⟨z,its,n,r,hl,e⟩:=I.lstM hH;refine call_meets F.slot_list_append ⟨_,e,rfl⟩ F.entry_list_append (F.args_list_append_2 _ _) (PySem.list_append l its.toArray n u (by rw [q0g];omega)) ⟨e,?_⟩
 refine ⟨.non,_,I.lset (its':=its ++ [u]) hH e (by simp) (r.append (.cons ru .nil)) ?_,rfl,q⟩
 rw [j0n,List.length_singleton];omega
def rExtend:V->List V->Hp->VK->Prop:=λx vs H Q => ∃ l b xs zs,x=.ref l/\vs=[.ref b]/\H l=some (.lst xs)/\H b=some (.lst zs)/\xs.length+zs.length<=sizeLine/\Q .non (upd H l (.lst (xs ++ zs)))
def bt1:V->List V->Hp->VK->Prop:=λx vs H Q => ∃ l xs y,x=.ref l/\vs=[]/\H l=some (.lst xs)/\xs[xs.length-1]? = some y/\Q y (upd H l (.lst xs.dropLast))
theorem bv9:MtM X "list.pop" bt1:=by
 intro pins s σ H x vs v us Q I rx rv h;obtain ⟨l,xs,y,rfl,rfl,hH,hy,q⟩:=h
 cases rx
 have hus:=rv.zero;subst hus;obtain ⟨z,its,n,r,hl,e⟩:=I.lstM hH;obtain ⟨u,hu,ru⟩:=r.get hy
 have hy':its.toArray[its.toArray.size-1]? = some u:=by
  show its.toArray[its.length-1]? = some u;rw [<- Array.getElem?_toList,<- hl];exact hu
 refine call_meets F.slot_list_pop ⟨_,e,rfl⟩ F.entry_list_pop (F.args_list_pop_1 _) (MeetsSeq.list_pop_last l its.toArray n u hy' (by rw [q0g];omega)) ⟨e,?_⟩
 refine ⟨y,_,I.lset (its':=its.dropLast) hH e ?_ r.dropLast ?_,ru,q⟩
 ·show its.toArray.eraseIdxIfInBounds (its.toArray.size-1)=its.dropLast.toArray
  rw [q0g,List.eraseIdxIfInBounds_toArray,aO5]
 ·rw [List.length_dropLast]
  omega
def bt4:R2:=λx y H Q => ∃ l b xs zs,x=.ref l/\y=.ref b/\H l=some (.lst xs)/\H b=some (.lst zs)/\xs.length+zs.length<=sizeLine/\∀ p,H p=none->Q (.ref p) (upd H p (.lst (xs ++ zs)))
theorem af9:OpR X (binaryOp .Add) bt4:=by
 intro pins s σ H x y v u Q I rx ry h;obtain ⟨l,b,xs,zs,rfl,rfl,hH,hB,hz,q⟩:=h
 cases rx
 cases ry
 obtain ⟨z,its,n,r,hl,e⟩:=I.lstM hH;obtain ⟨z2,its2,n2,r2,hl2,e2⟩:=I.lstM hB;refine PySem.P.add_list e e2 ?_ (by rw [q0g,q0g];omega)
 have ea:its.toArray ++ its2.toArray=(its ++ its2).toArray:=by simp
 rw [ea];exact ⟨.ref _,_,I.lnew (t':=s.toks) (r.append r2) (by rw [j0n];omega),rfl,q _ I.fresh⟩
def bt0:R2:=λx y H Q => ∃ l k xs,x=.ref l/\y=.int k/\H l=some (.lst xs)/\-(2 ^ 63)<=k/\k<2 ^ 63/\xs.length*k.toNat<=sizeLine /\
 ∀ p,H p=none->Q (.ref p) (upd H p (.lst (q0v k.toNat xs).flatten))
theorem bm2 {α:Type} (xs:List α) (k:Nat):(q0v k xs).flatten.length=k*xs.length:=by
 induction k with
 | zero=>simp
 | succ k ih=>rw [v0s,u0q,j0n,ih,z1g,m0y]
theorem aN2:OpR X (binaryOp .Mult) bt0:=by
 intro pins s σ H x y v u Q I rx ry h;obtain ⟨l,k,xs,rfl,rfl,hH,h1,h2,hz,q⟩:=h
 cases rx
 obtain ⟨t,rfl⟩:=ry;obtain ⟨z,its,n,r,hl,e⟩:=I.lstM hH;have hlen:its.toArray.size*k.toNat<=sizeLine:=by rw [q0g,<- hl];exact hz
 have hcap:¬ its.toArray.size*k.toNat > (2 ^ 63-1) / 8:=by
  have:(sizeLine:Nat)<=(2 ^ 63-1) / 8:=by decide
  omega
 have hfit:¬ (!Builtin.List.listFitsIndex k)=true:=by
  rw [fitsIndex_both h1 h2];exact q0n
 have hlong:¬ Builtin.List.listTooLong (its.toArray.size*k.toNat)=true:=by
  rw [bd3 hlen];exact q0n
 have hnew:List.foldl (λx1 x2=>x1 ++ x2) #[] (q0v (if its.toArray.isEmpty=true then 0 else k.toNat) its.toArray)=(q0v k.toNat its).flatten.toArray:=by
  have f0:∀ m:Nat,List.foldl (λx1 x2=>x1 ++ x2) #[] (q0v m its.toArray)=(q0v m its).flatten.toArray:=λm=>by
   have:=ax5 its m [];rw [q1j] at this;exact this
  rw [f0]
  cases its with
  | nil=>simp
  | cons a r'=>rw [if_neg (by simp)]
 refine wpAny_binaryOp_repeat_ref (T := "list") (U := "int") (by decide) ⟨_,e,rfl⟩ (λs'=>typeIs_int s' k t) noFill_list_mul F.fills_int_mul F.slot_int_rmul repeat_list F.slot_int_index.lookup
  (call_meets F.slot_int_rmul (typeIs_int s k t) F.entry_int_rmul (F.args_int_rmul_2 _ _) (int___rmul___int_list k t l its.toArray n)
   ⟨e,rfl,⟨_,e,rfl⟩,call_meets F.slot_list_mul ⟨_,e,rfl⟩ F.entry_list_mul (F.args_list_mul_2 _ _) (AutoListH.list___mul___list_int_3 l its.toArray n k t hfit hcap hlong) ⟨e,?_⟩⟩)
 rw [hnew];exact ⟨.ref _,_,I.lnew (t':=s.toks) (r.rep k.toNat) (by rw [bm2,g0n];exact hz),rfl,q _ I.fresh⟩
end
end L2
namespace Att
open PySem PySem.W PySem.Calls PyProof.Rows
theorem ao3 {P:Params} {h:Heap}:∀ (ns:List Int) (vs:List Value),WellAll P h vs (ns.map WData.int)->IntsAre vs ns:=by
 intro ns
 induction ns with
 | nil =>
  intro vs w;rw [z1h] at w
  cases w
  exact .nil
 | cons n ns ih =>
  intro vs w;rw [j0g] at w
  cases w with
  | cons a b =>
   cases a
   exact .cons _ _ (ih _ b)
theorem aV5 {l:OpenLaw} {n:Nat} (hn:l.most=some n) {P:Params} {h:Heap} {args:List WData} {vals:List Value}
  (hpre:l.row.toRowW.claim.pre args=true) (hwl:WellAll P h vals args) :
  ∃ a vs ns,vals=[Value.ref a]/\args=[WData.list (ns.map WData.int)]/\h.get? a=some { cls:=.type "list",data:=.seq vs.toArray }/\IntsAre vs ns/\ns.length<=n:=by
 have hsh:WShape.hasAll [] args [.list .int]=true:=(pre_splitW hpre).1;have hc:l.pre.holds [] { args:=args }=true:=(pre_splitW hpre).2;obtain ⟨d,r,rfl,h1,h2⟩:=hasAllW_cons hsh;obtain rfl:=hasAllW_nil h2;obtain ⟨xs,rfl,h3⟩:=hasW_list h1;obtain ⟨ns,rfl⟩:=items_int h3
 have hlen:ns.length<=n:=by
  unfold OpenLaw.pre at hc
  have h4:(WTm.not (.lt (.lit (.int (n:Int))) (.len (.arg 0)))).holds [] { args:=[.list (ns.map .int)] }=true:=by
   have h4:=(holds_andW hc).1;rw [hn] at h4;exact h4
  have h5:=condW_of h4 (w_not (w_lt w_lit (w_len_list (w_arg rfl))));rw [z0g] at h5;refine Nat.le_of_not_lt λq=>?_;have q':(n:Int)<((ns.length:Nat):Int):=⋯
  first
   | (rw [decide_eq_true q'] at h5;exact absurd h5 (by decide))
   | (simp at h5;omega)
 cases hwl with
 | cons w1 w2 =>
  cases w2
  cases w1 with
  | list ho hall=>exact ⟨_,_,ns,rfl,rfl,ho,ao3 ns _ hall,hlen⟩
theorem aW3 (l:OpenLaw) (args:List WData):l.row.toRowW.claim.post args (.bool true) args=true :=
 postW_of (r:=l.row.toRowW) (X:=(true == true))
  (show WShape.has [] (.bool true) .bool=true by first | rfl | decide | simp [WShape.has,WShape.arms,WShape.armsAll])
  (show (WTm.eq .res (.lit (.bool true))).value [] { args:=args,res:=some (.bool true),after:=args }=some (.bool (true == true)) from w_eq_bool (w_res rfl) w_lit) rfl
theorem attach_call {l:OpenLaw} {n:Nat} {q:Program} {loose:List Str} {XP:(Str->Option Value)->Heap->Prop} {YP:World->Heap->Prop} {d:DefRec}
  (hn:l.most=some n) (hdf:d.params.defaults=[])
  (call:∀ (w:World) (s₀ s₁:Shared) (mg mb:Str->Option Value) (fa:Addr) (o:Obj) (pm cd doc:Value) (a:Addr) (vs:List Value) (ns:List Int),
   Ground q loose [] XP w s₀ mg mb s₁.heap->YP w s₁.heap ->
   s₁.heap.get? fa=some o->o.data=.func (docDef d.name d.params d.body d.scope pm cd doc)->s₁.heap.CodeRec cd d.name->mg d.name=some (.ref fa) ->
   s₁.heap.get? a=some { cls:=.type "list",data:=.seq vs.toArray }->IntsAre vs ns->ns.length<=n->s₁.gens = #[] ->
   codeAny (model l.prog w) callerA (.call (.ref fa) ⟨[.ref a],[]⟩) (λr s'=>r=.ok (.ret (.bool true))/\OldK s₁.heap s'.heap/\s'.os=s₁.os/\AllBare s'.gens) s₁) :
  WalkO q loose XP YP l.row.toRowW d [] (λf vs=>PySem.call f vs):=by
 intro w s₀ s₁ mg mb G Y fa o pm cd doc dV kV ho hd hcd hD hmg hg args vals as hpre hlay hrd hwl hlo;obtain rfl:dV=.none:=Dflts.none hD hdf;obtain rfl:kV=.none:=Dflts.noKw hD;obtain ⟨a,vs,ns,rfl,rfl,hobj,hints,hlen⟩:=aV5 hn hpre hwl;refine enter_call (codeAny_mono (call w s₀ s₁ mg mb fa o pm cd doc a vs ns G Y ho (fd_plain hd) hcd hmg hobj hints hlen hg) λr s' hq=>?_);obtain ⟨rfl,h2,h3,h4⟩:=hq;exact ⟨.inl ⟨.bool true,.bool true,[],rfl,λ_=>rfl,.bool true,aW3 l _,λ_=>⟨List.Pairwise.nil,λ_ hm=>(nomatch hm)⟩⟩,h2,h3,h4⟩
end Att
namespace L2
open PySem PySem.Spec PyProof.Rows
theorem aw0:∀ {vs:List Value} {ns:List Int},IntsAre vs ns->j8 (ns.map V.int) vs
 | _,_,.nil=>.nil
 | _,_,.cons n t h=>.cons ⟨t,rfl⟩ (aw0 h)
def bz4 (H:Hp):Prop:=∀ b,H b=none \/ ∃ o xs,H b=some (.frz o (.lst xs))
theorem be7 {P:Program} {w:World} {K:q0a} {mg mb:Str->Option Value} {CX:CXT} {k:Nat} {fa a:Addr} {fd:FuncData} {x:Str} {sp:Sp} {s₁:Shared} {vs:List Value} {ns:List Int}
  (KX:K.In s₁.heap) (hns:s₁.heap.Ns mainGlobals mg) (hb:s₁.heap.Ns builtinsNs mb) (hbb:∀ x:Str,x ≠ "__name__"->mb x=bootBuiltins x) (hlim:s₁.heap.NoLimit) (hg:s₁.gens = #[])
  (ha:s₁.heap.get? a=some { cls:=.type "list",data:=.seq vs.toArray }) (hi:IntsAre vs ns) (hl:ns.length<=sizeLine) (hr:Q6 k callerA)
  (F:∀ base:Heap,K.In base->base.Ns mainGlobals mg->ak5 P w K mg base CX k fa fd [x] sp) (hbind:∀ (s:Shared) (u:Value),BindsTo s fd ⟨[u],[]⟩ [(x,u)])
  (hsp:∀ H:Hp,bz4 H->SqL K H a (ns.map V.int)->sp [.ref a] H (λv _=>v=.bl true) λ_ _ _=>False)
  (hCX:∀ H e s',CX [] H s₁ (λ_ _ _=>False) e s'->False) :
  codeAny (model P w) callerA (.call (.ref fa) ⟨[.ref a],[]⟩) (λr s'=>r=.ok (.ret (.bool true))/\OldK s₁.heap s'.heap/\s'.os=s₁.os/\AllBare s'.gens) s₁:=by
 have rv:=aw0 hi;have lenV:=hi.length
 -- from an abstract heap in which nothing but the script may be tracked
 have core:∀ H:Hp,bz4 H->SqL K H a (ns.map V.int)->HOk P w H s₁.heap->(∀ b,H b ≠ none->b=a)->(H a ≠ none->K.lookup a=none) ->
   codeAny (model P w) callerA (.call (.ref fa) ⟨[.ref a],[]⟩) (λr s'=>r=.ok (.ret (.bool true))/\OldK s₁.heap s'.heap/\s'.os=s₁.os/\AllBare s'.gens) s₁:=by
  intro H hO hS hok hA hK;have base_of:∀ {b:Addr} {o:Obj},s₁.heap.get? b=some o->H b=none->(aE0 s₁.heap H).get? b=some o:=λe n=>bf7 e n
  have noA:∀ {b:Addr} {o:Obj} {es:Array DictEntry} {ep:Nat},s₁.heap.get? b=some o->o.data=.dict es ep->H b=none:=fun {b o es ep} e d=>by
   cases q:H b with
   | none=>rfl
   | some u =>
    have e':b=a:=hA b (by rw [q];simp)
    subst e';rw [ha] at e;cases e;have d':Data.seq vs.toArray _=Data.dict es ep:=d
    cases d'
  have nsK:∀ {b:Addr} {m:Str->Option Value},s₁.heap.Ns b m->(aE0 s₁.heap H).Ns b m:=fun {b m} ⟨o,es,ep,e,d,r⟩=>⟨o,es,ep,base_of e (noA e d),d,r⟩
  have hKb:K.In (aE0 s₁.heap H):=λb o e=>base_of (KX b o e) (by
   cases q:H b with
   | none=>rfl
   | some u =>
    have e':b=a:=hA b (by rw [q];simp)
    subst e';rw [hK (by rw [q];simp)] at e;cases e)
  have hM:Mod K mg (aE0 s₁.heap H):=⟨hKb,nsK hns,⟨mb,nsK hb,hbb⟩,let ⟨mc,h1,h2⟩:=hlim;⟨mc,nsK h1,h2⟩⟩;have e0:aZ1 P w K mg (aE0 s₁.heap H) callerA [] s₁ H:=⟨rfl,hM,λb o e=>bl6 e,Nat.le_of_eq (aX7 _ _),trivial,λb hb=>absurd (show b ∈ ([]:List Addr) from hb) (by simp),hok,.of_eq hg⟩
  refine codeAny_mono ((F _ hKb (nsK hns)).run callerA [] s₁ H ⟨[.ref a],[]⟩ [.ref a] [.ref a] _ _ hr e0 (hbind s₁ (.ref a)) (.cons rfl .nil) (hsp H hO hS)) λr s' h=>?_
  cases r with
  | error e=>exact (hCX H e s' h).elim
  | ok fl =>
   cases fl with
   | next=>exact False.elim h
   | brk=>exact False.elim h
   | cont=>exact False.elim h
   | ret u =>
    obtain ⟨v,H',os,bare,un,hok',r',q⟩:=h;have q':v=.bl true:=q;subst q';obtain rfl:u=Value.bool true:=r';refine ⟨rfl,OldK.of_keep λb o e=>?_,os,bare⟩
    cases q:H b with
    | none=>exact un.keep b o e q (by intro z;exact absurd (show b ∈ ([]:List Addr) from z) (by simp)) (by simp)
    | some u =>
     rcases hO b with z | ⟨ob,xs,z⟩
     ·rw [q] at z;cases z
     ·have z2:=un.frzs b ob _ z
      obtain ⟨e1,_⟩:=hok b _ z;obtain ⟨e2,_⟩:=hok' b _ z2;rw [e] at e1;cases e1;exact e2
 cases hk:K.lookup a with
 | some o =>
  -- the script is one of the module's own objects
  have e:=KX a o hk;rw [ha] at e
  cases e
  refine core (λ_=>none) (λ_=>.inl rfl) (.inr ⟨_,vs.toArray,_,hk,rfl,rfl,rfl,by rw [q0g,lenV];exact hl,by simpa using rv⟩) (λb u z=>by have z':(none:Option HO)=some u:=z;cases z') (λb z=>absurd rfl z) λz=>absurd rfl z
 | none =>
  refine core (λb=>if b=a then some (.frz { cls:=.type "list",data:=.seq vs.toArray } (.lst (ns.map V.int))) else none) (λb=>?_) (.inl (.inr ⟨{ cls:=.type "list",data:=.seq vs.toArray },if_pos rfl⟩)) (λb u z=>?_) (λb z=>?_) λ_=>hk
  ·by_cases hb:b=a
   ·exact .inr ⟨_,_,if_pos hb⟩
   ·exact .inl (if_neg hb)
  ·by_cases hb:b=a
   ·have z':=(if_pos hb).symm.trans z
    cases z'
    subst hb;exact ⟨ha,by rw [z0g];exact hl,vs,_,rv,ha⟩
   ·have z':=(if_neg hb).symm.trans z
    cases z'
  ·by_cases hb:b=a
   ·exact hb
   ·exact absurd (if_neg hb) z
abbrev KOf {K:q0a} {h:Heap} (_:K.In h):q0a:=K
theorem aP5 {l:q1k} {n k:Nat} {q:Program} {loose:List Str} {XP:(Str->Option Value)->Heap->Prop} {YP:World->Heap->Prop} {d:DefRec} {K:Params->q0a} {CX:World->CXT} {sp:World->Sp} {x:Str}
  (hn:l.most=some n) (hn2:n<=sizeLine) (hdf:d.params.defaults=[]) (hr:Q6 k callerA)
  (hY:∀ (w:World) (h:Heap),YP w h->(K w.params).In h)
  (F:∀ (w:World) (mg:Str->Option Value) (fa:Addr) (h:Heap),(K w.params).In h->h.Ns mainGlobals mg->mg d.name=some (.ref fa) ->
   ∃ fd:FuncData,(∀ (s:Shared) (u:Value),BindsTo s fd ⟨[u],[]⟩ [(x,u)]) /\
    ∀ base:Heap,(K w.params).In base->base.Ns mainGlobals mg->ak5 l.prog w (K w.params) mg base (CX w) k fa fd [x] (sp w))
  (hsp:∀ (w:World) (H:Hp) (a:Addr) (ns:List Int),ns.length<=n->bz4 H->SqL (K w.params) H a (ns.map V.int)->sp w [.ref a] H (λv _=>v=.bl true) λ_ _ _=>False)
  (hCX:∀ (w:World) (H:Hp) (s:Shared) (e:Value) (s':Shared),CX w [] H s (λ_ _ _=>False) e s'->False) :
  PySem.W.WalkO q loose XP YP l.row.toRowW d [] (λf vs=>PySem.call f vs):=by
 refine Att.attach_call hn hdf λw s₀ s₁ mg mb fa o pm cd doc a vs ns G Y ho hd hcd hmg hobj hints hlen hg=>?_;have KX:=hY w _ Y;obtain ⟨fd,hb,hF⟩:=F w mg fa _ KX G.T.g hmg;exact be7 KX G.T.g G.T.b G.T.builtins G.T.nolimit hg hobj hints (z0p hlen hn2) hr hF hb (λH hO hS=>hsp w H a ns hlen hO hS) λH e s'=>hCX w H s₁ e s'
end L2
namespace L2
open PySem PySem.Spec PyProof.Rows
def ad7 (s:Stmt):Arguments:=match s with
 | .FunctionDef _ a _ _ _ _ _ _ _ _=>a
 | _=>{ posonlyargs:=[],args:=[],vararg:=none,kwonlyargs:=[],kw_defaults:=[],kwarg:=none,defaults:=[] }
def J2 (s:Stmt):List Stmt:=match s with
 | .FunctionDef _ _ b _ _ _ _ _ _ _=>b
 | _=>[]
def c4 (s:Stmt):Scope:=match s with
 | .FunctionDef _ _ _ _ _ _ sc _ _ _=>sc
 | _=>{ kind:=.function,names:=[],isGenerator:=false,isCoroutine:=false }
abbrev CX0:CXT:=λ_ _ _ _ _ _=>False
abbrev E0:XK:=λ_ _ _=>False
theorem d8 {X:Cx}:at9 CX0 X E0:=λ_ _ _ _ _ _ _ h=>h.elim
structure Fun (K:q0a) (x qual:Str) (st:Stmt) (f:Addr) (fd:FuncData):Prop where
 ex:∃ (oc:Value) (od:Option Addr) (kV doc pm:Value) (an:Option Addr) (cdv ct:Value) (osl:Array (Option Value)),
  fd=v0k x qual (ad7 st) (J2 st) (c4 st) .none kV doc pm an cdv ct/\K.lookup f=some ⟨oc,od,.func fd,osl⟩/\q1u K cdv qual=true
 kp:y0r K (.ref f)=true
section
variable {P:Program} {w:World} {K:q0a} {mg:Str->Option Value} {base:Heap}
theorem Fun.ok {x qual:Str} {st:Stmt} {f:Addr} {fd:FuncData} {N ps:List Str} {k:Nat} {sp:Sp} (F:Fun K x qual st f fd) (S:i7 N ps (c4 st)) (len:∀ vs H Q E,sp vs H Q E->vs.length=ps.length)
  (hbody:∀ (cdv:Value) (A:Around) (outer:List Env) (s:Shared) (H:Hp) (vs:List V) (Q:VK) (E:XK),Q6 k (A.deeper (envOfC qual (c4 st) s.heap.objs.size f cdv))->sp vs H Q E ->
   ∃ t,PSs (ao5 CX0 P w K mg base N qual (c4 st) f cdv A outer s H E).nox (J2 st) t/\t { nx:=λ_ H'=>Q .non H',rt:=Q } (start N vs) H):ak5 P w K mg base CX0 (k+1) f fd ps sp:=by
 obtain ⟨oc,od,kV,doc,pm,an,cdv,ct,osl,rfl,lk,hcd⟩:=F.ex;refine br3 lk hcd S len λA outer s H vs Q E hr hsp=>?_;obtain ⟨t,h,q⟩:=hbody cdv A outer s H vs Q E hr hsp;exact ⟨t,h.nox,q⟩
theorem Fun.binds {x qual:Str} {st:Stmt} {f:Addr} {fd:FuncData} {ps:List Str} (F:Fun K x qual st f fd)
  (h:∀ (kV doc pm:Value) (an:Option Addr) (cdv ct:Value) (us:List Value),us.length=ps.length->bindArgs (v0k x qual (ad7 st) (J2 st) (c4 st) .none kV doc pm an cdv ct) ⟨us,[]⟩=pure (ps.zip us)):ac7 K fd ps []:=by
 obtain ⟨oc,od,kV,doc,pm,an,cdv,ct,osl,rfl,lk,hcd⟩:=F.ex;exact .all (h kV doc pm an cdv ct)
theorem bx6 {x qual:Str} {st:Stmt} {f:Addr} {oc:Value} {od an:Option Addr} {osl:Array (Option Value)} {kV doc pm cdv ct:Value} (l:K.lookup f=some ⟨oc,od,.func (v0k x qual (ad7 st) (J2 st) (c4 st) .none kV doc pm an cdv ct),osl⟩)
  (c:q1u K cdv qual=true) (k:y0r K (.ref f)=true):Fun K x qual st f (v0k x qual (ad7 st) (J2 st) (c4 st) .none kV doc pm an cdv ct):=⟨⟨oc,od,kV,doc,pm,an,cdv,ct,osl,rfl,l,c⟩,k⟩
end
section
variable {X:Cx}
theorem pv (i : Nat) {x : Str} {pos : Pos} (hN : X.N[i]? = some x := by rfl) (hv : Vis X.env.scope x := by first | exact Or.inl rfl | exact Or.inr (Or.inl rfl) | exact Or.inr (Or.inr rfl)) (hd : (x == ("__debug__" : Str)) = false := by decide)
    (hcd:(x == ("__classdict__" : Str))=false:=by decide):PE X (.Name x pos) (ak7 i):=bu5 hN hv hd hcd
end
theorem bD9 {A B:Prop} (h:A):if true=true then A else B:=by
 rw [if_pos rfl];exact h
theorem x8 {c A B:Prop} [Decidable c] (h1:c->A) (h2:¬ c->B):if c then A else B:=by
 by_cases h:c
 ·rw [if_pos h]
  exact h1 h
 ·rw [if_neg h]
  exact h2 h
def b9 (H H':Hp):Prop:=∀ b o,H b=some o->H' b=some o
theorem b9.refl (H:Hp):b9 H H:=λ_ _ h=>h
theorem b9.trans {H H1 H2:Hp} (a:b9 H H1) (b:b9 H1 H2):b9 H H2:=λc o h=>b c o (a c o h)
theorem b9.free {H H':Hp} (e:b9 H H') {l:Addr} (h:H' l=Option.none):H l=Option.none:=by
 cases q:H l with
 | none=>rfl
 | some o =>
  rw [e l o q] at h
  cases h
theorem b9.seq {K:q0a} {H H':Hp} {a:Addr} {xs:List V} (e:b9 H H') (h:SqL K H a xs):SqL K H' a xs:=by
 rcases h with (h | ⟨o,h⟩) | h
 ·exact .inl (.inl (e _ _ h))
 ·exact .inl (.inr ⟨o,e _ _ h⟩)
 ·exact .inr h
section
variable {P:Program} {w:World} {H:Hp} {h:Heap} {a:Addr} {o:HO}
theorem C2.there (x:C2 P w H h a o):∃ ob,h.get? a=some ob:=by
 cases o with
 | lst xs=>obtain ⟨_,_,_,_,e⟩:=x;exact ⟨_,e⟩
 | tup xs=>obtain ⟨_,_,_,ob,e,_⟩:=x;exact ⟨_,e⟩
 | dK kvs=>obtain ⟨_,_,_,_,o,_,_,e,_⟩:=x;exact ⟨_,e⟩
 | dT kvs=>obtain ⟨_,_,_,_,o,_,_,e,_⟩:=x;exact ⟨_,e⟩
 | set S n=>obtain ⟨o,_,_,_,e,_⟩:=x;exact ⟨_,e⟩
 | ins C dx fs=>obtain ⟨_,_,_,e,_⟩:=x;exact ⟨_,e⟩
 | own y=>obtain ⟨_,e⟩:=x;exact ⟨_,e⟩
 | xd fs=>obtain ⟨_,⟨_,_,_,e,_⟩,_⟩:=x;exact ⟨_,e⟩
 | rng lo hi=>obtain ⟨_,_,_,e⟩:=x;exact ⟨_,e⟩
 | frz ob u=>obtain ⟨e,_⟩:=x;exact ⟨_,e⟩
 | tbl ps=>exact ⟨_,(show h.get? a=some _ from x)⟩
 | met f y=>exact ⟨_,(show h.get? a=some _ from x)⟩
 | ext φ=>obtain ⟨_,e,_⟩:=x;exact e
end
def CXR (P:Program) (w:World):CXT:=λouter H s E e s' => ∃ (a:Addr) (cls a0:Value) (H':Hp) (B:Heap),e=.ref a/\s'.os=s.os/\AllBare s'.gens /\
 z1j B outer a cls a0 s'.heap/\(∀ b o,s.heap.get? b=some o->H b=none->b ∉ frs outer->B.get? b=some o)/\(∀ b o,s.heap.get? b=some o->b ∉ frs outer->∃ o',B.get? b=some o') /\
 HOk P w H' B/\Un (frs outer) [] H H' s.heap s'.heap/\H' a=none/\E cls none H'
def bj2 (X:Cx) (R:Value->Hp->Prop):Prop:=∀ (pins:List (Addr × Obj)) (σ:St) (H:Hp) (s:Shared) (h':Heap) (e:Addr) (cls:Value) (vs:List Value),Inv X pins σ H s->Heap.MadeExcOf s.heap h' e cls vs->R cls H ->
 X.xe (.ref e) { s with heap:=h' }
section
variable {CX:CXT} {P:Program} {w:World} {K:q0a} {mg:Str->Option Value} {base:Heap} {N:List Str} {qual:Str} {scope:Scope} {f:Addr} {cd:Value} {A:Around} {outer:List Env} {s₀:Shared} {H₀:Hp} {E:XK}
abbrev cxR (P:Program) (w:World) (K:q0a) (mg:Str->Option Value) (base:Heap) (N:List Str) (qual:Str) (scope:Scope) (f:Addr) (cd:Value) (A:Around) (outer:List Env) (s₀:Shared) (H₀:Hp) (E:XK):Cx:=ao5 (CXR P w) P w K mg base N qual scope f cd A outer s₀ H₀ E
theorem bx4 {X:Cx} {pins:List (Addr × Obj)} {σ:St} {H:Hp} {s:Shared} (I:Inv X pins σ H s):HOk X.prog X.w H (q1h s.heap (frs X.stack)):=λb u e=>by
 refine (I.hok b u e).stay (λc v hc q=>v0r _ q λhm=>?_) (λ_ q=>q) λ_ _ q=>q;have z:=I.stkFree c hm;rcases hc with rfl | hc
 ·rw [z] at e;cases e
 ·rw [z] at hc;cases hc
theorem aV8:bj2 (cxR P w K mg base N qual scope f cd A outer s₀ H₀ E) (λcls H'=>E cls none H'):=by
 intro pins σ H s h' e cls vs I hx hE;have frS:=I.stack;have hin:∀ env ∈ (cxR P w K mg base N qual scope f cd A outer s₀ H₀ E).stack,∀ b,env.frame=some b->b ∈ frs (cxR P w K mg base N qual scope f cd A outer s₀ H₀ E).stack:=λenv he b hb=>m0g.mpr ⟨env,he,hb⟩
 have lo:∀ b o,s₀.heap.get? b=some o->b ∉ frs outer->b ∉ frs (cxR P w K mg base N qual scope f cd A outer s₀ H₀ E).stack:=λb o q hb hm=>by
  rcases z0z.mp (I.stkSub b hm) with z | z
  ·exact absurd z (z0c (q0b (q0f q) I.ok.above))
  ·exact hb z
 refine wpAny_leaves_madeW (base:=q1h s.heap (frs (cxR P w K mg base N qual scope f cd A outer s₀ H₀ E).stack)) I.ok.frames rfl (λb o q=>PySem.W.of_hideAll _ q) (PySem.W.funFrames_hide frS hin) hx λh2 t x1 x2 x3 x4=>?_;have hk:∀ b o,s.heap.get? b=some o->b ∉ frs (cxR P w K mg base N qual scope f cd A outer s₀ H₀ E).stack->h2.get? b=some o:=λb o q hb=>x1.1 b o (v0r _ q hb)
 have hfr:∀ b o,s.heap.get? b=some o->b ∈ frs (cxR P w K mg base N qual scope f cd A outer s₀ H₀ E).stack->∃ sl,h2.get? b=some { o with slots:=sl }:=λb o q hb=>by
  obtain ⟨_,ob,hob,hnf⟩:=frS.mem hb;rw [q] at hob;cases hob;exact x4 b o (hx.keeps b o q) hnf
 have hany:∀ b o,s.heap.get? b=some o->∃ o',h2.get? b=some o':=λb o q=>by
  by_cases hb:b ∈ frs (cxR P w K mg base N qual scope f cd A outer s₀ H₀ E).stack
  ·obtain ⟨sl,z⟩:=hfr b o q hb;exact ⟨_,z⟩
  ·exact ⟨_,hk b o q hb⟩
 have nx:∀ b:Addr,b ∉ (cxR P w K mg base N qual scope f cd A outer s₀ H₀ E).ex:=λb z=>absurd (show b ∈ ([]:List Addr) from z) (by simp)
 refine ⟨e,cls,.ref t,H,_,rfl,I.os,I.bare,x1,λb o q n hb=>v0r _ (I.base.keep b o q n hb (nx b)) (lo b o q hb),λb o q hb=>?_,bx4 I,⟨λb o q n hb _=>?_,λb o q n hb _=>?_,λb o q n _=>I.base.free b o q n (nx b),λb o q _=>?_,I.base.tups,I.base.frzs,I.base.tbls⟩,?_,hE⟩
 ·obtain ⟨o',z⟩:=I.base.there b o q (nx b)
  exact ⟨o',v0r _ z (lo b o q hb)⟩
 ·exact hk b o (I.base.keep b o q n hb (nx b)) (lo b o q hb)
 ·obtain ⟨sl,z⟩:=I.base.slot b o q n hb (nx b)
  have hm:b ∈ frs (cxR P w K mg base N qual scope f cd A outer s₀ H₀ E).stack:=by
   show b ∈ frs (_ :: outer);unfold frs at hb ⊢;rw [j0u];exact z0h _ hb
  obtain ⟨sl',z'⟩:=hfr b _ z hm;exact ⟨sl',z'⟩
 ·obtain ⟨o',z⟩:=I.base.there b o q (nx b)
  exact hany b o' z
 ·cases q:H e with
  | none=>rfl
  | some u =>
   obtain ⟨ob,z⟩:=(I.hok e u q).there;rw [hx.new] at z;cases z
end
structure bp4 (K:q0a) (C:Addr) (bm:List Value) (newId:String):Prop where
 ok:z1a K C bm newId=true
theorem bp4.obj {K:q0a} {C:Addr} {bm:List Value} {newId:String} (O:bp4 K C bm newId) {h:Heap} (X:K.In h) :
  ∃ tl N nm q bs hdct sn sub ab col dd k0 k1 k2 k3 k5 mN,h.get? C=some (excClassObj nm q C N bs tl hdct sn sub ab col dd k0 k1 k2 k3 k5 newId)/\h.Ns N mN/\mN "__init__" = none/\OwnTail h bm tl:=by
 have q:=O.ok;unfold z1a at q
 split at q
 ·rename_i dd cd sl ho
  split at q
  ·rename_i C' bm' k0 k1 k2 k3 n k5 hm hs
   simp only [j0t,beq_iff_eq,m0p] at q;obtain ⟨⟨⟨⟨⟨rfl,rfl⟩,hdel⟩,ht⟩,hok⟩,hni⟩:=q;obtain ⟨nm,bs,mro,ns,qn,hd,sn,sub,ab,col,del⟩:=cd
   dsimp only at hm hdel hok hni
   subst hm hdel
   have hsl:sl = #[k0,k1,k2,k3,some (.builtin n),k5]:=by
    obtain ⟨l⟩:=sl;simp only at hs;rw [hs]
   subst hsl;exact ⟨bm',ns,nm,qn,bs,hd,sn,sub,ab,col,dd,k0,k1,k2,k3,k5,_,X _ _ ho,.of_isNs (PySem.W.isNs_of_in X hok),PySem.W.nsMap_none_of_in X hok hni,PySem.W.tail_of_in X ht⟩
  ·cases q
 ·cases q
section
variable {X:Cx} {x:Str} {C:Addr} {bm:List Value} {newId B initId:String} {e:Expr} {es:List Expr} {te:TA} {np cpos pos:Pos} {R:Value->Hp->Prop}
def aL4 (C:Addr) (te:TA) (R:Value->Hp->Prop):TS:=λ_ σ H=>te σ H λvs H1=>vs.length<=sizeLine/\R (.ref C) H1
theorem bc2 (O:bp4 X.K C bm newId) (FB:ExcBaseFacts B newId initId bm) (hc:X.calm=true) (hg:Gl X x) (hm:X.mg x=some (.ref C)) (hr:bj2 X R) (he:PA X (e :: es) te)
  (hst:starEach (e :: es) X.env=(false,eval e X.env) :: starEach es X.env:=by rfl) (hplain:(backTo cpos (starEach es X.env)).any (·.1)=false:=by rfl) (hd:(x == ("__debug__" : Str))=false:=by decide) :
  PS X (.Raise (some (.Call (.Name x np) (e :: es) [] cpos)) none pos) (aL4 C te R):=by
 intro pins s σ H D I h;obtain ⟨tl,N,nm,q,bs,hdct,sn,sub,ab,col,dd,k0,k1,k2,k3,k5,mN,hC,hN,hni,T⟩:=O.obj I.ok.mod.kin
 refine wpAny_Raise_call_subT (C:=C) (nm:=nm) (q:=q) (N:=N) (bs:=bs) (bm:=tl) (hdct:=hdct) (sn:=sn) (sub:=sub) (ab:=ab) (col:=col) (dd:=dd) (k0:=k0) (k1:=k1) (k2:=k2) (k3:=k3) (k5:=k5)
  FB (mN:=mN) (T.hasType FB.hasBase) (I.ok.hd hc) (by rw [hst];show (false || (backTo cpos (starEach es X.env)).any (·.1))=false;rw [hplain];rfl) hni (aj7 I hg hm ⟨rfl,?_⟩ hd)
 have hA:=he cpos pins s σ H _ I h;rw [hst] at hA ⊢;refine Calls.evalArgs_plain (thn hA λus s2 ⟨vs,H1,I1,r1,hl,q1⟩=>⟨rfl,?_,I1.bk _ _ hC,hN.keeps I1.bk,T.keeps I1.bk,λh' a hx=>hr pins σ H1 s2 h' a _ us I1 hx q1⟩)
 show us.length<=sizeLine;rw [<- r1.length];exact hl
end
section
variable {X:Cx} {pins:List (Addr × Obj)} {σ:St} {H H':Hp} {s s':Shared}
theorem Inv.reA {A2:Around} {c2:Bool} {E2:Value->Shared->Prop} (I:Inv X pins σ H s) (hf:A2.frames=X.A.frames) (hc:c2=true->A2.handled=none):Inv { X with A:=A2,calm:=c2,xe:=E2 } pins σ H s :=
 ⟨⟨I.ok.mod,I.ok.kind,I.ok.glob,I.ok.blt,I.ok.above,I.ok.inj,I.ok.has,I.ok.cab,hc,hf.trans I.ok.frames,I.ok.stk,I.ok.exf,I.ok.bs,I.ok.bsz,I.ok.noex,I.ok.exfs,I.ok.funs,I.ok.frf⟩,
  I.os,I.bare,I.base,I.loc,I.cell,I.free,I.freeC,I.pin,I.hok,I.len⟩
theorem Inv.unA {A2:Around} {c2:Bool} {E2:Value->Shared->Prop} (I:Inv { X with A:=A2,calm:=c2,xe:=E2 } pins σ H s) (ok:X.Ok):Inv X pins σ H s :=
 ⟨ok,I.os,I.bare,I.base,I.loc,I.cell,I.free,I.freeC,I.pin,I.hok,I.len⟩
theorem Inv.bear {E2:Value->Shared->Prop} (I:Inv X pins σ H s):Inv { X with xe:=E2,pn:=X.pn ++ pins } [] σ H s :=
 ⟨⟨I.ok.mod,I.ok.kind,I.ok.glob,I.ok.blt,I.ok.above,I.ok.inj,I.ok.has,I.ok.cab,I.ok.hd,I.ok.frames,I.ok.stk,I.ok.exf,I.ok.bs,I.ok.bsz,I.ok.noex,I.ok.exfs,I.ok.funs,I.ok.frf⟩,
  I.os,I.bare,I.base,I.loc,I.cell,I.free,I.freeC,λp hp=>I.pin p (by simpa using hp),I.hok,I.len⟩
theorem Inv.unbear {E2:Value->Shared->Prop} {pins':List (Addr × Obj)} (I:Inv { X with xe:=E2,pn:=X.pn ++ pins } pins' σ H s):Inv X pins σ H s :=
 ⟨⟨I.ok.mod,I.ok.kind,I.ok.glob,I.ok.blt,I.ok.above,I.ok.inj,I.ok.has,I.ok.cab,I.ok.hd,I.ok.frames,I.ok.stk,I.ok.exf,I.ok.bs,I.ok.bsz,I.ok.noex,I.ok.exfs,I.ok.funs,I.ok.frf⟩,
  I.os,I.bare,I.base,I.loc,I.cell,I.free,I.freeC,λp hp=>I.pin p (g0g _ hp),I.hok,I.len⟩
def an1 (X:Cx):St:=q0v X.N.length none
theorem Inv.forget (I:Inv X pins σ H s):Inv X pins (an1 X) H s :=
 I.weak (by unfold an1;rw [y0s];exact I.len.symm) λi v e=>by
  unfold an1 at e;rw [y0w] at e
  split at e <;> cases e
theorem Inv.relocal {h':Heap} {m':Str->Option Value} {t':Nat} (I:Inv X pins σ H s) (hn':h'.Ns X.env.locals m') (hs:g0h X.env.locals s.heap h'):Inv X pins (an1 X) H { s with heap:=h',toks:=t' }:=by
 have cne:=I.cne;refine ⟨I.ok,I.os,I.bare,⟨λb o e n hb hx=>?_,λb o e n hb hx=>?_,I.base.free,λb o e hx=>?_,I.base.tups,I.base.frzs,I.base.tbls⟩,⟨_,hn',λj y v' e1 e2 e3=>?_⟩,λy c e=>?_,I.free,I.freeC,λp hp=>?_,λb ob e=>?_,?_⟩
 ·exact (hs.2 b (z0c (q0b (q0f e) I.ok.above))).trans (I.base.keep b o e n hb hx)
 ·obtain ⟨sl,e1⟩:=I.base.slot b o e n hb hx
  exact ⟨sl,(hs.2 b (z0c (q0b (q0f e) I.ok.above))).trans e1⟩
 ·obtain ⟨o',e1⟩:=I.base.there b o e hx
  exact ⟨o',(hs.2 b (z0c (q0b (q0f e) I.ok.above))).trans e1⟩
 ·unfold an1 at e2
  rw [y0w] at e2
  split at e2 <;> cases e2
 ·obtain ⟨w',z⟩:=I.cell y c e
  exact ⟨w',z.sameBut hs (cne y c e)⟩
 ·obtain ⟨e,n,ne,nf,d⟩:=I.pin p hp
  exact ⟨(hs.2 p.1 ne).trans e,n,ne,nf,d⟩
 ·refine (I.hok b ob e).stay (λc w' hc q=>(hs.2 c ?_).trans q) (λ_ q=>q) λ_ _ q=>q
  rintro rfl;rcases hc with rfl | hc
  ·rw [I.free] at e;cases e
  ·rw [I.free] at hc;cases hc
 ·show (q0v X.N.length none).length=_
  exact y0s
def Exc (cls:Value) (a:Addr):HO:=.ext λh => ∃ o vs,h.get? a=some o/\o.cls=cls/\o.data=.fields vs
end
theorem Exc.ok {P:Program} {w:World} {H:Hp} {h:Heap} {cls:Value} {a:Addr} {o:Obj} {vs:Array Value} (h1:h.get? a=some o) (h2:o.cls=cls) (h3:o.data=.fields vs):C2 P w H h a (Exc cls a) :=
 ⟨⟨o,vs,h1,h2,h3⟩,⟨o,h1⟩,λ_ _ ⟨o,vs,q1,q2,q3⟩ k=>⟨o,vs,k o q1,q2,q3⟩⟩
theorem Inv.track {X:Cx} {pins:List (Addr × Obj)} {σ:St} {H:Hp} {s:Shared} {o:HO} {a:Addr} (I:Inv X pins σ H s) (hn:H a=none) (new:C2 X.prog X.w (upd H a o) s.heap a o)
  (h1:∀ b ob,X.s₀.heap.get? b=some ob->X.H₀ b=none->b ∉ X.ex->b ≠ a) (h2:X.env.locals ≠ a) (h3:∀ x c,X.env.cells.lookup x=some c->c ≠ a) (h4:∀ p ∈ X.pn ++ pins,p.1 ≠ a):Inv X pins σ (upd H a o) s :=
 ⟨I.ok,I.os,I.bare,⟨I.base.keep,I.base.slot,λb ob q n hx=>by rw [i9 (h1 b ob q n hx)];exact I.base.free b ob q n hx,I.base.there,λb xs q=>by rw [i9 (i6 (I.base.tups b xs q) hn)];exact I.base.tups b xs q,
   λb ob u q=>by rw [i9 (i6 (I.base.frzs b ob u q) hn)];exact I.base.frzs b ob u q,λb ps q=>by obtain ⟨m,z⟩:=I.base.tbls b ps q;exact ⟨m,by rw [i9 (i6 z hn)];exact z⟩⟩,
  I.loc,I.cell,by rw [i9 h2];exact I.free,λx c q=>by rw [i9 (h3 x c q)];exact I.freeC x c q,λp hp=>let ⟨e1,e2,e3⟩:=I.pin p hp;⟨e1,by rw [i9 (h4 p hp)];exact e2,e3⟩,
  λb u e=>by
   by_cases hb:b=a
   ·subst hb;rw [b6] at e;cases e;exact new
   ·rw [i9 hb] at e
    exact (I.hok b u e).stay (λ_ _ _ q=>q) (λc q=>by rw [i9 (i6 q hn)];exact q) λc xs q=>by rw [i9 (i6 q hn)];exact q,
  I.len⟩
theorem Inv.caught {X:Cx} {pins:List (Addr × Obj)} {σ:St} {H:Hp} {s s':Shared} {a:Addr} {cls a0:Value} {H':Hp} {B h6:Heap} (I:Inv X pins σ H s) (os:s'.os=s.os) (bare:AllBare s'.gens) (fl:z1j B X.stack a cls a0 s'.heap)
  (hB:∀ b o,s.heap.get? b=some o->H b=none->b ∉ frs X.stack->B.get? b=some o) (hth:∀ b o,s.heap.get? b=some o->b ∉ frs X.stack->∃ o',B.get? b=some o') (hok:HOk X.prog X.w H' B)
  (un:Un (frs X.stack) [] H H' s.heap s'.heap) (st:B.StaysIn h6) (up:s'.heap.UpToSlots h6):Inv X pins σ H' { s' with heap:=h6 }:=by
 have hfr:∀ b o,s'.heap.get? b=some o->b ∈ frs X.stack->∃ sl,h6.get? b=some { o with slots:=sl }:=λb o q hb=>by
  obtain ⟨_,ob,hob,hnf⟩:=fl.2.2.1.mem hb;rw [q] at hob;cases hob;exact up b o q hnf
 refine I.call' (s':={ s' with heap:=h6 }) (ch:=[]) os ⟨λb o q n hb _=>st b o (hB b o q n hb),λb o q n hb _=>?_,un.free,λb o q _=>?_,un.tups,un.frzs,un.tbls⟩ (hok.kept λb u q=>st b u q) bare (λb z=>absurd z (by simp))
 ·obtain ⟨sl,z⟩:=un.slot b o q n hb (by simp)
  obtain ⟨sl2,z2⟩:=hfr b _ z hb;exact ⟨sl2,z2⟩
 ·by_cases hb:b ∈ frs X.stack
  ·obtain ⟨o2,z2⟩:=un.there b o q (by simp)
   obtain ⟨sl,z3⟩:=hfr b o2 z2 hb;exact ⟨_,z3⟩
  ·obtain ⟨o2,z2⟩:=hth b o q hb
   exact ⟨o2,st b o2 z2⟩
abbrev Cx.body (X:Cx) (xe:Value->Shared->Prop) (pn:List (Addr × Obj)):Cx:={ X with xe:=xe,pn:=pn }
abbrev Cx.suite (X:Cx) (a:Addr):Cx:={ X with A:=X.A.mark (some (.ref a)),calm:=false,xe:=λ_ _=>False }
def bA1 (K:q0a) (n C i:Nat) (tb:XK->TS) (th:Addr->TS):TS:=λD σ H =>
 tb (λcls _ H'=>PySem.W.exmOne K cls (.ref C)=some true/\∀ a,H' a=none->th a { nx:=λ_ _=>False,rt:=D.rt } ((q0v n none).set i (some (.ref a))) (upd H' a (Exc cls a))) D σ H
section
variable {X:Cx}
theorem bt7 {body:List Stmt} {x n:Str} {C:Addr} {i:Nat} {b₀:Stmt} {suite:List Stmt} {tb:XK->TS} {th:Addr->TS} {np hpos pos:Pos} {l:List Env} (hst:X.stack=X.env :: l) (hfr:X.env.frame=some X.env.locals)
  (hex0:X.ex=[]) (hN:X.N.Nodup) (hi:X.N[i]? = some n) (hl:X.env.kindOf n=some .local) (hg:Gl X x) (hm:X.mg x=some (.ref C)) 
  (hb:∀ (E:XK) (xe:Value->Shared->Prop) (pn:List (Addr × Obj)),at9 (CXR X.prog X.w) (X.body xe pn) E->PSs (X.body xe pn) body (tb E))
  (hs:∀ a,PSs (X.suite a) (b₀ :: suite) (th a)) (hd:(x == ("__debug__" : Str))=false:=by decide) :
  PS X (.Try body [.ExceptHandler (some (.Name x np)) (some n) (b₀ :: suite) hpos] [] [] pos) (bA1 X.K X.N.length C i tb th):=by
 intro pins s σ H D I h;refine wpAny_Try_except ?_;refine wpAny_mono (hb _ (λe s₁=>wpAny (model X.prog X.w) X.A (noteFrame e X.env) (λ_ s₂=>wpAny (model X.prog X.w) X.A (setFlight e none) (λ_ s₃=>wpAny (model X.prog X.w) X.A (handleBy e X.env [.ExceptHandler (some (.Name x np)) (some n) (b₀ :: suite) hpos]) (SP X pins D) X.xe s₃) X.xe s₂) X.xe s₁) (X.pn ++ pins) ?_ [] s σ H D I.bear h) ?_ λ_ _ z=>z
 case refine_2 =>
  intro f s1 hf
  cases f with
  | next =>
   obtain ⟨σ',H',J,q⟩:=hf;exact wpAny_execs_nil ⟨σ',H',J.unbear,q⟩
  | brk =>
   obtain ⟨σ',H',J,q⟩:=hf;exact ⟨σ',H',J.unbear,q⟩
  | cont =>
   obtain ⟨σ',H',J,q⟩:=hf;exact ⟨σ',H',J.unbear,q⟩
  | ret u =>
   obtain ⟨v,σ',H',J,r,q⟩:=hf;exact ⟨v,σ',H',J.unbear,r,q⟩
 case refine_1 =>
  intro pins' σ' H1 s1 e s2 J0 hcx;have J:Inv X pins σ' H1 s1:=J0.unbear;obtain ⟨a,cls,a0,H2,B,rfl,os,bare,fl,hB,hth,hok,un,hn,hE⟩:=hcx;obtain ⟨hex,hsu⟩:=hE;have fl':z1j B (X.env :: l) a cls a0 s2.heap:=by rw [<- hst];exact fl
  refine wpAny_looks_onW (by rw [J.ok.frames,hst]) hfr fl' λh4 held4 up4=>?_
  refine wpAny_landsW held4 λh5 fl5 up5=>?_;have J5:Inv X pins σ' H2 { s2 with heap:=h5 }:=J.caught os bare fl hB hth hok un fl5.1 (up4.trans up5);obtain ⟨ob,hob,hobc⟩:=fl5.there;have LT:PySem.W.Looks (model X.prog X.w) h5 (typeOf (.ref a)) cls:=hobc ▸ (PySem.W.Looks.ld hob).andThen .now;have J5h:Inv (X.suite a) pins σ' H2 { s2 with heap:=h5 }:=J5.reA rfl (λz=>nomatch z);refine wpAny_handleBy_cons (codeAny_handlers_test (aj7 (X:=X.suite a) J5h hg hm ?_ hd)) (by intro q;cases q)
  refine (PySem.W.exm_one (M:=model X.prog X.w) J5.kIn LT hex).at ?_;refine codeAny_handlers_suite_as ?_;refine lands_againW fl5 λh6 fl6 up6=>?_;have J6:Inv X pins σ' H2 { s2 with heap:=h6 }:=J.caught os bare fl hB hth hok un fl6.1 ((up4.trans up5).trans up6);have J6h:Inv (X.suite a) pins (an1 X) H2 { s2 with heap:=h6 }:=(show Inv (X.suite a) pins σ' H2 { s2 with heap:=h6 } from J6.reA rfl (λz=>nomatch z)).forget
  -- the exception is tracked
  obtain ⟨oe,ws,hoe,hoec,hoed,_⟩:=fl6.first
  have nfr:∀ b ∈ frs X.stack,b ≠ a:=λb hb z=>by
   obtain ⟨_,o',ho',hnf⟩:=fl6.2.2.1.mem (show b ∈ frs (X.env :: l) from hst ▸ hb);subst z;have ho6:h6.get? b=some o':=ho';rw [hoe] at ho6;cases ho6;exact hnf ws hoed
  have nB:∀ b o,B.get? b=some o->b ≠ a:=λb o q z=>by rw [z,fl.2.1] at q;cases q
  have nL:X.env.locals ≠ a:=nfr _ (by rw [hst];unfold frs;rw [j0u,hfr];exact z0s)
  have J7:Inv (X.suite a) pins (an1 X) (upd H2 a (Exc cls a)) { s2 with heap:=h6 }:=by
   refine J6h.track hn (Exc.ok hoe hoec hoed) (λb ob q n hx=>?_) nL (λy c q=>?_) (λp hp=>?_)
   ·have hx':b ∉ X.ex:=hx
    by_cases hbf:b ∈ frs X.stack
    ·exact nfr b hbf
    ·have z1:b ∉ X.fs:=λz=>hbf (by
      rcases J.ok.stk with e | ⟨e,_⟩
      ·rw [e];exact z
      ·rw [e];unfold frs;rw [j0u,hfr];exact z0h _ z)
     exact nB b ob (hB b ob (J.base.keep b ob q n z1 hx') (J.base.free b ob q n hx') hbf)
   ·obtain ⟨v,o',ho',hd'⟩:=J6h.cell y c q
    intro z;subst z;have z1:h6.get? c=some o':=ho';rw [hoe] at z1;cases z1;rw [hoed] at hd';cases hd'
   ·have hp':p ∈ X.pn ++ pins:=hp
    obtain ⟨e1,e2,e3,e4,_⟩:=J.pin p hp';refine nB p.1 p.2 (hB p.1 p.2 e1 e2 λz=>?_);rcases z0z.mp (J.stkSub p.1 z) with y | y
    ·exact e3 y
    ·exact e4 y
  refine U4 (X:=X.suite a) J7 hN hi (.inl hl) (v:=.ref a) (u:=.ref a) rfl (λs8 J8=>?_) (.inr hl);refine wpAny_mono (hs a pins s8 _ _ { nx:=λ_ _=>False,rt:=D.rt } J8 (hsu a hn)) (λf s9 hf=>?_) λ_ _ z=>False.elim z
  cases f with
  | next=>obtain ⟨_,_,_,q⟩:=hf;exact False.elim q
  | brk=>obtain ⟨_,_,_,q⟩:=hf;exact False.elim q
  | cont=>obtain ⟨_,_,_,q⟩:=hf;exact False.elim q
  | ret u =>
   obtain ⟨v,σ9,H9,J9,r9,q9⟩:=hf;obtain ⟨m9,hn9,_⟩:=id J9.loc;have J9':Inv X pins σ9 H9 s9:=J9.unA J.ok;refine wpAny_nameGoes hl hn9 (by rw [J.ok.kind];rfl) λh' m' hn' hs'=>?_
   exact ⟨v,an1 X,H9,J9'.relocal hn' hs',r9,q9⟩
end
structure K0 (k:Nat) (A:Around):Prop where
 dp:A.depth+3*k+5<recursionLimit
 un:A.units+16*k+200<cLine
theorem Q6.toX {k:Nat} {A:Around} (r:Q6 k A):K0 k A:=⟨r.dp,r.un⟩
theorem K0.mono {j k:Nat} {A:Around} (r:K0 k A) (h:j<=k):K0 j A:=⟨by have:=r.dp;omega,by have:=r.un;omega⟩
theorem K0.deeper {k:Nat} {A:Around} (r:K0 (k+1) A) (env:Env):K0 k (A.deeper env) :=
 ⟨by have:=r.dp;show A.depth+1+3*k+5<_;omega,by have:=r.un;show A.units+3+16*k+200<_;omega⟩
theorem K0.mark {k:Nat} {A:Around} (r:K0 k A) (v:Option Value):K0 k (A.mark v):=⟨r.dp,r.un⟩
theorem K0.depth {k:Nat} {A:Around} (r:K0 k A):A.depth<recursionLimit:=by have:=r.dp;omega
structure aU8 (P:Program) (w:World) (K:q0a) (mg:Str->Option Value) (base:Heap) (k:Nat) (f:Addr) (fd:FuncData) (ps:List Str) (sp:Sp):Prop where
 len:∀ vs H Q E,sp vs H Q E->vs.length=ps.length
 run:∀ (A:Around) (outer:List Env) (s:Shared) (H:Hp) (args:Args) (us:List Value) (vs:List V) (Q:VK) (E:XK),K0 k A->aZ1 P w K mg base A outer s H->BindsTo s fd args (ps.zip us)->j8 vs us->sp vs H Q E ->
  codeAny (model P w) A (.call (.ref f) args) (CR CX0 outer P w H s Q E) s
abbrev cxX (P:Program) (w:World) (K:q0a) (mg:Str->Option Value) (base:Heap) (N:List Str) (qual:Str) (scope:Scope) (f:Addr) (cd:Value) (A:Around) (outer:List Env) (s₀:Shared) (H₀:Hp) (E:XK):Cx :=
 { ao5 CX0 P w K mg base N qual scope f cd A outer s₀ H₀ E with calm:=false,xe:=λ_ _=>False }
theorem Fun.okX {P:Program} {w:World} {K:q0a} {mg:Str->Option Value} {base:Heap} {x qual:Str} {st:Stmt} {f:Addr} {fd:FuncData} {N ps:List Str} {k:Nat} {sp:Sp} (F:Fun K x qual st f fd) (S:i7 N ps (c4 st)) (len:∀ vs H Q E,sp vs H Q E->vs.length=ps.length)
  (hbody:∀ (cdv:Value) (A:Around) (outer:List Env) (s:Shared) (H:Hp) (vs:List V) (Q:VK) (E:XK),K0 k (A.deeper (envOfC qual (c4 st) s.heap.objs.size f cdv))->sp vs H Q E ->
   ∃ t,PSs (cxX P w K mg base N qual (c4 st) f cdv A outer s H E) (J2 st) t/\t { nx:=λ_ H'=>Q .non H',rt:=Q } (start N vs) H):aU8 P w K mg base (k+1) f fd ps sp:=by
 obtain ⟨oc,od,kV,doc,pm,an,cdv,ct,osl,rfl,lk,hcd⟩:=F.ex;refine ⟨len,λA outer s H args us vs Q E hr e0 hb r hsp=>?_⟩;have hl:=len _ _ _ _ hsp;have KX:K.In s.heap:=e0.mod.kin.keeps λb o e=>(e0.bs b o e).1;have lim:s.heap.NoLimit:=e0.mod.nolimit.keeps λb o e=>(e0.bs b o e).1
 have hkind:∀ y ∈ ps.zip us,(c4 st).names.lookup y.1=some .local \/ ((c4 st).names.lookup y.1=some .cell/\((cellsFrom (s.heap.objs.size+1) (c4 st).names []).lookup y.1).isSome=true):=λ⟨n,v⟩ hy=>by
  rcases S.par n (g0m hy).1 with q | q
  ·exact .inl q
  ·exact .inr ⟨q,u0u _ _ _ (.inl q)⟩
 refine codeAny_call_function hr.depth (KX _ _ lk) rfl S.co S.gen rfl (PySem.W.codeRec_of KX hcd) (hb _ _ _ _ ?_);refine wpAny_newFunctionEnv_cells S.kind hkind λenv he s1 x=>?_;subst he;refine ⟨lim.keeps x.toInCall.keep,codeAny_func ?_⟩;obtain ⟨t,ht,hq⟩:=hbody cdv A outer s H vs Q E (hr.deeper _) hsp;have e0':aZ1 P w K mg base { A with handled:=none } outer s H:=⟨e0.frames,e0.mod,e0.bs,e0.bsz,e0.funs,e0.frf,e0.hok,e0.bare⟩;have I0:Inv (ao5 CX0 P w K mg base N qual (c4 st) f cdv { A with handled:=none } outer s H E) [] (start N vs) H s1:=ax2 S rfl e0' hl r x;have I:Inv (cxX P w K mg base N qual (c4 st) f cdv A outer s H E) [] (start N vs) H s1:=I0.reA (A2:=A.deeper (envOfC qual (c4 st) s.heap.objs.size f cdv)) (by rfl) (λz=>nomatch z)
 refine wpAny_mono (ht [] s1 (start N vs) H _ I hq) (λfl s' hs=>?_) λe s' hs=>False.elim hs
 have fin:∀ {σ':St} {H':Hp} {v:V} {u:Value},Inv (cxX P w K mg base N qual (c4 st) f cdv A outer s H E) [] σ' H' s'->u0 v u->Q v H'->CE outer P w H s Q u s' :=
  fun {σ' H' v u} J rv q=>⟨v,H',J.os,J.bare,J.base,J.hok,rv,q⟩
 cases fl with
 | ret u =>
  obtain ⟨v,σ',H',J,rv,q⟩:=hs;exact fin J rv q
 | next =>
  obtain ⟨σ',H',J,q⟩:=hs;exact fin (v:=V.non) (u:=Value.none) J rfl q
 | brk =>
  obtain ⟨_,_,_,q⟩:=hs;exact False.elim q
 | cont =>
  obtain ⟨_,_,_,q⟩:=hs;exact False.elim q
section
variable {X:Cx} {CX:CXT} {k:Nat} {f:Addr} {fd:FuncData} {ps:List Str} {sp:Sp} {E:XK} {x:Str} {p pos:Pos} {e:Expr} {es:List Expr} {t:TA}
theorem bk4 {pins:List (Addr × Obj)} {σ:St} {H:Hp} {s:Shared} {Q:VK} {us:List Value} {vs:List V} (F:aU8 X.prog X.w X.K X.mg X.base k f fd ps sp) (hr:K0 k X.A) (hb:ac7 X.K fd ps [])
  (I:Inv X pins σ H s) (r:j8 vs us) (h:sp vs H Q E):wpAny (model X.prog X.w) X.A (call (.ref f) us) (EP X pins σ Q) X.xe s:=by
 have hl:(us ++ []).length=ps.length:=by rw [g0j,<- r.length];exact F.len _ _ _ _ h
 have hb':=hb s us I.kIn hl;rw [g0j] at hb';refine wpAny_call (codeAny_mono (F.run X.A X.stack s H ⟨us,[]⟩ us vs Q E hr I.env0 hb' r h) λr s' hq=>?_)
 cases r with
 | error e=>exact False.elim hq
 | ok fl =>
  cases fl with
  | ret u=>exact I.after hq
  | next=>exact False.elim hq
  | brk=>exact False.elim hq
  | cont=>exact False.elim hq
def aA0 (sp:Sp) (t:TA):TE:=λσ H Q=>t σ H λvs H1=>sp vs H1 Q E0
theorem bc7 (F:aU8 X.prog X.w X.K X.mg X.base k f fd ps sp) (hr:K0 k X.A) (hg:Gl X x) (hm:X.mg x=some (.ref f)) (hk:y0r X.K (.ref f)=true) (hb:ac7 X.K fd ps [])
  (ha:PA X (e :: es) t) (hdb:(x == ("__debug__" : Str))=false:=by decide) (he:starEach (e :: es) X.env=(false,eval e X.env) :: starEach es X.env:=by rfl) (hpl:(backTo pos (starEach es X.env)).any (·.1)=false:=by rfl) :
  PE X (.Call (.Name x p) (e :: es) [] pos) (aA0 sp t):=by
 intro pins s σ H Q I h;refine wpAny_Call_Name_kw (aj7 I hg hm ?_ hdb);refine PySem.W.callWith_K (h₀:=X.base) I.ok.mod.kin hk (thn (ha pos pins s σ H _ I h) λus s1 ⟨vs,H1,I1,r,q⟩=>⟨I1.kIn,?_⟩) he hpl;exact bk4 F hr hb I1 r q
structure FnV (P:Program) (w:World) (K:q0a) (mg:Str->Option Value) (base:Heap) (k:Nat) (f:Addr) (sp:Sp):Prop where
 ex:∃ fd ps,ak5 P w K mg base (CXR P w) k f fd ps sp/\ac7 K fd ps []
 kp:y0r K (.ref f)=true
end
end L2
-- the class of an exception,isinstance,great numbers
set_option maxRecDepth 100000
namespace L2
open PySem PySem.W PySem.Spec PyProof.Rows Builtin Builtin.ObjectAttr Builtin.Getset_descriptor
section
variable {prog:Program} {w:World} {A:Around} {E:Value->Shared->Prop} {s:Shared} {K:Frag} {a C:Addr} {o:Obj}
theorem av6 {R:Result->Shared->Prop} {tp:Value} (X:K.In s.heap) (hx:s.heap.get? a=some o) (hc:o.cls=.ref C) (hm:mroIn K C (.type "object")=some true)
  (h:R (.ok (.ret (.ref C))) s):codeAny (model prog w) A (.call (.builtin "getset_descriptor.__get__") ⟨[.builtin "object.__class__",.ref a,tp],[]⟩) R s:=by
 obtain ⟨hh,g,dr,t,os⟩:=s;have L0:Looks (model prog w) hh (typeOf (.ref a)) (.ref C):=hc ▸ (Looks.ld hx).andThen .now;have L1:=looks_mroIn (M:=model prog w) X hm;refine codeAny_call_builtin KF.slot_gs.plain KF.entry_gs (KF.slot_gs.check _ _ _ _ _ _ _ _ KF.type_class (KF.args_gs _ _ _) ?_);unfold Builtin.«getset_descriptor.__get__» descrGet;rw [dga_obj];refine wpAny_bind (wpAny_pure ?_);unfold descrGetter descrCheckInstance descrNameAndClass isInstance;simp only [KF.owner_class]
 repeat lk
 refine ⟨Code.quiet_builtin _ (by decide +kernel),codeAny_builtin KF.entry_class ?_⟩
 unfold Builtin.«object.__class__» shownTypeOf
 repeat lk
 exact h
theorem aY0 {tk:Tok} {Q:Fin->Shared->Prop} (X:K.In s.heap) (hx:s.heap.get? a=some o) (hc:o.cls=.ref C) (g3:findIn K (.ref C) "__class__" = some (some (.builtin "object.__class__"))) (hm:mroIn K C (.type "object")=some true)
  (hq:Q (.done (.ret (.ref C))) s):wpAny (model prog w) A (Builtin.«object.__getattribute__» ⟨[.ref a,.str "__class__" tk],[]⟩) Q E s:=by
 obtain ⟨hh,g,dr,t,os⟩:=s;have L0:Looks (model prog w) hh (typeOf (.ref a)) (.ref C):=hc ▸ (Looks.ld hx).andThen .now;have L1:=looks_findIn (M:=model prog w) X g3;have f5:typeOf (.builtin "object.__class__")=pure (.type "getset_descriptor"):=KF.type_class
 have f6:=F.slot_gs_get.lookup;have f7:=F.slot_gs_set.lookup
 repeat (any_goals (first | assumption | (with_reducible refine wpAny_loadPart_at hx ?_;rw [hc]) | with_reducible refine L1.at ?_ | wp_step))
 refine av6 X hx hc hm ?_
 repeat (any_goals (first | assumption | wp_step))
theorem aY2 {M:Model} {nameV:Value} {Q:Unit->Shared->Prop} (X:K.In s.heap) (hx:s.heap.get? a=some o) (hc:o.cls=.ref C) (hmB:mroIn K C (.type "BaseException")=some true) (hq:Q () s) :
  wpAny M A (checkBuiltinCall "BaseException.__getattribute__" ⟨[.ref a,nameV],[]⟩) Q E s:=by
 obtain ⟨hh,g,d,t,os⟩:=s;have L3:=looks_mroIn (M:=M) X hmB;have hk:builtinKind "BaseException.__getattribute__" = some .slot:=by decide +kernel
 have hsplit:splitId "BaseException.__getattribute__" = some ("BaseException","__getattribute__"):=by decide +kernel
 have ha:=F.args_bexc_ga (.ref a) nameV;simp only [checkBuiltinCall,hk,hsplit];refine wpAny_bind ?_
 ·unfold isInstance
  repeat (first | (with_reducible refine wpAny_loadPart_at hx ?_;rw [hc]) | with_reducible refine L3.at ?_ | wp_step)
  exact hq
theorem aY1 {Q:Option Value->Shared->Prop} (X:K.In s.heap) (hx:s.heap.get? a=some o) (hc:o.cls=.ref C) (g1:findIn K (.ref C) "__getattribute__" = some (some (.builtin "BaseException.__getattribute__"))) (g2:findIn K (.ref C) "__getattr__" = some none)
  (g3:findIn K (.ref C) "__class__" = some (some (.builtin "object.__class__"))) (hm:mroIn K C (.type "object")=some true) (hmB:mroIn K C (.type "BaseException")=some true) 
  (h:Q (some (.ref C)) { s with toks:=s.toks+1 }):wpAny (model prog w) A (getAttr? (.ref a) "__class__") Q E s:=by
 obtain ⟨hh,g,d,t,os⟩:=s;have L0:Looks (model prog w) hh (typeOf (.ref a)) (.ref C):=hc ▸ (Looks.ld hx).andThen .now;have L1:=looks_findIn (M:=model prog w) X g1;have L2:=looks_findIn (M:=model prog w) X g2;have L3:=looks_mroIn (M:=model prog w) X hmB;unfold getAttr? getAttrBy? getAttrBy;refine wpAny_bind (wpAny_mkText (wpAny_bind (wpAny_attempt (wpAny_holding (wpAny_bind (L0.at (wpAny_bind (L1.at ?_))))))));have hx2:(Value.builtin "BaseException.__getattribute__" == Value.builtin "object.__getattribute__")=false:=by decide +kernel
 have hx1:(onTheHeap (Value.ref C) && Value.builtin "BaseException.__getattribute__" == Value.builtin "object.__getattribute__")=false:=by rw [hx2];rfl
 show wpAny _ _ (if (onTheHeap (Value.ref C) && Value.builtin "BaseException.__getattribute__" == Value.builtin "object.__getattribute__")=true then _ else _) _ _ _
 rw [if_neg (by rw [hx1];decide)]
 have f3:=PySem.F.attr_ValueError.ga.bind (.ref a);have hx0:(false && onTheHeap (Value.builtin "BaseException.__getattribute__"))=false:=rfl
 unfold getAttrByItsOwn hookBefore
 repeat (any_goals (first | assumption | (with_reducible refine wpAny_loadPart_at hx ?_;rw [hc]) | with_reducible refine L1.at ?_ | with_reducible refine L2.at ?_ | wp_step))
 refine codeAny_call_builtin PySem.F.attr_ValueError.ga.plain F.entry_bexc_ga (aY2 X hx hc hmB (aY0 X hx hc g3 hm ?_))
 dsimp only
 unfold handedOut;exact wpAny_pure (wpAny_pure h)
structure au1 (K:Frag) (C:Addr):Prop where
 cl:(clsIn K C).isSome=true
 g1:findIn K (.ref C) "__getattribute__" = some (some (.builtin "BaseException.__getattribute__"))
 g2:findIn K (.ref C) "__getattr__" = some none
 g3:findIn K (.ref C) "__class__" = some (some (.builtin "object.__class__"))
 hm:mroIn K C (.type "object")=some true
 hB:mroIn K C (.type "BaseException")=some true
theorem be9 (c:au1 K C):KitX K (.ref a) (.ref C) (λh => ∃ o,h.get? a=some o/\o.cls=.ref C) where
 ty:=λ_ _ _ ⟨o,hx,hc⟩=>hc ▸ (Looks.ld hx).andThen .now
 it:=λ_ _ X _=>by
  obtain ⟨cdD,hcD⟩:=u0g.mp c.cl;unfold clsIn at hcD
  split at hcD
  ·rename_i c' d' cd' sl' ho
   intro A' Q' E' s' k q;unfold isType loadHead;exact wpAny_bind (wpAny_loadPart (k _ _ (X _ _ ho)) (wpAny_pure q))
  ·cases hcD
 ne:=λh tp dd its n sl X htp=>by
  obtain ⟨cdD,hcD⟩:=u0g.mp c.cl;refine u0r.mpr λq=>?_;have e:C=tp:=Value.ref.inj (beq_iff_eq.mp q);subst e;unfold clsIn at hcD
  split at hcD
  ·rename_i c' d' cd' sl' ho
   have z:=(X _ _ ho).symm.trans htp
   cases z
  ·cases hcD
 ca:=λX ⟨o,hx,hc⟩ k=>aY1 X hx hc c.g1 c.g2 c.g3 c.hm c.hB k
end
section
variable {X:Cx}
def bC4:V->Value
 | .ty n=>.type n
 | .ref a=>.ref a
 | _=>.none
def isC:V->Prop
 | .ty _=>True
 | .ref _=>True
 | _=>False
inductive TyX (K:Frag) (H:Hp):V->Value->Prop where
 | of {x:V} {t:Value} (h:am7 K H x t):TyX K H x t
 | exc {a C:Addr} (e:H a=some (Exc (.ref C) a)) (c:au1 K C):TyX K H (.ref a) (.ref C)
 | sqt {a:Addr} {xs:List V} (h:SqT K H a xs):TyX K H (.ref a) (.type "tuple")
 | sql {a:Addr} {xs:List V} (h:SqL K H a xs):TyX K H (.ref a) (.type "list")
def bt3 (K:Frag):List V->Hp->VK->Prop:=λxs H Q => ∃ x c t b,xs=[x,c]/\isC c/\TyX K H x t/\kitOne K t (bC4 c)=some b/\Q (.bl b) H
theorem j5:ac6 X (.builtin "isinstance") (bt3 X.K):=by
 intro pins s σ H us vs Q I r h;obtain ⟨x,c,t,b,rfl,ic,ty,e,q⟩:=h;obtain ⟨u,cu,rfl,rx,rc⟩:=j8.two r
 have ec:cu=bC4 c:=by
  cases c with
  | ty n=>exact rc
  | ref a=>exact rc
  | _=>exact False.elim ic
 subst ec;have fin:∀ tk,EP X pins σ Q (.bool b) { s with toks:=tk }:=λtk=>⟨.bl b,H,I.tok tk,rfl,q⟩
 cases ty with
 | of ty=>exact aX6 I rx ty e fin
 | @exc a C ea cl =>
  cases (show u=Value.ref a from rx)
  obtain ⟨⟨o,_,h1,h2,_⟩,_⟩:=(show C2 X.prog X.w H s.heap a (Exc (.ref C) a) from I.hok a _ ea);exact kia_one (be9 cl) I.kIn ⟨o,h1,h2⟩ e (λz=>nomatch z) fin
 | @sqt a xs h =>
  cases (show u=Value.ref a from rx)
  obtain ⟨_,_,⟨o,h1,h2,_⟩,_⟩:=I.tuple h;exact kia_one kitx_tuple I.kIn ⟨o,h1,h2⟩ e (λz=>nomatch z) fin
 | @sql a xs h =>
  cases (show u=Value.ref a from rx)
  obtain ⟨_,_,⟨o,n,h1,h2,_⟩,_⟩:=I.list h;exact kia_one kitx_list I.kIn ⟨o,h1,h2⟩ e (λz=>nomatch z) fin
theorem m6:OpR X (binaryOp .Mult) (rI IntMulOk λi j=>.int (i*j)):=opI λ_ _ _ _ _ _ _ hc q=>mul_int q hc
def ak6 (_ j:Int):Prop:=j ≠ 0/\j.natAbs.log2<9000
theorem v8:OpR X (binaryOp .FloorDiv) (rI ak6 λi j=>.int (i.fdiv j)):=opI λ_ _ _ _ _ _ _ hc q=>floordiv_int hc.1 q (.inl (PyProof.noPylong_of_log2 hc.2))
end
open PySem PySem.Spec PyProof.Rows
inductive D where
 | v (x:V)
 | tup (ds:List D)
 | lst (ds:List D)
mutual
def eqD:D->D->Bool
 | .v x,.v y=>eqV x y
 | .tup a,.tup b=>J4 a b
 | .lst a,.lst b=>J4 a b
 | _,_=>false
def J4:List D->List D->Bool
 | [],[]=>true
 | x :: xs,y :: ys=>eqD x y && J4 xs ys
 | _,_=>false
end
mutual
def okD:D->D->Bool
 | .v _,.v _=>true
 | .tup a,.tup b=>ae1 a b
 | .lst a,.lst b=>ae1 a b
 | _,_=>false
def ae1:List D->List D->Bool
 | x :: xs,y :: ys=>okD x y && ae1 xs ys
 | _,_=>true
end
mutual
def dpD:D->Nat
 | .v _=>0
 | .tup a=>ao4 a+1
 | .lst a=>ao4 a+1
def ao4:List D->Nat
 | []=>0
 | x :: xs=>max (dpD x) (ao4 xs)
end
mutual
inductive IsD (K:q0a) (H:Hp):V->D->Prop where
 | v {x:V} (f:P9 x=true):IsD K H x (.v x)
 | tup {p:Addr} {xs:List V} {ds:List D} (h:SqT K H p xs) (t:ae3 K H xs ds):IsD K H (.ref p) (.tup ds)
 | lst {p:Addr} {xs:List V} {ds:List D} (h:SqL K H p xs) (t:ae3 K H xs ds):IsD K H (.ref p) (.lst ds)
inductive ae3 (K:q0a) (H:Hp):List V->List D->Prop where
 | nil:ae3 K H [] []
 | cons {x:V} {xs:List V} {d:D} {ds:List D} (h:IsD K H x d) (t:ae3 K H xs ds):ae3 K H (x :: xs) (d :: ds)
end
theorem ae3.length {K:q0a} {H:Hp}:∀ {xs:List V} {ds:List D},ae3 K H xs ds->xs.length=ds.length
 | _,_,.nil=>rfl
 | _,_,.cons _ t=>congrArg (· + 1) t.length
theorem bg4:∀ {x:V},P9 x=true->eqV x x=true
 | .non,_=>rfl
 | .bl a,_=>by simp [eqV]
 | .int a,_=>by simp [eqV]
 | .str a,_=>by simp [eqV]
 | .byt _,h=>absurd (show false=true from h) q0n
 | .flt _,h=>absurd (show false=true from h) q0n
 | .ref _,h=>absurd (show false=true from h) q0n
 | .ty _,h=>absurd (show false=true from h) q0n
section
variable {X:Cx} {pins:List (Addr × Obj)} {σ:St} {H:Hp} {s:Shared}
mutual
theorem as7 (I:Inv X pins σ H s):∀ {x:V} {d d':D},IsD X.K H x d->IsD X.K H x d'->okD d d'=true->eqD d d'=true
 | _,_,_,.v f,b,_=>by
  cases b with
  | v _=>rw [eqD];exact bg4 f
  | tup _ _=>exact absurd (show false=true from f) q0n
  | lst _ _=>exact absurd (show false=true from f) q0n
 | _,_,_,.tup h t,b,ok=>by
  cases b with
  | v f=>exact absurd (show false=true from f) q0n
  | tup h' t' =>
   have e:=I.tuple_inj h h';subst e;rw [eqD];rw [okD] at ok;exact am0 I t t' ok
  | lst _ _=>simp [okD] at ok
 | _,_,_,.lst h t,b,ok=>by
  cases b with
  | v f=>exact absurd (show false=true from f) q0n
  | tup _ _=>simp [okD] at ok
  | lst h' t' =>
   have e:=I.list_inj h h';subst e;rw [eqD];rw [okD] at ok;exact am0 I t t' ok
theorem am0 (I:Inv X pins σ H s):∀ {xs:List V} {ds ds':List D},ae3 X.K H xs ds->ae3 X.K H xs ds'->ae1 ds ds'=true->J4 ds ds'=true
 | _,_,_,.nil,b,_=>by cases b;rw [J4]
 | _,_,_,.cons h t,b,ok=>by
  cases b with
  | cons h' t' =>
   rw [ae1,j0t] at ok;rw [J4,as7 I h h' ok.1,am0 I t t' ok.2];rfl
end
def ab9 (ds ds':List D) (j:Nat):Bool:=match ds[j]?,ds'[j]? with
 | some d,some d'=>eqD d d'
 | _,_=>true
theorem ac2 (n:Nat) (e:Nat->Bool):(y0f (n+1)).all e=(e 0 && (y0f n).all λj=>e (j+1)):=by
 rw [List.range_succ_eq_map,m0k,List.all_map];rfl
theorem ad9:∀ (ds ds':List D),((y0f (min ds.length ds'.length)).all (ab9 ds ds') && ds.length == ds'.length)=J4 ds ds'
 | [],[]=>by rw [J4];rfl
 | [],_ :: _=>by simp [J4]
 | _ :: _,[]=>by simp [J4]
 | x :: xs,y :: ys=>by
  have ih:=ad9 xs ys;rw [J4,<- ih];have e1:min (x :: xs).length (y :: ys).length=min xs.length ys.length+1:=by simp only [q0x];omega
  rw [e1,ac2]
  have e2:((x :: xs).length == (y :: ys).length)=(xs.length == ys.length):=by
   by_cases h:xs.length=ys.length <;> simp [h]
  rw [e2,Bool.and_assoc];rfl
theorem af2 (ds ds':List D) (h:ds.length=ds'.length):(y0f ds.length).all (ab9 ds ds')=J4 ds ds':=by
 rw [<- ad9,<- h,Nat.min_self];simp
theorem as6:∀ (ds ds':List D),ds.length ≠ ds'.length->J4 ds ds'=false
 | [],[],h=>absurd rfl h
 | [],_ :: _,_=>by simp [J4]
 | _ :: _,[],_=>by simp [J4]
 | x :: xs,y :: ys,h=>by
  rw [J4,as6 xs ys (λe=>h (by simp [e]))];simp
theorem aw5 (I:Inv X pins σ H s) {p p':Addr} {xs ys:List V} {ds ds':List D} {A:Around} (h:SqT X.K H p xs) (t:ae3 X.K H xs ds) (h':SqT X.K H p' ys) (t':ae3 X.K H ys ds') (hu:A.units<cLine)
  (q:∀ {us vs:List Value},j8 xs us->j8 ys vs->∀ (j:Nat) (h1:j<us.length) (h2:j<vs.length),SeqAt.EqAt A.in1 s us[j] vs[j] (ab9 ds ds' j)):SeqAt.RcAt A s (.ref p) (.ref p') (J4 ds ds'):=by
  obtain ⟨its,r1,i1,_⟩:=I.tuple h;obtain ⟨its',r2,i2,_⟩:=I.tuple h';have z:=SeqAt.RcAt.tuples (A:=A) (items:=its.toArray) (items2:=its'.toArray) (e:=ab9 ds ds') i1 i2 hu (λj h1 h2=>q r1 r2 j (by simpa using h1) (by simpa using h2))
  have e1:its.toArray.size=ds.length:=by rw [q0g,<- r1.length,t.length]
  have e2:its'.toArray.size=ds'.length:=by rw [q0g,<- r2.length,t'.length]
  rw [e1,e2,ad9] at z;exact z
theorem aw6 (I:Inv X pins σ H s) {p p':Addr} {xs ys:List V} {ds ds':List D} {A:Around} (h:SqL X.K H p xs) (t:ae3 X.K H xs ds) (h':SqL X.K H p' ys) (t':ae3 X.K H ys ds') (hu:A.units<cLine)
  (q:∀ {us vs:List Value},j8 xs us->j8 ys vs->∀ (j:Nat) (h1:j<us.length) (h2:j<vs.length),SeqAt.EqAt A.in1 s us[j] vs[j] (ab9 ds ds' j)):SeqAt.RcAt A s (.ref p) (.ref p') (J4 ds ds'):=by
  obtain ⟨its,r1,i1,_⟩:=I.list h;obtain ⟨its',r2,i2,_⟩:=I.list h';have e1:its.toArray.size=ds.length:=by rw [q0g,<- r1.length,t.length]
  have e2:its'.toArray.size=ds'.length:=by rw [q0g,<- r2.length,t'.length]
  by_cases hl:ds.length=ds'.length
  ·have z:=SeqAt.RcAt.lists (A:=A) (items:=its.toArray) (items2:=its'.toArray) (e:=ab9 ds ds') i1.isList i2.isList (by rw [e1,e2,hl]) hu (λj h1 h2=>q r1 r2 j (by simpa using h1) (by simpa using h2))
   rw [e1,af2 ds ds' hl] at z;exact z
  ·rw [as6 ds ds' hl]
   exact SeqAt.RcAt.lists_lengths i1.isList i2.isList (by rw [e1,e2];simpa using hl) hu
mutual
theorem bx9 (I:Inv X pins σ H s):∀ {x y:V} {d d':D} {u v:Value} {A:Around},IsD X.K H x d->IsD X.K H y d'->okD d d'=true->u0 x u->u0 y v->A.units+dpD d<cLine->SeqAt.EqAt A s u v (eqD d d')
 | _,_,_,_,_,_,_,.v f,b,ok,r,r',_=>by
  cases b with
  | v f'=>rw [eqD];exact bg6 r r' f f'
  | tup _ _=>simp [okD] at ok
  | lst _ _=>simp [okD] at ok
 | _,_,_,_,u,v,A,.tup (p:=p) h t,b,ok,r,r',hu=>by
  cases b with
  | v _=>simp [okD] at ok
  | @tup p' _ _ h' t' =>
   cases (show u=Value.ref p from r)
   cases (show v=Value.ref p' from r')
   by_cases hp:p=p'
   ·subst hp
    rw [as7 I (.tup h t) (.tup h' t') ok];exact SeqAt.EqAt.same _
   ·rw [okD] at ok
    rw [dpD] at hu;rw [eqD];exact SeqAt.EqAt.of_refs hp (aw5 I h t h' t' ⋯ λr1 r2 j h1 h2=>Z4 (A:=A.in1) I t t' ok r1 r2 (by show A.units+1+_<_;omega) j h1 h2)
  | lst _ _=>simp [okD] at ok
 | _,_,_,_,u,v,A,.lst (p:=p) h t,b,ok,r,r',hu=>by
  cases b with
  | v _=>simp [okD] at ok
  | tup _ _=>simp [okD] at ok
  | @lst p' _ _ h' t' =>
   cases (show u=Value.ref p from r)
   cases (show v=Value.ref p' from r')
   by_cases hp:p=p'
   ·subst hp
    rw [as7 I (.lst h t) (.lst h' t') ok];exact SeqAt.EqAt.same _
   ·rw [okD] at ok
    rw [dpD] at hu;rw [eqD];exact SeqAt.EqAt.of_refs hp (aw6 I h t h' t' ⋯ λr1 r2 j h1 h2=>Z4 (A:=A.in1) I t t' ok r1 r2 (by show A.units+1+_<_;omega) j h1 h2)
theorem Z4 (I:Inv X pins σ H s):∀ {xs ys:List V} {ds ds':List D} {us vs:List Value} {A:Around},ae3 X.K H xs ds->ae3 X.K H ys ds'->ae1 ds ds'=true->j8 xs us->j8 ys vs->A.units+ao4 ds<cLine ->
  ∀ (j:Nat) (h1:j<us.length) (h2:j<vs.length),SeqAt.EqAt A s us[j] vs[j] (ab9 ds ds' j)
 | _,_,_,_,_,_,_,.nil,_,_,r,_,_=>λj h1 _=>by cases r;exact absurd h1 (q1m _)
 | _,_,_,_,_,_,A,.cons h t,b,ok,r,r',hu=>λj h1 h2=>by
  cases b with
  | nil=>cases r';exact absurd h2 (q1m _)
  | cons h' t' =>
   cases r with
   | cons r rs =>
    cases r' with
    | cons r' rs' =>
     rw [ae1,j0t] at ok;rw [ao4] at hu
     cases j with
     | zero=>exact bx9 I h h' ok.1 r r' ⋯
     | succ j=>exact Z4 I t t' ok.2 rs rs' ⋯ j (by simpa using h1) (by simpa using h2)
end
def D.isV:D->Bool
 | .v _=>true
 | _=>false
def bD5 (K:q0a):R2:=λx y H Q => ∃ d d',d.isV=false/\IsD K H x d/\IsD K H y d'/\okD d d'=true/\dpD d<=60/\Q (.bl (eqD d d')) H
theorem aC4 (hu:X.A.units+64<cLine):OpR X (compareOp .Eq) (bD5 X.K):=by
 intro pins s σ H x y v u Q I rx ry h;obtain ⟨d,d',nf,h1,h2,ok,dp,q⟩:=h;have fin:EP X pins σ Q (.bool (eqD d d')) s:=⟨.bl _,H,I,rfl,q⟩
 cases h1 with
 | v f =>
  cases h2 with
  | v f'=>exact absurd (show true=false from nf) (by decide)
  | tup _ _=>simp [okD] at ok
  | lst _ _=>simp [okD] at ok
 | @tup p xs ds h t =>
  cases h2 with
  | v f'=>simp [okD] at ok
  | @tup p' ys ds' h' t' =>
   cases (show v=Value.ref p from rx)
   cases (show u=Value.ref p' from ry)
   rw [okD] at ok;rw [dpD] at dp;rw [eqD] at fin;exact aw5 I h t h' t' ⋯ (λr1 r2 j h1 h2=>Z4 (A:=X.A.in1) I t t' ok r1 r2 (by show X.A.units+1+_<_;omega) j h1 h2) X.prog X.w X.xe _ fin
  | lst _ _=>simp [okD] at ok
 | @lst p xs ds h t =>
  cases h2 with
  | v f'=>simp [okD] at ok
  | tup _ _=>simp [okD] at ok
  | @lst p' ys ds' h' t' =>
   cases (show v=Value.ref p from rx)
   cases (show u=Value.ref p' from ry)
   rw [okD] at ok;rw [dpD] at dp;rw [eqD] at fin;exact aw6 I h t h' t' ⋯ (λr1 r2 j h1 h2=>Z4 (A:=X.A.in1) I t t' ok r1 r2 (by show X.A.units+1+_<_;omega) j h1 h2) X.prog X.w X.xe _ fin
end
open PySem PySem.Spec PyProof.Rows
section
variable {X:Cx}
def aB6:V->List V->Hp->VK->Prop:=λx vs H Q => ∃ i,x=.int i/\vs=[]/\Q (.int (Builtin.Int.intBits i)) H
theorem ad6:MtM X "int.bit_length" aB6:=by
 intro pins s σ H x vs v us Q I rx rv h;obtain ⟨i,rfl,rfl,q⟩:=h;obtain ⟨t,rfl⟩:=rx
 cases j8.zero rv
 exact call_int_bit_length ⟨.int _,H,I.tok _,⟨_,rfl⟩,q⟩
theorem ay0 {x:V}:∀ {xs:List V} {us:List Value},j8 xs us->xs.all P9=true->us.countP (eqU x)=xs.countP λy=>eqV y x
 | _,_,.nil,_=>rfl
 | y :: xs,u :: us,.cons r t,f=>by
  rw [m0k,j0t] at f;rw [List.countP_cons,List.countP_cons,aO6 r f.1,ay0 t f.2]
def aM4:V->List V->Hp->VK->Prop:=λx vs H Q => ∃ l xs y,x=.ref l/\vs=[y]/\H l=some (.lst xs)/\P9 y=true/\xs.all P9=true/\Q (.int (xs.countP λz=>eqV z y)) H
theorem bd9:MtM X "list.count" aM4:=by
 intro pins s σ H x vs v us Q I rx rv h;obtain ⟨l,xs,y,rfl,rfl,hH,fy,fx,q⟩:=h
 cases rx
 obtain ⟨u,rfl,ru⟩:=rv.one;obtain ⟨z,its,n,r,hl,e⟩:=I.lstM hH;refine call_meets F.slot_list_count ⟨_,e,rfl⟩ F.entry_list_count (F.args_list_count_2 _ _) (SeqAt.list_countAt l its.toArray n none #[] u (eqU y)) ⟨e,λw hw=>as1 ru fy r fx w (by simpa using hw),?_⟩
 refine ⟨.int _,H,I.tok _,⟨_,rfl⟩,?_⟩;rw [show its.toArray.toList=its from rfl,ay0 r fx];exact q
theorem aT1 {y:V} {xs:List V} {us:List Value} (r:j8 xs us) (f:xs.all P9=true) (j:Nat) (hj:j<us.length) (hx:j<xs.length):eqU y us[j]=eqV xs[j] y:=by
 obtain ⟨u,e1,e2⟩:=r.get (q0c hx);have e3:us[j]=u:=by rw [q0c hj] at e1;exact Option.some.inj e1
 rw [e3];exact aO6 e2 (List.all_eq_true.mp f _ (u0x hx))
def aM3:V->List V->Hp->VK->Prop:=λx vs H Q => ∃ l xs y j,x=.ref l/\vs=[y]/\H l=some (.lst xs)/\P9 y=true/\xs.all P9=true/\(xs.findIdx? λz=>eqV z y)=some j/\Q (.int (j:Nat)) H
theorem bd8:MtM X "list.index" aM3:=by
  intro pins s σ H x vs v us Q I rx rv h;obtain ⟨l,xs,y,j,rfl,rfl,hH,fy,fx,hi,q⟩:=h
  cases rx
  obtain ⟨u,rfl,ru⟩:=rv.one;obtain ⟨z,its,n,r,hl,e⟩:=I.lstM hH;obtain ⟨hj,h1,h2⟩:=List.findIdx?_eq_some_iff_getElem.mp hi;have hz:xs.length<2 ^ 63:=Nat.lt_of_le_of_lt z ag2
  refine call_meets F.slot_list_index ⟨_, e, rfl⟩ F.entry_list_index (F.args_list_index_2 _ _) (SeqAt.list_indexAt l its.toArray n none #[] u (eqU y) j (by simpa [← hl] using hj) (by have : (xs.length : Int) < 2 ^ 63 := by exact_mod_cast hz
                                                                                                                                                                                       omega) ?_ ?_) ⟨e,λw hw=>as1 ru fy r fx w (by simpa using hw),?_⟩
  · rw [show its.toArray[j]'(by simpa [<- hl] using hj)=its[j]'(by rw [<- hl];exact hj) from rfl,aT1 r fx j _ hj];exact h1
  · intro m hm hlt
    have hm':m<its.length:=by simpa using hm
    rw [show its.toArray[m]'hm=its[m]'hm' from rfl,aT1 r fx m _ (by rw [hl];exact hm')]
    have:=h2 m hlt
    simpa using this
  · exact ⟨.int _,H,I.tok _,⟨_,rfl⟩,q⟩
theorem av9:∀ (t:Nat) (ps:List Str),j8 (ps.map V.str) (strsFrom t ps)
 | _,[]=>.nil
 | t,p :: ps=>.cons ⟨_,rfl⟩ (av9 (t+1) ps)
def ad4 (x y:Str):List Str:=Builtin.Str.partsBetween x (Builtin.Str.occurrences x y 0 x.length (x.length+1)) y.length
def aM1:V->List V->Hp->VK->Prop:=λv vs H Q => ∃ x y,v=.str x/\vs=[.str y]/\(decide (x.length<y.length) || decide (Builtin.Str.strKind x<Builtin.Str.strKind y))=false/\(y.length == 0)=false /\
 (Builtin.Str.occurrences x y 0 x.length (x.length+1)).isEmpty=false/\x.length<=sizeLine/\(ad4 x y).length<=sizeLine/\∀ l,H l=none->Q (.ref l) (upd H l (.lst ((ad4 x y).map V.str)))
theorem bd7:MtM X "str.split" aM1:=by
 intro pins s σ H x vs v us Q I rx rv h;obtain ⟨x',y,rfl,rfl,h1,h2,h3,h4,h5,q⟩:=h;obtain ⟨t,rfl⟩:=rx;obtain ⟨u,rfl,t',rfl⟩:=rv.one;refine call_meets F.slot_str_split rfl F.entry_str_split (F.args_str_split_2 _ _) (meets_str_split_sep x' y t t' h1 h2 h3 h4 h5) ?_;exact ⟨.ref _,_,I.lnew (ys:=(ad4 x' y).map V.str) (av9 _ _) (by rw [z0g];exact h5),rfl,q _ I.fresh⟩
end
open PySem PySem.Spec PyProof.Rows
structure Df (K:q0a) (mg:Str->Option Value) (x:Str) (st:Stmt) (ps:List Str) (f:Addr):Prop where
 ex:∃ fd,Fun K x x st f fd/\ac7 K fd ps []
 m:mg x=some (.ref f)
structure Def (P:Program) (w:World) (K:q0a) (mg:Str->Option Value) (base:Heap) (CX:CXT) (k:Nat) (x:Str) (f:Addr) (ps:List Str) (sp:Sp):Prop where
 ex:∃ fd,ak5 P w K mg base CX k f fd ps sp/\ac7 K fd ps []
 m:mg x=some (.ref f)
 kp:y0r K (.ref f)=true
structure bp5 (P:Program) (w:World) (K:q0a) (mg:Str->Option Value) (base:Heap) (k:Nat) (x:Str) (f:Addr) (ps:List Str) (sp:Sp):Prop where
 ex:∃ fd,aU8 P w K mg base k f fd ps sp/\ac7 K fd ps []
 m:mg x=some (.ref f)
 kp:y0r K (.ref f)=true
section
variable {P:Program} {w:World} {K:q0a} {mg:Str->Option Value} {base:Heap} {k:Nat} {x:Str} {f:Addr} {ps N:List Str} {sp:Sp} {st:Stmt} {CX:CXT}
theorem Df.ok (d:Df K mg x st ps f) (S:i7 N ps (c4 st)) (len:∀ vs H Q E,sp vs H Q E->vs.length=ps.length)
  (hbody:∀ (cdv:Value) (A:Around) (outer:List Env) (s:Shared) (H:Hp) (vs:List V) (Q:VK) (E:XK),Q6 k (A.deeper (envOfC x (c4 st) s.heap.objs.size f cdv))->sp vs H Q E ->
   ∃ t,PSs (ao5 CX0 P w K mg base N x (c4 st) f cdv A outer s H E).nox (J2 st) t/\t { nx:=λ_ H'=>Q .non H',rt:=Q } (start N vs) H):Def P w K mg base CX0 (k+1) x f ps sp:=by
 obtain ⟨fd,F,b⟩:=d.ex;exact ⟨⟨fd,F.ok S len hbody,b⟩,d.m,F.kp⟩
theorem Df.okR (d:Df K mg x st ps f) (S:i7 N ps (c4 st)) (len:∀ vs H Q E,sp vs H Q E->vs.length=ps.length)
  (hbody:∀ (cdv:Value) (A:Around) (outer:List Env) (s:Shared) (H:Hp) (vs:List V) (Q:VK) (E:XK),Q6 k (A.deeper (envOfC x (c4 st) s.heap.objs.size f cdv))->sp vs H Q E ->
   ∃ t,PSs (cxR P w K mg base N x (c4 st) f cdv A outer s H E) (J2 st) t/\t { nx:=λ_ H'=>Q .non H',rt:=Q } (start N vs) H):Def P w K mg base (CXR P w) (k+1) x f ps sp:=by
 obtain ⟨fd,F,b⟩:=d.ex;have kp:=F.kp;obtain ⟨oc,od,kV,doc,pm,an,cdv,ct,osl,rfl,lk,hcd⟩:=F.ex;exact ⟨⟨_,br3 lk hcd S len λA outer s H vs Q E hr hsp=>hbody cdv A outer s H vs Q E hr hsp,b⟩,d.m,kp⟩
theorem Df.okX (d:Df K mg x st ps f) (S:i7 N ps (c4 st)) (len:∀ vs H Q E,sp vs H Q E->vs.length=ps.length)
  (hbody:∀ (cdv:Value) (A:Around) (outer:List Env) (s:Shared) (H:Hp) (vs:List V) (Q:VK) (E:XK),K0 k (A.deeper (envOfC x (c4 st) s.heap.objs.size f cdv))->sp vs H Q E ->
   ∃ t,PSs (cxX P w K mg base N x (c4 st) f cdv A outer s H E) (J2 st) t/\t { nx:=λ_ H'=>Q .non H',rt:=Q } (start N vs) H):bp5 P w K mg base (k+1) x f ps sp:=by
 obtain ⟨fd,F,b⟩:=d.ex;exact ⟨⟨fd,F.okX S len hbody,b⟩,d.m,F.kp⟩
end
section
variable {X:Cx} {CX:CXT} {k j:Nat} {f:Addr} {ps:List Str} {sp:Sp} {E:XK} {x:Str} {p pos:Pos} {e:Expr} {es:List Expr} {t:TA}
def bk0 (sp:Sp) (E:XK) (t:TA):TE:=λσ H Q=>t σ H λvs H1=>sp vs H1 Q E
theorem c9 (d : Def X.prog X.w X.K X.mg X.base CX j x f ps sp) (hr : Q6 k X.A) (ha : PA X (e :: es) t) (hx : at9 CX X E) (hj : j ≤ k := by decide) (hg : Gl X x := by rfl)
    (hdb:(x == ("__debug__" : Str))=false:=by decide) (he:starEach (e :: es) X.env=(false,eval e X.env) :: starEach es X.env:=by rfl) (hpl:(backTo pos (starEach es X.env)).any (·.1)=false:=by rfl) :
    PE X (.Call (.Name x p) (e :: es) [] pos) (bk0 sp E t):=by
  obtain ⟨fd,F,b⟩:=d.ex;have z:=bl1 (E:=E) (es:=es) (e:=e) (p:=p) (pos:=pos) (F.mono hj) hr hg d.m d.kp b .nil hx ha hdb he hpl;intro pins s σ H Q I h;refine z pins s σ H Q I ?_;unfold bp8
  simpa only [List.append_nil,bk0] using h
theorem bl0 (d : bp5 X.prog X.w X.K X.mg X.base j x f ps sp) (hr : K0 k X.A) (ha : PA X (e :: es) t) (hj : j ≤ k := by decide) (hg : Gl X x := by rfl)
    (hdb:(x == ("__debug__" : Str))=false:=by decide) (he:starEach (e :: es) X.env=(false,eval e X.env) :: starEach es X.env:=by rfl) (hpl:(backTo pos (starEach es X.env)).any (·.1)=false:=by rfl) :
    PE X (.Call (.Name x p) (e :: es) [] pos) (aA0 sp t):=by
  obtain ⟨fd,F,b⟩:=d.ex;exact bc7 F (hr.mono hj) hg d.m d.kp b ha hdb he hpl
end
theorem b9.new {H:Hp} {p:Addr} (h:H p=none) (o:HO):b9 H (upd H p o):=λb u q=>by rw [i9 (i6 q h)];exact q
theorem b9.tup {K:q0a} {H H':Hp} {a:Addr} {xs:List V} (e:b9 H H') (h:SqT K H a xs):SqT K H' a xs:=by
 rcases h with h | h
 ·rcases h with h | ⟨o,h⟩
  ·exact .inl (.inl (e _ _ h))
  ·exact .inl (.inr ⟨o,e _ _ h⟩)
 ·exact .inr h
open PySem PySem.Spec PyProof.Rows
section
variable {prog:Program} {w:World} {A:Around} {R:Result->Shared->Prop} {s:Shared}
theorem ay1 {elt target iter:Expr} {scope:Scope} {pos:Pos} {it acc:Value} {env:Env} (I:Nat->Shared->Prop)
  (turn:∀ n s,I n s->wpAny (model prog w) A (pyNext it) (λr s₁=>match r with
   | none=>R (.ok .next) s₁
   | some v=>wpAny (model prog w) A (letOwnedTupleGo target it v) (λ_ s₁'=>wpAny (model prog w) A (assign target env v) (λ_ s₂=>wpAny (model prog w) A (eval elt env) (λx s₃ =>
     wpAny (model prog w) A (call (.builtin "list.append") [acc,x]) (λ_ s₄ => ∃ m,m<n/\I m s₄) (λ_ _=>False) s₃)
     (λ_ _=>False) s₂) (λ_ _=>False) s₁') (λ_ _=>False) s₁) (λ_ _=>False) s)
  (n:Nat) (h:I n s) :
  codeAny (model prog w) A (.compLoop (.ListComp elt [⟨target,iter,[],0⟩] scope pos) 0 it acc env) R s:=by
 refine codeAny_loop rfl I (λn s hI=>?_) n h
 show wpAny _ _ ((compTurn (.ListComp elt [⟨target,iter,[],0⟩] scope pos) 0 it acc env).onRaise (λx=>do noteFrame x env;theTreesLotGoes x)) _ _ s
 refine wpAny_noted ?_;rw [compTurn_list1];have no:∀ {P:Value->Shared->Prop} (e:Value) (s:Shared),False->P e s:=λ_ _ h=>h.elim;refine wpAny_bind (wpAny_standAt (wpAny_bind (wpAny_mono (turn n s hI) (λr s₁ h₁=>?_) no)))
 cases r with
 | none=>exact wpAny_pure h₁
 | some v =>
  refine wpAny_bind (wpAny_mono h₁ (λ_ s₁' h₁'=>?_) no)
  exact wpAny_bind (wpAny_mono h₁' (λ_ s₂ h₂=>wpAny_bind (wpAny_bind (wpAny_mono h₂ (λx s₃ h₃=>wpAny_bind (wpAny_mono h₃
   (λ_ s₄ h₄=>wpAny_pure (wpAny_pure ⟨rfl,h₄⟩)) no)) no))) no)
end
abbrev Cx.block (X:Cx) (scope:Scope) (cl:List (Str × Addr)) (C:Addr) (Nc:List Str) (s₂:Shared) (H₂:Hp) (fp:List Addr) (pins:List (Addr × Obj)):Cx :=
 { X with N:=Nc,s₀:=s₂,H₀:=H₂,env:=compEnvC scope cl C X.env,outer:=X.stack,ex:=fp,fn:=λ_=>false,pn:=X.pn ++ pins,xe:=λ_ _=>False }
def U0 (caps:List (Option Nat)) (σ:St):St:=caps.map λo=>o.bind λj=>(σ[j]?).join
def ba4 (wi:TI) (caps:List (Option Nat)) (g:TG) (te:TE):TE:=λσ H Q=>wi σ H λJ H1 => ∀ D,H1 D=none->∃ W:Nat->Nat->St->Hp->Prop,(∃ m,W 0 m (U0 caps σ) (upd H1 D (.lst []))) /\
 ∀ i m σc H2,W i m σc H2->(J.stop i H2/\Q (.ref D) H2) \/
  (J.go i H2/\∀ x H3,J.yld i H2 x H3->g x σc H3 λσ4 H4=>te σ4 H4 λy H5 => ∃ ys,H5 D=some (.lst ys)/\ys.length<sizeLine/\∃ m',m'<m/\W (i+1) m' σ4 (upd H5 D (.lst (ys ++ [y]))))
section
variable {X:Cx}
structure ag7 (X:Cx) (scope:Scope) (cl:List (Str × Addr)) (Nc:List Str) (caps:List (Option Nat)):Prop where
 clos:closureFor scope X.env=pure cl
 sub:∀ x c,cl.lookup x=some c->X.env.cells.lookup x=some c
 has:∀ x,(relabel scope X.env).names.lookup x=some .cell \/ (relabel scope X.env).names.lookup x=some .free->∃ c,cl.lookup x=some c
 nocell:∀ x ∈ scope.names,x.2 ≠ .cell
 kind:scope.kind=.function
 names:∀ x ∈ scope.names,x.2=.local->scope.names.lookup x.1=some .local
 len:caps.length=Nc.length
 cap:∀ (i j:Nat) (x:Str),caps[i]? = some (some j)->Nc[i]? = some x->X.N[j]? = some x/\Vis X.env.scope x/\X.env.kindOf x ≠ some .local/\((relabel scope X.env).names.lookup x=some .cell \/ (relabel scope X.env).names.lookup x=some .free)
theorem Inv.sameC {pins:List (Addr × Obj)} {σ:St} {H H':Hp} {s s':Shared} {h'':Heap} {fp:List Addr} {C:Addr} (I:Inv X pins σ H s) (hf:∀ b ∈ fp,ao6 X pins H b) (os:s'.os=s.os) (bare:AllBare s'.gens)
  (un:Un (frs X.stack) fp H H' s.heap s'.heap) (hok:HOk X.prog X.w H' s'.heap) (hC:s.heap.objs.size<=C) (hCn:H' C=none) (sb:g0h C s'.heap h''):Inv X pins σ H' { s' with heap:=h'' }:=by
 have ne:∀ b o,s.heap.get? b=some o->b ≠ C:=λb o e=>z0c (q0b (q0f e) hC);refine I.call' (s':={ s' with heap:=h'' }) (ch:=fp) os ⟨λb o e n h1 h2=>(sb.2 b (ne b o e)).trans (un.keep b o e n h1 h2),λb o e n h1 h2=>?_,un.free,λb o e h2=>?_,un.tups,un.frzs,un.tbls⟩ (λb u e=>?_) bare (λb hb=>?_)
 ·obtain ⟨sl,z⟩:=un.slot b o e n h1 h2
  exact ⟨sl,(sb.2 b (ne b o e)).trans z⟩
 ·obtain ⟨o',z⟩:=un.there b o e h2
  exact ⟨o',(sb.2 b (ne b o e)).trans z⟩
 ·refine (hok b u e).stay (λc v hc q=>(sb.2 c ?_).trans q) (λ_ q=>q) λ_ _ q=>q
  rintro rfl;rcases hc with rfl | hc
  ·rw [hCn] at e;cases e
  ·rw [hCn] at hc;cases hc
 ·obtain ⟨_,f1,_,f3,f4,f5⟩:=hf b hb
  exact ⟨f3,f1,f4,f5⟩
theorem ai9 {elt tg iter:Expr} {scope:Scope} {pos:Pos} {cl:List (Str × Addr)} {Nc:List Str} {caps:List (Option Nat)} {wi:TI} {g:TG} {te:TE} (hc:X.calm=true) (cp:ag7 X scope cl Nc caps) (hi:PI X tg iter wi)
  (hg:∀ C s₂ H₂ fp pins,PG (X.block scope cl C Nc s₂ H₂ fp pins) tg g) (he:∀ C s₂ H₂ fp pins,PE (X.block scope cl C Nc s₂ H₂ fp pins) elt te) (hs:∀ x,foldedSetIterable iter X.env x=pure x:=by intro _;rfl) :
  PE X (.ListComp elt [⟨tg,iter,[],0⟩] scope pos) (ba4 wi caps g te):=by
 intro pins s σ H Q I h;rw [eval_ListComp];refine wpAny_comprehension_free (use:=none) rfl hs cp.clos cp.kind cp.names ?_;refine thn (hi pins s σ H _ I h) λv s1 h1=>thn h1 λitv s2 h2=>?_;obtain ⟨it,fp,tn,J,H2,e,I2,T,st2,f2,hW⟩:=h2;subst e;refine wpAny_newObj_type ?_ (by show 0<=sizeLine;exact j0k _)
 refine wpAny_newFunctionEnv cp.nocell (by intro y hy;simp at hy) (λh4 hns hsb=>?_) cp.kind
 dsimp only at hns hsb ⊢
 generalize hH3:s2.heap.push { cls:=.type "list",dict:=none,data:=.seq ([]:List Value).toArray }=H3 at hns hsb ⊢
 have hCe:H3.objs.size=s2.heap.objs.size+1:=by rw [<- hH3,m0a]
 have ak4:∀ b o,s2.heap.get? b=some o->b ≠ H3.objs.size:=λb o e=>by rw [hCe];exact z0c (Nat.lt_succ_of_lt (q0f e))
 have old:∀ b o,s2.heap.get? b=some o->h4.get? b=some o:=λb o e=>hsb.extBut b o (ak4 b o e) (q0h _ (hH3 ▸ q0h _ e))
 have hD:h4.get? s2.heap.objs.size=some { cls:=.type "list",dict:=none,data:=.seq ([]:List Value).toArray } :=
  hsb.extBut _ _ (by rw [hCe];exact z0c (u0y _)) (q0h _ (hH3 ▸ z0j _ rfl))
 have hDn:H2 s2.heap.objs.size=none:=I2.fresh;have hCn:H2 H3.objs.size=none:=I2.hok.fresh (by rw [hCe];exact u0c _)
 have hCs:s2.heap.objs.size<=H3.objs.size:=by rw [hCe];exact u0c _
 have hDC:s2.heap.objs.size ≠ H3.objs.size:=by rw [hCe];exact z0c (u0y _)
 have fpl:∀ b ∈ fp,∃ o,s2.heap.get? b=some o:=λb hb=>let ⟨o,e,_⟩:=T.obj _ _ st2 b hb;⟨o,e⟩;have fpC:∀ b ∈ fp,b ≠ H3.objs.size:=λb hb=>let ⟨o,e⟩:=fpl b hb;ak4 b o e;have fpD:∀ b ∈ fp,b ≠ s2.heap.objs.size:=λb hb=>let ⟨o,e⟩:=fpl b hb;z0c (q0f e);have stkN:∀ b,b ≠ X.env.locals->b ∉ X.fs->b ∉ frs X.stack:=λb h1 h2 z=>(z0z.mp (I2.stkSub b z)).elim h1 h2;obtain ⟨W,⟨m0,w0⟩,turn⟩:=hW s2.heap.objs.size hDn
 have okB:(X.block scope cl H3.objs.size Nc s2 H2 fp pins).Ok:=by
  refine ⟨I2.ok.mod,?_,I2.ok.glob,I2.ok.blt,hCs,λx y c h1 h2=>I2.ok.inj x y c (cp.sub x c h1) (cp.sub y c h2),λx hx=>cp.has x hx,λx c h=>(by cases h),I2.ok.hd,I2.ok.frames,.inl rfl,λb hb=>⟨fpC b hb,λx c h=>(f2 b hb).2.2.2.2.1 x c (cp.sub x c h)⟩,I2.bs,z0p I2.ok.bsz I2.sz,λb o e hb=>?_,λb hb=>stkN b (f2 b hb).2.1 (f2 b hb).2.2.1,I2.stack,I2.stkFree⟩
  ·exact cp.kind
  ·rcases (f2 b hb).2.2.2.1 with z | z
   ·exact I2.ok.noex b o e z
   ·exact absurd (q0b (q0f e) (z0p I2.ok.bsz z)) (y0v _)
 have hokB:HOk X.prog X.w (upd H2 s2.heap.objs.size (.lst [])) h4:=I2.hok.laid old (q0j _) ⟨j0k _,[],_,.nil,hD⟩
 have IB:Inv (X.block scope cl H3.objs.size Nc s2 H2 fp pins) [] (U0 caps σ) (upd H2 s2.heap.objs.size (.lst [])) { s2 with heap:=h4,toks:=s2.toks+([]:List (Str × Value)).length }:=by
  refine ⟨okB,rfl,I2.bare,Un.laid old (q0j _) hDn,⟨_,hns,λi x v e1 e2 e3=>?_⟩,λx c e=>?_,(show upd H2 s2.heap.objs.size (.lst []) H3.objs.size=none by rw [i9 (Ne.symm hDC)];exact hCn),λx c e=>?_,λp hp=>?_,hokB,?_⟩
  ·unfold U0 at e2
   rw [z0k] at e2
   cases hcap:caps[i]? with
   | none=>rw [hcap] at e2;cases e2
   | some o =>
    rw [hcap] at e2
    cases o with
    | none=>cases e2
    | some j =>
     have hj:σ[j]? = some (some v):=by
      have e2':(σ[j]?).join=some v:=Option.some.inj e2
      cases q:σ[j]? with
      | none=>rw [q] at e2';cases e2'
      | some z=>rw [q] at e2';exact congrArg some e2'
     obtain ⟨n1,n2,n3,n4⟩:=cp.cap i j x hcap e1;obtain ⟨m,hm,hl⟩:=I2.loc;obtain ⟨u,r,q⟩:=hl j x v n1 hj n2;rcases q with ⟨k,_⟩ | ⟨k,c,ec,z⟩
     ·exact absurd k n3
     ·obtain ⟨c',ec'⟩:=cp.has x n4
      have:=cp.sub x c' ec';rw [ec] at this;cases this;obtain ⟨oc,ho,hd⟩:=z;exact ⟨u,r,.inr ⟨n4,c,ec',oc,old _ _ ho,hd⟩⟩
  ·obtain ⟨v,oc,ho,hd⟩:=I2.cell x c (cp.sub x c e)
   exact ⟨v,oc,old _ _ ho,hd⟩
  ·obtain ⟨v,oc,ho,hd⟩:=I2.cell x c (cp.sub x c e)
   rw [i9 (z0c (q0f ho))];exact I2.freeC x c (cp.sub x c e)
  ·have hp':p ∈ X.pn ++ pins:=by simpa using hp
   obtain ⟨e1,e2,e3,e4,e5⟩:=I2.pin p hp';exact ⟨old _ _ e1,by rw [i9 (z0c (q0f e1))];exact e2,ak4 _ _ e1,stkN _ e3 e4,e5⟩
  ·show (U0 caps σ).length=Nc.length
   unfold U0;rw [z0g];exact cp.len
 have stat:∀ {H':Hp},(∀ b ∈ fp,H' b=none)->∀ b ∈ fp,ao6 (X.block scope cl H3.objs.size Nc s2 H2 fp pins) [] H' b:=λhn b hb =>
  ⟨hn b hb,fpC b hb,stkN b (f2 b hb).2.1 (f2 b hb).2.2.1,.inl hb,λx c h=>(f2 b hb).2.2.2.2.1 x c (cp.sub x c h),λp hp=>(f2 b hb).2.2.2.2.2 p (by simpa using hp)⟩
 have loop:∀ s5:Shared,s5={ s2 with heap:=h4,toks:=s2.toks+([]:List (Str × Value)).length } ->
   codeAny (model X.prog X.w) X.A (.compLoop (.ListComp elt [⟨tg,iter,[],0⟩] scope pos) 0 (.ref it) (.ref s2.heap.objs.size) (compEnvC scope cl H3.objs.size X.env))
    (compPost (model X.prog X.w) X.A X.xe none (EP X pins σ Q) (.ref s2.heap.objs.size) H3.objs.size) s5:=by
  rintro s5 rfl;refine ay1 (λn s' => ∃ i σ' H',Inv (X.block scope cl H3.objs.size Nc s2 H2 fp pins) [] σ' H' s'/\tn i s'.heap/\(∀ b ∈ fp,H' b=none)/\W i n σ' H') ?_ m0 ⟨0,_,_,IB,T.keep _ _ _ st2 λb hb o e=>old b o e,λb hb=>by rw [i9 (fpD b hb)];exact (f2 b hb).1,w0⟩
  rintro n s6 ⟨i,σ6,H6,I6,st6,fr6,w6⟩;rcases turn i n σ6 H6 w6 with ⟨stop,qn⟩ | ⟨go,step⟩
  ·refine thn (T.done (X.block scope cl H3.objs.size Nc s2 H2 fp pins) rfl rfl rfl hc i [] s6 σ6 H6 _ I6 (stat fr6) st6 stop) λr s7 zq=>?_
   obtain ⟨hr,I7⟩:=zq;subst hr;obtain ⟨m7,hn7,_⟩:=id I7.loc;exact ⟨m7,hn7,λh' sb=>⟨.ref s2.heap.objs.size,H6,I2.sameC f2 I7.os I7.bare I7.base I7.hok hCs I7.free sb,rfl,qn⟩⟩
  ·refine thn (T.item (X.block scope cl H3.objs.size Nc s2 H2 fp pins) rfl rfl rfl hc i [] s6 σ6 H6 _ I6 (stat fr6) st6 go) λr s7 zq=>?_
   obtain ⟨u,hr,h7⟩:=zq;subst hr;refine thn h7 λ_ s8 zq=>?_;obtain ⟨x,H8,I8,r8,y8,st8,fr8⟩:=zq;have I8':=I8.pinned (stat fr8) (T.obj _ _ st8);refine thn (hg _ _ _ _ _ _ s8 σ6 H8 x u _ I8' r8 (step x H8 y8)) λ_ s9 zq=>?_;obtain ⟨σ9,H9,I9,q9⟩:=zq;refine thn (he _ _ _ _ _ _ s9 σ9 H9 _ I9 q9) λu10 s10 zq=>?_;obtain ⟨v10,H10,I10,r10,ys,hys,hlen,m',hm',w'⟩:=zq;refine thn (al3 _ s10 σ9 H10 (.ref s2.heap.objs.size) [v10] (.ref s2.heap.objs.size) [u10] (λ_ H11=>H11=upd H10 s2.heap.objs.size (.lst (ys ++ [v10]))) I10 rfl (.cons r10 .nil) ⟨_,ys,v10,rfl,rfl,hys,hlen,rfl⟩) λ_ s11 zq=>?_;obtain ⟨_,H11,I11,_,hH11⟩:=zq;subst hH11;refine ⟨m',hm',i+1,σ9,_,I11.unpinned,T.keep _ _ _ st8 λb hb o e=>(I11.pin (b,o) (z0d _ (z0d _ (D4 hb e)))).1,λb hb=>?_,w'⟩;obtain ⟨o,e,d⟩:=T.obj _ _ st8 b hb;exact (I11.pin (b,o) (z0d _ (z0d _ (D4 hb e)))).2.1
 exact codeAny_compStart_list (loop _ rfl) (T.self _ 0 _ _ _ (T.keep _ _ _ st2 λb hb o e=>old b o e) (loop _ rfl))
end
open PySem PySem.Spec PyProof.Rows
def ai5 (scope osc:Scope):List (Str × NameKind):=scope.names.map λ(n,k)=>if (k == .free && osc.kind == .function && osc.names.lookup n == some .cell) then (n,.cell) else (n,k)
def bm9 (o:Option NameKind):Bool:=o == some .cell || o == some .free
def bi0 (scope osc:Scope) (N ks Nc:List Str) (caps:List (Option Nat)):Bool :=
 ((ai5 scope osc).all λy => !(y.2 == .cell || y.2 == .free) || ks.contains y.1) && (scope.names.all λy=>y.2 != .cell) && scope.kind == .function &&
 (scope.names.all λy=>y.2 != .local || scope.names.lookup y.1 == some .local) && caps.length == Nc.length &&
 ((caps.zip Nc).all λp=>match p.1 with
  | none=>true
  | some j=>N[j]? == some p.2 && bm9 (osc.names.lookup p.2) && bm9 ((ai5 scope osc).lookup p.2))
theorem as2 {α β:Type} [BEq α] [LawfulBEq α]:∀ {l:List (α × β)} {x:α} {v:β},l.lookup x=some v->(x,v) ∈ l
 | [],_,_,h=>by simp at h
 | (a,b) :: r,x,v,h=>by
  rw [m0z] at h
  split at h
  ·rename_i e
   have:=eq_of_beq e;subst this
   cases h
   exact z0s
  ·exact z0h _ (as2 h)
theorem af0 {β:Type}:∀ {l:List (Str × β)} {x:Str},x ∈ l.map (·.1)->∃ c,l.lookup x=some c
 | [],_,h=>by simp at h
 | (a,b) :: r,x,h=>by
  rw [m0z]
  by_cases e:x=a
  ·subst e;exact ⟨b,by simp⟩
  ·have:(x == a)=false:=by simpa using e
   rw [this];rcases z0z.mp h with z | z
   ·exact absurd z e
   ·exact af0 z
theorem aS9 {o:Option NameKind} (h:bm9 o=true):o=some .cell \/ o=some .free:=by
 unfold bm9 at h;simp only [g0p,beq_iff_eq] at h;exact h
theorem ag7.of {X:Cx} {scope osc:Scope} {cl:List (Str × Addr)} {N ks Nc:List Str} {caps:List (Option Nat)} (clos:closureFor scope X.env=pure cl) (hN:X.N=N) (hosc:X.env.scope=osc) (hks:cl.map (·.1)=ks)
  (sub:∀ x c,cl.lookup x=some c->X.env.cells.lookup x=some c) (ok:bi0 scope osc N ks Nc caps=true):ag7 X scope cl Nc caps:=by
 unfold bi0 at ok;simp only [j0t,List.all_eq_true,beq_iff_eq,g0p,m0p,bne_iff_ne,ne_eq] at ok;obtain ⟨⟨⟨⟨⟨o1,o2⟩,o3⟩,o4⟩,o5⟩,o6⟩:=ok;have er:(relabel scope X.env).names=ai5 scope osc:=by subst hosc;rfl
 have kof:∀ x,X.env.kindOf x=osc.names.lookup x:=λx=>by subst hosc;rfl
 refine ⟨clos,sub,λx h=>?_,λx hx=>o2 x hx,o3,λx hx hl=>?_,o5,λi j x h1 h2=>?_⟩
 ·rw [er] at h
  refine af0 ?_;rw [hks]
  have key:∀ k,(ai5 scope osc).lookup x=some k->(k=.cell \/ k=.free)->x ∈ ks:=λk hk hcf=>by
   rcases o1 (x,k) (as2 hk) with z | z
   ·rcases hcf with rfl | rfl <;> simp at z
   ·simpa using z
  rcases h with h | h
  ·exact key _ h (.inl rfl)
  ·exact key _ h (.inr rfl)
 ·rcases o4 x hx with z | z
  ·exact absurd hl z
  ·exact z
 ·have hm:(some j,x) ∈ caps.zip Nc:=by
   have:(caps.zip Nc)[i]? = some (some j,x):=by
    rw [List.getElem?_zip_eq_some];exact ⟨h1,h2⟩
   exact z0r this
  have z:=o6 _ hm;simp only [j0t,beq_iff_eq] at z;obtain ⟨⟨z1,z2⟩,z3⟩:=z;have c2:=aS9 z2;have c3:=aS9 z3;refine ⟨by rw [hN];exact z1,?_,?_,?_⟩
  ·rw [hosc]
   rcases c2 with c | c
   ·exact .inr (.inl c)
   ·exact .inr (.inr c)
  ·rw [kof]
   rcases c2 with c | c <;> rw [c] <;> decide
  ·rw [er];exact c3
open PySem PySem.Spec PyProof.Rows
section
variable {X:Cx} {pins:List (Addr × Obj)} {σ:St} {H:Hp} {s:Shared}
theorem Inv.turnLaid {h':Heap} {t':Nat} {fp:List Addr} {a:Addr} {o:HO} (I:Inv X pins σ H s) (hf:∀ b ∈ fp,ao6 X pins H b)
  (k:∀ b u,b ∉ fp->s.heap.get? b=some u->h'.get? b=some u) (hp:s.heap.objs.size<=a) (new:C2 X.prog X.w (upd H a o) h' a o):Inv X pins σ (upd H a o) { s with heap:=h',toks:=t' }:=by
 have hn:H a=none:=I.hok.fresh hp;have nf:∀ b u,H b=some u->b ∉ fp:=λb u e z=>by rw [(hf b z).1] at e;cases e
 have ne:∀ b u,s.heap.get? b=some u->b ≠ a:=λb u e=>z0c (q0b (q0f e) hp)
 refine I.step (g':=s.gens) (d':=s.drawn) (ch:=fp) (λb hb=>?_) (λb o _ _ hc e _=>k b o hc e) (λb o _ _ hc e _=>⟨o.slots,k b o hc e⟩) (λb o _ e n=>by rw [i9 (ne b o e)];exact n)
  (λb o hc e=>⟨o,k b o hc e⟩) (λb xs e=>by rw [i9 (i6 e hn)];exact e) (λb o u e=>by rw [i9 (i6 e hn)];exact e) (λb ps e=>⟨#[],by rw [i9 (i6 e hn),e];simp⟩) (λm hm=>?_) (λb u e=>?_) I.bare
 ·obtain ⟨_,f1,_,f3,f4,f5⟩:=hf b hb
  exact ⟨f3,f1,f4,f5⟩
 ·obtain ⟨o,es,ep,ho,r⟩:=hm
  exact ⟨o,es,ep,k _ o (λz=>(hf _ z).2.1 rfl) ho,r⟩
 ·by_cases hb:b=a
  ·subst hb;rw [b6] at e;cases e;exact new
  ·rw [i9 hb] at e
   refine (I.hok b u e).stay (λc v hc q=>k c v ?_ q) (λc q=>by rw [i9 (i6 q hn)];exact q) λc xs q=>by rw [i9 (i6 q hn)];exact q
   rcases hc with z | z
   ·rw [z];exact nf b u e
   ·exact nf c _ z
end
def Ite (K:q0a) (a:Addr):It :=
 ⟨λi H => ∃ xs x,SqL K H a xs/\xs[i]? = some x,λi H y H' => ∀ xs,SqL K H a xs->∃ x p,xs[i]? = some x/\H p=none/\y=.ref p/\H'=upd H p (.tup [.int i,x]),λi H => ∃ xs,SqL K H a xs/\xs.length<=i⟩
theorem aV0 {P:Program} {w:World} {K:q0a} {elts:List Expr} {k:Nat} {tpos:Pos} (a e it:Addr) (hei:e ≠ it) :
  aG1 P w K (.Tuple elts k tpos) (Ite K a) [e,it] e (λi h=>(∃ old,IsEnum h e it ((i:Nat):Int) old)/\h.IsListIter it a i) where
 mem:=by simp
 obj:=λi h st b hb=>by
  obtain ⟨⟨old,he⟩,hit⟩:=st;rcases (by simpa using hb:b=e \/ b=it) with z | z
  ·subst z
   exact ⟨_,he,λv z=>by cases z⟩
  ·subst z
   obtain ⟨o,e,c,d⟩:=hit;exact ⟨o,e,λv z=>by rw [d] at z;cases z⟩
 keep:=λi h h' st k=>⟨let ⟨old,he⟩:=st.1;⟨old,k e (by simp) _ he⟩,st.2.at λo e=>k it (by simp) o e⟩
 item:=by
  intro X hP hw hK hc i pins s σ H E I hf st hg;subst hP hw hK;obtain ⟨xs,x,hq,hx⟩:=hg;obtain ⟨its,rv,p,hz⟩:=I.list hq;obtain ⟨u,hu,ru⟩:=rv.get hx;obtain ⟨⟨old,he⟩,hit⟩:=st;have helt:e<s.heap.objs.size:=q0f he;have hilt:it<s.heap.objs.size:=by obtain ⟨_,x,_⟩:=id hit;exact q0f x
  refine wpAny_pyNext_enum_item he hit p.isList (x:=u) (by simpa using hu) hei λh' ho hit' hT hsz kk=>?_
  refine ⟨_,rfl,?_⟩;refine wpAny_letOwnedTupleGo_enum (s:={ s with heap:=h',toks:=s.toks+1 }) ho λh'' he' sb=>?_;have hT':h''.get? s.heap.objs.size=some { cls:=.type "tuple",data:=.seq #[.int i s.toks,u] }:=(sb.2 _ (z1f helt)).trans hT
  refine ⟨.ref s.heap.objs.size,upd H s.heap.objs.size (.tup [.int i,x]),I.turnLaid (fp:=[e,it]) (t':=s.toks+1) hf (λb v hb q=>?_) (q0j _) ?_,rfl,?_,?_,λb hb=>?_⟩
  ·have h1:b ≠ e:=λz=>hb (by simp [z])
   have h2:b ≠ it:=λz=>hb (by simp [z])
   exact (sb.2 b h1).trans (kk b v h1 h2 q)
  ·exact ⟨(show 2<=sizeLine by decide +kernel),[.int i s.toks,u],.cons ⟨_,rfl⟩ (.cons ru .nil),_,hT',rfl,_,rfl⟩
  ·intro ys hy
   rw [I.list_inj hy hq];exact ⟨x,_,hx,I.fresh,rfl,rfl⟩
  ·refine ⟨⟨u,by have:=he';simpa using this⟩,hit'.at λo q=>(sb.2 it hei.symm).trans q⟩
  ·have hlt:b<s.heap.objs.size:=by
    rcases (by simpa using hb:b=e \/ b=it) with z | z
    ·rw [z];exact helt
    ·rw [z];exact hilt
   rw [i9 (z0c hlt)];exact (hf b hb).1
 done:=by
  intro X hP hw hK hc i pins s σ H E I hf st hg;subst hP hw hK;obtain ⟨xs,hq,hx⟩:=hg;obtain ⟨its,rv,p,hz⟩:=I.list hq;obtain ⟨⟨old,he⟩,hit⟩:=st;obtain ⟨f0,f1,f2,f3,f4,f5⟩:=hf it (by simp)
  have hl:=rv.length;exact wpAny_pyNext_enum_end (I.ok.hd hc) he hit p.isList (by simp;omega) λh' eb=>⟨rfl,I.turned (t':=s.toks) (λb o hb e=>eb b o hb e) f0 f1 f3 f4 f5⟩
 self:=λ_ _ _ _ _ st h=>by
  obtain ⟨⟨old,he⟩,_⟩:=st;exact wpAny_pyIter_enum he h
section
variable {X:Cx}
def bf6 (K:q0a) (ta:TA):TI:=λσ H R=>ta σ H λvs H1 => ∃ a,vs=[.ref a]/\(∃ xs,SqL K H1 a xs)/\R (Ite K a) H1
theorem aC2 {elts:List Expr} {k:Nat} {tpos:Pos} {l:Expr} {ta:TA} {p pos:Pos} (hg:Gl X "enumerate") (hm:X.mg "enumerate" = none) (ha:PA X [l] ta) (hs:starEach [l] X.env=[(false,eval l X.env)]:=by rfl) :
  PI X (.Tuple elts k tpos) (.Call (.Name "enumerate" p) [l] [] pos) (bf6 X.K ta):=by
 intro pins s σ H R I h;refine Call_ (U2 I hg hm (u:=.type "enumerate") (by decide +kernel) (PyProof.Rows.callWith_type1 (thn (ha pos pins s σ H _ I h) λus s1 ⟨vs,H1,I1,r1,q1⟩=>?_) hs rfl))
 obtain ⟨a,e,⟨xs,hq⟩,q⟩:=q1;subst e;obtain ⟨u,rfl,rx⟩:=ah1 r1
 cases rx
 obtain ⟨its,rv,p,hz⟩:=I1.list hq;refine call_enumerate_list p.isList λh' he hit hsz kk=>?_;refine wpAny_pyIter_enum he ?_;have I2:Inv X pins σ H1 { s1 with heap:=h' }:=I1.kept (t':=s1.toks) kk;refine ⟨s1.heap.objs.size+1,[s1.heap.objs.size+1,s1.heap.objs.size],_,_,H1,rfl,I2,aV0 a _ _ (Nat.succ_ne_self _),⟨⟨_,he⟩,hit⟩,λb hb=>?_,q⟩
 have hb':s1.heap.objs.size<=b:=by
  rcases (by simpa using hb:b=s1.heap.objs.size+1 \/ b=s1.heap.objs.size) with z | z
  ·rw [z];exact u0c _
  ·rw [z];exact q0j _
 obtain ⟨f0,f1,f2,f3,f4,f5⟩:=I1.fpOk (H':=H1) hb' (I1.hok.fresh hb');exact ⟨f0,f1,f2,f3,f4,f5⟩
def bk1 (wi:TI) (caps:List (Option Nat)) (g:TG) (tt:TT) (te:TE):TE:=λσ H Q=>wi σ H λJ H1 => ∀ D,H1 D=none->∃ W:Nat->Nat->St->Hp->Prop,(∃ m,W 0 m (U0 caps σ) (upd H1 D (.lst []))) /\
 ∀ i m σc H2,W i m σc H2->(J.stop i H2/\Q (.ref D) H2) \/
  (J.go i H2/\∀ x H3,J.yld i H2 x H3->g x σc H3 λσ4 H4=>tt σ4 H4 λb H4'=>if b=true then te σ4 H4' λy H5 => ∃ ys,H5 D=some (.lst ys)/\ys.length<sizeLine/\∃ m',m'<m/\W (i+1) m' σ4 (upd H5 D (.lst (ys ++ [y])))
   else ∃ m',m'<m/\W (i+1) m' σ4 H4')
open PySem PySem.Spec PyProof.Rows
theorem av7 (bs:List Bool):(y0f bs.length).all (λi=>(bs[i]?).getD true)=bs.all id:=by
 induction bs with
 | nil=>rfl
 | cons b bs ih =>
  rw [q0x,ac2,m0k,<- ih];rfl
theorem bi1 (hc:X.calm=true):ac6 X (.builtin "all") (λxs H Q => ∃ (p:Addr) (bs:List Bool),xs=[.ref p]/\SqL X.K H p (bs.map V.bl)/\Q (.bl (bs.all id)) H):=by
 intro pins s σ H xs us Q I r h;obtain ⟨p,bs,rfl,hq,q⟩:=h;obtain ⟨u,rfl,rx⟩:=ah1 r
 cases rx
 obtain ⟨its,r',pl,hz⟩:=I.list hq;have hlen:its.length=bs.length:=by rw [<- r'.length,z0g]
 have hp:p ≠ s.heap.objs.size:=by
  obtain ⟨o,ho,_⟩:=pl.isList;exact z0c (q0f ho)
 refine call_all_walk (wpAny_pyIter_list pl.isList ?_);refine ⟨s.heap.objs.size,_,_,_,_,_,λi=>(bs[i]?).getD true,rfl,Walks.list (A:=X.A.in1) (I.ok.hd hc) _ p hp its.toArray,⟨⟨_,z0j _ rfl,rfl,rfl⟩,pl.isList.at λo e=>q0h _ e⟩,?_,?_⟩
 ·intro i v s' Q' E' hv hQ
  have hv':its[i]? = some v:=by simpa using hv
  have hi:i<bs.length:=by rw [<- hlen];exact (z0f.mp hv').1
  obtain ⟨u,hu,ru⟩:=r'.get (i:=i) (x:=.bl bs[i]) (by rw [z0k,q0c hi];rfl)
  rw [hv'] at hu
  cases hu
  cases ru
  simp only [q0c hi] at hQ;exact wpAny_truthy_bool hQ
 ·intro h' tk kk
  have e:(y0f its.toArray.size).all (λi=>(bs[i]?).getD true)=bs.all id:=by rw [q0g,hlen,av7]
  rw [e];refine ⟨.bl _,H,I.kept (t':=tk) λb o e=>kk b o ?_ (q0h _ e),rfl,q⟩;intro z;have:b=s.heap.objs.size:=by simpa using z
  exact absurd (q0f e) (by rw [this];exact y0v _)
def bD4 (K:q0a):R2:=λx y H Q => ∃ d d',d.isV=false/\IsD K H x d/\IsD K H y d'/\okD d d'=true/\dpD d<=60/\Q (.bl (!eqD d d')) H
theorem aC3 (hu:X.A.units+64<cLine):OpR X (compareOp .NotEq) (bD4 X.K):=by
 intro pins s σ H x y v u Q I rx ry h;obtain ⟨d,d',nf,h1,h2,ok,dp,q⟩:=h;have fin:EP X pins σ Q (.bool (!eqD d d')) s:=⟨.bl _,H,I,rfl,q⟩
 cases h1 with
 | v f =>
  cases h2 with
  | v f'=>exact absurd (show true=false from nf) (by decide)
  | tup _ _=>simp [okD] at ok
  | lst _ _=>simp [okD] at ok
 | @tup p xs ds h t =>
  cases h2 with
  | v f'=>simp [okD] at ok
  | @tup p' ys ds' h' t' =>
   cases (show v=Value.ref p from rx)
   cases (show u=Value.ref p' from ry)
   rw [okD] at ok;rw [dpD] at dp;rw [eqD] at fin;obtain ⟨its,r1,i1,_⟩:=I.tuple h;obtain ⟨its',r2,i2,_⟩:=I.tuple h';have q':∀ (j:Nat) (h1:j<its.length) (h2:j<its'.length),SeqAt.EqAt X.A.in1 s its[j] its'[j] (ab9 ds ds' j):=λj h1 h2=>Z4 (A:=X.A.in1) I t t' ok r1 r2 (by show X.A.units+1+_<_;omega) j h1 h2
   have z:=SeqAt.RcNeAt.tuples (A:=X.A) (items:=its.toArray) (items2:=its'.toArray) (e:=ab9 ds ds') i1 i2 ⋯ (λj h1 h2=>q' j (by simpa using h1) (by simpa using h2))
   have e1:its.toArray.size=ds.length:=by rw [q0g,<- r1.length,t.length]
   have e2:its'.toArray.size=ds'.length:=by rw [q0g,<- r2.length,t'.length]
   rw [e1,e2,ad9] at z;exact PySem.EqBoolInt.of_rcne z fin
  | lst _ _=>simp [okD] at ok
 | @lst p xs ds h t =>
  cases h2 with
  | v f'=>simp [okD] at ok
  | tup _ _=>simp [okD] at ok
  | @lst p' ys ds' h' t' =>
   cases (show v=Value.ref p from rx)
   cases (show u=Value.ref p' from ry)
   rw [okD] at ok;rw [dpD] at dp;rw [eqD] at fin;obtain ⟨its,r1,i1,_⟩:=I.list h;obtain ⟨its',r2,i2,_⟩:=I.list h';have q':∀ (j:Nat) (h1:j<its.length) (h2:j<its'.length),SeqAt.EqAt X.A.in1 s its[j] its'[j] (ab9 ds ds' j):=λj h1 h2=>Z4 (A:=X.A.in1) I t t' ok r1 r2 (by show X.A.units+1+_<_;omega) j h1 h2
   have e1:its.toArray.size=ds.length:=by rw [q0g,<- r1.length,t.length]
   have e2:its'.toArray.size=ds'.length:=by rw [q0g,<- r2.length,t'.length]
   by_cases hl:ds.length=ds'.length
   ·have z:=SeqAt.RcNeAt.lists (A:=X.A) (items:=its.toArray) (items2:=its'.toArray) (e:=ab9 ds ds') i1.isList i2.isList (by rw [e1,e2,hl]) ⋯ (λj h1 h2=>q' j (by simpa using h1) (by simpa using h2))
    rw [e1,af2 ds ds' hl] at z;exact PySem.EqBoolInt.of_rcne z fin
   ·rw [as6 ds ds' hl] at fin
    exact PySem.EqBoolInt.of_rcne (SeqAt.RcNeAt.lists_lengths (A:=X.A) i1.isList i2.isList (by rw [e1,e2];simpa using hl) ⋯) fin
def ar4 (xs:List V) (lo hi st:Option Int):List V :=
 (sliceRange (sliceBounds lo hi st xs.length).1 (sliceBounds lo hi st xs.length).2.1 (sliceBounds lo hi st xs.length).2.2).filterMap (xs[·]?)
theorem j8.picks {xs:List V} {us:List Value} (r:j8 xs us):∀ ks:List Nat,j8 (ks.filterMap (xs[·]?)) (ks.filterMap (us[·]?))
 | []=>.nil
 | k :: ks=>by
  rw [j0u,j0u]
  cases h:xs[k]? with
  | none=>rw [r.none_of h];exact r.picks ks
  | some x =>
   obtain ⟨u,hu,ru⟩:=r.get h;rw [hu];exact .cons ru (r.picks ks)
def br9 (K:q0a) (te:TE) (tl th tk:TO):TE:=λσ H Q=>te σ H λx H1=>tl σ H1 λl H2=>th σ H2 λu H3=>tk σ H3 λk H4 =>
 ∃ a xs,x=.ref a/\SqL K H4 a xs/\k ≠ some 0/\∀ p,H4 p=none->Q (.ref p) (upd H4 p (.lst (ar4 xs l u k)))
theorem aw8 {e:Expr} {te:TE} {lo hi:Option Expr} {st:Expr} {tl th tk:TO} {pos p2:Pos} (he:PE X e te) (hl:PO X lo tl) (hu:PO X hi th) (hk:PO X (some st) tk):PE X (.Subscript e (.Slice lo hi (some st) p2) pos) (br9 X.K te tl th tk):=by
 intro pins s σ H Q I h;refine Subscript_ (thn (he pins s σ H _ I h) λv s1 zq=>?_);obtain ⟨x,H1,I1,r1,q1⟩:=zq;refine wpAny_Slice (thn (hl pins s1 σ H1 _ I1 q1) λvl s2 ⟨l,H2,I2,pl,q2⟩=>thn (hu pins s2 σ H2 _ I2 q2) λvu s3 ⟨u,H3,I3,pu,q3⟩=>thn (hk pins s3 σ H3 _ I3 q3) λvk s4 zq=>?_);obtain ⟨k,H4,I4,pk,q4⟩:=zq;obtain ⟨a,xs,rfl,hq,h0,q⟩:=q4
 cases r1
 have I5:Inv X pins σ H4 { s4 with heap:=s4.heap.push { cls:=.type "slice",data:=.fields #[vl,vu,vk] } }:=I4.kept (t':=s4.toks) λb ob q=>q0h _ q
 obtain ⟨its,r,ht,hz⟩:=I5.list hq;have hlen:=r.length
 show wpAny (model X.prog X.w) X.A (subscriptTail e (.Slice lo hi (some st) p2) (.ref a) (.ref s4.heap.objs.size)) (EP X pins σ Q) X.xe { s4 with heap:=s4.heap.push { cls:=.type "slice",data:=.fields #[vl,vu,vk] } }
 refine tail_any (ops:=[.ref a,.ref s4.heap.objs.size]) (s:={ s4 with heap:=s4.heap.push { cls:=.type "slice",data:=.fields #[vl,vu,vk] } }) (T := "list") ht.isList.typeIs slot_list_getitem.lookup ?_ (by with_unfolding_all rfl)
 refine wpAny_getItem_list_slice ht.isList (Heap.IsSliceOf.new ..) pl pu pk h0 ?_ (by rw [q0g] <;> omega)
 have ep:(slicePick its.toArray l u k)=((sliceRange (sliceBounds l u k xs.length).1 (sliceBounds l u k xs.length).2.1 (sliceBounds l u k xs.length).2.2).filterMap (its[·]?)).toArray:=by
  unfold slicePick;rw [q0g,<- hlen]
  simp
 rw [ep];have hv:j8 (ar4 xs l u k) ((sliceRange (sliceBounds l u k xs.length).1 (sliceBounds l u k xs.length).2.1 (sliceBounds l u k xs.length).2.2).filterMap (its[·]?)):=j8.picks r _
 have hsz:=slicePick_size_le its.toArray l u k;rw [ep,q0g,q0g,<- hv.length] at hsz;refine ⟨.ref _,_,I5.laid (t':=s4.toks) (o:=.lst (ar4 xs l u k)) (λb ob q=>q0h _ q) (q0j _) ?_,rfl,q _ (I5.hok.fresh (q0j _))⟩;exact ⟨⋯,_,0,hv,z0j _ rfl⟩
end
def E3 (D:Addr) (n:Nat) (Pv:Nat->St->Hp->Prop) (i:Nat) (σ4:St) (y:V) (H5:Hp):Prop :=
 ∃ ys,H5 D=some (.lst ys)/\ys.length<sizeLine/\∃ m',m'<n-i/\(m'=n-(i+1)/\i+1<=n/\Pv (i+1) σ4 (upd H5 D (.lst (ys ++ [y]))))
theorem E3.mk {D:Addr} {n:Nat} {Pv:Nat->St->Hp->Prop} {i:Nat} {σ4:St} {y:V} {H5:Hp} {ys:List V} (hi:i<n) (h:H5 D=some (.lst ys)) (hl:ys.length<sizeLine) (p:Pv (i+1) σ4 (upd H5 D (.lst (ys ++ [y])))):E3 D n Pv i σ4 y H5 :=
 ⟨ys,h,hl,_,⋯,rfl,hi,p⟩
section
variable {K:q0a} {a D:Addr} {xs:List V} {g:TG} {te:TE} {σ0:St} {H0:Hp} {Q:VK}
theorem aY5 (Pv:Nat->St->Hp->Prop) (h0:Pv 0 σ0 H0) (hl:∀ i σ H,i<=xs.length->Pv i σ H->SqL K H a xs)
  (hs:∀ i x σ H,xs[i]? = some x->Pv i σ H->g x σ H λσ4 H4=>te σ4 H4 λy H5=>E3 D xs.length Pv i σ4 y H5) (hd:∀ σ H,Pv xs.length σ H->Q (.ref D) H) :
  ∃ W:Nat->Nat->St->Hp->Prop,(∃ m,W 0 m σ0 H0)/\∀ i m σc H2,W i m σc H2->((Itl K a).stop i H2/\Q (.ref D) H2) \/
   ((Itl K a).go i H2/\∀ x H3,(Itl K a).yld i H2 x H3->g x σc H3 λσ4 H4=>te σ4 H4 λy H5 => ∃ ys,H5 D=some (.lst ys)/\ys.length<sizeLine/\∃ m',m'<m/\W (i+1) m' σ4 (upd H5 D (.lst (ys ++ [y])))):=by
 refine ⟨λi m σ H=>m=xs.length-i/\i<=xs.length/\Pv i σ H,⟨xs.length,by simp,j0k _,h0⟩,?_⟩
 rintro i m σ H ⟨rfl,hi,p⟩;have q:=hl i σ H hi p
 by_cases hlt:i<xs.length
 ·refine .inr ⟨⟨xs,xs[i],q,q0c hlt⟩,?_⟩
  rintro x H3 ⟨rfl,hx⟩;exact hs i x σ _ (hx xs q) p
 ·have e:i=xs.length:=⋯
  subst e;exact .inl ⟨⟨xs,q,q0j _⟩,hd σ H p⟩
theorem bh9 (Pv:Nat->St->Hp->Prop) (h0:Pv 0 σ0 H0) (hl:∀ i σ H,i<=xs.length->Pv i σ H->SqT K H a xs)
  (hs:∀ i x σ H,xs[i]? = some x->Pv i σ H->g x σ H λσ4 H4=>te σ4 H4 λy H5=>E3 D xs.length Pv i σ4 y H5) (hd:∀ σ H,Pv xs.length σ H->Q (.ref D) H) :
  ∃ W:Nat->Nat->St->Hp->Prop,(∃ m,W 0 m σ0 H0)/\∀ i m σc H2,W i m σc H2->((Itt K a).stop i H2/\Q (.ref D) H2) \/
   ((Itt K a).go i H2/\∀ x H3,(Itt K a).yld i H2 x H3->g x σc H3 λσ4 H4=>te σ4 H4 λy H5 => ∃ ys,H5 D=some (.lst ys)/\ys.length<sizeLine/\∃ m',m'<m/\W (i+1) m' σ4 (upd H5 D (.lst (ys ++ [y])))):=by
 refine ⟨λi m σ H=>m=xs.length-i/\i<=xs.length/\Pv i σ H,⟨xs.length,by simp,j0k _,h0⟩,?_⟩
 rintro i m σ H ⟨rfl,hi,p⟩;have q:=hl i σ H hi p
 by_cases hlt:i<xs.length
 ·refine .inr ⟨⟨xs,xs[i],q,q0c hlt⟩,?_⟩
  rintro x H3 ⟨rfl,hx⟩;exact hs i x σ _ (hx xs q) p
 ·have e:i=xs.length:=⋯
  subst e;exact .inl ⟨⟨xs,q,q0j _⟩,hd σ H p⟩
theorem aP1 {lo:Int} {n:Nat} (Pv:Nat->St->Hp->Prop) (h0:Pv 0 σ0 H0)
  (hs:∀ i σ H,i<n->Pv i σ H->g (.int (lo+i)) σ H λσ4 H4=>te σ4 H4 λy H5=>E3 D n Pv i σ4 y H5) (hd:∀ σ H,Pv n σ H->Q (.ref D) H) :
  ∃ W:Nat->Nat->St->Hp->Prop,(∃ m,W 0 m σ0 H0)/\∀ i m σc H2,W i m σc H2->((Itr lo n).stop i H2/\Q (.ref D) H2) \/
   ((Itr lo n).go i H2/\∀ x H3,(Itr lo n).yld i H2 x H3->g x σc H3 λσ4 H4=>te σ4 H4 λy H5 => ∃ ys,H5 D=some (.lst ys)/\ys.length<sizeLine/\∃ m',m'<m/\W (i+1) m' σ4 (upd H5 D (.lst (ys ++ [y])))):=by
 refine ⟨λi m σ H=>m=n-i/\i<=n/\Pv i σ H,⟨n,by simp,j0k _,h0⟩,?_⟩
 rintro i m σ H ⟨rfl,hi,p⟩
 by_cases hlt:i<n
 ·refine .inr ⟨hlt,?_⟩
  rintro x H3 ⟨rfl,rfl⟩;exact hs i σ _ hlt p
 ·have e:i=n:=⋯
  subst e;exact .inl ⟨q0j _,hd σ H p⟩
end
end L2
namespace R
theorem Y9 {n d:Int} (hd:0<d) (hc:q0q n d=1):(q0e n d).num=n/\((q0e n d).den:Int)=d:=by
 obtain ⟨k,rfl⟩:∃ k:Nat,d=k:=⟨d.toNat,⋯⟩;have hk:k ≠ 0:=⋯
 have hc':n.natAbs.Coprime k:=by
  rw [y0x] at hc
  simpa [m0d] using hc
 have e:(⟨n,k,hk,hc'⟩:Rat)=q0e n k:=Rat.mk_eq_divInt;rw [<- e];exact ⟨rfl,rfl⟩
theorem O6 {n d t b:Int} (hd:0<d) (hc:q0q n d=1) (hb:b ≠ 0) (h:n*b=t*d):n=(q0e t b).num/\d=((q0e t b).den:Int):=by
 have e:q0e n d=q0e t b:=(z0w ⋯ hb).mpr h;obtain ⟨h1,h2⟩:=Y9 hd hc;rw [e] at h1 h2;exact ⟨h1.symm,h2.symm⟩
theorem i8 {g n:Int} (hg:g ≠ 0):(g*n).fdiv g=n:=by
 rw [v0n];exact Int.mul_fdiv_cancel n hg
theorem C6 {t b:Int} (hb:b ≠ 0):0<q0q t b:=Int.gcd_pos_of_ne_zero_right t hb
theorem E8 {t b n d:Int} (hb:b ≠ 0) (h1:t=(q0q t b:Int)*n) (h2:b=(q0q t b:Int)*d):q0q n d=1:=by
 have hg:=C6 (t:=t) hb
 have e:q0q ((q0q t b:Int)*n) ((q0q t b:Int)*d)=q0q t b*q0q n d:=by
  rw [Int.gcd_mul_left];simp
 rw [<- h1,<- h2] at e;exact m0v hg (by rw [<- e,z1r])
theorem aD6 {t b g:Int} (hb:b ≠ 0) (hg:g=if b<0 then -(Int.gcd t b:Int) else (Int.gcd t b:Int)):t.fdiv g=(Rat.divInt t b).num/\b.fdiv g=((Rat.divInt t b).den:Int):=by
  have hp:(0:Int)<Int.gcd t b:=by have:=C6 (t:=t) hb;omega
  obtain ⟨n,hn⟩:=Int.gcd_dvd_left t b;obtain ⟨d,hd⟩:=Int.gcd_dvd_right t b;have hc:=E8 hb hn hd
  by_cases hs:b<0
  · rw [if_pos hs] at hg
    subst hg;have hg0:(-(Int.gcd t b:Int)) ≠ 0:=⋯;have e1:t=-(Int.gcd t b:Int)*(-n):=by rw [Int.neg_mul_neg];exact hn
    have e2:b=-(Int.gcd t b:Int)*(-d):=by rw [Int.neg_mul_neg];exact hd
    have f1 : t.fdiv (-(Int.gcd t b : Int)) = -n := by conv => lhs; arg 1; rw [e1]
                                                       exact i8 hg0
    have f2 : b.fdiv (-(Int.gcd t b : Int)) = -d := by conv => lhs; arg 1; rw [e2]
                                                       exact i8 hg0
    rw [f1,f2]
    have hd0:0 < -d:=by
      rcases Int.lt_or_le d 0 with z | z
      · omega
      · have:=Int.mul_nonneg (Int.le_of_lt hp) z;omega
    refine O6 hd0 (by rw [Int.gcd_neg,Int.neg_gcd];exact hc) hb ?_
    conv=>lhs;rw [hd]
    conv=>rhs;rw [hn]
    generalize (Int.gcd t b:Int)=g
    grind
  · rw [if_neg hs] at hg
    subst hg;have hg0:((Int.gcd t b:Int)) ≠ 0:=⋯
    have f1 : t.fdiv (Int.gcd t b : Int) = n := by conv => lhs; arg 1; rw [hn]
                                                   exact i8 hg0
    have f2 : b.fdiv (Int.gcd t b : Int) = d := by conv => lhs; arg 1; rw [hd]
                                                   exact i8 hg0
    rw [f1,f2]
    have hd0:0<d:=by
      rcases Int.lt_or_le 0 d with z | z
      · exact z
      · have:=Int.mul_nonneg (Int.le_of_lt hp) (show 0<=-d by omega);rw [Int.mul_neg] at this;omega
    refine O6 hd0 hc hb ?_
    conv=>lhs;rw [hd]
    conv=>rhs;rw [hn]
    generalize (Int.gcd t b:Int)=g
    grind
theorem T9 {x y:Int} (h:∀ k:Int,k ∣ x->k ∣ y->k ∣ 1):q0q x y=1:=by
 have:=h (q0q x y:Int) (y0b x y) (j0v x y);have h2:=y0g.mpr this
 simpa using h2
theorem Z5 {x y k:Int} (h:q0q x y=1) (h1:k ∣ x) (h2:k ∣ y):k ∣ 1:=by
 have:=Int.dvd_coe_gcd h1 h2;rw [h] at this
 simpa using this
theorem E9 {k m n:Int} (h1:q0q k m=1) (h2:q0q k n=1):q0q k (m*n)=1:=by
 rw [y0x] at *;rw [z0b];exact m0d.mul_right h1 h2
theorem ak3 {k m:Int} (h1:q0q k m=1):q0q m k=1:=by rw [Int.gcd_comm];exact h1
theorem aF0 {k m n:Int} (h1:q0q k m=1) (h:n ∣ m):q0q k n=1:=T9 λj a b=>Z5 h1 a (v0e b h)
theorem J3 {k m n:Int} (h1:q0q k m=1) (h:n ∣ k):q0q n m=1:=T9 λj a b=>Z5 h1 (v0e a h) b
theorem as8 {k m n:Int} (h1:q0q k m=1) (h:k ∣ m*n):k ∣ n:=by
 rw [y0x] at h1;have:=y0g.mpr h;rw [z0b] at this;exact y0g.mp (m0d.dvd_of_dvd_mul_left h1 this)
theorem bk9 {a b c d g top h:Int} (hb:0<b) (hd:0<d) (h1:q0q a b=1) (h2:q0q c d=1) (hg:g=(q0q b d:Int)) (ht:top=a*d.fdiv g+c*b.fdiv g) (hh:h=(q0q top g:Int)) :
  0<b.fdiv g*d.fdiv h/\q0q (top.fdiv h) (b.fdiv g*d.fdiv h)=1/\top.fdiv h*(b*d)=(a*d+c*b)*(b.fdiv g*d.fdiv h):=by
 have hgp:0<g:=by rw [hg];have:=C6 (t:=b) (b:=d) ⋯;omega
 have hhp:0<h:=by rw [hh];have:=C6 (t:=top) (b:=g) ⋯;omega
 obtain ⟨b',hb'⟩:g ∣ b:=hg ▸ y0b b d;obtain ⟨d',hd'⟩:g ∣ d:=hg ▸ j0v b d;have hc:q0q b' d'=1:=E8 (t:=b) (b:=d) ⋯ (by rw [<- hg];exact hb') (by rw [<- hg];exact hd')
 have eb:b.fdiv g=b':=by rw [hb'];exact i8 ⋯
 have ed:d.fdiv g=d':=by rw [hd'];exact i8 ⋯
 rw [eb,ed] at ht;obtain ⟨n,hn⟩:h ∣ top:=hh ▸ y0b top g;obtain ⟨g',hg'⟩:h ∣ g:=hh ▸ j0v top g;have hng:q0q n g'=1:=E8 (t:=top) (b:=g) ⋯ (by rw [<- hh];exact hn) (by rw [<- hh];exact hg')
 have en:top.fdiv h=n:=by rw [hn];exact i8 ⋯
 have edh:d.fdiv h=g'*d':=by
  have:d=h*(g'*d'):=by rw [hd',hg',m0m]
  rw [this];exact i8 ⋯
 rw [eb,en,edh]
 have bp:0<b':=by
  rcases u0h 0 b' with z | z
  ·exact z
  ·have:=u0n (u0j hgp) (show 0<=-b' by omega);rw [m0e] at this;omega
 have dp:0<d':=by
  rcases u0h 0 d' with z | z
  ·exact z
  ·have:=u0n (u0j hgp) (show 0<=-d' by omega);rw [m0e] at this;omega
 have gp:0<g':=by
  rcases u0h 0 g' with z | z
  ·exact z
  ·have:=u0n (u0j hhp) (show 0<=-g' by omega);rw [m0e] at this;omega
 have t1:q0q top b'=1:=T9 λk ka kb=>by
  have k1:k ∣ a*d':=by
   have:k ∣ top-c*b':=Int.dvd_sub ka (v0e kb (y0j _ _));rw [ht] at this
   simpa using this
  have k2:k ∣ a:=by
   rw [v0n] at k1;exact as8 (J3 hc kb) k1
  exact Z5 h1 k2 (v0e kb (hb' ▸ y0j _ _))
 have t2:q0q top d'=1:=T9 λk ka kb=>by
  have k1:k ∣ c*b':=by
   have:k ∣ top-a*d':=Int.dvd_sub ka (v0e kb (y0j _ _));rw [ht] at this;have e:a*d'+c*b'-a*d'=c*b':=⋯;rw [e] at this;exact this
  have k2:k ∣ c:=by
   rw [v0n] at k1;exact as8 (ak3 (aF0 hc kb)) k1
  exact Z5 h2 k2 (v0e kb (hd' ▸ y0j _ _))
 have ndt:n ∣ top:=hn ▸ y0j _ _;refine ⟨u0v bp (u0v gp dp),E9 (J3 t1 ndt) (E9 hng (J3 t2 ndt)),?_⟩;have e1:a*d+c*b=g*(h*n):=by rw [<- hn,ht,hb',hd'];grind
 rw [e1,hb',hd',hg']
 grind
theorem aZ8 {a b c d g1 g2:Int} (hb:0<b) (hd:0<d) (h1:q0q a b=1) (h2:q0q c d=1) (hg1:g1=(q0q a d:Int)) (hg2:g2=(q0q c b:Int)) :
  0<b.fdiv g2*d.fdiv g1/\q0q (a.fdiv g1*c.fdiv g2) (b.fdiv g2*d.fdiv g1)=1/\(a.fdiv g1*c.fdiv g2)*(b*d)=(a*c)*(b.fdiv g2*d.fdiv g1):=by
 have p1:0<g1:=by rw [hg1];have:=C6 (t:=a) (b:=d) ⋯;omega
 have p2:0<g2:=by rw [hg2];have:=C6 (t:=c) (b:=b) ⋯;omega
 obtain ⟨a',ha'⟩:g1 ∣ a:=hg1 ▸ y0b a d;obtain ⟨d',hd'⟩:g1 ∣ d:=hg1 ▸ j0v a d;obtain ⟨c',hc'⟩:g2 ∣ c:=hg2 ▸ y0b c b;obtain ⟨b',hb'⟩:g2 ∣ b:=hg2 ▸ j0v c b;have c1:q0q a' d'=1:=E8 (t:=a) (b:=d) ⋯ (by rw [<- hg1];exact ha') (by rw [<- hg1];exact hd')
 have c2:q0q c' b'=1:=E8 (t:=c) (b:=b) ⋯ (by rw [<- hg2];exact hc') (by rw [<- hg2];exact hb')
 have ea:a.fdiv g1=a':=by rw [ha'];exact i8 ⋯
 have ed:d.fdiv g1=d':=by rw [hd'];exact i8 ⋯
 have ec:c.fdiv g2=c':=by rw [hc'];exact i8 ⋯
 have eb:b.fdiv g2=b':=by rw [hb'];exact i8 ⋯
 rw [ea,ed,ec,eb]
 have bp:0<b':=by
  rcases u0h 0 b' with z | z
  ·exact z
  ·have:=u0n (u0j p2) (show 0<=-b' by omega);rw [m0e] at this;omega
 have dp:0<d':=by
  rcases u0h 0 d' with z | z
  ·exact z
  ·have:=u0n (u0j p1) (show 0<=-d' by omega);rw [m0e] at this;omega
 have x1:q0q a' b'=1:=aF0 (J3 h1 (ha' ▸ y0j _ _)) (hb' ▸ y0j _ _);have x2:q0q c' d'=1:=aF0 (J3 h2 (hc' ▸ y0j _ _)) (hd' ▸ y0j _ _);refine ⟨u0v bp dp,ak3 (E9 (ak3 (E9 x1 c1)) (ak3 (E9 c2 x2))),?_⟩;rw [ha',hb',hc',hd']
 grind
theorem ap3 (q:Rat):q0q q.num q.den=1:=by
 rw [y0x]
 simpa using q.reduced
theorem k9 (q:Rat):(0:Int)<q.den:=by have:=q.den_nz;omega
theorem ag4 (p q:Rat):p+q=q0e (p.num*q.den+q.num*p.den) (p.den*q.den):=by
 have h1:=k9 p;have h2:=k9 q
 conv=>lhs;rw [<- z0y p,<- z0y q]
 exact g0d _ _ ⋯ ⋯
theorem aL7 (p q:Rat):p-q=q0e (p.num*q.den-q.num*p.den) (p.den*q.den):=by
 have h1:=k9 p;have h2:=k9 q
 conv=>lhs;rw [<- z0y p,<- z0y q]
 exact Rat.divInt_sub_divInt _ _ ⋯ ⋯
theorem Z3 (p q:Rat):p*q=q0e (p.num*q.num) (p.den*q.den):=by
 conv=>lhs;rw [<- z0y p,<- z0y q]
 exact v0a _ _
theorem at2 (p q:Rat):p / q=q0e (p.num*q.den) (p.den*q.num):=by
 rw [q0u,Rat.inv_def]
 conv=>lhs;lhs;rw [<- z0y p]
 exact v0a _ _
theorem aJ5 (a b:Int):q0q b (a.fmod b)=q0q a b:=by
 have e:=q1v a b;rw [Int.gcd_comm a b]
 conv=>rhs;rw [<- e]
 rw [show b*a.fdiv b+a.fmod b=a.fmod b+a.fdiv b*b by rw [v0n,Int.add_comm]]
 simp
theorem ab6 (a:Int) {b:Int} (hb:b ≠ 0):(a.fmod b).natAbs<b.natAbs:=by
 rcases u0h b 0 with h | h
 ·have e:=Int.neg_fmod_neg a b
  have h1:=y0n (-a) (show 0 < -b by omega)
  have h2:=y0y (-a) (show 0 < -b by omega)
  omega
 ·have h1:=y0n a (show 0<b by omega)
  have h2:=y0y a (show 0<b by omega)
  omega
open PySem L2 PyProof.Rows
section
variable {P:Program} {w:World} {K:q0a} {mg:Str->Option Value} {base:Heap}
theorem F7 {a:Int} {m:Nat} (h:a.natAbs<2 ^ m):Builtin.Int.intBits a<=m:=by
 unfold Builtin.Int.intBits
 split
 ·exact j0k _
 ·rename_i hz
  have h0:a.natAbs ≠ 0:=by
   intro z;have:a=0:=⋯
   simp [this] at hz
  have:=(z1s h0).mpr h;omega
theorem B6 {a b:Int} {m n:Nat} (ha:a.natAbs<2 ^ m) (hb:b.natAbs<2 ^ n) (h:m+n<=134217728:=by decide):IntMulOk a b:=IntMulOk.of_le (F7 ha) (F7 hb) h
theorem V4 {j:Int} (h0:j ≠ 0) (h:j.natAbs<2 ^ 9000):ak6 i j:=⟨h0,(z1s ⋯).mpr h⟩
theorem c6 {m n:Nat} (h:m<=n):2 ^ m<=2 ^ n:=j0p (by decide) h
theorem P7 {a:Nat} {m n:Nat} (h:a<2 ^ m) (hm:m<=n:=by decide):a<2 ^ n:=q0b h (c6 hm)
def k6 (q:Rat):List V:=[.int q.num,.int (q.den:Int)]
structure Bd (q:Rat):Prop where
 n:q.num.natAbs<2 ^ 3000
 d:q.den<2 ^ 3000
def Num (K:q0a) (H:Hp) (v:V) (q:Rat):Prop:=∃ p,v=.ref p/\SqT K H p (k6 q)
def au0 (H:Hp) (Q:VK) (q:Rat):Prop:=∀ r H',b9 H H'->H' r=some (.tup (k6 q))->Q (.ref r) H'
theorem Num.same {K:q0a} {H H':Hp} {v:V} {q:Rat} (n:Num K H v q) (e:b9 H H'):Num K H' v q:=let ⟨p,h1,h2⟩:=n;⟨p,h1,e.tup h2⟩
theorem k7:(2:Nat)<=sizeLine:=by decide
theorem af7:(1:Nat)<=sizeLine:=by decide
theorem al9 {a b:Int} {n:Nat} (hb:b ≠ 0) (h:b.natAbs<n):((q0q a b:Nat):Int).natAbs<n:=by
 have h1:q0q a b ∣ b.natAbs:=by
  have:=y0g.mpr (j0v a b)
  simpa using this
 have h2:=u0a ⋯ h1;simp only [q0m];omega
theorem L8 {a g:Int} (hg:0<g) (hd:g ∣ a):(a.fdiv g).natAbs<=a.natAbs:=by
 obtain ⟨n,rfl⟩:=hd;rw [i8 ⋯,z0b];exact v0u _ ⋯
theorem P6 {q:Rat}:q.num=0 ↔ q=0:=by
 constructor
 ·intro h;exact Rat.num_eq_zero.mp h
 ·intro h;rw [h];rfl
theorem at0 (q:Rat):atI (k6 q) 0=some (.int q.num):=rfl
theorem at1 (q:Rat):atI (k6 q) 1=some (.int (q.den:Int)):=rfl
theorem bB3 {a b:Int} (h:a.natAbs<2 ^ 64):IntMulOk a b:=IntMulOk.of_left (F7 h)
theorem aI9 {a b:Int} (h:b.natAbs<2 ^ 64):IntMulOk a b:=IntMulOk.of_right (F7 h)
def am8:Sp:=λvs H Q _ => ∃ t b:Int,vs=[.int t,.int b]/\b ≠ 0/\b.natAbs<2 ^ 6000/\au0 H Q (q0e t b)
def p8 (H:Hp) (u:Addr):Prop:=∃ g m p:Int,H u=some (.lst [.int g,.int m,.int p])/\0<=g/\0<=m/\m<2 ^ 40/\0<p/\p<2 ^ 40
def p9 (u:Addr) (H H':Hp):Prop:=∀ b o,H b=some o->b ≠ u->H' b=some o
theorem b9.x {H H':Hp} (s:b9 H H') (u:Addr):p9 u H H':=λb o h _=>s b o h
theorem p9.trans {u:Addr} {H H1 H2:Hp} (a:p9 u H H1) (b:p9 u H1 H2):p9 u H H2:=λc o h n=>b c o (a c o h n) n
theorem p9.upd (u:Addr) (H:Hp) (o:HO):p9 u H (upd H u o):=λb p h n=>by rw [i9 n];exact h
theorem b9.urn {H H':Hp} {u:Addr} (s:b9 H H') (h:p8 H u):p8 H' u:=let ⟨g,m,p,h1,r⟩:=h;⟨g,m,p,s _ _ h1,r⟩
def bq0 (K:q0a):Sp:=λvs H Q _ => ∃ (a:Addr) (ns:List Int) (k:Int),vs=[.ref a,.int k]/\SqL K H a (ns.map V.int)/\0<=k/\k<64/\∀ r H',b9 H H'->H r=none->p8 H' r->Q (.ref r) H'
def bt9:List V:=[.int 1899999979,.int 1899998977,.int 1899997949,.int 1899996929,.int 1899995927,.int 1899994903,.int 1899993877,.int 1899992839]
theorem bc4 {k:Int} (h0:0<=k):∃ p:Int,atI bt9 (k.fmod 8)=some (.int p)/\1899992839<=p/\p<=1899999979:=by
 have h1:=y0n k (show (0:Int)<8 by decide)
 have h2:=y0y k (show (0:Int)<8 by decide)
 have h3:k.fmod 8=0 \/ k.fmod 8=1 \/ k.fmod 8=2 \/ k.fmod 8=3 \/ k.fmod 8=4 \/ k.fmod 8=5 \/ k.fmod 8=6 \/ k.fmod 8=7:=⋯;rcases h3 with h | h | h | h | h | h | h | h <;> rw [h] <;> exact ⟨_,rfl,by decide,by decide⟩
theorem aY8 {ns:List Int} {k:Int} (h0:0<=k) (h:k<(ns.length:Int)):∃ v:Int,atI (ns.map V.int) k=some (.int v):=by
 have hk:k.toNat<ns.length:=⋯;have ek:k=((k.toNat:Nat):Int):=⋯;have q:atI (ns.map V.int) ((k.toNat:Nat):Int)=some (.int ns[k.toNat]):=B3 (by rw [z0k,q0c hk] <;> rfl)
 rw [<- ek] at q;exact ⟨_,q⟩
def F4:Sp:=λvs H Q _ => ∃ (u:Addr) (n:Int),vs=[.ref u,.int n]/\p8 H u/\0<n/\n<2 ^ 40/\∀ r H',0<=r->r<n->p9 u H H'->p8 H' u->Q (.int r) H'
structure Sm (q:Rat):Prop where
 n:q.num.natAbs<=10 ^ 12
 d:q.den<=10 ^ 12
theorem C4 {t b:Int} (hb:b ≠ 0):(q0e t b).num.natAbs<=t.natAbs/\(q0e t b).den<=b.natAbs:=by
 have hp:=C6 (t:=t) hb;obtain ⟨e1,e2⟩:=aD6 (t:=t) (b:=b) (g:=if b<0 then -(q0q t b:Int) else (q0q t b:Int)) hb rfl
 have key:∀ x:Int,(q0q t b:Int) ∣ x->(x.fdiv (if b<0 then -(q0q t b:Int) else (q0q t b:Int))).natAbs<=x.natAbs:=by
  rintro x ⟨n,hn⟩
  split
  ·have:x=-(q0q t b:Int)*(-n):=by rw [Int.neg_mul_neg];exact hn
   rw [this,i8 ⋯,z0b];exact v0u _ ⋯
  ·rw [hn,i8 ⋯,z0b]
   exact v0u _ ⋯
 have k1:=key t (y0b t b);have k2:=key b (j0v t b);rw [e1] at k1;rw [e2] at k2;exact ⟨k1,⋯⟩
theorem bA3 {t b:Int} (hb:b ≠ 0) (h1:t.natAbs<=10 ^ 12) (h2:b.natAbs<=10 ^ 12):Sm (q0e t b):=by
 obtain ⟨e1,e2⟩:=C4 (t:=t) hb;exact ⟨⋯,⋯⟩
def bb3:Sp:=λvs H Q _ => ∃ u,vs=[.ref u]/\p8 H u/\∀ r H',r=0 \/ r=1 \/ r=2->p9 u H H'->p8 H' u->Q (.int r) H'
theorem V9 {H:Hp} {u l:Addr} (hu:p8 H u) (hl:H l=none):l ≠ u:=by
 obtain ⟨g,m,p,h,r⟩:=hu;exact (i6 h hl).symm
theorem G0 {H:Hp} {u l:Addr} {o:HO} (hu:p8 H u) (hl:H l=none):p8 (upd H l o) u:=by
 obtain ⟨g,m,p,h,r⟩:=hu;exact ⟨g,m,p,by rw [i9 (i6 h hl)];exact h,r⟩
def spNumber:Sp:=λvs H Q _ => ∃ u kd,vs=[.ref u,.int kd]/\p8 H u/\∀ r q H',Sm q->p9 u H H'->p8 H' u->H' r=some (.tup (k6 q))->Q (.ref r) H'
def ah4:Sp:=λvs H Q _ => ∃ i:Int,vs=[.int i]/\Q (.bl true) H
theorem aJ4:z0m K (.type "int") (.type "int")=some true:=by unfold z0m;rw [if_pos (by decide)]
theorem aD7:z0m K (.type "int") (.type "bool")=some false:=by kernel_rfl
theorem an2:z0m K (.type "tuple") (.type "tuple")=some true:=by unfold z0m;rw [if_pos (by decide)]
def M8 (q:Rat):D:=.tup [.v (.int q.num),.v (.int (q.den:Int))]
theorem aj8 {H:Hp} {a:Addr} {q:Rat} (h:SqT K H a (k6 q)):IsD K H (.ref a) (M8 q):=.tup h (.cons (.v rfl) (.cons (.v rfl) .nil))
theorem aE2 (q:Rat):eqD (M8 q) (M8 q)=true:=by simp [M8,eqD,J4,eqV]
theorem aR6 (p q:Rat):okD (M8 p) (M8 q)=true:=by simp [M8,okD,ae1]
theorem by1 (q:Rat):dpD (M8 q)<=60:=by simp [M8,dpD,ao4]
def aQ3 (K:q0a):Sp:=λvs H Q _ => ∃ x q,vs=[x]/\(∃ p,x=.ref p/\SqT K H p (k6 q))/\(q.den:Int).natAbs<2 ^ 6000/\∀ H',b9 H H'->Q (.bl true) H'
end
open PySem L2 PyProof.Rows
inductive p7 (H:Hp):List V->List Rat->Prop where
 | nil:p7 H [] []
 | cons {p:Addr} {q:Rat} {vs:List V} {qs:List Rat} (h:H p=some (.tup (k6 q))) (t:p7 H vs qs):p7 H (.ref p :: vs) (q :: qs)
def N3 (H H':Hp):Prop:=∀ b xs,H b=some (.tup xs)->H' b=some (.tup xs)
theorem N3.trans {H H1 H2:Hp} (a:N3 H H1) (b:N3 H1 H2):N3 H H2:=λc xs h=>b c xs (a c xs h)
theorem _root_.L2.b9.tups {H H':Hp} (s:b9 H H'):N3 H H':=λb xs h=>s b _ h
theorem p9.tups {u:Addr} {H H':Hp} (s:p9 u H H') (hu:p8 H u):N3 H H':=λb xs h=>by
 obtain ⟨g,m,p,e,_⟩:=hu;exact s b _ h (bq7 h e (by intro z;cases z))
theorem N3.lst {H:Hp} {a:Addr} {xs:List V} {o:HO} (h:H a=some (.lst xs)):N3 H (upd H a o):=λb ys e=>by
 rw [i9 (bq7 e h (by intro z;cases z))];exact e
theorem N3.new {H:Hp} {a:Addr} {o:HO} (h:H a=none):N3 H (upd H a o):=(b9.new h o).tups
theorem p7.mono {H H':Hp} (e:N3 H H'):∀ {vs:List V} {qs:List Rat},p7 H vs qs->p7 H' vs qs
 | _,_,.nil=>.nil
 | _,_,.cons h t=>.cons (e _ _ h) (t.mono e)
theorem p7.length {H:Hp}:∀ {vs:List V} {qs:List Rat},p7 H vs qs->vs.length=qs.length
 | _,_,.nil=>rfl
 | _,_,.cons _ t=>congrArg (· + 1) t.length
theorem p7.take {H:Hp}:∀ {vs:List V} {qs:List Rat} (m:Nat),p7 H vs qs->p7 H (vs.take m) (qs.take m)
 | _,_,0,_=>by simp;exact .nil
 | _,_,_+1,.nil=>.nil
 | _,_,m+1,.cons h t=>.cons h (t.take m)
theorem p7.append {H:Hp}:∀ {vs ws:List V} {qs rs:List Rat},p7 H vs qs->p7 H ws rs->p7 H (vs ++ ws) (qs ++ rs)
 | _,_,_,_,.nil,b=>b
 | _,_,_,_,.cons h t,b=>.cons h (t.append b)
theorem p7.get {H:Hp}:∀ {vs:List V} {qs:List Rat} {i:Nat} {q:Rat},p7 H vs qs->qs[i]? = some q->∃ p,vs[i]? = some (.ref p)/\H p=some (.tup (k6 q))
 | _,_,_,_,.nil,e=>by simp at e
 | _,_,0,_,.cons h t,e=>by
  have:=Option.some.inj e;subst this;exact ⟨_,rfl,h⟩
 | _,_,i+1,_,.cons h t,e=>by
  obtain ⟨p,e1,e2⟩:=t.get (i:=i) (by simpa using e)
  exact ⟨p,by simpa using e1,e2⟩
theorem p7.getV {H:Hp}:∀ {vs:List V} {qs:List Rat} {i:Nat} {v:V},p7 H vs qs->vs[i]? = some v->∃ p q,v=.ref p/\qs[i]? = some q/\H p=some (.tup (k6 q))
 | _,_,_,_,.nil,e=>by simp at e
 | _,_,0,_,.cons h t,e=>by
  have:=Option.some.inj e;subst this;exact ⟨_,_,rfl,rfl,h⟩
 | _,_,i+1,_,.cons h t,e=>by
  obtain ⟨p,q,e0,e1,e2⟩:=t.getV (i:=i) (by simpa using e)
  exact ⟨p,q,e0,by simpa using e1,e2⟩
theorem p7.isDs {K:q0a} {H:Hp}:∀ {vs:List V} {qs:List Rat},p7 H vs qs->ae3 K H vs (qs.map M8)
 | _,_,.nil=>.nil
 | _,_,.cons h t=>.cons (aj8 (SqT.of h)) t.isDs
theorem bk5 {p q:Rat} (h1:p.num=q.num) (h2:p.den=q.den):p=q:=by
 cases p;cases q;simp at h1 h2;subst h1 h2;rfl
theorem bg5 (p q:Rat):eqD (M8 p) (M8 q)=decide (p=q):=by
 by_cases h:p=q
 ·subst h;rw [aE2];simp
 ·rw [decide_eq_false h]
  simp only [M8,eqD,J4,eqV,Bool.and_true]
  by_cases h1:p.num=q.num
  ·have h2:p.den ≠ q.den:=λz=>h (bk5 h1 z)
   have:((p.den:Int) == (q.den:Int))=false:=by
    rw [beq_eq_false_iff_ne];intro z;exact h2 ⋯
   rw [this,Bool.and_false]
  ·have:(p.num == q.num)=false:=by rw [beq_eq_false_iff_ne];exact h1
   rw [this,Bool.false_and]
theorem ax6:∀ ps qs:List Rat,J4 (ps.map M8) (qs.map M8)=decide (ps=qs)
 | [],[]=>by simp [J4]
 | [],_ :: _=>by simp [J4]
 | _ :: _,[]=>by simp [J4]
 | p :: ps,q :: qs=>by
  rw [j0g,j0g,J4,bg5,ax6 ps qs]
  by_cases h1:p=q <;> by_cases h2:ps=qs <;> simp [h1,h2]
theorem ax1:∀ ps qs:List Rat,ae1 (ps.map M8) (qs.map M8)=true
 | [],[]=>by simp [ae1]
 | [],_ :: _=>by simp [ae1]
 | _ :: _,[]=>by simp [ae1]
 | p :: ps,q :: qs=>by rw [j0g,j0g,ae1,aR6,ax1 ps qs];rfl
theorem ax8:∀ qs:List Rat,ao4 (qs.map M8)<=1
 | []=>by simp [ao4]
 | q :: qs=>by
  have h1:dpD (M8 q)<=1:=by simp [M8,dpD,ao4]
  have h2:=ax8 qs;rw [j0g,ao4];omega
def D9 (qs:List Rat):D:=.lst (qs.map M8)
theorem E7 {K:q0a} {H:Hp} {a:Addr} {vs:List V} {qs:List Rat} (h:SqL K H a vs) (n:p7 H vs qs):IsD K H (.ref a) (D9 qs):=.lst h n.isDs
theorem ak1 (ps qs:List Rat):eqD (D9 ps) (D9 qs)=decide (ps=qs):=by unfold D9;rw [eqD,ax6]
theorem ab5 (ps qs:List Rat):okD (D9 ps) (D9 qs)=true:=by unfold D9;rw [okD,ax1]
theorem ak2 (qs:List Rat):dpD (D9 qs)<=2:=by unfold D9;rw [dpD];have:=ax8 qs;omega
structure Q7 (qs:List Rat) (m:Nat):Prop where
 le:m<=qs.length
 zero:∀ (i:Nat) (q:Rat),m<=i->qs[i]? = some q->q=0
 last:m ≠ 0->∀ q,qs[m-1]? = some q->q ≠ 0
theorem Q7.uniq {qs:List Rat} {m n:Nat} (a:Q7 qs m) (b:Q7 qs n):m=n:=by
 have key:∀ {m n:Nat},Q7 qs m->Q7 qs n->¬ m<n:=by
  intro m n a b h;have hn:n-1<qs.length:=by have:=b.le;omega
  exact b.last ⋯ _ (q0c hn) (a.zero (n-1) _ ⋯ (q0c hn))
 have:=key a b;have:=key b a;omega
def evs {α:Type}:List α->List α
 | []=>[]
 | [x]=>[x]
 | x :: _ :: r=>x :: evs r
def ods {α:Type} (xs:List α):List α:=evs xs.tail
end R
set_option maxRecDepth 100000
namespace L2
open PySem PySem.Spec PyProof.Rows
def WhN (Pv:St->Hp->Prop) (μ:St->Hp->Nat) (m:Nat):St->Hp->Prop:=λσ' H' => ∃ m',m'<m/\(m'=μ σ' H'/\Pv σ' H')
theorem WhN.mk {Pv:St->Hp->Prop} {μ:St->Hp->Nat} {m:Nat} {σ':St} {H':Hp} (h:Pv σ' H') (l:μ σ' H'<m):WhN Pv μ m σ' H':=⟨_,l,rfl,h⟩
def WhB (tb:TS) (D:aa0) (Pv:St->Hp->Prop) (μ:St->Hp->Nat) (m:Nat) (σ:St) (H1:Hp):Prop :=
 ∃ N:St->Hp->Prop,(∀ σ' H',N σ' H'->∃ m',m'<m/\(m'=μ σ' H'/\Pv σ' H'))/\tb { D with nx:=N,ct:=N,bk:=D.nx } σ H1
theorem WhB.mk {tb:TS} {D:aa0} {Pv:St->Hp->Prop} {μ:St->Hp->Nat} {m:Nat} {σ:St} {H1:Hp} (h:tb { D with nx:=WhN Pv μ m,ct:=WhN Pv μ m,bk:=D.nx } σ H1):WhB tb D Pv μ m σ H1:=⟨_,λ_ _ n=>n,h⟩
theorem aq2 {c:TT} {tb:TS} {D:aa0} {σ:St} {H:Hp} (Pv:St->Hp->Prop) (μ:St->Hp->Nat) (h0:Pv σ H)
  (hs:∀ σ H,Pv σ H->c σ H λb H1=>if b=true then WhB tb D Pv μ (μ σ H) σ H1 else D.nx σ H1):af5 c tb D σ H:=by
 refine ⟨λm σ H=>m=μ σ H/\Pv σ H,⟨_,rfl,h0⟩,?_⟩;rintro m σ H ⟨rfl,p⟩;exact hs σ H p
theorem b9.over {H H1:Hp} {l:Addr} (s:b9 H H1) (hl:H l=none) (o:HO):b9 H (upd H1 l o):=λb u h=>by
 rw [i9 (i6 h hl)];exact s b u h
def au2 (J:It) (D:Addr) (σ0:St) (H0:Hp) (g:TG) (te:TE) (Q:VK):Prop:=∃ W:Nat->Nat->St->Hp->Prop,(∃ m,W 0 m σ0 H0) /\
 ∀ i m σc H2,W i m σc H2->(J.stop i H2/\Q (.ref D) H2) \/
  (J.go i H2/\∀ x H3,J.yld i H2 x H3->g x σc H3 λσ4 H4=>te σ4 H4 λy H5 => ∃ ys,H5 D=some (.lst ys)/\ys.length<sizeLine/\∃ m',m'<m/\W (i+1) m' σ4 (upd H5 D (.lst (ys ++ [y]))))
theorem aG8 (wi:TI) (caps:List (Option Nat)) (g:TG) (te:TE):ba4 wi caps g te=λσ H Q=>wi σ H λJ H1 => ∀ D,H1 D=none->au2 J D (U0 caps σ) (upd H1 D (.lst [])) g te Q:=rfl
def bz8 (J:It) (D:Addr) (σ0:St) (H0:Hp) (g:TG) (tt:TT) (te:TE) (Q:VK):Prop:=∃ W:Nat->Nat->St->Hp->Prop,(∃ m,W 0 m σ0 H0) /\
 ∀ i m σc H2,W i m σc H2->(J.stop i H2/\Q (.ref D) H2) \/
  (J.go i H2/\∀ x H3,J.yld i H2 x H3->g x σc H3 λσ4 H4=>tt σ4 H4 λb H4'=>if b=true then te σ4 H4' λy H5 => ∃ ys,H5 D=some (.lst ys)/\ys.length<sizeLine/\∃ m',m'<m/\W (i+1) m' σ4 (upd H5 D (.lst (ys ++ [y])))
   else ∃ m',m'<m/\W (i+1) m' σ4 H4')
theorem aq3 (wi:TI) (caps:List (Option Nat)) (g:TG) (tt:TT) (te:TE):bk1 wi caps g tt te=λσ H Q=>wi σ H λJ H1 => ∀ D,H1 D=none->bz8 J D (U0 caps σ) (upd H1 D (.lst [])) g tt te Q:=rfl
section
variable {K:q0a} {a D:Addr} {xs:List V} {g:TG} {te:TE} {σ0:St} {H0:Hp} {Q:VK}
theorem ap8 (xs:List V) (Pv:Nat->St->Hp->Prop) (h0:Pv 0 σ0 H0) (hl:∀ i σ H,i<=xs.length->Pv i σ H->SqL K H a xs)
  (hs:∀ i x σ H,xs[i]? = some x->Pv i σ H->g x σ H λσ4 H4=>te σ4 H4 λy H5=>E3 D xs.length Pv i σ4 y H5) (hd:∀ σ H,Pv xs.length σ H->Q (.ref D) H):au2 (Itl K a) D σ0 H0 g te Q:=aY5 Pv h0 hl hs hd
theorem by4 (xs:List V) (Pv:Nat->St->Hp->Prop) (h0:Pv 0 σ0 H0) (hl:∀ i σ H,i<=xs.length->Pv i σ H->SqT K H a xs)
  (hs:∀ i x σ H,xs[i]? = some x->Pv i σ H->g x σ H λσ4 H4=>te σ4 H4 λy H5=>E3 D xs.length Pv i σ4 y H5) (hd:∀ σ H,Pv xs.length σ H->Q (.ref D) H):au2 (Itt K a) D σ0 H0 g te Q:=bh9 Pv h0 hl hs hd
theorem bh5 {lo:Int} {n:Nat} (Pv:Nat->St->Hp->Prop) (h0:Pv 0 σ0 H0)
  (hs:∀ i σ H,i<n->Pv i σ H->g (.int (lo+i)) σ H λσ4 H4=>te σ4 H4 λy H5=>E3 D n Pv i σ4 y H5) (hd:∀ σ H,Pv n σ H->Q (.ref D) H):au2 (Itr lo n) D σ0 H0 g te Q:=aP1 Pv h0 hs hd
end
theorem G2 {cells:List (Str × Addr)}:∀ (x:Str) (c:Addr),([]:List (Str × Addr)).lookup x=some c->cells.lookup x=some c:=λx c h=>by cases h
theorem B9 {cells cl:List (Str × Addr)} {k:Str} {a:Addr} (h:cells.lookup k=some a) (r:∀ (x:Str) (c:Addr),cl.lookup x=some c->cells.lookup x=some c):∀ (x:Str) (c:Addr),((k,a) :: cl).lookup x=some c->cells.lookup x=some c:=λx c e=>by
 rw [m0z] at e
 split at e
 ·rename_i q
  have:=eq_of_beq q;subst this
  cases e
  exact h
 ·exact r x c e
end L2
namespace R
open PySem L2 PyProof.Rows
theorem p9.over {u:Addr} {H H1:Hp} {l:Addr} (s:p9 u H H1) (hl:H l=none) (o:HO):p9 u H (L2.upd H1 l o):=λb x h n=>by
 rw [i9 (i6 h hl)];exact s b x h n
theorem p9.free {u:Addr} {H H':Hp} {l:Addr} (s:p9 u H H') (hu:p8 H' u) (h:H' l=none):H l=none:=by
 cases e:H l with
 | none=>rfl
 | some o =>
  by_cases q:l=u
  ·subst q
   obtain ⟨_,_,_,z,_⟩:=hu;rw [z] at h;cases h
  ·rw [s l o e q] at h;cases h
theorem p8.other {H:Hp} {u l:Addr} {o:HO} (h:p8 H u) (ne:l ≠ u):p8 (upd H l o) u:=by
 obtain ⟨g,m,p,e,r⟩:=h;exact ⟨g,m,p,by rw [i9 ne.symm];exact e,r⟩
theorem aI7 {H:Hp} {p l:Addr} {o:HO} (h:upd H p o l=none):H l=none:=by
 by_cases q:l=p
 ·subst q;rw [b6] at h;cases h
 ·rw [i9 q] at h;exact h
theorem bv7 {H:Hp} {p l:Addr} {o:HO} (h:upd H p o l=none):l ≠ p:=λq=>by
 subst q;rw [b6] at h;cases h
end R
set_option maxRecDepth 100000
namespace L2
open PySem PySem.Spec PyProof.Rows
def Itz (K:PySem.W.Frag) (a b:Addr):It :=
  ⟨λi H => ∃ xs ys x y,SqL K H a xs/\SqL K H b ys/\xs[i]? = some x/\ys[i]? = some y,
   λi H v H' => ∀ xs ys,SqL K H a xs->SqL K H b ys->∃ x y p,xs[i]? = some x/\ys[i]? = some y/\H p=none/\v=.ref p/\H'=upd H p (.tup [x,y]),
   λi H => ∃ xs ys,SqL K H a xs/\SqL K H b ys/\(xs.length<=i \/ ys.length<=i)⟩
theorem aZ4 {P:Program} {w:World} {K:q0a} {elts:List Expr} {k:Nat} {tpos:Pos} (a b z TI TO i1 i2:Addr) (D:ZipApart z TI TO i1 i2 a b) :
  aG1 P w K (.Tuple elts k tpos) (Itz K a b) [z,TI,TO,i1,i2] z (λi h=>IsZip h z TI TO .none/\IsPair h TI (.ref i1) (.ref i2)/\(∃ a b,IsPair h TO a b)/\h.IsListIter i1 a i/\h.IsListIter i2 b i) where
 mem:=by simp
 obj:=λi h st c hc=>by
  obtain ⟨hz,hTI,⟨p,q,hTO⟩,h1,h2⟩:=st;rcases (by simpa using hc:c=z \/ c=TI \/ c=TO \/ c=i1 \/ c=i2) with e | e | e | e | e <;> subst e
  ·exact ⟨_,hz,λv z=>by cases z⟩
  ·exact ⟨_,hTI,λv z=>by cases z⟩
  ·exact ⟨_,hTO,λv z=>by cases z⟩
  ·obtain ⟨o,e,c,d⟩:=h1
   exact ⟨o,e,λv z=>by rw [d] at z;cases z⟩
  ·obtain ⟨o,e,c,d⟩:=h2
   exact ⟨o,e,λv z=>by rw [d] at z;cases z⟩
 keep:=λi h h' st k=>by
  obtain ⟨hz,hTI,⟨p,q,hTO⟩,h1,h2⟩:=st;exact ⟨k z (by simp) _ hz,k TI (by simp) _ hTI,⟨p,q,k TO (by simp) _ hTO⟩,h1.at λo e=>k i1 (by simp) o e,h2.at λo e=>k i2 (by simp) o e⟩
 item:=by
  intro X hP hw hK hc i pins s σ H E I hf st hg;subst hP hw hK;obtain ⟨xs,ys,x,y,hq,hq',hx,hy⟩:=hg;obtain ⟨its,rv,p,hlz⟩:=I.list hq;obtain ⟨its',rv',p',hlz'⟩:=I.list hq';obtain ⟨u,hu,ru⟩:=rv.get hx;obtain ⟨u',hu',ru'⟩:=rv'.get hy;obtain ⟨hz,hTI,⟨pa,pb,hTO⟩,h1,h2⟩:=st;have zlt:z<s.heap.objs.size:=q0f hz;refine wpAny_pyNext_zip_item D hz hTI hTO h1 h2 p.isList p'.isList (x:=u) (y:=u') (by simpa using hu) (by simpa using hu') λh' a1 a2 a3 a4 a5 a6 kk=>?_
  refine ⟨_,rfl,?_⟩;refine wpAny_letOwnedTupleGo_zip (s:={ s with heap:=h' }) a1 λh'' hz'' sb=>?_;have up:∀ c o,c ≠ z->h'.get? c=some o->h''.get? c=some o:=λc o n q=>(sb.2 c n).trans q;have hT':h''.get? s.heap.objs.size=some { cls:=.type "tuple",data:=.seq #[u,u'] }:=up _ _ (z1f zlt) a5
  refine ⟨.ref s.heap.objs.size,upd H s.heap.objs.size (.tup [x,y]),I.turnLaid (fp:=[z,TI,TO,i1,i2]) (t':=s.toks) hf (λc v hb q=>?_) (q0j _) ?_,rfl,?_,?_,λc hb=>?_⟩
  ·have n1:c ≠ z:=λe=>hb (by simp [e])
   have n2:c ≠ TO:=λe=>hb (by simp [e])
   have n3:c ≠ i1:=λe=>hb (by simp [e])
   have n4:c ≠ i2:=λe=>hb (by simp [e])
   exact up c v n1 (kk c v n1 n2 n3 n4 q)
  ·exact ⟨(show 2<=sizeLine by decide +kernel),[u,u'],.cons ru (.cons ru' .nil),_,hT',rfl,_,rfl⟩
  ·intro vs ws hv hw
   rw [I.list_inj hv hq,I.list_inj hw hq'];exact ⟨x,y,_,hx,hy,I.fresh,rfl,rfl⟩
  ·refine ⟨hz'',up _ _ D.TIz (kk _ _ D.TIz D.TITO D.TIi1 D.TIi2 hTI),⟨u,u',up _ _ D.TOz a2⟩,a3.at λo q=>up _ o D.i1z q,a4.at λo q=>up _ o D.i2z q⟩
  ·have hlt:c<s.heap.objs.size:=by
    have l1:i1<s.heap.objs.size:=by obtain ⟨_,e,_⟩:=h1;exact q0f e
    have l2:i2<s.heap.objs.size:=by obtain ⟨_,e,_⟩:=h2;exact q0f e
    rcases (by simpa using hb:c=z \/ c=TI \/ c=TO \/ c=i1 \/ c=i2) with e | e | e | e | e <;> rw [e]
    ·exact zlt
    ·exact q0f hTI
    ·exact q0f hTO
    ·exact l1
    ·exact l2
   rw [i9 (z0c hlt)];exact (hf c hb).1
 done:=by
  intro X hP hw hK hc i pins s σ H E I hf st hg;subst hP hw hK;obtain ⟨xs,ys,hq,hq',hend⟩:=hg;obtain ⟨its,rv,p,hlz⟩:=I.list hq;obtain ⟨its',rv',p',hlz'⟩:=I.list hq';obtain ⟨hz,hTI,⟨pa,pb,hTO⟩,h1,h2⟩:=st;have l1:=rv.length;have l2:=rv'.length;refine wpAny_pyNext_zip_end (I.ok.hd hc) D hz hTI hTO h1 h2 p.isList p'.isList ?_ λh' kk=>⟨rfl,?_⟩
  ·rcases hend with e | e
   ·exact .inl (by simp;omega)
   ·exact .inr (by simp;omega)
  ·have nf:∀ b u,H b=some u->b ∉ [z,TI,TO,i1,i2]:=λb u e q=>by rw [(hf b q).1] at e;cases e
   have k:∀ b u,b ∉ [z,TI,TO,i1,i2]->s.heap.get? b=some u->h'.get? b=some u:=λc o hb q=>kk c o (λe=>hb (by simp [e])) (λe=>hb (by simp [e])) (λe=>hb (by simp [e])) (λe=>hb (by simp [e])) q
   refine I.step (t':=s.toks) (g':=s.gens) (d':=s.drawn) (ch:=[z,TI,TO,i1,i2]) (λb hb=>?_) (λb o _ _ hc e _=>k b o hc e) (λb o _ _ hc e _=>⟨o.slots,k b o hc e⟩) (λb o _ e n=>n)
    (λb o hc e=>⟨o,k b o hc e⟩) (λb xs e=>e) (λb o u e=>e) (λb ps e=>⟨#[],by rw [e];simp⟩) (λm hm=>?_) (λb u e=>?_) I.bare
   ·obtain ⟨_,f1,_,f3,f4,f5⟩:=hf b hb
    exact ⟨f3,f1,f4,f5⟩
   ·obtain ⟨o,es,ep,ho,r⟩:=hm
    exact ⟨o,es,ep,k _ o (λq=>(hf _ q).2.1 rfl) ho,r⟩
   ·refine (I.hok b u e).stay (λc v hc q=>k c v ?_ q) (λc q=>q) λc xs q=>q
    rcases hc with q | q
    ·rw [q];exact nf b u e
    ·exact nf c _ q
 self:=λ_ _ _ _ _ st h=>wpAny_pyIter_zip st.1 h
section
variable {X:Cx}
def bw9 (K:q0a) (ta:TA):TI:=λσ H R=>ta σ H λvs H1 => ∃ a b,vs=[.ref a,.ref b]/\(∃ xs,SqL K H1 a xs)/\(∃ ys,SqL K H1 b ys)/\R (Itz K a b) H1
theorem bc5 {elts:List Expr} {k:Nat} {tpos:Pos} {l l':Expr} {ta:TA} {p pos:Pos} (hg:Gl X "zip") (hm:X.mg "zip" = none) (ha:PA X [l,l'] ta) (hs:starEach [l,l'] X.env=[(false,eval l X.env),(false,eval l' X.env)]:=by rfl) (hs2:starEach [l'] X.env=[(false,eval l' X.env)]:=by rfl) :
  PI X (.Tuple elts k tpos) (.Call (.Name "zip" p) [l,l'] [] pos) (bw9 X.K ta):=by
 intro pins s σ H R I h;refine Call_ (U2 I hg hm (u:=.type "zip") (by decide +kernel) (PyProof.Rows.callWith_type1 (thn (ha pos pins s σ H _ I h) λus s1 ⟨vs,H1,I1,r1,q1⟩=>?_) (by rw [hs,hs2]) (by rw [hs2];rfl)))
 obtain ⟨a,b,e,⟨xs,hq⟩,⟨ys,hq'⟩,q⟩:=q1;subst e;obtain ⟨u,u',rfl,rx,rx'⟩:=j8.two r1
 cases rx
 cases rx'
 obtain ⟨its,rv,p,hz⟩:=I1.list hq;obtain ⟨its',rv',p',hz'⟩:=I1.list hq';have a1:a<s1.heap.objs.size:=by obtain ⟨_,e,_⟩:=p.isList;exact q0f e
 have a2:b<s1.heap.objs.size:=by obtain ⟨_,e,_⟩:=p'.isList;exact q0f e
 refine call_zip_2 p.isList p'.isList λh' hz hTI hTO hi1 hi2 hsz kk=>?_;refine wpAny_pyIter_zip hz ?_;have I2:Inv X pins σ H1 { s1 with heap:=h' }:=I1.kept (t':=s1.toks) kk;refine ⟨_,_,_,_,H1,rfl,I2,aZ4 a b _ _ _ _ _ (zipApart_new a1 a2),⟨hz,hTI,⟨_,_,hTO⟩,hi1,hi2⟩,λc hb=>?_,q⟩
 have hb':s1.heap.objs.size<=c:=by
  rcases (by simpa using hb:c=s1.heap.objs.size+4 \/ c=s1.heap.objs.size+2 \/ c=s1.heap.objs.size+3 \/ c=s1.heap.objs.size \/ c=s1.heap.objs.size+1) with e | e | e | e | e <;> rw [e]
  ·exact u0z _ _
  ·exact u0z _ _
  ·exact u0z _ _
  ·exact q0j _
  ·exact u0z _ _
 obtain ⟨f0,f1,f2,f3,f4,f5⟩:=I1.fpOk (H':=H1) hb' (I1.hok.fresh hb');exact ⟨f0,f1,f2,f3,f4,f5⟩
end
section
variable {prog:Program} {w:World} {A:Around} {E:Value->Shared->Prop} {s:Shared}
theorem aF2 {id:String} {b:Builtin} {args:List Value} {kw:List (Str × Value)} {Q:Value->Shared->Prop} (hk:builtinKind id=none) (hp:plainId id=true)
  (hb:entryFor table id=some b) (ha:argsOk id ⟨args,kw⟩)
  (hc:wpAny (model prog w) A.in1 (b ⟨args,kw⟩) (λfin s'=>match fin with
   | .done f=>(match (Except.ok f:Result) with | .ok (.ret v)=>Q v s' | .ok _=>False | .error e=>E e s')
   | .again c'=>c'.quiet=true/\codeAny (model prog w) A c' (λr s'=>match r with | .ok (.ret v)=>Q v s' | .ok _=>False | .error e=>E e s') s') E s) :
  wpAny (model prog w) A (call (.builtin id) args kw) Q E s:=by
 refine wpAny_call (codeAny_call_builtin hp hb ?_);simp only [checkBuiltinCall,hk]
 cases hsig:Manifest.signature? id with
 | none=>exact wpAny_pure hc
 | some sig =>
  have ha':Bind.checkArgs id sig ⟨args,kw⟩=pure ():=by simpa only [argsOk,hsig] using ha
  simp only [ha'];exact wpAny_pure hc
variable {R:Result->Shared->Prop} {I:Addr} {fp wr:List Addr} {n:Nat} {P:Nat->Value->Prop} {St:Nat->Heap->Prop}
end
end L2
set_option maxRecDepth 100000
namespace R
open PySem L2 PyProof.Rows
structure BdN (k:Nat) (q:Rat):Prop where
 n:q.num.natAbs<2 ^ k
 d:q.den<2 ^ k
theorem BdN.mono {m n:Nat} {q:Rat} (h:BdN m q) (l:m<=n):BdN n q:=⟨q0b h.n (c6 l),q0b h.d (c6 l)⟩
theorem Sm.bdN {q:Rat} (s:Sm q):BdN 40 q:=⟨q0k s.n (by decide),q0k s.d (by decide)⟩
theorem BdN.mul {m n:Nat} {p q:Rat} (a:BdN m p) (b:BdN n q):BdN (m+n) (p*q):=by
 rw [Z3];have hb:(p.den:Int)*q.den ≠ 0:=q1a (u0v (k9 p) (k9 q));obtain ⟨e1,e2⟩:=C4 (t:=p.num*q.num) hb;rw [z0b] at e1 e2;refine ⟨q0k e1 ?_,q0k e2 ?_⟩
 ·rw [z0u];exact j0b a.n b.n
 ·rw [z0u,q0m,q0m];exact j0b a.d b.d
theorem BdN.add {m n:Nat} {p q:Rat} (a:BdN m p) (b:BdN n q):BdN (m+n+1) (p+q):=by
 rw [ag4];have hb:(p.den:Int)*q.den ≠ 0:=q1a (u0v (k9 p) (k9 q));obtain ⟨e1,e2⟩:=C4 (t:=p.num*q.den+q.num*p.den) hb
 have h1:(p.num*q.den).natAbs<2 ^ (m+n):=by
  rw [z0b,z0u,q0m];exact j0b a.n b.d
 have h2:(q.num*p.den).natAbs<2 ^ (m+n):=by
  rw [z0b,z0u,g0n (2 ^ m),q0m];exact j0b b.n a.d
 rw [z0b] at e2;have e3:=m0q (p.num*q.den) (q.num*p.den);refine ⟨by rw [j0w];omega,q0k e2 ?_⟩
 have:p.den*q.den<2 ^ (m+n):=by rw [z0u];exact j0b a.d b.d
 rw [q0m,q0m,j0w];omega
structure SmW (q:Rat):Prop where
 n:q.num.natAbs<2 ^ 42
 d:q.den<2 ^ 40
def Q3:List Rat->List Rat->List Rat
 | [],q=>q
 | x :: p,[]=>x :: p
 | x :: p,y :: q=>(x+y) :: Q3 p q
theorem aK5 (p:List Rat):Q3 p []=p:=by cases p <;> rfl
theorem aK6:∀ p q:List Rat,(Q3 p q).length=max p.length q.length
 | [],q=>by simp [Q3]
 | x :: p,[]=>by simp [Q3]
 | x :: p,y :: q=>by simp only [Q3,q0x,aK6 p q];omega
theorem aK7:∀ (p q:List Rat) (i:Nat),i<max p.length q.length->(Q3 p q)[i]? = some ((p[i]?).getD 0+(q[i]?).getD 0)
 | [],q,i,h=>by
  have:i<q.length:=by simpa using h
  simp only [Q3,u0s,v0m,q0c this,g0a]
  congr 1;grind
 | x :: p,[],i,h=>by
  have:i<(x :: p).length:=by simpa using h
  simp only [Q3,u0s,v0m,q0c this,g0a]
  congr 1;grind
 | x :: p,y :: q,0,h=>rfl
 | x :: p,y :: q,i+1,h=>by
  simp only [Q3,j0d];exact aK7 p q i (by simp only [q0x] at h;omega)
section
variable {α β:Type}
def U1 [Add α]:List α->Nat->α->List α
 | [],_,_=>[]
 | y :: r,0,x=>(y+x) :: r
 | y :: r,k+1,x=>y :: U1 r k x
theorem az3 [Add α]:∀ (f:List α) (k:Nat) (x:α),(U1 f k x).length=f.length
 | [],_,_=>rfl
 | _ :: _,0,_=>rfl
 | _ :: r,k+1,x=>by simp [U1,az3 r k x]
theorem az1 [Add α]:∀ (f:List α) (k:Nat) (x y:α),f[k]? = some y->f.set k (y+x)=U1 f k x
 | [],_,_,_,h=>by simp at h
 | z :: r,0,x,y,h=>by cases h;rfl
 | z :: r,k+1,x,y,h=>by
  rw [m0h,U1,az1 r k x y (by simpa using h)]
theorem ac3 [Add α]:∀ (f:List α) (k i:Nat) (x:α),i ≠ k->(U1 f k x)[i]? = f[i]?
 | [],_,_,_,_=>rfl
 | _ :: _,0,0,_,h=>absurd rfl h
 | _ :: _,0,i+1,_,_=>rfl
 | _ :: _,k+1,0,_,_=>rfl
 | _ :: r,k+1,i+1,x,h=>by
  simp only [U1,j0d];exact ac3 r k i x ⋯
theorem ag5 [Add α]:∀ (f:List α) (k:Nat) (x y:α),f[k]? = some y->(U1 f k x)[k]? = some (y+x)
 | [],_,_,_,h=>by simp at h
 | z :: r,0,x,y,h=>by cases h;rfl
 | z :: r,k+1,x,y,h=>by simp only [U1,j0d];exact ag5 r k x y (by simpa using h)
def B5 [Add α] [Mul α] (z:α) (f:List α) (i:Nat) (x:α) (q:List α):Nat->List α
 | 0=>f
 | j+1=>U1 (B5 z f i x q j) (i+j) (x*(q[j]?).getD z)
def y3 [Add α] [Mul α] (z:α) (f p q:List α):Nat->List α
 | 0=>f
 | i+1=>B5 z (y3 z f p q i) i ((p[i]?).getD z) q q.length
theorem al8 [Add α] [Mul α] (z:α) (f:List α) (i:Nat) (x:α) (q:List α):∀ j,(B5 z f i x q j).length=f.length
 | 0=>rfl
 | j+1=>by rw [B5,az3,al8 z f i x q j]
theorem ad5 [Add α] [Mul α] (z:α) (f p q:List α):∀ n,(y3 z f p q n).length=f.length
 | 0=>rfl
 | n+1=>by rw [y3,al8,ad5 z f p q n]
theorem ag3 [Add α] [Mul α] (z:α) (f:List α) (i:Nat) (x:α) (q:List α) (k:Nat):∀ j,i+j<=k->(B5 z f i x q j)[k]? = f[k]?
 | 0,_=>rfl
 | j+1,h=>by rw [B5,ac3 _ _ _ _ ⋯,ag3 z f i x q k j ⋯]
theorem ar8 [Add α] [Mul α] (z:α) (f p q:List α) (k:Nat):∀ n,n+q.length<=k+1->(y3 z f p q n)[k]? = f[k]?
 | 0,_=>rfl
 | n+1,h=>by rw [y3,ag3 _ _ _ _ _ _ _ ⋯,ar8 z f p q k n ⋯]
end
def w8 (p q:List Rat):List Rat:=if p=[] \/ q=[] then [] else y3 0 (q0v (p.length+q.length-1) 0) p q p.length
def scl (s:Rat) (ws:List Int):List Rat:=ws.map λw:Int=>s*(w:Rat)
theorem ao9 (s:Rat) (ws:List Int):(scl s ws).length=ws.length:=by simp [scl]
theorem aX1 {p q:List Rat} (hp:p ≠ []) (hq:q ≠ []) {x y:Rat} (hx:p[p.length-1]? = some x) (hy:q[q.length-1]? = some y):(w8 p q)[(w8 p q).length-1]? = some (x*y):=by
 have lp:0<p.length:=y0m.mpr hp;have lq:0<q.length:=y0m.mpr hq;unfold w8;rw [if_neg (by simp [hp,hq]),ad5,y0s]
 obtain ⟨n,hn⟩:∃ n,p.length=n+1:=⟨p.length-1,⋯⟩;obtain ⟨m,hm⟩:∃ m,q.length=m+1:=⟨q.length-1,⋯⟩
 have hx':(p[n]?).getD 0=x:=by
  have:p[n]? = some x:=by rw [hn] at hx;simpa using hx
  rw [this];rfl
 have hy':(q[m]?).getD 0=y:=by
  have:q[m]? = some y:=by rw [hm] at hy;simpa using hy
  rw [this];rfl
 have key:∀ F:List Rat,y3 0 F p q (n+1)=U1 (B5 0 (y3 0 F p q n) n x q m) (n+m) (x*y):=λF=>by
  rw [y3,hm,B5,hx',hy']
 rw [hn,hm,key];have e:n+1+(m+1)-1-1=n+m:=⋯;rw [e]
 have h0:(B5 (0:Rat) (y3 0 (q0v (n+1+(m+1)-1) 0) p q n) n x q m)[n+m]? = some 0:=by
  rw [ag3 _ _ _ _ _ _ _ ⋯,ar8 _ _ _ _ _ _ (by rw [hm];omega),y0w,if_pos ⋯]
 rw [ag5 _ _ _ _ h0]
 congr 1;grind
theorem U7 {p q:List Rat} (hp:p ≠ []) (hq:q ≠ []):(w8 p q).length=p.length+q.length-1:=by
 unfold w8;rw [if_neg (by simp [hp,hq]),ad5,y0s]
def j4 (qs:List Rat):Nat:=qs.foldl (λb q=>g0e b q.den) 1
theorem aX5 (qs:List Rat) (q:Rat):j4 (qs ++ [q])=g0e (j4 qs) q.den:=by simp [j4]
theorem an5:∀ (qs:List Rat) (b m:Nat),b ∣ m->(∀ q ∈ qs,q.den ∣ m)->qs.foldl (λb q=>g0e b q.den) b ∣ m
 | [],_,_,h,_=>h
 | q :: qs,b,m,h,k=>an5 qs _ m (Nat.lcm_dvd h (k q z0s)) λr hr=>k r (z0h _ hr)
theorem as3 {qs:List Rat} {m:Nat} (h:∀ q ∈ qs,q.den ∣ m):j4 qs ∣ m:=an5 qs 1 m (Nat.one_dvd _) h
theorem ak0:∀ (qs:List Rat) (b:Nat),b ∣ qs.foldl (λb q=>g0e b q.den) b
 | [],_=>Nat.dvd_refl _
 | q :: qs,b=>z1b (Nat.dvd_lcm_left _ _) (ak0 qs _)
theorem an4:∀ (qs:List Rat) (b:Nat) (q:Rat),q ∈ qs->q.den ∣ qs.foldl (λb q=>g0e b q.den) b
 | r :: qs,b,q,h=>by
  rcases z0z.mp h with e | e
  ·subst e;exact z1b (Nat.dvd_lcm_right _ _) (ak0 qs _)
  ·exact an4 qs _ q e
theorem J1 {qs:List Rat} {q:Rat} (h:q ∈ qs):q.den ∣ j4 qs:=an4 qs 1 q h
def x9 (ws:List Int):Nat:=ws.foldl (λc w=>q0q w c) 0
theorem aX8 (ws:List Int) (w:Int):x9 (ws ++ [w])=q0q w (x9 ws):=by simp [x9]
theorem an7:∀ (ws:List Int) (c:Nat),(ws.foldl (λc w=>q0q w c) c ∣ c)/\∀ w ∈ ws,((ws.foldl (λc w=>q0q w c) c:Nat):Int) ∣ w
 | [],c=>⟨Nat.dvd_refl _,by simp⟩
 | w :: ws,c=>by
  obtain ⟨h1,h2⟩:=an7 ws (q0q w c);have a1:q0q w c ∣ c:=by have:=j0v w (c:Int);exact j0h.mp this
  refine ⟨z1b h1 a1,λv hv=>?_⟩;rcases z0z.mp hv with e | e
  ·subst e
   exact v0e (j0h.mpr h1) (y0b v (c:Int))
  ·exact h2 v e
theorem P8 {ws:List Int} {w:Int} (h:w ∈ ws):((x9 ws:Nat):Int) ∣ w:=(an7 ws 0).2 w h
theorem an6:∀ (ws:List Int),ws.foldl (λc w=>q0q w c) 1=1
 | []=>rfl
 | w :: ws=>by
  rw [List.foldl_cons];have:q0q w ((1:Nat):Int)=1:=by simp
  rw [this,an6 ws]
theorem bf9 {ws:List Int} (i:Nat) (h:x9 (ws.take i)=1):x9 ws=1:=by
 have e:ws=ws.take i ++ ws.drop i:=(v0b i ws).symm;rw [e];unfold x9 at h ⊢;rw [List.foldl_append,h,an6]
def j1 (B:Nat) (qs:List Rat):List Int:=qs.map λq=>q.num*(B:Int).fdiv (q.den:Int)
theorem aq1 {B:Nat} {q:Rat} (hB:0<B) (h:q.den ∣ B):q=q0e (q.num*(B:Int).fdiv (q.den:Int)) B:=by
 obtain ⟨e,he⟩:=h;have hd:(q.den:Int) ≠ 0:=by have:=q.den_nz;omega
 have e1:(B:Int).fdiv (q.den:Int)=(e:Int):=by
  rw [he,z0x];exact i8 hd
 rw [e1]
 conv=>lhs;rw [<- z0y q]
 rw [z0w hd ⋯,he,z0x]
 grind
end R
namespace L2
open PySem PySem.Spec PyProof.Rows
section
variable {K:q0a} {a b D:Addr} {xs ys:List V} {g:TG} {te:TE} {σ0:St} {H0:Hp} {Q:VK}
theorem bh4 (xs ys:List V) (Pv:Nat->St->Hp->Prop) (h0:Pv 0 σ0 H0) (hl:∀ i σ H,Pv i σ H->SqL K H a xs/\SqL K H b ys)
  (hs:∀ i x y σ H p,xs[i]? = some x->ys[i]? = some y->Pv i σ H->H p=none->g (.ref p) σ (upd H p (.tup [x,y])) λσ4 H4=>te σ4 H4 λv H5=>E3 D (min xs.length ys.length) Pv i σ4 v H5)
  (hd:∀ σ H,Pv (min xs.length ys.length) σ H->Q (.ref D) H):au2 (Itz K a b) D σ0 H0 g te Q:=by
 refine ⟨λi m σ H=>m=min xs.length ys.length-i/\i<=min xs.length ys.length/\Pv i σ H,⟨_,rfl,j0k _,h0⟩,?_⟩;rintro i m σ H ⟨rfl,hi,p⟩;obtain ⟨q,q'⟩:=hl i σ H p
 by_cases hlt:i<min xs.length ys.length
 ·have h1:i<xs.length:=⋯
  have h2:i<ys.length:=⋯;refine .inr ⟨⟨xs,ys,xs[i],ys[i],q,q',q0c h1,q0c h2⟩,?_⟩;intro v H3 hy;obtain ⟨x,y,r,e1,e2,hr,rfl,rfl⟩:=hy xs ys q q';exact hs i x y σ _ r e1 e2 p hr
 ·have e:i=min xs.length ys.length:=⋯
  subst e;exact .inl ⟨⟨xs,ys,q,q',⋯⟩,hd σ H p⟩
theorem bo3 (xs:List V) (Pv:Nat->St->Hp->Prop) (h0:Pv 0 σ0 H0) (hl:∀ i σ H,Pv i σ H->SqL K H a xs)
  (hs:∀ i x σ H p,xs[i]? = some x->Pv i σ H->H p=none->g (.ref p) σ (upd H p (.tup [.int i,x])) λσ4 H4=>te σ4 H4 λv H5=>E3 D xs.length Pv i σ4 v H5)
  (hd:∀ σ H,Pv xs.length σ H->Q (.ref D) H):au2 (Ite K a) D σ0 H0 g te Q:=by
 refine ⟨λi m σ H=>m=xs.length-i/\i<=xs.length/\Pv i σ H,⟨_,rfl,j0k _,h0⟩,?_⟩;rintro i m σ H ⟨rfl,hi,p⟩;have q:=hl i σ H p
 by_cases hlt:i<xs.length
 ·refine .inr ⟨⟨xs,xs[i],q,q0c hlt⟩,?_⟩
  intro x H3 hy;obtain ⟨y,r,hy1,hr,rfl,rfl⟩:=hy xs q;exact hs i y σ _ r hy1 p hr
 ·have e:i=xs.length:=⋯
  subst e;exact .inl ⟨⟨xs,q,q0j _⟩,hd σ H p⟩
theorem aJ6 {tb:TS} {E:aa0} {σ:St} {H:Hp} (xs:List V) (Pv:Nat->St->Hp->Prop) (h0:Pv 0 σ H) (hl:∀ i σ H,Pv i σ H->SqL K H a xs)
  (hs:∀ i x σ H p,xs[i]? = some x->Pv i σ H->H p=none->g (.ref p) σ (upd H p (.tup [.int i,x])) λσ2 H2=>tb { E with nx:=Pv (i+1),ct:=Pv (i+1),bk:=E.nx } σ2 H2) (hd:∀ σ H,Pv xs.length σ H->E.nx σ H) :
  ∃ W:Nat->Nat->St->Hp->Prop,(∃ m,W 0 m σ H)/\∀ i m σ H,W i m σ H ->
   ((Ite K a).stop i H/\E.nx σ H) \/ ((Ite K a).go i H/\∃ N:St->Hp->Prop,(∀ σ' H',N σ' H'->∃ m',m'<m/\W (i+1) m' σ' H')/\∀ x H',(Ite K a).yld i H x H'->g x σ H' λσ2 H2=>tb { E with nx:=N,ct:=N,bk:=E.nx } σ2 H2):=by
 refine ⟨λi m σ H=>m=xs.length-i/\i<=xs.length/\Pv i σ H,⟨_,rfl,j0k _,h0⟩,?_⟩;rintro i m σ H ⟨rfl,hi,p⟩;have q:=hl i σ H p
 by_cases hlt:i<xs.length
 ·refine .inr ⟨⟨xs,xs[i],q,q0c hlt⟩,Pv (i+1),λσ' H' n=>⟨_,⋯,rfl,hlt,n⟩,?_⟩
  intro x H3 hy;obtain ⟨y,r,hy1,hr,rfl,rfl⟩:=hy xs q;exact hs i y σ _ r hy1 p hr
 ·have e:i=xs.length:=⋯
  subst e;exact .inl ⟨⟨xs,q,q0j _⟩,hd σ H p⟩
end
section
variable {X:Cx}
theorem bf8:bD0 X (aM2 X.K):=by
 intro pins s σ H x y v u Q I rx ry h;obtain ⟨p,xs,i,z,rfl,rfl,hq,he,q⟩:=h
 cases rx
 obtain ⟨t,rfl⟩:=ry;obtain ⟨its,r,pl,hz⟩:=I.list hq;obtain ⟨j,h1,h2,h3,h4,h5⟩:=aF5 he;obtain ⟨w,ew,rw'⟩:=r.get h2;have hl:=r.length;have hn:=ag2;have fin:EP X pins σ Q w s:=⟨z,H,I,rw',q⟩
 by_cases h0:0<=i
 ·have hj:i.toNat=j:=by
   rw [seqIndex_of h0 h5] at h1;exact Option.some.inj h1
  exact wpAny_getItem_list pl.isList h0 ⋯ (by rw [hj];simpa using ew) fin
 ·have hj:(i+(its.toArray.size:Int)).toNat=j:=by
   rw [seqIndex_neg ⋯ h4] at h1;rw [q0g,<- hl];exact Option.some.inj h1
  exact wpAny_getItem_list_neg pl.isList ⋯ (by rw [q0g] <;> omega) ⋯ (by rw [hj];simpa using ew) fin
theorem aX0 {h:Heap} {a:Addr} {m:Str->Option Value} {o:Obj} (n:h.Ns a m) (e:h.get? a=some o) (v:Option Value) (z:o.data=.cell v):False:=by
 obtain ⟨o',es,ep,e',r⟩:=n;rw [e] at e'
 cases e'
 have d:=r.1;rw [d] at z;cases z
theorem K2 {elt tg iter:Expr} {scope:Scope} {pos spos py:Pos} {y:Str} {i₀:Nat} {cl:List (Str × Addr)} {Nc:List Str} {caps:List (Option Nat)} {wi:TI} {g:TG} {te:TE} (hN:X.N.Nodup) (hi₀:X.N[i₀]? = some y) (hx:Loc X.env.scope y) (hc:X.calm=true) (cp:ag7 X scope cl Nc caps) (hi:PI X tg iter wi)
  (hg:∀ C s₂ H₂ fp pins,PG (X.block scope cl C Nc s₂ H₂ fp pins) tg g) (he:∀ C s₂ H₂ fp pins,PE (X.block scope cl C Nc s₂ H₂ fp pins) elt te) (hs:∀ x,foldedSetIterable iter X.env x=pure x:=by intro _;rfl) (hsw:swapsWith (.ListComp elt [⟨tg,iter,[],0⟩] scope pos) (some (.Name y py)) spos.line X.env=pure true:=by rfl)
  (hf:X.fn y=true \/ X.env.scope.names.lookup y=some .local:=by first | exact .inl rfl | exact .inr rfl | assumption) :
  PS X (.Assign [.Name y py] (.ListComp elt [⟨tg,iter,[],0⟩] scope pos) spos) (ba6 (ba4 wi caps g te) (t6 i₀)):=by
 intro pins s σ H DD I h;rw [exec_Assign_Name_used _ _ _ _ hsw];refine wpAny_bind (wpAny_standAt (wpAny_bind ?_))
 show wpAny _ X.A (do let _ <- comprehension (.ListComp elt [⟨tg,iter,[],0⟩] scope pos) scope X.env _ (newList []) false (eval iter X.env) (some (assign (.Name y py) X.env))) _ _ s
 refine wpAny_bind (wpAny_mono (wpAny_comprehension_free (use:=some (assign (.Name y py) X.env)) (Q:=λ_ s'=>SP X pins DD .next s') rfl hs cp.clos cp.kind cp.names ?_) (λ_ s' hq=>wpAny_pure (wpAny_pure hq)) λ_ _ e=>e);refine thn (hi pins s σ H _ I h) λv s1 h1=>thn h1 λitv s2 h2=>?_;obtain ⟨it,fp,tn,J,H2,e,I2,T,st2,f2,hW⟩:=h2;subst e;refine wpAny_newObj_type ?_ (by show 0<=sizeLine;exact j0k _)
 refine wpAny_newFunctionEnv cp.nocell (by intro y hy;simp at hy) (λh4 hns hsb=>?_) cp.kind
 dsimp only at hns hsb ⊢
 generalize hH3:s2.heap.push { cls:=.type "list",dict:=none,data:=.seq ([]:List Value).toArray }=H3 at hns hsb ⊢
 have hCe:H3.objs.size=s2.heap.objs.size+1:=by rw [<- hH3,m0a]
 have ak4:∀ b o,s2.heap.get? b=some o->b ≠ H3.objs.size:=λb o e=>by rw [hCe];exact z0c (Nat.lt_succ_of_lt (q0f e))
 have old:∀ b o,s2.heap.get? b=some o->h4.get? b=some o:=λb o e=>hsb.extBut b o (ak4 b o e) (q0h _ (hH3 ▸ q0h _ e))
 have hD:h4.get? s2.heap.objs.size=some { cls:=.type "list",dict:=none,data:=.seq ([]:List Value).toArray } :=
  hsb.extBut _ _ (by rw [hCe];exact z0c (u0y _)) (q0h _ (hH3 ▸ z0j _ rfl))
 have hDn:H2 s2.heap.objs.size=none:=I2.fresh;have hCn:H2 H3.objs.size=none:=I2.hok.fresh (by rw [hCe];exact u0c _)
 have hCs:s2.heap.objs.size<=H3.objs.size:=by rw [hCe];exact u0c _
 have hDC:s2.heap.objs.size ≠ H3.objs.size:=by rw [hCe];exact z0c (u0y _)
 have fpl:∀ b ∈ fp,∃ o,s2.heap.get? b=some o:=λb hb=>let ⟨o,e,_⟩:=T.obj _ _ st2 b hb;⟨o,e⟩;have fpC:∀ b ∈ fp,b ≠ H3.objs.size:=λb hb=>let ⟨o,e⟩:=fpl b hb;ak4 b o e;have fpD:∀ b ∈ fp,b ≠ s2.heap.objs.size:=λb hb=>let ⟨o,e⟩:=fpl b hb;z0c (q0f e);have stkN:∀ b,b ≠ X.env.locals->b ∉ X.fs->b ∉ frs X.stack:=λb h1 h2 z=>(z0z.mp (I2.stkSub b z)).elim h1 h2;obtain ⟨W,⟨m0,w0⟩,turn⟩:=hW s2.heap.objs.size hDn
 have okB:(X.block scope cl H3.objs.size Nc s2 H2 fp pins).Ok:=by
  refine ⟨I2.ok.mod,?_,I2.ok.glob,I2.ok.blt,hCs,λx y c h1 h2=>I2.ok.inj x y c (cp.sub x c h1) (cp.sub y c h2),λx hx=>cp.has x hx,λx c h=>(by cases h),I2.ok.hd,I2.ok.frames,.inl rfl,λb hb=>⟨fpC b hb,λx c h=>(f2 b hb).2.2.2.2.1 x c (cp.sub x c h)⟩,I2.bs,z0p I2.ok.bsz I2.sz,λb o e hb=>?_,λb hb=>stkN b (f2 b hb).2.1 (f2 b hb).2.2.1,I2.stack,I2.stkFree⟩
  ·exact cp.kind
  ·rcases (f2 b hb).2.2.2.1 with z | z
   ·exact I2.ok.noex b o e z
   ·exact absurd (q0b (q0f e) (z0p I2.ok.bsz z)) (y0v _)
 have hokB:HOk X.prog X.w (upd H2 s2.heap.objs.size (.lst [])) h4:=I2.hok.laid old (q0j _) ⟨j0k _,[],_,.nil,hD⟩
 have IB:Inv (X.block scope cl H3.objs.size Nc s2 H2 fp pins) [] (U0 caps σ) (upd H2 s2.heap.objs.size (.lst [])) { s2 with heap:=h4,toks:=s2.toks+([]:List (Str × Value)).length }:=by
  refine ⟨okB,rfl,I2.bare,Un.laid old (q0j _) hDn,⟨_,hns,λi x v e1 e2 e3=>?_⟩,λx c e=>?_,(show upd H2 s2.heap.objs.size (.lst []) H3.objs.size=none by rw [i9 (Ne.symm hDC)];exact hCn),λx c e=>?_,λp hp=>?_,hokB,?_⟩
  ·unfold U0 at e2
   rw [z0k] at e2
   cases hcap:caps[i]? with
   | none=>rw [hcap] at e2;cases e2
   | some o =>
    rw [hcap] at e2
    cases o with
    | none=>cases e2
    | some j =>
     have hj:σ[j]? = some (some v):=by
      have e2':(σ[j]?).join=some v:=Option.some.inj e2
      cases q:σ[j]? with
      | none=>rw [q] at e2';cases e2'
      | some z=>rw [q] at e2';exact congrArg some e2'
     obtain ⟨n1,n2,n3,n4⟩:=cp.cap i j x hcap e1;obtain ⟨m,hm,hl⟩:=I2.loc;obtain ⟨u,r,q⟩:=hl j x v n1 hj n2;rcases q with ⟨k,_⟩ | ⟨k,c,ec,z⟩
     ·exact absurd k n3
     ·obtain ⟨c',ec'⟩:=cp.has x n4
      have:=cp.sub x c' ec';rw [ec] at this;cases this;obtain ⟨oc,ho,hd⟩:=z;exact ⟨u,r,.inr ⟨n4,c,ec',oc,old _ _ ho,hd⟩⟩
  ·obtain ⟨v,oc,ho,hd⟩:=I2.cell x c (cp.sub x c e)
   exact ⟨v,oc,old _ _ ho,hd⟩
  ·obtain ⟨v,oc,ho,hd⟩:=I2.cell x c (cp.sub x c e)
   rw [i9 (z0c (q0f ho))];exact I2.freeC x c (cp.sub x c e)
  ·have hp':p ∈ X.pn ++ pins:=by simpa using hp
   obtain ⟨e1,e2,e3,e4,e5⟩:=I2.pin p hp';exact ⟨old _ _ e1,by rw [i9 (z0c (q0f e1))];exact e2,ak4 _ _ e1,stkN _ e3 e4,e5⟩
  ·show (U0 caps σ).length=Nc.length
   unfold U0;rw [z0g];exact cp.len
 have stat:∀ {H':Hp},(∀ b ∈ fp,H' b=none)->∀ b ∈ fp,ao6 (X.block scope cl H3.objs.size Nc s2 H2 fp pins) [] H' b:=λhn b hb =>
  ⟨hn b hb,fpC b hb,stkN b (f2 b hb).2.1 (f2 b hb).2.2.1,.inl hb,λx c h=>(f2 b hb).2.2.2.2.1 x c (cp.sub x c h),λp hp=>(f2 b hb).2.2.2.2.2 p (by simpa using hp)⟩
 have loop:∀ s5:Shared,s5={ s2 with heap:=h4,toks:=s2.toks+([]:List (Str × Value)).length } ->
   codeAny (model X.prog X.w) X.A (.compLoop (.ListComp elt [⟨tg,iter,[],0⟩] scope pos) 0 (.ref it) (.ref s2.heap.objs.size) (compEnvC scope cl H3.objs.size X.env))
    (compPost (model X.prog X.w) X.A X.xe (some (assign (.Name y py) X.env)) (λ_ s'=>SP X pins DD .next s') (.ref s2.heap.objs.size) H3.objs.size) s5:=by
  rintro s5 rfl;refine ay1 (λn s' => ∃ i σ' H',Inv (X.block scope cl H3.objs.size Nc s2 H2 fp pins) [] σ' H' s'/\tn i s'.heap/\(∀ b ∈ fp,H' b=none)/\W i n σ' H') ?_ m0 ⟨0,_,_,IB,T.keep _ _ _ st2 λb hb o e=>old b o e,λb hb=>by rw [i9 (fpD b hb)];exact (f2 b hb).1,w0⟩
  rintro n s6 ⟨i,σ6,H6,I6,st6,fr6,w6⟩;rcases turn i n σ6 H6 w6 with ⟨stop,qn⟩ | ⟨go,step⟩
  ·refine thn (T.done (X.block scope cl H3.objs.size Nc s2 H2 fp pins) rfl rfl rfl hc i [] s6 σ6 H6 _ I6 (stat fr6) st6 stop) λr s7 zq=>?_
   obtain ⟨hr,I7⟩:=zq;subst hr;obtain ⟨m7,hn7,_⟩:=id I7.loc;have Io:Inv X pins σ H6 s7:=I2.sameC (h'':=s7.heap) f2 I7.os I7.bare I7.base I7.hok hCs I7.free ⟨rfl,λ_ _=>rfl⟩;have fC:ao6 X pins H6 H3.objs.size:=I2.fpOk hCs I7.free;have fC':∀ b ∈ [H3.objs.size],ao6 X pins H6 b:=λb hb=>by rw [j0q.mp hb];exact fC
   obtain ⟨oC,esC,epC,hoC,restC⟩:=id hn7
   have obC:∀ b ∈ [H3.objs.size],∃ o,s7.heap.get? b=some o/\∀ v,o.data ≠ .cell v:=λb hb=>by
    rw [j0q.mp hb];exact ⟨oC,hoC,λv z=>aX0 hn7 hoC v z⟩
   have Ip:=Io.pinned fC' obC
   show wpAny (model X.prog X.w) X.A (assign (.Name y py) X.env (.ref s2.heap.objs.size)) _ _ s7;refine thn (d9 (pos:=py) hN hi₀ hx hf _ s7 σ H6 (.ref s2.heap.objs.size) (.ref s2.heap.objs.size) DD.nx Ip rfl qn) λ_ s9 zq=>?_;obtain ⟨σ9,H9,I9,q9⟩:=zq;have keepC:=(I9.pin (H3.objs.size,oC) (z0d _ (z0d _ (D4 (by simp) hoC)))).1
   have H9C:=(I9.pin (H3.objs.size,oC) (z0d _ (z0d _ (D4 (by simp) hoC)))).2.1
   refine ⟨m7,hn7.at' λo e=>by rw [hoC] at e;cases e;exact keepC,λh' sb=>?_⟩
   obtain ⟨_,g1,g2,g3,g4,g5⟩:=fC;exact ⟨σ9,H9,I9.unpinned.turned (t':=s9.toks) (λb o hb e=>(sb.2 b hb).trans e) H9C g1 g3 g4 g5,q9⟩
  ·refine thn (T.item (X.block scope cl H3.objs.size Nc s2 H2 fp pins) rfl rfl rfl hc i [] s6 σ6 H6 _ I6 (stat fr6) st6 go) λr s7 zq=>?_
   obtain ⟨u,hr,h7⟩:=zq;subst hr;refine thn h7 λ_ s8 zq=>?_;obtain ⟨x,H8,I8,r8,y8,st8,fr8⟩:=zq;have I8':=I8.pinned (stat fr8) (T.obj _ _ st8);refine thn (hg _ _ _ _ _ _ s8 σ6 H8 x u _ I8' r8 (step x H8 y8)) λ_ s9 zq=>?_;obtain ⟨σ9,H9,I9,q9⟩:=zq;refine thn (he _ _ _ _ _ _ s9 σ9 H9 _ I9 q9) λu10 s10 zq=>?_;obtain ⟨v10,H10,I10,r10,ys,hys,hlen,m',hm',w'⟩:=zq;refine thn (al3 _ s10 σ9 H10 (.ref s2.heap.objs.size) [v10] (.ref s2.heap.objs.size) [u10] (λ_ H11=>H11=upd H10 s2.heap.objs.size (.lst (ys ++ [v10]))) I10 rfl (.cons r10 .nil) ⟨_,ys,v10,rfl,rfl,hys,hlen,rfl⟩) λ_ s11 zq=>?_;obtain ⟨_,H11,I11,_,hH11⟩:=zq;subst hH11;refine ⟨m',hm',i+1,σ9,_,I11.unpinned,T.keep _ _ _ st8 λb hb o e=>(I11.pin (b,o) (z0d _ (z0d _ (D4 hb e)))).1,λb hb=>?_,w'⟩;obtain ⟨o,e,d⟩:=T.obj _ _ st8 b hb;exact (I11.pin (b,o) (z0d _ (z0d _ (D4 hb e)))).2.1
 exact codeAny_compStart_list (loop _ rfl) (T.self _ 0 _ _ _ (T.keep _ _ _ st2 λb hb o e=>old b o e) (loop _ rfl))
def Itv (K:q0a) (a:Addr) (n:Nat):It :=
 ⟨λi H=>i<n/\∃ xs x,SqL K H a xs/\xs[n-1-i]? = some x,λi H x H'=>H'=H/\∀ xs,SqL K H a xs->xs[n-1-i]? = some x,λi H=>i=n⟩
theorem aZ5 {P:Program} {w:World} {K:q0a} {tg:Expr} (a it:Addr) (n:Nat):aG1 P w K tg (Itv K a n) [it] it (λi h=>h.IsRevIter it a ((n:Int)-1-(i:Int))) where
 mem:=by simp
 obj:=λi h st b hb=>by
  have e:b=it:=by simpa using hb
  subst e;obtain ⟨o,e,c,d⟩:=st;exact ⟨o,e,λv z=>by rw [d] at z;cases z⟩
 keep:=λi h h' st k=>st.at λo e=>k it (by simp) o e
 item:=by
  intro X hP hw hK hc i pins s σ H E I hf st hg;subst hP hw hK;obtain ⟨hi,xs,x,hq,hx⟩:=hg;obtain ⟨its,rv,p,hz⟩:=I.list hq;obtain ⟨u,hu,ru⟩:=rv.get hx;obtain ⟨f0,f1,f2,f3,f4,f5⟩:=hf it (by simp)
  have e:(n:Int)-1-(i:Int)=((n-1-i:Nat):Int):=⋯;rw [e] at st;refine wpAny_pyNext_rev_item st p.isList (x:=u) (by simpa using hu) λh' st' sb=>?_
  have I1:Inv X pins σ H { s with heap:=h' }:=I.turned (t':=s.toks) (λb o hb e=>(sb.2 b hb).trans e) f0 f1 f3 f4 f5;have e2:((n-1-i:Nat):Int)-1=(n:Int)-1-((i+1:Nat):Int):=⋯;rw [e2] at st';obtain ⟨o,e,c,d⟩:=id st';exact ⟨u,rfl,ax4 (s:={ s with heap:=h' }) e c d (by decide) ⟨x,H,I1,ru,⟨rfl,λys hy=>by rw [I.list_inj hy hq];exact hx⟩,st',λb hb=>(hf b hb).1⟩⟩
 done:=by
  intro X hP hw hK hc i pins s σ H E I hf st hg;subst hP hw hK;have e:i=n:=hg;subst e;have e:(i:Int)-1-(i:Int)=-1:=⋯;rw [e] at st;obtain ⟨f0,f1,f2,f3,f4,f5⟩:=hf it (by simp)
  exact wpAny_pyNext_rev_end (I.ok.hd hc) st λh' eb=>⟨rfl,I.turned (t':=s.toks) (λb o hb e=>eb b o hb e) f0 f1 f3 f4 f5⟩
 self:=λ_ _ _ _ _ st h=>wpAny_pyIter_revIter st h
def bx1 (K:q0a) (ta:TA):TI:=λσ H R=>ta σ H λvs H1 => ∃ a xs,vs=[.ref a]/\SqL K H1 a xs/\R (Itv K a xs.length) H1
theorem bu4 {tg l:Expr} {ta:TA} {p pos:Pos} (hg:Gl X "reversed") (hm:X.mg "reversed" = none) (ha:PA X [l] ta) (hs:starEach [l] X.env=[(false,eval l X.env)]:=by rfl) :
  PI X tg (.Call (.Name "reversed" p) [l] [] pos) (bx1 X.K ta):=by
 intro pins s σ H R I h;refine Call_ (U2 I hg hm (u:=.type "reversed") (by decide +kernel) (PyProof.Rows.callWith_type1 (thn (ha pos pins s σ H _ I h) λus s1 ⟨vs,H1,I1,r1,q1⟩=>?_) hs rfl))
 obtain ⟨a,xs,e,hq,q⟩:=q1;subst e;obtain ⟨u,rfl,rx⟩:=ah1 r1
 cases rx
 obtain ⟨its,rv,p,hz⟩:=I1.list hq;refine call_reversed_list p.isList ?_;have hl:=rv.length;have e:((its.toArray.size:Nat):Int)-1=(xs.length:Int)-1-((0:Nat):Int):=by simp;omega
 rw [e];have I2:Inv X pins σ H1 { s1 with heap:=s1.heap.push (revObj a ((xs.length:Int)-1-((0:Nat):Int))) }:=I1.kept (t':=s1.toks) λb o e=>q0h _ e;refine wpAny_pyIter_revIter (it:=s1.heap.objs.size) (l:=a) (i:=(xs.length:Int)-1-((0:Nat):Int)) ⟨_,z0j _ rfl,rfl,rfl⟩ ?_;refine ⟨s1.heap.objs.size,[s1.heap.objs.size],_,_,H1,rfl,I2,aZ5 a _ xs.length,⟨_,z0j _ rfl,rfl,rfl⟩,λb hb=>?_,q⟩;have e:b=s1.heap.objs.size:=by simpa using hb
 subst e;exact I1.fpOk (q0j _) (I1.hok.fresh (q0j _))
def ipM (c:Int->Int->Prop) (f:Int->Int->Int):TIp:=λx y H Q => ∃ i j,x=.int i/\y=.int j/\c i j/\Q (.int (f i j)) H
theorem bw5:PIp X .Mult (ipM IntMulOk λi j=>i*j):=by
 intro pins s σ H x y v u Q I r1 r2 h;obtain ⟨i,j,e1,e2,hc,q⟩:=h;subst e1;subst e2;obtain ⟨t,rfl⟩:=r1;obtain ⟨t',rfl⟩:=r2;exact imul_int ⟨.int _,H,I.tok _,⟨_,rfl⟩,q⟩ hc
end
def Itd (hi:Int) (n:Nat):It:=⟨λi _=>i<n,λi H x H'=>H'=H/\x=.int (hi-i),λi _=>n<=i⟩
theorem aV1 {P:Program} {w:World} {K:q0a} {tg:Expr} (it:Addr) (lo:Int) (n:Nat):aG1 P w K tg (Itd lo n) [it] it (λi h=>IsRangeIter h it (lo+(i:Nat) * -1) ((n:Int)-(i:Nat)) (-1)) where
 mem:=by simp
 obj:=λi h st b hb=>by
  have e:b=it:=by simpa using hb
  subst e
  exact ⟨_,st,λv z=>by
   have z':Data.fields _=Data.cell v:=z
   cases z'⟩
 keep:=λi h h' st k=>k it (by simp) _ st
 item:=by
  intro X hP hw hK hc i pins s σ H E I hf st hg;subst hP hw hK;obtain ⟨f0,f1,f2,f3,f4,f5⟩:=hf it (by simp)
  have W:=Walks.range (prog:=X.prog) (w:=X.w) (I.ok.hd hc) it lo (-1) n;refine W.item i s _ _ hg st λv h' tk hv st' kk=>?_;obtain ⟨t,rfl⟩:=hv;have I1:Inv X pins σ H { s with heap:=h',toks:=tk }:=I.turned (λb o hb e=>kk b o (by simpa using hb) e) f0 f1 f3 f4 f5
  refine ⟨_,rfl,ax4 (s:={ s with heap:=h',toks:=tk }) (n := "range_iterator") st' rfl rfl (by decide) ⟨.int (lo-i),H,I1,⟨t,?_⟩,⟨rfl,rfl⟩,st',λb hb=>(hf b hb).1⟩⟩
  rw [show lo+(i:Int) * -1=lo-i by omega]
 done:=by
  intro X hP hw hK hc i pins s σ H E I hf st hg;subst hP hw hK;obtain ⟨f0,f1,f2,f3,f4,f5⟩:=hf it (by simp)
  exact wpAny_pyNext_range_end (I.ok.hd hc) st (by have:n<=i:=hg;omega) λh' eb=>⟨rfl,I.turned (t':=s.toks) (λb o hb e=>eb b o hb e) f0 f1 f3 f4 f5⟩
 self:=λ_ _ _ _ _ st h=>wpAny_pyIter_rangeiter st h
theorem aa8 (a b:Int):Builtin.Range.rangeSize a b (-1)=if a > b then a-b else 0:=by
 unfold Builtin.Range.rangeSize;simp only [show ¬ ((-1:Int) > 0) by decide,if_false,Int.neg_neg,Int.ediv_one]
 split <;> omega
theorem aL8 {a b:Int} (ha:-(2 ^ 62)<=a) (ha':a<2 ^ 62) (hb:-(2 ^ 62)<=b) (hb':b<2 ^ 62):Builtin.Range.small a b (-1)=true:=by
 unfold Builtin.Range.small;rw [aa8];simp only [Builtin.Range.rangeFitsLong,j0t,g0p,decide_eq_true_eq,beq_iff_eq,show ¬ ((-1:Int) > 0) by decide,if_false]
 split <;> omega
section
variable {X:Cx} {tg:Expr}
def bf2 (ta:TA):TI:=λσ H R=>ta σ H λvs H1 => ∃ i j:Int,vs=[.int i,.int j,.int (-1)]/\(-(2 ^ 62)<=i/\i<2 ^ 62/\-(2 ^ 62)<=j/\j<2 ^ 62)/\R (Itd i (i-j).toNat) H1
theorem aW4 {a b c:Expr} {ta:TA} {p pos:Pos} (hg:Gl X "range") (hm:X.mg "range" = none) (ha:PA X [a,b,c] ta) (hs:starEach [a,b,c] X.env=[(false,eval a X.env),(false,eval b X.env),(false,eval c X.env)]:=by rfl) (hs2:starEach [b,c] X.env=[(false,eval b X.env),(false,eval c X.env)]:=by rfl) :
  PI X tg (.Call (.Name "range" p) [a,b,c] [] pos) (bf2 ta):=by
 intro pins s σ H R I h;refine Call_ (U2 I hg hm boot_range (PyProof.Rows.callWith_type1 (thn (ha pos pins s σ H _ I h) λus s1 zq=>?_) (by rw [hs,hs2]) (by rw [hs2];rfl)))
 obtain ⟨vs,H1,I1,r1,q1⟩:=zq;obtain ⟨lo,hi,e,⟨q1,q2,q3,q4⟩,q⟩:=q1;subst e
 cases r1 with
 | cons r rr =>
  cases rr with
  | cons r' rr =>
   cases rr with
   | cons r'' rr =>
    cases rr
    obtain ⟨t,rfl⟩:=r;obtain ⟨u,rfl⟩:=r';obtain ⟨v,rfl⟩:=r'';refine call_range_3 (by decide) ?_ (.inl (PyProof.noPylong_of_log2 (by decide +kernel)))
    refine wpAny_pyIter_range (IsRange.new ..) (aL8 q1 q2 q3 q4) ?_;have I2:Inv X pins σ H1 { s1 with heap:=s1.heap.push { cls:=.type "range",data:=.fields #[.int lo t,.int hi u,.int (-1) v] },toks:=s1.toks }:=I1.kept λb o e=>q0h _ e
    refine ⟨(s1.heap.push { cls:=.type "range",data:=.fields #[.int lo t,.int hi u,.int (-1) v] }).objs.size,[(s1.heap.push { cls:=.type "range",data:=.fields #[.int lo t,.int hi u,.int (-1) v] }).objs.size],_,_,H1,rfl,
     I2.kept (t':=s1.toks) λb o e=>q0h _ e,aV1 _ lo (lo-hi).toNat,?_,λb hb=>?_,q⟩
    ·have e1:lo+((0:Nat):Int) * -1=lo:=by simp
     have e2:(((lo-hi).toNat:Nat):Int)-((0:Nat):Int)=Builtin.Range.rangeSize lo hi (-1):=by rw [aa8];split <;> omega
     show IsRangeIter _ _ (lo+((0:Nat):Int) * -1) ((((lo-hi).toNat:Nat):Int)-((0:Nat):Int)) (-1);rw [e1,e2];exact z0j _ rfl
    ·have e:b=(s1.heap.push { cls:=.type "range",data:=.fields #[.int lo t,.int hi u,.int (-1) v] }).objs.size:=by simpa using hb
     subst e;exact I2.fpOk (q0j _) (I2.hok.fresh (q0j _))
end
theorem bg0 {lo:Int} {n:Nat} {g:TG} {tb:TS} {D:aa0} {σ:St} {H:Hp} (Pv:Nat->St->Hp->Prop) (h0:Pv 0 σ H)
  (hs:∀ i σ H,i<n->Pv i σ H->g (.int (lo-i)) σ H λσ2 H2=>tb { D with nx:=Pv (i+1),ct:=Pv (i+1),bk:=D.nx } σ2 H2) (hd:∀ σ H,Pv n σ H->D.nx σ H) :
  ∃ W:Nat->Nat->St->Hp->Prop,(∃ m,W 0 m σ H)/\∀ i m σ H,W i m σ H ->
   ((Itd lo n).stop i H/\D.nx σ H) \/ ((Itd lo n).go i H/\∃ N:St->Hp->Prop,(∀ σ' H',N σ' H'->∃ m',m'<m/\W (i+1) m' σ' H')/\∀ x H',(Itd lo n).yld i H x H'->g x σ H' λσ2 H2=>tb { D with nx:=N,ct:=N,bk:=D.nx } σ2 H2):=by
 refine ⟨λi m σ H=>m=n-i/\i<=n/\Pv i σ H,⟨n,by simp,j0k _,h0⟩,?_⟩
 rintro i m σ H ⟨rfl,hi,p⟩
 by_cases hlt:i<n
 ·refine .inr ⟨hlt,Pv (i+1),λσ' H' p'=>⟨n-(i+1),⋯,rfl,hlt,p'⟩,λx H' y=>?_⟩
  obtain ⟨e,y⟩:=y;subst e y;exact hs i σ _ hlt p
 ·have e:i=n:=⋯
  subst e;exact .inl ⟨q0j _,hd σ H p⟩
theorem bn4 {K:q0a} {a:Addr} {xs:List V} {g:TG} {tb:TS} {D:aa0} {σ:St} {H:Hp} (Pv:Nat->St->Hp->Prop) (h0:Pv 0 σ H) (hl:∀ i σ H,i<=xs.length->Pv i σ H->SqL K H a xs)
  (hs:∀ i x σ H,i<xs.length->xs[xs.length-1-i]? = some x->Pv i σ H->g x σ H λσ2 H2=>tb { D with nx:=Pv (i+1),ct:=Pv (i+1),bk:=D.nx } σ2 H2) (hd:∀ σ H,Pv xs.length σ H->D.nx σ H) :
  ∃ W:Nat->Nat->St->Hp->Prop,(∃ m,W 0 m σ H)/\∀ i m σ H,W i m σ H ->
   ((Itv K a xs.length).stop i H/\D.nx σ H) \/ ((Itv K a xs.length).go i H/\∃ N:St->Hp->Prop,(∀ σ' H',N σ' H'->∃ m',m'<m/\W (i+1) m' σ' H')/\∀ x H',(Itv K a xs.length).yld i H x H'->g x σ H' λσ2 H2=>tb { D with nx:=N,ct:=N,bk:=D.nx } σ2 H2):=by
 refine ⟨λi m σ H=>m=xs.length-i/\i<=xs.length/\Pv i σ H,⟨xs.length,by simp,j0k _,h0⟩,?_⟩
 rintro i m σ H ⟨rfl,hi,p⟩;have q:=hl i σ H hi p
 by_cases hlt:i<xs.length
 ·refine .inr ⟨⟨hlt,xs,xs[xs.length-1-i],q,q0c ⋯⟩,Pv (i+1),λσ' H' p'=>⟨xs.length-(i+1),⋯,rfl,hlt,p'⟩,λx H' y=>?_⟩
  obtain ⟨e,y⟩:=y;subst e;exact hs i x σ _ hlt (y xs q) p
 ·have e:i=xs.length:=⋯
  subst e;exact .inl ⟨rfl,hd σ H p⟩
theorem PS.nox {X:Cx} {st:Stmt} {t:TS} (h:PS X.nox st t):PS X st t:=λpins s σ H D I hw =>
 wpAny_mono (h pins s σ H D (I.wish _) hw) (λ_ _ q=>q.unwish) λ_ _ z=>False.elim z
structure OwnCells (h h':Heap) (names:List (Str × NameKind)) (acc cs:List (Str × Addr)):Prop where
 cell:∀ x c,cs.lookup x=some c->∃ v,h'.IsCell c v
 inj:∀ x y c,cs.lookup x=some c->cs.lookup y=some c->x=y
 old:∀ x c,cs.lookup x=some c->acc.lookup x=some c \/ h.objs.size<=c
 fresh:∀ x,(x,NameKind.cell) ∈ names->∀ c,cs.lookup x=some c->h.objs.size<=c
structure CapsC (X:Cx) (scope:Scope) (cl:List (Str × Addr)) (Nc:List Str) (caps:List (Option Nat)):Prop where
 clos:closureFor scope X.env=pure cl
 sub:∀ x c,cl.lookup x=some c->X.env.cells.lookup x=some c
 has:∀ n x,(relabel scope X.env).names.lookup x=some .cell \/ (relabel scope X.env).names.lookup x=some .free->∃ c,(cellsFrom n scope.names cl).lookup x=some c
 kind:scope.kind=.function
 names:∀ x ∈ scope.names,x.2=.local->scope.names.lookup x.1=some .local
 len:caps.length=Nc.length
 cap:∀ (i j:Nat) (x:Str),caps[i]? = some (some j)->Nc[i]? = some x->X.N[j]? = some x/\Vis X.env.scope x/\X.env.kindOf x ≠ some .local/\((relabel scope X.env).names.lookup x=some .cell \/ (relabel scope X.env).names.lookup x=some .free) /\
  (∃ c,cl.lookup x=some c)/\∀ n c,cl.lookup x=some c->(cellsFrom n scope.names cl).lookup x=some c
structure Stp (prog:Program) (w:World) (it src:Addr) (ar:Array Value) (st:Nat->Heap->Prop):Prop where
 stay:∀ {k:Nat} {h h':Heap},st k h->(∀ o,h.get? it=some o->h'.get? it=some o)->(∀ o,h.get? src=some o->h'.get? src=some o)->st k h'
 item:∀ {A:Around} {E:Value->Shared->Prop} {s:Shared} {k:Nat} {v:Value} {Q:Value->Shared->Prop},st k s.heap->ar[k]? = some v->(∀ h',st (k+1) h'->g0h it s.heap h'->Q v { s with heap:=h' })->wpAny (model prog w) A (Builtin.SmallTypes.nextOf (.ref it)) Q E s
 fin:∀ {A:Around} {E:Value->Shared->Prop} {s:Shared} {k:Nat} {Q:Value->Shared->Prop},A.handled=none->st k s.heap->ar[k]? = none->(∀ h' e,Heap.ExtBut it s.heap h'->(∃ o,h'.get? e=some o/\o.cls=.type "StopIteration")->E (.ref e) { s with heap:=h' })->wpAny (model prog w) A (Builtin.SmallTypes.nextOf (.ref it)) Q E s
open PySem PyProof.Rows
section
variable {X:Cx} {pos:Pos}
def bp9 (te:TE) (g g':TG):TS:=λD σ H=>te σ H λx H1=>g x σ H1 λσ2 H2=>g' x σ2 H2 D.nx
theorem bk8 {tg tg' e : Expr} {te : TE} {g g' : TG} (he : PE X e te) (hg : PG X tg g) (hg' : PG X tg' g') (hs : swapsWithSole [tg, tg'] e pos.line X.env = pure false := by rfl) (hw : swappedStores [tg, tg'] e X.env = pure none := by rfl)
    (h1:(assignEach [tg,tg'] X.env).map (·.2)=[assign tg X.env,assign tg' X.env]:=by rfl):PS X (.Assign [tg,tg'] e pos) (bp9 te g g'):=by
  intro pins s σ H D I h;refine wpAny_Assign_stores (thn (he pins s σ H _ I h) λv s1 zq=>?_) hs hw;obtain ⟨x,H1,I1,r1,q1⟩:=zq;rw [h1]
  show wpAny (model X.prog X.w) X.A (do holding [v] (assign tg X.env v);assign tg' X.env v) _ _ _
  refine wpAny_bind (wpAny_holding (thn (hg pins s1 σ H1 x v _ I1 r1 q1) λ_ s2 zq=>?_));obtain ⟨σ2,H2,I2,q2⟩:=zq;exact thn (hg' pins s2 σ2 H2 x v _ I2 r1 q2) λ_ s3 q=>q
end
section
variable {prog:Program} {w:World} {A:Around} {E:Value->Shared->Prop} {s:Shared}
theorem be0 {a b:Int} {t u:Tok} {Q:Value->Shared->Prop} (h:Q (.bool (decide (a<b))) s):wpAny (model prog w) A (richCompare .Lt (.int a t) (.int b u)) Q E s :=
 richCompare_gives (op:=.Lt) (typeIs_int s _ t) (typeIs_int s _ u) F.slot_int_lt F.entry_int_lt (F.args_int_lt_2 _ _) (gives_int_lt _ _ t u) (λx=>nomatch x) h
theorem aY9 (a:Value):argsOk "min" ⟨[a],[]⟩:=by unfold argsOk;kernel_rfl
variable {R:Result->Shared->Prop} {I:Addr} {fp wr:List Addr} {n:Nat} {P:Nat->Value->Prop} {St:Nat->Heap->Prop}
theorem aX2 (W:Walks prog w A.in1 I fp wr n P St) (Pr:Int->Prop) (hint:∀ i v,P i v->∃ x t,v=.int x t/\Pr x) (S:Addr) (hSf:S ∉ fp) :
  ∀ (k j:Nat) (s:Shared) (x0:Int) (t0:Tok) (c:Nat),Pr x0->n-(j+1)=k->j+1<=n->St (j+1) s.heap ->
  s.heap.get? S=some { cls:=.type "list",dict:=none,data:=.seq #[.int x0 t0,.int x0 t0] c,slots:=#[] } ->
  (∀ x t h' tk,Pr x->(∀ b o,b ∉ wr->b ≠ S->s.heap.get? b=some o->h'.get? b=some o)->R (.ok (.ret (.int x t))) { s with heap:=h',toks:=tk }) ->
  codeAny (model prog w) A (.builtin "min.loop" ⟨[.ref I,.none,.ref S],[]⟩) R s:=by
 have hSw:S ∉ wr:=λh=>hSf (W.sub _ h);have hname:(toString "min" ++ toString ".loop" : String) = "min.loop" := by decide
 intro k
 induction k with
 | zero =>
  intro j s x0 t0 c px hk hj hst hS hR;have hin:j+1=n:=⋯;refine codeAny_builtin F.entry_min_loop ?_;rw [Around.under_plainId F.plain_min_loop _]
  show wpAny _ A.in1 (seqItems? (.ref S) >>= _) _ _ s;refine wpAny_bind (wpAny_seqItems hS rfl ?_)
  show wpAny _ A.in1 (tryCatch (pyNext (.ref I)) _ >>= _) _ _ s;refine wpAny_bind (wpAny_tryCatch (W.done s _ _ (hin ▸ hst) λh' tk hk'=>?_));have hS':=hk' S _ hSw hS
  show wpAny _ A.in1 (updateSeq S (λ_ => #[]) >>= _) _ _ _;refine wpAny_bind ?_;refine wpAny_updateSeq hS' rfl (wpAny_bind (wpAny_letGo (wpAny_pure ?_)));exact hR x0 t0 _ tk px λb o hbw hbS e=>(y0c _ _ (Ne.symm hbS)).trans (hk' b o hbw e)
 | succ k ih =>
  intro j s x0 t0 c px hk hj hst hS hR;have hlt:j+1<n:=⋯;refine codeAny_builtin F.entry_min_loop ?_;rw [Around.under_plainId F.plain_min_loop _]
  show wpAny _ A.in1 (seqItems? (.ref S) >>= _) _ _ s;refine wpAny_bind (wpAny_seqItems hS rfl ?_)
  show wpAny _ A.in1 (tryCatch (pyNext (.ref I)) _ >>= _) _ _ s;refine wpAny_bind (wpAny_tryCatch (W.item (j+1) s _ _ hlt hst λv h' tk hP hst' hk'=>?_));obtain ⟨x1,t1,rfl,p1⟩:=hint _ _ hP;have hS':=hk' S _ hSw hS
  show wpAny _ A.in1 (tryCatch (holding [.int x1 t1,.int x1 t1] (richCompare .Lt (.int x1 t1) (.int x0 t0) >>= _)) _ >>= _) _ _ _;refine wpAny_bind (wpAny_tryCatch (wpAny_holding (wpAny_bind (be0 ?_))));refine wpAny_bind (wpAny_holding (wpAny_truthy_bool ?_));refine wpAny_bind (wpAny_letGo (wpAny_pure ?_))
  cases hb:decide (x1<x0) with
  | true =>
   simp only [if_true];refine wpAny_bind ?_;refine wpAny_updateSeq hS' rfl (wpAny_bind (wpAny_letGo ?_));rw [hname]
   refine wpAny_pure ⟨plainId_quiet F.plain_min_loop _,ih (j+1) _ x1 t1 _ p1 ⋯ hlt (W.frame _ _ _ hst' λb hbf o e=>?_) (g0c _ hS' rfl)
    λx t h'' tk'' pp hk''=>?_⟩
   ·exact (y0c _ _ (λh:S=b=>hSf (by rw [h];exact hbf))).trans e
   ·exact hR x t h'' tk'' pp λb o hbw hbS e=>hk'' b o hbw hbS ((y0c _ _ (Ne.symm hbS)).trans (hk' b o hbw e))
  | false =>
   simp only [Bool.false_eq_true,if_false];refine wpAny_bind (wpAny_letGo ?_);rw [hname];refine wpAny_pure ⟨plainId_quiet F.plain_min_loop _,ih (j+1) _ x0 t0 c px ⋯ hlt hst' hS' λx t h'' tk'' pp hk''=>?_⟩;exact hR x t h'' tk'' pp λb o hbw hbS e=>hk'' b o hbw hbS (hk' b o hbw e)
theorem aN8 (W:Walks prog w A.in1 I fp wr n P St) (Pr:Int->Prop) (hn:0<n) (hint:∀ i v,P i v->∃ x t,v=.int x t/\Pr x) (S:Addr) (hSf:S ∉ fp) {c:Nat} (hst:St 0 s.heap)
  (hS:s.heap.get? S=some { cls:=.type "list",dict:=none,data:=.seq #[] c,slots:=#[] })
  (hR:∀ x t h' tk,Pr x->(∀ b o,b ∉ wr->b ≠ S->s.heap.get? b=some o->h'.get? b=some o)->R (.ok (.ret (.int x t))) { s with heap:=h',toks:=tk }) :
  codeAny (model prog w) A (.builtin "min.loop" ⟨[.ref I,.none,.ref S],[]⟩) R s:=by
 have hSw:S ∉ wr:=λh=>hSf (W.sub _ h);have hname:(toString "min" ++ toString ".loop" : String) = "min.loop" := by decide
 refine codeAny_builtin F.entry_min_loop ?_;rw [Around.under_plainId F.plain_min_loop _]
 show wpAny _ A.in1 (seqItems? (.ref S) >>= _) _ _ s;refine wpAny_bind (wpAny_seqItems hS rfl ?_)
 show wpAny _ A.in1 (tryCatch (pyNext (.ref I)) _ >>= _) _ _ s;refine wpAny_bind (wpAny_tryCatch (W.item 0 s _ _ hn hst λv h' tk hP hst' hk'=>?_));obtain ⟨x1,t1,rfl,p1⟩:=hint _ _ hP;have hS':=hk' S _ hSw hS
 show wpAny _ A.in1 (updateSeq S (λ_ => #[.int x1 t1,.int x1 t1]) >>= _) _ _ _;refine wpAny_bind ?_;refine wpAny_updateSeq hS' rfl ?_;rw [hname];refine wpAny_pure ⟨plainId_quiet F.plain_min_loop _,aX2 W Pr hint S hSf _ 0 _ x1 t1 _ p1 rfl hn (W.frame _ _ _ hst' λb hbf o e=>?_) (g0c _ hS' rfl) λx t h'' tk'' pp hk''=>?_⟩
 ·exact (y0c _ _ (λh:S=b=>hSf (by rw [h];exact hbf))).trans e
 ·exact hR x t h'' tk'' pp λb o hbw hbS e=>hk'' b o hbw hbS ((y0c _ _ (Ne.symm hbS)).trans (hk' b o hbw e))
end
section
variable {X:Cx}
def bq5 (K:q0a):List V->Hp->VK->Prop:=λvs H Q => ∃ (a:Addr) (ns:List Int),vs=[.ref a]/\SqL K H a (ns.map V.int)/\ns ≠ []/\∀ i ∈ ns,Q (.int i) H
theorem aY6 (hc:X.calm=true):ac6 X (.builtin "min") (bq5 X.K):=by
 intro pins s σ H us vs Q I r h;obtain ⟨a,ns,rfl,hq,hne,q⟩:=h;obtain ⟨u,rfl,rx⟩:=ah1 r
 cases rx
 have hname:(toString "min" ++ toString ".loop" : String) = "min.loop" := by decide
 obtain ⟨its,r',pl,hz⟩:=I.list hq
 have hp:a ≠ s.heap.objs.size:=by
  obtain ⟨o,ho,_⟩:=pl.isList;exact z0c (q0f ho)
 refine aF2 F.kind_min F.plain_min F.entry_min (aY9 _) ?_
 show wpAny _ X.A.in1 (Builtin.Builtins.bindParams "min" ["key","default"] 0 ⟨[],[]⟩ >>= _) _ _ s
 refine wpAny_bind (wpAny_of_eq (show Builtin.Builtins.bindParams "min" ["key","default"] 0 ⟨[],[]⟩=pure [none,none] from by with_unfolding_all rfl) ?_)
 refine wpAny_bind (wpAny_pure ?_);refine wpAny_bind (wpAny_pyIter_list pl.isList ?_);refine wpAny_bind (wpAny_newObj_type ?_);have a1:a<s.heap.objs.size:=by obtain ⟨o,ho,_⟩:=pl.isList;exact q0f ho
 rw [hname];refine wpAny_pure ⟨plainId_quiet F.plain_min_loop _,?_⟩;refine aN8 (Walks.list (A:=X.A.in1) (I.ok.hd hc) s.heap.objs.size a hp its.toArray) (· ∈ ns) ?_ ?_ _ ?_ ⟨⟨_,q0h _ (z0j _ rfl),rfl,rfl⟩,pl.isList.at λo e=>q0h _ (q0h _ e)⟩ (z0j _ rfl) ?_
 ·rw [q0g,<- r'.length,z0g];exact y0m.mpr hne
 ·intro i v hv
  have hv':its[i]? = some v:=by simpa using hv
  have hi:i<ns.length:=by
   have:=(z0f.mp hv').1;rw [<- r'.length,z0g] at this;exact this
  obtain ⟨u,hu,ru⟩:=r'.get (i:=i) (x:=.int ns[i]) (by rw [z0k,q0c hi];rfl)
  rw [hv'] at hu
  cases hu
  obtain ⟨t,rfl⟩:=ru;exact ⟨_,_,rfl,u0x hi⟩
 ·rw [m0a]
  intro z;rcases (by simpa using z:s.heap.objs.size+1=s.heap.objs.size \/ s.heap.objs.size+1=a) with e | e
  ·exact absurd e (Nat.succ_ne_self _)
  ·exact absurd a1 (by rw [<- e];exact Nat.not_lt.mpr (u0c _))
 ·intro x t h' tk px kk
  refine ⟨.int x,H,I.kept (t':=tk) λb o e=>kk b o ?_ ?_ (q0h _ (q0h _ e)),⟨t,rfl⟩,q x px⟩
  ·intro z
   have:b=s.heap.objs.size:=by simpa using z
   exact absurd (q0f e) (by rw [this];exact y0v _)
  ·rw [m0a]
   intro z;exact absurd (q0f e) (by rw [z];exact Nat.not_lt.mpr (u0c _))
end
end L2
set_option maxRecDepth 100000
namespace HT
open PySem PyProof.Rows
end HT
namespace L2
open PySem PySem.Spec PyProof.Rows
end L2
set_option maxRecDepth 100000
namespace PySem
open Sem (wp)
open AutoSeq1 (wpAny_loadPart')
end PySem
namespace L2
open PySem PySem.Spec PyProof.Rows
end L2
set_option maxRecDepth 100000
namespace R
open PySem L2 PyProof.Rows
def c7 (f:Nat->Rat):Nat->Rat
 | 0=>0
 | n+1=>c7 f n+f n
theorem F8 (f:Nat->Rat):∀ n,c7 f (n+1)=f 0+c7 (λi=>f (i+1)) n
 | 0=>by simp only [c7];grind
 | n+1=>by
  rw [c7,F8 f n,c7];grind
theorem d6 {f g:Nat->Rat}:∀ {n},(∀ i,i<n->f i=g i)->c7 f n=c7 g n
 | 0,_=>rfl
 | n+1,h=>by rw [c7,c7,d6 λi hi=>h i ⋯,h n ⋯]
theorem ae6:∀ (n:Nat) (f:Nat->Rat),c7 f n=c7 (λi=>f (n-1-i)) n
 | 0,_=>rfl
 | n+1,f=>by
  rw [F8 (λi=>f (n+1-1-i)) n,c7,ae6 n f];have:c7 (λi=>f (n-1-i)) n=c7 (λi=>f (n+1-1-(i+1))) n:=d6 λi hi=>by congr 1;omega
  rw [this]
  show _=f (n+1-1-0)+_;rw [show n+1-1-0=n by omega]
  grind
theorem af6 {f:Nat->Rat} {m:Nat}:∀ {n},m<=n->(∀ i,m<=i->i<n->f i=0)->c7 f n=c7 f m
 | 0,h,_=>by rw [show m=0 by omega]
 | n+1,h,z=>by
  by_cases e:m=n+1
  ·rw [e]
  ·rw [c7,z n ⋯ ⋯,af6 (n:=n) ⋯ λi a b=>z i a ⋯]
   grind
theorem ax3 (f:List Rat) (i:Nat) (x:Rat) (q:List Rat) {k:Nat} (y:Rat) (hy:f[k]? = some y):∀ j,(B5 0 f i x q j)[k]? = some (y+if i<=k/\k<i+j then x*(q[k-i]?).getD 0 else 0)
 | 0=>by
  rw [B5,hy,if_neg ⋯];congr 1;grind
 | j+1=>by
  have ih:=ax3 f i x q y hy j;rw [B5]
  by_cases e:k=i+j
  ·subst e
   rw [ag5 _ _ _ _ ih,if_neg ⋯,if_pos ⋯,show i+j-i=j by omega]
   congr 1;grind
  ·rw [ac3 _ _ _ _ e,ih]
   by_cases h:i<=k/\k<i+j
   ·rw [if_pos h,if_pos ⋯]
   ·rw [if_neg h,if_neg ⋯]
def az5 (p q:List Rat) (k i:Nat):Rat:=if i<=k then (p[i]?).getD 0*(q[k-i]?).getD 0 else 0
theorem aw9 (f p q:List Rat) {k:Nat} (hy:f[k]? = some 0):∀ n,(y3 0 f p q n)[k]? = some (c7 (az5 p q k) n)
 | 0=>hy
 | n+1=>by
  rw [y3,ax3 _ _ _ _ _ (aw9 f p q hy n),c7]
  congr 2
  unfold az5
  by_cases h:n<=k
  ·rw [if_pos h]
   by_cases h2:k<n+q.length
   ·rw [if_pos ⟨h,h2⟩]
   ·rw [if_neg ⋯,q0z (l:=q) ⋯]
    show (0:Rat)=_*0
    grind
  ·rw [if_neg h,if_neg ⋯]
theorem aJ0 {p q:List Rat} (hp:p ≠ []) (hq:q ≠ []) {k:Nat} (hk:k<p.length+q.length-1):(w8 p q)[k]? = some (c7 (λi=>(p[i]?).getD 0*(q[k-i]?).getD 0) (k+1)):=by
 unfold w8;rw [if_neg (by simp [hp,hq]),aw9 _ _ _ (by rw [y0w,if_pos hk])]
 congr 1
 have h1:c7 (az5 p q k) (max p.length (k+1))=c7 (az5 p q k) p.length:=af6 ⋯ λi a _=>by
  unfold az5;rw [q0z a]
  split
  ·show (0:Rat)*_=0;grind
  ·rfl
 have h2:c7 (az5 p q k) (max p.length (k+1))=c7 (az5 p q k) (k+1):=af6 ⋯ λi a _=>by
  unfold az5;rw [if_neg ⋯]
 rw [<- h1,h2];exact d6 λi hi=>by unfold az5;rw [if_pos ⋯]
end R
namespace L2
theorem d7 {t R:TS} {D:aa0} {σ:St} {H:Hp} (P:St->Hp->Prop) (first:∀ N:St->Hp->Prop,(∀ σ H,P σ H->N σ H)->t { D with nx:=N } σ H) (ao0:∀ σ H,P σ H->R D σ H):bj7 t R D σ H:=first _ ao0
end L2
set_option maxRecDepth 100000
namespace R
section
variable {α:Type} [Lean.Grind.CommRing α]
def sad (c a:α):List α->List α
 | []=>[a]
 | r :: rs=>(a+c*r) :: sad c r rs
def shn (c:α):List α->List α
 | []=>[]
 | a :: p=>sad c a (shn c p)
def syn (c:α):List α->List α
 | []=>[]
 | a :: p=>match syn c p with
  | []=>[a]
  | h :: t=>(a+c*h) :: h :: t
theorem ad0 (c a:α):∀ r:List α,(sad c a r).length=r.length+1
 | []=>rfl
 | x :: r=>by simp only [sad,q0x,ad0 c x r]
theorem B7 (c:α):∀ p:List α,(shn c p).length=p.length
 | []=>rfl
 | a :: p=>by simp only [shn,ad0,B7 c p,q0x]
theorem ba9 (c a:α) (p:List α):∃ h,syn c (a :: p)=h :: syn c p:=by
 rw [syn]
 cases e:syn c p with
 | nil=>exact ⟨a,rfl⟩
 | cons h t=>exact ⟨_,rfl⟩
theorem ao7 (c:α):∀ p:List α,(syn c p).length=p.length
 | []=>rfl
 | a :: p=>by
  obtain ⟨h,e⟩:=ba9 c a p;rw [e,q0x,ao7 c p,q0x]
theorem aQ6 (c:α):∀ (p:List α) (h:α) (t:List α),syn c p=h :: t->shn c p=h :: shn c t
 | [],h,t,e=>by cases e
 | a :: p,h,t,e=>by
  rw [syn] at e;rw [shn]
  cases q:syn c p with
  | nil =>
   rw [q] at e;have hp:p=[]:=y0h (by rw [<- ao7 c p,q];rfl)
   subst hp
   cases e
   rfl
  | cons h' t' =>
   rw [q] at e
   dsimp only at e
   cases e
   rw [aQ6 c p h' t' q,sad,shn]
def Y8 (c:α) (k:Nat) (l:List α):List α:=l.take k ++ syn c (l.drop k)
theorem ar6 (c:α) (k:Nat) (l:List α):(Y8 c k l).length=l.length:=by
 unfold Y8;rw [j0n,ao7,y0q,j0s];omega
theorem aW7 (c:α) {k:Nat} {l:List α} (h:l.length<=k+1):Y8 c k l=l:=by
 unfold Y8
 cases e:l.drop k with
 | nil=>rw [show syn c ([]:List α)=[] from rfl,<- e,v0b]
 | cons x t =>
  have:t=[]:=by
   have:=congrArg m0c e;rw [j0s,q0x] at this;exact y0h ⋯
  subst this;rw [show syn c [x]=[x] from rfl,<- e,v0b]
theorem aW6 (c:α) {k:Nat} {l:List α} {a h:α} (ha:(Y8 c (k+1) l)[k]? = some a) (hh:(Y8 c (k+1) l)[k+1]? = some h):(Y8 c (k+1) l).set k (a+c*h)=Y8 c k l:=by
 have hk:k+1<l.length:=by
  have:=(z0f.mp hh).1
  rwa [ar6] at this
 have e1:l.take (k+1)=l.take k ++ [l[k]]:=by rw [List.take_add_one,q0c ⋯];rfl
 have e2:l.drop k=l[k] :: l.drop (k+1):=m0w ⋯;have lt:(l.take k).length=k:=by rw [y0q];omega
 unfold Y8 at ha hh ⊢;rw [e1] at ha hh ⊢;rw [v0w,v0d ⋯,lt,g0q] at ha;rw [v0w,v0d ⋯,lt,show k+1-k=1 by omega] at hh
 rw [v0w,List.set_append_right _ _ ⋯,lt,g0q,e2,syn];simp only [List.cons_append,q1j,y0k,j0d,m0j,Option.some.injEq] at ha hh ⊢
 cases q:syn c (l.drop (k+1)) with
 | nil=>rw [q] at hh;cases hh
 | cons h' t =>
  rw [q] at hh;simp only [y0k,Option.some.injEq] at hh;rw [ha,hh]
def Q4 (c:α) (l:List α):Nat->List α
 | 0=>l
 | n+1=>Y8 c n (Q4 c l n)
theorem aa2 (c:α) (l:List α):∀ n,(Q4 c l n).length=l.length
 | 0=>rfl
 | n+1=>by rw [Q4,ar6,aa2 c l n]
theorem aG6 (c:α) (l:List α):∀ n,n<=l.length->shn c l=(Q4 c l n).take n ++ shn c ((Q4 c l n).drop n)
 | 0,_=>by simp [Q4]
 | n+1,hn=>by
  have ih:=aG6 c l n ⋯;have hl:=aa2 c l n;rw [Q4,ih];unfold Y8;generalize Q4 c l n=m at hl ⊢;have lt:(m.take n).length=n:=by rw [y0q];omega
  cases q:syn c (m.drop n) with
  | nil =>
   have:=congrArg m0c q;rw [ao7,j0s] at this
   simp at this;omega
  | cons h t =>
   rw [aQ6 c _ h t q];generalize m.take n=A at lt ⊢
   have e1:(A ++ h :: t).take (n+1)=A ++ [h]:=by
    rw [List.take_append,lt,show n+1-n=1 by omega,v0v ⋯];rfl
   have e2:(A ++ h :: t).drop (n+1)=t:=by
    rw [List.drop_append,lt,show n+1-n=1 by omega,q1r ⋯];rfl
   rw [e1,e2,v0w];rfl
theorem aG7 (c:α) (l:List α):Q4 c l (l.length-1)=shn c l:=by
 have h:=aG6 c l (l.length-1) ⋯;have hl:=aa2 c l (l.length-1);rw [h];generalize Q4 c l (l.length-1)=m at hl ⊢
 cases e:m.drop (l.length-1) with
 | nil=>rw [show shn c ([]:List α)=[] from rfl,<- e,v0b]
 | cons x t =>
  have:t=[]:=by
   have:=congrArg m0c e;rw [j0s,q0x] at this;exact y0h ⋯
  subst this;rw [show shn c [x]=[x] from rfl,<- e,v0b]
theorem aQ8 {c' e:α}:∀ (us:List α) (u x y:α),x+c'*u=y+e*u->sad c' x (sad e u us)=sad e y (sad c' u us)
 | [],u,x,y,h=>by simp only [sad,h]
 | v :: vs,u,x,y,h=>by
  simp only [sad];rw [aQ8 vs v (u+e*v) (u+c'*v) (by grind)]
  congr 1
  grind
theorem aA6 (c c':α):∀ (r:List α) (a:α),shn c' (sad c a r)=sad (c+c') a (shn c' r)
 | [],a=>rfl
 | r :: rs,a=>by
  rw [sad,shn,aA6 c c' rs r,shn]
  cases shn c' rs with
  | nil=>simp only [sad];congr 1;grind
  | cons u us =>
   simp only [sad];rw [aQ8 us u (r+(c+c')*u) (r+c'*u) (by grind)]
   congr 1
   grind
theorem aQ7 (c c':α):∀ p:List α,shn c' (shn c p)=shn (c+c') p
 | []=>rfl
 | a :: p=>by rw [shn,aA6,aQ7 c c' p,shn]
theorem aH4 (c:α):∀ (r:List α) (a x:α),r[r.length-1]? = some x->(sad c a r)[(sad c a r).length-1]? = some x
 | [],a,x,h=>by cases h
 | [y],a,x,h=>by simpa [sad] using h
 | y :: z :: r,a,x,h=>by
  have:=aH4 c (z :: r) y x (by simpa using h)
  rw [ad0] at this ⊢;rw [sad]
  simpa using this
theorem aq7 (c:α):∀ (p:List α) (x:α),p[p.length-1]? = some x->(shn c p)[(shn c p).length-1]? = some x
 | [],x,h=>by cases h
 | [y],x,h=>by simpa [shn,sad] using h
 | y :: z :: r,x,h=>aH4 c _ y x (aq7 c (z :: r) x (by simpa using h))
def wid (b:α):List α->List α
 | []=>[]
 | a :: p=>(a*b ^ p.length) :: wid b p
def bck (b:α):List α->List α
 | []=>[]
 | a :: p=>a :: (bck b p).map (· * b)
end
theorem aT9 {t b c:Rat} (hb:b ≠ 0) (ht:t=c*b):∀ (r s:List Rat) (y x k:Rat),bck b r=s.map (· * k)->y=x*(k*b)->bck b (sad t y r)=(sad c x s).map (· * (k*b))
 | [],s,y,x,k,h,hy=>by
  cases s with
  | nil=>simp only [sad,bck,j0g,z1h,hy]
  | cons _ _=>simp [bck] at h
 | r :: rs,s,y,x,k,h,hy=>by
  cases s with
  | nil=>simp [bck] at h
  | cons s ss =>
   rw [bck,j0g] at h;obtain ⟨h1,h2⟩:=List.cons.inj h
   have h3:bck b rs=ss.map (· * (k / b)):=by
    have:=congrArg (List.map (· * b⁻¹)) h2
    rw [y0p,y0p] at this;have e1:((· * b⁻¹) ∘ (· * b):Rat->Rat)=id:=by funext z;simp only [Function.comp,id];rw [j0m,q0d b hb,m0f]
    rw [e1,z1t] at this;rw [this]
    congr 1
    funext z
    simp only [Function.comp];rw [q0u,j0m]
   have kb:k / b*b=k:=by rw [q0u,j0m,y0z b hb,m0f]
   have ih:=aT9 hb ht rs ss r s (k / b) h3 (by rw [kb];exact h1)
   rw [kb] at ih;rw [sad,bck,ih,sad,j0g,y0p]
   congr 1
   ·rw [hy,h1,ht];grind
   ·congr 1;funext z;simp only [Function.comp];grind
theorem aT8 {t b c:Rat} (hb:b ≠ 0) (ht:t=c*b):∀ w:List Rat,bck b (shn t (wid b w))=(shn c w).map (· * (b ^ w.length / b))
 | []=>rfl
 | a :: p=>by
  have kb:b ^ p.length / b*b=b ^ p.length:=by rw [q0u,j0m,y0z b hb,m0f]
  have h:=aT9 (c:=c) hb ht _ _ (a*b ^ p.length) a (b ^ p.length / b) (aT8 hb ht p) (by rw [kb])
  rw [kb] at h;rw [wid,shn,shn,h,q0x]
  congr 1
  funext z
  congr 1
  rw [q0u,q0r,j0m,q0d b hb,m0f]
open PySem L2 PyProof.Rows
structure Bd6 (q:Rat):Prop where
 n:q.num.natAbs<2 ^ 6000
 d:q.den<2 ^ 6000
theorem BdN.bd6 {n:Nat} {q:Rat} (h:BdN n q) (l:n<=6000):Bd6 q:=⟨q0b h.n (c6 l),q0b h.d (c6 l)⟩
theorem an3:∀ (qs:List Rat) (b:Nat),0<b->0<qs.foldl (λb q=>g0e b q.den) b
 | [],b,h=>h
 | q :: qs,b,h=>an3 qs _ (Nat.lcm_pos h (by have:=q.den_nz;omega))
theorem C1 (qs:List Rat):0<j4 qs:=an3 qs 1 (by decide)
theorem aF1 (qs:List Rat):q0q (x9 (j1 (j4 qs) qs):Int) (j4 qs:Int)=1:=by
 have hB:=C1 qs
 have key:∀ c:Nat,c ∣ x9 (j1 (j4 qs) qs)->c ∣ j4 qs->c=1:=by
  intro c h1 h2;have hc:0<c:=Nat.pos_of_dvd_of_pos h2 hB
  have h3:j4 qs ∣ j4 qs / c:=by
   refine as3 λq hq=>?_;obtain ⟨e,he⟩:=J1 hq;have hd:(q.den:Int) ≠ 0:=by have:=q.den_nz;omega
   have e1:(j4 qs:Int).fdiv (q.den:Int)=(e:Int):=by
    rw [he,z0x];exact i8 hd
   have m1:(c:Int) ∣ q.num*(e:Int):=by
    have:=v0e (j0h.mpr h1) (P8 (v0p.mpr ⟨q,hq,rfl⟩));rw [e1] at this;exact this
   have m2:c ∣ q.num.natAbs*e:=by
    have:=y0g.mpr m1;rw [z0b] at this
    simpa using this
   have m3:c ∣ q.den*e:=by rw [<- he];exact h2
   have m4:c ∣ e:=by
    have:=Nat.dvd_gcd m2 m3;rw [Nat.gcd_mul_right] at this;have hg:Nat.gcd q.num.natAbs q.den=1:=q.reduced;rw [hg,Nat.one_mul] at this;exact this
   obtain ⟨f,hf⟩:=m4;rw [he,hf];refine ⟨f,?_⟩;rw [show q.den*(c*f)=c*(q.den*f) by grind,Nat.mul_div_cancel_left _ hc]
  have h4:=u0a (Nat.div_pos (u0a hB h2) hc) h3;have h5:=Nat.div_mul_cancel h2
  by_cases hc1:c=1
  ·exact hc1
  ·have:j4 qs / c*2<=j4 qs / c*c:=j0j _ ⋯
   omega
 have z:=key (q0q (x9 (j1 (j4 qs) qs):Int) (j4 qs:Int));refine z ?_ ?_
 ·exact j0h.mp (y0b _ _)
 ·exact j0h.mp (j0v _ _)
theorem ag8 {α:Type} [Lean.Grind.CommRing α] (b:α):∀ l:List α,(wid b l).length=l.length
 | []=>rfl
 | a :: l=>by simp only [wid,q0x,ag8 b l]
theorem ag9 (b:Int):∀ (l:List Int) (i:Nat),(wid b l)[i]? = (l[i]?).map λv=>v*b ^ (l.length-1-i)
 | [],i=>by simp [wid]
 | a :: l,0=>by simp [wid]
 | a :: l,i+1=>by
  simp only [wid,j0d,ag9 b l i,q0x]
  congr 1
  funext v
  congr 2
  omega
theorem aF4 (b:Int):∀ (l:List Int) (i:Nat),(bck b l)[i]? = (l[i]?).map λv=>v*b ^ i
 | [],i=>by simp [bck]
 | a :: l,0=>by simp [bck]
 | a :: l,i+1=>by
  simp only [bck,j0d,z0k,aF4 b l i,Option.map_map]
  congr 1
  funext v
  simp only [Function.comp];rw [Int.pow_succ,m0m]
theorem aS3 (c a:Int):∀ r:List Int,(sad c a r).map (λv:Int=>(v:Rat))=sad (c:Rat) (a:Rat) (r.map λv:Int=>(v:Rat))
 | []=>rfl
 | x :: r=>by
  simp only [sad,j0g,aS3 c x r]
  congr 1
  show ((a+c*x:Int):Rat)=(a:Rat)+(c:Rat)*(x:Rat);rw [q1n,z0e]
theorem aS2 (c:Int):∀ p:List Int,(shn c p).map (λv:Int=>(v:Rat))=shn (c:Rat) (p.map λv:Int=>(v:Rat))
 | []=>rfl
 | a :: p=>by simp only [shn,j0g,aS3,aS2 c p]
theorem aS1 (b:Int):∀ p:List Int,(wid b p).map (λv:Int=>(v:Rat))=wid (b:Rat) (p.map λv:Int=>(v:Rat))
 | []=>rfl
 | a :: p=>by
  simp only [wid,j0g,aS1 b p,z0g]
  congr 1
  show ((a*b ^ p.length:Int):Rat)=(a:Rat)*(b:Rat) ^ p.length;rw [z0e,y0t]
theorem aS4 (b:Int):∀ p:List Int,(bck b p).map (λv:Int=>(v:Rat))=bck (b:Rat) (p.map λv:Int=>(v:Rat))
 | []=>rfl
 | a :: p=>by
  simp only [bck,j0g,y0p];rw [<- aS4 b p,y0p]
  congr 1
  congr 1
  funext v
  simp only [Function.comp];exact z0e _ _
theorem aH3 (s c a:Rat):∀ r:List Rat,sad c (s*a) (r.map (s * ·))=(sad c a r).map (s * ·)
 | []=>rfl
 | x :: r=>by
  simp only [sad,j0g,aH3 s c x r]
  congr 1
  grind
theorem ah9 (s c:Rat):∀ p:List Rat,shn c (p.map (s * ·))=(shn c p).map (s * ·)
 | []=>rfl
 | a :: p=>by simp only [shn,j0g,ah9 s c p,aH3]
theorem aq8 {t b:Int} {c s:Rat} (hb:b ≠ 0) (hc:(t:Rat)=c*(b:Rat)) (ws:List Int) :
  scl (s / ((b ^ (ws.length-1):Int):Rat)) (bck b (shn t (wid b ws)))=shn c (scl s ws):=by
 have hb':(b:Rat) ≠ 0:=λz=>hb (by exact_mod_cast z)
 have e1:scl s ws=(ws.map λv:Int=>(v:Rat)).map (s * ·):=by unfold scl;rw [y0p];rfl
 have e2:∀ (u:Rat) (l:List Int),scl u l=(l.map λv:Int=>(v:Rat)).map (u * ·):=λu l=>by unfold scl;rw [y0p];rfl
 rw [e1,ah9,e2,aS4,aS2,aS1,aT8 hb' hc,y0p,z0g];refine g0z λz hz=>?_;simp only [Function.comp]
 have hl:0<ws.length:=by
  cases ws with
  | nil=>cases hz
  | cons _ _=>simp
 obtain ⟨k,hk⟩:∃ k,ws.length=k+1:=⟨ws.length-1,⋯⟩
 have hp:(b:Rat) ^ k ≠ 0:=by
  intro z;have:((b ^ k:Int):Rat)=0:=by rw [y0t];exact z
  have h0:(b ^ k:Int)=0:=by exact_mod_cast this
  exact absurd h0 (Int.pow_ne_zero hb)
 rw [hk,q0w,y0t,q0r,q0u,q0u];have f1:(b:Rat)*(b:Rat)⁻¹=1:=q0d _ hb';have f2:(b:Rat) ^ k*((b:Rat) ^ k)⁻¹=1:=q0d _ hp;generalize ((b:Rat) ^ k)⁻¹=d at *;generalize (b:Rat) ^ k=D at *;generalize (b:Rat)⁻¹=c' at *;generalize (b:Rat)=b' at *
 grind
theorem bb8 {c:Int} {B e:Nat} (hc:c.natAbs<2 ^ e):∀ (r:List Int) (a:Int),a.natAbs<2 ^ B->(∀ v ∈ r,z0q v<2 ^ B)->∀ v ∈ sad c a r,z0q v<2 ^ (B+e+1)
 | [],a,ha,_,v,hv=>by
  rw [j0q.mp hv];exact q0b ha (c6 ⋯)
 | x :: r,a,ha,h,v,hv=>by
  rcases z0z.mp hv with z | z
  ·have hx:=h x z0s
   have h2:(c*x).natAbs<2 ^ (B+e):=by
    rw [z0b,m0y,z0u];exact j0b hc hx
   have h3:2 ^ B<=2 ^ (B+e):=c6 ⋯;have z':v=a+c*x:=z;rw [z',j0w];omega
  ·exact bb8 hc r x (h x z0s) (λv hv=>h v (z0h _ hv)) v z
theorem aL9 {c:Int} {W e:Nat} (hc:c.natAbs<2 ^ e):∀ l:List Int,(∀ v ∈ l,z0q v<2 ^ W)->∀ v ∈ shn c l,z0q v<2 ^ (W+(e+1)*l.length)
 | [],_,v,hv=>by cases hv
 | a :: p,h,v,hv=>by
  have ih:=aL9 hc p λv hv=>h v (z0h _ hv);have ha:=h a z0s;have e1:W+(e+1)*(a :: p).length=W+(e+1)*p.length+e+1:=by rw [q0x,z1k];omega
  rw [e1];exact bb8 hc _ a (q0b ha (c6 ⋯)) ih v hv
theorem aB3 (c:Rat):∀ (r:List Rat) (a:Rat) (k:Nat),k<=r.length->(sad c a r)[k]? = some ((if k=0 then a else (r[k-1]?).getD 0)+c*(r[k]?).getD 0)
 | [],a,k,h=>by
  have:k=0:=by simpa using h
  subst this;simp only [sad,y0k,if_pos,u0s,v0m]
  congr 1;grind
 | x :: r,a,0,h=>by simp [sad]
 | x :: r,a,k+1,h=>by
  have:=aB3 c r x k (by simpa using h)
  rw [sad,j0d,this]
  cases k with
  | zero=>simp
  | succ k=>simp
theorem w9 {f:Nat->Rat}:∀ n,(∀ i,i<n->f i=0)->c7 f n=0
 | 0,_=>rfl
 | n+1,h=>by
  rw [c7,w9 n (λi hi=>h i ⋯),h n ⋯]
  grind
theorem aI8 {r:List Rat} (hr:r ≠ []) (c:Rat) {k:Nat} (hk:k<=r.length):(w8 r [c,1])[k]? = some ((if k=0 then 0 else (r[k-1]?).getD 0)+c*(r[k]?).getD 0):=by
 rw [aJ0 hr (by simp) (by simp only [q0x,j0y];omega)]
 congr 1
 rw [c7,g0q];simp only [y0k,g0a]
 cases k with
 | zero=>rw [c7,if_pos rfl];grind
 | succ k =>
  rw [c7,w9 k λi hi=>?_,show k+1-k=1 by omega,if_neg ⋯]
  ·simp only [j0d,y0k,g0a,q0w]
   grind
  ·have:k+1-i=(k-1-i)+2:=⋯
   rw [this];simp only [j0d,u0s,v0m]
   grind
theorem aS0 {r:List Rat} (hr:r ≠ []) (c:Rat):w8 r [c,1]=sad c 0 r:=by
 have hl:(w8 r [c,1]).length=r.length+1:=by rw [U7 hr (by simp)];simp only [q0x,j0y];omega
 refine m0r λk=>?_
 by_cases hk:k<=r.length
 ·rw [aI8 hr c hk,aB3 c r 0 k hk]
 ·rw [q0z ⋯,q0z (by rw [ad0];omega)]
theorem aK4 (c a b:Rat):∀ r:List Rat,Q3 (sad c a r) [b]=sad c (a+b) r
 | []=>rfl
 | x :: r=>by
  simp only [sad,Q3,aK5]
  congr 1
  grind
theorem bx3 {r:List Rat} (hr:r ≠ []) (c a:Rat):Q3 (w8 r [c,1]) [a]=sad c a r:=by
 rw [aS0 hr,aK4,Rat.zero_add]
open PySem L2 PyProof.Rows
structure ClN (W:Nat) (qs:List Rat):Prop where
 l:j4 qs<2 ^ W
 w:∀ v ∈ j1 (j4 qs) qs,z0q v<2 ^ W
theorem ClN.den {W:Nat} {qs:List Rat} (h:ClN W qs) {q:Rat} (hq:q ∈ qs):q.den<2 ^ W:=q0k (u0a (C1 qs) (J1 hq)) h.l
theorem ClN.num {W:Nat} {qs:List Rat} (h:ClN W qs) {q:Rat} (hq:q ∈ qs):q.num.natAbs<2 ^ W:=by
 have h1:=h.w _ (v0p.mpr ⟨q,hq,rfl⟩);obtain ⟨e,he⟩:=J1 hq;have hp:=C1 qs;have h0:(q.den:Int) ≠ 0:=by have:=q.den_nz;omega
 have e1:(j4 qs:Int).fdiv (q.den:Int)=(e:Int):=by
  rw [he,z0x];exact i8 h0
 rw [e1,z0b,q0m] at h1;refine q0k (q1f _ ?_) h1;rcases v0t e with z | z
 ·rw [z] at he;omega
 ·exact z
theorem ClN.take {W:Nat} {qs:List Rat} (h:ClN W qs) (i:Nat):j4 (qs.take i)<2 ^ W :=
 q0k (u0a (C1 qs) (as3 λq hq=>J1 (g0r hq))) h.l
theorem aj2 (v:Int) (L:Nat):q0e 1 L*(v:Rat)=q0e v L:=by
 have h1:=z0y (v:Rat);rw [g0s,g0t] at h1
 conv=>lhs;rw [<- h1]
 rw [v0a]
 simp
theorem at3 (v:Int) {L:Nat} (h:0<L):(q0e v L).den ∣ L:=by
 have hL:(L:Int) ≠ 0:=⋯;obtain ⟨_,e2⟩:=aD6 (t:=v) (b:=(L:Int)) (g:=(q0q v L:Int)) hL (by rw [if_neg ⋯])
 obtain ⟨k,hk⟩:=j0v v (L:Int);have hg:=C6 (t:=v) hL
 have e3:(L:Int).fdiv (q0q v L:Int)=k:=by
  conv=>lhs;arg 1;rw [hk]
  exact i8 ⋯
 rw [e3] at e2;have:((q0e v L).den:Int) ∣ (L:Int):=⟨_,by rw [v0n,<- e2];exact hk⟩
 exact j0h.mp this
theorem aE8 (v:Int) {L:Nat} (h:0<L):(q0e v L).num*L=v*((q0e v L).den:Int):=by
 have hL:(L:Int) ≠ 0:=⋯;have hd:((q0e v L).den:Int) ≠ 0:=by have:=(q0e v L).den_nz;omega
 exact (z0w hd hL).mp (z0y _)
theorem ay2 {L W:Nat} {vs:List Int} (hL0:0<L) (hL:L<2 ^ W) (hv:∀ v ∈ vs,z0q v<2 ^ W):ClN W (scl (q0e 1 L) vs):=by
 have hd:j4 (scl (q0e 1 L) vs) ∣ L:=as3 λq hq=>by
  obtain ⟨v,_,rfl⟩:=v0p.mp hq;rw [aj2];exact at3 v hL0
 have hle:=u0a hL0 hd;refine ⟨q0k hle hL,λu hu=>?_⟩;obtain ⟨q,hq,rfl⟩:=v0p.mp hu;obtain ⟨e,he⟩:=J1 hq;have h0:(q.den:Int) ≠ 0:=by have:=q.den_nz;omega
 have e1:(j4 (scl (q0e 1 L) vs):Int).fdiv (q.den:Int)=(e:Int):=by
  rw [he,z0x];exact i8 h0
 obtain ⟨v,hvm,hvq⟩:=v0p.mp hq;rw [aj2] at hvq;have hc:=aE8 v hL0;rw [hvq] at hc
 have hc':q.num.natAbs*L=v.natAbs*q.den:=by
  have:=congrArg z0q hc
  rwa [z0b,z0b,q0m,q0m] at this
 rw [e1,z0b,q0m];refine q0k ?_ (hv v hvm)
 have h2:(q.num.natAbs*e)*L<=v.natAbs*L:=by
  calc (q.num.natAbs*e)*L=(q.num.natAbs*L)*e:=by rw [Nat.mul_right_comm]
   _=v.natAbs*(q.den*e):=by rw [hc',z1c]
   _<=v.natAbs*L:=j0j _ (by rw [<- he];exact hle)
 exact Nat.le_of_mul_le_mul_right h2 hL0
theorem bk3 (qs:List Rat):scl (q0e 1 (j4 qs)) (j1 (j4 qs) qs)=qs:=by
 unfold scl j1;rw [y0p]
 conv=>rhs;rw [<- z1t qs]
 refine g0z λq hq=>?_
 show q0e 1 (j4 qs)*((q.num*(j4 qs:Int).fdiv (q.den:Int):Int):Rat)=q;rw [aj2];exact (aq1 (C1 qs) (J1 hq)).symm
open PySem L2 PyProof.Rows
structure bz2 (H:Hp) (p:Addr) (qs:List Rat):Prop where
 ex:∃ xs,H p=some (.lst xs)/\p7 H xs qs
 bd:∀ q ∈ qs,q.den<2 ^ 6000
 len:qs.length<900
 tl:Q7 qs qs.length
inductive bj3 (H:Hp):List Addr->List (List Rat)->Prop where
 | nil:bj3 H [] []
 | cons {p:Addr} {ps:List Addr} {L:List Rat} {Ls:List (List Rat)} (h:bz2 H p L) (t:bj3 H ps Ls):bj3 H (p :: ps) (L :: Ls)
open PySem L2 PyProof.Rows
theorem bh8 (xs:List V) {n:Nat} (h:n<=xs.length):aO9 xs (some (n:Int)) none=xs.drop n:=by
 unfold aO9
 have e1:HT.sIx xs.length 0 (some (n:Int))=n:=by
  simp only [HT.sIx];rw [if_neg ⋯];omega
 have e2:HT.sIx xs.length xs.length none=xs.length:=rfl;rw [e1,e2,v0v (by rw [j0s];omega)]
theorem aE9 (xs:List V):aO9 xs (some 1) none=xs.drop 1:=by
 cases xs with
 | nil=>exact y0h (by have:=an9 [] (some 1) none;simpa using this)
 | cons x xs=>exact bh8 (x :: xs) (n:=1) (by simp)
theorem ae5 {α:Type} {l:List α} {i:Nat} {x:α} (h:l[i]? = some x):l.take (i+1)=l.take i ++ [x]:=by rw [u0p,h];rfl
theorem W3 {qs:List Rat} (h:∀ x,qs[qs.length-1]? = some x->x ≠ 0):Q7 qs qs.length :=
 ⟨q0j _,λi q hi e=>(by rw [q0z hi] at e;cases e),λ_ q e=>h q e⟩
theorem p9.seq {K:q0a} {u:Addr} {H H':Hp} {b:Addr} {xs:List V} (s:p9 u H H') (hu:H u=none) (h:SqL K H b xs):SqL K H' b xs:=by
 rcases h with h | h
 ·rcases h with h | ⟨o,h⟩
  ·exact .inl (.inl (s _ _ h (i6 h hu)))
  ·exact .inl (.inr ⟨o,s _ _ h (i6 h hu)⟩)
 ·exact .inr h
def aQ0 (K:q0a):Sp:=λvs H Q _ => ∃ (a:Addr) (ns:List Int),vs=[.ref a]/\SqL K H a (ns.map V.int)/\ns.length<=63/\∀ H',Q (.bl true) H'
structure ExT (K:q0a) (mg:Str->Option Value) (x:Str) (C:Addr):Prop where
 m:mg x=some (.ref C)
 ox:bp4 K C [.type "ValueError",.type "Exception",.type "BaseException",.type "object"] "ValueError.__new__"
 ec:au1 K C
structure CAd where
 c_NoFraction:Addr
 c_NoPolynomial:Addr
 c_NoStretch:Addr
 c_NoRow:Addr
 c_NoPair:Addr
 c_NoBack:Addr
 c_NoForm:Addr
 c_NoParts:Addr
 c_NoDegree:Addr
 c_NoSteps:Addr
 c_NoBox:Addr
 c_NoGain:Addr
 c_NoText:Addr
 c_NoLine:Addr
 c_NoName:Addr
 c_NoDeed:Addr
 c_RestError:Addr
structure XTx (K:q0a) (mg:Str->Option Value) (a:CAd):Prop where
 x_NoFraction:ExT K mg "NoFraction" a.c_NoFraction
 x_NoPolynomial:ExT K mg "NoPolynomial" a.c_NoPolynomial
 x_NoStretch:ExT K mg "NoStretch" a.c_NoStretch
 x_NoRow:ExT K mg "NoRow" a.c_NoRow
 x_NoPair:ExT K mg "NoPair" a.c_NoPair
 x_NoBack:ExT K mg "NoBack" a.c_NoBack
 x_NoForm:ExT K mg "NoForm" a.c_NoForm
 x_NoParts:ExT K mg "NoParts" a.c_NoParts
 x_NoDegree:ExT K mg "NoDegree" a.c_NoDegree
 x_NoSteps:ExT K mg "NoSteps" a.c_NoSteps
 x_NoBox:ExT K mg "NoBox" a.c_NoBox
 x_NoGain:ExT K mg "NoGain" a.c_NoGain
 x_NoText:ExT K mg "NoText" a.c_NoText
 x_NoLine:ExT K mg "NoLine" a.c_NoLine
 x_NoName:ExT K mg "NoName" a.c_NoName
 x_NoDeed:ExT K mg "NoDeed" a.c_NoDeed
structure bz6 (K:q0a) (a:CAd) (C:Addr) (j:Nat):Prop where
 k_NoFraction:z0m K (.ref C) (.ref a.c_NoFraction)=some (decide (j=0))
 k_NoPolynomial:z0m K (.ref C) (.ref a.c_NoPolynomial)=some (decide (j=1))
 k_NoStretch:z0m K (.ref C) (.ref a.c_NoStretch)=some (decide (j=2))
 k_NoRow:z0m K (.ref C) (.ref a.c_NoRow)=some (decide (j=3))
 k_NoPair:z0m K (.ref C) (.ref a.c_NoPair)=some (decide (j=4))
 k_NoBack:z0m K (.ref C) (.ref a.c_NoBack)=some (decide (j=5))
 k_NoForm:z0m K (.ref C) (.ref a.c_NoForm)=some (decide (j=6))
 k_NoParts:z0m K (.ref C) (.ref a.c_NoParts)=some (decide (j=7))
 k_NoDegree:z0m K (.ref C) (.ref a.c_NoDegree)=some (decide (j=8))
 k_NoSteps:z0m K (.ref C) (.ref a.c_NoSteps)=some (decide (j=9))
 k_NoBox:z0m K (.ref C) (.ref a.c_NoBox)=some (decide (j=10))
 k_NoGain:z0m K (.ref C) (.ref a.c_NoGain)=some (decide (j=11))
 k_NoText:z0m K (.ref C) (.ref a.c_NoText)=some (decide (j=12))
 k_NoLine:z0m K (.ref C) (.ref a.c_NoLine)=some (decide (j=13))
 k_NoName:z0m K (.ref C) (.ref a.c_NoName)=some (decide (j=14))
 k_NoDeed:z0m K (.ref C) (.ref a.c_NoDeed)=some (decide (j=15))
 kV:z0m K (.ref C) (.type "ValueError")=some true
 ec:au1 K C
 ex:PySem.W.exmOne K (.ref C) (.ref a.c_RestError)=some true
def aN7 (j:Nat):Str:=[("fraction" : Str),"polynomial","stretch","row","pair","back","form","parts","degree","steps","box","gain","text","line","name","deed"].getD j ""
def aA2 (K:q0a) (a:CAd):Sp:=λvs H Q _ => ∃ e C j,vs=[.ref e]/\bz6 K a C j/\j<16/\H e=some (Exc (.ref C) e)/\∀ H',b9 H H'->Q (.str (aN7 j)) H'
def aG5 (j:Nat):List V:=[V.bl (decide (j=0)),V.bl (decide (j=1)),V.bl (decide (j=2)),V.bl (decide (j=3))] ++ [V.bl (decide (j=4)),V.bl (decide (j=5)),V.bl (decide (j=6)),V.bl (decide (j=7))] ++ [V.bl (decide (j=8)),V.bl (decide (j=9)),V.bl (decide (j=10)),V.bl (decide (j=11))] ++ [V.bl (decide (j=12)),V.bl (decide (j=13)),V.bl (decide (j=14)),V.bl (decide (j=15))]
theorem aL3:∀ j,j<16->(aG5 j).countP (λz=>eqV z (V.bl true))=1:=by decide
theorem aZ7:∀ j,j<16->(aG5 j).findIdx? (λz=>eqV z (V.bl true))=some j:=by decide
theorem aw1:∀ j,j<16->(aG5 j).all P9=true:=by decide
theorem am9:ad4 "fraction polynomial stretch row pair back form parts degree steps box gain text line name deed" " " = [("fraction" : Str),"polynomial","stretch","row","pair","back","form","parts","degree","steps","box","gain","text","line","name","deed"]:=by decide +kernel
theorem bl8 {j:Nat} (hj:j<16):atI ((ad4 "fraction polynomial stretch row pair back form parts degree steps box gain text line name deed" " ").map V.str) (j:Int)=some (.str (aN7 j)):=by
 rw [am9];refine B3 ?_;have:∀ j,j<16->((["fraction","polynomial","stretch","row","pair","back","form","parts","degree","steps","box","gain","text","line","name","deed"]:List Str).map V.str)[j]? = some (.str (aN7 j)):=by decide
 exact this j hj
theorem aj9 {ws:List Int} {i:Nat} {x:V} (h:(ws.map V.int)[i]? = some x):∃ v,ws[i]? = some v/\x=.int v:=by
 rw [z0k] at h
 cases hw:ws[i]? with
 | none=>rw [hw] at h;cases h
 | some v=>rw [hw] at h;cases h;exact ⟨v,rfl,rfl⟩
open PySem L2 PyProof.Rows
def top (i:Nat):Stmt:=PySem.Challenge.pw_restward_k52_lines.main.body.getD i (.Pass ⟨0,0,0,0⟩)
open PySem L2 PyProof.Rows
end R
namespace L2
open PySem PyProof.Rows
end L2
set_option maxRecDepth 100000
namespace R
open PySem L2 PyProof.Rows
theorem bk6 (r:Rat):(r.num:Rat) / ((r.den:Int):Rat)=r:=by
 rw [<- q0y];exact z0y r
theorem bl3 (B:Nat) (hB:0<B) (p:Int):q0e 1 B / (p:Rat)=q0e 1 ((B:Int)*p):=by
 have h:=Y9 (n:=1) (d:=(B:Int)) ⋯ (by simp)
 rw [at2,h.1,h.2,g0s,g0t]
 simp
mutual
def noU:D->Bool
 | .v _=>true
 | .tup ds=>bv5 ds
 | .lst ds=>(ds.length != 3) && bv5 ds
def bv5:List D->Bool
 | []=>true
 | d :: ds=>noU d && bv5 ds
end
end R
set_option maxRecDepth 100000
namespace L2
open PySem PyProof.Rows
end L2
namespace R
open PySem L2 PyProof.Rows
inductive Rws (H:Hp):List Addr->List (List Rat)->Prop where
 | nil:Rws H [] []
 | cons {p:Addr} {xs:List V} {ps:List Addr} {L:List Rat} {Ls:List (List Rat)} (h:H p=some (.lst xs)) (n:p7 H xs L) (t:Rws H ps Ls):Rws H (p :: ps) (L :: Ls)
structure TabAt (H:Hp) (D:Addr) (M:List (List Rat)) (H2:Hp):Prop where
 same:b9 H H2
 at':∃ ts:List Addr,H2 D=some (.lst (ts.map V.ref))/\(∀ t ∈ ts,H t=none/\t ≠ D)/\ts.Nodup/\Rws H2 ts M
structure at8 (H:Hp) (D:Addr) (L:List Rat) (H2:Hp):Prop where
 same:b9 H H2
 at':∃ xs:List V,H2 D=some (.lst xs)/\p7 H2 xs L
theorem at8.start {H:Hp} {D:Addr} (h:H D=none):at8 H D [] (upd H D (.lst [])):=⟨b9.new h _,[],b6,.nil⟩
theorem at8.add {H H2 H3:Hp} {D p:Addr} {L:List Rat} {q:Rat} (t:at8 H D L H2) (h:H D=none) (s:b9 H2 H3) (e:H3 p=some (.tup (k6 q))) :
  ∃ ys,H3 D=some (.lst ys)/\ys.length=L.length/\at8 H D (L ++ [q]) (upd H3 D (.lst (ys ++ [.ref p]))):=by
 obtain ⟨s2,xs,e2,n2⟩:=t;have eD:=s _ _ e2;exact ⟨xs,eD,n2.length,(s2.trans s).over h _,_,b6,((n2.mono s.tups).append (.cons e .nil)).mono (N3.lst eD)⟩
def NmC (K:q0a) (H:Hp) (p:Addr) (q:Rat):Prop:=H p=some (.tup (k6 q)) \/ ∀ H',SqT K H' p (k6 q)
theorem NmC.sqt {K:q0a} {H:Hp} {p:Addr} {q:Rat}:NmC K H p q->SqT K H p (k6 q)
 | .inl h=>SqT.of h
 | .inr h=>h H
theorem NmC.mono {K:q0a} {H H':Hp} {p:Addr} {q:Rat} (e:N3 H H'):NmC K H p q->NmC K H' p q
 | .inl h=>.inl (e _ _ h)
 | .inr h=>.inr h
inductive N5 (K:q0a) (H:Hp):List V->List Rat->Prop where
 | nil:N5 K H [] []
 | cons {p:Addr} {q:Rat} {vs:List V} {qs:List Rat} (h:NmC K H p q) (t:N5 K H vs qs):N5 K H (.ref p :: vs) (q :: qs)
theorem N5.mono {K:q0a} {H H':Hp} (e:N3 H H'):∀ {vs:List V} {qs:List Rat},N5 K H vs qs->N5 K H' vs qs
 | _,_,.nil=>.nil
 | _,_,.cons h t=>.cons (h.mono e) (t.mono e)
theorem N5.length {K:q0a} {H:Hp}:∀ {vs:List V} {qs:List Rat},N5 K H vs qs->vs.length=qs.length
 | _,_,.nil=>rfl
 | _,_,.cons _ t=>congrArg (· + 1) t.length
theorem N5.getV {K:q0a} {H:Hp}:∀ {vs:List V} {qs:List Rat} {i:Nat} {v:V},N5 K H vs qs->vs[i]? = some v->∃ p q,v=.ref p/\qs[i]? = some q/\NmC K H p q
 | _,_,_,_,.nil,e=>by simp at e
 | _,_,0,_,.cons h t,e=>by cases e;exact ⟨_,_,rfl,rfl,h⟩
 | _,_,i+1,_,.cons _ t,e=>t.getV (i:=i) (by simpa using e)
theorem p7.toC {K:q0a} {H:Hp}:∀ {vs:List V} {qs:List Rat},p7 H vs qs->N5 K H vs qs
 | _,_,.nil=>.nil
 | _,_,.cons h t=>.cons (.inl h) t.toC
inductive bp2 (K:q0a) (H:Hp):List Addr->List (List Rat)->Prop where
 | nil:bp2 K H [] []
 | cons {p:Addr} {xs:List V} {ps:List Addr} {L:List Rat} {Ls:List (List Rat)} (h:H p=some (.lst xs)) (n:N5 K H xs L) (t:bp2 K H ps Ls):bp2 K H (p :: ps) (L :: Ls)
structure TabC (K:q0a) (H:Hp) (D:Addr) (M:List (List Rat)) (H2:Hp):Prop where
 same:b9 H H2
 at':∃ ts:List Addr,H2 D=some (.lst (ts.map V.ref))/\(∀ t ∈ ts,H t=none/\t ≠ D)/\ts.Nodup/\bp2 K H2 ts M
structure RowC (K:q0a) (H:Hp) (D:Addr) (L:List Rat) (H2:Hp):Prop where
 same:b9 H H2
 at':∃ xs:List V,H2 D=some (.lst xs)/\N5 K H2 xs L
theorem aZ9 {α:Type} {l:List α} {n:Nat} (h:l.length<=n):l.take n=l:=v0v h
theorem al7 {n:Nat} (h:n<=100):n<sizeLine:=q0k h (by decide)
def ClA (D:Addr) (H:Hp) (v:V) (p:List Rat):Prop:=∃ r l,v=.ref r/\H r=some (.tup [.ref l,.int (j4 p)])/\H l=some (.lst ((j1 (j4 p) p).map V.int))/\l ≠ D
inductive ClL (D:Addr) (H:Hp):List V->List (List Rat)->Prop where
 | nil:ClL D H [] []
 | cons {v:V} {p:List Rat} {vs:List V} {ps:List (List Rat)} (h:ClA D H v p) (t:ClL D H vs ps):ClL D H (v :: vs) (p :: ps)
structure ClR (H:Hp) (D:Addr) (M:List (List Rat)) (H2:Hp):Prop where
 same:b9 H H2
 at':∃ vs:List V,H2 D=some (.lst vs)/\ClL D H2 vs M
def br8:List D->Bool
 | [.v (.int _),.v (.int _),.v (.int _)]=>true
 | _=>false
mutual
def noW:D->Bool
 | .v _=>true
 | .tup ds=>bv4 ds
 | .lst ds => !br8 ds && bv4 ds
def bv4:List D->Bool
 | []=>true
 | d :: ds=>noW d && bv4 ds
end
mutual
def smD (m:Nat):D->Prop
 | .v (.int i)=>i.natAbs<2 ^ m
 | .v _=>True
 | .tup ds=>bs6 m ds
 | .lst ds=>bs6 m ds
def bs6 (m:Nat):List D->Prop
 | []=>True
 | d :: ds=>smD m d/\bs6 m ds
end
def ak4 (p q:Rat):Bool:=decide (p.num*(q.den:Int)<q.num*(p.den:Int))
structure IsBox (B:List (Rat × Rat)):Prop where
 l2:2<=B.length
 l8:B.length<=8
 le:∀ s ∈ B,s.1<=s.2
 last:∀ s,B[B.length-1]? = some s->0<s.1
def zs (t b a:Int):List Int->List Int
 | []=>[b*a]
 | x :: r=>(b*a+t*x) :: zs t b x r
structure MidN (n:Nat) (R:List Rat):Prop where
 ex:∃ (B:Nat) (ws:List Int),0<B/\B<2 ^ (40*n+1)/\R=scl (q0e 1 B) ws/\∀ v ∈ ws,z0q v<2 ^ (41*n+1)
 len:R.length=n+1
 last:R[n]? = some 1
theorem BdN.neg {m:Nat} {q:Rat} (b:BdN m q):BdN m (-q):=⟨by rw [Rat.neg_num,m0b];exact b.n,by rw [Rat.neg_den];exact b.d⟩
theorem BdN.sub {m n:Nat} {p q:Rat} (a:BdN m p) (b:BdN n q):BdN (m+n+1) (p-q):=by
 rw [Rat.sub_eq_add_neg];exact a.add b.neg
inductive bj1 (H:Hp):List V->List (Rat × Rat)->Prop where
 | nil:bj1 H [] []
 | cons {p a b:Addr} {s:Rat × Rat} {vs:List V} {B:List (Rat × Rat)} (h:H p=some (.tup [.ref a,.ref b])) (ha:H a=some (.tup (k6 s.1))) (hb:H b=some (.tup (k6 s.2))) (t:bj1 H vs B):bj1 H (.ref p :: vs) (s :: B)
mutual
theorem ar9:∀ d:D,okD d d=true
 | .v _=>by rw [okD]
 | .tup ds=>by rw [okD];exact al2 ds
 | .lst ds=>by rw [okD];exact al2 ds
theorem al2:∀ ds:List D,ae1 ds ds=true
 | []=>by simp [ae1]
 | d :: ds=>by rw [ae1,ar9 d,al2 ds];rfl
end
structure TbX (u:Addr) (H:Hp) (a:Addr) (ts:List Addr) (M:List (List Rat)):Prop where
 au:a ≠ u
 tu:∀ t ∈ ts,t ≠ u
 at':H a=some (.lst (ts.map V.ref))
 rws:Rws H ts M
structure LsX (u:Addr) (H:Hp) (a:Addr) (xs:List V) (qs:List Rat):Prop where
 au:a ≠ u
 at':H a=some (.lst xs)
 nums:p7 H xs qs
theorem LsX.samex {u a:Addr} {H H':Hp} {xs:List V} {qs:List Rat} (t:LsX u H a xs qs) (s:p9 u H H') (hu:p8 H u):LsX u H' a xs qs:=⟨t.au,s _ _ t.at' t.au,t.nums.mono (s.tups hu)⟩
theorem LsX.same {u a:Addr} {H H':Hp} {xs:List V} {qs:List Rat} (t:LsX u H a xs qs) (s:b9 H H'):LsX u H' a xs qs:=⟨t.au,s _ _ t.at',t.nums.mono s.tups⟩
def hc (a:Nat->Rat) (i j:Nat):Rat:=if (i+j) % 2=1 then a i*a j else 0
def hf (a:Nat->Rat):Nat->Nat->Rat
 | 0,j=>hc a 0 (j+1)
 | i+1,j=>hc a (i+1) (j+1)-hf a i (j+1)
def pw (x:Rat):Nat->Rat
 | 0=>1
 | i+1=>pw x i*x
theorem m5 (c:Rat) (f:Nat->Rat):∀ n,c*c7 f n=c7 (λi=>c*f i) n
 | 0=>by simp [c7]
 | n+1=>by rw [c7,c7,<- m5 c f n];grind
theorem w4 (f g:Nat->Rat):∀ n,c7 f n+c7 g n=c7 (λi=>f i+g i) n
 | 0=>by simp [c7];grind
 | n+1=>by rw [c7,c7,c7,<- w4 f g n];grind
def hR (a:Nat->Rat) (n i:Nat) (y:Rat):Rat:=c7 (λj=>hf a i j*pw y j) n
def hC (a:Nat->Rat) (n i:Nat) (y:Rat):Rat:=c7 (λj=>hc a i j*pw y j) (n+1)
def sg (i:Nat):Rat:=if i % 2=0 then 1 else -1
def OvB (B W:Nat) (q:Rat):Prop:=∃ v:Int,q=q0e v B/\v.natAbs<2 ^ W
theorem OvB.mono {B V W:Nat} {q:Rat} (h:OvB B V q) (l:V<=W):OvB B W q:=let ⟨v,e,b⟩:=h;⟨v,e,q0b b (c6 l)⟩
theorem OvB.zero (B W:Nat):OvB B W 0:=⟨0,by rw [Rat.zero_divInt],j0f _⟩
theorem bu9 {W:Nat} {qs:List Rat} (h:ClN W qs) {q:Rat} (hq:q ∈ qs):OvB (j4 qs) W q :=
 ⟨_,aq1 (C1 qs) (J1 hq),h.w _ (v0p.mpr ⟨q,hq,rfl⟩)⟩
theorem OvB.mul {B C V W:Nat} {p q:Rat} (h:OvB B V p) (k:OvB C W q):OvB (B*C) (V+W) (p*q):=by
 obtain ⟨v,rfl,b⟩:=h;obtain ⟨u,rfl,c⟩:=k;refine ⟨v*u,by rw [v0a,z0x],?_⟩
 rw [z0b,z0u];exact j0b b c
theorem OvB.neg {B W:Nat} {q:Rat} (h:OvB B W q):OvB B W (-q):=by
 obtain ⟨v,rfl,b⟩:=h;exact ⟨-v,by rw [Rat.neg_divInt],by rw [m0b];exact b⟩
theorem OvB.add {B W:Nat} (hB:0<B) {p q:Rat} (h:OvB B W p) (k:OvB B W q):OvB B (W+1) (p+q):=by
 obtain ⟨v,rfl,b⟩:=h;obtain ⟨u,rfl,c⟩:=k;refine ⟨v+u,?_,?_⟩
 ·have hz:(B:Int) ≠ 0:=⋯
  rw [g0d _ _ hz hz];refine (z0w (g0u hz hz) hz).mpr ?_
  grind
 ·have:=m0q v u
  rw [j0w];omega
theorem OvB.bdN {B W:Nat} (hB:0<B) (hW:B<2 ^ W) {q:Rat} (h:OvB B W q):BdN W q:=by
 obtain ⟨v,rfl,b⟩:=h;have:=C4 (t:=v) (b:=(B:Int)) ⋯;rw [q0m] at this;exact ⟨q0k this.1 b,q0k this.2 hW⟩
theorem be8 {α:Type} {xs:List α} {x:α} (h:xs[xs.length-1]? = some x):atI xs (-1)=some x:=by
 have hp:xs.length-1<xs.length:=(z0f.mp h).1
 have e:ixN xs.length (-1)=some (xs.length-1):=by
  unfold ixN;rw [if_neg (by decide)]
  rw [if_pos ⋯]
  congr 1
  omega
 unfold atI;rw [e];exact h
def aQ (qs:List Rat) (k:Nat):Rat:=(qs[k]?).getD 0
def aZ (ws:List Int) (k:Nat):Int:=(ws[k]?).getD 0
theorem aF9 (s:Rat) (ws:List Int):aQ (scl s ws)=λk=>s*(aZ ws k:Rat):=by
 funext k
 unfold aQ aZ scl;rw [z0k]
 cases ws[k]? with
 | none=>simp [Rat.intCast_zero]
 | some v=>simp
theorem at7 {ws:List Int} {W:Nat} (h:∀ v ∈ ws,z0q v<2 ^ W):∀ k,(aZ ws k).natAbs<2 ^ W:=λk=>by
 unfold aZ
 cases q:ws[k]? with
 | none=>exact j0f _
 | some v=>exact h v (z0r q)
theorem az2 {α:Type} [Add α]:∀ (f:List α) (k:Nat) (x v:α),v ∈ U1 f k x->v ∈ f \/ ∃ y ∈ f,v=y+x
 | [],_,_,_,h=>by cases h
 | y :: r,0,x,v,h=>by
  rcases z0z.mp h with z | z
  ·exact .inr ⟨y,z0s,z⟩
  ·exact .inl (z0h _ z)
 | y :: r,k+1,x,v,h=>by
  rcases z0z.mp h with z | z
  ·exact .inl (by rw [z];exact z0s)
  ·rcases az2 r k x v z with w | ⟨u,hu,e⟩
   ·exact .inl (z0h _ w)
   ·exact .inr ⟨u,z0h _ hu,e⟩
theorem aZ0 {B W:Nat} (hB:0<B) {f:List Rat} {k:Nat} {x:Rat} (hf:∀ v ∈ f,OvB B W v) (hx:OvB B W x):∀ v ∈ U1 f k x,OvB B (W+1) v:=λv hv=>by
 rcases az2 f k x v hv with h | ⟨y,hy,rfl⟩
 ·exact (hf v h).mono ⋯
 ·exact (hf y hy).add hB hx
def cv (f g:Nat->Rat) (k:Nat):Rat:=c7 (λi=>f i*g (k-i)) (k+1)
theorem bp1 (p q:List Rat) (k:Nat):aQ (w8 p q) k=cv (aQ p) (aQ q) k:=by
 by_cases hp:p=[]
 ·subst hp
  have:w8 [] q=[]:=by unfold w8;rw [if_pos (.inl rfl)]
  rw [this]
  symm
  exact w9 _ λi _=>by show (0:Rat)*_=0;grind
 by_cases hq:q=[]
 ·subst hq
  have:w8 p []=[]:=by unfold w8;rw [if_pos (.inr rfl)]
  rw [this]
  symm
  exact w9 _ λi _=>by show _*(0:Rat)=0;grind
 by_cases hk:k<p.length+q.length-1
 ·have:=aJ0 hp hq hk
  unfold aQ;rw [this];rfl
 ·have h1:aQ (w8 p q) k=0:=by
   unfold aQ;rw [q0z (by rw [U7 hp hq];omega)];rfl
  rw [h1]
  symm
  refine w9 _ λi hi=>?_
  by_cases h2:i<p.length
  ·have:aQ q (k-i)=0:=by unfold aQ;rw [q0z ⋯];rfl
   rw [this];grind
  ·have:aQ p i=0:=by unfold aQ;rw [q0z ⋯];rfl
   rw [this];grind
theorem aO8 (f g h:Nat->Rat) (k:Nat):cv (λi=>f i+g i) h k=cv f h k+cv g h k:=by
 unfold cv;rw [w4];exact d6 λi _=>by grind
theorem by5 (c:Rat) (f h:Nat->Rat) (k:Nat):cv (λi=>c*f i) h k=c*cv f h k:=by
 unfold cv;rw [m5];exact d6 λi _=>by grind
theorem G1 (g:Nat->Rat) (t:Nat):∀ n,c7 (λi=>if i=t then g i else 0) n=if t<n then g t else 0
 | 0=>by rw [if_neg ⋯];rfl
 | n+1=>by
  rw [c7,G1 g t n]
  by_cases h:t<n
  ·rw [if_pos h,if_neg ⋯,if_pos ⋯];grind
  ·by_cases h2:n=t
   ·rw [if_neg h,if_pos h2,if_pos ⋯,h2];grind
   ·rw [if_neg h,if_neg h2,if_neg ⋯];grind
theorem aY4 (d:Rat) (t:Nat) (h:Nat->Rat) (k:Nat):cv (λi=>if i=t then d else 0) h k=if t<=k then d*h (k-t) else 0:=by
 unfold cv;have:c7 (λi=>(if i=t then d else 0)*h (k-i)) (k+1)=c7 (λi=>if i=t then d*h (k-i) else 0) (k+1):=d6 λi _=>by split <;> grind
 rw [this,G1]
 by_cases e:t<=k
 ·rw [if_pos ⋯,if_pos e]
 ·rw [if_neg ⋯,if_neg e]
def zc (ws:List Int) (k:Nat):Rat:=(aZ ws k:Rat)
structure Z9 (ws:List Int) (m:Nat):Prop where
 le:m<=ws.length
 zero:∀ i v,m<=i->ws[i]? = some v->v=0
 last:m ≠ 0->∀ v,ws[m-1]? = some v->v ≠ 0
def Dv (one other Q R:List Int) (many:Int):Prop:=∀ k,(many:Rat)*zc one k=cv (zc Q) (zc other) k+zc R k
theorem OvB.up {B W:Nat} {q:Rat} (h:OvB B W q) (hB:0<B) {C c:Nat} (hC:0<C) (hc:C<2 ^ c):OvB (B*C) (W+c) q:=by
 obtain ⟨v,rfl,b⟩:=h;refine ⟨v*C,?_,?_⟩
 ·rw [z0x]
  refine (z0w ⋯ (g0u ⋯ ⋯)).mpr ?_
  grind
 ·rw [z0b,q0m,z0u]
  exact j0b b hc
theorem ay3 {B W:Nat} (hB:0<B) (hW:B<2 ^ W) {qs:List Rat} (h:∀ x ∈ qs,OvB B W x):ClN W qs:=by
 have:∃ vs:List Int,qs=scl (q0e 1 B) vs/\∀ v ∈ vs,z0q v<2 ^ W:=by
  induction qs with
  | nil=>exact ⟨[],rfl,by simp⟩
  | cons q qs ih =>
   obtain ⟨vs,e,hv⟩:=ih λx hx=>h x (z0h _ hx);obtain ⟨v,e2,b⟩:=h q z0s;refine ⟨v :: vs,?_,λu hu=>?_⟩
   ·rw [e]
    show q :: _=(q0e 1 B*(v:Rat)) :: _;rw [aj2,<- e2];rfl
   ·rcases z0z.mp hu with z | z
    ·rw [z];exact b
    ·exact hv u z
 obtain ⟨vs,rfl,hv⟩:=this;exact ay2 hB hW hv
theorem bz0 {qs:List Rat} {P:Rat->Prop} (h0:P 0) (h:∀ x ∈ qs,P x) (k:Nat):P (aQ qs k):=by
 unfold aQ
 cases e:qs[k]? with
 | none=>exact h0
 | some v=>exact h v (z0r e)
def bD1 (u:Addr) (H:Hp) (v:V) (ps qs:List Rat):Prop:=v=.non \/ ∃ td l1 l2 zs1 zs2 g0 g1,v=.ref td/\td ≠ u/\H td=some (.tup [.ref l1,.ref l2])/\LsX u H l1 zs1 g0/\LsX u H l2 zs2 g1/\Q7 g0 g0.length/\Q7 g1 g1.length/\g1.length<qs.length/\∀ k,aQ ps k=cv (aQ qs) (aQ g0) k+aQ g1 k
structure PairOk (u:Addr) (H:Hp) (ap aq:Addr) (due:V) (xs ys:List V) (ps qs:List Rat) (S W1 W2:Nat):Prop where
 lp:LsX u H ap xs ps
 lq:LsX u H aq ys qs
 tp:Q7 ps ps.length
 tq:Q7 qs qs.length
 q0:qs ≠ []
 c1:ClN W1 ps
 c2:ClN W2 qs
 w1:1<=W1
 w2:1<=W2
 w3:W2<=690
 t:W1+S*(W2+1)+W2<=2300
 s:ps.length+1<=qs.length+S
 pl:ps.length<=16
 ql:qs.length<=16
 due:bD1 u H due ps qs
def mA (a b:Rat) (f:Nat->Rat):Nat->Rat
 | 0=>a*f 0
 | k+1=>a*f (k+1)+b*f k
def dl:Nat->Rat:=λk=>if k=0 then 1 else 0
theorem ac0 (f g:Nat->Rat) (k:Nat):cv f g (k+1)=f 0*g (k+1)+cv (λi=>f (i+1)) g k:=by
 unfold cv;rw [F8]
 congr 1
 exact d6 λi _=>by rw [show k+1-(i+1)=k-i by omega]
theorem V7 (f g:Nat->Rat) (k:Nat):cv f g k=cv g f k:=by
 unfold cv;rw [ae6]
 exact d6 λi hi=>by
  rw [show k+1-1-i=k-i by omega,show k-(k-i)=i by omega];grind
theorem bh7 {f g h l:Nat->Rat} {k:Nat} (a:∀ i,i<=k->f i=g i) (b:∀ i,i<=k->h i=l i):cv f h k=cv g l k :=
 d6 λi hi=>by rw [a i ⋯,b (k-i) ⋯]
theorem am3 (f g:Nat->Rat):cv f g 0=f 0*g 0:=by
 show (0:Rat)+f 0*g 0=_
 grind
theorem aK1:∀ (k:Nat) (f g h:Nat->Rat),cv (cv f g) h k=cv f (cv g h) k
 | 0,f,g,h=>by rw [am3,am3,am3,am3];grind
 | k+1,f,g,h=>by
  rw [ac0,ac0 f];have e1:cv (λi=>cv f g (i+1)) h k=cv (λi=>f 0*g (i+1)+cv (λi=>f (i+1)) g i) h k:=bh7 (λi _=>ac0 f g i) λ_ _=>rfl;rw [e1,aO8 (λi=>f 0*g (i+1)) (cv (λi=>f (i+1)) g),by5 (f 0) (λi=>g (i+1)),aK1 k,ac0 g];rw [am3];grind
theorem bo4 {f:Nat->Rat} (h:∀ k,f k=0) (g:Nat->Rat) (k:Nat):cv f g k=0:=w9 _ λi _=>by rw [h];grind
def Dg (f:Nat->Rat) (n:Nat):Prop:=∀ k,n<=k->f k=0
structure Eu (p q A B:Nat->Rat) (lp lq la lb:Nat):Prop where
 inv:∀ m,m<la->∀ u v,Dg u (lq-m)->Dg v (lp-m)->Dg (λk=>cv u p k+cv v q k) m ->
  ∃ a b,(∀ k,cv u p k+cv v q k=cv a A k+cv b B k)/\Dg a (lb-m)/\Dg b (la-m)/\((∀ k,a k=0)->(∀ k,b k=0)->∀ k,u k=0/\v k=0)
 le:la<=max lp lq
theorem aJ8 {d:Nat}:∀ (ws:List Int) (c:Nat),d ∣ c->(∀ w ∈ ws,(d:Int) ∣ w)->d ∣ ws.foldl (λc w=>q0q w c) c
 | [],c,h,_=>h
 | w :: r,c,h,hw=>aJ8 r _ (Int.dvd_gcd (hw w z0s) (by exact j0h.mpr h)) λx hx=>hw x (z0h _ hx)
def sgd (i:Nat):Rat:=if i % 2=0 then 1 else -1
theorem bb6 (i:Nat):sgd (i+1)=- sgd i:=by
 unfold sgd;rcases u0b i with h | h
 ·rw [if_pos h,if_neg ⋯]
 ·rw [if_pos (show (i+1) % 2=0 by omega),if_neg (show ¬ i % 2=0 by omega)];grind
abbrev Mt:=Nat->Nat->Rat
def mn (M:Mt) (i:Nat):Mt:=λr c=>M (if r<i then r else r+1) (c+1)
def dt:Nat->Mt->Rat
 | 0,_=>1
 | n+1,M=>c7 (λi=>sgd i*M i 0*dt n (mn M i)) (n+1)
theorem G9 (n:Nat) (M:Mt):dt (n+1) M=c7 (λi=>sgd i*M i 0*dt n (mn M i)) (n+1):=rfl
theorem aJ9:∀ {n:Nat} {M N:Mt},(∀ r,r<n->∀ c,c<n->M r c=N r c)->dt n M=dt n N
 | 0,_,_,_=>rfl
 | n+1,M,N,h=>by
  rw [G9,G9];refine d6 λi hi=>?_;rw [h i hi 0 ⋯,aJ9 (n:=n) (M:=mn M i) (N:=mn N i) λr hr c hc=>h _ (by split <;> omega) _ ⋯]
def x6 (M:Mt) (r:Nat) (v:Nat->Rat):Mt:=λi c=>if i=r then v c else M i c
theorem ak8 (M:Mt) (r:Nat):x6 M r (M r)=M:=by
 funext i c
 unfold x6
 split
 ·rename_i h;rw [h]
 ·rfl
theorem ab7 (M:Mt) (r:Nat) (v:Nat->Rat):mn (x6 M r v) r=mn M r:=by
 funext i c
 unfold mn x6;rw [if_neg (by split <;> omega)]
theorem al5 (M:Mt) {r i:Nat} (v:Nat->Rat) (h:r<i):mn (x6 M r v) i=x6 (mn M i) r (λc=>v (c+1)):=by
 funext a c
 unfold mn x6
 by_cases z:a=r
 ·rw [if_pos z,if_pos (by rw [z,if_pos h])]
 ·rw [if_neg z,if_neg (by split <;> omega)]
theorem al6 (M:Mt) {r i:Nat} (v:Nat->Rat) (h:i<r):mn (x6 M r v) i=x6 (mn M i) (r-1) (λc=>v (c+1)):=by
 funext a c
 unfold mn x6
 by_cases z:a=r-1
 ·rw [if_pos z,if_pos (by rw [z,if_neg ⋯];omega)]
 ·rw [if_neg z,if_neg (by split <;> omega)]
theorem aE3:∀ {n:Nat} (M:Mt) {r:Nat} (a b:Rat) (v w:Nat->Rat),r<n->dt n (x6 M r λc=>a*v c+b*w c)=a*dt n (x6 M r v)+b*dt n (x6 M r w)
 | 0,_,_,_,_,_,_,h=>⋯
 | n+1,M,r,a,b,v,w,h=>by
  rw [G9,G9,G9,m5,m5,w4];refine d6 λi hi=>?_;rcases m0s r i with z | z | z
  ·rw [al5 M _ z,al5 M _ z,al5 M _ z,aE3 (mn M i) a b _ _ ⋯]
   have:∀ u:Nat->Rat,x6 M r u i 0=M i 0:=λu=>if_neg ⋯;rw [this,this,this];grind
  ·subst z
   rw [ab7,ab7,ab7];have:∀ u:Nat->Rat,x6 M r u r 0=u 0:=λu=>if_pos rfl;rw [this,this,this];grind
  ·rw [al6 M _ z,al6 M _ z,al6 M _ z,aE3 (mn M i) a b _ _ ⋯]
   have:∀ u:Nat->Rat,x6 M r u i 0=M i 0:=λu=>if_neg ⋯;rw [this,this,this];grind
theorem bk2 {f:Nat->Rat} {n r:Nat} (hr:r+1<n) (h:∀ i,i<n->i ≠ r->i ≠ r+1->f i=0):c7 f n=f r+f (r+1):=by
 have:c7 f n=c7 (λi=>(if i=r then f r else 0)+(if i=r+1 then f (r+1) else 0)) n:=d6 λi hi=>by
  by_cases z:i=r
  ·rw [if_pos z,if_neg ⋯,z];grind
  ·by_cases y:i=r+1
   ·rw [if_neg z,if_pos y,y];grind
   ·rw [if_neg z,if_neg y,h i hi z y];grind
 rw [this,<- w4,G1 (λ_=>f r),G1 (λ_=>f (r+1)),if_pos ⋯,if_pos hr]
theorem aE4:∀ {n:Nat} {M:Mt} {r:Nat},r+1<n->(∀ c,M r c=M (r+1) c)->dt n M=0
 | 0,_,_,h,_=>⋯
 | n+1,M,r,h,e=>by
  rw [G9];rw [bk2 h λi hi h1 h2=>?_]
  ·have:mn M r=mn M (r+1):=by
    funext a c
    unfold mn
    by_cases z:a=r
    ·rw [if_neg ⋯,if_pos ⋯,z,e]
    ·by_cases y:a<r
     ·rw [if_pos y,if_pos ⋯]
     ·rw [if_neg y,if_neg ⋯]
   rw [this,bb6,e 0];grind
  ·have:dt n (mn M i)=0:=by
    by_cases z:i<r
    ·refine aE4 (r:=r-1) ⋯ λc=>?_
     unfold mn;rw [if_neg ⋯,if_neg ⋯,show r-1+1=r by omega];exact e _
    ·refine aE4 (r:=r) ⋯ λc=>?_
     unfold mn;rw [if_pos ⋯,if_pos ⋯];exact e _
   rw [this];grind
def swR (M:Mt) (r s:Nat):Mt:=λi c=>M (if i=r then s else if i=s then r else i) c
theorem set_comm (M:Mt) {r s:Nat} (h:r ≠ s) (v w:Nat->Rat):x6 (x6 M r v) s w=x6 (x6 M s w) r v:=by
 funext i c
 unfold x6
 by_cases z:i=s
 ·rw [if_pos z,if_neg ⋯,if_pos z]
 ·rw [if_neg z]
  by_cases y:i=r
  ·rw [if_pos y,if_pos y]
  ·rw [if_neg y,if_neg y,if_neg z]
theorem bh1 {n:Nat} (M:Mt) {r:Nat} (v w:Nat->Rat) (h:r<n):dt n (x6 M r λc=>v c+w c)=dt n (x6 M r v)+dt n (x6 M r w):=by
 have:=aE3 M 1 1 v w h;rw [show (λc=>v c+w c)=λc=>1*v c+1*w c by funext c;grind,this];grind
theorem bn8 {n:Nat} {M:Mt} {r:Nat} (h:r+1<n):dt n (swR M r (r+1))=- dt n M:=by
 have e0:∀ v:Nat->Rat,dt n (x6 (x6 M r v) (r+1) v)=0:=λv=>aE4 h λc=>by
  unfold x6;rw [if_neg ⋯,if_pos rfl,if_pos rfl]
 have e1:=e0 λc=>M r c+M (r+1) c
 have x1:∀ w:Nat->Rat,dt n (x6 (x6 M r λc=>M r c+M (r+1) c) (r+1) w)=dt n (x6 (x6 M (r+1) w) r (M r))+dt n (x6 (x6 M (r+1) w) r (M (r+1))):=λw=>by
  rw [set_comm _ ⋯,bh1 _ _ _ ⋯]
 rw [bh1 _ _ _ h,x1,x1] at e1;rw [show x6 (x6 M (r+1) (M r)) r (M r)=x6 (x6 M r (M r)) (r+1) (M r) from set_comm _ ⋯ _ _,e0] at e1;rw [show x6 (x6 M (r+1) (M (r+1))) r (M (r+1))=x6 (x6 M r (M (r+1))) (r+1) (M (r+1)) from set_comm _ ⋯ _ _,e0] at e1;have s1:x6 (x6 M (r+1) (M (r+1))) r (M r)=M:=by rw [ak8,ak8]
 have s2:x6 (x6 M (r+1) (M r)) r (M (r+1))=swR M r (r+1):=by
  funext i c
  unfold x6 swR
  by_cases z:i=r
  ·rw [if_pos z,if_pos z]
  ·rw [if_neg z,if_neg z]
   by_cases y:i=r+1
   ·rw [if_pos y,if_pos y]
   ·rw [if_neg y,if_neg y]
 rw [s1,s2] at e1
 grind
theorem as9 {n:Nat}:∀ (d:Nat) {M:Mt} {r:Nat},r+d+1<n->(∀ c,M r c=M (r+d+1) c)->dt n M=0
 | 0,_,_,h,e=>aE4 h e
 | d+1,M,r,h,e=>by
  have h1:=bn8 (M:=M) (r:=r+d+1) (n:=n) ⋯
  have h2:dt n (swR M (r+d+1) (r+d+1+1))=0:=as9 d (r:=r) ⋯ λc=>by
   unfold swR;rw [if_neg ⋯,if_neg ⋯,if_pos rfl];exact e c
  rw [h2] at h1
  grind
theorem aY3 {n:Nat} {M:Mt} {r s:Nat} (hr:r<n) (hs:s<n) (hn:r ≠ s) (e:∀ c,M r c=M s c):dt n M=0:=by
 rcases z1m r s with z | z
 ·exact as9 (s-r-1) (r:=r) ⋯ λc=>by rw [show r+(s-r-1)+1=s by omega];exact e c
 ·exact as9 (r-s-1) (r:=s) ⋯ λc=>by rw [show s+(r-s-1)+1=r by omega];exact (e c).symm
theorem by0 {n:Nat} {M:Mt} {r s:Nat} (a b:Rat) (hr:r<n) (hs:s<n) (hn:r ≠ s):dt n (x6 M r λc=>a*M r c+b*M s c)=a*dt n M:=by
 rw [aE3 M a b (M r) (M s) hr,ak8,aY3 (M:=x6 M r (M s)) hr hs hn λc=>by
  unfold x6;rw [if_pos rfl,if_neg ⋯]]
 grind
theorem bh0 {n:Nat} {M:Mt} (h:∀ i,0<i->i<n+1->M i 0=0):dt (n+1) M=M 0 0*dt n (mn M 0):=by
 rw [G9]
 have:c7 (λi=>sgd i*M i 0*dt n (mn M i)) (n+1)=c7 (λi=>if i=0 then M 0 0*dt n (mn M 0) else 0) (n+1):=d6 λi hi=>by
  by_cases z:i=0
  ·rw [if_pos z,z]
   show sgd 0*_*_=_;unfold sgd;rw [if_pos (by decide)];grind
  ·rw [if_neg z,h i ⋯ hi];grind
 rw [this,G1 (λ_=>M 0 0*dt n (mn M 0)),if_pos ⋯]
def IsI (q:Rat):Prop:=∃ z:Int,q=(z:Rat)
def hz (A B:Nat->Rat):Mt:=λi c=>if c<i / 2 then 0 else if i % 2=0 then B (c-i / 2) else A (c-i / 2)
def O7 (k j c:Nat):Nat:=if c+1=k then c+j else c
def tau (A B:Nat->Rat) (k j:Nat):Rat:=if k=0 then A j else dt k λi c=>hz A B i (O7 k j c)
def v7 (A B:Nat->Rat):Nat->Rat:=λj=>B 0*A (j+1)-A 0*B (j+1)
theorem P1 (A B:Nat->Rat) (j:Nat):tau A B 0 j=A j:=if_pos rfl
theorem F3 (A B:Nat->Rat) (j:Nat):tau A B 1 j=B j:=by
 unfold tau;rw [if_neg (by decide),G9]
 show (0:Rat)+sgd 0*hz A B 0 (O7 1 j 0)*1=_;have h1:sgd 0=1:=if_pos (by decide)
 have h2:O7 1 j 0=j:=by unfold O7;rw [if_pos rfl];omega
 have h3:hz A B 0 j=B j:=by unfold hz;rw [if_neg ⋯,if_pos (by decide)];rfl
 rw [h1,h2,h3];grind
def hm (A B:Nat->Rat) (m:Nat):Mt:=λi c=>if i % 2=1/\i<m then B 0*hz A B i c-A 0*hz A B (i-1) c else hz A B i c
theorem aD9 (A B:Nat->Rat) {k:Nat} (f:Nat->Nat):∀ m,m<=k->dt k (λi c=>hm A B m i (f c))=B 0 ^ (m / 2)*dt k (λi c=>hz A B i (f c))
 | 0,_=>by
  have:(λi c=>hm A B 0 i (f c))=λi c=>hz A B i (f c):=by
   funext i c
   unfold hm;rw [if_neg (λh=>absurd h.2 (q1m _))]
  rw [this,show 0 / 2=0 from rfl,z0a];grind
 | m+1,h=>by
  have ih:=aD9 A B (k:=k) f m ⋯
  by_cases z:m % 2=1
  ·have e:(λi c=>hm A B (m+1) i (f c))=x6 (λi c=>hm A B m i (f c)) m λc=>B 0*(λi c=>hm A B m i (f c)) m c+(- A 0)*(λi c=>hm A B m i (f c)) (m-1) c:=by
    funext i c
    unfold x6
    by_cases y:i=m
    ·rw [if_pos y,y]
     show hm A B (m+1) m (f c)=B 0*hm A B m m (f c) + - A 0*hm A B m (m-1) (f c);unfold hm;rw [if_pos ⟨z,⋯⟩,if_neg ⋯,if_neg ⋯];grind
    ·rw [if_neg y]
     show hm A B (m+1) i (f c)=hm A B m i (f c);unfold hm
     by_cases x:i % 2=1/\i<m
     ·rw [if_pos x,if_pos ⟨x.1,⋯⟩]
     ·rw [if_neg x,if_neg ⋯]
   rw [e,by0 _ _ ⋯ ⋯ ⋯,ih,show (m+1) / 2=m / 2+1 by omega,q0r];grind
  ·have e:(λi c=>hm A B (m+1) i (f c))=λi c=>hm A B m i (f c):=by
    funext i c
    unfold hm
    by_cases x:i % 2=1/\i<m
    ·rw [if_pos x,if_pos ⟨x.1,⋯⟩]
    ·rw [if_neg x,if_neg ⋯]
   rw [e,ih,show (m+1) / 2=m / 2 by omega]
theorem ah2 (A B:Nat->Rat) (k j:Nat) (hk:1<=k):B 0 ^ ((k+1) / 2)*tau A B (k+1) j=B 0*tau B (v7 A B) k j:=by
 have h1:=aD9 A B (k:=k+1) (O7 (k+1) j) (k+1) (q0j _);unfold tau;rw [if_neg ⋯,if_neg ⋯,<- h1];have c0:O7 (k+1) j 0=0:=by unfold O7;rw [if_neg ⋯]
 rw [bh0 λi h0 hi=>?_]
 ·congr 1
  ·show hm A B (k+1) 0 (O7 (k+1) j 0)=B 0
   rw [c0];unfold hm hz;rw [if_neg ⋯,if_neg ⋯,if_pos (by decide)]
  ·refine aJ9 λi hi c hc=>?_
   show hm A B (k+1) (if i<0 then i else i+1) (O7 (k+1) j (c+1))=hz B (v7 A B) i (O7 k j c);rw [if_neg ⋯]
   have cc:O7 (k+1) j (c+1)=O7 k j c+1:=by
    unfold O7
    by_cases z:c+1=k
    ·rw [if_pos z,if_pos ⋯];omega
    ·rw [if_neg z,if_neg ⋯]
   rw [cc];generalize O7 k j c=d;unfold hm hz v7;rcases u0b i with z | z
   ·rw [if_pos ⟨⋯,⋯⟩,show i+1-1=i from rfl]
    rw [show (i+1) / 2=i / 2 by omega,if_neg (show ¬ (i+1) % 2=0 by omega),if_pos z,if_pos z]
    by_cases y:d+1<i / 2
    ·rw [if_pos y,if_pos y,if_pos ⋯];grind
    ·rw [if_neg y,if_neg y]
     by_cases x:d<i / 2
     ·rw [if_pos x,show d+1-i / 2=0 by omega];grind
     ·rw [if_neg x,show d+1-i / 2=d-i / 2+1 by omega]
   ·rw [if_neg ⋯,if_pos (show (i+1) % 2=0 by omega),if_neg (show ¬ i % 2=0 by omega),show (i+1) / 2=i / 2+1 by omega]
    by_cases y:d<i / 2
    ·rw [if_pos ⋯,if_pos y]
    ·rw [if_neg ⋯,if_neg y,show d+1-(i / 2+1)=d-i / 2 by omega]
 ·show hm A B (k+1) i (O7 (k+1) j 0)=0
  rw [c0];unfold hm hz;rcases u0b i with z | z
  ·rw [if_neg ⋯,if_pos ⋯]
  ·rw [if_pos ⟨z,hi⟩]
   by_cases y:i=1
   ·subst y
    show B 0*(if 0<1 / 2 then 0 else if 1 % 2=0 then B (0-1 / 2) else A (0-1 / 2))-A 0*(if 0<0 / 2 then 0 else if 0 % 2=0 then B (0-0 / 2) else A (0-0 / 2))=0;rw [if_neg (by decide),if_neg (by decide),if_neg (by decide),if_pos (by decide)];grind
   ·rw [if_pos ⋯,if_pos ⋯];grind
theorem ap2 {b:Rat} (h:b ≠ 0):∀ n:Nat,b ^ n ≠ 0
 | 0=>by rw [z0a];decide
 | n+1=>by
  rw [q0r];intro z;rcases z0n.mp z with y | y
  ·exact ap2 h n y
  ·exact h y
theorem G6 {b x y:Rat} (h:b ≠ 0) (e:b*x=b*y):x=y:=by
 have:=q0d _ h;generalize b⁻¹=u at this
 grind
theorem aa7 (b:Rat) (m:Nat):∀ n:Nat,b ^ (m+n)=b ^ m*b ^ n
 | 0=>by rw [Nat.add_zero,z0a];grind
 | n+1=>by rw [<- u0w,q0r,aa7 b m n,q0r];grind
theorem af3 (A B:Nat->Rat) (h:B 0 ≠ 0) (k j:Nat) (hk:1<=k):tau B (v7 A B) k j=B 0 ^ ((k+1) / 2-1)*tau A B (k+1) j:=by
 refine G6 h ?_;rw [<- ah2 A B k j hk];obtain ⟨e,he⟩:∃ e,(k+1) / 2=e+1:=⟨(k+1) / 2-1,⋯⟩;rw [he,q0r,q0w];grind
def dlt (A B:Nat->Rat) (k:Nat):Rat:=if k<=2 then 1 else tau A B (k-2) 0
theorem az7:∀ (k:Nat) (A B:Nat->Rat),1<=k->(∀ i,1<=i->i<k->tau A B i 0 ≠ 0)->(k=1->B 0 ≠ 0)->∀ j,tau A B (k+1) j*dlt A B k=tau A B k 0*tau A B (k-1) (j+1)-tau A B (k-1) 0*tau A B k (j+1)
 | 0,_,_,h,_,_,_=>⋯
 | 1,A,B,_,_,hb,j=>by
  have h1:=ah2 A B 1 j (by decide)
  rw [F3] at h1;have:=G6 (hb rfl) (x:=tau A B 2 j) (y:=v7 A B j) (by rw [<- h1];show _=B 0 ^ (1)*_;rw [q0r,z0a];grind)
  unfold dlt;rw [if_pos (by decide),show 1+1=2 from rfl,this,show 1-1=0 from rfl,F3,P1,P1,F3]
  unfold v7
  grind
 | k+2,A,B,_,hn,_,j=>by
  have b0:B 0 ≠ 0:=by
   have:=hn 1 (by decide) ⋯
   rwa [F3] at this
  have s0:∀ i,tau B (v7 A B) 0 i=tau A B 1 i:=λi=>by rw [P1,F3]
  cases k with
  | zero =>
   have h2:=ah2 A B 2 j (by decide)
   have e2:∀ i,tau A B 2 i=v7 A B i:=λi=>by
    have h1:=ah2 A B 1 i (by decide)
    rw [F3] at h1;exact G6 b0 (x:=tau A B 2 i) (y:=v7 A B i) (by rw [<- h1];show _=B 0 ^ (1)*_;rw [q0r,z0a];grind)
   have e3:tau A B 3 j=tau B (v7 A B) 2 j:=G6 b0 (by rw [<- h2];show _=B 0 ^ (1)*_;rw [q0r,z0a];grind)
   have hm1:=aD9 B (v7 A B) (k:=2) (O7 2 j) 2 (q0j _)
   have e4:tau B (v7 A B) 2 j=v7 A B 0*B (j+1)-B 0*v7 A B (j+1):=by
    unfold tau;rw [if_neg (by decide),G9]
    show (0:Rat)+sgd 0*hz B (v7 A B) 0 0*dt 1 (mn (λi c=>hz B (v7 A B) i (O7 2 j c)) 0)+sgd 1*hz B (v7 A B) 1 0*dt 1 (mn (λi c=>hz B (v7 A B) i (O7 2 j c)) 1)=_
    have d1:∀ M:Mt,dt 1 M=M 0 0:=λM=>by
     rw [G9]
     show (0:Rat)+sgd 0*M 0 0*1=_;rw [show sgd 0=1 from if_pos (by decide)];grind
    rw [d1,d1]
    show (0:Rat)+sgd 0*hz B (v7 A B) 0 0*hz B (v7 A B) 1 (O7 2 j 1)+sgd 1*hz B (v7 A B) 1 0*hz B (v7 A B) 0 (O7 2 j 1)=_;have h2:O7 2 j 1=j+1:=by unfold O7;rw [if_pos rfl];omega
    rw [h2,show sgd 0=1 from if_pos (by decide),show sgd 1=-1 from if_neg (by decide)]
    have a1:∀ d,hz B (v7 A B) 0 d=v7 A B d:=λd=>by unfold hz;rw [if_neg ⋯,if_pos (by decide)];rfl
    have a2:∀ d,hz B (v7 A B) 1 d=B d:=λd=>by unfold hz;rw [if_neg ⋯,if_neg (by decide)];rfl
    rw [a1,a1,a2,a2];grind
   unfold dlt;rw [if_pos (by decide)]
   show tau A B 3 j*1=tau A B 2 0*tau A B 1 (j+1)-tau A B 1 0*tau A B 2 (j+1);rw [e3,e4,e2,e2,F3,F3];grind
  | succ k =>
   have ih:=az7 (k+2) B (v7 A B) ⋯ (λi h1 h2=>by
    rw [af3 A B b0 i 0 h1];intro z;rcases z0n.mp z with y | y
    ·exact ap2 b0 _ y
    ·exact hn (i+1) ⋯ ⋯ y) (λh=>⋯) j
   rw [af3 A B b0 (k+2+1) j ⋯,af3 A B b0 (k+2) 0 ⋯,af3 A B b0 (k+2) (j+1) ⋯,show k+2-1=k+1 from rfl,af3 A B b0 (k+1) 0 ⋯,af3 A B b0 (k+1) (j+1) ⋯] at ih;have ed:dlt A B (k+1+2)=tau A B (k+1) 0:=by unfold dlt;rw [if_neg ⋯];rfl
   rw [ed,show k+1+2-1=k+2 from rfl]
   cases k with
   | zero =>
    have e1:dlt B (v7 A B) (0+2)=1:=if_pos (by decide)
    rw [e1] at ih
    have p1:(B 0) ^ ((0+2+1+1) / 2-1)=B 0:=by
     show B 0 ^ (0+1)=B 0;rw [q0r,z0a];grind
    have p2:(B 0) ^ ((0+2+1) / 2-1)=1:=z0a _;have p3:(B 0) ^ ((0+1+1) / 2-1)=1:=z0a _;rw [p1,p2] at ih
    show tau A B 4 j*tau A B 1 0=tau A B 3 0*tau A B 2 (j+1)-tau A B 2 0*tau A B 3 (j+1);have ih':B 0*tau A B 4 j*1=1*tau A B 3 0*(1*tau A B 2 (j+1))-1*tau A B 2 0*(1*tau A B 3 (j+1)):=ih;rw [F3];grind
   | succ k =>
    have e1:dlt B (v7 A B) (k+1+2)=B 0 ^ ((k+1+1) / 2-1)*tau A B (k+1+1) 0:=by
     unfold dlt;rw [if_neg ⋯,show k+1+2-2=k+1 from rfl,af3 A B b0 (k+1) 0 ⋯]
    rw [e1] at ih
    have pe:B 0 ^ ((k+1+2+1+1) / 2-1)*B 0 ^ ((k+1+1) / 2-1)=B 0 ^ ((k+1+2+1) / 2-1)*B 0 ^ ((k+1+1+1) / 2-1):=by
     rw [<- aa7,<- aa7]
     congr 1
     omega
    have n2:=ap2 b0 ((k+1+2+1) / 2-1);have n3:=ap2 b0 ((k+1+1+1) / 2-1);refine G6 n2 (G6 n3 ?_)
    show _*(_*(tau A B (k+1+2+1+1) j*tau A B (k+1+1) 0))=_*(_*(tau A B (k+1+2+1) 0*tau A B (k+1+1+1) (j+1)-tau A B (k+1+1+1) 0*tau A B (k+1+2+1) (j+1)));generalize B 0 ^ ((k+1+2+1+1) / 2-1)=q1 at *;generalize B 0 ^ ((k+1+1) / 2-1)=q2 at *;generalize B 0 ^ ((k+1+2+1) / 2-1)=q3 at *;generalize B 0 ^ ((k+1+1+1) / 2-1)=q4 at *
    grind
structure Pos (n:Nat) (g:Nat->Nat->Rat):Prop where
 p:∀ i,i<=n->0<g i 0
 s:∀ i,1<=i->i<n->∀ j,g i 0*g (i-1) j=g i 0*g (i+1) (j+1)-g (i+1) 0*g i (j+1)
 l:1<=n->∀ j,g 0 0*g 1 (j+1)-g 1 0*g 0 (j+1)=0
 z:∀ i j,i<=n->i<2*j->g i j=0
theorem k8 {x:Rat} (h:0<x):x ≠ 0:=λz=>by rw [z] at h;exact absurd h (by decide)
theorem aT2 {W:Nat}:∀ {n:Nat} {M:Mt},n<=16->(∀ r c,∃ z:Int,M r c=(z:Rat)/\z.natAbs<2 ^ W)->∃ z:Int,dt n M=(z:Rat)/\z.natAbs<=2 ^ ((W+4)*n)
 | 0,_,_,_=>⟨1,rfl,by simp⟩
 | n+1,M,hn,h=>by
  have key:∀ m,m<=n+1->∃ z:Int,c7 (λi=>sgd i*M i 0*dt n (mn M i)) m=(z:Rat)/\z.natAbs<=m*(2 ^ W*2 ^ ((W+4)*n)):=by
   intro m
   induction m with
   | zero=>intro _;exact ⟨0,rfl,by simp⟩
   | succ m ih =>
    intro hm;obtain ⟨z,e,b⟩:=ih ⋯;obtain ⟨x,ex,bx⟩:=h m 0;obtain ⟨y,ey,by'⟩:=aT2 (n:=n) (M:=mn M m) ⋯ λr c=>h _ _
    obtain ⟨s,es,bs⟩:∃ s:Int,sgd m=(s:Rat)/\s.natAbs=1:=by
     unfold sgd
     split
     ·exact ⟨1,rfl,rfl⟩
     ·exact ⟨-1,by rw [v0c];rfl,rfl⟩
    refine ⟨z+s*x*y,?_,?_⟩
    ·rw [c7,e,ex,ey,es,q1n,z0e,z0e]
    ·have h1:(s*x*y).natAbs<=2 ^ W*2 ^ ((W+4)*n):=by
      rw [z0b,z0b,bs,Nat.one_mul];exact v0x (v0j bx) by'
     have h2:=m0q z (s*x*y);rw [z1g];omega
  obtain ⟨z,e,b⟩:=key (n+1) (q0j _);refine ⟨z,by rw [G9];exact e,z0p b ?_⟩
  have:(n+1)*(2 ^ W*2 ^ ((W+4)*n))<=2 ^ 4*(2 ^ W*2 ^ ((W+4)*n)):=v0y _ ⋯;refine z0p this ?_;rw [<- z0u,<- z0u];exact j0p (by decide) (by rw [z1k];omega)
theorem aa3 {W m:Nat} {A B:Nat->Rat} (hA:∀ j,∃ z:Int,A j=(z:Rat)/\z.natAbs<2 ^ W) (hB:∀ j,∃ z:Int,B j=(z:Rat)/\z.natAbs<2 ^ W) {k:Nat} (hk:k<=m) (m1:1<=m) (hm:m<=16) (j:Nat):∃ z:Int,tau A B k j=(z:Rat)/\z.natAbs<=2 ^ ((W+4)*m):=by
 unfold tau
 split
 ·obtain ⟨z,e,b⟩:=hA j
  exact ⟨z,e,z0p (v0j b) (j0p (by decide) (z0p (show W<=(W+4)*1 by omega) (j0j _ m1)))⟩
 ·obtain ⟨z,e,b⟩:=aT2 (W:=W) (n:=k) (M:=λi c=>hz A B i (O7 k j c)) ⋯ λr c=>by
   show ∃ z:Int,hz A B r (O7 k j c)=_/\_;unfold hz
   split
   ·exact ⟨0,rfl,j0f _⟩
   ·split
    ·exact hB _
    ·exact hA _
  exact ⟨z,e,z0p b (j0p (by decide) (j0j _ hk))⟩
end R
set_option maxRecDepth 100000
local macro_rules | `(tactic| simp! [$ls,*]) => do
  let a <- ("L2.bx1 L2.bf2 L2.ipM L2.aG8 L2.aq3 L2.bw9 L2.bt0 L2.ba5 L2.tSl L2.br9 L2.ba0 L2.az9 L2.bs9 L2.bt1 L2.aB7 L2.bf6 L2.U0 j0g z1h Option.bind_none Option.bind_some Option.join_some L2.bj7 L2.bs2 L2.bs5 L2.tOr L2.bs0 L2.aP7 L2.tB L2.tOp L2.tUn L2.bs3 L2.tBM L2.ak7 L2.tC L2.tCB L2.bj8 L2.ba6 L2.t6 L2.bx5 L2.U9 L2.v9 L2.V0 L2.ah3 L2.aL5 L2.bj9 L2.bj6 L2.bs1 L2.tIf L2.ba7 L2.ba1 L2.bk0 L2.aA0 L2.ba3 L2.ba2 L2.aL6 L2.aL4 L2.bs4 L2.ipI L2.rI L2.rI0 L2.rU L2.aB6 L2.aM2 L2.bt2 L2.bb9 L2.rEq L2.rNe L2.aM4 L2.aM3 L2.aM1 L2.bt3 L2.bt4 L2.bf4 L2.bf3 L2.bf5 L2.bx0 L2.ao5 L2.cxR L2.cxX L2.Cx.nox L2.Cx.wish L2.Cx.body L2.Cx.suite y0k j0d m0j m0h Option.some.injEq L2.V.int.injEq L2.V.bl.injEq L2.V.ref.injEq L2.V.str.injEq exists_eq_left' exists_eq_left exists_and_left true_and and_true List.cons.injEq reduceCtorEq Bool.false_eq_true if_false if_true exists_const L2.tyV q0x j0y exists_eq g0j List.cons_append q1j decide_eq_true_eq not_true_eq_false not_false_eq_true m0p decide_eq_false_iff_not Bool.not_true Bool.not_false and_assoc false_and false_or or_false".splitOn " ").toArray.mapM λs => `(Lean.Parser.Tactic.simpLemma| $(Lean.mkIdent s.toName):ident)
  let b:=ls.getElems.map λx=>(⟨x.raw⟩:Lean.TSyntax `Lean.Parser.Tactic.simpLemma)
  let c:=a ++ b
  `(tactic| simp only [↓reduceIte,$[$c],*])
local macro_rules | `(tactic| subst_eqs) => `(tactic| simp! [])
local macro_rules | `(tactic| and_intros) => `(tactic| exact ⟨rfl, rfl, rfl, by decide +kernel, rfl, by decide +kernel, by decide +kernel⟩)
namespace R
open PySem L2 PyProof.Rows
section
variable {P:Program} {w:World} {K:q0a} {mg:Str->Option Value} {base:Heap}
def ah7:Sp:=λvs H Q _ => ∃ a b:Int,vs=[.int a,.int b]/\(a.natAbs<2 ^ 6000 \/ b.natAbs<2 ^ 6000)/\Q (.int (q0q a b)) H
abbrev D6:Stmt:=top 24
theorem Q9:i7 ["one","other"] ["one","other"] (c4 D6):=by and_intros
theorem aj3 {f:Addr} (d:Df K mg "common_divisor" D6 ["one","other"] f) (c_SHORT:∃ t,mg "SHORT" = some (.int 6000 t)) (n_abs:mg "abs" = none):Def P w K mg base CX0 1 "common_divisor" f ["one","other"] ah7:=by
  obtain ⟨tS,c_SHORT⟩:=c_SHORT;refine d.ok (N:=["one","other"]) Q9 (λvs H Q E ⟨a,b,h,_⟩=>by rw [h];rfl) (λcdv A outer s H vs Q E hr h=>?_)
  obtain ⟨a,b,rfl,hab,q⟩:=h
  refine ⟨_, (b7 (y7 (PW.pt (aM5 (j9 ax0 (ar5 PySem.F.plainAttrs_int PySem.F.slot_int_bit_length PySem.F.type_int_bit_length ad6 (pv 1)) (y0 (v := .int 6000) rfl c_SHORT ⟨_, rfl⟩) (l5 _)) (aB9 (j9 ax0 (ar5 PySem.F.plainAttrs_int PySem.F.slot_int_bit_length PySem.F.type_int_bit_length ad6 (pv 0)) (y0 (v := .int 6000) rfl c_SHORT ⟨_, rfl⟩) (l5 _))))) (c5 bc3) o0)
      (b7 (ab0 PassesOwn.never (ar2 (pv 1) (λ_=>rfl)) (c5 (Y2 (i:=0) (j:=1) rfl Q9.nd rfl rfl (by decide) rfl rfl (a7 (pv 1) (a7 (d4 L7 (pv 0) (pv 1)) a8)) rfl)))
      (c5 (i5 (d5 V8 rfl n_abs (by decide +kernel) (a7 (pv 0) a8)))))),?_⟩
  rw [show start ["one","other"] [.int a,.int b]=[some (.int a),some (.int b)] from rfl]
  have hno:¬ ((6000:Int)<Builtin.Int.intBits b/\(6000:Int)<Builtin.Int.intBits a):=by
    rintro ⟨h1,h2⟩;rcases hab with z | z
    · have:=F7 z;omega
    · have:=F7 z;omega
  have main : ∀ {D : aa0} , (∀ x : Int, ∀ y : Int, y = 0 → Int.gcd x y = Int.gcd a b → D.nx [some (.int x), some (.int y)] H) → af5 (fun σ H_1 Q => ak7 1 σ H_1 fun x H' => ∃ k, aP4 K x H' k ∧ Q k H')
      (bj9 0 1 (ah3 (ak7 1) (ah3 (tOp (rI (λx j=>j ≠ 0) λi j=>V.int (i.fmod j)) (ak7 0) (ak7 1)) aL5))) D [some (.int a),some (.int b)] H:=by
    intro D hD;refine aG4 (λσ H1=>H1=H/\∃ x y:Int,σ=[some (.int x),some (.int y)]/\Int.gcd x y=Int.gcd a b) (λσ _=>match σ with | [_,some (.int y)]=>y.natAbs | _=>0) ⟨rfl,a,b,rfl,rfl⟩ ?_ ?_
    · rintro σ H1 ⟨rfl,x,y,rfl,hg⟩
      simp! [aP4]
      split
      · rename_i hy
        have hy':y ≠ 0:=by simpa using hy
        exact ⟨hy',by rw [aJ5];exact hg,ab6 x hy'⟩
      · rename_i hy
        have hy':y=0:=by simpa using hy
        exact hD x y hy' hg
    · intro σ H1 Q Q' hQ h
      obtain ⟨v,e1,k,e2,e3⟩:=h;exact ⟨v,e1,k,e2,hQ _ _ e3⟩
  have fin:∀ x y:Int,y=0->Int.gcd x y=Int.gcd a b->Q (.int (if x<0 then -x else x)) H:=λx y hy hg=>by
    subst hy
    have e:(if x<0 then -x else x)=(Int.gcd a b:Int):=by
      rw [<- hg,Int.gcd_zero_right]
      split <;> omega
    rw [e];exact q
  have nxt:∀ x y:Int,y=0->Int.gcd x y=Int.gcd a b->(bj8 (tCB (λxs H Q => ∃ i,xs=[V.int i]/\Q (V.int (if i<0 then -i else i)) H) (ah3 (ak7 0) aL5)) { nx:=λx H'=>Q V.non H',rt:=Q }) [some (.int x),some (.int y)] H:=λx y hy hg=>by
    subst_eqs
    exact fin x y hy hg
  subst_eqs
  split
  · split
    · exact hno ⟨‹_›,‹_›⟩
    · exact main nxt
  · exact main nxt
def aq6 (K:q0a) (op:Rat->Rat->Rat):Sp:=λvs H Q _ => ∃ (x y:V) (p q:Rat),vs=[x,y]/\Num K H x p/\Num K H y q/\Bd6 p/\Bd6 q/\au0 H Q (op p q)
abbrev aB4:Stmt:=top 25
theorem N6:i7 ["one","other","shared","rest","top","again","one_top","one_bottom","other_top","other_bottom"] ["one","other"] (c4 aB4):=by and_intros
theorem bl4 {f fc:Addr} (d:Df K mg "plus" aB4 ["one","other"] f) (G_common_divisor:Def P w K mg base CX0 1 "common_divisor" fc ["one","other"] ah7):Def P w K mg base CX0 2 "plus" f ["one","other"] (aq6 K (· + ·)):=by
  refine d.ok (N:=["one","other","shared","rest","top","again","one_top","one_bottom","other_top","other_bottom"]) N6 (λvs H Q E ⟨x,y,p,q,h,_⟩=>by rw [h];rfl) (λcdv A outer s H vs Q E hr h=>?_)
  obtain ⟨x,y,p,q,rfl,⟨ap,rfl,hp⟩,⟨aq,rfl,hq⟩,bp,bq,k⟩:=h
  refine ⟨_, (b7 (G8 (pv 0) (show PG _ _ (U9 K 2 (v9 (t6 6) (v9 (t6 7) V0))) from by (refine C9 (n := 2) ?_ ?_ ?_ ?_; rfl; (refine j3 ?_ ?_ ?_; (exact (d9 (i := 6) N6.nd rfl (Or.inl rfl))); (refine j3 ?_ ?_ ?_; (exact (d9 (i := 7) N6.nd rfl (Or.inl rfl))); (exact z8); rfl); rfl); rfl; rfl)))
      (b7 (G8 (pv 1) (show PG _ _ (U9 K 2 (v9 (t6 8) (v9 (t6 9) V0))) from by (refine C9 (n:=2) ?_ ?_ ?_ ?_;rfl;(refine j3 ?_ ?_ ?_;(exact (d9 (i:=8) N6.nd rfl (Or.inl rfl)));(refine j3 ?_ ?_ ?_;(exact (d9 (i:=9) N6.nd rfl (Or.inl rfl)));(exact z8);rfl);rfl);rfl;rfl)))
      (b7 (i4 (i:=2) N6.nd rfl (Or.inl rfl) (c9 G_common_divisor hr (a7 (pv 7) (a7 (pv 9) a8)) d8))
      (b7 (i4 (i:=3) N6.nd rfl (Or.inl rfl) (d4 v8 (pv 7) (pv 2)))
      (b7 (i4 (i:=4) N6.nd rfl (Or.inl rfl) (d4 D3 (d4 m6 (pv 6) (d4 v8 (pv 9) (pv 2))) (d4 m6 (pv 8) (pv 3))))
      (b7 (i4 (i:=5) N6.nd rfl (Or.inl rfl) (c9 G_common_divisor hr (a7 (pv 4) (a7 (pv 2) a8)) d8))
      (c5 (i5 (l6 (a7 (d4 v8 (pv 4) (pv 5)) (a7 (d4 m6 (pv 3) (d4 v8 (pv 9) (pv 5))) a8))))))))))),?_⟩
  rw [show start ["one","other","shared","rest","top","again","one_top","one_bottom","other_top","other_bottom"] [.ref ap,.ref aq]=[some (.ref ap),some (.ref aq),none,none,none,none,none,none,none,none] from rfl]
  simp! [ah7]
  refine ⟨_,hp,rfl,?_⟩
  simp! [k6,ah7]
  refine ⟨_,hq,rfl,?_⟩
  simp! [k6,ah7]
  have dp:=k9 p;have dq:=k9 q;have gp:=C6 (t:=(p.den:Int)) (b:=(q.den:Int)) ⋯;have bdp:((p.den:Int)).natAbs<2 ^ 6000:=by rw [Int.natAbs_natCast];exact bp.d
  have bdq:((q.den:Int)).natAbs<2 ^ 6000:=by rw [Int.natAbs_natCast];exact bq.d
  have gl:(((Int.gcd p.den q.den:Nat):Int)).natAbs<2 ^ 6000:=al9 ⋯ bdq;have gd1:((Int.gcd p.den q.den:Nat):Int) ∣ p.den:=Int.gcd_dvd_left _ _;have gd2:((Int.gcd p.den q.den:Nat):Int) ∣ q.den:=Int.gcd_dvd_right _ _;have f1:=L8 ⋯ gd1;have f2:=L8 ⋯ gd2;have dv1:∀ i,ak6 i ((Int.gcd p.den q.den:Nat):Int):=λi=>V4 ⋯ (P7 gl);have R:=bk9 (a:=p.num) (b:=p.den) (c:=q.num) (d:=q.den) dp dq (ap3 p) (ap3 q) rfl rfl rfl;obtain ⟨t,ht⟩:∃ t,t=p.num*(q.den:Int).fdiv ((Int.gcd p.den q.den:Nat):Int)+q.num*(p.den:Int).fdiv ((Int.gcd p.den q.den:Nat):Int):=⟨_,rfl⟩;rw [<- ht] at R ⊢;have hp0:=C6 (t:=t) (b:=((Int.gcd p.den q.den:Nat):Int)) ⋯;have hl:=al9 (a:=t) (b:=((Int.gcd p.den q.den:Nat):Int)) ⋯ gl;have dv2:∀ i,ak6 i ((Int.gcd t ((Int.gcd p.den q.den:Nat):Int):Nat):Int):=λi=>V4 ⋯ (P7 hl);have hd2:((Int.gcd t ((Int.gcd p.den q.den:Nat):Int):Nat):Int) ∣ q.den:=Int.dvd_trans (Int.gcd_dvd_right _ _) gd2;have f3:=L8 ⋯ hd2;have m1:IntMulOk p.num ((q.den:Int).fdiv ((Int.gcd p.den q.den:Nat):Int)):=B6 bp.n (Nat.lt_of_le_of_lt f2 bdq);have m2:IntMulOk q.num ((p.den:Int).fdiv ((Int.gcd p.den q.den:Nat):Int)):=B6 bq.n (Nat.lt_of_le_of_lt f1 bdp);have m3:IntMulOk ((p.den:Int).fdiv ((Int.gcd p.den q.den:Nat):Int)) ((q.den:Int).fdiv ((Int.gcd t ((Int.gcd p.den q.den:Nat):Int):Nat):Int)):=B6 (Nat.lt_of_le_of_lt f1 bdp) (Nat.lt_of_le_of_lt f3 bdq);refine ⟨.inl (P7 bdp),dv1 _,dv1 _,m1,m2,.inr (P7 gl),dv2 _,dv2 _,m3,k7,λr hr'=>?_⟩;obtain ⟨e1,e2⟩:=O6 R.1 R.2.1 (show (p.den:Int)*q.den ≠ 0 from Int.ne_of_gt (Int.mul_pos dp dq)) R.2.2;rw [<- ag4] at e1 e2;exact k r _ (b9.new hr' _) (by rw [b6];unfold k6;rw [e1,e2])
abbrev aB5:Stmt:=top 26
theorem aA7:i7 ["one","other","top","bottom"] ["one","other"] (c4 aB5):=by and_intros
theorem bl5 {f fp:Addr} (d:Df K mg "less" aB5 ["one","other"] f) (G_plus:Def P w K mg base CX0 2 "plus" fp ["one","other"] (aq6 K (· + ·))):Def P w K mg base CX0 3 "less" f ["one","other"] (aq6 K (· - ·)):=by
  refine d.ok (N:=["one","other","top","bottom"]) aA7 (λvs H Q E ⟨x,y,p,q,h,_⟩=>by rw [h];rfl) (λcdv A outer s H vs Q E hr h=>?_)
  obtain ⟨x,y,p,q,rfl,⟨ap,rfl,hp⟩,⟨aq,rfl,hq⟩,bp,bq,k⟩:=h
  refine ⟨_, (b7 (G8 (pv 1) (show PG _ _ (U9 K 2 (v9 (t6 2) (v9 (t6 3) V0))) from by (refine C9 (n := 2) ?_ ?_ ?_ ?_; rfl; (refine j3 ?_ ?_ ?_; (exact (d9 (i := 2) aA7.nd rfl (Or.inl rfl))); (refine j3 ?_ ?_ ?_; (exact (d9 (i := 3) aA7.nd rfl (Or.inl rfl))); (exact z8); rfl); rfl); rfl; rfl)))
      (c5 (i5 (c9 G_plus hr (a7 (pv 0) (a7 (l6 (a7 (E6 A7 (pv 2)) (a7 (pv 3) a8))) a8)) d8)))),?_⟩
  rw [show start ["one","other","top","bottom"] [.ref ap,.ref aq]=[some (.ref ap),some (.ref aq),none,none] from rfl]
  subst_eqs
  refine ⟨_,hq,rfl,?_⟩
  simp! [k6]
  refine ⟨k7,λr hr'=>?_⟩;refine ⟨.ref ap,.ref r,p,-q,rfl,⟨ap,rfl,(b9.new hr' _).tup hp⟩,⟨r,rfl,SqT.of (by rw [b6];rfl)⟩,bp,⟨by rw [Rat.neg_num,Int.natAbs_neg];exact bq.n,bq.d⟩,λr2 H2 s2 h2=>?_⟩
  have e:p + -q=p-q:=by grind
  have h3:H2 r2=some (.tup (k6 (p-q))):=by rw [<- e];exact h2
  exact k r2 H2 ((b9.new hr' _).trans s2) h3
abbrev ap0:Stmt:=top 27
theorem L9:i7 ["one","other","first","second","top","one_top","one_bottom","other_top","other_bottom"] ["one","other"] (c4 ap0):=by and_intros
theorem bc9 {f fc:Addr} (d:Df K mg "times" ap0 ["one","other"] f) (G_common_divisor:Def P w K mg base CX0 1 "common_divisor" fc ["one","other"] ah7):Def P w K mg base CX0 2 "times" f ["one","other"] (aq6 K (· * ·)):=by
  refine d.ok (N:=["one","other","first","second","top","one_top","one_bottom","other_top","other_bottom"]) L9 (λvs H Q E ⟨x,y,p,q,h,_⟩=>by rw [h];rfl) (λcdv A outer s H vs Q E hr h=>?_)
  obtain ⟨x,y,p,q,rfl,⟨ap,rfl,hp⟩,⟨aq,rfl,hq⟩,bp,bq,k⟩:=h
  refine ⟨_, (b7 (G8 (pv 0) (show PG _ _ (U9 K 2 (v9 (t6 5) (v9 (t6 6) V0))) from by (refine C9 (n := 2) ?_ ?_ ?_ ?_; rfl; (refine j3 ?_ ?_ ?_; (exact (d9 (i := 5) L9.nd rfl (Or.inl rfl))); (refine j3 ?_ ?_ ?_; (exact (d9 (i := 6) L9.nd rfl (Or.inl rfl))); (exact z8); rfl); rfl); rfl; rfl)))
      (b7 (G8 (pv 1) (show PG _ _ (U9 K 2 (v9 (t6 7) (v9 (t6 8) V0))) from by (refine C9 (n:=2) ?_ ?_ ?_ ?_;rfl;(refine j3 ?_ ?_ ?_;(exact (d9 (i:=7) L9.nd rfl (Or.inl rfl)));(refine j3 ?_ ?_ ?_;(exact (d9 (i:=8) L9.nd rfl (Or.inl rfl)));(exact z8);rfl);rfl);rfl;rfl)))
      (b7 (i4 (i:=2) L9.nd rfl (Or.inl rfl) (c9 G_common_divisor hr (a7 (pv 5) (a7 (pv 8) a8)) d8))
      (b7 (i4 (i:=3) L9.nd rfl (Or.inl rfl) (c9 G_common_divisor hr (a7 (pv 7) (a7 (pv 6) a8)) d8))
      (b7 (i4 (i:=4) L9.nd rfl (Or.inl rfl) (d4 m6 (d4 v8 (pv 5) (pv 2)) (d4 v8 (pv 7) (pv 3))))
      (c5 (i5 (l6 (a7 (pv 4) (a7 (d4 m6 (d4 v8 (pv 6) (pv 3)) (d4 v8 (pv 8) (pv 2))) a8)))))))))),?_⟩
  rw [show start ["one","other","first","second","top","one_top","one_bottom","other_top","other_bottom"] [.ref ap,.ref aq]=[some (.ref ap),some (.ref aq),none,none,none,none,none,none,none] from rfl]
  simp! [ah7]
  refine ⟨_,hp,rfl,?_⟩
  simp! [k6,ah7]
  refine ⟨_,hq,rfl,?_⟩
  simp! [k6,ah7]
  have dp:=k9 p;have dq:=k9 q;have bdp:((p.den:Int)).natAbs<2 ^ 6000:=by rw [Int.natAbs_natCast];exact bp.d
  have bdq:((q.den:Int)).natAbs<2 ^ 6000:=by rw [Int.natAbs_natCast];exact bq.d
  have p1:=C6 (t:=p.num) (b:=(q.den:Int)) ⋯;have p2:=C6 (t:=q.num) (b:=(p.den:Int)) ⋯;have l1:((Int.gcd p.num q.den:Nat):Int).natAbs<2 ^ 6000:=al9 ⋯ bdq;have l2:((Int.gcd q.num p.den:Nat):Int).natAbs<2 ^ 6000:=al9 ⋯ bdp;have v1:∀ i,ak6 i ((Int.gcd p.num q.den:Nat):Int):=λi=>V4 ⋯ (P7 l1);have v2:∀ i,ak6 i ((Int.gcd q.num p.den:Nat):Int):=λi=>V4 ⋯ (P7 l2);have f1:=L8 (a:=p.num) (g:=((Int.gcd p.num q.den:Nat):Int)) ⋯ (Int.gcd_dvd_left _ _);have f2:=L8 (a:=q.num) (g:=((Int.gcd q.num p.den:Nat):Int)) ⋯ (Int.gcd_dvd_left _ _);have f3:=L8 (a:=p.den) (g:=((Int.gcd q.num p.den:Nat):Int)) ⋯ (Int.gcd_dvd_right _ _);have f4:=L8 (a:=q.den) (g:=((Int.gcd p.num q.den:Nat):Int)) ⋯ (Int.gcd_dvd_right _ _);have R:=aZ8 (a:=p.num) (b:=p.den) (c:=q.num) (d:=q.den) dp dq (ap3 p) (ap3 q) rfl rfl;refine ⟨.inr (P7 bdq),.inr (P7 bdp),v1 _,v2 _,B6 (Nat.lt_of_le_of_lt f1 bp.n) (Nat.lt_of_le_of_lt f2 bq.n),v2 _,v1 _,B6 (Nat.lt_of_le_of_lt f3 bdp) (Nat.lt_of_le_of_lt f4 bdq),k7,λr hr'=>?_⟩;obtain ⟨e1,e2⟩:=O6 R.1 R.2.1 (show (p.den:Int)*q.den ≠ 0 from Int.ne_of_gt (Int.mul_pos dp dq)) R.2.2;rw [<- Z3] at e1 e2;exact k r _ (b9.new hr' _) (by rw [b6];unfold k6;rw [e1,e2])
instance {K:q0a} {H:Hp} {vs:List V} {qs:List Rat}:Coe (p7 H vs qs) (N5 K H vs qs):=⟨p7.toC⟩
def aw3 (K:q0a):Sp:=λvs H Q _ => ∃ a ws,vs=[.ref a]/\SqL K H a (ws.map V.int)/\(∀ w ∈ ws,z0q w<2 ^ 6000)/\Q (.int (x9 ws)) H
abbrev N7:Stmt:=top 31
theorem L4:i7 ["wholes","content","whole"] ["wholes"] (c4 N7):=by and_intros
theorem au9 {f fc:Addr} (d:Df K mg "content_of" N7 ["wholes"] f) (G_common_divisor:Def P w K mg base CX0 1 "common_divisor" fc ["one","other"] ah7):Def P w K mg base CX0 2 "content_of" f ["wholes"] (aw3 K):=by
 refine d.ok (N:=["wholes","content","whole"]) L4 (by rintro vs H Q E ⟨a,b,h,_⟩;rw [h];rfl) (λcdv A outer s H vs Q E hr h=>?_)
 obtain ⟨a,ws,rfl,hS,hb,k⟩:=h
 refine ⟨_,(b7 (i4 (i:=1) L4.nd rfl (j0a rfl) a9)
   (b7 (G7 PassesOwn.never rfl (Y5 (pv 0)) (d9 (i:=2) L4.nd rfl (j0a rfl)) (b7 (i4 (i:=1) L4.nd rfl (j0a rfl) (c9 G_common_divisor hr (a7 (pv 2) (a7 (pv 1) a8)) d8))
   (c5 (y7 (j9 an0 (pv 1) a9 (l5 _)) (c5 (i5 a9)) o0))))
   (c5 (i5 (pv 1))))),?_⟩
 rw [show start ["wholes","content","whole"] [.ref a]=[some (.ref a),none,none] from rfl]
 subst_eqs
 refine ⟨_,rfl,a,rfl,⟨_,hS⟩,as5 (xs:=ws.map V.int) (λi σ H1=>H1=H/\∃ o,σ=[some (.ref a),some (.int (x9 (ws.take i):Nat)),o]) ⟨rfl,_,rfl⟩ (λi σ H1 _ ⟨e,_⟩=>e ▸ hS) ?_ ?_⟩
 ·rintro i x σ H1 hx ⟨rfl,o,rfl⟩
  rw [z0k] at hx
  cases hw:ws[i]? with
  | none=>rw [hw] at hx;cases hx
  | some v =>
   rw [hw] at hx
   cases hx
   have hm:=z0r hw
   simp! [ah7]
   have es:ws.take (i+1)=ws.take i ++ [v]:=by rw [u0p,hw];rfl
   have eg:q0q v (x9 (ws.take i):Int)=x9 (ws.take (i+1)):=by rw [es,aX8]
   refine ⟨.inl (q0b (hb v hm) (c6 (by decide))),?_⟩
   rw [eg];refine ⟨rfl,x8 (λh1=>?_) (λ_=>?_)⟩
   ·have:x9 (ws.take (i+1))=1:=⋯
    have e1:=bf9 _ this;rw [e1] at k;exact k
   ·exact ⟨rfl,_,rfl⟩
 ·rintro σ H1 ⟨rfl,o,rfl⟩
  rw [z0g,v0q];exact ⟨_,rfl,k⟩
def aw4 (K:q0a):Sp:=λvs H Q _ => ∃ a xs qs,vs=[.ref a]/\SqL K H a xs/\N5 K H xs qs/\(∃ W:Nat,ClN W qs/\W<=6000)/\qs.length<=100 /\
 ∀ r l H',b9 H H'->H l=none->H' r=some (.tup [.ref l,.int (j4 qs)])->H' l=some (.lst ((j1 (j4 qs) qs).map V.int))->Q (.ref r) H'
abbrev U6:Stmt:=top 32
theorem W5:i7 ["numbers","bottom","number"] ["numbers"] (c4 U6):=by and_intros
theorem aN4 {f fc:Addr} (d:Df K mg "cleared" U6 ["numbers"] f) (G_common_divisor:Def P w K mg base CX0 1 "common_divisor" fc ["one","other"] ah7):Def P w K mg base CX0 2 "cleared" f ["numbers"] (aw4 K):=by
 refine d.ok (N:=["numbers","bottom","number"]) W5 (by rintro vs H Q E ⟨a,b,c,h,_⟩;rw [h];rfl) (λcdv A outer s H vs Q E hr h=>?_)
 obtain ⟨a,xs,qs,rfl,hS,hN,⟨W,hs,hm⟩,hl,k⟩:=h
 refine ⟨_,(b7 (i4 (i:=1) W5.nd rfl (Or.inr rfl) a9)
   (b7 (G7 PassesOwn.never rfl (Y5 (pv 0)) (d9 (i:=2) W5.nd rfl (j0a rfl)) (c5 (i4 (i:=1) W5.nd rfl (Or.inr rfl) (d4 m6 (d4 v8 (pv 1) (c9 G_common_divisor hr (a7 (pv 1) (a7 (j2 j6 (pv 2) a9 (λ_ _=>rfl)) a8)) d8)) (j2 j6 (pv 2) a9 (λ_ _=>rfl))))))
   (c5 (i5 (l6 (a7 (ai9 (Nc:=["bottom","top","under"]) (caps:=[some 1,none,none]) rfl (ag7.of (osc:=c4 U6) (N:=["numbers","bottom","number"]) (ks:=["bottom"]) rfl rfl rfl rfl (B9 rfl G2) (by decide +kernel)) (Y5 (pv 0)) (λC s₂ H₂ fp pins=>(show PG _ _ (U9 K 2 (v9 (t6 1) (v9 (t6 2) V0))) from by (refine C9 (n:=2) ?_ ?_ ?_ ?_;rfl;(refine j3 ?_ ?_ ?_;(exact (d9 (i:=1) (show List.Nodup (["bottom","top","under"]:List Str) by decide +kernel) rfl (j0a rfl) (Or.inr rfl)));(refine j3 ?_ ?_ ?_;(exact (d9 (i:=2) (show List.Nodup (["bottom","top","under"]:List Str) by decide +kernel) rfl (j0a rfl) (Or.inr rfl)));(exact z8);rfl);rfl);rfl;rfl))) (λC s₂ H₂ fp pins=>(d4 m6 (pv 1) (d4 v8 (pv 0) (pv 2))))) (a7 (pv 1) a8))))))),?_⟩
 rw [show start ["numbers","bottom","number"] [.ref a]=[some (.ref a),none,none] from rfl]
 subst_eqs
 have small:∀ q ∈ qs,q.den<2 ^ 6000:=λq hq=>q0b (hs.den hq) (c6 hm)
 have hB:∀ i,0<j4 (qs.take i)/\j4 (qs.take i)<2 ^ 6000:=λi=>by
  exact ⟨C1 _,q0b (hs.take i) (c6 hm)⟩
 refine ⟨_,rfl,a,rfl,⟨_,hS⟩,as5 (xs:=xs) (λi σ H1=>H1=H/\∃ o,σ=[some (.ref a),some (.int (j4 (qs.take i):Nat)),o]) ⟨rfl,_,rfl⟩ (λi σ H1 _ ⟨e,_⟩=>e ▸ hS) ?_ ?_⟩
 ·rintro i x σ H1 hx ⟨rfl,o,rfl⟩
  obtain ⟨p,q,rfl,hq,hp⟩:=hN.getV hx;obtain ⟨b1,b2⟩:=hB i;have hd:=small q (z0r hq);have hd0:=k9 q;have es:qs.take (i+1)=qs.take i ++ [q]:=by rw [u0p,hq];rfl
  have gp:(0:Int)<(q0q (j4 (qs.take i):Int) (q.den:Int):Nat):=by
   have:=C6 (t:=(j4 (qs.take i):Int)) (b:=(q.den:Int)) ⋯;omega
  have el:(j4 (qs.take i):Int).fdiv (q0q (j4 (qs.take i):Int) (q.den:Int):Nat)*(q.den:Int)=(j4 (qs.take (i+1)):Nat):=by
   rw [es,aX5];obtain ⟨e,he⟩:=y0b (j4 (qs.take i):Int) (q.den:Int);have hg:q0q (j4 (qs.take i):Int) (q.den:Int)=Nat.gcd (j4 (qs.take i)) q.den:=by simp [q0q]
   have h1:(j4 (qs.take i):Int).fdiv (q0q (j4 (qs.take i):Int) (q.den:Int):Nat)=e:=by
    conv=>lhs;arg 1;rw [he]
    exact i8 ⋯
   rw [h1];have h2:Nat.gcd (j4 (qs.take i)) q.den*g0e (j4 (qs.take i)) q.den=j4 (qs.take i)*q.den:=Nat.gcd_mul_lcm _ _
   have h3:((Nat.gcd (j4 (qs.take i)) q.den:Nat):Int)*(g0e (j4 (qs.take i)) q.den:Nat)=(j4 (qs.take i):Int)*(q.den:Int):=by
    rw [<- z0x,h2,z0x]
   rw [<- hg] at h3
   have h4:((q0q (j4 (qs.take i):Int) (q.den:Int):Nat):Int)*(e*q.den)=((q0q (j4 (qs.take i):Int) (q.den:Int):Nat):Int)*(g0e (j4 (qs.take i)) q.den:Nat):=by
    rw [h3,<- m0m,<- he]
   exact Int.eq_of_mul_eq_mul_left ⋯ h4
  simp! [ah7]
  have hd9:(q.den:Int).natAbs<2 ^ 6000:=by rw [q0m];exact hd
  exact ⟨_,hp.sqt,_,at1 q,_,rfl,.inr (P7 hd9),V4 ⋯ (al9 ⋯ (P7 hd9)),_,hp.sqt,_,at1 q,_,rfl,B6 (m:=6000) (n:=6000) (q0k (L8 ⋯ (y0b _ _)) (by rw [q0m];exact b2)) hd9,el,_,rfl⟩
 ·rintro σ H1 ⟨rfl,o,rfl⟩
  rw [<- hN.length] at hl;have e1:qs.take xs.length=qs:=by rw [hN.length,v0q]
  rw [e1]
  simp! [ah7]
  refine ⟨⟨_,hS⟩,λD hD=>?_⟩;refine ap8 xs (λi σ H2 => ∃ o1 o2,σ=[some (.int (j4 qs)),o1,o2]/\b9 H1 H2/\H2 D=some (.lst ((j1 (j4 qs) (qs.take i)).map V.int))) ⟨_,_,rfl,b9.new hD _,b6⟩ (λi σ H2 _ ⟨_,_,_,s2,_⟩=>s2.seq hS) ?_ ?_
  ·rintro i x σ H2 hx ⟨o1,o2,rfl,s2,e2⟩
   have hi:=(z0f.mp hx).1;obtain ⟨p,q,rfl,hq,hp⟩:=hN.getV hx;have hd:=small q (z0r hq);have hd0:=k9 q;have hd9:(q.den:Int).natAbs<2 ^ 6000:=by rw [q0m];exact hd
   have hn9:=hs.num (z0r hq);have es:qs.take (i+1)=qs.take i ++ [q]:=by rw [u0p,hq];rfl
   subst_eqs
   refine ⟨_,s2.tup hp.sqt,rfl,_,_,rfl,_,_,rfl,rfl,?_⟩;refine ⟨_,rfl,V4 ⋯ (P7 hd9),_,rfl,B6 (m:=6000) (n:=6000) (q0b hn9 (c6 ⋯)) (q0k (L8 ⋯ (j0h.mpr (J1 (z0r hq)))) (by rw [q0m];have:=(hB qs.length).2;rwa [v0q] at this)),?_⟩
   refine E3.mk hi e2 ?_ ⟨_,_,rfl,(s2.trans (b9.refl _)).over hD _,?_⟩
   ·simp only [z0g,j1,y0q]
    exact q0k (show _<=100 by omega) (by decide)
   ·rw [b6,es]
    simp [j1]
  ·rintro σ H2 ⟨o1,o2,rfl,s2,e2⟩
   rw [e1] at e2;refine ⟨k7,λp hp=>k p D _ (s2.trans (b9.new hp _)) hD b6 ?_⟩;rw [i9 (i6 e2 hp)];exact e2
theorem bm0 {qs:List Rat} (hc:x9 (j1 (j4 qs) qs) ≠ 0) :
  let c:Int:=x9 (j1 (j4 qs) qs)
  (q0e c (j4 qs)).num=c/\((q0e c (j4 qs)).den:Int)=j4 qs/\qs=scl (q0e c (j4 qs)) ((j1 (j4 qs) qs).map λv=>v.fdiv c):=by
 intro c;have hB:=C1 qs;obtain ⟨h1,h2⟩:=Y9 (n:=c) (d:=(j4 qs:Int)) ⋯ (aF1 qs);refine ⟨h1,h2,?_⟩;unfold scl j1;rw [y0p,y0p]
 conv=>lhs;rw [<- z1t qs]
 refine g0z λq hq=>?_
 show q=q0e c (j4 qs)*(((q.num*(j4 qs:Int).fdiv (q.den:Int)).fdiv c:Int):Rat);obtain ⟨e,he⟩:=P8 (ws:=j1 (j4 qs) qs) (v0p.mpr ⟨q,hq,rfl⟩);have hc':c ≠ 0:=by show ((x9 (j1 (j4 qs) qs):Nat):Int) ≠ 0;omega
 have e1:(q.num*(j4 qs:Int).fdiv (q.den:Int)).fdiv c=e:=by
  conv=>lhs;arg 1;rw [he]
  exact i8 hc'
 rw [e1]
 conv=>lhs;rw [aq1 hB (J1 hq)]
 rw [he]
 have e2:(e:Rat)=q0e e 1:=by
  have:=z0y (e:Rat);rw [g0s,g0t] at this;exact this.symm
 rw [e2,v0a,Int.mul_one]
theorem bn3 {ws:List Int} {v:Int} (h:v ∈ ws) (hv:v ≠ 0):x9 ws ≠ 0:=λz=>by
 obtain ⟨e,he⟩:=P8 h;rw [z] at he
 simp at he
 exact hv he
theorem aO3 {a g:Int} {n:Nat} (hg:0<g) (hd:g ∣ a) (h:a.natAbs<n):(a.fdiv g).natAbs<n:=q0k (L8 hg hd) h
theorem ax7 {d:Nat}:∀ (ws:List Int) (c:Nat),d ∣ c->(∀ w ∈ ws,(d:Int) ∣ w)->d ∣ ws.foldl (λc w=>q0q w c) c
 | [],c,h,_=>h
 | w :: r,c,h,hw=>ax7 r _ (Int.dvd_gcd (hw w z0s) (j0h.mpr h)) λx hx=>hw x (z0h _ hx)
theorem ar0 {q:Rat} (h:0<q.num):0<q:=(m0x 0 q).mpr (by
 show (0:Int)*(q.den:Int)<q.num*((1:Nat):Int);rw [q1b];simpa using h)
theorem aX9 {ws:List Int} (hc:x9 ws ≠ 0):x9 (ws.map λv=>v.fdiv ((x9 ws:Nat):Int))=1:=by
 obtain ⟨g,hg⟩:∃ g,g=x9 ws:=⟨_,rfl⟩;obtain ⟨e,he⟩:∃ e,e=x9 (ws.map λv=>v.fdiv ((x9 ws:Nat):Int)):=⟨_,rfl⟩
 have hd:(g*e) ∣ x9 ws:=ax7 ws 0 (Nat.dvd_zero _) λw hw=>by
  obtain ⟨y,hy⟩:=P8 hw
  have h1:w.fdiv ((x9 ws:Nat):Int)=y:=by
   conv=>lhs;arg 1;rw [hy]
   exact i8 ⋯
  obtain ⟨z,hz⟩:=P8 (v0p.mpr ⟨w,hw,rfl⟩:w.fdiv ((x9 ws:Nat):Int) ∈ ws.map λv=>v.fdiv ((x9 ws:Nat):Int));rw [h1,<- he] at hz;exact ⟨z,by rw [hy,<- hg,hz,z0x,m0m]⟩
 rw [<- hg] at hd;obtain ⟨z,hz⟩:=hd;have h2:g*1=g*(e*z):=by rw [z1r,<- z1c];exact hz
 have h3:=m0v (show 0<g by omega) h2
 rw [<- he];exact Nat.dvd_one.mp ⟨z,h3⟩
def aw2 (K:q0a):Sp:=λvs H Q _ => ∃ a xs qs,vs=[.ref a]/\SqL K H a xs/\N5 K H xs qs/\∃ W:Nat,ClN W qs/\W<=6000/\1<=W/\qs.length<=100/\Q7 qs qs.length /\
 ∀ r rs l s ws H',b9 H H'->H l=none->H' r=some (.tup [.ref rs,.ref l])->SqT K H' rs (k6 s)->H' l=some (.lst (ws.map V.int))->BdN W s->s ≠ 0->(∀ v ∈ ws,z0q v<2 ^ W)->ws.length=qs.length->qs=scl s ws->(ws ≠ []->x9 ws=1)->0<s->Q (.ref r) H'
abbrev aa6:Stmt:=top 33
theorem ac9:i7 ["p","content","wholes","bottom"] ["p"] (c4 aa6):=by and_intros
theorem aN5 {f fc fk aN:Addr} (d:Df K mg "lifted" aa6 ["p"] f) (G_cleared:Def P w K mg base CX0 2 "cleared" fc ["numbers"] (aw4 K)) (G_content_of:Def P w K mg base CX0 2 "content_of" fk ["wholes"] (aw3 K)) (c_ONE:mg "ONE" = some (.ref aN)) (tN:∀ H,SqT K H aN (k6 1)):Def P w K mg base CX0 3 "lifted" f ["p"] (aw2 K):=by
  refine d.ok (N:=["p","content","wholes","bottom"]) ac9 (by rintro vs H Q E ⟨a,b,c,h,_⟩;rw [h];rfl) (λcdv A outer s H vs Q E hr h=>?_)
  obtain ⟨a,xs,qs,rfl,hS,hN,m,hs,hm,hm1,hl,ht,k⟩:=h
  refine ⟨_, (b7 (G8 (c9 G_cleared hr (a7 (pv 0) a8) d8) (show PG _ _ (U9 K 2 (v9 (t6 2) (v9 (t6 3) V0))) from by (refine C9 (n := 2) ?_ ?_ ?_ ?_; rfl; (refine j3 ?_ ?_ ?_; (exact (d9 (i := 2) ac9.nd rfl (Or.inl rfl))); (refine j3 ?_ ?_ ?_; (exact (d9 (i := 3) ac9.nd rfl (Or.inl rfl))); (exact z8); rfl); rfl); rfl; rfl)))
      (b7 (y7 (N1 (ar2 (pv 2) (λ_=>rfl))) (c5 (i5 (l6 (a7 (y0 (v:=.ref _) rfl c_ONE rfl) (a7 (t8 a8) a8))))) o0)
      (b7 (i4 (i:=1) ac9.nd rfl (Or.inr rfl) (c9 G_content_of hr (a7 (pv 2) a8) d8))
      (c5 (i5 (l6 (a7 (l6 (a7 (pv 1) (a7 (pv 3) a8))) (a7 (ai9 (Nc:=["content","whole"]) (caps:=[some 1,none]) rfl (ag7.of (osc:=c4 aa6) (N:=["p","content","wholes","bottom"]) (ks:=["content"]) rfl rfl rfl rfl (B9 rfl G2) (by decide +kernel)) (Y5 (pv 2)) (λC s₂ H₂ fp pins=>(d9 (i:=1) (show List.Nodup (["content","whole"]:List Str) by decide +kernel) rfl (Or.inl rfl) (Or.inr rfl))) (λC s₂ H₂ fp pins=>(d4 v8 (pv 1) (pv 0)))) a8)))))))),?_⟩
  rw [show start ["p","content","wholes","bottom"] [.ref a]=[some (.ref a),none,none,none] from rfl]
  simp! [aP4]
  refine ⟨a,xs,qs,rfl,hS,hN,⟨m,hs,hm⟩,hl,λr l H1 s1 hl1 er el=>?_⟩;have hB:=C1 qs;have hB1:=hs.l;have wl:=hs.w;refine ⟨r,rfl,_,SqT.of er,rfl,_,_,rfl,_,_,rfl,rfl,_,.inl ⟨_,SqL.of el,rfl⟩,x8 (λh0=>?_) (λh0=>?_)⟩
  · have hq : qs = [] := by
      cases qs with
      | nil=>rfl
      | cons q r=>simp [j1] at h0
    subst hq;refine ⟨by decide,λp hp=>⟨k7,λp1 hp1=>?_⟩⟩
    refine k p1 aN p 1 [] _ (s1.trans ((b9.new hp _).trans (b9.new hp1 _))) (s1.free hp) b6 (tN _) (by rw [i9 (bv7 hp1).symm];exact b6) ⟨Nat.lt_of_lt_of_le (show _<2 ^ 1 by decide) (c6 ⋯),Nat.lt_of_lt_of_le (show _<2 ^ 1 by decide) (c6 ⋯)⟩ (by decide) (by simp) (by simp) rfl (λz=>absurd rfl z) (by decide)
  · have hq:qs ≠ []:=λz=>h0 (by rw [z];rfl)
    have lp:0<qs.length:=List.length_pos_iff.mpr hq;have hlast:qs.length-1<qs.length:=⋯;have hne:qs[qs.length-1] ≠ 0:=ht.last ⋯ _ (List.getElem?_eq_getElem hlast);have hmem:qs[qs.length-1] ∈ qs:=List.getElem_mem hlast
    have hc:x9 (j1 (j4 qs) qs) ≠ 0:=by
      refine bn3 (List.mem_map.mpr ⟨_,hmem,rfl⟩) ?_;obtain ⟨e,he⟩:=J1 hmem;have h0:(qs[qs.length-1].den:Int) ≠ 0:=by have:=qs[qs.length-1].den_nz;omega
      have e1:(j4 qs:Int).fdiv (qs[qs.length-1].den:Int)=(e:Int):=by
        rw [he,Int.natCast_mul];exact i8 h0
      rw [e1];refine Int.mul_ne_zero (λz=>hne (P6.mp z)) ?_;intro z;have:e=0:=⋯;rw [this] at he;omega
    obtain ⟨f1,f2,f3⟩:=bm0 hc;have cpos:(0:Int)<(x9 (j1 (j4 qs) qs):Nat):=⋯
    have cle:x9 (j1 (j4 qs) qs)<2 ^ m:=by
      have hm:qs[qs.length-1].num*(j4 qs:Int).fdiv (qs[qs.length-1].den:Int) ∈ j1 (j4 qs) qs:=List.mem_map.mpr ⟨_,hmem,rfl⟩;obtain ⟨e,he⟩:=P8 hm;have w1:=wl _ hm;rw [he,Int.natAbs_mul,Int.natAbs_natCast] at w1
      have e0:e.natAbs ≠ 0:=λz=>by
        have hz:e=0:=⋯;rw [hz,Int.mul_zero] at he;rcases Int.mul_eq_zero.mp he with q1 | q1
        · exact hne (P6.mp q1)
        · obtain ⟨e',he'⟩:=J1 hmem
          have h0:(qs[qs.length-1].den:Int) ≠ 0:=by have:=qs[qs.length-1].den_nz;omega
          have e1:(j4 qs:Int).fdiv (qs[qs.length-1].den:Int)=(e':Int):=by
            rw [he',Int.natCast_mul];exact i8 h0
          rw [e1] at q1;have:e'=0:=⋯;rw [this] at he';omega
      exact Nat.lt_of_le_of_lt (Nat.le_mul_of_pos_right _ ⋯) w1
    refine ⟨l,_,rfl,SqL.of el,λv hv=>Nat.lt_of_lt_of_le (wl v hv) (c6 hm),k7,λp hp=>⟨l,rfl,⟨_,SqL.of (b9.new hp _ _ _ el)⟩,λD hD=>?_⟩⟩;have sp:=b9.new hp (.tup [.int (x9 (j1 (j4 qs) qs):Nat),.int (j4 qs)])
    refine ap8 ((j1 (j4 qs) qs).map V.int) (λi σ H2 => ∃ o,σ=[some (.int (x9 (j1 (j4 qs) qs):Nat)),o]/\b9 (upd H1 p (.tup [.int (x9 (j1 (j4 qs) qs):Nat),.int (j4 qs)])) H2/\H2 D=some (.lst ((((j1 (j4 qs) qs).take i).map λv=>v.fdiv (x9 (j1 (j4 qs) qs):Nat)).map V.int)))
      ⟨_,rfl,b9.new hD _,b6⟩ (λi σ H2 _ ⟨_,_,s2,_⟩=>SqL.of (s2 _ _ (sp _ _ el))) ?_ ?_
    · rintro i x σ H2 hx ⟨o,rfl,s2,e2⟩
      have hi:=(List.getElem?_eq_some_iff.mp hx).1;rw [List.getElem?_map] at hx
      cases hw:(j1 (j4 qs) qs)[i]? with
      | none=>rw [hw] at hx;cases hx
      | some v =>
        rw [hw] at hx
        cases hx
        subst_eqs
        refine ⟨V4 ⋯ (by rw [Int.natAbs_natCast];exact P7 cle ⋯),E3.mk hi e2 ?_ ⟨_,rfl,s2.over hD _,?_⟩⟩
        · simp only [List.length_map,List.length_take,j1]
          exact Nat.lt_of_le_of_lt (show _<=100 by omega) (by decide)
        · rw [b6,List.take_succ,hw]
          simp
    · rintro σ H2 ⟨o,rfl,s2,e2⟩
      rw [List.length_map,List.take_length] at e2;refine ⟨k7,λp1 hp1=>?_⟩;have S:=(s1.trans sp).trans (s2.trans (b9.new hp1 (.tup [.ref p,.ref D])))
      have ep:SqT K (upd H2 p1 (.tup [.ref p,.ref D])) p (k6 (Rat.divInt (x9 (j1 (j4 qs) qs):Nat) (j4 qs))):=by
        refine SqT.of ?_;rw [i9 (i6 (s2 _ _ b6) hp1),s2 _ _ b6];unfold k6;rw [f1,f2]
      refine k p1 p D _ ((j1 (j4 qs) qs).map λv=>v.fdiv (x9 (j1 (j4 qs) qs):Nat)) _ S (s1.free (aI7 hD)) b6 ep (by rw [i9 (i6 e2 hp1)];exact e2) ⟨?_,?_⟩ ?_ ?_ ?_ f3 (λ_=>aX9 hc) ?_
      · rw [f1,Int.natAbs_natCast];exact cle
      · have:(Rat.divInt (x9 (j1 (j4 qs) qs):Nat) (j4 qs)).den=j4 qs:=⋯
        rw [this];exact hB1
      · intro z
        rw [z] at f1;have:(0:Rat).num=0:=rfl;omega
      · intro v hv
        obtain ⟨v',hv',rfl⟩:=List.mem_map.mp hv;exact aO3 cpos (P8 hv') (wl v' hv')
      · simp only [List.length_map,j1]
      · exact ar0 (by rw [f1];exact cpos)
def aH0 (K:q0a):Sp:=λvs H Q _ => ∃ (a b:Addr) (R F:List Int) (dv:Int) (W:Nat),vs=[.ref a,.ref b,.int dv]/\SqL K H a (R.map V.int)/\SqL K H b (F.map V.int)/\F ≠ []/\F.length<=R.length/\R.length<=20/\dv ≠ 0/\dv.natAbs<2 ^ W/\(∀ v ∈ R,z0q v<2 ^ W)/\(∀ v ∈ F,z0q v<2 ^ W)/\W<=8900 /\
 ∀ r T H',b9 H H'->H r=none->H' r=some (.lst (T.map V.int))->T.length=R.length-1->(∀ j,j<T.length->aZ T j=(aZ F 0*aZ R (j+1)-aZ R 0*aZ F (j+1)).fdiv dv)->Q (.ref r) H'
abbrev G5:Stmt:=top 40
theorem K9:i7 ["row","further","divisor","beside","lead","own"] ["row","further","divisor"] (c4 G5):=by and_intros
theorem au8 {f:Addr} (d:Df K mg "row_behind" G5 ["row","further","divisor"] f) (n_len:mg "len" = none) (n_zip:mg "zip" = none):Def P w K mg base CX0 1 "row_behind" f ["row","further","divisor"] (aH0 K):=by
  refine d.ok (N:=["row","further","divisor","beside","lead","own"]) K9 (by rintro vs H Q E ⟨_,_,_,_,_,_,h,_⟩;rw [h];rfl) (λcdv A outer s H vs Q E hr h=>?_)
  obtain ⟨a,b,R,F,dv,W,rfl,hR,hF,fn,lF,l20,d0,db,wR,wF,hW,k⟩:=h
  refine ⟨_, (b7 (G8 (l6 (a7 (j2 m8 (pv 1) a9 (fun _ _ => rfl)) (a7 (j2 m8 (pv 0) a9 (fun _ _ => rfl)) a8))) (show PG _ _ (U9 K 2 (v9 (t6 4) (v9 (t6 5) V0))) from by (refine C9 (n := 2) ?_ ?_ ?_ ?_; rfl; (refine j3 ?_ ?_ ?_; (exact (d9 (i := 4) K9.nd rfl (Or.inr rfl))); (refine j3 ?_ ?_ ?_; (exact (d9 (i := 5) K9.nd rfl (Or.inr rfl))); (exact z8); rfl); rfl); rfl; rfl)))
      (b7 (i4 (i:=3) K9.nd rfl (Or.inl rfl) (d4 af9 (ai8 ao8 (pv 1) (Y3 a9) Y4) (d4 aN2 (t8 (a7 a9 a8)) (d4 A8 (d5 j0 rfl n_len (by decide +kernel) (a7 (pv 0) a8)) (d5 j0 rfl n_len (by decide +kernel) (a7 (pv 1) a8))))))
      (c5 (i5 (ai9 (Nc:=["own","lead","divisor","whole","other"]) (caps:=[some 5,some 4,some 2,none,none]) rfl (ag7.of (osc:=c4 G5) (N:=["row","further","divisor","beside","lead","own"]) (ks:=["own","lead","divisor"]) rfl rfl rfl rfl (B9 rfl (B9 rfl (B9 rfl G2))) (by decide +kernel)) (bc5 rfl n_zip (a7 (ai8 ao8 (pv 0) (Y3 a9) Y4) (a7 (pv 3) a8))) (λC s₂ H₂ fp pins=>(show PG _ _ (U9 K 2 (v9 (t6 3) (v9 (t6 4) V0))) from by (refine C9 (n:=2) ?_ ?_ ?_ ?_;rfl;(refine j3 ?_ ?_ ?_;(exact (d9 (i:=3) (show List.Nodup (["own","lead","divisor","whole","other"]:List Str) by decide +kernel) rfl (Or.inl rfl) (Or.inr rfl)));(refine j3 ?_ ?_ ?_;(exact (d9 (i:=4) (show List.Nodup (["own","lead","divisor","whole","other"]:List Str) by decide +kernel) rfl (Or.inl rfl) (Or.inr rfl)));(exact z8);rfl);rfl);rfl;rfl))) (λC s₂ H₂ fp pins=>(d4 v8 (d4 A8 (d4 m6 (pv 1) (pv 3)) (d4 m6 (pv 0) (pv 4))) (pv 2)))))))),?_⟩
  rw [show start ["row","further","divisor","beside","lead","own"] [.ref a,.ref b,.int dv]=[some (.ref a),some (.ref b),some (.int dv),none,none,none] from rfl]
  have fp:=List.length_pos_iff.mpr fn
  have hf0:(F.map V.int)[0]? = some (.int (aZ F 0)):=by
    rw [List.getElem?_map,List.getElem?_eq_getElem ⋯];unfold aZ;rw [List.getElem?_eq_getElem ⋯];rfl
  have hr0:(R.map V.int)[0]? = some (.int (aZ R 0)):=by
    rw [List.getElem?_map,List.getElem?_eq_getElem ⋯];unfold aZ;rw [List.getElem?_eq_getElem ⋯];rfl
  refine d7 (λσ H1=>σ=[some (.ref a),some (.ref b),some (.int dv),none,some (.int (aZ F 0)),some (.int (aZ R 0))]/\b9 H H1) (λN hN=>?_) ?_
  · subst_eqs
    refine ⟨_,hF,_,B3 (j:=0) hf0,_,hR,_,B3 (j:=0) hr0,k7,λp hp=>?_⟩;exact ⟨_,SqT.of b6,rfl,_,_,rfl,_,_,rfl,rfl,hN _ _ ⟨rfl,b9.new hp _⟩⟩
  rintro σ H1 ⟨rfl,S1⟩;refine d7 (λσ H2 => ∃ be,σ=[some (.ref a),some (.ref b),some (.int dv),some (.ref be),some (.int (aZ F 0)),some (.int (aZ R 0))]/\b9 H1 H2/\H2 be=some (.lst ((F.drop 1 ++ List.replicate (R.length-F.length) 0).map V.int))) (λN hN=>?_) ?_
  · subst_eqs
    simp only [aE9];have lx:(((R.map V.int).length:Int)-((F.map V.int).length:Int)).toNat=R.length-F.length:=by rw [List.length_map,List.length_map];omega
    refine ⟨_,S1.seq hF,λp hp=>⟨by decide,λp1 hp1=>?_⟩⟩
    have X1:=b9.new hp (.lst ((F.map V.int).drop 1));have X2:=b9.new hp1 (.lst [.int 0]);have X:=X1.trans X2;refine ⟨_,.inl ((S1.trans X).seq hR),_,.inl ((S1.trans X).seq hF),_,b6,by rw [List.length_map,List.length_map];omega,by rw [List.length_map,List.length_map];omega,?_,λp2 hp2=>?_⟩
    · rw [lx]
      exact Nat.le_trans (show _<=100 by simp;omega) (by decide)
    rw [lx,List.flatten_replicate_singleton];have X3:=b9.new hp2 (.lst (List.replicate (R.length-F.length) (V.int 0)));refine ⟨_,X3 _ _ (X2 _ _ b6),_,b6,?_,λp3 hp3=>?_⟩
    · rw [List.length_drop,List.length_map,List.length_replicate]
      exact Nat.le_trans (show _<=100 by omega) (by decide)
    have X4:=b9.new hp3 (.lst ((F.map V.int).drop 1 ++ List.replicate (R.length-F.length) (V.int 0)));exact hN _ _ ⟨p3,rfl,X.trans (X3.trans X4),by rw [b6,List.map_append,List.map_drop,List.map_replicate]⟩
  rintro σ H2 ⟨be,rfl,S2,ebe⟩
  subst_eqs
  simp only [aE9];obtain ⟨bs,hbs⟩:∃ bs,bs=F.drop 1 ++ List.replicate (R.length-F.length) 0:=⟨_,rfl⟩;have lbs:bs.length=R.length-1:=by rw [hbs,List.length_append,List.length_drop,List.length_replicate];omega
  have bsg:∀ j v,bs[j]? = some v->v=aZ F (j+1):=λj v h=>by
    rw [hbs] at h;unfold aZ;rcases Nat.lt_or_ge j (F.drop 1).length with z | z
    · rw [List.getElem?_append_left z,List.getElem?_drop,Nat.add_comm] at h
      rw [h];rfl
    · rw [List.getElem?_append_right z] at h
      have h0:=(List.mem_replicate.mp (List.mem_of_getElem? h)).2;rw [List.length_drop] at z;rw [List.getElem?_eq_none ⋯,h0];rfl
  rw [<- hbs] at ebe;obtain ⟨tf,htf⟩:∃ tf:Nat->Int,∀ j,tf j=(aZ F 0*aZ R (j+1)-aZ R 0*aZ F (j+1)).fdiv dv:=⟨_,λ_=>rfl⟩;have S12:=S1.trans S2;refine ⟨_,S12.seq hR,λp hp=>?_⟩;have X:=b9.new hp (.lst ((R.map V.int).drop 1));have ep:(upd H2 p (.lst ((R.map V.int).drop 1))) p=some (.lst ((R.drop 1).map V.int)):=by rw [b6,List.map_drop]
  have eb2:=X _ _ ebe;refine ⟨⟨_,SqL.of ep⟩,⟨_,SqL.of eb2⟩,λD hD=>?_⟩;generalize upd H2 p (.lst ((R.map V.int).drop 1))=H3 at *;have lr1:((R.drop 1).map V.int).length=R.length-1:=by rw [List.length_map,List.length_drop]
  have lb1:(bs.map V.int).length=R.length-1:=by rw [List.length_map,lbs]
  have mb:min ((R.drop 1).map V.int).length (bs.map V.int).length=R.length-1:=by rw [lr1,lb1,Nat.min_self]
  refine bh4 ((R.drop 1).map V.int) (bs.map V.int) (λi σ H4 => ∃ o1 o2,σ=[some (V.int (aZ R 0)),some (V.int (aZ F 0)),some (V.int dv),o1,o2]/\b9 H3 H4/\H4 D=some (.lst (((List.range i).map tf).map V.int))) ⟨_,_,rfl,b9.new hD _,b6⟩ (by rintro i σ H4 ⟨_,_,_,s4,_⟩;exact ⟨SqL.of (s4 _ _ ep),SqL.of (s4 _ _ eb2)⟩) ?_ ?_
  · rintro i x y σ H4 q hx hy ⟨o1,o2,rfl,s4,e4⟩ hq
    have hi:=(List.getElem?_eq_some_iff.mp hy).1;obtain ⟨x',hx',rfl⟩:=aj9 hx;obtain ⟨y',hy',rfl⟩:=aj9 hy
    have ex:x'=aZ R (i+1):=by
      rw [List.getElem?_drop,Nat.add_comm] at hx';unfold aZ;rw [hx'];rfl
    have ey:=bsg i y' hy';subst ex ey;have T:=b9.new hq (.tup [.int (aZ R (i+1)),.int (aZ F (i+1))]);have eT:=T _ _ e4
    subst_eqs
    refine ⟨_,SqT.of b6,rfl,_,_,rfl,_,_,rfl,rfl,?_⟩;refine ⟨_,rfl,B6 (at7 wF 0) (at7 wR _) ⋯,_,rfl,B6 (at7 wR 0) (at7 wF _) ⋯,V4 d0 (P7 db ⋯),?_⟩;rw [mb];rw [lb1] at hi;refine E3.mk hi eT ?_ ⟨_,_,rfl,(s4.trans T).over hD _,?_⟩
    · rw [List.length_map,List.length_map,List.length_range]
      exact Nat.lt_of_lt_of_le (show i<100 by omega) (by decide)
    · rw [b6,List.range_succ,List.map_append,List.map_append,<- htf];rfl
  · rintro σ H4 ⟨o1,o2,rfl,s4,e4⟩
    rw [mb] at e4;refine k D ((List.range (R.length-1)).map tf) H4 ?_ ?_ e4 (by rw [List.length_map,List.length_range]) λj hj=>?_
    · exact (S12.trans X).trans s4
    · exact (S12.trans X).free hD
    · rw [List.length_map,List.length_range] at hj
      rw [<- htf];unfold aZ;rw [List.getElem?_map,List.getElem?_range hj];rfl
def bF (c x:Nat):Nat:=(c+1)*(x*(x+1))
structure SgS (c d0 L K:Nat) (P0 Q0:List Int) (s t:Rat) (A B:List Int):Prop where
 tA:Z9 A A.length
 tB:Z9 B B.length
 lA:A.length<=L
 lB:B.length<A.length
 gB:B ≠ []->x9 B=1
 eu:Eu (zc P0) (zc Q0) (zc A) (zc B) P0.length Q0.length A.length B.length
 s0:s ≠ 0
 t0:t ≠ 0
 wA:∀ k,(aZ A k).natAbs<2 ^ (c*(2*(L-A.length)+1))
 wB:∀ k,(aZ B k).natAbs<2 ^ (c*(2*(L-A.length)+1))
 sd:s.den<2 ^ (d0+bF c (L-A.length-1))
 sn:s.num.natAbs<2 ^ (d0+2*bF c (L-A.length-1))
 td:t.den<2 ^ (d0+bF c (L-A.length))
 tn:t.num.natAbs<2 ^ (d0+2*bF c (L-A.length))
def FmX (K:q0a) (D:Addr) (H:Hp) (r:Addr) (s:Rat) (ws:List Int):Prop:=∃ rs l,SqT K H r [.ref rs,.ref l]/\SqT K H rs (k6 s)/\H l=some (.lst (ws.map V.int))/\l ≠ D
inductive Fms (K:q0a) (D:Addr) (H:Hp):List V->List (Rat × List Int)->Prop where
 | nil:Fms K D H [] []
 | cons {r:Addr} {s:Rat} {ws:List Int} {xs:List V} {fs:List (Rat × List Int)} (h:FmX K D H r s ws) (t:Fms K D H xs fs):Fms K D H (.ref r :: xs) ((s,ws) :: fs)
theorem aH8 {b:Rat} {ws:List Int} (hg:x9 ws=1) {s:Nat->Int} (h:∀ k,(s k:Rat)=b*zc ws k):∃ g:Int,b=(g:Rat):=by
 have hb2:(b.den:Rat)*b=(b.num:Rat):=by
  have h3:(b.den:Rat) ≠ 0:=λw=>b.den_nz (Rat.natCast_inj.mp (by rw [w];rfl))
  have h4:b=(b.num:Rat) / (b.den:Rat):=by
   have:=z0y b;rw [q0y] at this;exact this.symm
  have h5:=q0d _ h3;rw [q0u] at h4;generalize (b.den:Rat)=y at *;generalize y⁻¹=z at *;generalize (b.num:Rat)=n at *
  grind
 have e:∀ k,(b.den:Int)*s k=b.num*aZ ws k:=λk=>by
  have h1:=h k
  have h3:(((b.den:Int)*s k:Int):Rat)=((b.num*aZ ws k:Int):Rat):=by
   rw [z0e,z0e,h1,y0e];unfold zc
   grind
  exact j0z.mp h3
 have d1:b.den=1:=by
  have:b.den ∣ x9 ws:=aJ8 ws 0 (Nat.dvd_zero _) λw hw=>by
   obtain ⟨k,hk,ek⟩:=u0d hw;have h1:=e k;have h2:aZ ws k=w:=by unfold aZ;rw [q0c hk,ek];rfl
   rw [h2] at h1;have:(b.den:Int) ∣ b.num*w:=⟨s k,by rw [<- h1]⟩
   have h3:b.den ∣ b.num.natAbs*w.natAbs:=by
    have:=y0g.mpr this;rw [q0m,z0b] at this;exact this
   exact y0g.mp (by rw [q0m];exact m0d.dvd_of_dvd_mul_left (m0d.symm b.reduced) h3)
  rw [hg] at this;exact Nat.dvd_one.mp this
 refine ⟨b.num,?_⟩;rw [<- hb2,d1]
 show b=((1:Nat):Rat)*b;have:((1:Nat):Rat)=1:=rfl;rw [this];grind
structure Pf where
 f:Nat->Rat
theorem Pf.ext {a b:Pf} (h:∀ k,a.f k=b.f k):a=b:=by
 cases a;cases b;congr 1;exact funext h
def y6 (c:Rat):Pf:=⟨λk=>if k=0 then c else 0⟩
def aN1 (a b:Pf):Pf:=⟨cv a.f b.f⟩
def bA8 (a:Pf):Nat->Pf
 | 0=>y6 1
 | n+1=>aN1 (bA8 a n) a
theorem at6 (c:Rat) (h:Nat->Rat) (k:Nat):cv (λk=>if k=0 then c else 0) h k=c*h k:=by
 rw [aY4,if_pos ⋯,q1c]
theorem ar7 (c:Rat) (a:Pf) (k:Nat):(aN1 (y6 c) a).f k=c*a.f k:=at6 c a.f k
instance instPf:Lean.Grind.CommRing Pf where
 add a b:=⟨λk=>a.f k+b.f k⟩
 mul:=aN1
 neg a:=⟨λk=>- a.f k⟩
 sub a b:=⟨λk=>a.f k-b.f k⟩
 natCast:=⟨λn=>y6 n⟩
 ofNat n:=⟨y6 n⟩
 intCast:=⟨λn=>y6 n⟩
 nsmul:=⟨λn a=>aN1 (y6 n) a⟩
 zsmul:=⟨λn a=>aN1 (y6 n) a⟩
 npow:=⟨bA8⟩
 add_zero a:=Pf.ext λk=>by
  show a.f k+(if k=0 then ((0:Nat):Rat) else 0)=a.f k;have:((0:Nat):Rat)=0:=rfl;rw [this];split <;> grind
 add_comm a b:=Pf.ext λk=>by show a.f k+b.f k=b.f k+a.f k;grind
 add_assoc a b c:=Pf.ext λk=>by show a.f k+b.f k+c.f k=a.f k+(b.f k+c.f k);grind
 mul_assoc a b c:=Pf.ext λk=>aK1 k a.f b.f c.f
 one_mul a:=Pf.ext λk=>by
  show cv (λk=>if k=0 then ((1:Nat):Rat) else 0) a.f k=a.f k;rw [at6];have:((1:Nat):Rat)=1:=rfl;rw [this];grind
 right_distrib a b c:=Pf.ext λk=>aO8 a.f b.f c.f k
 mul_zero a:=Pf.ext λk=>by
  show cv a.f (λk=>if k=0 then ((0:Nat):Rat) else 0) k=(if k=0 then ((0:Nat):Rat) else 0);rw [V7,at6];have:((0:Nat):Rat)=0:=rfl;rw [this];split <;> grind
 mul_comm a b:=Pf.ext λk=>V7 a.f b.f k
 mul_one a:=Pf.ext λk=>by
  show cv a.f (λk=>if k=0 then ((1:Nat):Rat) else 0) k=a.f k;rw [V7,at6];have:((1:Nat):Rat)=1:=rfl;rw [this];grind
 left_distrib a b c:=Pf.ext λk=>by
  show cv a.f (λk=>b.f k+c.f k) k=cv a.f b.f k+cv a.f c.f k;rw [V7,aO8,V7 b.f,V7 c.f]
 zero_mul a:=Pf.ext λk=>by
  show cv (λk=>if k=0 then ((0:Nat):Rat) else 0) a.f k=(if k=0 then ((0:Nat):Rat) else 0);rw [at6];have:((0:Nat):Rat)=0:=rfl;rw [this];split <;> grind
 pow_zero a:=Pf.ext λk=>by
  show (if k=0 then (1:Rat) else 0)=if k=0 then ((1:Nat):Rat) else 0;rfl
 pow_succ a n:=rfl
 ofNat_succ n:=Pf.ext λk=>by
  show (if k=0 then ((n+1:Nat):Rat) else 0)=(if k=0 then (n:Rat) else 0)+(if k=0 then ((1:Nat):Rat) else 0)
  split
  ·rw [g0v]
  ·grind
 neg_add_cancel a:=Pf.ext λk=>by
  show-a.f k+a.f k=if k=0 then ((0:Nat):Rat) else 0
  have:((0:Nat):Rat)=0:=rfl;rw [this];split <;> grind
 sub_eq_add_neg a b:=Pf.ext λk=>by show a.f k-b.f k=a.f k + - b.f k;grind
 neg_zsmul i a:=Pf.ext λk=>by
  show (aN1 (y6 ((-i:Int):Rat)) a).f k=- (aN1 (y6 (i:Rat)) a).f k;rw [ar7,ar7,v0c];grind
 intCast_neg i:=Pf.ext λk=>by
  show (if k=0 then ((-i:Int):Rat) else 0)=- (if k=0 then (i:Rat) else 0)
  split
  ·rw [v0c]
  ·grind
theorem aM8 (a b:Pf) (k:Nat):(a+b).f k=a.f k+b.f k:=rfl
theorem bA7 (c:Rat) (a:Pf) (k:Nat):(y6 c*a).f k=c*a.f k:=ar7 c a k
def zp (ws:List Int):Pf:=⟨zc ws⟩
theorem aR2 (k:Nat):(0:Pf).f k=0:=by
 show (if k=0 then ((0:Nat):Rat) else 0)=0;have:((0:Nat):Rat)=0:=rfl;rw [this];split <;> rfl
structure Ev (p q A B fa ha fb hb:Pf) (lp lq la lb:Nat):Prop where
 inv:∀ m,m<la->∀ u v:Pf,Dg u.f (lq-m)->Dg v.f (lp-m)->Dg (u*p+v*q).f m ->
  ∃ a b:Pf,u=a*fa+b*fb/\v=a*ha+b*hb/\Dg a.f (lb-m)/\Dg b.f (la-m)
 idA:A=fa*p+ha*q
 idB:B=fb*p+hb*q
 cr:∃ δ:Rat,δ ≠ 0/\y6 δ*p=hb*A-ha*B/\y6 δ*q=fa*B-fb*A
 le:la<=max lp lq
def ExZ (one other:List Int):Prop:=∃ (V:Nat->Int) (n:Nat),(∀ k,n<=k->V k=0)/\∀ k,zc one k=cv (λi=>(V i:Rat)) (zc other) k
theorem bm8 {n k:Nat} (h:k<n):ixN n (k:Int)=some k:=by
 unfold ixN;rw [if_pos ⋯,if_pos ⋯]
 simp
structure WDD (H:Hp) (one other:List Int) (n W1 W2 kst:Nat) (lq lr:Addr) (many:Int) (Qz Rz:List Int) (H3:Hp):Prop where
 same:b9 H H3
 fq:H lq=none
 fr:H lr=none
 nqr:lq ≠ lr
 eq:H3 lq=some (.lst (Qz.map V.int))
 er:H3 lr=some (.lst (Rz.map V.int))
 m1:1<=many
 mb:many.natAbs<2 ^ (kst*W2+1)
 qb:∀ v ∈ Qz,z0q v<2 ^ (W1+kst*(W2+1))
 rb:∀ v ∈ Rz,z0q v<2 ^ (W1+kst*(W2+1))
 kl:kst+Rz.length<=one.length
 ks:kst=0 \/ kst+n<=one.length
 k0:kst=0->Rz.length=one.length
 rt:Z9 Rz Rz.length
 ql:Qz.length=one.length-n
 qz:∀ i,i+n<Rz.length->aZ Qz i=0
 qlast:kst ≠ 0->∀ v,Qz[Qz.length-1]? = some v->v ≠ 0
 dv:Dv one other Qz Rz many
 ex:ExZ one other->many=1
def aa1 (k:Nat) (σ:L2.St) (H:Hp):Nat:=match σ[k]? with
 | some (some (.ref r))=>(match H r with
  | some (.lst xs)=>xs.length
  | _=>0)
 | _=>0
theorem aj6 {k:Nat} {σ:L2.St} {H:Hp} {r:Addr} {xs:List V} (h:σ[k]? = some (some (.ref r))) (e:H r=some (.lst xs)):aa1 k σ H=xs.length:=by
 unfold aa1;rw [h];simp only [e]
end
def sh (C:Nat->Rat):Nat->Rat
 | 0=>0
 | j+1=>C j
theorem A9 (C:Nat->Rat):sh C 0=0:=rfl
theorem t7 (C:Nat->Rat) (j:Nat):sh C (j+1)=C j:=rfl
inductive Hs:Nat->(Nat->Rat)->(Nat->Rat)->Prop where
 | base {A B:Nat->Rat} (h0:A 0 ≠ 0) (hA:∀ j,A (j+1)=0) (hB:∀ j,B j=0):Hs 0 A B
 | step {n:Nat} {A B C:Nat->Rat} {a:Rat} (ha:0<a) (hA:∀ j,A j=a*B j+sh C j) (h:Hs n B C):Hs (n+1) A B
theorem Hs.scale {n:Nat} {A B:Nat->Rat} (h:Hs n A B):∀ {A' B':Nat->Rat} {c d:Rat},0<c->0<d->(∀ j,A' j=c*A j)->(∀ j,B' j=d*B j)->Hs n A' B':=by
 induction h with
 | base h0 hA hB =>
  intro A' B' c d hc hd eA eB;refine .base ?_ (λj=>by rw [eA,hA];grind) (λj=>by rw [eB,hB];grind)
  rw [eA];intro z;rcases z0n.mp z with y | y
  ·rw [y] at hc;exact absurd hc (by decide)
  ·exact h0 y
 | @step n A B C a ha hA h ih =>
  intro A' B' c d hc hd eA eB;refine .step (a:=c*a*d⁻¹) (C:=λj=>c*C j) (q0s (q0s hc ha) (y0a.mpr hd)) (λj=>?_) (ih hd hc eB λj=>rfl);have hd':=q0d d (k8 hd);have e:sh (λj=>c*C j) j=c*sh C j:=by cases j <;> simp [sh]
  rw [eA,eB,hA,e];generalize d⁻¹=di at hd' ⊢
  grind
theorem Hs.lin {n:Nat} {A B:Nat->Rat} (h:Hs n A B):∀ {s t:Rat},0<s->0<t->Hs (n+1) (λj=>A j+s*sh B j) (λj=>B j+t*A j):=by
 induction h with
 | @base A B h0 hA hB =>
  intro s t hs ht;refine .step (a:=t⁻¹) (C:=λ_=>0) (y0a.mpr ht) (λj=>?_) (.base ?_ (λj=>?_) λj=>rfl)
  ·have ht':=q0d t (k8 ht)
   have e1:sh (λ_=>(0:Rat)) j=0:=by cases j <;> rfl
   have e2:sh B j=0:=by
    cases j with
    | zero=>rfl
    | succ j=>exact hB j
   rw [e1,e2,hB];generalize t⁻¹=ti at ht' ⊢
   grind
  ·show B 0+t*A 0 ≠ 0
   rw [hB];intro z;have:t*A 0=0:=by grind
   rcases z0n.mp this with y | y
   ·rw [y] at ht;exact absurd ht (by decide)
   ·exact h0 y
  ·show B (j+1)+t*A (j+1)=0
   rw [hA,hB];grind
 | @step n A B C a ha hA h ih =>
  intro s t hs ht
  have k0:0<1+t*a:=by
   have:=q0s ht ha
   grind
  have ki:=y0a.mpr k0;have kk:=q0d _ (k8 k0);generalize hk:(1+t*a)⁻¹=k at ki kk;have ih':=ih (s:=t*k) (t:=s*(1+t*a)) (q0s ht ki) (q0s hs k0);refine .step (a:=a*k) (C:=λj=>k*(C j+s*(1+t*a)*B j)) (q0s ha ki) (λj=>?_) (ih'.scale k0 ki (λj=>?_) λj=>rfl)
  ·have e:sh (λj=>k*(C j+s*(1+t*a)*B j)) j=k*(sh C j+s*(1+t*a)*sh B j):=by
    cases j with
    | zero=>show (0:Rat)=k*(0+s*(1+t*a)*0);grind
    | succ j=>rfl
   rw [e,hA]
   grind
  ·rw [hA]
   have e:sh C j=sh C j:=rfl
   grind
theorem rsq (x:Rat):0<=x*x:=by
 rcases q1d (a:=0) (b:=x) with h | h
 ·exact q0t h h
 ·have:x*x=(-x)*(-x):=by grind
  rw [this];exact q0t (by grind) (by grind)
theorem br6 {a b c:Rat} (ha:0<a) (hb:0<b) (hc:0<c) (h:a*b=c*c):0<=a+b-2*c:=by
 refine Classical.byContradiction λz=>?_;have z':0 < -(a+b-2*c):=by grind
 have y:0<a+b+2*c:=by grind
 have m:=q0s z' y;have s:=rsq (a-b);have e:-(a+b-2*c)*(a+b+2*c)=-((a-b)*(a-b))+4*(c*c-a*b):=by grind
 rw [e,h] at m
 grind
theorem Hs.quad {b c:Rat} (hb:0<b) (hc:0<c) {n:Nat} {A B:Nat->Rat} (h:Hs n A B):∀ {c0 c1 s t:Rat},0<c0->0<c1->c0*c1=c*c->0<s->s*t=b*b-2*c+c0+c1 ->
  Hs (n+2) (λj=>A j+c0*sh A j+s*sh B j) (λj=>B j+c1*sh B j+t*A j):=by
 have tpos:∀ {c0 c1 s t:Rat},0<c0->0<c1->c0*c1=c*c->0<s->s*t=b*b-2*c+c0+c1->0<t:=by
  intro c0 c1 s t h0 h1 hm hs he;have h2:=br6 h0 h1 hc hm;have h3:=q0s hb hb;have h4:0<s*t:=by rw [he];grind
  refine Classical.byContradiction λz=>?_;have z':0<=-t:=by grind
  have:=q0t (q0p hs) z'
  grind
 induction h with
 | @base A B h0 hA hB =>
  intro c0 c1 s t p0 p1 hm hs he;have ht:=tpos p0 p1 hm hs he;have ht':=q0d t (k8 ht);have hc':=q0d c0 (k8 p0)
  have sB:∀ j,sh B j=0:=λj=>by
   cases j with
   | zero=>rfl
   | succ j=>exact hB j
  refine .step (a:=t⁻¹) (C:=λj=>c0*A j) (y0a.mpr ht) (λj=>?_) (.step (a:=t*c0⁻¹) (C:=λ_=>0) (q0s ht (y0a.mpr p0)) (λj=>?_) (.base ?_ (λj=>?_) λj=>rfl))
  ·have e1:sh (λj=>c0*A j) j=c0*sh A j:=by
    cases j with
    | zero=>show (0:Rat)=c0*0;grind
    | succ j=>rfl
   rw [e1,sB,hB];generalize t⁻¹=ti at ht' ⊢
   grind
  ·have e1:sh (λ_=>(0:Rat)) j=0:=by cases j <;> rfl
   rw [e1,sB,hB];generalize c0⁻¹=ci at hc' ⊢
   grind
  ·intro z
   rcases z0n.mp z with y | y
   ·rw [y] at p0;exact absurd p0 (by decide)
   ·exact h0 y
  ·show c0*A (j+1)=0
   rw [hA];grind
 | @step n A B C a ha hA h ih =>
  intro c0 c1 s t p0 p1 hm hs he;have ht:=tpos p0 p1 hm hs he
  have k0:0<1+t*a:=by
   have:=q0s ht ha
   grind
  have ki:=y0a.mpr k0;have kk:=q0d _ (k8 k0);generalize hk:(1+t*a)⁻¹=k at ki kk;have ih':=ih (c0:=c1*k) (c1:=c0*(1+t*a)) (s:=t*k) (t:=(1+t*a)*(a*c0+s)-a*c1) (q0s p1 ki) (q0s p0 k0) (by grind) (q0s ht ki) (by grind)
  refine .step (a:=a*k) (C:=λj=>k*(C j+c0*(1+t*a)*sh C j+((1+t*a)*(a*c0+s)-a*c1)*B j)) (q0s ha ki) (λj=>?_) (ih'.scale k0 ki (λj=>?_) λj=>rfl)
  ·have e:sh (λj=>k*(C j+c0*(1+t*a)*sh C j+((1+t*a)*(a*c0+s)-a*c1)*B j)) j=k*(sh C j+c0*(1+t*a)*sh (sh C) j+((1+t*a)*(a*c0+s)-a*c1)*sh B j):=by
    cases j with
    | zero=>show (0:Rat)=k*(0+c0*(1+t*a)*0+((1+t*a)*(a*c0+s)-a*c1)*0);grind
    | succ j=>rfl
   have e2:sh A j=a*sh B j+sh (sh C) j:=by
    cases j with
    | zero=>show (0:Rat)=a*0+0;grind
    | succ j=>exact hA j
   rw [e,hA,e2]
   grind
  ·rw [hA]
   grind
theorem ad2 {x:Rat} (h:x ≠ 0):0<x*x:=by
 have h1:=rsq x;have h2:x*x ≠ 0:=λz=>by rcases z0n.mp z with y | y <;> exact h y
 grind
theorem Hs.lead {n:Nat} {A B:Nat->Rat} (h:Hs n A B):A 0 ≠ 0:=by
 induction h with
 | base h0 _ _=>exact h0
 | @step n A B C a ha hA h ih =>
  rw [hA 0,A9];intro z;have:a*B 0=0:=by grind
  rcases z0n.mp this with y | y
  ·rw [y] at ha;exact absurd ha (by decide)
  ·exact ih y
theorem Hs.supp {n:Nat} {A B:Nat->Rat} (h:Hs n A B):(∀ j,n<2*j->A j=0)/\∀ j,n<2*j+1->B j=0:=by
 induction h with
 | base h0 hA hB=>exact ⟨λj hj=>by obtain ⟨m,rfl⟩:∃ m,j=m+1:=⟨j-1,⋯⟩;exact hA m,λj _=>hB j⟩
 | @step n A B C a ha hA h ih =>
  refine ⟨λj hj=>?_,λj hj=>ih.1 j ⋯⟩;obtain ⟨m,rfl⟩:∃ m,j=m+1:=⟨j-1,⋯⟩;rw [hA,ih.1 (m+1) ⋯,t7,ih.2 m ⋯];grind
theorem Hs.pos {n:Nat} {A B:Nat->Rat} (h:Hs n A B):∃ c:Rat,c ≠ 0/\0<c*A 0/\(∀ j,2*j<=n->0<c*A j)/\∀ j,2*j+1<=n->0<c*B j:=by
 induction h with
 | @base A B h0 hA hB =>
  have sq:0<A 0*A 0:=ad2 h0;refine ⟨A 0,h0,sq,λj hj=>?_,λj hj=>⋯⟩;have:j=0:=⋯;subst this;exact sq
 | @step n A B C a ha hA h ih =>
  obtain ⟨c,c0,cl,pB,pC⟩:=ih
  have pA:∀ j,2*j<=n+1->0<c*A j:=λj hj=>by
   rw [hA]
   cases j with
   | zero =>
    rw [A9];have:=q0s ha cl
    grind
   | succ j =>
    rw [t7];have h2:=pC j ⋯
    by_cases hb:2*(j+1)<=n
    ·have:=q0s ha (pB (j+1) hb)
     grind
    ·rw [h.supp.1 (j+1) ⋯]
     grind
  exact ⟨c,c0,pA 0 ⋯,pA,λj hj=>pB j ⋯⟩
def Q5:Nat->(Nat->Rat)->(Nat->Rat)->Bool
 | 0,_,_=>true
 | n+1,A,B=>decide (0<A 0*B 0) && Q5 n B (λj=>A (j+1)-A 0 / B 0*B (j+1))
theorem bo0 {n:Nat} {A B:Nat->Rat} (h:Hs n A B):Q5 n A B=true:=by
 induction h with
 | base _ _ _=>rfl
 | @step n A B C a ha hA h ih =>
  have b0:=h.lead;have e0:A 0=a*B 0:=by rw [hA,A9];grind
  have ea:A 0 / B 0=a:=by
   rw [e0,q0u];have:=q0d _ b0;generalize (B 0)⁻¹=bi at this ⊢
   grind
  have eC:(λj=>A (j+1)-A 0 / B 0*B (j+1))=C:=by
   funext j
   rw [ea,hA,t7];grind
  have sq:0<A 0*B 0:=by
   obtain ⟨c,c0,cl,pB,_⟩:=h.pos;rw [e0];have h1:=q0s (pB 0 ⋯) cl;have h3:0<B 0*B 0:=ad2 b0;have:=q0s ha h3
   grind
  unfold Q5;rw [eC,ih,decide_eq_true sq];rfl
theorem br2:∀ {n:Nat} {A B:Nat->Rat},A 0 ≠ 0->(∀ j,n<2*j->A j=0)->(∀ j,n<2*j+1->B j=0)->Q5 n A B=true->Hs n A B
 | 0,A,B,a0,sA,sB,_=>.base a0 (λj=>sA (j+1) ⋯) (λj=>sB j ⋯)
 | n+1,A,B,a0,sA,sB,h=>by
  unfold Q5 at h;rw [j0t,decide_eq_true_eq] at h;have b0:B 0 ≠ 0:=λz=>by have:=h.1;rw [z] at this;grind
  have bi:=q0d _ b0;have ea:A 0 / B 0=A 0*(B 0)⁻¹:=q0u ..
  have pa:0<A 0 / B 0:=by
   have h3:0<B 0*B 0:=ad2 b0;have h4:=q0s h.1 (y0a.mpr h3);have h5:=q0d _ (k8 h3);rw [ea];generalize (B 0)⁻¹=x at bi ⊢;generalize (B 0*B 0)⁻¹=y at h4 h5;have:A 0*x=A 0*B 0*y:=by grind
   rw [this];exact h4
  refine .step (a:=A 0 / B 0) (C:=λj=>A (j+1)-A 0 / B 0*B (j+1)) pa (λj=>?_) (br2 b0 (λj hj=>sB j ⋯) (λj hj=>?_) h.2)
  ·cases j with
   | zero =>
    rw [A9,ea];generalize (B 0)⁻¹=x at bi ⊢
    grind
   | succ j=>rw [t7];grind
  ·show A (j+1)-A 0 / B 0*B (j+1)=0
   rw [sA (j+1) ⋯,sB (j+1) ⋯];grind
def Lr (A B:Nat->Rat):Nat->Nat->Rat
 | 0=>A
 | 1=>B
 | k+2=>λj=>Lr A B k (j+1)-Lr A B k 0 / Lr A B (k+1) 0*Lr A B (k+1) (j+1)
def Pl (A B:Nat->Rat):Nat->Rat
 | 0=>1
 | 1=>1
 | k+2=>Pl A B (k+1)*Lr A B (k+1) 0
theorem aR1 {A B:Nat->Rat}:∀ k,(∀ i,1<=i->i<k->Lr A B i 0 ≠ 0)->Pl A B k ≠ 0
 | 0,_=>by unfold Pl;decide
 | 1,_=>by unfold Pl;decide
 | k+2,h=>by
  unfold Pl;intro z;rcases z0n.mp z with y | y
  ·exact aR1 (k+1) (λi h1 h2=>h i h1 ⋯) y
  ·exact h (k+1) ⋯ ⋯ y
theorem af4 {A B:Nat->Rat}:∀ k,(∀ i,1<=i->i<k->Lr A B i 0 ≠ 0)->(∀ j,tau A B k j=Pl A B k*Lr A B k j)/\(0<k->∀ j,tau A B (k-1) j=Pl A B (k-1)*Lr A B (k-1) j)
 | 0,_=>⟨λj=>by rw [P1];unfold Pl Lr;grind,λh=>⋯⟩
 | 1,_=>⟨λj=>by rw [F3];unfold Pl Lr;grind,λ_ j=>by show tau A B 0 j=_;rw [P1];unfold Pl Lr;grind⟩
 | k+2,h=>by
  obtain ⟨i1,i2⟩:=af4 (k+1) λi h1 h2=>h i h1 ⋯;have i2:=i2 ⋯;rw [q0w] at i2;have l1:=h (k+1) ⋯ ⋯
  have tn:∀ i,1<=i->i<k+1->tau A B i 0 ≠ 0:=λi h1 h2=>by
   rw [(af4 i λi' h1' h2'=>h i' h1' ⋯).1 0];intro z;rcases z0n.mp z with y | y
   ·exact aR1 i (λi' h1' h2'=>h i' h1' ⋯) y
   ·exact h i h1 ⋯ y
  refine ⟨λj=>?_,λ_=>i1⟩
  have r:=az7 (k+1) A B ⋯ tn (λhk=>by
   have:k=0:=⋯;subst this;exact l1) j
  rw [q0w,i1,i1,i2,i2] at r
  have dl:dlt A B (k+1)=Pl A B k:=by
   unfold dlt
   split
   ·have:k=0 \/ k=1:=⋯
    rcases this with rfl | rfl <;> rfl
   ·obtain ⟨m,rfl⟩:∃ m,k=m+2:=⟨k-2,⋯⟩
    rw [show m+2+1-2=m+1 by omega,(af4 (m+1) λi' h1' h2'=>h i' h1' ⋯).1 0];rfl
  rw [dl] at r;have pk:=aR1 k λi h1 h2=>h i h1 ⋯;have eL:Lr A B (k+2) j=Lr A B k (j+1)-Lr A B k 0 / Lr A B (k+1) 0*Lr A B (k+1) (j+1):=rfl;have eP:Pl A B (k+2)=Pl A B (k+1)*Lr A B (k+1) 0:=rfl;refine G6 pk ?_;rw [eL,eP,q0u];have li:=q0d _ l1;generalize (Lr A B (k+1) 0)⁻¹=x at li ⊢
  grind
theorem ap6:∀ {n:Nat} {A B:Nat->Rat},0<A 0->(Q5 n A B=true ↔ ∀ k,1<=k->k<=n->0<Lr A B k 0)
 | 0,A,B,_=>⟨λ_ k h1 h2=>⋯,λ_=>rfl⟩
 | n+1,A,B,a0=>by
  have hB:∀ k,Lr B (λj=>A (j+1)-A 0 / B 0*B (j+1)) k=Lr A B (k+1):=λk=>by
   have two:∀ k,Lr B (λj=>A (j+1)-A 0 / B 0*B (j+1)) k=Lr A B (k+1)/\Lr B (λj=>A (j+1)-A 0 / B 0*B (j+1)) (k+1)=Lr A B (k+2):=λk=>by
    induction k with
    | zero=>exact ⟨rfl,rfl⟩
    | succ k ih =>
     refine ⟨ih.2,?_⟩
     show (λj=>Lr B _ k (j+1)-Lr B _ k 0 / Lr B _ (k+1) 0*Lr B _ (k+1) (j+1))=_;rw [ih.1,ih.2];rfl
   exact (two k).1
  unfold Q5;rw [j0t,decide_eq_true_eq]
  constructor
  ·rintro ⟨h1,h2⟩ k k1 kn
   have b0:0<B 0:=by
    refine Classical.byContradiction λz=>?_;have z':0<=-(B 0):=by grind
    have:=q0t (q0p a0) z'
    grind
   obtain ⟨m,rfl⟩:∃ m,k=m+1:=⟨k-1,⋯⟩
   cases m with
   | zero=>exact b0
   | succ m =>
    have:=(ap6 (n:=n) (A:=B) (B:=λj=>A (j+1)-A 0 / B 0*B (j+1)) b0).mp h2 (m+1) ⋯ ⋯;rw [hB] at this;exact this
  ·intro h
   have b0:=h 1 ⋯ ⋯;have b0':0<B 0:=b0;refine ⟨q0s a0 b0',(ap6 b0').mpr λk k1 kn=>?_⟩;rw [hB];exact h (k+1) ⋯ ⋯
theorem aM6 {A B:Nat->Rat}:∀ k,(∀ i,1<=i->i<k->0<Lr A B i 0)->0<Pl A B k
 | 0,_=>by unfold Pl;decide
 | 1,_=>by unfold Pl;decide
 | k+2,h=>q0s (aM6 (k+1) λi h1 h2=>h i h1 ⋯) (h (k+1) ⋯ ⋯)
theorem aP6 {n:Nat} {A B:Nat->Rat}:(∀ k,1<=k->k<=n->0<tau A B k 0) ↔ ∀ k,1<=k->k<=n->0<Lr A B k 0:=by
 constructor
 ·intro h k
  induction k using Nat.strongRecOn with
  | _ k ih =>
   intro k1 kn;have lp:∀ i,1<=i->i<k->0<Lr A B i 0:=λi h1 h2=>ih i h2 h1 ⋯;have:=h k k1 kn;rw [(af4 k λi h1 h2=>k8 (lp i h1 h2)).1 0] at this;have pp:=aM6 k lp;refine Classical.byContradiction λz=>?_;have z':0<=-(Lr A B k 0):=by grind
   have:=q0t (q0p pp) z'
   grind
 ·intro h k k1 kn
  have lp:∀ i,1<=i->i<k->0<Lr A B i 0:=λi h1 h2=>h i h1 ⋯;rw [(af4 k λi h1 h2=>k8 (lp i h1 h2)).1 0];exact q0s (aM6 k lp) (h k k1 kn)
abbrev Cz:=Rat × Rat
def zm (u w v:Rat) (x:Cz):Cz:=(u*x.1-v*w*x.2,u*x.2+w*x.1)
def zw (u w v:Rat):Nat->Cz
 | 0=>(1,0)
 | n+1=>zm u w v (zw u w v n)
def Ez (u w v:Rat):Nat->(Nat->Rat)->Cz
 | 0,A=>(A 0,0)
 | 1,A=>zm u w v (A 0,0)
 | n+2,A=>(A 0*(zw u w v (n+2)).1+(Ez u w v n λj=>A (j+1)).1,A 0*(zw u w v (n+2)).2+(Ez u w v n λj=>A (j+1)).2)
theorem E5 {x y:Cz} (h1:x.1=y.1) (h2:x.2=y.2):x=y:=Prod.ext h1 h2
section
variable {u w v:Rat}
theorem ab8 (a b:Rat):∀ (n:Nat) (A B:Nat->Rat),(Ez u w v n λj=>a*A j+b*B j)=(a*(Ez u w v n A).1+b*(Ez u w v n B).1,a*(Ez u w v n A).2+b*(Ez u w v n B).2)
 | 0,A,B=>by refine E5 rfl ?_;show (0:Rat)=a*0+b*0;grind
 | 1,A,B=>by
  refine E5 ?_ ?_
  ·show u*(a*A 0+b*B 0)-v*w*0=a*(u*A 0-v*w*0)+b*(u*B 0-v*w*0);grind
  ·show u*0+w*(a*A 0+b*B 0)=a*(u*0+w*A 0)+b*(u*0+w*B 0);grind
 | n+2,A,B=>by
  have ih:=ab8 a b n (λj=>A (j+1)) (λj=>B (j+1));unfold Ez;rw [ih];refine E5 ?_ ?_ <;> simp only <;> grind
theorem an8:∀ (n:Nat) (B:Nat->Rat),(∀ j,n<2*j->B j=0)->Ez u w v (n+1) B=zm u w v (Ez u w v n B)
 | 0,B,_=>rfl
 | 1,B,h=>by
  have b1:=h 1 (by decide)
  refine E5 ?_ ?_
  ·show B 0*(zm u w v (zm u w v (1,0))).1+B 1=(zm u w v (zm u w v (B 0,0))).1
   rw [b1];simp only [zm];grind
  ·show B 0*(zm u w v (zm u w v (1,0))).2+0=(zm u w v (zm u w v (B 0,0))).2
   simp only [zm];grind
 | n+2,B,h=>by
  have ih:=an8 n (λj=>B (j+1)) λj hj=>h (j+1) ⋯
  show (B 0*(zm u w v (zw u w v (n+2))).1+(Ez u w v (n+1) λj=>B (j+1)).1,B 0*(zm u w v (zw u w v (n+2))).2+(Ez u w v (n+1) λj=>B (j+1)).2)=_;rw [ih];have e:Ez u w v (n+2) B=(B 0*(zw u w v (n+2)).1+(Ez u w v n λj=>B (j+1)).1,B 0*(zw u w v (n+2)).2+(Ez u w v n λj=>B (j+1)).2):=rfl;rw [e];refine E5 ?_ ?_ <;> simp only [zm] <;> grind
theorem aJ7 (n:Nat) (C:Nat->Rat):Ez u w v (n+2) (sh C)=Ez u w v n C:=by
 refine E5 ?_ ?_
 ·show (0:Rat)*_+(Ez u w v n λj=>sh C (j+1)).1=_
  show (0:Rat)*_+(Ez u w v n C).1=_
  grind
 ·show (0:Rat)*_+(Ez u w v n C).2=_
  grind
def ip (v:Rat) (x y:Cz):Rat:=x.1*y.1+v*(x.2*y.2)
theorem bw4 (hv:0<v) (x:Cz):0<=ip v x x:=by
 have h1:=rsq x.1;have h2:=q0t (q0p hv) (rsq x.2);unfold ip
 grind
theorem bn0 (hv:0<v) {x:Cz} (h:ip v x x<=0):x=(0,0):=by
 have h1:=rsq x.1;have h2:=q0t (q0p hv) (rsq x.2);unfold ip at h;have e1:x.1*x.1=0:=by grind
 have e2:v*(x.2*x.2)=0:=by grind
 refine E5 ?_ ?_
 ·rcases z0n.mp e1 with y | y <;> exact y
 ·rcases z0n.mp e2 with y | y
  ·rw [y] at hv;exact absurd hv (by decide)
  ·rcases z0n.mp y with y | y <;> exact y
theorem Hs.ez (hu:0<=u) (hv:0<v):∀ (n:Nat) {A B:Nat->Rat},Hs (n+1) A B->0<=ip v (Ez u w v (n+1) A) (Ez u w v n B)/\¬ (Ez u w v (n+1) A=(0,0)/\Ez u w v n B=(0,0))
 | 0,A,B,h=>by
  cases h with
  | @step _ _ _ C a ha hA h =>
   have b0:=h.lead;have e0:A 0=a*B 0:=by rw [hA,A9];grind
   refine ⟨?_,λz=>b0 (congrArg Prod.fst z.2)⟩
   show 0<=(u*A 0-v*w*0)*B 0+v*((u*0+w*A 0)*0);have:=q0t (q0t hu (q0p ha)) (rsq (B 0));rw [e0];grind
 | m+1,A,B,h=>by
  cases h with
  | @step _ _ _ C a ha hA h =>
   obtain ⟨i1,i2⟩:=Hs.ez hu hv m h;have eA:A=λj=>a*B j+1*sh C j:=by funext j;rw [hA];grind
   have e0:Ez u w v (m+2) A=(a*(zm u w v (Ez u w v (m+1) B)).1+(Ez u w v m C).1,a*(zm u w v (Ez u w v (m+1) B)).2+(Ez u w v m C).2):=by
    rw [eA,ab8,aJ7,an8 (m+1) B h.supp.1];refine E5 ?_ ?_ <;> simp only <;> grind
   show 0<=ip v (Ez u w v (m+2) A) _/\¬ (Ez u w v (m+2) A=_/\_);rw [e0];generalize Ez u w v (m+1) B=F1 at *;generalize Ez u w v m C=F2 at *;refine ⟨?_,λz=>i2 ⟨z.2,?_⟩⟩
   ·have:=q0t (q0t hu (q0p ha)) (bw4 hv F1)
    unfold ip at this i1 ⊢;simp only [zm] at this ⊢
    grind
   ·obtain ⟨z1,z2⟩:=z
    rw [z2] at z1;have z3:=congrArg Prod.fst z1;have z4:=congrArg Prod.snd z1;simp only [zm] at z3 z4;exact E5 (by show F2.1=0;grind) (by show F2.2=0;grind)
theorem Hs.noroot (hu:0<=u) (hv:0<v) {n:Nat} {A B:Nat->Rat} (h:Hs (n+1) A B) (z1:(Ez u w v (n+1) A).1+(Ez u w v n B).1=0) (z2:(Ez u w v (n+1) A).2+(Ez u w v n B).2=0):False:=by
 obtain ⟨i1,i2⟩:=Hs.ez (w:=w) hu hv n h;generalize Ez u w v (n+1) A=F0 at *;generalize Ez u w v n B=F1 at *;have e1:F0.1=-F1.1:=by grind
 have e2:F0.2=-F1.2:=by grind
 have n1:ip v F1 F1<=0:=by
  unfold ip at i1 ⊢;rw [e1,e2] at i1
  grind
 have f1:=bn0 hv n1;refine i2 ⟨E5 ?_ ?_,f1⟩
 ·rw [e1,f1];show -(0:Rat)=0;decide
 ·rw [e2,f1];show -(0:Rat)=0;decide
end
theorem bv3 {r:Rat} (hr:0<=r) {n:Nat} {A B:Nat->Rat} (sA:∀ j,n<2*j->A j=0) (sB:∀ j,n<2*j+1->B j=0):¬ Hs (n+1) (λj=>A j + -r*sh B j) (λj=>B j + -r*A j):=λh=>by
 have eP:(λj=>A j + -r*sh B j)=λj=>1*A j + -r*sh B j:=by funext j;grind
 have eQ:(λj=>B j + -r*A j)=λj=>1*B j + -r*A j:=by funext j;grind
 rw [eP,eQ] at h;have up:=an8 (u:=r) (w:=0) (v:=1) n A sA;have key:∀ (x:Cz),zm r 0 1 x=(r*x.1,r*x.2):=λx=>E5 (by simp only [zm];grind) (by simp only [zm];grind)
 have hb:∃ Y:Cz,Ez r 0 1 (n+1) (sh B)=Y/\Ez r 0 1 n B=(r*Y.1,r*Y.2):=by
  cases n with
  | zero =>
   refine ⟨(0,0),?_,?_⟩
   ·show zm r 0 1 (0,0)=_
    rw [key];exact E5 (by show r*0=0;grind) (by show r*0=0;grind)
   ·show (B 0,(0:Rat))=_
    rw [sB 0 ⋯];exact E5 (by show 0=r*0;grind) (by show 0=r*0;grind)
  | succ m=>exact ⟨Ez r 0 1 m B,aJ7 m B,by rw [an8 m B λj hj=>sB j ⋯,key]⟩
 obtain ⟨Y,y1,y2⟩:=hb;refine h.noroot (u:=r) (w:=0) (v:=1) hr (by decide) ?_ ?_
 ·rw [ab8,ab8,up,key,y1,y2];simp only;grind
 ·rw [ab8,ab8,up,key,y1,y2];simp only;grind
theorem bl7 {u v:Rat} (hu:0<=u) (hv:0<v) {n:Nat} {A B:Nat->Rat} (sA:∀ j,n<2*j->A j=0) (sB:∀ j,n<2*j+1->B j=0):¬ Hs (n+2) (λj=>A j+(u*u+v)*sh A j + -2*u*sh B j) (λj=>B j+(u*u+v)*sh B j + -2*u*A j):=λh=>by
 have lin3:∀ (m:Nat) (X Y Z:Nat->Rat) (b c:Rat),Ez u 1 v m (λj=>X j+b*Y j+c*Z j)=((Ez u 1 v m X).1+b*(Ez u 1 v m Y).1+c*(Ez u 1 v m Z).1,(Ez u 1 v m X).2+b*(Ez u 1 v m Y).2+c*(Ez u 1 v m Z).2):=λm X Y Z b c=>by
  have e1:(λj=>X j+b*Y j+c*Z j)=λj=>1*(λj=>1*X j+b*Y j) j+c*Z j:=by funext j;grind
  rw [e1,ab8,ab8];refine E5 ?_ ?_ <;> simp only <;> grind
 have a1:=an8 (u:=u) (w:=1) (v:=v) n A sA;have a2:=an8 (u:=u) (w:=1) (v:=v) (n+1) A λj hj=>sA j ⋯;rw [a1] at a2;have b2:Ez u 1 v (n+2) (sh B)=Ez u 1 v n B:=aJ7 n B;have b1:=an8 (u:=u) (w:=1) (v:=v) n B λj hj=>sB j ⋯
 have hb:∃ Y:Cz,Ez u 1 v (n+1) (sh B)=Y/\Ez u 1 v n B=zm u 1 v Y:=by
  cases n with
  | zero =>
   refine ⟨(0,0),?_,?_⟩
   ·show zm u 1 v (0,0)=_
    exact E5 (by simp only [zm];grind) (by simp only [zm];grind)
   ·show (B 0,(0:Rat))=_
    rw [sB 0 ⋯];exact E5 (by simp only [zm];grind) (by simp only [zm];grind)
  | succ m=>exact ⟨Ez u 1 v m B,aJ7 m B,an8 m B λj hj=>sB j ⋯⟩
 obtain ⟨Y,y1,y2⟩:=hb;have a0:Ez u 1 v (n+2) (sh A)=Ez u 1 v n A:=aJ7 n A;refine Hs.noroot (n:=n+1) (u:=u) (w:=1) (v:=v) hu hv h ?_ ?_
 ·rw [lin3,lin3]
  show (Ez u 1 v (n+2) A).1+_*(Ez u 1 v (n+2) (sh A)).1+_*(Ez u 1 v (n+2) (sh B)).1+((Ez u 1 v (n+1) B).1+_*(Ez u 1 v (n+1) (sh B)).1+_*(Ez u 1 v (n+1) A).1)=0;rw [a2,a0,b2,b1,y1,a1,y2];simp only [zm];grind
 ·rw [lin3,lin3]
  show (Ez u 1 v (n+2) A).2+_*(Ez u 1 v (n+2) (sh A)).2+_*(Ez u 1 v (n+2) (sh B)).2+((Ez u 1 v (n+1) B).2+_*(Ez u 1 v (n+1) (sh B)).2+_*(Ez u 1 v (n+1) A).2)=0;rw [a2,a0,b2,b1,y1,a1,y2];simp only [zm];grind
def evM (e1 e2:Rat) (X:Nat->Rat):Nat->Rat:=λj=>X j+e1*sh X j+e2*sh (sh X) j
theorem bx7 (e1 e2:Rat) (X:Nat->Rat) (j:Nat):evM e1 e2 (sh X) j=sh (evM e1 e2 X) j:=by
 cases j with
 | zero=>show (0:Rat)+e1*0+e2*0=0;grind
 | succ j=>rfl
theorem aS5 {X:Nat->Rat}:∀ (N:Nat),(∀ j,N<=j->X j=0)->(∃ j,X j ≠ 0)->∃ j,X j ≠ 0/\∀ i,j<i->X i=0
 | 0,h,⟨j,hj⟩=>absurd (h j ⋯) hj
 | N+1,h,hx=>by
  by_cases z:X N=0
  ·exact aS5 N (λj hj=>by
    rcases Nat.eq_or_lt_of_le hj with e | e
    ·rw [<- e];exact z
    ·exact h j e) hx
  ·exact ⟨N,z,λi hi=>h i hi⟩
theorem aR8 {e1 e2:Rat} (he:e1 ≠ 0 \/ e2 ≠ 0) {n:Nat} {A B:Nat->Rat} (h:Hs n A B):∀ {A' B':Nat->Rat} {N:Nat},(∀ j,N<=j->A' j=0)->(∀ j,N<=j->B' j=0)->(∀ j,A j=evM e1 e2 A' j)->(∀ j,B j=evM e1 e2 B' j)->False:=by
 induction h with
 | @base A B h0 hA hB =>
  intro A' B' N fA fB eA eB;have a0:A' 0 ≠ 0:=λz=>h0 (by rw [eA];show A' 0+e1*0+e2*0=0;rw [z];grind)
  obtain ⟨j,hj,hmax⟩:=aS5 N fA ⟨0,a0⟩
  by_cases h2:e2=0
  ·have h1:e1 ≠ 0:=he.elim id λz=>absurd h2 z
   have z:=hA j;rw [eA] at z;have z':A' (j+1)+e1*A' j+e2*sh (sh A') (j+1)=0:=z;rw [hmax (j+1) ⋯,h2] at z';have:e1*A' j=0:=by grind
   rcases z0n.mp this with y | y
   ·exact h1 y
   ·exact hj y
  ·have z:=hA (j+1)
   rw [eA] at z;have z':A' (j+2)+e1*A' (j+1)+e2*A' j=0:=z;rw [hmax (j+2) ⋯,hmax (j+1) ⋯] at z';have:e2*A' j=0:=by grind
   rcases z0n.mp this with y | y
   ·exact h2 y
   ·exact hj y
 | @step n A B C a ha hA h ih =>
  intro A' B' N fA fB eA eB
  have d0:A' 0-a*B' 0=0:=by
   have:=hA 0;rw [eA,eB,A9] at this;have:A' 0+e1*0+e2*0=a*(B' 0+e1*0+e2*0)+0:=this
   grind
  have dd:∀ j,A' j-a*B' j=sh (λj=>A' (j+1)-a*B' (j+1)) j:=λj=>by
   cases j with
   | zero=>exact d0
   | succ j=>rfl
  refine ih (A':=B') (B':=λj=>A' (j+1)-a*B' (j+1)) (N:=N) fB (λj hj=>by show A' (j+1)-a*B' (j+1)=0;rw [fA _ ⋯,fB _ ⋯];grind) eB λj=>?_
  have e:sh C (j+1)=sh (evM e1 e2 λj=>A' (j+1)-a*B' (j+1)) (j+1):=by
   rw [<- bx7];have h1:=hA (j+1);rw [eA,eB] at h1;unfold evM at h1 ⊢;have s1:∀ i,sh (λj=>A' (j+1)-a*B' (j+1)) i=A' i-a*B' i:=λi=>(dd i).symm
   have s2:∀ i,sh (sh λj=>A' (j+1)-a*B' (j+1)) i=sh A' i-a*sh B' i:=λi=>by
    cases i with
    | zero=>show (0:Rat)=0-a*0;grind
    | succ i=>exact s1 i
   have s3:∀ i,sh (sh (sh λj=>A' (j+1)-a*B' (j+1))) i=sh (sh A') i-a*sh (sh B') i:=λi=>by
    cases i with
    | zero=>show (0:Rat)=0-a*0;grind
    | succ i=>exact s2 i
   rw [s1,s2,s3]
   grind
  exact e
def fz (v:Nat->Int):Pf:=⟨λk=>(v k:Rat)⟩
def wL (c L la:Nat):Nat:=c*(2*(L+1-la))
structure LC (P0 Q0:List Int) (K c L:Nat):Prop where
 tP:Z9 P0 P0.length
 tQ:Z9 Q0 Q0.length
 lp:P0.length<=L
 lq:Q0.length<=L
 kP:∀ k,(aZ P0 k).natAbs<=K
 kQ:∀ k,(aZ Q0 k).natAbs<=K
 k1:1<=K
 l1:1<=L
 hc:4*L*K<=2 ^ c
structure LS (P0 Q0:List Int) (c L w:Nat) (A Fa B Fb:List Int) (ha hb:Pf):Prop where
 ev:Ev (zp P0) (zp Q0) (zp A) (zp B) (zp Fa) ha (zp Fb) hb P0.length Q0.length A.length B.length
 tA:Z9 A A.length
 tB:Z9 B B.length
 lA:A.length<=L
 lB:B.length<=L
 st:(A=P0/\B=Q0/\Fa=[1]/\Fb=[]/\ha=0/\hb=1/\w=c) \/ (B.length<A.length/\A.length<=Q0.length/\w=wL c L A.length)
 bA:∀ k,(aZ A k).natAbs<2 ^ w
 bFa:∀ k,(aZ Fa k).natAbs<2 ^ w
 bB:B ≠ []->∀ k,(aZ B k).natAbs<2 ^ w
 bFb:B ≠ []->∀ k,(aZ Fb k).natAbs<2 ^ w
 hA:∀ k (z:Int),ha.f k=(z:Rat)->z.natAbs<2 ^ w
 hB:B ≠ []->∀ k (z:Int),hb.f k=(z:Rat)->z.natAbs<2 ^ w
 dA:∃ n,Dg ha.f n
 dB:∃ n,Dg hb.f n
 lFa:Fa.length<=max 1 (Q0.length+1-A.length)
 lFb:Fb.length<=Q0.length+1-A.length
 tFa:Z9 Fa Fa.length
 tFb:Z9 Fb Fb.length
structure LRes (P0 Q0 A F:List Int) (w L c:Nat):Prop where
 tA:Z9 A A.length
 nA:A ≠ []
 lA:A.length<=L
 lF:F.length<=L
 lF2:F.length<=max 1 (Q0.length+1-A.length)
 tF:Z9 F F.length
 bA:∀ k,(aZ A k).natAbs<2 ^ w
 bF:∀ k,(aZ F k).natAbs<2 ^ w
 bA2:∀ k,(aZ A k).natAbs<2 ^ wL c L A.length
 idA:∃ h:Pf,(∃ n,Dg h.f n)/\zp A=zp F*zp P0+h*zp Q0/\∀ k (z:Int),h.f k=(z:Rat)->z.natAbs<2 ^ w
 p1:∃ (κ:Rat) (v:Nat->Int),(∃ n,∀ k,n<=k->v k=0)/\zp P0=y6 κ*(fz v*zp A)/\(∀ k,(v k).natAbs<2 ^ wL c L A.length)/\κ.num.natAbs<2 ^ c/\κ.den<2 ^ (wL c L A.length+wL c L A.length)
 q1:∃ (κ:Rat) (v:Nat->Int),(∃ n,∀ k,n<=k->v k=0)/\zp Q0=y6 κ*(fz v*zp A)/\(∀ k,(v k).natAbs<2 ^ wL c L A.length)/\κ.num.natAbs<2 ^ c/\κ.den<2 ^ (wL c L A.length+wL c L A.length)
 q0:Q0=[]->A=P0/\F=[1]
def OvP (B W:Nat) (p:Pf):Prop:=∀ k,OvB B W (p.f k)
def qp (l:List Rat):Pf:=⟨aQ l⟩
theorem bc1 (p q:List Rat):qp (w8 p q)=qp p*qp q:=Pf.ext λk=>bp1 p q k
theorem bA4 (l:List Rat):Dg (qp l).f l.length:=λk hk=>by
 show aQ l k=0;unfold aQ;rw [q0z hk];rfl
theorem bt6:qp []=0:=Pf.ext λk=>by rw [aR2];rfl
def fld (M:List (List Rat)) (last:List Rat):Nat->Pf × Pf
 | 0=>(qp last,0)
 | n+1=>(qp ((M[M.length-1-n]?).getD [])*(fld M last n).1+(fld M last n).2,(fld M last n).1)
mutual
inductive HD (H:Hp):V->D->Prop where
 | v {x:V} (f:P9 x=true):HD H x (.v x)
 | tup {p:Addr} {xs:List V} {ds:List D} (h:H p=some (.tup xs)) (t:HDs H xs ds):HD H (.ref p) (.tup ds)
 | lst {p:Addr} {xs:List V} {ds:List D} (h:H p=some (.lst xs)) (t:HDs H xs ds):HD H (.ref p) (.lst ds)
inductive HDs (H:Hp):List V->List D->Prop where
 | nil:HDs H [] []
 | cons {x:V} {xs:List V} {d:D} {ds:List D} (h:HD H x d) (t:HDs H xs ds):HDs H (x :: xs) (d :: ds)
end
def evZ (qs:List Rat):Bool:=(evs qs).all λq=>decide (q=0)
def odZ (qs:List Rat):Bool:=(ods qs).all λq=>decide (q=0)
def cOk (c T:Nat):Prop:=(c=10/\T<=14) \/ (c=40/\T<=5)
structure RowQ (c:Nat) (M:List (List Rat)) (last:List Rat):Prop where
 m:∀ L ∈ M,Q7 L L.length/\2<=L.length/\evZ L=true/\∀ x ∈ L,BdN c x
 t:Q7 last last.length
 n:last ≠ []
 p:evZ last=true \/ odZ last=true
 o:∀ x ∈ last,BdN c x
 z:cOk c (last.length-1+(M.map λL=>L.length-1).sum)
def bC1 (M:List (List Rat)):Nat->Nat
 | 0=>0
 | n+1=>bC1 M n+(((M[M.length-1-n]?).getD []).length-1)
def dn (M:List (List Rat)) (last:List Rat) (n:Nat):Nat:=last.length-1+bC1 M n
structure Prt (M:List (List Rat)) (last:List Rat) (l:Rat):Prop where
 m:∀ L ∈ M,∃ a:Rat,0<a/\L=[0,a]
 e:last=[l]
 n:l ≠ 0
def gP (M:List (List Rat)) (last:List Rat) (rh:Rat) (i j:Nat):Rat:=if 2*j<=i then rh*(fld M last i).1.f (i-2*j) else 0
theorem ad3 (a:Rat) (es:List Rat) (g:Pf) (k:Nat):(qp (a :: es)*g).f k=a*g.f k+(if k=0 then 0 else (qp es*g).f (k-1)):=by
 cases k with
 | zero =>
  show cv (aQ (a :: es)) g.f 0=_;rw [am3,if_pos rfl]
  show a*g.f 0=_;grind
 | succ k =>
  show cv (aQ (a :: es)) g.f (k+1)=_;rw [ac0,if_neg ⋯,q0w];rfl
theorem aQ9 (g:Pf) (k:Nat):(qp []*g).f k=0:=bo4 (λ_=>rfl) g.f k
def at' (g:Pf) (d k:Nat):Rat:=if d<=k then g.f (k-d) else 0
theorem bi5 (g:Pf) (d k:Nat):at' g (d+1) (k+1)=at' g d k:=by
 unfold at'
 by_cases h:d<=k
 ·rw [if_pos h,if_pos (by omega:d+1<=k+1),Nat.add_sub_add_right]
 ·rw [if_neg h,if_neg (by omega:¬ d+1<=k+1)]
theorem bi6 (g:Pf) (d:Nat):at' g (d+1) 0=0:=if_neg ⋯
theorem bC9 (g:Pf) (k:Nat):at' g 0 k=g.f k:=if_pos (j0k _)
theorem bB2 (g:Pf) (k:Nat):(qp [1]*g).f k=g.f k:=by
 rw [ad3]
 split
 ·grind
 ·rw [aQ9];grind
theorem af1 (c:Rat) (g:Pf) (k:Nat):(qp [c,1]*g).f k=c*g.f k+at' g 1 k:=by
 rw [ad3]
 cases k with
 | zero=>rw [if_pos rfl,bi6]
 | succ k=>rw [if_neg (g0b k),q0w,bB2,bi5,bC9]
theorem aa9 (c b:Rat) (g:Pf) (k:Nat):(qp [c,b,1]*g).f k=c*g.f k+b*at' g 1 k+at' g 2 k:=by
 rw [ad3]
 cases k with
 | zero=>rw [if_pos rfl,bi6,bi6];grind
 | succ k=>rw [if_neg (g0b k),q0w,af1,bi5,bi5,bC9];grind
theorem bc0 (c:Rat) (g:Pf) (k:Nat):(qp [c,0,0,0,1]*g).f k=c*g.f k+at' g 4 k:=by
 rw [ad3]
 have z3:∀ k,(qp [0,0,0,1]*g).f k=at' g 3 k:=λk=>by
  rw [ad3]
  cases k with
  | zero=>rw [if_pos rfl,bi6];grind
  | succ k=>rw [if_neg (g0b k),q0w,aa9,bi5];grind
 cases k with
 | zero=>rw [if_pos rfl,bi6]
 | succ k=>rw [if_neg (g0b k),q0w,z3,bi5]
def rwA (p:Nat->Rat) (n:Nat):Nat->Rat:=λj=>if 2*j<=n then p (n-2*j) else 0
def rwB (p:Nat->Rat) (n:Nat):Nat->Rat:=λj=>if 2*j+1<=n then p (n-1-2*j) else 0
theorem P4 (p:Nat->Rat) (n:Nat):∀ j,n<2*j->rwA p n j=0:=λj hj=>by unfold rwA;rw [if_neg ⋯]
theorem P3 (p:Nat->Rat) (n:Nat):∀ j,n<2*j+1->rwB p n j=0:=λj hj=>by unfold rwB;rw [if_neg ⋯]
def Hp' (p:Pf) (n:Nat):Prop:=Hs n (rwA p.f n) (rwB p.f n)
theorem aD8 {n:Nat} {A B A' B':Nat->Rat} (h:Hs n A B) (eA:∀ j,A' j=A j) (eB:∀ j,B' j=B j):Hs n A' B':=by
 have zA:A'=A:=funext eA;have zB:B'=B:=funext eB;rw [zA,zB];exact h
section
variable {g:Pf} {n:Nat}
theorem aJ2 (hg:∀ k,n<k->g.f k=0) (c:Rat):(∀ j,rwA (qp [c,1]*g).f (n+1) j=rwA g.f n j+c*sh (rwB g.f n) j)/\∀ j,rwB (qp [c,1]*g).f (n+1) j=rwB g.f n j+c*rwA g.f n j:=by
 refine ⟨λj=>?_,λj=>?_⟩
 ·cases j with
  | zero =>
   unfold rwA;rw [if_pos ⋯,if_pos ⋯,af1,A9,hg _ ⋯];unfold at';rw [if_pos ⋯];simp only [q1e,q1c,q0w];grind
  | succ j =>
   rw [t7];unfold rwA rwB
   by_cases h1:2*(j+1)<=n
   ·rw [if_pos ⋯,if_pos h1,if_pos ⋯,af1]
    unfold at';rw [if_pos ⋯,show n+1-2*(j+1)-1=n-2*(j+1) by omega,show n+1-2*(j+1)=n-1-2*j by omega];grind
   ·by_cases h2:2*(j+1)<=n+1
    ·rw [if_pos h2,if_neg h1,if_pos ⋯,af1]
     unfold at';rw [if_neg ⋯,show n+1-2*(j+1)=n-1-2*j by omega];grind
    ·rw [if_neg h2,if_neg h1,if_neg ⋯];grind
 ·unfold rwA rwB
  by_cases h1:2*j+1<=n
  ·rw [if_pos ⋯,if_pos h1,if_pos ⋯,af1]
   unfold at';rw [if_pos ⋯,show n+1-1-2*j-1=n-1-2*j by omega,show n+1-1-2*j=n-2*j by omega];grind
  ·by_cases h2:2*j+1<=n+1
   ·rw [if_pos h2,if_neg h1,if_pos ⋯,af1]
    unfold at';rw [if_neg ⋯,show n+1-1-2*j=n-2*j by omega];grind
   ·rw [if_neg h2,if_neg h1,if_neg ⋯];grind
theorem ak9 (hg:∀ k,n<k->g.f k=0) (c b:Rat):(∀ j,rwA (qp [c,b,1]*g).f (n+2) j=rwA g.f n j+c*sh (rwA g.f n) j+b*sh (rwB g.f n) j)/\∀ j,rwB (qp [c,b,1]*g).f (n+2) j=rwB g.f n j+c*sh (rwB g.f n) j+b*rwA g.f n j:=by
 refine ⟨λj=>?_,λj=>?_⟩
 ·cases j with
  | zero =>
   unfold rwA;rw [if_pos ⋯,if_pos ⋯,aa9,A9,A9,hg _ ⋯];unfold at';rw [if_pos ⋯,if_pos ⋯,hg _ ⋯];simp only [q1e,q1c,q0w];grind
  | succ j =>
   rw [t7,t7];unfold rwA rwB
   by_cases h0:2*(j+1)<=n+2
   ·rw [if_pos h0,aa9,if_pos (show 2*j<=n by omega),show n+2-2*(j+1)=n-2*j by omega]
    unfold at'
    by_cases h1:2*j+1<=n
    ·rw [if_pos ⋯,if_pos h1,show n-2*j-1=n-1-2*j by omega]
     by_cases h2:2*(j+1)<=n
     ·rw [if_pos ⋯,if_pos h2,show n-2*j-2=n-2*(j+1) by omega];grind
     ·rw [if_neg ⋯,if_neg h2];grind
    ·rw [if_neg ⋯,if_neg h1,if_neg ⋯,if_neg ⋯];grind
   ·rw [if_neg h0,if_neg ⋯,if_neg ⋯,if_neg ⋯];grind
 ·cases j with
  | zero =>
   unfold rwA rwB;rw [if_pos ⋯,A9,if_pos (show 2*0<=n by omega),aa9]
   unfold at';rw [if_pos ⋯,hg (n+2-1-2*0) ⋯]
   by_cases h1:2*0+1<=n
   ·rw [if_pos ⋯,if_pos h1,show n+2-1-2*0-1=n-2*0 by omega,show n+2-1-2*0-2=n-1-2*0 by omega];grind
   ·rw [if_neg ⋯,if_neg h1,show n+2-1-2*0-1=n-2*0 by omega];grind
  | succ j =>
   rw [t7];unfold rwA rwB
   by_cases h0:2*(j+1)+1<=n+2
   ·rw [if_pos h0,aa9,if_pos (show 2*j+1<=n by omega),show n+2-1-2*(j+1)=n-1-2*j by omega]
    unfold at'
    by_cases h1:2*(j+1)<=n
    ·rw [if_pos ⋯,if_pos h1,show n-1-2*j-1=n-2*(j+1) by omega]
     by_cases h2:2*(j+1)+1<=n
     ·rw [if_pos ⋯,if_pos h2,show n-1-2*j-2=n-1-2*(j+1) by omega];grind
     ·rw [if_neg ⋯,if_neg h2];grind
    ·rw [if_neg ⋯,if_neg h1,if_neg ⋯,if_neg ⋯];grind
   ·rw [if_neg h0,if_neg ⋯,if_neg ⋯,if_neg ⋯];grind
end
def Z7 (p:Nat->Rat) (n:Nat):Bool:=Q5 n (rwA p n) (rwB p n)
theorem at5 {c:Rat} (hc:c ≠ 0):∀ {n:Nat} {A B A' B':Nat->Rat},(∀ j,A' j=c*A j)->(∀ j,B' j=c*B j)->Q5 n A' B'=Q5 n A B
 | 0,_,_,_,_,_,_=>rfl
 | n+1,A,B,A',B',eA,eB=>by
  unfold Q5;have h2:=ad2 hc
  have e1:decide (0<A' 0*B' 0)=decide (0<A 0*B 0):=by
   rw [decide_eq_decide,eA,eB]
   constructor
   ·intro h
    refine Classical.byContradiction λz=>?_;have z':0<=-(A 0*B 0):=by grind
    have:=q0t (q0p h2) z'
    grind
   ·intro h
    have:=q0s h2 h
    grind
  by_cases hb:0<A 0*B 0
  ·have b0:B 0 ≠ 0:=λz=>by rw [z] at hb;grind
   rw [e1,at5 hc eB (A:=B) (B:=λj=>A (j+1)-A 0 / B 0*B (j+1)) λj=>?_];have bi:=q0d _ b0;have ci:=q0d _ hc;have cb:c*B 0 ≠ 0:=λz=>by rcases z0n.mp z with y | y;exact hc y;exact b0 y
   have cbi:=q0d _ cb
   show A' (j+1)-A' 0 / B' 0*B' (j+1)=c*(A (j+1)-A 0 / B 0*B (j+1))
   have q:A' 0 / B' 0=A 0 / B 0:=by
    rw [eA,eB,q0u,q0u];generalize (c*B 0)⁻¹=x at cbi ⊢;generalize (B 0)⁻¹=y at bi ⊢;have:c*A 0*x=A 0*y*(c*B 0*x):=by grind
    rw [this,cbi];grind
   rw [q,eA,eB];grind
  ·rw [e1,decide_eq_false hb];rfl
theorem Z6 {c:Rat} (hc:c ≠ 0) {p p':Nat->Rat} (h:∀ k,p' k=c*p k) (n:Nat):Z7 p' n=Z7 p n:=by
 refine at5 hc (λj=>?_) λj=>?_
 ·unfold rwA;split
  ·exact h _
  ·grind
 ·unfold rwB;split
  ·exact h _
  ·grind
theorem aT4 {p:Nat->Rat} {n:Nat} (h:p n ≠ 0):Z7 p n=true ↔ Hs n (rwA p n) (rwB p n) :=
 ⟨λz=>br2 (by unfold rwA;rw [if_pos ⋯];exact h) (P4 p n) (P3 p n) z,bo0⟩
theorem at4 {p:Nat->Rat} {n:Nat} (h:0<p n) (d:Z7 p n=true):∀ k,k<=n->0<p k:=by
 have hs:=(aT4 (k8 h)).mp d;obtain ⟨c,c0,cl,pA,pB⟩:=hs.pos;have a0:rwA p n 0=p n:=by unfold rwA;rw [if_pos ⋯];rfl
 rw [a0] at cl
 have cp:0<c:=by
  refine Classical.byContradiction λz=>?_;have z':0<=-c:=by grind
  have:=q0t z' (q0p h)
  grind
 have fin:∀ x,0<c*x->0<x:=λx hx=>by
  refine Classical.byContradiction λz=>?_;have z':0<=-x:=by grind
  have:=q0t (q0p cp) z'
  grind
 intro k hk
 by_cases z:(n-k) % 2=0
 ·have:=fin _ (pA ((n-k) / 2) ⋯)
  unfold rwA at this;rw [if_pos ⋯,show n-2*((n-k) / 2)=k by omega] at this
  exact this
 ·have:=fin _ (pB ((n-k) / 2) ⋯)
  unfold rwB at this;rw [if_pos ⋯,show n-1-2*((n-k) / 2)=k by omega] at this
  exact this
theorem aW0 {g:Pf} {n:Nat} (hg:∀ k,n<k->g.f k=0) (c:Rat):(∀ j,rwA (qp [c,0,0,0,1]*g).f (n+4) j=evM 0 c (rwA g.f n) j)/\∀ j,rwB (qp [c,0,0,0,1]*g).f (n+4) j=evM 0 c (rwB g.f n) j:=by
 refine ⟨λj=>?_,λj=>?_⟩
 ·unfold evM rwA
  by_cases h0:2*j<=n+4
  ·rw [if_pos h0,bc0]
   unfold at'
   match j with
   | 0=>rw [if_pos ⋯,if_pos ⋯,hg _ ⋯,A9,A9,show n+4-2*0-4=n-2*0 by omega];grind
   | 1 =>
    rw [t7,t7,A9,hg _ ⋯]
    by_cases h1:2*1<=n
    ·rw [if_pos ⋯,if_pos h1,show n+4-2*1-4=n-2*1 by omega];grind
    ·rw [if_neg ⋯,if_neg h1];grind
   | j+2 =>
    rw [t7,t7,t7,if_pos (show 2*j<=n by omega),show n+4-2*(j+2)=n-2*j by omega]
    by_cases h1:2*(j+2)<=n
    ·rw [if_pos ⋯,if_pos h1,show n-2*j-4=n-2*(j+2) by omega];grind
    ·rw [if_neg ⋯,if_neg h1];grind
  ·rw [if_neg h0,if_neg ⋯]
   obtain ⟨m,rfl⟩:∃ m,j=m+2:=⟨j-2,⋯⟩;rw [t7,t7,t7,if_neg ⋯,if_neg ⋯];grind
 ·unfold evM rwB
  by_cases h0:2*j+1<=n+4
  ·rw [if_pos h0,bc0]
   unfold at'
   match j with
   | 0 =>
    rw [A9,A9,hg _ ⋯]
    by_cases h1:2*0+1<=n
    ·rw [if_pos ⋯,if_pos h1,show n+4-1-2*0-4=n-1-2*0 by omega];grind
    ·rw [if_neg ⋯,if_neg h1];grind
   | 1 =>
    rw [t7,t7,A9,hg _ ⋯]
    by_cases h1:2*1+1<=n
    ·rw [if_pos ⋯,if_pos h1,show n+4-1-2*1-4=n-1-2*1 by omega];grind
    ·rw [if_neg ⋯,if_neg h1];grind
   | j+2 =>
    rw [t7,t7,t7,if_pos (show 2*j+1<=n by omega),show n+4-1-2*(j+2)=n-1-2*j by omega]
    by_cases h1:2*(j+2)+1<=n
    ·rw [if_pos ⋯,if_pos h1,show n-1-2*j-4=n-1-2*(j+2) by omega];grind
    ·rw [if_neg ⋯,if_neg h1];grind
  ·rw [if_neg h0,if_neg ⋯]
   obtain ⟨m,rfl⟩:∃ m,j=m+2:=⟨j-2,⋯⟩;rw [t7,t7,t7,if_neg ⋯,if_neg ⋯];grind
inductive aK9:Nat->Pf->Prop where
 | lin {r:Rat} (h:0<=r):aK9 1 (qp [-r,1])
 | quad {u v:Rat} (h:0<=u) (hv:0<v):aK9 2 (qp [u*u+v,-2*u,1])
 | ev2 {c:Rat} (h:c ≠ 0):aK9 2 (qp [c,0,1])
 | ev4 {c:Rat} (h:c ≠ 0):aK9 4 (qp [c,0,0,0,1])
theorem aK9.no {d:Nat} {e:Pf} (b:aK9 d e) {g:Pf} {m:Nat} (hg:∀ k,m<k->g.f k=0):¬ Hp' (e*g) (m+d):=λh=>by
 unfold Hp' at h
 cases b with
 | @lin r hr =>
  obtain ⟨r1,r2⟩:=aJ2 hg (-r);exact bv3 hr (P4 g.f m) (P3 g.f m) (aD8 h (λj=>(r1 j).symm) λj=>(r2 j).symm)
 | @quad u v hu hv =>
  obtain ⟨r1,r2⟩:=ak9 hg (u*u+v) (-2*u);exact bl7 hu hv (P4 g.f m) (P3 g.f m) (aD8 h (λj=>(r1 j).symm) λj=>(r2 j).symm)
 | @ev2 c hc =>
  obtain ⟨r1,r2⟩:=ak9 hg c 0;refine aR8 (e1:=c) (e2:=0) (.inl hc) h (A':=rwA g.f m) (B':=rwB g.f m) (N:=m+1) (λj hj=>P4 g.f m j ⋯) (λj hj=>P3 g.f m j ⋯) (λj=>?_) λj=>?_
  ·rw [r1];unfold evM;grind
  ·rw [r2];unfold evM;grind
 | @ev4 c hc =>
  obtain ⟨r1,r2⟩:=aW0 hg c;exact aR8 (e1:=0) (e2:=c) (.inr hc) h (A':=rwA g.f m) (B':=rwB g.f m) (N:=m+1) (λj hj=>P4 g.f m j ⋯) (λj hj=>P3 g.f m j ⋯) r1 r2
structure Fac (d l:Nat) (f:Pf):Prop where
 dg:∀ (g:Pf) (m:Nat),(∀ k,m<k->g.f k=0)->∀ k,m+d<k->(f*g).f k=0
 ld:∀ (g:Pf) (m:Nat),(∀ k,m<k->g.f k=0)->(f*g).f (m+d)=g.f m
 le:l<=d
 go:(l=d/\∀ (p:Pf) (n:Nat),(∀ k,n<k->p.f k=0)->Hp' p n->Hp' (f*p) (n+d)) \/ (l<d/\aK9 d f)
theorem aU1 {g:Pf} {m:Nat} (hg:∀ k,m<k->g.f k=0) (d k:Nat) (h:m+d<k):at' g d k=0:=by
 unfold at';rw [if_pos ⋯,hg _ ⋯]
theorem bi4 (g:Pf) (m d:Nat):at' g d (m+d)=g.f m:=by
 unfold at';rw [if_pos ⋯,q0w]
theorem bn5 (r:Rat):Fac 1 (if r<0 then 1 else 0) (qp [-r,1]):=by
 refine ⟨λg m hg k hk=>?_,λg m hg=>?_,by split <;> omega,?_⟩
 ·rw [af1,hg k ⋯,aU1 hg 1 k hk];grind
 ·rw [af1,hg (m+1) ⋯,bi4];grind
 ·by_cases h:r<0
  ·rw [if_pos h]
   refine .inl ⟨rfl,λp n hp H=>?_⟩;obtain ⟨r1,r2⟩:=aJ2 hp (-r);exact aD8 (Hs.lin H (s:=-r) (t:=-r) (by grind) (by grind)) r1 r2
  ·rw [if_neg h]
   exact .inr ⟨by decide,.lin (by grind)⟩
theorem bg1 (u:Rat) {v:Rat} (hv:0<v):Fac 2 (if u<0 then 2 else 0) (qp [u*u+v,-2*u,1]):=by
 refine ⟨λg m hg k hk=>?_,λg m hg=>?_,by split <;> omega,?_⟩
 ·rw [aa9,hg k ⋯,aU1 hg 1 k ⋯,aU1 hg 2 k hk];grind
 ·rw [aa9,hg (m+2) ⋯,aU1 hg 1 (m+2) ⋯,bi4];grind
 ·by_cases h:u<0
  ·rw [if_pos h]
   refine .inl ⟨rfl,λp n hp H=>?_⟩;obtain ⟨r1,r2⟩:=ak9 hp (u*u+v) (-2*u);have c0:0<u*u+v:=by have:=rsq u;grind
   have b0:0 < -2*u:=by grind
   exact aD8 (Hs.quad (b:=-2*u) (c:=u*u+v) b0 c0 H (c0:=u*u+v) (c1:=u*u+v) (s:=-2*u) (t:=-2*u) c0 c0 rfl b0 (by grind)) r1 r2
  ·rw [if_neg h]
   exact .inr ⟨by decide,.quad (by grind) hv⟩
structure Rt (n l:Nat) (p:Pf):Prop where
 nz:p.f n ≠ 0
 hi:∀ k,n<k->p.f k=0
 le:l<=n
 go:(l=n/\Hp' p n) \/ (l<n/\∃ d e g m,n=m+d/\aK9 d e/\p=e*g/\∀ k,m<k->g.f k=0)
theorem Rt.start {c:Rat} (hc:c ≠ 0):Rt 0 0 (qp [c]):=by
 refine ⟨hc,λk hk=>?_,q0j _,.inl ⟨rfl,.base ?_ (λj=>?_) λj=>?_⟩⟩
 ·obtain ⟨m,rfl⟩:∃ m,k=m+1:=⟨k-1,⋯⟩
  rfl
 ·exact hc
 ·unfold rwA;rw [if_neg ⋯]
 ·unfold rwB;rw [if_neg ⋯]
theorem Rt.mul {n l d l':Nat} {p f:Pf} (R:Rt n l p) (F:Fac d l' f):Rt (n+d) (l+l') (f*p):=by
 have le1:=R.le;have le2:=F.le;refine ⟨by rw [F.ld p n R.hi];exact R.nz,F.dg p n R.hi,⋯,?_⟩
 rcases R.go with ⟨e1,H⟩ | ⟨h1,d',e,g,m,en,be,ep,hg⟩
 ·rcases F.go with ⟨e2,go⟩ | ⟨h2,bf⟩
  ·exact .inl ⟨⋯,go p n R.hi H⟩
  ·exact .inr ⟨⋯,d,f,p,n,rfl,bf,rfl,R.hi⟩
 ·refine .inr ⟨⋯,d',e,f*g,m+d,⋯,be,?_,F.dg g m hg⟩
  rw [ep];grind
theorem Rt.dies {n l:Nat} {p:Pf} (R:Rt n l p):Z7 p.f n=decide (l=n):=by
 rw [u0f,aT4 R.nz,decide_eq_true_eq];rcases R.go with ⟨e,H⟩ | ⟨h,d,e,g,m,en,be,ep,hg⟩
 ·exact ⟨λ_=>e,λ_=>H⟩
 ·refine ⟨λH=>?_,λe=>⋯⟩
  subst en ep;exact absurd H (be.no hg)
theorem bu2:∀ m,m<=15->sliceRange (sliceBounds none none (some (-2)) m).1 (sliceBounds none none (some (-2)) m).2.1 (sliceBounds none none (some (-2)) m).2.2=(y0f ((m+1) / 2)).map λj=>m-1-2*j:=by decide +kernel
theorem bu1:∀ m,m<=15->sliceRange (sliceBounds (some (-2)) none (some (-2)) m).1 (sliceBounds (some (-2)) none (some (-2)) m).2.1 (sliceBounds (some (-2)) none (some (-2)) m).2.2=(y0f (m / 2)).map λj=>m-2-2*j:=by decide +kernel
def N4 (ws:List Int) (s k:Nat):List Int:=(y0f k).map λj=>aZ ws (s-2*j)
theorem ar3 {ws:List Int} {s:Nat}:∀ k,(∀ j,j<k->s-2*j<ws.length)->((y0f k).map λj=>s-2*j).filterMap ((ws.map V.int)[·]?)=(N4 ws s k).map V.int
 | 0,_=>rfl
 | k+1,h=>by
  unfold N4;rw [List.range_succ,q1p,List.filterMap_append,ar3 k λj hj=>h j ⋯,q1p,q1p]
  congr 1
  have hk:=h k ⋯
  have:(ws.map V.int)[s-2*k]? = some (V.int (aZ ws (s-2*k))):=by
   rw [z0k,q0c hk];unfold aZ;rw [q0c hk];rfl
  show [s-2*k].filterMap _=_;rw [j0u,this];rfl
theorem bA6 {ws:List Int} (h:ws.length<=15):ar4 (ws.map V.int) none none (some (-2))=(N4 ws (ws.length-1) ((ws.length+1) / 2)).map V.int:=by
 unfold ar4;rw [z0g,bu2 _ h];exact ar3 _ λj hj=>⋯
theorem bA5 {ws:List Int} (h:ws.length<=15):ar4 (ws.map V.int) (some (-2)) none (some (-2))=(N4 ws (ws.length-2) (ws.length / 2)).map V.int:=by
 unfold ar4;rw [z0g,bu1 _ h];exact ar3 _ λj hj=>⋯
theorem ay8 (ws:List Int) (s k:Nat):(N4 ws s k).length=k:=by unfold N4;rw [z0g,u0t]
theorem ay9 (ws:List Int) (s k j:Nat):aZ (N4 ws s k) j=if j<k then aZ ws (s-2*j) else 0:=by
 unfold N4
 by_cases h:j<k
 ·rw [if_pos h]
  show (((y0f k).map _)[j]?).getD 0=_;rw [z0k,z1e h];rfl
 ·rw [if_neg h]
  show (((y0f k).map _)[j]?).getD 0=_;rw [q0z (by rw [z0g,u0t];omega)];rfl
structure WG (n:Nat) (ws:List Int) (W:Nat):Prop where
 len:ws.length=n+1
 n14:n<=14
 ld:0<aZ ws n
 w:∀ v ∈ ws,z0q v<2 ^ W
 b:(W+4)*(n+1)<=8800
def zr (ws:List Int):Nat->Rat:=λk=>((aZ ws k:Int):Rat)
abbrev gA (ws:List Int) (n:Nat):=rwA (zr ws) n
abbrev gB (ws:List Int) (n:Nat):=rwB (zr ws) n
def Lk (n k:Nat):Nat:=if k<=n then (n-k) / 2+1 else 0
structure Tg (n:Nat) (ws:List Int) (W k:Nat) (T:List Int):Prop where
 l:T.length=Lk n k
 e:∀ j,((aZ T j:Int):Rat)=tau (gA ws n) (gB ws n) k j
 b:∀ v ∈ T,z0q v<2 ^ ((W+4)*(n+1)+1)
section
variable {n:Nat} {ws:List Int} {W:Nat}
theorem WG.ints (h:WG n ws W):(∀ j,∃ z:Int,gA ws n j=(z:Rat)/\z.natAbs<2 ^ W)/\∀ j,∃ z:Int,gB ws n j=(z:Rat)/\z.natAbs<2 ^ W:=by
 refine ⟨λj=>?_,λj=>?_⟩
 ·by_cases z:2*j<=n
  ·exact ⟨aZ ws (n-2*j),by unfold gA rwA;rw [if_pos z];rfl,at7 h.w _⟩
  ·exact ⟨0,by unfold gA rwA;rw [if_neg z];rfl,j0f _⟩
 ·by_cases z:2*j+1<=n
  ·exact ⟨aZ ws (n-1-2*j),by unfold gB rwB;rw [if_pos z];rfl,at7 h.w _⟩
  ·exact ⟨0,by unfold gB rwB;rw [if_neg z];rfl,j0f _⟩
theorem az4 (h:WG n ws W) (hn:1<=n) {k:Nat} (hk:k<=n+1) {T:List Int} (e:∀ j,((aZ T j:Int):Rat)=tau (gA ws n) (gB ws n) k j):∀ v ∈ T,z0q v<2 ^ ((W+4)*(n+1)+1):=by
 obtain ⟨i1,i2⟩:=h.ints;have n14:=h.n14
 have key:∀ j,(aZ T j).natAbs<2 ^ ((W+4)*(n+1)+1):=λj=>by
  obtain ⟨z,ez,bz⟩:=aa3 (m:=n+1) i1 i2 hk ⋯ ⋯ j;have:aZ T j=z:=j0z.mp (by rw [e j,ez])
  rw [this];refine q0k bz ?_;rw [j0w];have:=j0f ((W+4)*(n+1));omega
 intro v hv;obtain ⟨k,hk,ek⟩:=u0d hv;have h2:aZ T k=v:=by unfold aZ;rw [q0c hk,ek];rfl
 rw [<- h2];exact key k
theorem WG.start (h:WG n ws W) (hn:1<=n):Tg n ws W 0 (N4 ws (ws.length-1) ((ws.length+1) / 2))/\Tg n ws W 1 (N4 ws (ws.length-2) (ws.length / 2)):=by
 have hl:=h.len
 have e0:∀ j,((aZ (N4 ws (ws.length-1) ((ws.length+1) / 2)) j:Int):Rat)=tau (gA ws n) (gB ws n) 0 j:=λj=>by
  rw [P1,ay9];unfold gA rwA
  by_cases z:2*j<=n
  ·rw [if_pos ⋯,if_pos z,hl,q0w];rfl
  ·rw [if_neg ⋯,if_neg z];rfl
 have e1:∀ j,((aZ (N4 ws (ws.length-2) (ws.length / 2)) j:Int):Rat)=tau (gA ws n) (gB ws n) 1 j:=λj=>by
  rw [F3,ay9];unfold gB rwB
  by_cases z:2*j+1<=n
  ·rw [if_pos ⋯,if_pos z,hl,show n+1-2=n-1 by omega];rfl
  ·rw [if_neg ⋯,if_neg z];rfl
 refine ⟨⟨?_,e0,az4 h hn ⋯ e0⟩,⟨?_,e1,az4 h hn ⋯ e1⟩⟩
 ·rw [ay8];unfold Lk;rw [if_pos ⋯];omega
 ·rw [ay8];unfold Lk;rw [if_pos ⋯];omega
theorem WG.next (h:WG n ws W) (hn:1<=n) {k:Nat} (k1:1<=k) (kn:k<=n) (lead:∀ i,1<=i->i<=k->0<tau (gA ws n) (gB ws n) i 0) {R F T:List Int} {dv:Int} (d0:dv ≠ 0) (tR:Tg n ws W (k-1) R) (tF:Tg n ws W k F) (ed:((dv:Int):Rat)=dlt (gA ws n) (gB ws n) k) (lT:T.length=R.length-1) (eT:∀ j,j<T.length->aZ T j=(aZ F 0*aZ R (j+1)-aZ R 0*aZ F (j+1)).fdiv dv):Tg n ws W (k+1) T:=by
 have rc:=az7 k (gA ws n) (gB ws n) k1 (λi h1 hi=>k8 (lead i h1 ⋯)) (λhk=>by
  have:=lead 1 ⋯ ⋯;rw [F3] at this;exact k8 this)
 obtain ⟨i1,i2⟩:=h.ints;have n14:=h.n14;have lR:=tR.l
 have lL:T.length=Lk n (k+1):=by
  rw [lT,lR];unfold Lk;rw [if_pos ⋯]
  split <;> omega
 have e:∀ j,((aZ T j:Int):Rat)=tau (gA ws n) (gB ws n) (k+1) j:=λj=>by
  obtain ⟨z,ez,_⟩:=aa3 (m:=n+1) i1 i2 (k:=k+1) ⋯ ⋯ ⋯ j;have r:=rc j;rw [ez,<- ed,<- tF.e,<- tF.e,<- tR.e,<- tR.e] at r
  have ri:z*dv=aZ F 0*aZ R (j+1)-aZ R 0*aZ F (j+1):=j0z.mp (by
   rw [z0e,Rat.intCast_sub,z0e,z0e];exact r)
  rcases z1m j T.length with y | y
  ·rw [ez,eT j y,<- ri]
   congr 1
   rw [v0n];exact i8 d0
  ·have t0:aZ T j=0:=by unfold aZ;rw [q0z y];rfl
   rw [t0,ez]
   congr 1
   have f1:aZ R (j+1)=0:=by unfold aZ;rw [q0z ⋯];rfl
   have lF:=tF.l
   have f2:aZ F (j+1)=0:=by
    unfold aZ;rw [q0z];rfl;rw [lF];unfold Lk at lR ⊢;rw [if_pos ⋯] at lR ⊢;omega
   rw [f1,f2,z1n,z1n,Int.sub_zero] at ri;rcases Int.mul_eq_zero.mp ri with x | x
   ·exact x.symm
   ·exact absurd x d0
 exact ⟨lL,e,az4 h hn ⋯ e⟩
theorem WG.a0 (h:WG n ws W):0<gA ws n 0:=by
 unfold gA rwA zr;rw [if_pos ⋯];exact j0r.mpr h.ld
theorem WG.no (h:WG n ws W) {k:Nat} (k1:1<=k) (kn:k<=n) (z:¬ 0<tau (gA ws n) (gB ws n) k 0):Z7 (zr ws) n=false:=by
 refine u0r.mpr λd=>z ?_;exact aP6.mpr ((ap6 h.a0).mp d) k k1 kn
theorem WG.yes (h:WG n ws W) (z:∀ k,1<=k->k<=n->0<tau (gA ws n) (gB ws n) k 0):Z7 (zr ws) n=true:=(ap6 h.a0).mpr (aP6.mp z)
end
section
variable {P:Program} {w:World} {K:q0a} {mg:Str->Option Value} {base:Heap}
def bb0 (K:q0a):Sp:=λvs H Q _ => ∃ (a:Addr) (ws:List Int) (n W:Nat),vs=[.ref a]/\SqL K H a (ws.map V.int)/\ws.length=n+1/\n<=14/\aZ ws n ≠ 0/\(∀ v ∈ ws,z0q v<2 ^ W)/\(W+4)*(n+1)<=8800/\∀ H',b9 H H'->Q (.bl (Z7 (zr ws) n)) H'
abbrev G4:Stmt:=top 41
theorem y4:i7 ["wholes","divisor","ahead","row","further","lead"] ["wholes"] (c4 G4):=by and_intros
theorem au7 {f f1:Addr} (d:Df K mg "whole_dies" G4 ["wholes"] f) (G_row_behind:Def P w K mg base CX0 1 "row_behind" f1 ["row","further","divisor"] (aH0 K)) (n_min:mg "min" = none):Def P w K mg base CX0 2 "whole_dies" f ["wholes"] (bb0 K):=by
  refine d.ok (N:=["wholes","divisor","ahead","row","further","lead"]) y4 (by rintro vs H Q E ⟨_,_,_,_,h,_⟩;rw [h];rfl) (λcdv A outer s H vs Q E hr h=>?_)
  obtain ⟨a,ws,n,W,rfl,hS,hl,n14,ld0,bw,hb,k⟩:=h
  refine ⟨_, (b7 (y7 (j9 aj1 (j2 m8 (pv 0) (E6 A7 a9) (fun _ _ => rfl)) a9 (l5 _)) (c5 (K2 (i₀ := 0) y4.nd rfl (Or.inl rfl) (Nc := ["whole"]) (caps := [none]) rfl (ag7.of (osc := c4 G4) (N := ["wholes", "divisor", "ahead", "row", "further", "lead"]) (ks := []) rfl rfl rfl rfl G2 (by decide +kernel)) (Y5 (pv 0)) (fun C s₂ H₂ fp pins => (d9 (i := 0) (show List.Nodup (["whole"] : List Str) by decide +kernel) rfl (Or.inl rfl) (Or.inr rfl))) (fun C s₂ H₂ fp pins => (E6 A7 (pv 0))))) o0)
      (b7 (y7 (j9 bc8 (d5 (aY6 rfl) rfl n_min (by decide +kernel) (a7 (pv 0) a8)) a9 (l5 _)) (c5 (i5 M4)) o0)
      (b7 (Y2 (i:=3) (j:=4) rfl y4.nd rfl rfl (by decide) rfl rfl (a7 (aw8 (pv 0) Y4 Y4 (Y3 (E6 A7 a9))) (a7 (aw8 (pv 0) (Y3 (E6 A7 a9)) Y4 (Y3 (E6 A7 a9))) a8)) rfl)
      (b7 (bk8 a9 (d9 (i:=1) y4.nd rfl (Or.inl rfl)) (d9 (i:=2) y4.nd rfl (Or.inl rfl)))
      (b7 (ab0 PassesOwn.never (ar2 (pv 4) (λ_=>rfl)) (b7 (i4 (i:=5) y4.nd rfl (Or.inl rfl) (j2 m8 (pv 4) a9 (λ_ _=>rfl)))
      (b7 (y7 (j9 bc8 (pv 5) a9 (l5 _)) (c5 (i5 M4)) o0)
      (b7 (Y2 (i:=3) (j:=4) rfl y4.nd rfl rfl (by decide) rfl rfl (a7 (pv 4) (a7 (c9 G_row_behind hr (a7 (pv 3) (a7 (pv 4) (a7 (pv 1) a8))) d8) a8)) rfl)
      (c5 (Y2 (i:=1) (j:=2) rfl y4.nd rfl rfl (by decide) rfl rfl (a7 (pv 2) (a7 (pv 5) a8)) rfl))))))
      (c5 (i5 M4))))))),?_⟩
  rw [show start ["wholes","divisor","ahead","row","further","lead"] [.ref a]=[some (.ref a),none,none,none,none,none] from rfl]
  refine d7 (λσ H1 => ∃ a ws',σ=[some (.ref a),none,none,none,none,none]/\b9 H H1/\SqL K H1 a (ws'.map V.int)/\WG n ws' W/\Z7 (zr ws') n=Z7 (zr ws) n) (λN hN=>?_) ?_
  · subst_eqs
    have lastv:(ws.map V.int)[(ws.map V.int).length-1]? = some (.int (aZ ws n)):=by
      rw [List.length_map,hl,Nat.add_sub_cancel,List.getElem?_map,List.getElem?_eq_getElem ⋯];unfold aZ;rw [List.getElem?_eq_getElem ⋯];rfl
    refine ⟨_,hS,_,be8 lastv,_,rfl,x8 (λhneg=>?_) (λhpos=>?_)⟩
    · have az : ∀ k, aZ (ws.map fun v => -v) k = - aZ ws k := fun k => by
        unfold aZ;rw [List.getElem?_map]
        cases ws[k]? <;> rfl
      have G:WG n (ws.map λv=>-v) W:=⟨by rw [List.length_map];exact hl,n14,by rw [az];omega,λv hv=>by
        obtain ⟨w,hw,rfl⟩:=List.mem_map.mp hv;rw [Int.natAbs_neg];exact bw w hw,hb⟩
      refine ⟨⟨_,hS⟩,λD1 hD1=>?_⟩;refine ap8 (ws.map V.int) (λj σ H3 => ∃ o,σ=[o]/\b9 H H3/\H3 D1=some (.lst (((ws.take j).map λv=>-v).map V.int))) ⟨_,rfl,b9.new hD1 _,b6⟩ (by rintro j σ H3 _ ⟨_,_,s3,_⟩;exact s3.seq hS) ?_ ?_
      · rintro j x σ H3 hx ⟨o,rfl,s3,e3⟩
        have hj:=(List.getElem?_eq_some_iff.mp hx).1;obtain ⟨v,hv,rfl⟩:=aj9 hx
        subst_eqs
        refine E3.mk hj e3 ?_ ⟨_,rfl,s3.over hD1 _,?_⟩
        · rw [List.length_map,List.length_map,List.length_take]
          rw [List.length_map] at hj;exact Nat.lt_of_le_of_lt (show _<=100 by omega) (by decide)
        · rw [b6,List.take_succ,hv,List.map_append,List.map_append];rfl
      · rintro σ H3 ⟨o,rfl,s3,e3⟩
        rw [List.length_map,List.take_length] at e3;refine hN _ _ ⟨D1,_,rfl,s3,SqL.of e3,G,Z6 (c:=-1) (by decide) (λk=>?_) n⟩
        show ((aZ (ws.map λv=>-v) k:Int):Rat)=-1*((aZ ws k:Int):Rat);rw [az,Rat.intCast_neg];grind
    · exact hN _ _ ⟨a,ws,rfl,b9.refl _,hS,⟨hl,n14,⋯,bw,hb⟩,rfl⟩
  rintro σ H1 ⟨a,ws',rfl,S1,hS,D,eD⟩;rw [<- eD] at k;clear hl ld0 bw eD;obtain ⟨ws,rfl⟩:∃ ws,ws=ws':=⟨_,rfl⟩;have hl:=D.len;refine d7 (λσ H2=>σ=[some (.ref a),none,none,none,none,none]/\H2=H1) (λN hN=>?_) ?_
  · simp! [bq5]
    refine ⟨ws,hS,λz=>by rw [z] at hl;simp at hl,λi hi=>x8 (λh0=>?_) (λ_=>hN _ _ ⟨rfl,rfl⟩)⟩
    have e:Z7 (zr ws) n=false:=Bool.eq_false_iff.mpr λd=>by
      obtain ⟨kk,hk,ek⟩:=List.getElem_of_mem hi;have h2:aZ ws kk=i:=by unfold aZ;rw [List.getElem?_eq_getElem hk,ek];rfl
      have:=at4 (p:=zr ws) (Rat.intCast_pos.mpr D.ld) d kk ⋯;have:=Rat.intCast_pos.mp this;omega
    rw [e] at k;exact k H1 S1
  rintro σ H2 ⟨rfl,rfl⟩;refine d7 (λσ H3 => ∃ r f,σ=[some (.ref a),none,none,some (.ref r),some (.ref f),none]/\b9 H2 H3/\H3 r=some (.lst ((N4 ws (ws.length-1) ((ws.length+1) / 2)).map V.int))/\H3 f=some (.lst ((N4 ws (ws.length-2) (ws.length / 2)).map V.int))) (λN hN=>?_) ?_
  · subst_eqs
    refine ⟨_,hS,by decide,λp hp=>?_⟩
    rw [bA6 ⋯];have X1:=b9.new hp (.lst ((N4 ws (ws.length-1) ((ws.length+1) / 2)).map V.int));refine ⟨_,X1.seq hS,by decide,λp1 hp1=>?_⟩
    rw [bA5 ⋯];have X2:=b9.new hp1 (.lst ((N4 ws (ws.length-2) (ws.length / 2)).map V.int));exact hN _ _ ⟨p,p1,rfl,X1.trans X2,X2 _ _ b6,b6⟩
  rintro σ H3 ⟨r,f,rfl,S3,er,ef⟩;refine d7 (λσ H4=>σ=[some (.ref a),some (.int 1),some (.int 1),some (.ref r),some (.ref f),none]/\H4=H3) (λN hN=>?_) ?_
  · simp! [bp9]
    exact hN _ _ ⟨rfl,rfl⟩
  rintro σ H4 ⟨rfl,rfl⟩;have S14:=S1.trans S3;refine d7 (λσ H5=>b9 H H5/\Z7 (zr ws) n=true) (λN hN=>?_) ?_
  · show af5 _ _ _ _ _
    rcases Nat.eq_zero_or_pos n with n0 | n1
    · have e0:ws.length / 2=0:=⋯
      rw [e0] at ef;refine aq2 (λσ H5=>σ=[some (.ref a),some (.int 1),some (.int 1),some (.ref r),some (.ref f),none]/\H5=H4) (λ_ _=>0) ⟨rfl,rfl⟩ ?_;rintro σ H5 ⟨rfl,rfl⟩
      simp! [aP4]
      exact ⟨_,.inl ⟨_,SqL.of ef,rfl⟩,x8 (λh=>by cases h) (λ_=>hN _ _ ⟨S14,by rw [n0];rfl⟩)⟩
    obtain ⟨t0,t1⟩:=D.start n1;refine aq2 (λσ H5 => ∃ k r f R F dv ah o,σ=[some (.ref a),some (.int dv),some (.int ah),some (.ref r),some (.ref f),o]/\b9 H H5/\H5 r=some (.lst (R.map V.int))/\H5 f=some (.lst (F.map V.int))/\1<=k/\(k<=n+1/\∀ i,1<=i->i<k->0<tau (gA ws n) (gB ws n) i 0)/\Tg n ws W (k-1) R/\Tg n ws W k F/\(((dv:Int):Rat)=dlt (gA ws n) (gB ws n) k/\dv.natAbs<2 ^ ((W+4)*(n+1)+1))/\((ah:Int):Rat)=(if k=1 then 1 else tau (gA ws n) (gB ws n) (k-1) 0)/\ah.natAbs<2 ^ ((W+4)*(n+1)+1)) (λσ H5=>aa1 3 σ H5+aa1 4 σ H5) ⟨1,r,f,_,_,1,1,none,rfl,S14,er,ef,Nat.le_refl _,⟨⋯,λi h1 h2=>⋯⟩,t0,t1,⟨by unfold dlt;rw [if_pos (by decide)];rfl,?_⟩,by rw [if_pos rfl];rfl,?_⟩ ?_
    · exact Nat.lt_of_lt_of_le (show 1<2 ^ 1 by decide) (c6 ⋯)
    · exact Nat.lt_of_lt_of_le (show 1<2 ^ 1 by decide) (c6 ⋯)
    rintro σ H5 ⟨k',r,f,R,F,dv,ah,o,rfl,S5,er,ef,k1,⟨kn,lead⟩,tR,tF,⟨ed,bd⟩,ea,ba⟩
    simp! [aP4]
    refine ⟨_,.inl ⟨_,SqL.of ef,rfl⟩,x8 (λhF=>WhB.mk ?_) (λhF=>hN _ _ ⟨S5,D.yes λi h1 h2=>lead i h1 ?_⟩)⟩
    rotate_left
    · have lF:=tF.l
      have F0:F=[]:=by
        cases F with
        | nil=>rfl
        | cons x F=>exact absurd rfl hF
      rw [F0] at lF;unfold Lk at lF
      split at lF
      · simp at lF
      · omega
    have Fn:F ≠ []:=λz=>by rw [z] at hF;simp at hF
    have Fp:=List.length_pos_iff.mpr Fn;have lF:=tF.l;have lR:=tR.l
    have kn':k'<=n:=by
      rcases Nat.lt_or_ge n k' with z | z
      · rw [lF] at Fp
        unfold Lk at Fp;rw [if_neg ⋯] at Fp;omega
      · exact z
    have hf0:(F.map V.int)[0]? = some (.int (aZ F 0)):=by
      rw [List.getElem?_map,List.getElem?_eq_getElem Fp];unfold aZ;rw [List.getElem?_eq_getElem Fp];rfl
    have d0:dv ≠ 0:=λz=>by
      have dn:dlt (gA ws n) (gB ws n) k' ≠ 0:=by
        unfold dlt
        split
        · decide
        · exact k8 (lead _ ⋯ ⋯)
      exact dn (by rw [<- ed,z];rfl)
    subst_eqs
    refine ⟨_,SqL.of ef,_,B3 (j:=0) hf0,_,rfl,x8 (λh=>?_) (λhl0=>?_)⟩
    · have e : Z7 (zr ws) n = false := D.no k1 kn' fun z => by
        rw [<- tF.e 0] at z;have:=Rat.intCast_pos.mp z;omega
      rw [e] at k;exact k H5 S5
    have lead':∀ i,1<=i->i<=k'->0<tau (gA ws n) (gB ws n) i 0:=λi h1 h2=>by
      rcases Nat.eq_or_lt_of_le h2 with z | z
      · rw [z,<- tF.e 0];exact Rat.intCast_pos.mpr ⋯
      · exact lead i h1 z
    have lFR:F.length<=R.length:=by
      rw [lF,lR];unfold Lk;rw [if_pos kn',if_pos ⋯];omega
    have lR20:R.length<=20:=by
      rw [lR];unfold Lk
      split <;> omega
    have hb:=D.b;refine ⟨r,f,R,F,dv,_,rfl,SqL.of er,SqL.of ef,Fn,lFR,lR20,d0,bd,tR.b,tF.b,⋯,λr' T H6 S6 fr er' lT eT=>?_⟩;have tT:=D.next n1 k1 kn' lead' d0 tR tF ed lT eT
    have e3:aa1 3 [some (V.ref a),some (V.int ah),some (V.int (aZ F 0)),some (V.ref f),some (V.ref r'),some (V.int (aZ F 0))] H6=F.length:=by
      rw [aj6 (k:=3) rfl (S6 _ _ ef),List.length_map]
    have e4:aa1 4 [some (V.ref a),some (V.int ah),some (V.int (aZ F 0)),some (V.ref f),some (V.ref r'),some (V.int (aZ F 0))] H6=T.length:=by
      rw [aj6 (k:=4) rfl er',List.length_map]
    have e5:aa1 3 [some (V.ref a),some (V.int dv),some (V.int ah),some (V.ref r),some (V.ref f),o] H5=R.length:=by
      rw [aj6 (k:=3) rfl er,List.length_map]
    have e6:aa1 4 [some (V.ref a),some (V.int dv),some (V.int ah),some (V.ref r),some (V.ref f),o] H5=F.length:=by
      rw [aj6 (k:=4) rfl ef,List.length_map]
    refine WhN.mk ⟨k'+1,f,r',F,T,ah,aZ F 0,_,rfl,S5.trans S6,S6 _ _ ef,er',⋯,⋯,λi h1 h2=>lead' i h1 ⋯,by rw [Nat.add_sub_cancel];exact tF,tT,?_,ba,?_,at7 tF.b 0⟩ ?_
    · rw [ea]
      unfold dlt;rcases Nat.lt_or_ge k' 2 with z | z
      · rw [if_pos ⋯,if_pos ⋯]
      · rw [if_neg ⋯,if_neg ⋯,show k'+1-2=k'-1 by omega]
    · rw [if_neg ⋯,Nat.add_sub_cancel];exact tF.e 0
    · show aa1 3 _ _+aa1 4 _ _<aa1 3 _ _+aa1 4 _ _
      rw [e3,e4,e5,e6];omega
  rintro σ H5 ⟨S5,e5⟩
  subst_eqs
  rw [e5] at k;exact k _ S5
def bn9 (qs:List Rat):Bool:=if qs=[] then false else Z7 (aQ qs) (qs.length-1)
theorem O8 {b:Int} {m k:Nat} (h:b.natAbs<2 ^ m):(b ^ k).natAbs<2 ^ (m*k+1):=by
 rw [Int.natAbs_pow];have:b.natAbs ^ k<=(2 ^ m) ^ k:=Nat.pow_le_pow_left (v0j h) k;rw [<- Nat.pow_mul] at this;exact q0k this (y0u (by decide) ⋯)
def aP8:Sp:=λvs H Q _ => ∃ (b:Int) (n:Int) (m:Nat),vs=[.int b,.int n]/\n<1000/\-1000<n/\b.natAbs<2 ^ m/\m<=6000/\Q (.int (b ^ n.toNat)) H
abbrev W7:Stmt:=top 35
theorem Q8:i7 ["whole","many","power","at"] ["whole","many"] (c4 W7):=by and_intros
theorem aI1 {f:Addr} (d:Df K mg "power_of" W7 ["whole","many"] f) (n_range:mg "range" = none):Def P w K mg base CX0 1 "power_of" f ["whole","many"] aP8:=by
 refine d.ok (N:=["whole","many","power","at"]) Q8 (by rintro vs H Q E ⟨a,b,m,h,_⟩;rw [h];rfl) (λcdv A outer s H vs Q E hr h=>?_)
 obtain ⟨b,n,m,rfl,hn,hn',hb,hm,k⟩:=h
 refine ⟨_,(b7 (i4 (i:=2) Q8.nd rfl (j0a rfl) a9)
   (b7 (G7 PassesOwn.never rfl (K4 rfl n_range (a7 (pv 1) a8)) (d9 (i:=3) Q8.nd rfl (j0a rfl)) (c5 (bt8 (i:=2) Q8.nd rfl (j0a rfl) (pv 0) bw5)))
   (c5 (i5 (pv 2))))),?_⟩
 rw [show start ["whole","many","power","at"] [.int b,.int n]=[some (.int b),some (.int n),none,none] from rfl]
 subst_eqs
 refine ⟨_,rfl,n,rfl,⋯,⋯,K7 (λi σ H1=>H1=H/\∃ o,σ=[some (.int b),some (.int n),some (.int (b ^ i)),o]) ⟨rfl,_,by rw [Int.pow_zero]⟩ ?_ ?_⟩
 ·rintro i σ H1 hi ⟨rfl,o,rfl⟩
  subst_eqs
  have hm6:m*i+1<=6000*1000+1:=Nat.add_le_add_right (v0x hm ⋯) 1;refine ⟨B6 (m:=m*i+1) (n:=m) (O8 hb) hb ⋯,(Int.pow_succ _ _).symm,_,rfl⟩
 ·rintro σ H1 ⟨rfl,o,rfl⟩
  subst_eqs
  exact k
def hw (t b:Int):List Int->Int
 | []=>0
 | v :: S=>hw t b S*t+v*b ^ S.length
theorem bh2 (r:Rat):((r.den:Int)) ≠ 0:=by have:=r.den_nz;omega
theorem ba8 {c:Int} {W e:Nat} (hc:c.natAbs<2 ^ e):∀ l:List Int,(∀ v ∈ l,z0q v<2 ^ W)->∀ v ∈ syn c l,z0q v<2 ^ (W+(e+1)*l.length)
 | [],_,v,hv=>by cases hv
 | a :: p,h,v,hv=>by
  have ih:=ba8 hc p λv hv=>h v (z0h _ hv);have ha:=h a z0s;have e1:W+(e+1)*(a :: p).length=W+(e+1)*p.length+e+1:=by rw [q0x,z1k];omega
  have up:∀ u:Nat,u<2 ^ (W+(e+1)*p.length)->u<2 ^ (W+(e+1)*(a :: p).length):=λu hu=>q0b hu (c6 ⋯);rw [syn] at hv
  cases q:syn c p with
  | nil =>
   rw [q] at hv;rw [j0q.mp hv];exact q0b ha (c6 ⋯)
  | cons h' t =>
   rw [q] at hv;rcases z0z.mp hv with z | z
   ·have hh:=ih h' (by rw [q];exact z0s)
    have h2:(c*h').natAbs<2 ^ (W+(e+1)*p.length+e):=by
     rw [z0b,m0y _ e,z0u];exact j0b hc hh
    have h3:2 ^ W<=2 ^ (W+(e+1)*p.length+e):=c6 ⋯;have z':v=a+c*h':=z;rw [z',e1,j0w];omega
   ·exact up _ (ih v (by rw [q];exact z))
theorem aR4 {c:Int} {W e k:Nat} (hc:c.natAbs<2 ^ e) {l:List Int} (h:∀ v ∈ l,z0q v<2 ^ W):∀ v ∈ Y8 c k l,z0q v<2 ^ (W+(e+1)*l.length):=by
 intro v hv;rcases u0e.mp hv with z | z
 ·exact q0b (h v (g0r z)) (c6 ⋯)
 ·refine q0b (ba8 hc _ (λu hu=>h u (q1y hu)) v z) (c6 ?_)
  have:(e+1)*(l.drop k).length<=(e+1)*l.length:=j0j _ (by rw [j0s];omega)
  omega
theorem az6 {c:Int} {W e:Nat} (hc:c.natAbs<2 ^ e) {l:List Int} (h:∀ v ∈ l,z0q v<2 ^ W):∀ n,∀ v ∈ Q4 c l n,z0q v<2 ^ (W+n*((e+1)*l.length))
 | 0,v,hv=>q0b (h v hv) (c6 ⋯)
 | n+1,v,hv=>by
  have ih:=az6 hc h n;have:=aR4 hc ih v hv;rw [aa2] at this
  rwa [z1g,<- u0w]
theorem aV2 (c:Int) (l:List Int) (n:Nat):Q4 c l (n+1)=Y8 c n (Q4 c l n):=rfl
def aP9 (K:q0a):Sp:=λvs H Q _ => ∃ (a:Addr) (ws:List Int) (c:Int) (W e:Nat),vs=[.ref a,.int c]/\SqL K H a (ws.map V.int)/\(∀ v ∈ ws,z0q v<2 ^ W)/\c.natAbs<2 ^ e/\ws.length<=100/\W+(ws.length+1)*((e+1)*ws.length)+e<=1000000 /\
 ∀ r H',b9 H H'->H r=none->H' r=some (.lst ((shn c ws).map V.int))->(∀ v ∈ shn c ws,z0q v<2 ^ (W+ws.length*((e+1)*ws.length)))->Q (.ref r) H'
abbrev ap1:Stmt:=top 36
theorem aa4:i7 ["wholes","step","result","last","first","place"] ["wholes","step"] (c4 ap1):=by and_intros
theorem bd0 {f:Addr} (d:Df K mg "moved" ap1 ["wholes","step"] f) (n_len:mg "len" = none) (n_range:mg "range" = none) (n_list:mg "list" = none):Def P w K mg base CX0 1 "moved" f ["wholes","step"] (aP9 K):=by
  refine d.ok (N:=["wholes","step","result","last","first","place"]) aa4 (by rintro vs H Q E ⟨a,ws,c,W,e,h,_⟩;rw [h];rfl) (λcdv A outer s H vs Q E hr h=>?_)
  obtain ⟨a,ws,c,W,e,rfl,hS,hW,hc,hl,hB,k⟩:=h
  refine ⟨_, (b7 (i4 (i := 2) aa4.nd rfl (Or.inl rfl) (O9 Z8 rfl n_list (by decide +kernel) (a7 (pv 0) a8)))
      (b7 (i4 (i:=3) aa4.nd rfl (Or.inl rfl) (d4 A8 (d5 j0 rfl n_len (by decide +kernel) (a7 (pv 2) a8)) a9))
      (b7 (G7 PassesOwn.never rfl (K4 rfl n_range (a7 (pv 3) a8)) (d9 (i:=4) aa4.nd rfl (Or.inl rfl)) (c5 (G7 PassesOwn.never rfl (aW4 rfl n_range (a7 (d4 A8 (pv 3) a9) (a7 (d4 A8 (pv 4) a9) (a7 (E6 A7 a9) a8)))) (d9 (i:=5) aa4.nd rfl (Or.inl rfl)) (c5 (bk7 (pv 2) (pv 5) bf8 (d4 m6 (pv 1) (j2 m8 (pv 2) (d4 D3 (pv 5) a9) (λ_ _=>rfl))) bw6 ai0)))))
      (c5 (i5 (pv 2)))))),?_⟩
  rw [show start ["wholes","step","result","last","first","place"] [.ref a,.int c]=[some (.ref a),some (.int c),none,none,none,none] from rfl]
  subst_eqs
  refine ⟨_,.inl hS,λl hl0=>⟨_,.inl (SqL.of b6),?_⟩⟩;rw [List.length_map];refine ⟨_,rfl,(ws.length:Int)-1,rfl,⋯,⋯,K7 (λi σ H1 => ∃ o1 o2,σ=[some (.ref a),some (.int c),some (.ref l),some (.int ((ws.length:Int)-1)),o1,o2]/\b9 H H1/\H1 l=some (.lst ((Q4 c ws i).map V.int))) ⟨_,_,rfl,b9.new hl0 _,b6⟩ ?_ ?_⟩
  · rintro i σ H1 hi ⟨o1,o2,rfl,s1,e1⟩
    have hi':i+1<ws.length:=⋯;have tl:=aa2 c ws i;have tb:=az6 hc hW i
    subst_eqs
    refine ⟨_,rfl,_,_,rfl,rfl,_,rfl,_,_,rfl,rfl,_,rfl,_,_,rfl,⟨⋯,⋯,⋯,⋯⟩,bg0 (λj σ H2 => ∃ o,σ=[some (.ref a),some (.int c),some (.ref l),some (.int ((ws.length:Int)-1)),some (.int (0+(i:Int))),o]/\b9 H H2/\H2 l=some (.lst ((Y8 c (ws.length-1-j) (Q4 c ws i)).map V.int))) ⟨_,rfl,s1,?_⟩ ?_ ?_⟩
    · rw [Nat.sub_zero,aW7 c ⋯];exact e1
    · rintro j σ H2 hj ⟨o,rfl,s2,e2⟩
      have hj':j+1+i<ws.length:=⋯;obtain ⟨k',hk'⟩:∃ k',ws.length-1-j=k'+1:=⟨ws.length-2-j,⋯⟩;rw [hk'] at e2;have pl:=ar6 c (k'+1) (Q4 c ws i);obtain ⟨u,hu⟩:∃ u,(Y8 c (k'+1) (Q4 c ws i))[k']? = some u:=⟨_,List.getElem?_eq_getElem ⋯⟩;obtain ⟨h',hh'⟩:∃ h',(Y8 c (k'+1) (Q4 c ws i))[k'+1]? = some h':=⟨_,List.getElem?_eq_getElem ⋯⟩;have st:=aW6 c hu hh';have hb:=aR4 hc tb (k:=k'+1) h' (List.mem_of_getElem? hh');have ek:((ws.length:Int)-1-1-(j:Int))=(k':Int):=⋯
      subst_eqs
      rw [ek];have g1:((Y8 c (k'+1) (Q4 c ws i)).map V.int)[k']? = some (.int u):=by rw [List.getElem?_map,hu];rfl
      have g2:((Y8 c (k'+1) (Q4 c ws i)).map V.int)[k'+1]? = some (.int h'):=by rw [List.getElem?_map,hh'];rfl
      have hlen:(k':Nat)<((Y8 c (k'+1) (Q4 c ws i)).map V.int).length:=(List.getElem?_eq_some_iff.mp g1).1
      have hBB:W+i*((e+1)*ws.length)+(e+1)*(Q4 c ws i).length+e<=1000000:=by
        rw [tl];have:(i+1)*((e+1)*ws.length)<=(ws.length+1)*((e+1)*ws.length):=Nat.mul_le_mul_right _ ⋯;rw [Nat.succ_mul] at this;omega
      refine ⟨_,SqL.of e2,_,B3 g1,_,SqL.of e2,_,by rw [show ((k':Int)+1)=((k'+1:Nat):Int) by omega];exact B3 g2,h',rfl,B6 hc hb ⋯,u,rfl,_,e2,k',bm8 hlen,s2.over hl0 _,?_⟩
      rw [b6,show ws.length-1-(j+1)=k' by omega,<- st,List.map_set]
    · rintro σ H2 ⟨o,rfl,s2,e2⟩
      refine ⟨_,_,rfl,s2,?_⟩;rw [aV2,e2]
      congr 4
      omega
  · rintro σ H1 ⟨o1,o2,rfl,s1,e1⟩
    have en:((ws.length:Int)-1).toNat=ws.length-1:=⋯;rw [en,aG7] at e1
    subst_eqs
    refine k l H1 s1 hl0 e1 λv hv=>?_;rw [<- aG7] at hv;refine Nat.lt_of_lt_of_le (az6 hc hW _ v hv) (c6 ?_);have:(ws.length-1)*((e+1)*ws.length)<=ws.length*((e+1)*ws.length):=Nat.mul_le_mul_right _ ⋯;omega
end
theorem aR7 (r:Rat):(r.num:Rat)=r*((r.den:Int):Rat):=by
 have h:=bk6 r;have hb':((r.den:Int):Rat) ≠ 0:=λz=>bh2 r (by exact_mod_cast z)
 have hd:((r.den:Int):Rat)*((r.den:Int):Rat)⁻¹=1:=q0d _ hb';rw [q0u] at h;generalize (r.num:Rat)=n at h ⊢;generalize ((r.den:Int):Rat)⁻¹=c at *;generalize ((r.den:Int):Rat)=d at *
 grind
def lf (n:Nat) (c v:Nat->Rat):Rat:=c7 (λi=>c i*v i) n
theorem W4 {f:Nat->Rat}:∀ n,(∀ i,i<n->0<=f i)->0<=c7 f n
 | 0,_=>by show (0:Rat)<=0;decide
 | n+1,h=>by
  have h1:=W4 n λi hi=>h i ⋯;have h2:=h n ⋯
  show 0<=c7 f n+f n
  grind
def bnd (B:Mt) (k i j:Nat):Mt:=λr c=>B (if r=k then i else r) (if c=k then j else c)
def mi (B:Mt) (k i j:Nat):Rat:=dt (k+1) (bnd B k i j)
inductive RwZ (H:Hp):List Addr->List (List Int)->Prop where
 | nil:RwZ H [] []
 | cons {p:Addr} {ps:List Addr} {L:List Int} {Ls:List (List Int)} (h:H p=some (.lst (L.map V.int))) (t:RwZ H ps Ls):RwZ H (p :: ps) (L :: Ls)
def zz (M:List (List Int)) (i j:Nat):Int:=aZ ((M[i]?).getD []) j
structure Eb (n:Nat) (A B:Mt) (at':Nat) (M:List (List Int)) (dv:Int):Prop where
 len:M.length=n
 row:∀ L ∈ M,L.length=n
 ent:∀ i j,at'<=i->i<n->at'<=j->j<n->((zz M i j:Int):Rat)=mi B at' i j
 zer:∀ i j,at'<=i->i<n->j<at'->zz M i j=0
 int:∀ r c,IsI (B r c)
 det:dt n B=dt n A
 led:∀ m,1<=m->m<=at'->dt m B ≠ 0
 div:((dv:Int):Rat)=dt at' B
def P5 (s:Nat->Rat):Nat->Rat
 | 0=>1
 | n+1=>P5 s n*s n
theorem O5 (s:Nat->Rat):∀ n,P5 s (n+1)=s 0*P5 (λi=>s (i+1)) n
 | 0=>by show 1*s 0=s 0*1;grind
 | n+1=>by
  show P5 s (n+1)*s (n+1)=s 0*(P5 (λi=>s (i+1)) n*s (n+1));rw [O5 s n];grind
theorem ai6 {s t:Nat->Rat}:∀ {n},(∀ i,i<n->s i=t i)->P5 s n=P5 t n
 | 0,_=>rfl
 | n+1,h=>by
  show P5 s n*s n=P5 t n*t n;rw [ai6 λi hi=>h i ⋯,h n ⋯]
theorem aH7 (s:Nat->Rat):∀ (n i:Nat),i<=n->P5 s (n+1)=s i*P5 (λr=>s (if r<i then r else r+1)) n
 | n,0,_=>by
  rw [O5]
  congr 1
 | 0,i+1,h=>⋯
 | n+1,i+1,h=>by
  rw [O5,aH7 (λr=>s (r+1)) n i ⋯];rw [O5 (λr=>s (if r<i+1 then r else r+1)) n,if_pos ⋯]
  rw [ai6 (s:=λr=>s (if r+1<i+1 then r+1 else r+1+1)) (t:=λr=>s ((if r<i then r else r+1)+1)) λr _=>by
   congr 1
   by_cases z:r<i
   ·rw [if_pos z,if_pos ⋯]
   ·rw [if_neg z,if_neg ⋯]]
  grind
def Sc (W:Nat) (B:Mt):Prop:=∃ b:Nat->Int,∀ r,0<b r/\(b r).natAbs<2 ^ W/\∀ c,∃ z:Int,((b r:Int):Rat)*B r c=(z:Rat)/\z.natAbs<2 ^ W
def qq (M:List (List Rat)) (i j:Nat):Rat:=aQ ((M[i]?).getD []) j
structure Ld (W n:Nat) (A B:Mt) (sg:Rat) (k:Nat) (M:List (List Rat)) (fd:Rat):Prop where
 len:M.length=n
 row:∀ L ∈ M,L.length=n
 ent:∀ i j,k<=i->i<n->k<=j->j<n->qq M i j*dt k B=mi B k i j
 zer:∀ i j,k<=i->i<n->j<k->qq M i j=0
 sc:Sc W B
 sgn:sg=1 \/ sg=-1
 det:dt n A=sg*dt n B
 led:∀ m,1<=m->m<=k->dt m B ≠ 0
 fnd:fd=sg*dt k B
end R
set_option maxRecDepth 100000
namespace L2
open PySem PySem.Spec PyProof.Rows
end L2
namespace R
open PySem L2 PyProof.Rows
structure Ew (n m:Nat) (A B:Mt) (k:Nat) (M:List (List Int)) (dv:Int):Prop where
 len:M.length=n
 row:∀ L ∈ M,L.length=m
 nm:n<=m
 ent:∀ i j,k<=i->i<n->k<=j->j<m->((zz M i j:Int):Rat)=mi B k i j
 zer:∀ i j,k<=i->i<n->j<k->zz M i j=0
 abv:∀ i j,i<k->k<=j->j<m->((zz M i j:Int):Rat)=mi B k (n+i) j
 dia:∀ i j,i<k->j<k->zz M i j=if i=j then dv else 0
 ext:∀ i c,B (n+i) c=if c=i then -1 else 0
 int:∀ r c,IsI (B r c)
 det:dt n B=dt n A
 led:∀ q,1<=q->q<=k->dt q B ≠ 0
 div:((dv:Int):Rat)=dt k B
theorem aq4 (f:Nat->Nat->Rat) (m:Nat):∀ n,c7 (λi=>c7 (λj=>f i j) m) n=c7 (λj=>c7 (λi=>f i j) n) m
 | 0=>(w9 m λ_ _=>rfl).symm
 | n+1=>by
  show c7 (λi=>c7 (λj=>f i j) m) n+c7 (λj=>f n j) m=c7 (λj=>c7 (λi=>f i j) n+f n j) m;rw [aq4 f m n,w4]
abbrev Vc:=Nat->Rat
theorem be5 (n:Nat) (a u w:Vc) (c:Rat):lf n a (λi=>u i+c*w i)=lf n a u+c*lf n a w:=by
 unfold lf;rw [m5,w4];exact d6 λi _=>by grind
theorem bm1 (n:Nat) (u w v:Vc) (c:Rat):lf n (λi=>u i+c*w i) v=lf n u v+c*lf n w v:=by
 unfold lf;rw [m5,w4];exact d6 λi _=>by grind
def af (N:Nat) (A:Mt) (w:Vc):Vc:=λs=>lf N (A s) w
def bl (N:Nat) (A:Mt) (v w:Vc):Rat:=lf N v (af N A w)
theorem aF3 (N:Nat) (A:Mt) (u w v:Vc) (c:Rat):bl N A (λi=>u i+c*w i) v=bl N A u v+c*bl N A w v:=bm1 _ _ _ _ _
theorem ad8 (N:Nat) (A:Mt) (v u w:Vc) (c:Rat):bl N A v (λi=>u i+c*w i)=bl N A v u+c*bl N A v w:=by
 unfold bl;rw [<- be5]
 congr 1
 funext s
 exact be5 _ _ _ _ _
def Sy (N:Nat) (A:Mt):Prop:=∀ i,i<N->∀ j,j<N->A i j=A j i
theorem aP2 {N:Nat} {A:Mt} (h:Sy N A) (u v:Vc):bl N A u v=bl N A v u:=by
 have e:∀ x y:Vc,bl N A x y=c7 (λs=>c7 (λt=>x s*(A s t*y t)) N) N:=λx y=>d6 λs _=>m5 _ _ _;rw [e,e,aq4];exact d6 λs hs=>d6 λt ht=>by rw [h t ht s hs];grind
structure Frm (N:Nat) (A:Mt) (d:Vc):Prop where
 ex:∃ (x g:Nat->Vc),(∀ i,i<N->∀ j,j<N->bl N A (x i) (x j)=if i=j then d i else 0)/\∀ v,bl N A v v=c7 (λk=>d k*(lf N (g k) v*lf N (g k) v)) N
section
variable (N:Nat) (A:Mt) (es:Nat->Vc)
def Pr:Nat->Vc->Vc
 | 0,v=>v
 | k+1,v=>λi=>Pr k v i + -(bl N A (Pr k v) (Pr k (es k))*(bl N A (Pr k (es k)) (Pr k (es k)))⁻¹)*Pr k (es k) i
def px (c:Nat):Vc:=Pr N A es c (es c)
def pd (c:Nat):Rat:=bl N A (px N A es c) (px N A es c)
variable {N A es}
variable (N A es)
variable {N A es}
end
def K8 (G:Nat->Rat):Nat->Rat
 | 0=>G 0
 | i+1=>G (i+1)-K8 G i
theorem ac1 {G:Nat->Rat}:∀ i,(∀ t,t<=i->G t=0)->K8 G i=0
 | 0,h=>h 0 (q0j _)
 | i+1,h=>by
  show G (i+1)-K8 G i=0;rw [h _ (q0j _),ac1 i λt ht=>h t ⋯];grind
theorem aU5 {F G:Nat->Rat} (c:Rat):∀ i,K8 (λt=>c*F t+G t) i=c*K8 F i+K8 G i
 | 0=>rfl
 | i+1=>by
  show c*F (i+1)+G (i+1)-K8 _ i=c*(F (i+1)-K8 F i)+(G (i+1)-K8 G i);rw [aU5 c i];grind
theorem az0 {F G:Nat->Rat}:∀ i,(∀ t,t<=i->F t=G t)->K8 F i=K8 G i
 | 0,h=>h 0 (q0j _)
 | i+1,h=>by
  show F (i+1)-K8 F i=G (i+1)-K8 G i;rw [h _ (q0j _),az0 i λt ht=>h t ⋯]
theorem aF7 {G:Nat->Rat} {r:Nat} (h:∀ t,t<=2*r+1->G t=G (2*r+1-t)):∀ e,e<=r->K8 G (r+e)=K8 G (r-e)
 | 0,_=>rfl
 | e+1,he=>by
  have i:=aF7 h e ⋯;obtain ⟨m,hm⟩:∃ m,r-e=m+1:=⟨r-e-1,⋯⟩;rw [hm] at i;rw [show r-(e+1)=m by omega]
  show G (r+e+1)-K8 G (r+e)=K8 G m;rw [i,h (r+e+1) ⋯,show 2*r+1-(r+e+1)=m+1 by omega]
  show G (m+1)-(G (m+1)-K8 G m)=K8 G m
  grind
theorem bo9 {G:Nat->Rat} {s i:Nat} (hs:s % 2=1) (h:∀ t,t<=s->G t=G (s-t)) (hi:i<s):K8 G (s-1-i)=K8 G i:=by
 obtain ⟨r,rfl⟩:∃ r,s=2*r+1:=⟨s / 2,⋯⟩
 by_cases z:i<=r
 ·have:=aF7 h (r-i) ⋯
  rw [show r+(r-i)=2*r+1-1-i by omega,show r-(r-i)=i by omega] at this
  exact this
 ·have:=aF7 h (i-r) ⋯
  rw [show r+(i-r)=i by omega,show r-(i-r)=2*r+1-1-i by omega] at this
  exact this.symm
def fg (P Q:Vc) (i j:Nat):Rat:=P i*Q j+Q i*P j
def knS (P Q:Vc):Mt:=λi m=>K8 (λt=>fg P Q t (i+m+1-t)) i
def av8 (P Q:Vc) (n:Nat):Prop:=(∀ i,n<i->P i=0)/\(∀ i,n<=i->Q i=0)/\(∀ i,(i+n) % 2=1->P i=0)/\∀ i,(i+n) % 2=0->Q i=0
section
variable {P Q:Vc} {n:Nat}
theorem av8.even (h:av8 P Q n) {i j:Nat} (e:(i+j) % 2=0):fg P Q i j=0:=by
 unfold fg
 by_cases z:(i+n) % 2=0
 ·rw [h.2.2.2 i z,h.2.2.2 j ⋯];grind
 ·rw [h.2.2.1 i ⋯,h.2.2.1 j ⋯];grind
theorem aO1 (h:av8 P Q n) (i j:Nat):knS P Q i j=knS P Q j i:=by
 unfold knS
 by_cases z:(i+j) % 2=0
 ·have:=bo9 (G:=λt=>fg P Q t (i+j+1-t)) (s:=i+j+1) (i:=j) ⋯ (λt ht=>by
   show fg P Q t (i+j+1-t)=fg P Q (i+j+1-t) (i+j+1-(i+j+1-t));rw [show i+j+1-(i+j+1-t)=t by omega];unfold fg;grind) ⋯
  rw [show i+j+1-1-j=i by omega] at this
  rw [this,m0y i j]
 ·rw [ac1 i λt ht=>h.even ⋯,ac1 j λt ht=>h.even ⋯]
theorem aO0 (h:av8 P Q n) {i j:Nat} (hj:n<=j):knS P Q i j=0:=ac1 i λt ht=>by
 unfold fg;rw [h.1 (i+j+1-t) ⋯,h.2.1 (i+j+1-t) ⋯];grind
theorem aS6 (h:av8 P Q n) {i j:Nat} (hi:n<=i):knS P Q i j=0:=by rw [aO1 h];exact aO0 h hi
theorem bm7 (h:av8 P Q (n+1)):knS P Q n n=P (n+1)*Q n:=by
 unfold knS
 have z:∀ t,t<n->fg P Q t (n+n+1-t)=0:=λt ht=>by
  unfold fg;rw [h.1 (n+n+1-t) ⋯,h.2.1 (n+n+1-t) ⋯];grind
 have l:fg P Q n (n+n+1-n)=P (n+1)*Q n:=by
  unfold fg;rw [show n+n+1-n=n+1 by omega,h.2.1 (n+1) ⋯];grind
 cases n with
 | zero=>exact l
 | succ m =>
  show fg P Q (m+1) _-K8 _ m=_;rw [l,ac1 m λt ht=>z t ⋯];grind
def k1 (K:Mt):Mt:=λi j=>match i with
 | 0=>0
 | i+1=>K i j
def k2 (K:Mt):Mt:=λi j=>match j with
 | 0=>0
 | j+1=>K i j
theorem bm6 (h:av8 P Q n) (i j:Nat):k1 (knS P Q) i j+k2 (knS P Q) i j=fg P Q i j:=by
 have key:∀ i j,k1 (knS P Q) i (j+1)+k2 (knS P Q) i (j+1)=fg P Q i (j+1):=λi j=>by
  cases i with
  | zero =>
   show 0+fg P Q 0 (0+j+1-0)=_;rw [show 0+j+1-0=j+1 by omega];grind
  | succ i =>
   show K8 (λt=>fg P Q t (i+(j+1)+1-t)) i+(fg P Q (i+1) (i+1+j+1-(i+1))-K8 (λt=>fg P Q t (i+1+j+1-t)) i)=_;rw [show i+1+j+1-(i+1)=j+1 by omega,show i+(j+1)+1=i+1+j+1 by omega];grind
 cases j with
 | succ j=>exact key i j
 | zero =>
  cases i with
  | zero=>show (0:Rat)+0=_;rw [h.even ⋯];grind
  | succ i =>
   have:=key 0 i
   show knS P Q i 0+0=_;rw [aO1 h];have e:k1 (knS P Q) 0 (i+1)+k2 (knS P Q) 0 (i+1)=0+knS P Q 0 i:=rfl;rw [e] at this;have f:fg P Q (i+1) 0=fg P Q 0 (i+1):=by unfold fg;grind
   rw [f];grind
def dnS (Q:Vc):Vc:=λi=>match i with
 | 0=>0
 | i+1=>Q i
theorem bi7 (Q:Vc) (s:Nat):∀ i,i<s->K8 (λt=>dnS Q t*Q (s-t)+Q t*dnS Q (s-t)) i=Q i*Q (s-1-i)
 | 0,h=>by
  obtain ⟨r,rfl⟩:∃ r,s=r+1:=⟨s-1,⋯⟩
  show (0:Rat)*Q (r+1-0)+Q 0*Q r=Q 0*Q (r+1-1-0);rw [show r+1-1-0=r by omega];grind
 | i+1,h=>by
  show dnS Q (i+1)*Q (s-(i+1))+Q (i+1)*dnS Q (s-(i+1))-K8 _ i=_;rw [bi7 Q s i ⋯];obtain ⟨r,hr⟩:∃ r,s-(i+1)=r+1:=⟨s-(i+1)-1,⋯⟩;rw [hr,show s-1-i=r+1 by omega,show s-1-(i+1)=r by omega]
  show Q i*Q (r+1)+Q (i+1)*Q r-Q i*Q (r+1)=_
  grind
theorem bm5 {R':Vc} (a:Rat) (hP:∀ i,P i=a*dnS Q i+R' i) (i m:Nat):knS P Q i m=a*(Q i*Q m)+knS Q R' i m:=by
 have e:=bi7 Q (i+m+1) i ⋯;rw [show i+m+1-1-i=m by omega] at e
 unfold knS;rw [<- e,<- aU5];refine az0 i λt _=>?_;unfold fg;rw [hP,hP];grind
end
def sS (w:Vc):Vc:=λi=>w (i+1)
theorem bi2 {N:Nat} {A:Mt} {u u' v v':Vc} (h:∀ i,i<N->u i=u' i) (k:∀ i,i<N->v i=v' i):bl N A u v=bl N A u' v' :=
 d6 λi hi=>by rw [h i hi];congr 1;exact d6 λj hj=>by rw [k j hj]
theorem bo8 {n:Nat} {A:Mt} (h1:∀ i,A i n=0) (h2:∀ j,A n j=0) (u v:Vc):bl (n+1) A u v=bl n A u v:=by
 have r:∀ i,af (n+1) A v i=af n A v i:=λi=>by
  show c7 _ n+A i n*v n=_;rw [h1];show lf n (A i) v+0*v n=lf n (A i) v;grind
 show c7 _ n+u n*af (n+1) A v n=_;have z:af (n+1) A v n=0:=w9 _ λj _=>by rw [h2];grind
 rw [z];have:c7 (λi=>u i*af (n+1) A v i) n=bl n A u v:=d6 λi _=>by rw [r]
 rw [this];grind
theorem bo7 {N:Nat} {A:Mt} {K:Mt} {Q:Vc} {a:Rat} (h:∀ i j,A i j=a*(Q i*Q j)+K i j) (u v:Vc):bl N A u v=a*(lf N Q u*lf N Q v)+bl N K u v:=by
 have r:∀ i,af N A v i=a*Q i*lf N Q v+af N K v i:=λi=>by
  unfold af lf;rw [m5,w4];exact d6 λj _=>by rw [h];grind
 unfold bl
 show c7 _ N=a*(lf N Q u*lf N Q v)+c7 _ N;have e:a*(lf N Q u*lf N Q v)=c7 (λi=>a*lf N Q v*(Q i*u i)) N:=by rw [<- m5];show _=_*lf N Q u;grind
 rw [e,w4];exact d6 λi _=>by rw [r];grind
theorem bC7 (N:Nat) (P Q u v:Vc):bl N (fg P Q) u v=lf N P u*lf N Q v+lf N Q u*lf N P v:=by
 have r:∀ i,af N (fg P Q) v i=P i*lf N Q v+Q i*lf N P v:=λi=>by
  unfold af lf;rw [m5,m5,w4];exact d6 λj _=>by unfold fg;grind
 have e:lf N P u*lf N Q v+lf N Q u*lf N P v=lf N Q v*lf N P u+lf N P v*lf N Q u:=by grind
 rw [e];unfold bl;rw [show lf N u (af N (fg P Q) v)=c7 (λi=>u i*af N (fg P Q) v i) N from rfl,show lf N P u=c7 (λi=>P i*u i) N from rfl,show lf N Q u=c7 (λi=>Q i*u i) N from rfl,m5,m5,w4];exact d6 λi _=>by rw [r];grind
theorem bC6 {n:Nat} {A:Mt} (h:∀ i,A i n=0) (u v:Vc):bl (n+1) (k1 A) u v=bl n A (sS u) v:=by
 unfold bl
 show c7 (λi=>u i*af (n+1) (k1 A) v i) (n+1)=c7 (λi=>u (i+1)*af n A v i) n;rw [F8];have z:af (n+1) (k1 A) v 0=0:=w9 _ λj _=>by show (0:Rat)*v j=0;grind
 rw [z]
 have:c7 (λi=>u (i+1)*af (n+1) (k1 A) v (i+1)) n=c7 (λi=>u (i+1)*af n A v i) n:=d6 λi _=>by
  congr 1
  show c7 (λj=>A i j*v j) n+A i n*v n=_;rw [h];show lf n (A i) v+0*v n=lf n (A i) v;grind
 rw [this];grind
theorem bC5 {n:Nat} {A:Mt} (h:∀ j,A n j=0) (u v:Vc):bl (n+1) (k2 A) u v=bl n A u (sS v):=by
 have r:∀ i,af (n+1) (k2 A) v i=af n A (sS v) i:=λi=>by
  unfold af lf;rw [F8]
  show (0:Rat)*v 0+c7 (λj=>A i j*v (j+1)) n=c7 (λj=>A i j*v (j+1)) n
  grind
 show c7 _ n+u n*af (n+1) (k2 A) v n=_;have z:af (n+1) (k2 A) v n=0:=by rw [r];exact w9 _ λj _=>by rw [h];grind
 rw [z];have:c7 (λi=>u i*af (n+1) (k2 A) v i) n=bl n A u (sS v):=d6 λi _=>by rw [r]
 rw [this];grind
theorem bo6 {P Q:Vc} {n:Nat} (h:av8 P Q n) (u v:Vc):bl n (knS P Q) (sS u) v+bl n (knS P Q) u (sS v)=lf (n+1) P u*lf (n+1) Q v+lf (n+1) Q u*lf (n+1) P v:=by
 rw [<- bC7,<- bC6 (λi=>aO0 h (q0j _)),<- bC5 (λj=>aS6 h (q0j _))];unfold bl
 show c7 _ _+c7 _ _=c7 _ _;rw [w4];refine d6 λi _=>?_
 have:af (n+1) (fg P Q) v i=af (n+1) (k1 (knS P Q)) v i+af (n+1) (k2 (knS P Q)) v i:=by
  unfold af lf;rw [w4];exact d6 λj _=>by rw [<- bm6 h];grind
 rw [this];grind
def cP (n:Nat) (A:Vc):Vc:=λi=>if i<=n/\(n-i) % 2=0 then A ((n-i) / 2) else 0
def cR (n:Nat) (B:Vc):Vc:=λi=>if i+1<=n/\(n-1-i) % 2=0 then B ((n-1-i) / 2) else 0
theorem bC3 (n:Nat) (B:Vc):cR (n+1) B=cP n B:=funext λi=>by
 unfold cR cP;rw [show n+1-1-i=n-i by omega]
 by_cases z:i<=n/\(n-i) % 2=0
 ·rw [if_pos z,if_pos ⋯]
 ·rw [if_neg z,if_neg ⋯]
theorem aP0 (n:Nat) (A B:Vc):av8 (cP n A) (cR n B) n:=by
 refine ⟨λi h=>?_,λi h=>?_,λi h=>?_,λi h=>?_⟩
 ·unfold cP;rw [if_neg ⋯]
 ·unfold cR;rw [if_neg ⋯]
 ·unfold cP;rw [if_neg ⋯]
 ·unfold cR;rw [if_neg ⋯]
theorem aR9:∀ {n:Nat} {A B:Vc},A 0 ≠ 0->(∀ j,n<2*j->A j=0)->(∀ j,n<2*j+1->B j=0)->Q5 n A B=false->∃ u:Vc,(∃ i,i<n/\u i ≠ 0)/\bl n (knS (cP n A) (cR n B)) u u<=0
 | 0,_,_,_,_,_,h=>by cases h
 | n+1,A,B,a0,sA,sB,h=>by
  have tw:=aP0 (n+1) A B;have cb:=bC3 n B
  by_cases hb:0<A 0*B 0
  ·unfold Q5 at h
   rw [decide_eq_true hb,Bool.true_and] at h;have b0:B 0 ≠ 0:=λz=>by rw [z] at hb;grind
   have bi:=q0d _ b0;obtain ⟨C,hC⟩:∃ C:Vc,C=λj=>A (j+1)-A 0 / B 0*B (j+1):=⟨_,rfl⟩;rw [<- hC] at h;obtain ⟨u,⟨i,hi,ui⟩,hu⟩:=aR9 b0 (λj hj=>sB j ⋯) (λj hj=>by rw [hC];show A (j+1)-A 0 / B 0*B (j+1)=0;rw [sA (j+1) ⋯,sB (j+1) ⋯];grind) h
   obtain ⟨x,hx⟩:∃ x,x=-(lf n (cP n B) u*(B 0)⁻¹):=⟨_,rfl⟩;have tw2:=aP0 n B C;refine ⟨λk=>if k=n then x else u k,⟨i,⋯,by show (if i=n then x else u i) ≠ 0;rw [if_neg ⋯];exact ui⟩,?_⟩
   have st:∀ i j,knS (cP (n+1) A) (cR (n+1) B) i j=A 0 / B 0*(cP n B i*cP n B j)+knS (cP n B) (cR n C) i j:=λi j=>by
    rw [cb];refine bm5 _ (λi=>?_) i j;rw [hC];unfold cR;have ea:A 0 / B 0=A 0*(B 0)⁻¹:=q0u ..
    cases i with
    | zero =>
     show _=A 0 / B 0*0+_;unfold cP
     by_cases z:(n+1-0) % 2=0
     ·rw [if_pos ⟨⋯,z⟩,if_pos ⋯]
      obtain ⟨r,hr⟩:∃ r,(n+1-0) / 2=r+1:=⟨(n+1) / 2-1,⋯⟩;rw [hr,show (n-1-0) / 2=r by omega]
      show A (r+1)=A 0 / B 0*0+(A (r+1)-A 0 / B 0*B (r+1));rw [sB (r+1) ⋯];grind
     ·rw [if_neg ⋯,if_neg ⋯];grind
    | succ i =>
     show _=A 0 / B 0*cP n B i+_;unfold cP
     by_cases z:i<=n/\(n-i) % 2=0
     ·rw [if_pos ⋯,if_pos z]
      by_cases y:i=n
      ·subst y
       rw [if_neg ⋯,show (i+1-(i+1)) / 2=0 by omega,show (i-i) / 2=0 by omega,ea]
       generalize (B 0)⁻¹=q at bi ⊢
       grind
      ·rw [if_pos ⋯]
       obtain ⟨r,hr⟩:∃ r,(n+1-(i+1)) / 2=r+1:=⟨(n-i) / 2-1,⋯⟩;rw [hr,show (n-i) / 2=r+1 by omega,show (n-1-(i+1)) / 2=r by omega];grind
     ·rw [if_neg ⋯,if_neg z,if_neg ⋯];grind
   rw [bo7 st,bo8 (A:=knS (cP n B) (cR n C)) (λi=>aO0 tw2 (q0j _)) (λj=>aS6 tw2 (q0j _)),bi2 (u':=u) (v':=u) (λi hi=>if_neg ⋯) (λi hi=>if_neg ⋯)]
   have z:lf (n+1) (cP n B) (λk=>if k=n then x else u k)=0:=by
    show c7 _ n+cP n B n*(if n=n then x else u n)=0;have e1:cP n B n=B 0:=by unfold cP;rw [if_pos ⋯,show (n-n) / 2=0 by omega]
    have e2:c7 (λi=>cP n B i*(if i=n then x else u i)) n=lf n (cP n B) u:=d6 λi hi=>by rw [if_neg ⋯]
    rw [e1,e2,if_pos rfl,hx];generalize (B 0)⁻¹=q at bi ⊢
    grind
   rw [z];grind
  ·refine ⟨λk=>if k=n then 1 else 0,⟨n,⋯,by show (if n=n then (1:Rat) else 0) ≠ 0;rw [if_pos rfl];decide⟩,?_⟩
   have e:bl (n+1) (knS (cP (n+1) A) (cR (n+1) B)) (λk=>if k=n then 1 else 0) (λk=>if k=n then 1 else 0)=knS (cP (n+1) A) (cR (n+1) B) n n:=by
    have r:∀ i,af (n+1) (knS (cP (n+1) A) (cR (n+1) B)) (λk=>if k=n then 1 else 0) i=knS (cP (n+1) A) (cR (n+1) B) i n:=λi=>by
     show c7 _ n+knS _ _ i n*(if n=n then 1 else 0)=_;rw [w9 n λj hj=>by show _*(if j=n then (1:Rat) else 0)=0;rw [if_neg ⋯];grind,if_pos rfl];grind
    show c7 _ n+(if n=n then 1 else 0)*af _ _ _ n=_;rw [w9 n λj hj=>by show (if j=n then (1:Rat) else 0)*_=0;rw [if_neg ⋯];grind,if_pos rfl,r];grind
   rw [e,bm7 tw];have e1:cP (n+1) A (n+1)=A 0:=by unfold cP;rw [if_pos ⋯,show (n+1-(n+1)) / 2=0 by omega]
   have e2:cR (n+1) B n=B 0:=by rw [cb];unfold cP;rw [if_pos ⋯,show (n-n) / 2=0 by omega]
   rw [e1,e2];exact Rat.not_lt.mp hb
def ab (x:Rat):Rat:=if 0<=x then x else -x
theorem E1 (x:Rat):0<=ab x:=by unfold ab;split <;> grind
theorem bi9 {x c:Rat} (h:x<=c) (k:-x<=c):ab x<=c:=by unfold ab;split <;> grind
theorem aJ3 (x:Rat):x<=ab x/\-x<=ab x:=by unfold ab;split <;> grind
theorem ac5 (x y:Rat):ab (x+y)<=ab x+ab y:=by
 have:=aJ3 x;have:=aJ3 y;exact bi9 (by grind) (by grind)
theorem ac4 (x:Rat):ab (-x)=ab x:=by unfold ab;split <;> split <;> grind
theorem D5 (x y:Rat):ab (x*y)=ab x*ab y:=by
 have key:∀ x y:Rat,0<=x->ab (x*y)=ab x*ab y:=λx y hx=>by
  rcases q1d (a:=0) (b:=y) with h | h
  ·have:=q0t hx h
   unfold ab;rw [if_pos this,if_pos hx,if_pos h]
  ·have h1:=q0t hx (show 0<=-y by grind)
   have a1:ab (x * -y)=x * -y:=if_pos h1;have a2:ab (-y)=-y:=if_pos (by grind)
   have a3:ab x=x:=if_pos hx;have b1:ab (x*y)=ab (x * -y):=by rw [<- ac4];congr 1;grind
   rw [b1,<- ac4 y,a1,a2,a3]
 rcases q1d (a:=0) (b:=x) with h | h
 ·exact key x y h
 ·have e:x*y=-(-x*y):=by grind
  rw [e,ac4,key _ _ (by grind),ac4]
theorem aU6 {x:Rat} (h:ab x<=0):x=0:=by have:=aJ3 x;grind
theorem bi8 {x:Rat} (h:x ≠ 0):0<ab x:=by
 have:=E1 x;refine Classical.byContradiction λz=>h (aU6 (by grind))
theorem P2 {f g:Nat->Rat}:∀ n,(∀ i,i<n->f i<=g i)->c7 f n<=c7 g n
 | 0,_=>v0f
 | n+1,h=>by
  show c7 f n+f n<=c7 g n+g n;have:=P2 n λi hi=>h i ⋯;have:=h n ⋯
  grind
theorem aF8 (f:Nat->Rat):∀ n,ab (c7 f n)<=c7 (λi=>ab (f i)) n
 | 0=>by show ab 0<=0;exact bi9 (by grind) (by grind)
 | n+1=>by
  show ab (c7 f n+f n)<=c7 _ n+ab (f n);have:=ac5 (c7 f n) (f n);have:=aF8 f n
  grind
theorem mle {a b c:Rat} (h:a<=b) (k:0<=c):a*c<=b*c:=Rat.mul_le_mul_of_nonneg_right h k
theorem bl9 {a b c:Rat} (h:a*c<=b*c) (k:0<c):a<=b:=Classical.byContradiction λz=>by
 have:=q0s (show 0<a-b by grind) k
 grind
def LnF (f:Vc->Vc):Prop:=∀ (u w:Vc) (c:Rat),f (λi=>u i+c*w i)=λi=>f u i+c*f w i
def itF (f:Vc->Vc):Nat->Vc->Vc
 | 0,w=>w
 | k+1,w=>itF f k (f w)
theorem aS8 {f:Vc->Vc} (h:LnF f):∀ k,LnF (itF f k)
 | 0,_,_,_=>rfl
 | k+1,u,w,c=>by
  show itF f k (f _)=_;rw [h,aS8 h k];rfl
def apL:List Rat->(Vc->Vc)->Vc->Vc
 | [],_,_=>λ_=>0
 | a :: l,f,w=>λi=>apL l f (f w) i+a*w i
theorem aq0 {f:Vc->Vc} (h:LnF f):∀ l,LnF (apL l f)
 | [],_,_,_=>funext λ_=>by show (0:Rat)=0+_*0;grind
 | a :: l,u,w,c=>funext λi=>by
  show apL l f (f _) i+a*(u i+c*w i)=apL l f (f u) i+a*u i+c*(apL l f (f w) i+a*w i);rw [h,aq0 h l];grind
theorem aF6 {f g:Vc->Vc} (hg:LnF g) (h:∀ w,f (g w)=g (f w)) (h0:g (λ_=>0)=λ_=>0):∀ l w,apL l f (g w)=g (apL l f w)
 | [],w=>h0.symm
 | a :: l,w=>by
  have e:=hg (apL l f (f w)) w a
  show (λi=>apL l f (f (g w)) i+a*g w i)=g (λi=>apL l f (f w) i+a*w i);rw [e,h,aF6 hg h h0 l]
theorem aK3 {φ:Vc->Rat} (h:∀ (u w:Vc) (c:Rat),φ (λi=>u i+c*w i)=φ u+c*φ w) (f:Vc->Vc):∀ l w,φ (apL l f w)=c7 (λk=>aQ l k*φ (itF f k w)) l.length
 | [],w=>by
  have:=h (λ_=>0) (λ_=>0) (-1);have e:(λ_:Nat=>(0:Rat) + -1*0)=λ_=>0:=funext λ_=>by grind
  rw [e] at this
  show φ (λ_=>0)=0
  grind
 | a :: l,w=>by
  show φ (λi=>apL l f (f w) i+a*w i)=c7 _ (l.length+1);rw [h,aK3 h f l,F8]
  show _=a*φ w+c7 (λk=>aQ l k*φ (itF f k (f w))) l.length
  grind
theorem aU4 {f:Vc->Vc} (h:LnF f) (c:Rat):∀ (l:List Rat) (a:Rat) (w:Vc),apL (sad c a l) f w=λi=>apL l f (λi=>f w i+c*w i) i+a*w i
 | [],a,w=>rfl
 | x :: l,a,w=>by
  show (λi=>apL (sad c x l) f (f w) i+(a+c*x)*w i)=_;rw [aU4 h c l x];refine funext λi=>?_
  show apL l f (λi=>f (f w) i+c*f w i) i+x*f w i+(a+c*x)*w i=apL l f (f (λi=>f w i+c*w i)) i+x*(f w i+c*w i)+a*w i;rw [h (f w) w c];grind
theorem ap9 {f:Vc->Vc} (h:LnF f) (c:Rat):∀ (l:List Rat) (w:Vc),apL (shn c l) f w=apL l (λw i=>f w i+c*w i) w
 | [],_=>rfl
 | a :: l,w=>by
  show apL (sad c a (shn c l)) f w=_;rw [aU4 h,ap9 h c l];rfl
theorem aM0:LnF sS:=λ_ _ _=>rfl
def nS (w:Vc):Vc:=λi=>- w (i+1)
theorem bv8:LnF nS:=λu w c=>funext λi=>by show -(u (i+1)+c*w (i+1))=-u (i+1)+c * -w (i+1);grind
def tS (r:Rat) (w:Vc):Vc:=λi=>sS w i+r*w i
def uS (r:Rat) (w:Vc):Vc:=λi=>nS w i+r*w i
theorem az8 (r:Rat):LnF (tS r):=λu w c=>funext λi=>by show u (i+1)+c*w (i+1)+r*(u i+c*w i)=u (i+1)+r*u i+c*(w (i+1)+r*w i);grind
theorem aZ2 (r:Rat):LnF (uS r):=λu w c=>funext λi=>by show -(u (i+1)+c*w (i+1))+r*(u i+c*w i)=-u (i+1)+r*u i+c*(-w (i+1)+r*w i);grind
theorem itS:∀ (k:Nat) (w:Vc) (i:Nat),itF sS k w i=w (i+k)
 | 0,_,_=>rfl
 | k+1,w,i=>by show itF sS k (sS w) i=_;rw [itS k];show w (i+k+1)=_;rw [u0w]
theorem itN:∀ (k:Nat) (w:Vc) (i:Nat),itF nS k w i=(if k % 2=0 then 1 else -1)*w (i+k)
 | 0,w,i=>by show w i=_*w (i+0);rw [if_pos rfl];simp
 | k+1,w,i=>by
  show itF nS k (nS w) i=_;rw [itN k]
  show _ * -(w (i+k+1))=_;rw [u0w]
  by_cases z:k % 2=0
  ·rw [if_pos z,if_neg ⋯];grind
  ·rw [if_neg z,if_pos ⋯];grind
section
variable {qs:List Rat} {r t:Rat} {n:Nat}
def Kl (qs:List Rat) (r:Rat) (w:Vc):Prop:=apL qs (tS r) w=λ_=>0
theorem Kl.lin {u w:Vc} (h:Kl qs r u) (k:Kl qs r w) (c:Rat):Kl qs r λi=>u i+c*w i:=by
 unfold Kl;rw [aq0 (az8 r),h,k];exact funext λ_=>by grind
theorem Kl.s {w:Vc} (h:Kl qs r w):Kl qs r (sS w):=by
 unfold Kl;rw [aF6 (f:=tS r) (g:=sS) aM0 (λ_=>rfl) rfl,h];rfl
theorem Kl.tt {w:Vc} (h:Kl qs r w):Kl qs r (tS r w):=h.s.lin h r
theorem Kl.zero:Kl qs r λ_=>0:=by
 have:∀ l:List Rat,apL l (tS r) (λ_=>0)=λ_=>0:=λl=>by
  have e:=aq0 (az8 r) l (λ_=>0) (λ_=>0) (-1);have z:(λ_:Nat=>(0:Rat) + -1*0)=λ_=>0:=funext λ_=>by grind
  rw [z] at e;rw [e];have:=congrFun e;exact funext λi=>by have:=this i;grind
 exact this qs
theorem bz9 (w:Vc):uS r w=λi=>(λi=>(λ_=>0) i+r*w i) i+(-1)*sS w i:=funext λi=>by show -w (i+1)+r*w i=0+r*w i + -1*w (i+1);grind
theorem Kl.u {w:Vc} (h:Kl qs r w):Kl qs r (uS r w):=by rw [bz9];exact (Kl.zero.lin h r).lin h.s (-1)
def mo (r:Rat) (k:Nat) (w:Vc):Rat:=itF (tS r) k w 0
theorem al4 (k:Nat) (u w:Vc) (c:Rat):mo r k (λi=>u i+c*w i)=mo r k u+c*mo r k w:=congrFun (aS8 (az8 r) k u w c) 0
theorem bD7 (k:Nat) (w:Vc):mo r k (uS r w)=2*r*mo r k w-mo r (k+1) w:=by
 have e:(λi=>uS r w i+1*tS r w i)=λi=>(λ_=>0) i+2*r*w i:=funext λi=>by show -w (i+1)+r*w i+1*(w (i+1)+r*w i)=0+2*r*w i;grind
 have h1:=al4 (r:=r) k (uS r w) (tS r w) 1;have h2:=al4 (r:=r) k (λ_=>0) w (2*r);have h3:=al4 (r:=r) k (λ_=>0) (λ_=>0) (-1);have z:(λ_:Nat=>(0:Rat) + -1*0)=λ_=>0:=funext λ_=>by grind
 rw [z] at h3;rw [e,h2] at h1;have:mo r k (tS r w)=mo r (k+1) w:=rfl
 grind
theorem bB4 (k:Nat) (w:Vc):mo r k (sS w)=mo r (k+1) w-r*mo r k w:=by
 have e:=al4 (r:=r) k (sS w) w r;have:mo r k (λi=>sS w i+r*w i)=mo r (k+1) w:=rfl
 grind
def Bds (r t:Rat) (n:Nat) (M:Rat) (w:Vc):Prop:=∀ i,i<n->ab (mo r i w)<=M*t ^ i
theorem Bds.mono {M N:Rat} {w:Vc} (h:Bds r t n M w) (k:M<=N) (t0:0<t):Bds r t n N w:=λi hi=>z0t (h i hi) (mle k (q0p (j0c t0)))
theorem aU3 (g:Nat->Rat):∀ n,0<n->∃ i,i<n/\∀ j,j<n->g j<=g i
 | 0,h=>absurd h (by decide)
 | 1,_=>⟨0,by decide,λj hj=>by rw [show j=0 by omega];exact v0f⟩
 | n+2,_=>by
  obtain ⟨i,hi,h⟩:=aU3 g (n+1) ⋯;rcases q1d (a:=g (n+1)) (b:=g i) with z | z
  ·exact ⟨i,⋯,λj hj=>by
    by_cases y:j=n+1
    ·rw [y];exact z
    ·exact h j ⋯⟩
  ·exact ⟨n+1,⋯,λj hj=>by
    by_cases y:j=n+1
    ·rw [y];exact v0f
    ·exact z0t (h j ⋯) z⟩
theorem aP3 (t0:0<t) (n1:0<n) (w:Vc):∃ N i,0<=N/\i<n/\ab (mo r i w)=N*t ^ i/\Bds r t n N w:=by
 have ti:=q0d t (k8 t0)
 have e:∀ i:Nat,(t⁻¹) ^ i*t ^ i=1:=λi=>by
  induction i with
  | zero=>rw [z0a,z0a];grind
  | succ i ih=>rw [q0r,q0r];grind
 obtain ⟨i,hi,h⟩:=aU3 (λi=>ab (mo r i w)*(t⁻¹) ^ i) n n1;have p:∀ i:Nat,0<(t⁻¹) ^ i:=λi=>j0c (y0a.mpr t0);refine ⟨ab (mo r i w)*(t⁻¹) ^ i,i,q0t (E1 _) (q0p (p i)),hi,by rw [j0m,e];grind,λj hj=>?_⟩
 have:=mle (h j hj) (q0p (j0c (n:=j) t0));rw [j0m,e] at this
 grind
structure Cau (qs:List Rat) (n:Nat) (t r:Rat):Prop where
 len:qs.length=n+1
 top:aQ qs n ≠ 0
 t0:0<t
 tr:t<r
 a:c7 (λk=>ab (aQ qs k)*t ^ k) n<=ab (aQ qs n)*t ^ n
 b:c7 (λk=>ab (aQ qs k)*r ^ k) n<ab (aQ qs n)*r ^ n
theorem Cau.rc (h:Cau qs n t r) {φ:Vc->Rat} (hφ:∀ (u w:Vc) (c:Rat),φ (λi=>u i+c*w i)=φ u+c*φ w) {f:Vc->Vc} {w:Vc} (z:apL qs f w=λ_=>0):ab (aQ qs n)*ab (φ (itF f n w))<=c7 (λk=>ab (aQ qs k)*ab (φ (itF f k w))) n:=by
 have e:=aK3 hφ f qs w;rw [z,h.len] at e;have h0:=hφ (λ_=>0) (λ_=>0) (-1);have z0:(λ_:Nat=>(0:Rat) + -1*0)=λ_=>0:=funext λ_=>by grind
 rw [z0] at h0
 have e':aQ qs n*φ (itF f n w)=-c7 (λk=>aQ qs k*φ (itF f k w)) n:=by
  have:c7 (λk=>aQ qs k*φ (itF f k w)) (n+1)=c7 (λk=>aQ qs k*φ (itF f k w)) n+aQ qs n*φ (itF f n w):=rfl
  grind
 have s:=aF8 (λk=>aQ qs k*φ (itF f k w)) n;rw [<- D5,e',ac4];refine z0t s (P2 n λk _=>?_)
 show ab (aQ qs k*φ (itF f k w))<=_;rw [D5];exact v0f
theorem bn6:∀ (u w:Vc) (c:Rat),(λw:Vc=>w 0) (λi=>u i+c*w i)=(λw:Vc=>w 0) u+c*(λw:Vc=>w 0) w:=λ_ _ _=>rfl
theorem Cau.tt (h:Cau qs n t r) {M:Rat} {w:Vc} (m0:0<=M) (z:Kl qs r w) (b:Bds r t n M w):∀ i,i<=n->ab (mo r i w)<=M*t ^ i:=λi hi=>by
 by_cases y:i<n
 ·exact b i y
 ·have:i=n:=⋯
  subst this;have e:=h.rc (φ:=λw=>w 0) bn6 z;have tp:=bi8 h.top
  have s:c7 (λk=>ab (aQ qs k)*ab (itF (tS r) k w 0)) i<=c7 (λk=>M*(ab (aQ qs k)*t ^ k)) i:=P2 i λk hk=>by
   have:=mle (b k hk) (E1 (aQ qs k));have e1:mo r k w=itF (tS r) k w 0:=rfl;rw [e1] at this
   grind
  rw [<- m5] at s;have h2:=mle h.a m0;refine bl9 (c:=ab (aQ qs i)) ?_ tp;have e2:mo r i w=itF (tS r) i w 0:=rfl;rw [e2];have e3:ab (aQ qs i)*ab ((λw:Vc=>w 0) (itF (tS r) i w))=ab (itF (tS r) i w 0)*ab (aQ qs i):=z1p _ _;rw [e3] at e;refine z0t e (z0t s ?_)
  grind
theorem Cau.step (h:Cau qs n t r) {M:Rat} {w:Vc} (m0:0<=M) (z:Kl qs r w) (b:Bds r t n M w):Bds r t n (t*M) (tS r w):=λi hi=>by
 have:=h.tt m0 z b (i+1) ⋯;have e:mo r i (tS r w)=mo r (i+1) w:=rfl;rw [e];rw [q0r] at this
 grind
theorem Cau.low (h:Cau qs n t r) {M:Rat} {w:Vc} (n1:0<n) (z:Kl qs r w) (b:Bds r t n (r*M) (uS r w)):Bds r t n M w:=by
 obtain ⟨N,i,n0,hi,e,bN⟩:=aP3 (r:=r) h.t0 n1 w;refine bN.mono ?_ h.t0;have h1:=h.tt n0 z bN (i+1) ⋯;have h2:=b i hi;rw [bD7] at h2;have tp:0<t ^ i:=j0c h.t0;have r0:0<r:=by have:=h.t0;have:=h.tr;grind
 rw [q0r] at h1;have h3:=ac5 (2*r*mo r i w-mo r (i+1) w) (mo r (i+1) w);rw [show 2*r*mo r i w-mo r (i+1) w+mo r (i+1) w=2*r*mo r i w by grind,D5,e] at h3
 have e2:ab (2*r)=2*r:=by unfold ab;rw [if_pos (by grind)]
 rw [e2] at h3;have h4:2*r*N*t ^ i<=(r*M+N*t)*t ^ i:=by grind
 have h5:=bl9 h4 tp;have h6:=mle (q0p h.tr) n0;refine bl9 (c:=r) ?_ r0
 grind
theorem Cau.zero (h:Cau qs n t r) {w:Vc} (b:Bds r t n 0 w):∀ i,i<n->w i=0:=by
 have key:∀ (i:Nat) (w:Vc),(∀ k:Nat,k<n->k<=i->mo r k w=0)->i<n->w i=0:=by
  intro i
  induction i with
  | zero=>exact λw hw h0=>hw 0 h0 ⋯
  | succ i ih=>exact λw hw h0=>ih (sS w) (λk hk hi=>by rw [bB4,hw (k+1) ⋯ ⋯,hw k hk ⋯];grind) ⋯
 exact λi hi=>key i w (λk hk _=>aU6 (by have:=b k hk;grind)) hi
theorem aW2 {s c e:Rat} (s0:0<s) (s1:s<1) (hc:0<=c) (he:0<e):∃ k:Nat,c*s ^ k<e:=by
 have key:∀ k:Nat,s ^ k*(1+(k:Rat)*(1-s))<=1:=λk=>by
  induction k with
  | zero=>rw [z0a];simp;grind
  | succ k ih =>
   rw [q0r,g0v];have p:0<s ^ k:=j0c s0;have q:0<=(k:Rat):=u0k
   have h1:s*(1+((k:Rat)+(1:Nat))*(1-s))<=1+(k:Rat)*(1-s):=by
    have h2:=q0t q (rsq (1-s));have h3:=rsq (1-s);have:((1:Nat):Rat)=1:=rfl;rw [this]
    grind
   have:=mle h1 (q0p p)
   grind
 have d0:0<e*(1-s):=q0s he (by grind)
 have di:=q0d _ (k8 d0);have x0:=q0t hc (q0p (y0a.mpr d0));generalize (e*(1-s))⁻¹=i at di x0;have hf:=Rat.lt_floor_add_one (c*i);have f0:(0:Int)<=(c*i).floor:=Rat.le_floor_iff.mpr x0;refine ⟨((c*i).floor+1).toNat,?_⟩
 have ek:((((c*i).floor+1).toNat:Nat):Rat)=(((c*i).floor+1:Int):Rat):=by
  rw [<- y0e,Int.toNat_of_nonneg ⋯]
 have h:=key ((c*i).floor+1).toNat;have p:0<s ^ ((c*i).floor+1).toNat:=j0c s0;rw [ek] at h;generalize s ^ ((c*i).floor+1).toNat=y at h p ⊢;generalize (((c*i).floor+1:Int):Rat)=z at h hf;have h2:=mle (q0p hf) (q0p d0)
 have h3:c<=z*(e*(1-s)):=by
  have:c*i*(e*(1-s))=c:=by rw [j0m,z1p i,di];grind
  rw [<- this];exact h2
 have h4:=mle h3 (q0p p);have h5:=mle h (q0p he);have h6:=q0s he p
 grind
theorem Cau.r0 (h:Cau qs n t r):0<r:=by have:=h.t0;have:=h.tr;grind
def yS (r:Rat) (w:Vc):Vc
 | 0=>0
 | i+1=>r*yS r w i-w i
theorem bA0 (w:Vc):tS r (uS r w)=uS r (tS r w):=funext λi=>by
 show -w (i+1+1)+r*w (i+1)+r*(-w (i+1)+r*w i)=-(w (i+1+1)+r*w (i+1))+r*(w (i+1)+r*w i);grind
theorem bj5:uS r (λ_=>0)=λ_=>0:=funext λi=>by show -(0:Rat)+r*0=0;grind
theorem aL0 {e:Vc} (h:uS r e=λ_=>0):∀ i:Nat,e i=e 0*r ^ i
 | 0=>by rw [z0a];grind
 | i+1=>by
  have:=congrFun h i;have z:-e (i+1)+r*e i=0:=this;rw [q0r];have:=aL0 h i
  grind
theorem Cau.inv (h:Cau qs n t r) (n1:0<n) {w:Vc} (z:Kl qs r w):∃ v,Kl qs r v/\uS r v=w:=by
 have uy:uS r (yS r w)=w:=funext λi=>by show -(r*yS r w i-w i)+r*yS r w i=w i;grind
 have ug:uS r (λi:Nat=>r ^ i)=λ_=>0:=funext λi=>by show -(r ^ (i+1))+r*r ^ i=0;rw [q0r];grind
 have com:=aF6 (f:=tS r) (aZ2 r) (λw=>bA0 w) bj5 qs;have e1:=aL0 (e:=apL qs (tS r) (yS r w)) (by rw [<- com,uy];exact z)
 have e2:=aL0 (e:=apL qs (tS r) λi:Nat=>r ^ i) (by rw [<- com,ug];exact Kl.zero)
 by_cases g0:apL qs (tS r) (λi:Nat=>r ^ i) 0=0
 ·exfalso
  have kg:Kl qs r λi:Nat=>r ^ i:=funext λi=>by rw [e2,g0];grind
  have:=h.zero (h.low (M:=0) n1 kg (λi hi=>by
   rw [ug];have:=al4 (r:=r) i (λ_=>0) (λ_=>0) (-1);have z0:(λ_:Nat=>(0:Rat) + -1*0)=λ_=>0:=funext λ_=>by grind
   rw [z0] at this;have z1:mo r i (λ_=>0)=0:=by grind
   rw [z1];refine z0t (show ab 0<=0 by decide) ?_
   grind)) 0 n1
  rw [z0a] at this;exact absurd this (by decide)
 ·have gi:=q0d _ g0
  refine ⟨λi=>yS r w i + -(apL qs (tS r) (yS r w) 0*(apL qs (tS r) (λi:Nat=>r ^ i) 0)⁻¹)*r ^ i,?_,?_⟩
  ·unfold Kl
   rw [aq0 (az8 r) qs (yS r w) (λi:Nat=>r ^ i)];refine funext λi=>?_;rw [e1,e2];generalize (apL qs (tS r) (λi:Nat=>r ^ i) 0)⁻¹=x at gi ⊢
   grind
  ·rw [aZ2 r (yS r w) (λi:Nat=>r ^ i),uy,ug]
   exact funext λi=>by grind
theorem Cau.s2 (h:Cau qs n t r) {M:Rat} {w:Vc} (m0:0<=M) (z:Kl qs r w) (b:Bds r t n M w):Bds r t n (2*r*M) (sS w):=λi hi=>by
 have h1:=h.tt m0 z b (i+1) ⋯;have h2:=b i hi;rw [bB4];have h3:=ac5 (mo r (i+1) w) (-(r*mo r i w));rw [ac4,D5] at h3;have e2:ab r=r:=by unfold ab;rw [if_pos (q0p h.r0)]
 have h4:=mle h2 (q0p h.r0);have tp:0<t ^ i:=j0c h.t0;have h5:=mle (q0p h.tr) (q0t m0 (q0p tp));rw [q0r] at h1;rw [e2] at h3;have e:mo r (i+1) w-r*mo r i w=mo r (i+1) w + -(r*mo r i w):=by grind
 rw [e]
 grind
theorem Cau.at' (h:Cau qs n t r) (n1:0<n):∀ (i:Nat) {M:Rat} {w:Vc},0<=M->Kl qs r w->Bds r t n M w->ab (w i)<=(2*r) ^ i*M
 | 0,M,w,m0,z,b=>by
  have:=b 0 n1;rw [z0a] at this ⊢;have e:mo r 0 w=w 0:=rfl;rw [e] at this
  grind
 | i+1,M,w,m0,z,b=>by
  have r2:0<=2*r:=by have:=h.r0;grind
  have:=Cau.at' h n1 i (q0t r2 m0) z.s (h.s2 m0 z b);have e:sS w i=w (i+1):=rfl;rw [e] at this;rw [q0r]
  grind
theorem Cau.form (h:Cau qs n t r) (n1:0<n) (K:Mt):∃ κ,0<=κ/\∀ {M:Rat} {w:Vc},0<=M->Kl qs r w->Bds r t n M w->-(κ*(M*M))<=bl n K w w:=by
 have c0:∀ i:Nat,0<(2*r) ^ i:=λi=>j0c (by have:=h.r0;grind)
 have b0:∀ i,0<=c7 (λj=>ab (K i j)*(2*r) ^ j) n:=λi=>W4 n λj _=>q0t (E1 _) (q0p (c0 j));refine ⟨c7 (λi=>(2*r) ^ i*c7 (λj=>ab (K i j)*(2*r) ^ j) n) n,W4 n λi _=>q0t (q0p (c0 i)) (b0 i),fun {M w} m0 z b=>?_⟩;have hw:=λi=>h.at' n1 i m0 z b
 have h1:∀ i,ab (af n K w i)<=M*c7 (λj=>ab (K i j)*(2*r) ^ j) n:=λi=>by
  refine z0t (aF8 _ n) ?_;rw [m5];refine P2 n λj _=>?_;rw [D5];have:=mle (hw j) (E1 (K i j))
  grind
 have h2:ab (bl n K w w)<=c7 (λi=>M*M*((2*r) ^ i*c7 (λj=>ab (K i j)*(2*r) ^ j) n)) n:=by
  refine z0t (aF8 _ n) (P2 n λi _=>?_);rw [D5];have a1:=mle (h1 i) (E1 (w i));have a2:=mle (hw i) (q0t m0 (b0 i))
  grind
 rw [<- m5] at h2;have:=aJ3 (bl n K w w)
 grind
variable {P Q:Vc}
def Two (qs:List Rat) (r:Rat) (n:Nat) (P Q:Vc):Prop:=av8 P Q n/\∀ w,Kl qs r w->lf (n+1) P w+lf (n+1) Q w=0
theorem bi3 (N:Nat) (A:Mt) (v x:Vc):bl N A (nS v) x=- bl N A (sS v) x:=by
 unfold bl;rw [show -lf N (sS v) (af N A x)=-1*c7 (λi=>sS v i*af N A x i) N by show -lf N _ _=-1*lf N _ _;grind,m5]
 exact d6 λi _=>by show -v (i+1)*_=-1*(v (i+1)*_);grind
theorem Two.sy (h:Two qs r n P Q):Sy n (knS P Q):=λi _ j _=>aO1 h.1 i j
theorem Two.star (h:Two qs r n P Q) {u v:Vc} (z:Kl qs r u) (y:Kl qs r v):bl n (knS P Q) (sS u) v+bl n (knS P Q) u (sS v)=-2*(lf (n+1) P u*lf (n+1) P v):=by
 rw [bo6 h.1];have:=h.2 u z;have:=h.2 v y;have e1:lf (n+1) Q u=-lf (n+1) P u:=by grind
 have e2:lf (n+1) Q v=-lf (n+1) P v:=by grind
 rw [e1,e2];grind
theorem Two.step (h:Two qs r n P Q) {v:Vc} (z:Kl qs r v):bl n (knS P Q) (tS r v) (tS r v)=bl n (knS P Q) (uS r v) (uS r v)-4*r*(lf (n+1) P v*lf (n+1) P v):=by
 have s:=h.star z z;have y:=aP2 h.sy
 have e1:bl n (knS P Q) (tS r v) (tS r v)=bl n (knS P Q) (sS v) (sS v)+r*bl n (knS P Q) (sS v) v+r*(bl n (knS P Q) v (sS v)+r*bl n (knS P Q) v v):=by
  show bl n _ (λi=>sS v i+r*v i) (λi=>sS v i+r*v i)=_;rw [aF3,ad8,ad8]
 have e2:bl n (knS P Q) (uS r v) (uS r v)=bl n (knS P Q) (nS v) (nS v)+r*bl n (knS P Q) (nS v) v+r*(bl n (knS P Q) v (nS v)+r*bl n (knS P Q) v v):=by
  show bl n _ (λi=>nS v i+r*v i) (λi=>nS v i+r*v i)=_;rw [aF3,ad8,ad8]
 rw [y v (nS v),bi3,bi3,y (sS v) (nS v),bi3] at e2;rw [y v (sS v)] at e1 s
 grind
theorem Cau.psd (h:Cau qs n t r) (n1:0<n) (k:Two qs r n P Q) {w:Vc} (z:Kl qs r w):0<=bl n (knS P Q) w w:=by
 obtain ⟨κ,κ0,hκ⟩:=h.form n1 (knS P Q);have ri:=q0d r (k8 h.r0);have r0:=h.r0;have i0:=y0a.mpr r0;generalize r⁻¹=ri' at ri i0;have s0:0<t*ri':=q0s h.t0 i0
 have s1:t*ri'<1:=by
  have:=q0s (show 0<r-t by have:=h.tr;grind) i0
  grind
 have st:t=t*ri'*r:=by grind
 generalize t*ri'=s at s0 s1 st
 have key:∀ (m:Nat) {w:Vc} {M:Rat},Kl qs r w->0<=M->Bds r t n M w->-(κ*(M*M)*(s ^ m*s ^ m))<=bl n (knS P Q) w w:=λm=>by
  induction m with
  | zero=>exact fun {w M} z m0 b=>by rw [z0a];have:=hκ m0 z b;grind
  | succ m ih =>
   intro w M z m0 b;obtain ⟨v,zv,ev⟩:=h.inv n1 z;have b1:Bds r t n (M*ri') v:=h.low n1 zv (by rw [ev,show r*(M*ri')=M by grind];exact b)
   have m1:=q0t m0 (q0p i0);have b2:=ih zv.tt (q0t (q0p h.t0) m1) (h.step m1 zv b1);have e:=k.step zv;rw [ev] at e;have sq:=q0t (show 0<=4*r by grind) (rsq (lf (n+1) P v))
   have em:t*(M*ri')=s*M:=by rw [st];grind
   rw [em] at b2;rw [q0r]
   grind
 obtain ⟨M,_,m0,_,_,b⟩:=aP3 (r:=r) h.t0 n1 w;refine Classical.byContradiction λy=>?_;obtain ⟨m,hm⟩:=aW2 s0 s1 (q0t κ0 (rsq M)) (show 0 < -bl n (knS P Q) w w by grind)
 have h1:=key m z m0 b;have p:0<s ^ m:=j0c s0
 have p1:s ^ m<=1:=by
  have:∀ m:Nat,s ^ m<=1:=λm=>by
   induction m with
   | zero=>rw [z0a];exact v0f
   | succ m ih =>
    rw [q0r];have:=mle ih (q0p s0)
    grind
  exact this m
 have h2:=mle p1 (q0t (q0t κ0 (rsq M)) (q0p p))
 grind
theorem Cau.ker (h:Cau qs n t r) (n1:0<n) (k:Two qs r n P Q) {w v:Vc} (z:Kl qs r w) (zv:Kl qs r v) (e:bl n (knS P Q) w w=0):bl n (knS P Q) w v=0:=by
 have q0:=h.psd n1 k zv
 have key:∀ c:Rat,0<=2*c*bl n (knS P Q) w v+c*c*bl n (knS P Q) v v:=λc=>by
  have:=h.psd n1 k (z.lin zv c);rw [aF3,ad8,ad8,aP2 k.sy v w,e] at this
  grind
 generalize bl n (knS P Q) w v=x at key ⊢;generalize bl n (knS P Q) v v=q at key q0;have q1:0<q+1:=by grind
 have qi:=q0d _ (k8 q1);have h1:=key (-(x*(q+1)⁻¹));have h2:=q0t h1 (rsq (q+1));generalize (q+1)⁻¹=y at qi h1 h2
 have h3:(2 * -(x*y)*x + -(x*y) * -(x*y)*q)*((q+1)*(q+1))=-(x*x)*(q+2):=by
  have:(2 * -(x*y)*x + -(x*y) * -(x*y)*q)*((q+1)*(q+1))=-2*(x*x)*((q+1)*y)*(q+1)+x*x*((q+1)*y)*((q+1)*y)*q:=by grind
  rw [this,qi];grind
 rw [h3] at h2;refine Classical.byContradiction λnx=>?_;have:=q0s (ad2 nx) (show 0<q+2 by grind)
 grind
theorem Cau.null (h:Cau qs n t r) (n1:0<n) (k:Two qs r n P Q):∀ (i:Nat) {w:Vc},Kl qs r w->bl n (knS P Q) w w=0->lf (n+1) P (itF sS i w)=0:=by
 have one:∀ {w:Vc},Kl qs r w->bl n (knS P Q) w w=0->lf (n+1) P w=0/\bl n (knS P Q) (sS w) (sS w)=0:=fun {w} z e=>by
  have h1:=k.star z z;have a:=h.ker n1 k z z.s e;rw [aP2 k.sy (sS w) w,a] at h1
  have p0:lf (n+1) P w=0:=by
   refine Classical.byContradiction λne=>?_;have:=ad2 ne
   grind
  refine ⟨p0,?_⟩;have h2:=k.star z z.s;rw [h.ker n1 k z z.s.s e,p0] at h2
  grind
 intro i
 induction i with
 | zero=>exact fun {w} z e=>(one z e).1
 | succ i ih=>exact fun {w} z e=>ih z.s (one z e).2
theorem Cau.both (h:Cau qs n t r) (n1:0<n) {w:Vc} (z:Kl qs r w) (y:apL qs (uS r) w=λ_=>0):∀ i,i<n->w i=0:=by
 have r0:=h.r0;have ri:=q0d r (k8 r0);have i0:=y0a.mpr r0
 have up:∀ (k:Nat) {w:Vc},Kl qs r w->Kl qs r (itF (uS r) k w):=λk=>by
  induction k with
  | zero=>exact λz=>z
  | succ k ih=>exact λz=>ih z.u
 have dw:∀ (k:Nat) {w:Vc} {M:Rat},Kl qs r w->Bds r t n M (itF (uS r) k w)->Bds r t n (M*(r⁻¹) ^ k) w:=λk=>by
  induction k with
  | zero=>exact fun {w M} z b=>by rw [z0a,show M*1=M by grind];exact b
  | succ k ih =>
   intro w M z b;have:=ih z.u b;refine h.low n1 z ?_;rw [q0r,show r*(M*((r⁻¹) ^ k*r⁻¹))=M*(r⁻¹) ^ k by generalize r⁻¹=x at ri ⊢;grind]
   exact this
 have it2:∀ (a b:Nat) (w:Vc),itF (uS r) (a+b) w=itF (uS r) a (itF (uS r) b w):=λa b=>by
  induction b with
  | zero=>exact λw=>rfl
  | succ b ih=>exact λw=>ih (uS r w)
 obtain ⟨N,i,n0,hi,e,b⟩:=aP3 (r:=r) h.t0 n1 (itF (uS r) n w);have tp:0<t ^ i:=j0c h.t0
 have pp:∀ k:Nat,(r⁻¹) ^ k*r ^ k=1:=λk=>by
  induction k with
  | zero=>rw [z0a,z0a];grind
  | succ k ih=>rw [q0r,q0r];generalize r⁻¹=x at ri ih ⊢;grind
 have hk:∀ k,k<n->ab (mo r i (itF (uS r) k w))*r ^ n<=N*r ^ k*t ^ i:=λk hk=>by
  have h1:=dw (n-k) (up k z) (by rw [<- it2,show n-k+k=n by omega];exact b) i hi
  have h2:=mle h1 (q0p (j0c (n:=n) r0));have e1:r ^ n=r ^ (n-k)*r ^ k:=by rw [<- aa7 r,show n-k+k=n by omega]
  have:=pp (n-k);rw [e1] at h2 ⊢;generalize (r⁻¹) ^ (n-k)=x at h2 this;generalize r ^ (n-k)=q at h2 this ⊢;have:N*x*t ^ i*(q*r ^ k)=N*r ^ k*t ^ i*(x*q):=by grind
  rw [this,‹x*q=1›] at h2
  grind
 have rc:=h.rc (φ:=mo r i) (al4 i) y;rw [e] at rc;have rn:0<r ^ n:=j0c r0;have h1:=mle rc (q0p rn)
 have h2:c7 (λk=>ab (aQ qs k)*ab (mo r i (itF (uS r) k w))) n*r ^ n<=N*t ^ i*c7 (λk=>ab (aQ qs k)*r ^ k) n:=by
  rw [z1p,m5,m5];refine P2 n λk hkn=>?_;have:=mle (hk k hkn) (E1 (aQ qs k))
  grind
 have N0:N<=0:=by
  refine Classical.byContradiction λny=>?_;have:=q0s (q0s (show 0<N by grind) tp) (show 0<ab (aQ qs n)*r ^ n-c7 (λk=>ab (aQ qs k)*r ^ k) n by have:=h.b;grind)
  grind
 have hN:N=0:=by grind
 subst hN;have b0:=dw n z b;rw [show (0:Rat)*(r⁻¹) ^ n=0 by grind] at b0
 exact h.zero b0
def stK (d:Vc) (n:Nat) (u:Vc):Nat->Vc
 | 0=>u
 | m+1=>λi=>if i+1<n then stK d n u m (i+1) else -(c7 (λk=>d k*stK d n u m k) n*(d n)⁻¹)
theorem aA1 (d:Vc) (n:Nat) (u:Vc):∀ (k m:Nat),k<n->stK d n u m k=stK d n u (m+k) 0
 | 0,m,_=>rfl
 | k+1,m,h=>by
  have:=aA1 d n u k (m+1) ⋯;have e:stK d n u (m+1) k=stK d n u m (k+1):=if_pos h;rw [e] at this;rw [this,show m+1+k=m+(k+1) by omega]
theorem Cau.ext (h:Cau qs n t r) (n1:0<n) (dt:aQ (shn r qs) n ≠ 0) (u:Vc):∃ w,Kl qs r w/\∀ i,i<n->w i=u i:=by
 have ln:(shn r qs).length=n+1:=by rw [B7,h.len]
 have di:=q0d _ dt;refine ⟨λi=>stK (aQ (shn r qs)) n u i 0,funext λi=>?_,λi hi=>by have:=aA1 (aQ (shn r qs)) n u i 0 hi;rw [z1q] at this;exact this.symm⟩
 have e:=ap9 aM0 r qs λi=>stK (aQ (shn r qs)) n u i 0
 show apL qs (tS r) _ i=0;have e':apL qs (tS r) (λi=>stK (aQ (shn r qs)) n u i 0)=apL qs (λw i=>sS w i+r*w i) λi=>stK (aQ (shn r qs)) n u i 0:=rfl;rw [e',<- e,aK3 (φ:=λw=>w i) (λ_ _ _=>rfl),ln];have s1:c7 (λk=>aQ (shn r qs) k*itF sS k (λi=>stK (aQ (shn r qs)) n u i 0) i) n=c7 (λk=>aQ (shn r qs) k*stK (aQ (shn r qs)) n u i k) n:=d6 λk hk=>by rw [itS,<- aA1 _ n u k i hk]
 have s2:itF sS n (λi=>stK (aQ (shn r qs)) n u i 0) i=-(c7 (λk=>aQ (shn r qs) k*stK (aQ (shn r qs)) n u i k) n*(aQ (shn r qs) n)⁻¹):=by
  obtain ⟨m,rfl⟩:∃ m,n=m+1:=⟨n-1,⋯⟩;have a:=aA1 (aQ (shn r qs)) (m+1) u m (i+1) ⋯;rw [itS]
  show stK _ _ _ (i+(m+1)) 0=_;rw [show i+(m+1)=i+1+m by omega,<- a]
  exact if_neg ⋯
 show c7 _ n+aQ (shn r qs) n*itF sS n (λi=>stK (aQ (shn r qs)) n u i 0) i=0;rw [s1,s2];generalize (aQ (shn r qs) n)⁻¹=x at di ⊢
 grind
theorem Cau.dies (h:Cau qs n t r) (dt:aQ (shn r qs) n ≠ 0):Z7 (aQ (shn r qs)) n=true:=by
 rcases v0t n with rfl | n1
 ·rfl
 obtain ⟨d,hd⟩:∃ d,d=aQ (shn r qs):=⟨_,rfl⟩;have ln:(shn r qs).length=n+1:=by rw [B7,h.len]
 have pz:∀ i,i<=n->cP n (rwA d n) i+cR n (rwB d n) i=d i/\cP n (rwA d n) i-cR n (rwB d n) i=(if (n-i) % 2=0 then 1 else -1)*d i:=λi hi=>by
  unfold cP cR rwA rwB
  by_cases z:(n-i) % 2=0
  ·rw [if_pos ⟨hi,z⟩,if_pos ⋯,if_neg ⋯,if_pos z,show n-2*((n-i) / 2)=i by omega];grind
  ·rw [if_neg ⋯,if_pos ⋯,if_pos ⋯,if_neg z,show n-1-2*((n-1-i) / 2)=i by omega];grind
 have two:Two qs r n (cP n (rwA d n)) (cR n (rwB d n)):=⟨aP0 _ _ _,λw z=>by
  unfold lf;rw [w4];have e:=ap9 aM0 r qs w;have e':apL qs (tS r) w=apL qs (λw i=>sS w i+r*w i) w:=rfl;rw [<- e',z] at e;have f:=aK3 (φ:=λw=>w 0) (λ_ _ _=>rfl) sS (shn r qs) w;rw [e,ln] at f
  show _=(λw:Vc=>w 0) (λ_=>0);rw [f,<- hd];refine d6 λi hi=>?_;rw [itS,z1q,<- (pz i ⋯).1];grind⟩
 refine Classical.byContradiction λnd=>?_
 have nd':Q5 n (rwA d n) (rwB d n)=false:=by
  rw [hd];exact u0r.mpr nd
 obtain ⟨u,⟨i,hi,ui⟩,hu⟩:=aR9 (by unfold rwA;rw [if_pos ⋯,hd];exact dt) (P4 d n) (P3 d n) nd'
 obtain ⟨w,zw,ew⟩:=h.ext n1 dt u;rw [<- bi2 ew ew] at hu
 have e0:bl n (knS (cP n (rwA d n)) (cR n (rwB d n))) w w=0:=by
  have:=h.psd n1 two zw
  grind
 refine ui ?_;rw [<- ew i hi];refine h.both n1 zw (funext λj=>?_) i hi;have e:=ap9 bv8 r qs w;have e':apL qs (uS r) w=apL qs (λw i=>nS w i+r*w i) w:=rfl;rw [e',<- e,aK3 (φ:=λw=>w j) (λ_ _ _=>rfl),ln,<- hd];have p0:=h.null n1 two j zw e0
 have zj:∀ (k:Nat) {w:Vc},Kl qs r w->Kl qs r (itF sS k w):=λk=>by
  induction k with
  | zero=>exact λz=>z
  | succ k ih=>exact λz=>ih z.s
 have q0:=two.2 _ (zj j zw);rw [p0] at q0
 have s:c7 (λk=>d k*itF nS k w j) (n+1)=(if n % 2=0 then 1 else -1)*(lf (n+1) (cP n (rwA d n)) (itF sS j w) + -1*lf (n+1) (cR n (rwB d n)) (itF sS j w)):=by
  unfold lf;rw [m5,w4,m5];refine d6 λk hk=>?_;rw [itN,itS,show k+j=j+k by omega]
  have:=(pz k ⋯).2
  by_cases z:n % 2=0
  ·rw [if_pos z]
   by_cases y:k % 2=0
   ·rw [if_pos ⋯] at this
    rw [if_pos y];grind
   ·rw [if_neg ⋯] at this
    rw [if_neg y];grind
  ·rw [if_neg z]
   by_cases y:k % 2=0
   ·rw [if_neg ⋯] at this
    rw [if_pos y];grind
   ·rw [if_pos ⋯] at this
    rw [if_neg y];grind
 show c7 (λk=>d k*itF nS k w j) (n+1)=0;rw [s,p0];have:lf (n+1) (cR n (rwB d n)) (itF sS j w)=0:=by grind
 rw [this];grind
end
def Fn (p:Pf):Prop:=∃ n,Dg p.f n
def eP:List (Pf × Nat)->Nat->Pf
 | [],_=>1
 | x :: r,j=>if x.2=j then x.1*eP r j else eP r j
structure CC (G P Q:List Int) (K c L g bG:Nat):Prop where
 lG:G.length=g+1
 tG:Z9 G G.length
 gG:x9 G=1
 bG:∀ k,(aZ G k).natAbs<2 ^ bG
 tP:Z9 P P.length
 tQ:Z9 Q Q.length
 lp:P.length<=L
 lq:Q.length<P.length
 kP:∀ k,(aZ P k).natAbs<=K
 kQ:∀ k,(aZ Q k).natAbs<=K
 k1:1<=K
 hc:4*L*K<=2 ^ c
 l9:L<=16
def wG (c L g bG la:Nat):Nat:=wL c L (la-g)+bG+5
structure CS (G P Q:List Int) (c L g bG:Nat) (A B:List Int):Prop where
 tA:Z9 A A.length
 tB:Z9 B B.length
 lt:B.length<A.length
 ex:∃ A' B' fa ha fb hb:Pf,Fn A'/\Fn B'/\Fn fa/\Fn ha/\Fn fb/\Fn hb/\zp A=A'*zp G/\zp B=B'*zp G/\Ev (zp P) (zp Q) A' B' fa ha fb hb P.length Q.length (A.length-g) (B.length-g)
 bA:∀ k,(aZ A k).natAbs<2 ^ wG c L g bG A.length
 bB:∀ k,(aZ B k).natAbs<2 ^ wG c L g bG A.length
structure Spl (R Z:List Int) (e a s:Pf) (ne na We Wa Ws:Nat) (G P Q:List Int) (m:Rat):Prop where
 tG:Z9 G G.length
 lG:G.length=ne+1
 gG:x9 G=1
 ld:0<aZ G ne
 bG:∀ k,(aZ G k).natAbs<2 ^ We
 eG:∃ u:Rat,0<u/\zp G=y6 u*e
 eR:zp R=zp P*zp G
 eZ:zp Z=zp Q*zp G
 eP:zp P=y6 m*a
 eQ:zp Q=y6 m*s
 gP:x9 P=1
 m0:m ≠ 0
 tP:Z9 P P.length
 tQ:Z9 Q Q.length
 lP:P.length=na+1
 lQ:Q.length<=na
 bP:∀ k,(aZ P k).natAbs<2 ^ Wa
 bQ:∀ k,(aZ Q k).natAbs<2 ^ Ws
def pX:Pf:=qp [0,1]
inductive Fct:List Rat->Prop where
 | lin (r:Rat):Fct [-r,1]
 | quad (u v:Rat) (hv:0<v):Fct [u*u+v,-2*u,1]
structure FOk1 (x:List Rat × Nat):Prop where
 fc:Fct x.1
 m1:1<=x.2
 m4:x.2<=4
 ov:∃ e,e+x.1.length<=12*(x.1.length-1)/\∀ q ∈ x.1,OvB (60 ^ (x.1.length-1)) e q
def nA:List (List Rat × Nat)->Nat->Nat
 | [],_=>0
 | x :: r,j=>(if j<=x.2 then x.1.length-1 else 0)+nA r j
structure Mon (p:Pf) (n:Nat):Prop where
 dg:Dg p.f (n+1)
 ld:p.f n=1
 ov:OvP (60 ^ n) (12*n+1) p
structure Lm (p:Pf) (n:Nat):Prop where
 dg:Dg p.f (n+1)
 ld:p.f n ≠ 0
theorem bu8 (p:Pf) (j:Nat):(pX*p).f j=if j=0 then 0 else p.f (j-1):=by
 unfold pX;rw [af1];unfold at'
 by_cases h:j=0
 ·rw [if_neg ⋯,if_pos h];grind
 ·rw [if_pos ⋯,if_neg h];grind
theorem N2 {l:List Rat} {k:Nat} (h:l.length<=k):aQ l k=0:=by unfold aQ;rw [q0z h];rfl
theorem am6 (c a:Rat) (r:List Rat) (k:Nat):aQ (sad c a r) k=(if k=0 then a else aQ r (k-1))+c*aQ r k:=by
 by_cases h:k<=r.length
 ·have:=aB3 c r a k h
  show ((sad c a r)[k]?).getD 0=_;rw [this];rfl
 ·rw [N2 (by rw [ad0];omega),if_neg ⋯,N2 ⋯,N2 ⋯];grind
theorem bt5 (c a:Rat) (r:List Rat):qp (sad c a r)=y6 a+(pX+y6 c)*qp r:=Pf.ext λk=>by
 have e:y6 a+(pX+y6 c)*qp r=y6 a+(pX*qp r+y6 c*qp r):=by grind
 rw [e,aM8,aM8,bu8,bA7]
 show aQ (sad c a r) k=(if k=0 then a else 0)+((if k=0 then 0 else aQ r (k-1))+c*aQ r k);rw [am6]
 by_cases z:k=0
 ·rw [if_pos z,if_pos z,if_pos z];grind
 ·rw [if_neg z,if_neg z,if_neg z];grind
def pwP (Y:Pf):Nat->Pf
 | 0=>1
 | n+1=>pwP Y n*Y
def EV (Y:Pf) (f:Nat->Rat):Nat->Pf
 | 0=>0
 | n+1=>EV Y f n+y6 (f n)*pwP Y n
theorem bu7 (a x y:Rat):y6 (a*x+y)=y6 a*y6 x+y6 y:=Pf.ext λk=>by
 rw [aM8,bA7]
 show (if k=0 then a*x+y else 0)=a*(if k=0 then x else 0)+(if k=0 then y else 0)
 split <;> grind
theorem ap4:y6 0=0:=Pf.ext λk=>by rw [aR2];show (if k=0 then (0:Rat) else 0)=0;split <;> rfl
theorem bu6:y6 1=1:=rfl
theorem aO4 (Y:Pf) (a:Rat) (f g:Nat->Rat):∀ n,EV Y (λk=>a*f k+g k) n=y6 a*EV Y f n+EV Y g n
 | 0=>by show (0:Pf)=y6 a*0+0;grind
 | n+1=>by
  show EV Y _ n+y6 (a*f n+g n)*pwP Y n=y6 a*(EV Y f n+y6 (f n)*pwP Y n)+(EV Y g n+y6 (g n)*pwP Y n);rw [aO4 Y a f g n,bu7];grind
theorem bg2 (Y:Pf) (f:Nat->Rat):∀ n,EV Y (sh f) (n+1)=Y*EV Y f n
 | 0=>by show (0:Pf)+y6 0*1=Y*0;rw [ap4];grind
 | n+1=>by
  show EV Y (sh f) (n+1)+y6 (f n)*(pwP Y n*Y)=Y*(EV Y f n+y6 (f n)*pwP Y n);rw [bg2 Y f n];grind
theorem ap5 (Y:Pf) {f:Nat->Rat} {m:Nat} (h:∀ k,m<=k->f k=0):∀ d,EV Y f (m+d)=EV Y f m
 | 0=>rfl
 | d+1=>by
  show EV Y f (m+d)+y6 (f (m+d))*_=_;rw [ap5 Y h d,h _ ⋯,ap4];grind
theorem aT0 (Y:Pf) (a:Rat) (g:Nat->Rat) (n:Nat):EV Y (λk=>(if k=0 then a else 0)+sh g k) (n+1)=y6 a+Y*EV Y g n:=by
 have e:(λk=>(if k=0 then a else 0)+sh g k)=λk=>a*(if k=0 then 1 else 0)+sh g k:=funext λk=>by split <;> grind
 rw [e,aO4,bg2]
 have one:∀ n,EV Y (λk=>if k=0 then (1:Rat) else 0) (n+1)=1:=λn=>by
  induction n with
  | zero=>show (0:Pf)+y6 1*1=1;rw [bu6];grind
  | succ n ih =>
   show EV Y _ (n+1)+y6 0*_=1;rw [ih,ap4];grind
 rw [one];grind
theorem aG0 (a:Rat) (l:List Rat):aQ (a :: l)=λk=>(if k=0 then a else 0)+sh (aQ l) k:=funext λk=>by
 cases k with
 | zero=>show a=a+0;grind
 | succ k=>show aQ l k=0+aQ l k;grind
theorem aB8 (h:Rat):∀ l:List Rat,qp (shn h l)=EV (pX+y6 h) (aQ l) l.length
 | []=>bt6
 | a :: l=>by
  show qp (sad h a (shn h l))=_;rw [bt5,aB8 h l,aG0,q0x,aT0]
theorem bg3 (Y:Pf) {g:Pf} {m:Nat} (hg:∀ k,m<=k->g.f k=0):∀ l:List Rat,EV Y (qp l*g).f (l.length+m)=EV Y (aQ l) l.length*EV Y g.f m
 | []=>by
  have e:(qp []*g).f=λ_=>0:=funext λk=>aQ9 g k;rw [e]
  have z:∀ n,EV Y (λ_=>(0:Rat)) n=0:=λn=>by
   induction n with
   | zero=>rfl
   | succ n ih=>show EV Y _ n+y6 0*_=0;rw [ih,ap4];grind
  rw [z]
  show (0:Pf)=0*_
  grind
 | a :: l=>by
  have e:(qp (a :: l)*g).f=λk=>a*g.f k+sh (qp l*g).f k:=funext λk=>by
   rw [ad3]
   cases k with
   | zero=>rfl
   | succ k=>rfl
  rw [e,aO4,q0x,aG0,aT0,show l.length+1+m=(l.length+m)+1 by omega,bg2,bg3 Y hg l,show l.length+m+1=m+(l.length+1) by omega,ap5 Y hg]
  grind
theorem ar1 (h:Rat) (p f:List Rat):qp (shn h (w8 p f))=qp (shn h p)*qp (shn h f):=by
 have e:=bg3 (pX+y6 h) (g:=qp f) (m:=f.length) (bA4 f) p;have e2:(qp p*qp f).f=aQ (w8 p f):=by rw [<- bc1];rfl
 rw [e2] at e;rw [aB8,aB8,aB8];have e3:(qp f).f=aQ f:=rfl;rw [e3] at e;rw [<- e]
 by_cases z:p=[] \/ f=[]
 ·have m0:w8 p f=[]:=by unfold w8;rw [if_pos z]
  rw [m0];have:=ap5 (pX+y6 h) (f:=aQ []) (m:=0) (λk _=>N2 (by simp)) (p.length+f.length)
  rw [z1q] at this;rw [this];rfl
 ·have l:=U7 (p:=p) (q:=f) (λy=>z (.inl y)) λy=>z (.inr y)
  have l1:=y0m.mpr λy=>z (.inl y);have:=ap5 (pX+y6 h) (f:=aQ (w8 p f)) (m:=(w8 p f).length) (λk hk=>N2 hk) 1;rw [<- this]
  congr 1
  omega
theorem aK0:∀ {n:Nat} {A B A' B':Nat->Rat} {c d g:Rat},0<c->0<d->0<g->(∀ j:Nat,A' j=c*g ^ j*A j)->(∀ j:Nat,B' j=d*g ^ j*B j)->Q5 n A' B'=Q5 n A B
 | 0,_,_,_,_,_,_,_,_,_,_,_,_=>rfl
 | n+1,A,B,A',B',c,d,g,hc,hd,hg,eA,eB=>by
  unfold Q5;have a0:A' 0=c*A 0:=by rw [eA,z0a];grind
  have b0':B' 0=d*B 0:=by rw [eB,z0a];grind
  have cd:=q0s hc hd
  have e1:decide (0<A' 0*B' 0)=decide (0<A 0*B 0):=by
   rw [decide_eq_decide,a0,b0']
   constructor
   ·intro h
    refine Classical.byContradiction λz=>?_;have:=q0t (q0p cd) (show 0<=-(A 0*B 0) by grind)
    grind
   ·intro h
    have:=q0s cd h
    grind
  by_cases hb:0<A 0*B 0
  ·have b0:B 0 ≠ 0:=λz=>by rw [z] at hb;grind
   rw [e1,aK0 (A:=B) (B:=λj=>A (j+1)-A 0 / B 0*B (j+1)) (c:=d) (d:=c*g) (g:=g) hd (q0s hc hg) hg eB λj=>?_];have bi:=q0d _ b0;have di:=q0d _ (k8 hd)
   have q:A' 0 / B' 0=c*d⁻¹*(A 0 / B 0):=by
    have nn:d*B 0 ≠ 0:=λz=>by rcases z0n.mp z with y | y;exact k8 hd y;exact b0 y
    have ti:=q0d _ nn;rw [a0,b0',q0u,q0u];generalize (d*B 0)⁻¹=t at ti ⊢;generalize d⁻¹=y at di ⊢;generalize (B 0)⁻¹=x at bi ⊢;have:t=t*(d*y)*(B 0*x):=by rw [di,bi];grind
    have:t=y*x:=by grind
    rw [this];grind
   show A' (j+1)-A' 0 / B' 0*B' (j+1)=c*g*g ^ j*(A (j+1)-A 0 / B 0*B (j+1));rw [q,eA,eB,q0r];generalize d⁻¹=y at di ⊢;generalize A 0 / B 0=x;have:c*y*x*(d*(g ^ j*g)*B (j+1))=c*(d*y)*x*(g ^ j*g)*B (j+1):=by grind
   rw [this,di];grind
  ·rw [e1,decide_eq_false hb];rfl
theorem ac8 (c:Rat):∀ (l:List Rat) (n:Nat),l.length=n+1->aQ (shn c l) n=aQ l n
 | [],_,h=>by cases h
 | a :: m,n,h=>by
  have lm:m.length=n:=by simpa using h
  show aQ (sad c a (shn c m)) n=_;rw [am6,aG0]
  cases n with
  | zero=>rw [if_pos rfl,N2 (by rw [B7];omega)];show a+c*0=(if 0=0 then a else 0)+0;rw [if_pos rfl];grind
  | succ k =>
   rw [if_neg ⋯,N2 (k:=k+1) (by rw [B7];omega),q0w,ac8 c m k lm]
   show _=(if k+1=0 then a else 0)+aQ m k;rw [if_neg ⋯];grind
theorem aQ5 (c:Rat):∀ (l:List Rat) (n:Nat),l.length=n+2->aQ (shn c l) n=aQ l n+((n+1:Nat):Rat)*c*aQ l (n+1)
 | [],_,h=>by cases h
 | a :: m,n,h=>by
  have lm:m.length=n+1:=by simpa using h
  have e1:aQ (a :: m) (n+1)=aQ m n:=rfl
  show aQ (sad c a (shn c m)) n=_;rw [am6,e1,ac8 c m n lm]
  cases n with
  | zero =>
   rw [if_pos rfl]
   show a+c*aQ m 0=a+((1:Nat):Rat)*c*aQ m 0;have:((1:Nat):Rat)=1:=rfl;rw [this];grind
  | succ k =>
   rw [if_neg ⋯,q0w,aQ5 c m k lm]
   show aQ m k+_+_=aQ m k+_;rw [show (((k+1+1:Nat):Nat):Rat)=((k+1:Nat):Rat)+1 from g0v _ _];grind
theorem aH5 (x y:Rat):∀ n:Nat,(x*y) ^ n=x ^ n*y ^ n
 | 0=>by rw [z0a,z0a,z0a];grind
 | n+1=>by rw [q0r,q0r,q0r,aH5 x y n];grind
theorem aE1 (x y:Rat):∀ n,(x-y)*c7 (λk=>y ^ (n-k)*x ^ k) n=y*(x ^ n-y ^ n)
 | 0=>by show (x-y)*0=_;rw [z0a,z0a];grind
 | n+1=>by
  have ih:=aE1 x y n
  have e:c7 (λk=>y ^ (n+1-k)*x ^ k) n=y*c7 (λk=>y ^ (n-k)*x ^ k) n:=by
   rw [m5];exact d6 λk hk=>by rw [show n+1-k=n-k+1 by omega,q0r];grind
  show (x-y)*(c7 (λk=>y ^ (n+1-k)*x ^ k) n+y ^ (n+1-n)*x ^ n)=_;rw [e,show n+1-n=1 by omega,show y ^ 1=y by rw [show (1:Nat)=0+1 from rfl,q0r,z0a];grind,q0r,q0r]
  generalize c7 (λk=>y ^ (n-k)*x ^ k) n=s at ih ⊢
  grind
structure aG3 (qs:List Rat) (n:Nat) (R:Rat):Prop where
 len:qs.length=n+1
 n8:n<=8
 top:aQ qs n ≠ 0
 r0:0<R
 le:∀ k,1<=k->k<=n->ab (aQ qs (n-k))<=R ^ k*ab (aQ qs n)
section
variable {qs:List Rat} {n:Nat} {R:Rat}
theorem aG3.sum (h:aG3 qs n R) {x:Rat} (x0:0<x):c7 (λk=>ab (aQ qs k)*x ^ k) n<=ab (aQ qs n)*c7 (λk=>R ^ (n-k)*x ^ k) n:=by
 rw [m5];refine P2 n λk hk=>?_;have:=mle (h.le (n-k) ⋯ ⋯) (q0p (j0c (n:=k) x0));rw [show n-(n-k)=k by omega] at this
 grind
theorem q8:∀ n,n<=8->2*(1024 / 513:Rat) ^ n<=513:=by
 intro n h;have:∀ n:Fin 9,2*(1024 / 513:Rat) ^ (n:Nat)<=513:=by decide +kernel
 exact this ⟨n,⋯⟩
theorem aG3.cau (h:aG3 qs n R):Cau qs n (1024 / 513*R) (2*R):=by
 have r0:=h.r0;have t0:=bi8 h.top;have p:0<R ^ n:=j0c r0;refine ⟨h.len,h.top,by grind,by grind,?_,?_⟩
 ·refine z0t (h.sum (show 0<1024 / 513*R by grind)) ?_
  have g:=aE1 (1024 / 513*R) R n;have q:=mle (q8 n h.n8) (q0p p);rw [aH5] at g ⊢;generalize c7 (λk=>R ^ (n-k)*(1024 / 513*R) ^ k) n=s at g ⊢;generalize (1024 / 513:Rat) ^ n=y at g q ⊢;generalize R ^ n=z at g q p ⊢;have e:511*s=513*(y*z-z):=G6 (b:=R) (k8 r0) (by grind)
  have:s<=y*z:=by grind
  have:=mle this (q0p t0)
  grind
 ·have hs:=h.sum (show 0<2*R by grind)
  have g:=aE1 (2*R) R n;generalize c7 (λk=>R ^ (n-k)*(2*R) ^ k) n=s at g hs;generalize (2*R) ^ n=y at g ⊢;generalize R ^ n=z at g p;generalize c7 (λk=>ab (aQ qs k)*(2*R) ^ k) n=S at hs ⊢;have e:s=y-z:=G6 (b:=R) (k8 r0) (by grind)
  rw [e] at hs;have:=q0s t0 p
  grind
def V6 (qs:List Rat):Bool:=if qs=[] then false else Z7 (aQ qs) (qs.length-1)
theorem V5 (h:qs.length=n+1) (c:Rat):V6 (shn c qs)=Z7 (aQ (shn c qs)) n:=by
 have l:=B7 c qs;unfold V6;rw [if_neg (λz=>by rw [z] at l;simp at l;omega),l,h,q0w]
theorem aG3.up (h:aG3 qs n R):V6 (shn (2*R) qs)=true:=by
 rw [V5 h.len];exact h.cau.dies (by rw [ac8 _ _ _ h.len];exact h.top)
theorem aG3.down (h:aG3 qs n R) (n1:1<=n):V6 (shn (-(2*R)) qs)=false:=by
 rw [V5 h.len];have r0:=h.r0;obtain ⟨m,rfl⟩:∃ m,n=m+1:=⟨n-1,⋯⟩;have e1:=ac8 (-(2*R)) qs (m+1) h.len;have e2:=aQ5 (-(2*R)) qs m h.len;have le:=h.le 1 ⋯ ⋯;rw [q0w,show R ^ 1=R by rw [show (1:Nat)=0+1 from rfl,q0r,z0a];grind] at le
 have m0:(1:Rat)<=((m+1:Nat):Rat):=by
  rw [g0v];have:(0:Rat)<=(m:Rat):=u0k;have e:((1:Nat):Rat)=1:=rfl;rw [e];grind
 have la:=aJ3 (aQ qs m);refine u0r.mpr λd=>?_
 by_cases ps:0<aQ qs (m+1)
 ·have:=at4 (by rw [e1];exact ps) d m ⋯
  rw [e2] at this;have ea:ab (aQ qs (m+1))=aQ qs (m+1):=if_pos (q0p ps);rw [ea] at le;have q:=mle m0 (q0p (q0s r0 ps))
  grind
 ·have ng:0 < -(aQ qs (m+1)):=by have:=h.top;grind
  rw [<- Z6 (c:=-1) (by decide) (p':=λk=>-1*aQ (shn (-(2*R)) qs) k) (λ_=>rfl)] at d
  have:=at4 (by show 0 < -1*aQ (shn (-(2*R)) qs) (m+1);rw [e1];grind) d m ⋯
  have this:0 < -1*aQ (shn (-(2*R)) qs) m:=this;rw [e2] at this;have ea:ab (aQ qs (m+1))=-aQ qs (m+1):=by rw [<- ac4];exact if_pos (q0p ng)
  rw [ea] at le;have q:=mle m0 (q0p (q0s r0 ng))
  grind
end
theorem bo5 {b k:Int} (hk:0<k):b<=-((-b).fdiv k)*k/\∀ m,b<=m*k->-((-b).fdiv k)<=m:=by
 have h1:=q1v (-b) k;have h2:=y0n (-b) hk;have h3:=y0y (-b) hk;generalize (-b).fdiv k=d at *;generalize (-b).fmod k=r at *;refine ⟨by rw [Int.neg_mul,v0n];omega,λm hm=>?_⟩
 refine Classical.byContradiction λz=>?_;have z':m+1<=-d:=⋯;have:=g0w z' (u0j hk);rw [Int.add_mul,Int.one_mul,Int.neg_mul,v0n d k] at this;omega
theorem aU2 {T:List Int} {n k:Nat} {i:Int} (hT:T.length=n+1) (hk:k<=n) (hi:i=-1-(k:Int)):atI (T.map V.int) i=some (.int (aZ T (n-k))):=by
 unfold atI ixN;rw [z0g,hT,if_neg ⋯,if_pos ⋯]
 show (T.map V.int)[_]? = _;rw [z0k,show (i+(((n+1:Nat):Int))).toNat=n-k by omega]
 unfold aZ;rw [q0c ⋯];rfl
theorem br1 (w:Int):w.natAbs<2 ^ Builtin.Int.intBits w:=by
 unfold Builtin.Int.intBits
 by_cases z:w=0
 ·rw [z];decide
 ·rw [if_neg (by simpa using z)];exact Nat.lt_log2_self
theorem bC0 {w:Int} (h:w ≠ 0):1<=Builtin.Int.intBits w/\2 ^ (Builtin.Int.intBits w-1)<=w.natAbs:=by
 unfold Builtin.Int.intBits;rw [if_neg (by simpa using h)]
 exact ⟨⋯,by rw [q0w];exact Nat.log2_self_le ⋯⟩
theorem bB9 {w l:Int} (l0:l ≠ 0) {h k:Nat} (hb:(Builtin.Int.intBits w:Int)-(Builtin.Int.intBits l:Int)+1<=(h:Int)*(k:Int)):w.natAbs<=2 ^ (h*k)*l.natAbs:=by
 obtain ⟨l1,l2⟩:=bC0 l0;have w1:=br1 w;have:(Builtin.Int.intBits w:Int)<=((h*k:Nat):Int)+((Builtin.Int.intBits l-1:Nat):Int):=by rw [z0x];omega
 have e:Builtin.Int.intBits w<=h*k+(Builtin.Int.intBits l-1):=⋯;have p:=c6 e;rw [z0u] at p;have:=j0j (2 ^ (h*k)) l2;omega
theorem bB8 {w l:Int} {s k:Nat} (l0:l ≠ 0) (hw:w.natAbs<=2 ^ (s*k)*l.natAbs) (hk:1<=k):(Builtin.Int.intBits w:Int)-(Builtin.Int.intBits l:Int)+1<=((s+1:Nat):Int)*(k:Int):=by
 have l1:=br1 l
 have h1:w.natAbs<2 ^ (s*k+Builtin.Int.intBits l):=by
  rw [z0u];have b:=Nat.mul_lt_mul_of_le_of_lt (q0j (2 ^ (s*k))) l1 (j0f _);omega
 have:=F7 h1;rw [<- z0x,Nat.add_mul];omega
def cL (T:List Int) (n k:Nat):Int:=-((-((Builtin.Int.intBits (aZ T (n-(k+1))):Int)-(Builtin.Int.intBits (aZ T n):Int)+1)).fdiv (1+(k:Int)))
def hL (T:List Int) (n:Nat):Nat->Int
 | 0=>0
 | k+1=>if cL T n k > hL T n k then cL T n k else hL T n k
def lnQ (qs:List Rat) (hair:Rat):Nat->Rat->Rat->Rat × Rat
 | 0,lo,hi=>(lo,hi)
 | m+1,lo,hi=>if hair<hi-lo then (if V6 (shn ((lo+hi)*(1 / 2)) qs)=true then lnQ qs hair m lo ((lo+hi)*(1 / 2)) else lnQ qs hair m ((lo+hi)*(1 / 2)) hi) else (lo,hi)
theorem be1 {qs:List Rat} {hair lo hi:Rat} (h:¬ hair<hi-lo):∀ m,lnQ qs hair m lo hi=(lo,hi)
 | 0=>rfl
 | m+1=>by unfold lnQ;rw [if_neg h]
structure Hv (qs:List Rat) (hair:Rat) (e h m:Nat) (lo hi:Rat):Prop where
 up:V6 (shn hi qs)=true
 dn:V6 (shn lo qs)=false
 lo':∃ z:Int,lo=q0e z (2 ^ e:Nat)
 w:hi-lo=q0e (2 ^ m:Nat) (2 ^ e:Nat)
 b1:-(2*2 ^ h)<=lo
 b2:hi<=2*2 ^ h
theorem ab3 (e:Nat):(0:Int)<((2 ^ e:Nat):Int):=by have:=j0f e;omega
theorem bg9 (a b:Int) (e:Nat):q0e a (2 ^ e:Nat)+q0e b (2 ^ e:Nat)=q0e (a+b) (2 ^ e:Nat):=by
 rw [g0d _ _ (by have:=ab3 e;omega) (by have:=ab3 e;omega),<- Int.add_mul]
 exact q1z (by have:=ab3 e;omega)
theorem bn7 (a:Int) (e:Nat):q0e (2*a) (2 ^ e:Nat)*(1 / 2)=q0e a (2 ^ e:Nat):=by
 rw [q0y,q0y,q0u,q0u,z0e];have:((2:Int):Rat)=2:=rfl;rw [this];grind
theorem bg8 {m e:Nat}:0<q0e (2 ^ m:Nat) (2 ^ e:Nat):=by
 have a:(0:Rat)<(((2 ^ m:Nat):Int):Rat):=j0r.mpr (ab3 m);have b:(0:Rat)<(((2 ^ e:Nat):Int):Rat):=j0r.mpr (ab3 e);rw [q0y,q0u];exact q0s a (y0a.mpr b)
section
variable {qs:List Rat} {hair lo hi:Rat} {e h m:Nat}
theorem Hv.hi' (H:Hv qs hair e h m lo hi):∃ z:Int,hi=q0e z (2 ^ e:Nat):=by
 obtain ⟨z,hz⟩:=H.lo';refine ⟨z+(2 ^ m:Nat),?_⟩;rw [<- bg9,<- hz,<- H.w];grind
theorem Hv.lt (H:Hv qs hair e h m lo hi):lo<hi:=by have:=bg8 (m:=m) (e:=e);rw [<- H.w] at this;grind
theorem Hv.last (H:Hv qs hair e h 0 lo hi) (hh:q0e 1 (2 ^ e:Nat)<=hair):¬ hair<hi-lo:=by
 rw [H.w];have:((2 ^ 0:Nat):Int)=1:=rfl;rw [this];grind
theorem Hv.mid (H:Hv qs hair e h (m+1) lo hi):((lo+hi)*(1 / 2))-lo=q0e (2 ^ m:Nat) (2 ^ e:Nat)/\hi-((lo+hi)*(1 / 2))=q0e (2 ^ m:Nat) (2 ^ e:Nat)/\(∃ z:Int,(lo+hi)*(1 / 2)=q0e z (2 ^ e:Nat)):=by
 have d:=bn7 (2 ^ m:Nat) e;have w:=H.w;have ee:(((2 ^ (m+1):Nat):Nat):Int)=2*((2 ^ m:Nat):Int):=by rw [j0w];omega
 rw [ee] at w;rw [<- w] at d;obtain ⟨z,hz⟩:=H.lo';refine ⟨by rw [<- d];grind,by rw [<- d];grind,z+(2 ^ m:Nat),?_⟩
 rw [<- bg9,<- hz,<- d];grind
theorem Hv.left (H:Hv qs hair e h (m+1) lo hi) (d:V6 (shn ((lo+hi)*(1 / 2)) qs)=true):Hv qs hair e h m lo ((lo+hi)*(1 / 2)):=by
 obtain ⟨a,b,c⟩:=H.mid;have:=H.lt;have:=H.b2;exact ⟨d,H.dn,H.lo',a,H.b1,by grind⟩
theorem Hv.right (H:Hv qs hair e h (m+1) lo hi) (d:V6 (shn ((lo+hi)*(1 / 2)) qs)=false):Hv qs hair e h m ((lo+hi)*(1 / 2)) hi:=by
 obtain ⟨a,b,c⟩:=H.mid;have:=H.lt;have:=H.b1;exact ⟨H.up,d,c,b,by grind,H.b2⟩
theorem be2 (w:hair<hi-lo) (d:V6 (shn ((lo+hi)*(1 / 2)) qs)=true) (k:Nat):lnQ qs hair (k+1) lo hi=lnQ qs hair k lo ((lo+hi)*(1 / 2)):=by
 show (if hair<hi-lo then _ else _)=_;rw [if_pos w,if_pos d]
theorem aX4 (w:hair<hi-lo) (d:V6 (shn ((lo+hi)*(1 / 2)) qs)=false) (k:Nat):lnQ qs hair (k+1) lo hi=lnQ qs hair k ((lo+hi)*(1 / 2)) hi:=by
 show (if hair<hi-lo then _ else _)=_;rw [if_pos w,if_neg (by rw [d];decide)]
end
theorem br4 {x:Rat} {z:Int} {e h:Nat} (hx:x=q0e z (2 ^ e:Nat)) (h1:-(2*2 ^ h)<=x) (h2:x<=2*2 ^ h):z.natAbs<=2 ^ (h+1+e):=by
 have p:(0:Rat)<(((2 ^ e:Nat):Int):Rat):=j0r.mpr (ab3 e)
 have ez:(z:Rat)=x*(((2 ^ e:Nat):Int):Rat):=by
  rw [hx,q0y,q0u,j0m,y0z _ (k8 p)];grind
 have e2:(((2 ^ (h+1+e):Nat):Int):Rat)=2*2 ^ h*(((2 ^ e:Nat):Int):Rat):=by
  rw [z0u,j0w,z0x,z0e,z0x,z0e,g0x,y0t];have:(((2:Nat):Int):Rat)=2:=rfl;rw [this];grind
 have a1:=mle h1 (q0p p);have a2:=mle h2 (q0p p);rw [<- ez] at a1 a2;have b2:z<=((2 ^ (h+1+e):Nat):Int):=q1s.mp (by rw [e2];exact a2)
 have b1:-((2 ^ (h+1+e):Nat):Int)<=z:=q1s.mp (by rw [v0c,e2];grind)
 omega
theorem bg7 {x:Rat} {z:Int} {e:Nat} (hx:x=q0e z (2 ^ e:Nat)):x.num.natAbs<=z.natAbs/\x.den<=2 ^ e:=by
 have:=C4 (t:=z) (b:=((2 ^ e:Nat):Int)) (by have:=ab3 e;omega)
 rw [<- hx] at this;exact ⟨this.1,by have:=this.2;rw [q0m] at this;exact this⟩
theorem aW1 {s s':Rat} {T T':List Int} (s0:0<s) (s0':0<s') (g:x9 T=1) (g':x9 T'=1) (e:scl s T=scl s' T'):T=T':=by
 have lt:T.length=T'.length:=by rw [<- ao9 s T,e,ao9]
 have ek:∀ k,s*zc T k=s'*zc T' k:=λk=>by
  have:=congrArg (λl=>aQ l k) e;simp only [aF9] at this;exact this
 have i1:=q0d s (k8 s0);have i2:=q0d s' (k8 s0')
 obtain ⟨a,ha⟩:=aH8 (b:=s'⁻¹*s) (ws:=T) (s:=aZ T') g λk=>by
  have:=ek k
  show zc T' k=_;generalize s'⁻¹=y at i2 ⊢;have:zc T' k=y*(s'*zc T' k):=by grind
  rw [this,<- ek];grind
 obtain ⟨b,hb⟩:=aH8 (b:=s⁻¹*s') (ws:=T') (s:=aZ T) g' λk=>by
  have:=ek k
  show zc T k=_;generalize s⁻¹=y at i1 ⊢;have:zc T k=y*(s*zc T k):=by grind
  rw [this,ek];grind
 have ap:0<s'⁻¹*s:=q0s (y0a.mpr s0') s0;have bp:0<s⁻¹*s':=q0s (y0a.mpr s0) s0'
 have ab1:s'⁻¹*s*(s⁻¹*s')=1:=by
  generalize s'⁻¹=y at i2 ⊢;generalize s⁻¹=x at i1 ⊢;have:y*s*(x*s')=(s*x)*(s'*y):=by grind
  rw [this,i1,i2];grind
 rw [ha,hb] at ab1;rw [ha] at ap;rw [hb] at bp;have a0:0<a:=j0r.mp ap;have b0:0<b:=j0r.mp bp;have ab2:a*b=1:=j0z.mp (by rw [z0e,ab1];rfl)
 have a1:a=1:=by
  have:=Int.mul_le_mul_of_nonneg_left (show 1<=b by omega) (show 0<=a by omega)
  omega
 have e1:s=s':=by
  rw [a1] at ha;have:((1:Int):Rat)=1:=rfl;rw [this] at ha;generalize s'⁻¹=y at i2 ha;have:s=s'*y*s:=by rw [i2];grind
  grind
 refine m0r λk=>?_;have:=ek k;rw [e1] at this;have z:aZ T k=aZ T' k:=j0z.mp (G6 (k8 s0') this)
 by_cases hk:k<T.length
 ·unfold aZ at z
  rw [q0c hk,q0c ⋯] at z ⊢;exact congrArg some z
 ·rw [q0z ⋯,q0z ⋯]
def dmL (g:Rat):Nat->List Rat
 | 0=>[1]
 | n+1=>sad g 0 (dmL g n)
theorem aE6 (g:Rat):∀ n,(dmL g n).length=n+1
 | 0=>rfl
 | n+1=>by show (sad g 0 (dmL g n)).length=_;rw [ad0,aE6 g n]
theorem V3 (g:Rat) (n k:Nat):aQ (dmL g (n+1)) k=(if k=0 then 0 else aQ (dmL g n) (k-1))+g*aQ (dmL g n) k:=am6 _ _ _ _
theorem am2 {g:Rat} (g0:0<=g):∀ n k,0<=aQ (dmL g n) k
 | 0,0=>by show (0:Rat)<=1;decide
 | 0,k+1=>by show (0:Rat)<=0;decide
 | n+1,k=>by
  rw [V3];have h1:=am2 g0 n (k-1);have h2:=q0t g0 (am2 g0 n k)
  split <;> grind
theorem aE7 {g:Rat} (g0:0<=g):∀ n k,aQ (dmL g n) k<=(1+g) ^ n
 | 0,0=>by rw [z0a];exact v0f
 | 0,k+1=>by rw [z0a];show (0:Rat)<=1;decide
 | n+1,k=>by
  rw [V3,q0r];have h1:=aE7 g0 n (k-1);have h2:=mle (aE7 g0 n k) g0;have h3:0<(1+g) ^ n:=j0c (by grind)
  split <;> grind
theorem aE5 (g:Rat):∀ n,aQ (dmL g n) n=1
 | 0=>rfl
 | n+1=>by rw [V3,if_neg ⋯,q0w,aE5 g n,N2 (by rw [aE6];omega)];grind
theorem aT3 (g c:Rat):∀ n,shn c (dmL g n)=dmL (g+c) n
 | 0=>rfl
 | n+1=>by show shn c (sad g 0 (dmL g n))=sad (g+c) 0 (dmL (g+c) n);rw [aA6,aT3 g c n]
theorem aH1 {c g:Rat} (hc:ab c<=g):∀ (l f:List Rat),l.length=f.length->(∀ k,ab (aQ l k)<=aQ f k)->∀ k,ab (aQ (shn c l) k)<=aQ (shn g f) k
 | [],[],_,_=>λk=>by show ab (aQ [] k)<=aQ [] k;rw [N2 (by simp)];decide
 | [],_ :: _,h,_=>by cases h
 | _ :: _,[],h,_=>by cases h
 | a :: l,b :: f,h,hk=>λk=>by
  have ih:=aH1 hc l f (by simpa using h) λk=>hk (k+1)
  have h0:ab a<=b:=hk 0
  show ab (aQ (sad c a (shn c l)) k)<=aQ (sad g b (shn g f)) k;rw [am6,am6];refine z0t (ac5 _ _) ?_;rw [D5];have h1:=ih k;have h2:=ih (k-1);have h3:=mle hc (E1 (aQ (shn c l) k));have h4:=mle h1 (show 0<=g from z0t (E1 c) hc)
  split <;> grind
structure U3 (qs:List Rat) (n B:Nat) (g L:Rat):Prop where
 len:qs.length=n+1
 n1:1<=n
 n7:n<=7
 top:aQ qs n ≠ 0
 b0:0<B
 it:∀ k,∃ z:Int,aQ qs k=q0e z B
 ld:ab (aQ qs n)<=L
 g0:0<=g
 dm:∀ k,ab (aQ qs k)<=ab (aQ qs n)*aQ (dmL g n) k
section
variable {qs:List Rat} {n B:Nat} {g L:Rat}
theorem U3.tl (h:U3 qs n B g L):Q7 qs qs.length:=W3 λx hx=>by
 rw [h.len,q0w] at hx;have e:aQ qs n=x:=by unfold aQ;rw [hx];rfl
 rw [<- e];exact h.top
theorem am1 {z:Int} {B:Nat} (hB:0<B) {q:Rat} (e:q=q0e z B):((z.natAbs:Nat):Rat)=ab q*(B:Rat):=by
 have b0:(0:Rat)<((B:Int):Rat):=j0r.mpr ⋯;have bb:(B:Rat)=((B:Int):Rat):=(y0e B).symm
 have ez:(z:Rat)=q*((B:Int):Rat):=by
  rw [e,q0y,q0u,j0m,y0z _ (k8 b0)];grind
 have eb:ab ((B:Int):Rat)=((B:Int):Rat):=if_pos (q0p b0);rw [bb,<- eb,<- D5,<- ez,<- y0e];unfold ab
 by_cases y:0<=z
 ·rw [if_pos (Rat.intCast_nonneg.mpr y),Int.natAbs_of_nonneg y]
 ·rw [if_neg (λx=>y (Rat.intCast_nonneg.mp x)),<- v0c]
  congr 1;omega
theorem ai7 {x:Rat} (h:1<=x) (n:Nat):∀ d:Nat,x ^ n<=x ^ (n+d)
 | 0=>v0f
 | d+1=>by
  have a:=ai7 h n d;rw [<- u0w,q0r];have b:=mle h (q0p (j0c (n:=n+d) (show (0:Rat)<x by grind)))
  grind
theorem U3.ov (h:U3 qs n B g L) {M W:Nat} (hM:L*(1+g) ^ 7*(B:Rat)<=(M:Rat)) (hW:M<2 ^ W):∀ q ∈ qs,OvB B W q:=λq hq=>by
 obtain ⟨k,hk,e⟩:=u0d hq;have ek:aQ qs k=q:=by unfold aQ;rw [q0c hk,e];rfl
 obtain ⟨z,hz⟩:=h.it k;rw [ek] at hz;refine ⟨z,hz,q0k ?_ hW⟩;have ez:=am1 h.b0 hz;have d:=h.dm k;rw [ek] at d;have l1:=mle h.ld (am2 h.g0 n k);have l2:=mle (aE7 h.g0 n k) (z0t (E1 _) h.ld);have b0:(0:Rat)<=(B:Rat):=u0k;have l4:=mle (ai7 (show 1<=1+g by have:=h.g0;grind) n (7-n)) (z0t (E1 _) h.ld)
 rw [show n+(7-n)=7 by have:=h.n7;omega] at l4
 have l3:=mle (show ab q<=L*(1+g) ^ 7 by grind) b0
 rw [<- ez] at l3;exact y0d.mp (z0t l3 hM)
theorem U3.scale (h:U3 qs n B g L) (c:Int) (hc:c ≠ 0) {C:Rat} (hC:ab (c:Rat)<=C):U3 (qs.map ((c:Rat) * ·)) n B g (C*L):=by
 have e:∀ k,aQ (qs.map ((c:Rat) * ·)) k=(c:Rat)*aQ qs k:=λk=>by
  unfold aQ;rw [z0k]
  cases qs[k]? with
  | none=>show (0:Rat)=_*0;grind
  | some x=>rfl
 have c0:(c:Rat) ≠ 0:=λz=>hc ((j0z (a:=c) (b:=0)).mp z);refine ⟨by rw [z0g,h.len],h.n1,h.n7,by rw [e];exact λz=>by rcases z0n.mp z with y | y;exact c0 y;exact h.top y,h.b0,λk=>?_,?_,h.g0,λk=>?_⟩
 ·obtain ⟨z,hz⟩:=h.it k
  refine ⟨c*z,?_⟩;rw [e,hz,q0y,q0y,q0u,q0u,z0e];grind
 ·rw [e,D5]
  have h1:=mle hC (E1 (aQ qs n));have h2:=mle h.ld (z0t (E1 _) hC)
  grind
 ·rw [e,e,D5,D5]
  have:=mle (h.dm k) (E1 (c:Rat))
  grind
theorem U3.shn (h:U3 qs n B g L) {a:Int} {D:Nat} {c γ:Rat} (hD:0<D) (ec:c=q0e a D) (hc:ab c<=γ):U3 (shn c qs) n (B*D ^ n) (g+γ) L:=by
 have tp:=ac8 c qs n h.len;have γ0:0<=γ:=z0t (E1 c) hc;have D0:(D:Int) ≠ 0:=⋯
 have hca:(a:Rat)=c*((D:Int):Rat):=by
  have b0:(0:Rat)<((D:Int):Rat):=j0r.mpr ⋯;rw [ec,q0y,q0u,j0m,y0z _ (k8 b0)];grind
 have zs:∃ zs:List Int,qs=scl (q0e 1 B) zs/\zs.length=n+1:=by
  obtain ⟨zz,hzz⟩:∃ zz:Nat->Int,∀ k,aQ qs k=q0e (zz k) B:=⟨λk=>Classical.choose (h.it k),λk=>Classical.choose_spec (h.it k)⟩;refine ⟨(y0f (n+1)).map zz,?_,by rw [z0g,u0t]⟩
  refine m0r λk=>?_;unfold scl;rw [z0k,z0k]
  by_cases hk:k<n+1
  ·rw [z1e hk,q0c (by rw [h.len];exact hk)]
   have:=hzz k
   show some _=some (q0e 1 B*((zz k:Int):Rat));have e2:aQ qs k=qs[k]'(by rw [h.len];exact hk):=by unfold aQ;rw [q0c];rfl
   rw [<- e2,this,q0y,q0y,q0u,q0u]
   congr 1
   generalize ((zz k:Int):Rat)=y;have:((1:Int):Rat)=1:=rfl;rw [this];grind
  ·rw [q0z (by rw [h.len];omega),q0z (by rw [u0t];omega)];rfl
 obtain ⟨zs,ez,lz⟩:=zs;have se:=aq8 (s:=q0e 1 B) D0 hca zs;rw [<- ez,lz,q0w] at se;refine ⟨by rw [B7,h.len],h.n1,h.n7,by rw [tp];exact h.top,v0g h.b0 (v0h hD),λk=>?_,by rw [tp];exact h.ld,by have:=h.g0;grind,λk=>?_⟩
 ·rw [<- se,aF9]
  refine ⟨aZ (bck (D:Int) (R.shn a (wid (D:Int) zs))) k,?_⟩
  show q0e 1 B / ((((D:Int) ^ n:Int)):Rat)*((aZ (bck (D:Int) (R.shn a (wid (D:Int) zs))) k:Int):Rat)=_;generalize aZ (bck (D:Int) (R.shn a (wid (D:Int) zs))) k=y;rw [q0y,q0y,q0u,q0u,q0u];have n1:((B:Int):Rat) ≠ 0:=λz=>by have:=(j0z (a:=(B:Int)) (b:=0)).mp z;have:=h.b0;omega
  have n2:((((D:Int) ^ n:Int)):Rat) ≠ 0:=λz=>by have:=(j0z (a:=(D:Int) ^ n) (b:=0)).mp z;exact absurd this (Int.pow_ne_zero D0)
  have e3:((B*D ^ n:Nat):Int)=(B:Int)*(D:Int) ^ n:=by rw [z0x,g0x]
  rw [e3,z0e];have nn:((B:Int):Rat)*((((D:Int) ^ n:Int)):Rat) ≠ 0:=λz=>by rcases z0n.mp z with x | x;exact n1 x;exact n2 x
  have i1:=q0d _ n1;have i2:=q0d _ n2;have i3:=q0d _ nn;generalize (((B:Int):Rat)*((((D:Int) ^ n:Int)):Rat))⁻¹=x3 at i3 ⊢;generalize ((B:Int):Rat)⁻¹=x1 at i1 ⊢;generalize ((((D:Int) ^ n:Int)):Rat)⁻¹=x2 at i2 ⊢;have:x3=x3*(((B:Int):Rat)*x1)*(((((D:Int) ^ n:Int)):Rat)*x2):=by rw [i1,i2];grind
  have:x3=x1*x2:=by grind
  rw [this];have:((1:Int):Rat)=1:=rfl;rw [this];grind
 ·rw [tp]
  have hm:=aH1 hc qs ((dmL g n).map (ab (aQ qs n) * ·)) (by rw [z0g,aE6,h.len]) (λk=>by
   refine z0t (h.dm k) ?_;unfold aQ;rw [z0k]
   cases (dmL g n)[k]? with
   | none=>show _*(0:Rat)<=0;grind
   | some x=>exact v0f) k
  rw [ah9,aT3] at hm;refine z0t hm ?_;unfold aQ;rw [z0k]
  cases (dmL (g+γ) n)[k]? with
  | none=>show (0:Rat)<=_*0;grind
  | some x=>exact v0f
theorem U3.cau (h:U3 qs n B g L) {s:Nat} (hs:∀ k,k<=n->aQ (dmL g n) (n-k)<=((2 ^ (s*k):Nat):Rat)):∀ k,k<=n->ab (aQ qs (n-k))<=((2 ^ (s*k):Nat):Rat)*ab (aQ qs n):=λk hk=>by
 have h1:=h.dm (n-k);have h2:=mle (hs k hk) (E1 (aQ qs n))
 grind
end
theorem bC2 {n:Nat} (h:n<=7):∀ k,k<=n->aQ (dmL 18 n) (n-k)<=((2 ^ (7*k):Nat):Rat):=λk hk=>by
 have:∀ n:Fin 8,∀ k:Fin 8,aQ (dmL 18 n.val) (n.val-k.val)<=((2 ^ (7*k.val):Nat):Rat) \/ n.val<k.val:=by decide +kernel
 rcases this ⟨n,⋯⟩ ⟨k,⋯⟩ with y | y
 ·exact y
 ·have:n<k:=y
  omega
theorem bE0 {n:Nat} (h:n<=7):∀ k,k<=n->aQ (dmL 36 n) (n-k)<=((2 ^ (8*k):Nat):Rat):=λk hk=>by
 have:∀ n:Fin 8,∀ k:Fin 8,aQ (dmL 36 n.val) (n.val-k.val)<=((2 ^ (8*k.val):Nat):Rat) \/ n.val<k.val:=by decide +kernel
 rcases this ⟨n,⋯⟩ ⟨k,⋯⟩ with y | y
 ·exact y
 ·have:n<k:=y
  omega
theorem by2 {s c:Rat} {T:List Int} {t b:Int} {n:Nat} (lT:T.length=n+1) (s0:s ≠ 0) (hb:0<b) (hc:(t:Rat)=c*(b:Rat)):Z7 (λk=>((aZ (shn t (wid b T)) k:Int):Rat)) n=V6 (shn c (scl s T)):=by
 have se:=aq8 (s:=s) (show b ≠ 0 by omega) hc T
 rw [lT,q0w] at se;rw [V5 (n:=n) (by rw [ao9,lT])]
 have bq:(0:Rat)<(b:Rat):=j0r.mpr hb;have p0:((b ^ n:Int):Rat) ≠ 0:=by rw [y0t];exact k8 (j0c bq)
 have σ0:s / ((b ^ n:Int):Rat) ≠ 0:=by
  rw [q0u];intro z;rcases z0n.mp z with y | y
  ·exact s0 y
  ·have:=q0d _ p0
   rw [y] at this;grind
 have ez:∀ k,aZ (bck b (shn t (wid b T))) k=aZ (shn t (wid b T)) k*b ^ k:=λk=>by
  unfold aZ;rw [aF4]
  cases (shn t (wid b T))[k]? with
  | none=>show (0:Int)=0*_;rw [q1b]
  | some x=>rfl
 have e:∀ k,aQ (shn c (scl s T)) k=s / ((b ^ n:Int):Rat)*(((aZ (shn t (wid b T)) k*b ^ k:Int)):Rat):=λk=>by
  rw [<- se,aF9]
  show s / ((b ^ n:Int):Rat)*((aZ (bck b (shn t (wid b T))) k:Int):Rat)=_;rw [ez]
 rw [Z6 σ0 (p:=λk=>(((aZ (shn t (wid b T)) k*b ^ k:Int)):Rat)) e];generalize aZ (shn t (wid b T))=Z;unfold Z7;have bi:=q0d _ (k8 bq);have i0:=y0a.mpr bq
 have pk:∀ j m:Nat,m+2*j=n->(b:Rat) ^ m=(b:Rat) ^ n*((b:Rat)⁻¹*(b:Rat)⁻¹) ^ j:=λj m hm=>by
  rw [<- hm];generalize (b:Rat)⁻¹=x at bi
  have:∀ j:Nat,(b:Rat) ^ (2*j)*(x*x) ^ j=1:=λj=>by
   induction j with
   | zero=>rw [q1e,z0a,z0a];grind
   | succ j ih =>
    rw [show 2*(j+1)=2*j+1+1 by omega,q0r,q0r,q0r]
    have:(b:Rat) ^ (2*j)*b*b*((x*x) ^ j*(x*x))=((b:Rat) ^ (2*j)*(x*x) ^ j)*(b*x)*(b*x):=by grind
    rw [this,ih,bi];grind
  have h:=this j;rw [aa7]
  grind
 cases n with
 | zero=>rfl
 | succ n =>
 symm
 refine aK0 (c:=(b:Rat) ^ (n+1)) (d:=(b:Rat) ^ n) (g:=(b:Rat)⁻¹*(b:Rat)⁻¹) (j0c bq) (j0c bq) (q0s i0 i0) (λj=>?_) λj=>?_
 ·unfold rwA
  by_cases h:2*j<=n+1
  ·rw [if_pos h,if_pos h]
   show ((Z (n+1-2*j)*b ^ (n+1-2*j):Int):Rat)=_*((Z (n+1-2*j):Int):Rat);rw [z0e,y0t,<- pk j (n+1-2*j) ⋯];grind
  ·rw [if_neg h,if_neg h];grind
 ·unfold rwB
  by_cases h:2*j+1<=n+1
  ·rw [if_pos h,if_pos h]
   show ((Z (n+1-1-2*j)*b ^ (n+1-1-2*j):Int):Rat)=_*((Z (n+1-1-2*j):Int):Rat);rw [z0e,y0t];have h1:=pk j (n+1-2*j) ⋯;rw [show n+1-2*j=n+1-1-2*j+1 by omega,q0r,q0r] at h1
   have h2:(b:Rat) ^ (n+1-1-2*j)=(b:Rat) ^ n*((b:Rat)⁻¹*(b:Rat)⁻¹) ^ j:=G6 (k8 bq) (by grind)
   rw [h2];grind
  ·rw [if_neg h,if_neg h];grind
section
variable {P:Program} {w:World} {K:q0a} {mg:Str->Option Value} {base:Heap}
def aG9 (K:q0a):Sp:=λvs H Q _ => ∃ (a:Addr) (T:List Int) (n s:Nat),vs=[.ref a]/\SqL K H a (T.map V.int)/\T.length=n+1/\n<=8/\s<=20/\aZ T n ≠ 0/\(∀ k,1<=k->k<=n->(aZ T (n-k)).natAbs<=2 ^ (s*k)*(aZ T n).natAbs)/\∀ h:Nat,h<=s+1->(h:Int)=hL T n n->(∀ k,1<=k->k<=n->(aZ T (n-k)).natAbs<=2 ^ (h*k)*(aZ T n).natAbs)->Q (.int (2*2 ^ h)) H
abbrev W9:Stmt:=top 38
theorem M1:i7 ["wholes","highest","back","bits"] ["wholes"] (c4 W9):=by and_intros
theorem aI3 {f:Addr} (d:Df K mg "bound_of" W9 ["wholes"] f) (n_len:mg "len" = none) (n_range:mg "range" = none) (n_max:mg "max" = none):Def P w K mg base CX0 1 "bound_of" f ["wholes"] (aG9 K):=by
 refine d.ok (N:=["wholes","highest","back","bits"]) M1 (by rintro vs H Q E ⟨_,_,_,_,h,_⟩;rw [h];rfl) (λcdv A outer s H vs Q E hr h=>?_)
 obtain ⟨a,T,n,b,rfl,hS,hT,n8,b20,l0,hd,k⟩:=h;have hu:=hr.units
 refine ⟨_,(b7 (i4 (i:=1) M1.nd rfl (j0a rfl) a9)
   (b7 (G7 PassesOwn.never rfl (aW5 rfl n_range (a7 a9 (a7 (d5 j0 rfl n_len (by decide +kernel) (a7 (pv 0) a8)) a8))) (d9 (i:=2) M1.nd rfl (j0a rfl)) (b7 (i4 (i:=3) M1.nd rfl (j0a rfl) (d4 D3 (d4 A8 (ar5 PySem.F.plainAttrs_int PySem.F.slot_int_bit_length PySem.F.type_int_bit_length ad6 (j2 m8 (pv 0) (d4 A8 (E6 A7 a9) (pv 2)) (λ_ _=>rfl))) (ar5 PySem.F.plainAttrs_int PySem.F.slot_int_bit_length PySem.F.type_int_bit_length ad6 (j2 m8 (pv 0) (E6 A7 a9) (λ_ _=>rfl)))) a9))
   (c5 (i4 (i:=1) M1.nd rfl (j0a rfl) (d5 (am4 rfl) rfl n_max (by decide +kernel) (a7 (pv 1) (a7 (E6 A7 (d4 v8 (E6 A7 (pv 3)) (pv 2))) a8)))))))
   (c5 (i5 (d4 bv0 a9 (pv 1)))))),?_⟩
 rw [show start ["wholes","highest","back","bits"] [.ref a]=[some (.ref a),none,none,none] from rfl]
 have lT:(T.map V.int).length=n+1:=by rw [z0g];exact hT
 refine d7 (λσ H1=>σ=[some (.ref a),some (.int 0),none,none]/\H1=H) (λN hN=>?_) ?_
 ·subst_eqs
  exact hN _ _ ⟨rfl,rfl⟩
 rintro σ H1 ⟨rfl,rfl⟩;obtain ⟨I,hI'⟩:∃ I:Nat->L2.St->Hp->Prop,∀ i σ H2,I i σ H2 ↔ ∃ (h:Nat) (o2 o3:Option V),σ=[some (.ref a),some (.int h),o2,o3]/\H2=H1/\h<=b+1/\(h:Int)=hL T n i/\∀ k,1<=k->k<=i->(aZ T (n-k)).natAbs<=2 ^ (h*k)*(aZ T n).natAbs:=⟨_,λ_ _ _=>Iff.rfl⟩;refine d7 (λσ H2=>I n σ H2) (λN hN=>?_) ?_
 ·refine ⟨_,rfl,a,_,rfl,.inl hS,1,_,rfl,⟨by decide,by decide,⋯,⋯⟩,K7 I ((hI' _ _ _).mpr ⟨0,_,_,rfl,rfl,⋯,rfl,λk h1 h2=>⋯⟩) ?_ (λσ H2 h2=>hN _ _ ?_)⟩
  ·intro i σ H2 hi h2
   obtain ⟨h,o2,o3,rfl,rfl,h8,hh,hb⟩:=(hI' _ _ _).mp h2;have hi:i<n:=⋯
   subst_eqs
   have a1:atI (T.map V.int) (-1-(1+(i:Int)))=some (.int (aZ T (n-(i+1)))):=aU2 (k:=i+1) hT ⋯ ⋯;have a0:atI (T.map V.int) (-1)=some (.int (aZ T n)):=aU2 (k:=0) hT ⋯ ⋯;have b8:=bB8 l0 (hd (i+1) ⋯ ⋯) ⋯;refine ⟨_,hS,_,a1,trivial,_,rfl,_,hS,_,a0,trivial,_,rfl,⟨⋯,?_⟩,?_⟩
   ·exact q0b ((z1s ⋯).mpr (show (1+(i:Int)).natAbs<2 ^ 10 by omega)) (by decide)
   obtain ⟨c1,c2⟩:=bo5 (b:=(Builtin.Int.intBits (aZ T (n-(i+1))):Int)-(Builtin.Int.intBits (aZ T n):Int)+1) (k:=1+(i:Int)) ⋯;have c8:=c2 ((b+1:Nat):Int) (by rw [show (1:Int)+(i:Int)=((i+1:Nat):Int) by omega];exact b8)
   have ec:hL T n (i+1)=if cL T n i > (h:Int) then cL T n i else (h:Int):=by rw [hh];rfl
   unfold cL at ec;generalize -(-((Builtin.Int.intBits (aZ T (n-(i+1))):Int)-(Builtin.Int.intBits (aZ T n):Int)+1)).fdiv (1+(i:Int))=c at *
   obtain ⟨h',eh',h'8,hh',hc'⟩:∃ h':Nat,(if c > (h:Int) then c else (h:Int))=(h':Int)/\h'<=b+1/\h<=h'/\c<=(h':Int):=by
    split
    ·exact ⟨c.toNat,⋯,⋯,⋯,⋯⟩
    ·exact ⟨h,rfl,h8,⋯,⋯⟩
   rw [eh'];refine (hI' _ _ _).mpr ⟨h',_,_,rfl,rfl,h'8,by rw [ec,eh'],λk k1 k2=>?_⟩
   by_cases z:k=i+1
   ·subst z
    refine bB9 l0 (Int.le_trans c1 ?_);rw [show (1:Int)+(i:Int)=((i+1:Nat):Int) by omega]
    exact g0w hc' ⋯
   ·have:=hb k k1 ⋯
    exact z0p this (v0y _ (c6 (v0y _ hh')))
  ·rw [show (((T.map V.int).length:Int)-1).toNat=n by omega] at h2
   exact h2
 rintro σ H2 h2;obtain ⟨h,o2,o3,rfl,rfl,h8,hh,hb⟩:=(hI' _ _ _).mp h2
 subst_eqs
 exact ⟨⟨⋯,⋯,by decide⟩,by rw [show ((h:Int)).toNat=h by omega];exact k h h8 hh hb⟩
def bb5 (K:q0a):Sp:=λvs H Q _ => ∃ (a:Addr) (x:V) (T:List Int) (n W e:Nat) (c s:Rat),vs=[.ref a,x]/\SqL K H a (T.map V.int)/\T.length=n+1/\n<=7/\aZ T n ≠ 0/\(∀ v ∈ T,z0q v<2 ^ W)/\W<=200/\Num K H x c/\BdN e c/\e<=50/\s ≠ 0/\∀ H',b9 H H'->Q (.bl (V6 (shn c (scl s T)))) H'
abbrev M3:Stmt:=top 43
theorem G3:i7 ["wholes","number","degree","wide","top","bottom"] ["wholes","number"] (c4 M3):=by and_intros
theorem aC5 {f f1 f2 f3:Addr} (d:Df K mg "all_below" M3 ["wholes","number"] f) (G_power_of:Def P w K mg base CX0 1 "power_of" f1 ["whole","many"] aP8) (G_moved:Def P w K mg base CX0 1 "moved" f2 ["wholes","step"] (aP9 K)) (G_whole_dies:Def P w K mg base CX0 2 "whole_dies" f3 ["wholes"] (bb0 K)) (n_len:mg "len" = none) (n_enumerate:mg "enumerate" = none):Def P w K mg base CX0 3 "all_below" f ["wholes","number"] (bb5 K):=by
  refine d.ok (N:=["wholes","number","degree","wide","top","bottom"]) G3 (by rintro vs H Q E ⟨_,_,_,_,_,_,_,_,h,_⟩;rw [h];rfl) (λcdv A outer s H vs Q E hr h=>?_)
  obtain ⟨a,x,ws,n,W,e,r,sc,rfl,hS,lT,n7,t0,wb,hW,⟨ax,rfl,hx⟩,hc,he,s0,k⟩:=h
  refine ⟨_, (b7 (G8 (pv 1) (show PG _ _ (U9 K 2 (v9 (t6 4) (v9 (t6 5) V0))) from by (refine C9 (n := 2) ?_ ?_ ?_ ?_; rfl; (refine j3 ?_ ?_ ?_; (exact (d9 (i := 4) G3.nd rfl (Or.inl rfl))); (refine j3 ?_ ?_ ?_; (exact (d9 (i := 5) G3.nd rfl (Or.inr rfl))); (exact z8); rfl); rfl); rfl; rfl)))
      (b7 (i4 (i:=2) G3.nd rfl (Or.inr rfl) (d4 A8 (d5 j0 rfl n_len (by decide +kernel) (a7 (pv 0) a8)) a9))
      (b7 (K2 (i₀:=3) G3.nd rfl (Or.inl rfl) (Nc:=["degree","bottom","place","whole"]) (caps:=[some 2,some 5,none,none]) rfl (ag7.of (osc:=c4 M3) (N:=["wholes","number","degree","wide","top","bottom"]) (ks:=["degree","bottom"]) rfl rfl rfl rfl (B9 rfl (B9 rfl G2)) (by decide +kernel)) (aC2 rfl n_enumerate (a7 (pv 0) a8)) (λC s₂ H₂ fp pins=>(show PG _ _ (U9 K 2 (v9 (t6 2) (v9 (t6 3) V0))) from by (refine C9 (n:=2) ?_ ?_ ?_ ?_;rfl;(refine j3 ?_ ?_ ?_;(exact (d9 (i:=2) (show List.Nodup (["degree","bottom","place","whole"]:List Str) by decide +kernel) rfl (Or.inl rfl) (Or.inr rfl)));(refine j3 ?_ ?_ ?_;(exact (d9 (i:=3) (show List.Nodup (["degree","bottom","place","whole"]:List Str) by decide +kernel) rfl (Or.inl rfl) (Or.inr rfl)));(exact z8);rfl);rfl);rfl;rfl))) (λC s₂ H₂ fp pins=>(d4 m6 (pv 3) (c9 G_power_of hr (a7 (pv 1) (a7 (d4 A8 (pv 0) (pv 2)) a8)) d8))))
      (c5 (i5 (c9 G_whole_dies hr (a7 (c9 G_moved hr (a7 (pv 3) (a7 (pv 4) a8)) d8) a8) d8)))))),?_⟩
  rw [show start ["wholes","number","degree","wide","top","bottom"] [.ref a,.ref ax]=[some (.ref a),some (.ref ax),none,none,none,none] from rfl]
  subst_eqs
  have hdr:(r.den:Int).natAbs<2 ^ e:=by rw [Int.natAbs_natCast];exact hc.d
  have dp:=k9 r;refine ⟨_,hx,rfl,_,_,rfl,_,_,rfl,rfl,_,.inl hS,⟨_,hS⟩,λD hD=>?_⟩;rw [List.length_map];refine bo3 (ws.map V.int) (λi σ H2 => ∃ o1 o2,σ=[some (.int ((ws.length:Int)-1)),some (.int r.den),o1,o2]/\b9 H H2/\H2 D=some (.lst (((wid (r.den:Int) ws).take i).map V.int))) ⟨_,_,rfl,b9.new hD _,b6⟩ (by rintro i σ H2 ⟨_,_,_,s2,_⟩;exact s2.seq hS) ?_ ?_
  · rintro i x σ H2 p1 hx' ⟨o1,o2,rfl,s2,e2⟩ hp1
    have hi:=(List.getElem?_eq_some_iff.mp hx').1;obtain ⟨v,hv,rfl⟩:=aj9 hx';rw [List.length_map] at hi;have s3:=b9.new hp1 (.tup [.int i,.int v])
    subst_eqs
    have hwm:(wid (r.den:Int) ws)[i]? = some (v*(r.den:Int) ^ (ws.length-1-i)):=by rw [ag9,hv];rfl
    have hvb:=wb v (List.mem_of_getElem? hv);have hp9:=O8 (k:=ws.length-1-i) hdr;have hci:e*(ws.length-1-i)<=50*7:=Nat.mul_le_mul he ⋯;have et:((ws.length:Int)-1-(i:Int)).toNat=ws.length-1-i:=⋯;refine ⟨_,SqT.of b6,rfl,_,_,rfl,_,_,rfl,rfl,_,rfl,_,_,e,rfl,⋯,⋯,hdr,⋯,_,rfl,_,rfl,?_,?_⟩
    · rw [et];exact B6 hvb hp9 ⋯
    · rw [et]
      have eD:=s3 _ _ e2;refine E3.mk (by rw [List.length_map];exact hi) eD ?_ ⟨_,_,rfl,(s2.trans s3).over hD _,?_⟩
      · rw [List.length_map,List.length_take]
        exact Nat.lt_of_le_of_lt (show _<=100 by omega) (by decide)
      · rw [b6,ae5 hwm,List.map_append];rfl
  · rintro σ H2 ⟨o1,o2,rfl,s2,e2⟩
    rw [List.length_map,List.take_of_length_le (by rw [ag8];omega)] at e2
    have wwb:∀ v ∈ wid (r.den:Int) ws,Int.natAbs v<2 ^ (W+351):=by
      intro v hv;obtain ⟨i,hi⟩:=List.mem_iff_getElem?.mp hv;rw [ag9] at hi
      cases hu:ws[i]? with
      | none=>rw [hu] at hi;cases hi
      | some u =>
        rw [hu] at hi
        cases hi
        have hub:=wb u (List.mem_of_getElem? hu);have hp9:=O8 (k:=ws.length-1-i) hdr;have hci:e*(ws.length-1-i)<=50*7:=Nat.mul_le_mul he ⋯;rw [Int.natAbs_mul,Nat.pow_add];exact Nat.mul_lt_mul'' hub (Nat.lt_of_lt_of_le hp9 (c6 ⋯))
    have wl:(wid (r.den:Int) ws).length=n+1:=by rw [ag8,lT]
    have cn:=Nat.lt_of_lt_of_le hc.n (c6 he);refine ⟨D,wid (r.den:Int) ws,r.num,W+351,50,rfl,SqL.of e2,wwb,cn,⋯,?_,λl H3 s3 f3 e3 _=>?_⟩
    · rw [wl]
      have:=Nat.mul_le_mul (show n+1+1<=9 by omega) (Nat.mul_le_mul_left (50+1) (show n+1<=8 by omega))
      omega
    have wb2:=aL9 cn _ wwb;rw [wl] at wb2
    have tp:aZ (shn r.num (wid (r.den:Int) ws)) n=aZ ws n:=by
      have e1:(wid (r.den:Int) ws)[(wid (r.den:Int) ws).length-1]? = some (aZ ws n):=by
        rw [wl,Nat.add_sub_cancel,ag9,lT];have:ws[n]? = some (aZ ws n):=by unfold aZ;rw [List.getElem?_eq_getElem ⋯];rfl
        rw [this]
        show some (aZ ws n*(r.den:Int) ^ (n+1-1-n))=_;rw [show n+1-1-n=0 by omega,Int.pow_zero,Int.mul_one]
      have:=aq7 r.num _ _ e1;rw [B7,wl,Nat.add_sub_cancel] at this;unfold aZ at this ⊢;rw [this];rfl
    refine ⟨l,shn r.num (wid (r.den:Int) ws),n,W+351+51*8,rfl,SqL.of e3,by rw [B7,wl],⋯,by rw [tp];exact t0,λv hv=>Nat.lt_of_lt_of_le (wb2 v hv) (c6 (by have:=Nat.mul_le_mul_left (50+1) (show n+1<=8 by omega);omega)),?_,λH4 s4=>?_⟩
    · have:=Nat.mul_le_mul (show W+351+51*8+4<=963 by omega) (show n+1<=8 by omega)
      omega
    have hk:=k H4 (s2.trans (s3.trans s4));rw [<- by2 (n:=n) lT s0 dp (aR7 r)] at hk;exact hk
abbrev Y0:Stmt:=top 48
theorem M2:i7 ["_law_top","_law_bottom","_law_one","_law_other_here"] ["_law_top","_law_bottom"] (c4 Y0):=by and_intros
theorem aI5 {f:Addr} (d:Df K mg "_law_low" Y0 ["_law_top","_law_bottom"] f) (n_abs:mg "abs" = none):Def P w K mg base CX0 1 "_law_low" f ["_law_top","_law_bottom"] am8:=by
  refine d.ok (N:=["_law_top","_law_bottom","_law_one","_law_other_here"]) M2 (λvs H Q E ⟨a,b,h,_⟩=>by rw [h];rfl) (λcdv A outer s H vs Q E hr h=>?_)
  obtain ⟨t,b,rfl,hb0,hb,k⟩:=h
  refine ⟨_, (b7 (i4 (i := 2) M2.nd rfl (Or.inl rfl) (d5 V8 rfl n_abs (by decide +kernel) (a7 (pv 0) a8)))
      (b7 (i4 (i:=3) M2.nd rfl (Or.inl rfl) (d5 V8 rfl n_abs (by decide +kernel) (a7 (pv 1) a8)))
      (b7 (ab0 PassesOwn.never (j9 ax0 (pv 3) a9 (l5 _)) (c5 (Y2 (i:=2) (j:=3) rfl M2.nd rfl rfl (by decide) rfl rfl (a7 (pv 3) (a7 (d4 L7 (pv 2) (pv 3)) a8)) rfl)))
      (b7 (y7 (j9 aj1 (pv 1) a9 (l5 _)) (c5 (i4 (i:=2) M2.nd rfl (Or.inl rfl) (d4 A8 a9 (pv 2)))) o0)
      (c5 (i5 (l6 (a7 (d4 v8 (pv 0) (pv 2)) (a7 (d4 v8 (pv 1) (pv 2)) a8))))))))),?_⟩
  rw [show start ["_law_top","_law_bottom","_law_one","_law_other_here"] [.int t,.int b]=[some (.int t),some (.int b),none,none] from rfl]
  subst_eqs
  refine aG4 (λσ H1=>H1=H/\∃ x y:Int,σ=[some (.int t),some (.int b),some (.int x),some (.int y)]/\0<=x/\0<=y/\Int.gcd x y=Int.gcd t b) (λσ _=>match σ with | [_,_,_,some (.int y)]=>y.natAbs | _=>0)
    ⟨rfl,_,_,rfl,by split <;> omega,by split <;> omega,?_⟩ ?_ ?_
  · have e1:(if t<0 then -t else t)=(t.natAbs:Int):=by split <;> omega
    have e2:(if b<0 then -b else b)=(b.natAbs:Int):=by split <;> omega
    rw [e1,e2,Int.gcd_eq_natAbs_gcd_natAbs,Int.gcd_eq_natAbs_gcd_natAbs];simp
  · rintro σ H1 ⟨rfl,x,y,rfl,hx,hy,hg⟩
    subst_eqs
    split
    · rename_i hy0
      exact ⟨⋯,hy,Int.fmod_nonneg_of_pos x hy0,by rw [aJ5];exact hg,ab6 x ⋯⟩
    · rename_i hy0
      have hy':y=0:=⋯;subst hy'
      have ex:x=(Int.gcd t b:Int):=by
        rw [Int.gcd_zero_right] at hg;omega
      have gp:=C6 (t:=t) hb0;have gl:=al9 (a:=t) hb0 hb
      by_cases hs:b<0
      · rw [if_pos hs]
        obtain ⟨e1,e2⟩:=aD6 (t:=t) (g:=0-x) hb0 (by rw [if_pos hs,ex];omega)
        have dv:∀ i,ak6 i (0-x):=λi=>V4 ⋯ (by rw [show 0-x=-x by omega,Int.natAbs_neg,ex];exact P7 gl)
        refine ⟨dv _,dv _,k7,λr hr'=>?_⟩;exact k r _ (b9.new hr' _) (by rw [b6];unfold k6;rw [e1,e2])
      · rw [if_neg hs]
        obtain ⟨e1,e2⟩:=aD6 (t:=t) (g:=x) hb0 (by rw [if_neg hs,ex])
        have dv:∀ i,ak6 i x:=λi=>V4 ⋯ (by rw [ex];exact P7 gl)
        refine ⟨dv _,dv _,k7,λr hr'=>?_⟩;exact k r _ (b9.new hr' _) (by rw [b6];unfold k6;rw [e1,e2])
  · intro σ H1 Q1 Q2 hQ h
    simp only [bx1,bf2,ipM,aG8,aq3,bw9,bt0,ba5,tSl,br9,ba0,az9,bs9,bt1,aB7,bf6,U0,List.map_cons,List.map_nil,Option.bind_none,Option.bind_some,Option.join_some,bj7,bs2,bs5,tOr,bs0,aP7,tB,tOp,tUn,bs3,tBM,ak7,tC,tCB,bj8,ba6,t6,bx5,U9,v9,V0,ah3,aL5,bj9,bj6,bs1,tIf,ba7,ba1,bk0,aA0,ba3,ba2,aL6,aL4,bs4,ipI,rI,rI0,rU,aB6,aM2,bt2,bb9,rEq,rNe,aM4,aM3,aM1,bt3,bt4,bf4,bf3,bf5,bx0,ao5,cxR,cxX,Cx.nox,Cx.wish,Cx.body,Cx.suite,List.getElem?_cons_zero,List.getElem?_cons_succ,List.set_cons_zero,List.set_cons_succ,Option.some.injEq,V.int.injEq,V.bl.injEq,V.ref.injEq,V.str.injEq,exists_eq_left',exists_eq_left,exists_and_left,true_and,and_true,List.cons.injEq,reduceCtorEq,Bool.false_eq_true,if_false,if_true,exists_const,↓reduceIte,tyV,List.length_cons,List.length_nil,exists_eq,List.append_nil,List.cons_append,List.nil_append,decide_eq_true_eq,not_true_eq_false,not_false_eq_true,Bool.not_eq_true',decide_eq_false_iff_not,Bool.not_true,Bool.not_false,and_assoc,false_and,false_or,or_false] at h ⊢;obtain ⟨v,e1,i,e2,e3⟩:=h;exact ⟨v,e1,i,e2,hQ _ _ e3⟩
abbrev X8:Stmt:=top 46
theorem F9:i7 ["_law_script","_law_at","_law_cell","_law_prime","_law_great"] ["_law_script","_law_at"] (c4 X8):=by and_intros
theorem aI4 {f:Addr} (d:Df K mg "_law_urn" X8 ["_law_script","_law_at"] f) (n_len:mg "len" = none) (n_abs:mg "abs" = none):Def P w K mg base CX0 1 "_law_urn" f ["_law_script","_law_at"] (bq0 K):=by
 refine d.ok (N:=["_law_script","_law_at","_law_cell","_law_prime","_law_great"]) F9 (λvs H Q E ⟨x,y,p,h,_⟩=>by rw [h];rfl) (λcdv A outer s H vs Q E hr h=>?_)
 obtain ⟨a,ns,i,rfl,hS,h0,h64,k⟩:=h
 refine ⟨_,(b7 (i4 (i:=2) F9.nd rfl (j0a rfl) a9)
   (b7 (y7 (j9 aj1 (pv 1) (d5 j0 rfl n_len (by decide +kernel) (a7 (pv 0) a8)) (l5 _)) (c5 (i4 (i:=2) F9.nd rfl (j0a rfl) (j2 m8 (pv 0) (pv 1) (λ_ _=>rfl)))) o0)
   (b7 (i4 (i:=3) F9.nd rfl (j0a rfl) (j2 j6 (l6 (a7 a9 (a7 a9 (a7 a9 (a7 a9 (a7 a9 (a7 a9 (a7 a9 (a7 a9 a8))))))))) (d4 L7 (pv 1) a9) (λ_ _=>rfl)))
   (b7 (i4 (i:=4) F9.nd rfl (j0a rfl) a9)
   (b7 (y7 (j9 bB0 (d5 V8 rfl n_abs (by decide +kernel) (a7 (pv 2) a8)) (d4 ab4 a9 a9) (l5 _)) (c5 (i4 (i:=4) F9.nd rfl (j0a rfl) (d5 V8 rfl n_abs (by decide +kernel) (a7 (pv 2) a8)))) o0)
   (c5 (i5 (t8 (a7 (pv 4) (a7 (d4 L7 (d4 ab4 (d4 D3 (d4 D3 (d4 L7 (pv 2) (pv 3)) (d4 m6 a9 (pv 1))) a9) a9) (pv 3)) (a7 (pv 3) a8))))))))))),?_⟩
 rw [show start ["_law_script","_law_at","_law_cell","_law_prime","_law_great"] [.ref a,.int i]=[some (.ref a),some (.int i),none,none,none] from rfl]
 refine d7 (λσ H1=>H1=H/\σ=[some (.ref a),some (.int i),some (.int 0),none,none]) (λN hN=>?_) ?_
 ·subst_eqs
  exact hN _ _ ⟨rfl,rfl⟩
 rintro σ H1 ⟨rfl,rfl⟩;refine d7 (λσ H2=>H2=H1/\∃ c:Int,σ=[some (.ref a),some (.int i),some (.int c),none,none]) (λN hN=>?_) ?_
 ·subst_eqs
  refine ⟨_,.inl hS,x8 (λhl=>?_) (λ_=>hN _ _ ⟨rfl,_,rfl⟩)⟩;obtain ⟨c,hc⟩:=aY8 (ns:=ns) h0 (by simpa using hl)
  exact ⟨_,hS,_,hc,hN _ _ ⟨rfl,c,rfl⟩⟩
 rintro σ H2 ⟨rfl,c,rfl⟩;obtain ⟨pr,hpr,p1,p2⟩:=bc4 h0;refine d7 (λσ H3=>b9 H2 H3/\σ=[some (.ref a),some (.int i),some (.int c),some (.int pr),none]) (λN hN=>?_) ?_
 ·subst_eqs
  exact ⟨by decide,λp hp=>⟨by decide,_,SqT.of b6,_,hpr,hN _ _ ⟨b9.new hp _,rfl⟩⟩⟩
 rintro σ H3 ⟨s1,rfl⟩;refine d7 (λσ H4=>H4=H3/\σ=[some (.ref a),some (.int i),some (.int c),some (.int pr),some (.int 0)]) (λN hN=>?_) ?_
 ·subst_eqs
  exact hN _ _ ⟨rfl,rfl⟩
 rintro σ H4 ⟨rfl,rfl⟩;refine d7 (λσ H5=>H5=H4/\∃ g:Int,0<=g/\σ=[some (.ref a),some (.int i),some (.int c),some (.int pr),some (.int g)]) (λN hN=>?_) ?_
 ·subst_eqs
  exact ⟨⟨by decide,by decide,by decide⟩,x8 (λ_=>hN _ _ ⟨rfl,_,by split <;> omega,rfl⟩) (λ_=>hN _ _ ⟨rfl,_,Int.le_refl _,rfl⟩)⟩
 rintro σ H5 ⟨rfl,g,hg,rfl⟩
 subst_eqs
 have m0:=y0n c (show 0<pr by omega)
 have m1:=y0y c (show 0<pr by omega)
 refine ⟨⋯,bB3 (by decide),⟨by decide,by decide,⋯⟩,⋯,by decide,λr hr'=>?_⟩
 refine k r _ (s1.trans (b9.new hr' _)) (s1.free hr') ⟨g,_,pr,b6,hg,y0n _ ⋯,?_,⋯,⋯⟩;have:=y0y ((c.fmod pr+65537*i+101) ^ (3:Int).toNat) (show 0<pr by omega)
 omega
abbrev T7:Stmt:=top 47
theorem ai3:i7 ["_law_urn_here","_law_many","_law_drawn"] ["_law_urn_here","_law_many"] (c4 T7):=by and_intros
theorem aD3 {f:Addr} (d:Df K mg "_law_draw" T7 ["_law_urn_here","_law_many"] f):Def P w K mg base CX0 1 "_law_draw" f ["_law_urn_here","_law_many"] F4:=by
  refine d.ok (N:=["_law_urn_here","_law_many","_law_drawn"]) ai3 (λvs H Q E ⟨x,y,h,_⟩=>by rw [h];rfl) (λcdv A outer s H vs Q E hr h=>?_)
  obtain ⟨u,n,rfl,⟨g,m,p,hu,g0,m0,m1,p0,p1⟩,n0,n1,k⟩:=h
  refine ⟨_, (b7 (y7 (j9 ax0 (j2 m8 (pv 0) a9 (fun _ _ => rfl)) a9 (l5 _)) (b7 (i4 (i := 2) ai3.nd rfl (Or.inl rfl) (d4 L7 (j2 m8 (pv 0) a9 (fun _ _ => rfl)) (pv 1)))
      (b7 (G8 (d4 v8 (j2 m8 (pv 0) a9 (λ_ _=>rfl)) (pv 1)) (aM7 (pv 0) a9 ai0))
      (c5 (i5 (pv 2))))) o0)
      (b7 (G8 (d4 L7 (d4 D3 (d4 m6 (j2 m8 (pv 0) a9 (λ_ _=>rfl)) a9) a9) (j2 m8 (pv 0) a9 (λ_ _=>rfl))) (aM7 (pv 0) a9 ai0))
      (c5 (i5 (d4 L7 (d4 v8 (d4 L7 (d4 ab4 (d4 v8 (j2 m8 (pv 0) a9 (λ_ _=>rfl)) a9) a9) a9) a9) (pv 1)))))),?_⟩
  rw [show start ["_law_urn_here","_law_many","_law_drawn"] [.ref u,.int n]=[some (.ref u),some (.int n),none] from rfl]
  have L1:SqL K H u [.int g,.int m,.int p]:=SqL.of hu;have x0:∀ g m p:Int,atI [V.int g,.int m,.int p] 0=some (.int g):=λ_ _ _=>rfl;have x1:∀ g m p:Int,atI [V.int g,.int m,.int p] 1=some (.int m):=λ_ _ _=>rfl;have x2:∀ g m p:Int,atI [V.int g,.int m,.int p] 2=some (.int p):=λ_ _ _=>rfl
  subst_eqs
  have dn:∀ i,ak6 i n:=λi=>V4 ⋯ (Nat.lt_of_lt_of_le (show n.natAbs<2 ^ 40 by omega) (c6 (by decide)))
  refine ⟨_,L1,_,x0 g m p,_,rfl,x8 (λhg=>?_) (λhg=>?_)⟩
  · refine ⟨_,L1,_,x0 g m p,_,rfl,⋯,_,L1,_,x0 g m p,_,rfl,dn _,_,hu,0,rfl,?_⟩
    exact k _ _ (Int.fmod_nonneg_of_pos _ n0) (Int.fmod_lt_of_pos _ n0) (p9.upd _ _ _) ⟨g.fdiv n,m,p,b6,Int.fdiv_nonneg g0 ⋯,m0,m1,p0,p1⟩
  · have q0:=Int.fmod_nonneg_of_pos (m*60013+12289) p0
    have q1:=Int.fmod_lt_of_pos (m*60013+12289) p0;have z:SqL K (upd H u (.lst [.int g,.int ((m*60013+12289).fmod p),.int p])) u [.int g,.int ((m*60013+12289).fmod p),.int p]:=SqL.of b6
    have d16:0<=((m*60013+12289).fmod p).fdiv 16/\((m*60013+12289).fmod p).fdiv 16<2 ^ 40:=by
      rw [Int.fdiv_eq_ediv_of_nonneg _ (by decide)]
      omega
    refine ⟨_,L1,_,x1 g m p,_,rfl,aI9 (by decide),_,L1,_,x2 g m p,_,rfl,⋯,_,hu,1,rfl,_,z,_,x1 _ _ _,_,rfl,V4 (by decide) (Nat.lt_of_lt_of_le (show (16:Int).natAbs<2 ^ 40 by decide) (c6 (by decide))),⟨by decide,by decide,⋯⟩,by decide,V4 (by decide) (Nat.lt_of_lt_of_le (show (8:Int).natAbs<2 ^ 40 by decide) (c6 (by decide))),⋯,?_⟩
    exact k _ _ (Int.fmod_nonneg_of_pos _ n0) (Int.fmod_lt_of_pos _ n0) (p9.upd _ _ _) ⟨g,_,p,b6,g0,q0,⋯,p0,p1⟩
abbrev T6:Stmt:=top 55
theorem aB2:i7 ["_law_urn_here"] ["_law_urn_here"] (c4 T6):=by and_intros
theorem aD2 {f fd:Addr} (d:Df K mg "_law_kind" T6 ["_law_urn_here"] f) (G__law_draw:Def P w K mg base CX0 1 "_law_draw" fd ["_law_urn_here","_law_many"] F4):Def P w K mg base CX0 2 "_law_kind" f ["_law_urn_here"] bb3:=by
 refine d.ok (N:=["_law_urn_here"]) aB2 (λvs H Q E ⟨u,h,_⟩=>by rw [h];rfl) (λcdv A outer s H vs Q E hr h=>?_)
 obtain ⟨u,rfl,hu,k⟩:=h;refine ⟨_,(c5 (i5 (j2 m8 (t8 (a7 a9 (a7 a9 (a7 a9 (a7 a9 (a7 a9 (a7 a9 (a7 a9 (a7 a9 a8))))))))) (c9 G__law_draw hr (a7 (pv 0) (a7 a9 a8)) d8) (λ_ _=>rfl)))),?_⟩;rw [show start ["_law_urn_here"] [.ref u]=[some (.ref u)] from rfl]
 simp! [F4]
 refine ⟨by decide,λl hl=>⟨G0 hu hl,by decide,by decide,λr H' r0 r1 sx hu'=>?_⟩⟩
 have e:=sx l _ b6 (V9 hu hl);have sx':p9 u H H':=p9.trans (b9.x (b9.new hl _) u) sx;have h3:r=0 \/ r=1 \/ r=2 \/ r=3 \/ r=4 \/ r=5 \/ r=6 \/ r=7:=⋯;rcases h3 with h | h | h | h | h | h | h | h <;> subst h <;> exact ⟨_,SqL.of e,_,rfl,k _ H' (by decide) sx' hu'⟩
abbrev L6:Stmt:=top 56
theorem aa5:i7 ["_law_urn_here","_law_kind_here","_law_top"] ["_law_urn_here","_law_kind_here"] (c4 L6):=by and_intros
abbrev N8:Stmt:=top 63
theorem au4:i7 ["_law_thing"] ["_law_thing"] (c4 N8):=by and_intros
theorem av0 {f:Addr} (d:Df K mg "_law_whole" N8 ["_law_thing"] f) (n_isinstance:mg "isinstance" = none) (n_int:mg "int" = none) (n_bool:mg "bool" = none):Def P w K mg base CX0 1 "_law_whole" f ["_law_thing"] ah4:=by
 refine d.ok (N:=["_law_thing"]) au4 (λvs H Q E ⟨u,h,_⟩=>by rw [h];rfl) (λcdv A outer s H vs Q E hr h=>?_)
 obtain ⟨i,rfl,k⟩:=h;refine ⟨_,(c5 (i5 (aN0 (d5 j5 rfl n_isinstance (by decide +kernel) (a7 (pv 0) (a7 (aj0 (v:=.ty "int") rfl n_int (by decide +kernel) rfl) a8))) (aM9 (bc6 (d5 j5 rfl n_isinstance (by decide +kernel) (a7 (pv 0) (a7 (aj0 (v:=.ty "bool") rfl n_bool (by decide +kernel) rfl) a8)))))))),?_⟩
 rw [show start ["_law_thing"] [.int i]=[some (.int i)] from rfl]
 subst_eqs
 exact ⟨trivial,_,.of (.int i),_,aJ4,bD9 ⟨trivial,_,.of (.int i),_,aD7,k⟩⟩
abbrev D8:Stmt:=top 64
theorem ai2:i7 ["_law_thing"] ["_law_thing"] (c4 D8):=by and_intros
theorem aj5 {f fw fl : Addr} (d : Df K mg "_law_is_number" D8 ["_law_thing"] f) (G__law_whole : Def P w K mg base CX0 1 "_law_whole" fw ["_law_thing"] ah4) (G__law_low : Def P w K mg base CX0 1 "_law_low" fl ["_law_top", "_law_bottom"] am8) (n_isinstance : mg "isinstance" = none) (n_tuple : mg "tuple" = none) (n_len : mg "len" = none) :
    Def P w K mg base CX0 2 "_law_is_number" f ["_law_thing"] (aQ3 K):=by
  refine d.ok (N:=["_law_thing"]) ai2 (λvs H Q E ⟨u,q,h,_⟩=>by rw [h];rfl) (λcdv A outer s H vs Q E hr h=>?_)
  obtain ⟨x,q,rfl,⟨ap,rfl,hS⟩,hd,k⟩:=h;have hu:=hr.units
  refine ⟨_, (b7 (y7 (PW.pt (T8 (N1 (E4 (d5 j5 rfl n_isinstance (by decide +kernel) (a7 (pv 0) (a7 (aj0 (v := .ty "tuple") rfl n_tuple (by decide +kernel) rfl) a8))))) (T8 (j9 aI0 (d5 j0 rfl n_len (by decide +kernel) (a7 (pv 0) a8)) a9 (l5 _)) (T8 (N1 (E4 (c9 G__law_whole hr (a7 (j2 j6 (pv 0) a9 (fun _ _ => rfl)) a8) d8))) (Y1 (N1 (E4 (c9 G__law_whole hr (a7 (j2 j6 (pv 0) a9 (fun _ _ => rfl)) a8) d8)))))))) (c5 (i5 M4)) o0)
      (c5 (i5 (aN0 (Y7 ax0 (j2 j6 (pv 0) a9 (λ_ _=>rfl)) a9 (l5 _)) (aM9 (Y7 (aC4 hu) (c9 G__law_low hr (a7 (j2 j6 (pv 0) a9 (λ_ _=>rfl)) (a7 (j2 j6 (pv 0) a9 (λ_ _=>rfl)) a8)) d8) (pv 0) (l5 _))))))),?_⟩
  rw [show start ["_law_thing"] [.ref ap]=[some (.ref ap)] from rfl]
  have dq:=k9 q
  simp! [ah4,aV6]
  refine ⟨trivial,_,.sqt hS,_,an2,?_⟩
  simp! [ah4,aV6]
  refine ⟨_,.inr hS,?_⟩
  simp! [ah4,aV6,k6]
  refine x8 (λhh=>absurd rfl hh) (λ_=>?_);refine ⟨_,hS,_,at0 q,_,rfl,_,hS,_,at1 q,_,rfl,_,hS,_,at1 q,_,rfl,?_⟩;rw [if_pos dq];refine ⟨_,hS,_,at0 q,_,hS,_,at1 q,_,_,rfl,⋯,hd,λr H' sm hr'=>?_⟩;rw [Rat.num_divInt_den] at hr';refine ⟨M8 q,M8 q,rfl,aj8 (SqT.of hr'),aj8 (sm.tup hS),aR6 q q,by1 q,?_⟩;rw [aE2];exact k H' sm
def spOther:Sp:=λvs H Q _ => ∃ u kd,vs=[.ref u,.int kd]/\p8 H u/\∀ r q H',Sm q->q ≠ 0->p9 u H H'->p8 H' u->H' r=some (.tup (k6 q))->Q (.ref r) H'
abbrev O1:Stmt:=top 57
theorem ae7:i7 ["_law_urn_here","_law_kind_here","_law_found"] ["_law_urn_here","_law_kind_here"] (c4 O1):=by and_intros
def aA3 (K:q0a):Sp:=λvs H Q _ => ∃ a xs qs,vs=[.ref a]/\SqL K H a xs/\p7 H xs qs/\∀ m r H',Q7 qs m->b9 H H'->H r=none->H' r=some (.lst (xs.take m))->Q (.ref r) H'
abbrev R0:Stmt:=top 59
theorem ai1:i7 ["_law_numbers","_law_found"] ["_law_numbers"] (c4 R0):=by and_intros
theorem bm4 {α:Type} {xs:List α} {x:α} (h:xs[xs.length-1]? = some x):atI xs (-1)=some x:=by
 have hp:xs.length-1<xs.length:=(z0f.mp h).1
 have e:ixN xs.length (-1)=some (xs.length-1):=by
  unfold ixN;rw [if_neg (by decide)]
  rw [if_pos ⋯]
  congr 1
  omega
 unfold atI;rw [e];exact h
theorem aC6 {f:Addr} (d:Df K mg "_law_trim" R0 ["_law_numbers"] f) (n_list:mg "list" = none):Def P w K mg base CX0 1 "_law_trim" f ["_law_numbers"] (aA3 K):=by
  refine d.ok (N:=["_law_numbers","_law_found"]) ai1 (λvs H Q E ⟨a,xs,qs,h,_⟩=>by rw [h];rfl) (λcdv A outer s H vs Q E hr h=>?_)
  obtain ⟨a,xs,qs,rfl,hS,hN,k⟩:=h;have hu:=hr.units
  refine ⟨_, (b7 (i4 (i := 1) ai1.nd rfl (Or.inl rfl) (O9 Z8 rfl n_list (by decide +kernel) (a7 (pv 0) a8)))
      (b7 (ab0 PassesOwn.never (PW.pt (aM5 (j9 (aC3 hu) (pv 1) (t8 a8) (l5 _)) (aB9 (j9 an0 (j2 j6 (j2 m8 (pv 1) (E6 A7 a9) (λ_ _=>rfl)) a9 (λ_ _=>rfl)) a9 (l5 _))))) (c5 (aR0 (ar5 PySem.F.plainAttrs_list PySem.F.slot_list_pop PySem.F.type_list_pop bv9 (pv 1)))))
      (c5 (i5 (pv 1))))),?_⟩
  rw [show start ["_law_numbers","_law_found"] [.ref a]=[some (.ref a),none] from rfl]
  subst_eqs
  refine ⟨_,.inl hS,λl hl=>?_⟩
  refine aq2 (λσ H1=>σ=[some (.ref a),some (.ref l)]/\∃ m,m<=qs.length/\(∀ (i:Nat) (q:Rat),m<=i->qs[i]? = some q->q=0)/\b9 H H1/\H1 l=some (.lst (xs.take m))) (λσ H1=>match H1 l with | some (.lst ys)=>ys.length | _=>0)
    ⟨rfl,qs.length,Nat.le_refl _,λi q hi e=>?_,b9.new hl _,?_⟩ ?_
  · rw [List.getElem?_eq_none hi] at e;cases e
  · rw [b6,<- hN.length,List.take_length]
  · rintro σ H1 ⟨rfl,m,hm,hz,sm,e1⟩
    have hml:(xs.take m).length=m:=by rw [List.length_take,hN.length];omega
    subst_eqs
    refine ⟨by decide,λp hp=>?_⟩
    have n1:p7 H1 (xs.take m) (qs.take m):=(hN.mono sm.tups).take m;have pl:p ≠ l:=(i6 e1 hp).symm;have e2:upd H1 p (.lst []) l=some (.lst (xs.take m)):=by rw [i9 pl.symm];exact e1
    have n2:p7 (upd H1 p (.lst [])) (xs.take m) (qs.take m):=n1.mono (N3.new hp);refine ⟨D9 (qs.take m),D9 [],rfl,E7 (SqL.of e2) n2,E7 (SqL.of b6) .nil,ab5 _ _,Nat.le_trans (ak2 _) (by decide),?_⟩
    rw [ak1]
    by_cases h0:m=0
    · subst h0
      simp only [List.take_zero,decide_true,Bool.not_true,Bool.false_eq_true,if_false];refine ⟨false,rfl,x8 (λh=>absurd h (by decide)) λ_=>k 0 l _ ⟨Nat.zero_le _,hz,λh=>absurd rfl h⟩ (sm.trans (b9.new hp _)) hl ?_⟩
      rw [e2]
    · have hlt:m-1<qs.length:=⋯
      have hne:qs.take m ≠ []:=λz=>by
        have:=congrArg List.length z;rw [List.length_take,List.length_nil] at this;omega
      simp only [hne,decide_false,Bool.not_false];obtain ⟨pv,hv,hpv⟩:=n2.get (i:=m-1) (q:=qs[m-1]) (by rw [List.getElem?_take_of_lt ⋯];exact List.getElem?_eq_getElem hlt)
      refine ⟨true,rfl,x8 (λ_=>?_) (λh=>absurd rfl h)⟩;refine ⟨_,SqL.of e2,_,bm4 (by rw [hml];exact hv),_,rfl,_,SqT.of hpv,_,at0 _,rfl,?_⟩
      refine x8 (λhn=>?_) (λhn=>?_)
      · have hn':qs[m-1].num=0:=V.int.inj hn
        refine WhB.mk ?_
        subst_eqs
        refine ⟨.inl ⟨_,SqL.of e2⟩,_,e2,_,by rw [hml];exact hv,WhN.mk ⟨rfl,m-1,⋯,λi q hi e=>?_,(sm.trans (b9.new hp _)).over hl _,?_⟩ ?_⟩
        · by_cases hi':i=m-1
          · subst hi'
            rw [List.getElem?_eq_getElem hlt] at e
            cases e
            exact P6.mp hn'
          · exact hz i q ⋯ e
        · rw [b6,List.dropLast_eq_take,hml,List.take_take,Nat.min_eq_left ⋯]
        · rw [b6]
          simp only [e1,List.length_dropLast];omega
      · have hn':qs[m-1] ≠ 0:=λz=>hn (by rw [z];rfl)
        exact k m l _ ⟨hm,hz,λ_ q e=>by rw [List.getElem?_eq_getElem hlt] at e;cases e;exact hn'⟩ (sm.trans (b9.new hp _)) hl e2
abbrev z7:Stmt:=top 62
theorem af8:i7 ["_law_urn_here","_law_kind_here","_law_most"] ["_law_urn_here","_law_kind_here","_law_most"] (c4 z7):=by and_intros
structure BtN (k:Nat) (q:Rat):Prop where
 n:q.num.natAbs<2 ^ 20000
 d:q.den<2 ^ k
theorem BtN.d' {n:Nat} {q:Rat} (b:BtN n q):(q.den:Int).natAbs<2 ^ n:=by rw [q0m];exact b.d
theorem BtN.zero {n:Nat} (h:1<=n):BtN n 0:=⟨j0f _,q0b (show 1<2 ^ 1 by decide) (c6 h)⟩
theorem BdN.t {n:Nat} {q:Rat} (b:BdN n q) (h:n<=20000):BtN n q:=⟨q0b b.n (c6 h),b.d⟩
theorem BdN.d' {n:Nat} {q:Rat} (b:BdN n q):(q.den:Int).natAbs<2 ^ n:=by rw [q0m];exact b.d
theorem p7.set {H:Hp}:∀ {vs:List V} {qs:List Rat} (k:Nat) {p:Addr} {q:Rat},p7 H vs qs->H p=some (.tup (k6 q))->p7 H (vs.set k (.ref p)) (qs.set k q)
 | _,_,_,_,_,.nil,_=>.nil
 | _,_,0,_,_,.cons _ t,h=>.cons h t
 | _,_,k+1,_,_,.cons h' t,h=>.cons h' (t.set k h)
theorem p7.rep {H:Hp} {p:Addr} {q:Rat} (h:H p=some (.tup (k6 q))):∀ n,p7 H (q0v n (.ref p)) (q0v n q)
 | 0=>.nil
 | n+1=>.cons h (p7.rep h n)
def K1 (K:q0a) (op:Rat->Rat->Rat):Sp:=λvs H Q _ => ∃ (x y:V) (p q:Rat) (m n:Nat),vs=[x,y]/\Num K H x p/\Num K H y q/\BtN m p/\BtN n q/\m+n<=6000/\au0 H Q (op p q)
theorem by3 {p q:Rat} {m n:Nat} (bp:BtN m p) (bq:BtN n q) (h:m+n<=6000):((p.den:Int)*q.den).natAbs<2 ^ 6000:=by
 rw [z0b];have:=j0b bp.d' bq.d';rw [<- z0u] at this;exact q0b this (c6 h)
theorem ap7 (p q:Rat):(p.den:Int)*q.den ≠ 0:=q1a (u0v (k9 p) (k9 q))
abbrev R7:Stmt:=top 49
theorem aA9:i7 ["_law_one","_law_other_here"] ["_law_one","_law_other_here"] (c4 R7):=by and_intros
theorem aC9 {f fl:Addr} (d:Df K mg "_law_plus" R7 ["_law_one","_law_other_here"] f) (G__law_low:Def P w K mg base CX0 1 "_law_low" fl ["_law_top","_law_bottom"] am8):Def P w K mg base CX0 2 "_law_plus" f ["_law_one","_law_other_here"] (K1 K (· + ·)):=by
 refine d.ok (N:=["_law_one","_law_other_here"]) aA9 (by rintro vs H Q E ⟨x,y,p,q,m,n,h,_⟩;rw [h];rfl) (λcdv A outer s H vs Q E hr h=>?_)
 obtain ⟨x,y,p,q,m,n,rfl,⟨ap,rfl,hp⟩,⟨aq,rfl,hq⟩,bp,bq,hmn,k⟩:=h;refine ⟨_,(c5 (i5 (c9 G__law_low hr (a7 (d4 D3 (d4 m6 (j2 j6 (pv 0) a9 (λ_ _=>rfl)) (j2 j6 (pv 1) a9 (λ_ _=>rfl))) (d4 m6 (j2 j6 (pv 1) a9 (λ_ _=>rfl)) (j2 j6 (pv 0) a9 (λ_ _=>rfl)))) (a7 (d4 m6 (j2 j6 (pv 0) a9 (λ_ _=>rfl)) (j2 j6 (pv 1) a9 (λ_ _=>rfl))) a8)) d8))),?_⟩;rw [show start ["_law_one","_law_other_here"] [.ref ap,.ref aq]=[some (.ref ap),some (.ref aq)] from rfl]
 subst_eqs
 refine ⟨_,hp,_,at0 p,_,hq,_,at1 q,_,rfl,_,rfl,B6 bp.n bq.d' ⋯,_,hq,_,at0 q,_,hp,_,at1 p,_,rfl,_,rfl,B6 bq.n bp.d' ⋯,_,hp,_,at1 p,_,hq,_,at1 q,_,rfl,_,rfl,B6 bp.d' bq.d' ⋯,?_⟩;refine ⟨_,_,rfl,ap7 p q,by3 bp bq hmn,?_⟩;rw [<- ag4];exact k
abbrev O0:Stmt:=top 51
theorem au5:i7 ["_law_one","_law_other_here"] ["_law_one","_law_other_here"] (c4 O0):=by and_intros
theorem av2 {f fl:Addr} (d:Df K mg "_law_times" O0 ["_law_one","_law_other_here"] f) (G__law_low:Def P w K mg base CX0 1 "_law_low" fl ["_law_top","_law_bottom"] am8):Def P w K mg base CX0 2 "_law_times" f ["_law_one","_law_other_here"] (K1 K (· * ·)):=by
 refine d.ok (N:=["_law_one","_law_other_here"]) au5 (by rintro vs H Q E ⟨x,y,p,q,m,n,h,_⟩;rw [h];rfl) (λcdv A outer s H vs Q E hr h=>?_)
 obtain ⟨x,y,p,q,m,n,rfl,⟨ap,rfl,hp⟩,⟨aq,rfl,hq⟩,bp,bq,hmn,k⟩:=h;refine ⟨_,(c5 (i5 (c9 G__law_low hr (a7 (d4 m6 (j2 j6 (pv 0) a9 (λ_ _=>rfl)) (j2 j6 (pv 1) a9 (λ_ _=>rfl))) (a7 (d4 m6 (j2 j6 (pv 0) a9 (λ_ _=>rfl)) (j2 j6 (pv 1) a9 (λ_ _=>rfl))) a8)) d8))),?_⟩;rw [show start ["_law_one","_law_other_here"] [.ref ap,.ref aq]=[some (.ref ap),some (.ref aq)] from rfl]
 subst_eqs
 refine ⟨_,hp,_,at0 p,_,hq,_,at0 q,_,rfl,_,rfl,B6 bp.n bq.n ⋯,_,hp,_,at1 p,_,hq,_,at1 q,_,rfl,_,rfl,B6 bp.d' bq.d' ⋯,?_⟩;refine ⟨_,_,rfl,ap7 p q,by3 bp bq hmn,?_⟩;rw [<- Z3];exact k
def bb2 (K:q0a):Sp:=λvs H Q _ => ∃ (a b:Addr) (xs ys:List V) (ps qs:List Rat),vs=[.ref a,.ref b]/\SqL K H a xs/\SqL K H b ys/\p7 H xs ps/\p7 H ys qs/\(∃ m1 m2:Nat,(∀ q ∈ ps,BtN m1 q)/\(∀ q ∈ qs,BtN m2 q)/\m1+m2<=6000/\1<=m1/\1<=m2)/\ps.length<=100/\qs.length<=100 /\
 ∀ m r zs H',Q7 (Q3 ps qs) m->b9 H H'->H r=none->H' r=some (.lst zs)->p7 H' zs ((Q3 ps qs).take m)->Q (.ref r) H'
abbrev D7:Stmt:=top 60
theorem y9:i7 ["_law_p","_law_q","_law_found","_law_i","_law_one","_law_other_here"] ["_law_p","_law_q"] (c4 D7):=by and_intros
theorem aj4 {f fp ft:Addr} (d:Df K mg "_law_poly_plus" D7 ["_law_p","_law_q"] f) (G__law_plus:Def P w K mg base CX0 2 "_law_plus" fp ["_law_one","_law_other_here"] (K1 K (· + ·))) (G__law_trim:Def P w K mg base CX0 1 "_law_trim" ft ["_law_numbers"] (aA3 K)) (n_range:mg "range" = none) (n_max:mg "max" = none) (n_len:mg "len" = none):Def P w K mg base CX0 3 "_law_poly_plus" f ["_law_p","_law_q"] (bb2 K):=by
 refine d.ok (N:=["_law_p","_law_q","_law_found","_law_i","_law_one","_law_other_here"]) y9 (by rintro vs H Q E ⟨_,_,_,_,_,_,h,_⟩;rw [h];rfl) (λcdv A outer s H vs Q E hr h=>?_)
 obtain ⟨a,b,xs,ys,ps,qs,rfl,hS,hS',hN,hN',⟨m1,m2,hs,hs',hm,hm1,hm2⟩,hl,hl',k⟩:=h
 refine ⟨_,(b7 (i4 (i:=2) y9.nd rfl (j0a rfl) (t8 a8))
   (b7 (G7 PassesOwn.never rfl (K4 rfl n_range (a7 (d5 (am4 rfl) rfl n_max (by decide +kernel) (a7 (d5 j0 rfl n_len (by decide +kernel) (a7 (pv 0) a8)) (a7 (d5 j0 rfl n_len (by decide +kernel) (a7 (pv 1) a8)) a8))) a8)) (d9 (i:=3) y9.nd rfl (j0a rfl)) (b7 (i4 (i:=4) y9.nd rfl (j0a rfl) (aH9 (j9 aj1 (pv 3) (d5 j0 rfl n_len (by decide +kernel) (a7 (pv 0) a8)) (l5 _)) (j2 m8 (pv 0) (pv 3) (λ_ _=>rfl)) (l6 (a7 a9 (a7 a9 a8)))))
   (b7 (i4 (i:=5) y9.nd rfl (j0a rfl) (aH9 (j9 aj1 (pv 3) (d5 j0 rfl n_len (by decide +kernel) (a7 (pv 1) a8)) (l5 _)) (j2 m8 (pv 1) (pv 3) (λ_ _=>rfl)) (l6 (a7 a9 (a7 a9 a8)))))
   (c5 (aR0 (aR3 PySem.F.plainAttrs_list PySem.F.slot_list_append PySem.F.type_list_append al3 (pv 2) (a7 (c9 G__law_plus hr (a7 (pv 4) (a7 (pv 5) a8)) d8) a8)))))))
   (c5 (i5 (c9 G__law_trim hr (a7 (pv 2) a8) d8))))),?_⟩
 rw [show start ["_law_p","_law_q","_law_found","_law_i","_law_one","_law_other_here"] [.ref a,.ref b]=[some (.ref a),some (.ref b),none,none,none,none] from rfl]
 subst_eqs
 refine ⟨by decide,λp hp=>?_⟩
 have lx:=hN.length;have ly:=hN'.length;have S0:=b9.new hp (.lst [])
 have pick:∀ (i:Nat) (k:Nat) (c:Addr) (us:List V) (rs:List Rat) (σ:L2.St) (H3:Hp) (R:VK),σ[k]? = some (some (.ref c))->σ[3]? = some (some (.int (0+(i:Int))))->SqL K H3 c us->p7 H3 us rs->(∀ v H4,b9 H3 H4->Num K H4 v ((rs[i]?).getD 0)->R v H4) ->
   tIf (aP7 (tOp (rI0 λi j=>V.bl (decide (i<j))) (ak7 3) (tCB (λxs H Q => ∃ p,xs=[V.ref p]/\∃ x,(SqL K H p x \/ SqT K H p x)/\Q (V.int x.length) H) (ah3 (ak7 k) aL5)))) (tOp (aM2 K) (ak7 k) (ak7 3)) (bj6 (ah3 (tC (V.int 0)) (ah3 (tC (V.int 1)) aL5))) σ H3 R:=by
  intro i k c us rs σ H3 R h1 h2 hc hn hR
  simp! [h1,h2]
  refine ⟨us,.inl hc,x8 (λh=>?_) (λh=>?_)⟩
  ·have hi:i<us.length:=⋯
   have hir:i<rs.length:=by rw [<- hn.length];exact hi
   obtain ⟨pv,hv,hpv⟩:=hn.get (q0c hir);have e0:(0:Int)+(i:Int)=((i:Nat):Int):=⋯;refine ⟨_,hc,_,(by rw [e0];exact B3 hv),hR _ _ (b9.refl _) ⟨pv,rfl,?_⟩⟩
   rw [q0c hir];exact SqT.of hpv
  ·have hi:rs.length<=i:=by rw [<- hn.length];omega
   refine ⟨k7,λt ht=>hR _ _ (b9.new ht _) ⟨t,rfl,?_⟩⟩;rw [q0z hi];exact SqT.of b6
 refine ⟨_,rfl,a,rfl,xs,.inl (S0.seq hS),_,rfl,b,rfl,ys,.inl (S0.seq hS'),_,_,rfl,_,rfl,?_,?_,K7 (λi σ H2 => ∃ o1 o2 o3,σ=[some (.ref a),some (.ref b),some (.ref p),o1,o2,o3]/\b9 H H2/\∃ zs,H2 p=some (.lst zs)/\p7 H2 zs ((Q3 ps qs).take i)) ⟨_,_,_,rfl,S0,[],b6,.nil⟩ ?_ ?_⟩
 ·split <;> omega
 ·split <;> omega
 ·rintro i σ H2 hi ⟨o1,o2,o3,rfl,s2,zs,e2,n2⟩
  have hi':i<max ps.length qs.length:=by
   revert hi
   split <;> omega
  refine pick i 0 a xs ps _ _ _ rfl rfl (s2.seq hS) (hN.mono s2.tups) λv H3 s3 nv=>?_;refine pick i 1 b ys qs _ _ _ rfl rfl ((s2.trans s3).seq hS') (hN'.mono (s2.trans s3).tups) λu H4 s4 nu=>?_
  have bq:∀ (rs:List Rat) (m:Nat),1<=m->(∀ q ∈ rs,BtN m q)->BtN m ((rs[i]?).getD 0):=λrs m hm h=>by
   cases e:rs[i]? with
   | none=>exact BtN.zero hm
   | some q=>exact h q (z0r e)
  have S4:=s2.trans (s3.trans s4)
  subst_eqs
  refine ⟨.inl ⟨_,SqL.of (s4 _ _ (s3 _ _ e2))⟩,v,u,_,_,m1,m2,rfl,nv.same s4,nu,bq ps m1 hm1 hs,bq qs m2 hm2 hs',hm,λr H5 s5 e5=>?_⟩;have e6:=s5 _ _ (s4 _ _ (s3 _ _ e2));refine ⟨_,e6,?_,?_⟩
  ·rw [n2.length,y0q]
   exact q0k (show _<=100 by omega) (by decide)
  ·refine ⟨(S4.trans s5).over hp _,_,b6,?_⟩
   rw [show (Q3 ps qs).take (i+1)=(Q3 ps qs).take i ++ [(ps[i]?).getD 0+(qs[i]?).getD 0] by rw [u0p,aK7 ps qs i hi'];rfl]
   exact (((n2.mono (s3.trans s4).tups).mono s5.tups).append (.cons e5 .nil)).mono (N3.lst e6)
 ·rintro σ H2 ⟨o1,o2,o3,rfl,s2,zs,e2,n2⟩
  have e7:(Q3 ps qs).take (if (ys.length:Int) > (xs.length:Int) then (ys.length:Int) else xs.length).toNat=Q3 ps qs:=by
   rw [v0v];rw [aK6]
   split <;> omega
  have n2':p7 H2 zs (Q3 ps qs):=by rw [<- e7];exact n2
  refine ⟨_,rfl,p,zs,_,rfl,SqL.of e2,n2',λm r H3 tl s3 hr' e3=>?_⟩;exact k m r _ _ tl (s2.trans s3) (s2.free hr') e3 ((n2'.take m).mono s3.tups)
def ah8 (K:q0a):Sp:=λvs H Q _ => ∃ x y p q,vs=[x,y]/\Num K H x p/\Num K H y q/\BdN 6000 p/\BdN 6000 q/\Q (.bl (decide (p<q))) H
abbrev W8:Stmt:=top 29
theorem aH2:i7 ["one","other"] ["one","other"] (c4 W8):=by and_intros
theorem aI2 {f:Addr} (d:Df K mg "is_below" W8 ["one","other"] f):Def P w K mg base CX0 1 "is_below" f ["one","other"] (ah8 K):=by
 refine d.ok (N:=["one","other"]) aH2 (λvs H Q E ⟨x,y,p,q,h,_⟩=>by rw [h];rfl) (λcdv A outer s H vs Q E hr h=>?_)
 obtain ⟨x,y,p,q,rfl,⟨ap,rfl,hp⟩,⟨aq,rfl,hq⟩,bp,bq,k⟩:=h;refine ⟨_,(c5 (i5 (Y7 aj1 (d4 m6 (j2 j6 (pv 0) a9 (λ_ _=>rfl)) (j2 j6 (pv 1) a9 (λ_ _=>rfl))) (d4 m6 (j2 j6 (pv 1) a9 (λ_ _=>rfl)) (j2 j6 (pv 0) a9 (λ_ _=>rfl))) (l5 _)))),?_⟩;rw [show start ["one","other"] [.ref ap,.ref aq]=[some (.ref ap),some (.ref aq)] from rfl]
 subst_eqs
 refine ⟨_,hp,_,at0 p,_,hq,_,at1 q,_,rfl,_,rfl,B6 bp.n bq.d',_,hq,_,at0 q,_,hp,_,at1 p,_,rfl,_,rfl,B6 bq.n bp.d',?_⟩;have e:(p<q) ↔ (p.num*(q.den:Int)<q.num*(p.den:Int)):=m0x p q;simp only [e] at k;exact k
abbrev O3:Stmt:=top 54
theorem au6:i7 ["_law_one","_law_other_here"] ["_law_one","_law_other_here"] (c4 O3):=by and_intros
theorem av4 {f:Addr} (d:Df K mg "_law_below" O3 ["_law_one","_law_other_here"] f):Def P w K mg base CX0 1 "_law_below" f ["_law_one","_law_other_here"] (ah8 K):=by
 refine d.ok (N:=["_law_one","_law_other_here"]) au6 (λvs H Q E ⟨x,y,p,q,h,_⟩=>by rw [h];rfl) (λcdv A outer s H vs Q E hr h=>?_)
 obtain ⟨x,y,p,q,rfl,⟨ap,rfl,hp⟩,⟨aq,rfl,hq⟩,bp,bq,k⟩:=h;refine ⟨_,(c5 (i5 (Y7 aj1 (d4 m6 (j2 j6 (pv 0) a9 (λ_ _=>rfl)) (j2 j6 (pv 1) a9 (λ_ _=>rfl))) (d4 m6 (j2 j6 (pv 1) a9 (λ_ _=>rfl)) (j2 j6 (pv 0) a9 (λ_ _=>rfl))) (l5 _)))),?_⟩;rw [show start ["_law_one","_law_other_here"] [.ref ap,.ref aq]=[some (.ref ap),some (.ref aq)] from rfl]
 subst_eqs
 refine ⟨_,hp,_,at0 p,_,hq,_,at1 q,_,rfl,_,rfl,B6 bp.n bq.d',_,hq,_,at0 q,_,hp,_,at1 p,_,rfl,_,rfl,B6 bq.n bp.d',?_⟩;have e:(p<q) ↔ (p.num*(q.den:Int)<q.num*(p.den:Int)):=m0x p q;simp only [e] at k;exact k
def WgN (J:Nat->L2.St->Hp->Prop) (m:Nat):L2.St->Hp->Prop:=λσ' H' => ∃ m',m'<m/\J m' σ' H'
def WhG (tb:TS) (D:aa0) (J:Nat->L2.St->Hp->Prop) (m:Nat) (σ:L2.St) (H1:Hp):Prop :=
 ∃ N:L2.St->Hp->Prop,(∀ σ' H',N σ' H'->∃ m',m'<m/\J m' σ' H')/\tb { D with nx:=N,ct:=N,bk:=D.nx } σ H1
theorem WhG.mk {tb:TS} {D:aa0} {J:Nat->L2.St->Hp->Prop} {m:Nat} {σ:L2.St} {H1:Hp} (h:tb { D with nx:=WgN J m,ct:=WgN J m,bk:=D.nx } σ H1):WhG tb D J m σ H1:=⟨_,λ_ _ n=>n,h⟩
theorem WgN.mk {J:Nat->L2.St->Hp->Prop} {m m':Nat} {σ:L2.St} {H:Hp} (l:m'<m) (h:J m' σ H):WgN J m σ H:=⟨_,l,h⟩
theorem bj4 {c:TT} {tb:TS} {D:aa0} {σ:L2.St} {H:Hp} (J:Nat->L2.St->Hp->Prop) (m0:Nat) (h0:J m0 σ H)
  (hs:∀ m σ H,J m σ H->c σ H λb H1=>if b=true then WhG tb D J m σ H1 else D.nx σ H1):af5 c tb D σ H:=⟨J,⟨_,h0⟩,hs⟩
structure LnR (qs:List Rat) (hair:Rat) (e s:Nat) (lo hi:Rat):Prop where
 up:V6 (shn hi qs)=true
 dn:V6 (shn lo qs)=false
 lt:lo<hi
 st:¬ hair<hi-lo
 lo':∃ z:Int,lo=q0e z (2 ^ e:Nat)
 hi':∃ z:Int,hi=q0e z (2 ^ e:Nat)
 bb:∃ h:Nat,h<=s+1/\-(2*2 ^ h)<=lo/\hi<=2*2 ^ h
 un:∃ (T:List Int) (c:Rat) (h:Nat),0<c/\qs=scl c T/\x9 T=1/\(h:Int)=hL T (qs.length-1) (qs.length-1)/\(lo,hi)=lnQ qs hair 60 (-(2*2 ^ h)) (2*2 ^ h)
theorem LnR.uniq {qs:List Rat} {hair lo hi lo' hi':Rat} {e s e' s':Nat} (h:LnR qs hair e s lo hi) (k:LnR qs hair e' s' lo' hi'):lo=lo'/\hi=hi':=by
 obtain ⟨T,c,n,c0,e1,g,hn,el⟩:=h.un;obtain ⟨T',c',n',c0',e1',g',hn',el'⟩:=k.un;have:=aW1 c0 c0' g g' (by rw [<- e1,<- e1'])
 subst this;have:n=n':=⋯;subst this;rw [<- el'] at el;exact ⟨congrArg Prod.fst el,congrArg Prod.snd el⟩
theorem bd2 (z:Int):k6 (z:Rat)=[.int z,.int 1]:=by
 unfold k6;rw [g0s,g0t];rfl
theorem aN6:k6 (1 / 2)=[.int 1,.int 2]:=by
 unfold k6;rw [show ((1 / 2:Rat)).num=1 from by decide +kernel,show ((1 / 2:Rat)).den=2 from by decide +kernel];rfl
theorem by9 (z:Int):ab (z:Rat)=((z.natAbs:Nat):Rat):=by
 have e1:(1:Rat)⁻¹=1:=by decide +kernel
 have e2:(z:Rat)=q0e z ((1:Nat):Int):=by
  rw [q0y,q0u]
  show (z:Rat)=z*(1:Rat)⁻¹;rw [e1];grind
 have:=am1 (z:=z) (B:=1) (by decide) e2
 have e:((1:Nat):Rat)=1:=rfl;rw [this,e];grind
theorem bD6 (m:Nat):((2 ^ m:Nat):Rat)=(2:Rat) ^ m:=by
 induction m with
 | zero=>rw [z0a];rfl
 | succ m ih =>
  rw [j0w,g0y,ih,q0r];rfl
theorem bq6 (h:Nat):∀ k:Nat,((2 ^ (h*k):Nat):Rat)=((2:Rat) ^ h) ^ k
 | 0=>by rw [z0a,q1e];rfl
 | k+1=>by rw [Nat.mul_add,z1r,z0u,g0y,bq6 h k,bD6,q0r]
theorem br5 (z:Int) (e:Nat):q0e (z*(2 ^ e:Nat)) (2 ^ e:Nat)=(z:Rat):=by
 have p:(0:Rat)<(((2 ^ e:Nat):Int):Rat):=j0r.mpr (ab3 e);rw [q0y,q0u,z0e,j0m,q0d _ (k8 p)];grind
theorem aU0 (h:Nat):((2*2 ^ h:Int):Rat)=2*2 ^ h:=by rw [z0e,y0t];rfl
theorem Hv.bd {qs:List Rat} {hair lo hi:Rat} {e h m:Nat} (H:Hv qs hair e h m lo hi) (h9:h<=9) (e20:e<=20) {x:Rat} (hx:∃ z:Int,x=q0e z (2 ^ e:Nat)) (h1:lo<=x) (h2:x<=hi):BdN 31 x:=by
 obtain ⟨z,hz⟩:=hx;have a:=br4 (h:=h) hz (z0t H.b1 h1) (z0t h2 H.b2);have b:=bg7 hz;have p1:2 ^ (h+1+e)<2 ^ 31:=y0u (by decide) ⋯
 have p2:2 ^ e<2 ^ 31:=y0u (by decide) ⋯
 exact ⟨⋯,⋯⟩
def bq2 (K:q0a):Sp:=λvs H Q _ => ∃ x y p q,vs=[x,y]/\Num K H x p/\Num K H y q/\BdN 2000 p/\BdN 2000 q/\au0 H Q ((p+q)*(1 / 2))
abbrev ai4:Stmt:=top 28
theorem aV7:i7 ["one","other"] ["one","other"] (c4 ai4):=by and_intros
theorem aW8 {f f1 f2:Addr} (d:Df K mg "middle" ai4 ["one","other"] f) (G_times:Def P w K mg base CX0 2 "times" f1 ["one","other"] (aq6 K (· * ·))) (G_plus:Def P w K mg base CX0 2 "plus" f2 ["one","other"] (aq6 K (· + ·))):Def P w K mg base CX0 3 "middle" f ["one","other"] (bq2 K):=by
 refine d.ok (N:=["one","other"]) aV7 (by rintro vs H Q E ⟨_,_,_,_,h,_⟩;rw [h];rfl) (λcdv A outer s H vs Q E hr h=>?_)
 obtain ⟨x,y,p,q,rfl,hx,hy,bp,bq,k⟩:=h;refine ⟨_,(c5 (i5 (c9 G_times hr (a7 (c9 G_plus hr (a7 (pv 0) (a7 (pv 1) a8)) d8) (a7 (l6 (a7 a9 (a7 a9 a8))) a8)) d8))),?_⟩;rw [show start ["one","other"] [x,y]=[some (x),some (y)] from rfl]
 subst_eqs
 refine ⟨_,_,p,q,rfl,hx,hy,bp.bd6 (by decide),bq.bd6 (by decide),λr1 H1 s1 e1=>⟨k7,λp2 hp2=>?_⟩⟩
 have S:=b9.new hp2 (.tup [.int 1,.int 2]);have e2:upd H1 p2 (.tup [.int 1,.int 2]) p2=some (.tup (k6 (1 / 2))):=by rw [aN6];exact b6
 exact ⟨_,_,p+q,1 / 2,rfl,⟨r1,rfl,SqT.of (S _ _ e1)⟩,⟨p2,rfl,SqT.of e2⟩,(bp.add bq).bd6 (by decide),⟨by decide +kernel,by decide +kernel⟩,λr3 H3 s3 e3=>k r3 H3 (s1.trans (S.trans s3)) e3⟩
def bb1 (K:q0a) (C:Addr):Sp:=λvs H Q E => ∃ (a:Addr) (x:V) (xs:List V) (qs:List Rat) (hair:Rat),vs=[.ref a,x]/\SqL K H a xs/\p7 H xs qs/\Num K H x hair/\BdN 100 hair/\(qs.length<2->∀ H1,b9 H H1->E (.ref C) none H1) /\
 (2<=qs.length->∃ (n B W e s:Nat) (g L:Rat),U3 qs n B g L/\(∀ q ∈ qs,OvB B W q)/\B<2 ^ W/\W<=200/\e<=20/\s<=8/\q0e 1 (2 ^ e:Nat)<=hair/\(∀ k,k<=n->aQ (dmL g n) (n-k)<=((2 ^ (s*k):Nat):Rat))/\∀ r al ah lo hi H',b9 H H'->H' r=some (.tup [.ref al,.ref ah])->H' al=some (.tup (k6 lo))->H' ah=some (.tup (k6 hi))->LnR qs hair e s lo hi->Q (.ref r) H')
abbrev ad1:Stmt:=top 44
theorem F5:i7 ["p","hair","wholes","bound","low","high","point"] ["p","hair"] (c4 ad1):=by and_intros
theorem aN3 {f f1 f2 f3 f4 f5 f6 C:Addr} (d:Df K mg "line_of" ad1 ["p","hair"] f) (GP_lifted:Def P w K mg base CX0 3 "lifted" f1 ["p"] (aw2 K)) (G_bound_of:Def P w K mg base CX0 1 "bound_of" f2 ["wholes"] (aG9 K)) (G_is_below:Def P w K mg base CX0 1 "is_below" f3 ["one","other"] (ah8 K)) (G_less:Def P w K mg base CX0 3 "less" f4 ["one","other"] (aq6 K (· - ·))) (G_middle:Def P w K mg base CX0 3 "middle" f5 ["one","other"] (bq2 K)) (G_all_below:Def P w K mg base CX0 3 "all_below" f6 ["wholes","number"] (bb5 K)) (x_NoPolynomial:ExT K mg "NoPolynomial" C) (n_len:mg "len" = none):Def P w K mg base (CXR P w) 4 "line_of" f ["p","hair"] (bb1 K C):=by
  refine d.okR (N:=["p","hair","wholes","bound","low","high","point"]) F5 (by rintro vs H Q E ⟨_,_,_,_,_,h,_⟩;rw [h];rfl) (λcdv A outer s H vs Q E hr h=>?_)
  obtain ⟨a,x,xs,qs,hair,rfl,hS,hN,hx,bh,k0,k1⟩:=h;have hu:=hr.units;have G_lifted:=GP_lifted
  refine ⟨_, (b7 (y7 (j9 aj1 (d5 j0 rfl n_len (by decide +kernel) (a7 (pv 0) a8)) a9 (l5 _)) (c5 (bc2 x_NoPolynomial.ox PySem.F.excBase_ValueError rfl rfl x_NoPolynomial.m aV8 (a7 Y6 a8))) o0)
      (b7 (i4 (i:=2) F5.nd rfl (Or.inl rfl) (j2 j6 (c9 G_lifted hr (a7 (pv 0) a8) d8) a9 (λ_ _=>rfl)))
      (b7 (i4 (i:=3) F5.nd rfl (Or.inl rfl) (c9 G_bound_of hr (a7 (pv 2) a8) d8))
      (b7 (Y2 (i:=4) (j:=5) rfl F5.nd rfl rfl (by decide) rfl rfl (a7 (l6 (a7 (E6 A7 (pv 3)) (a7 a9 a8))) (a7 (l6 (a7 (pv 3) (a7 a9 a8))) a8)) rfl)
      (b7 (PS.nox (ab0 PassesOwn.never (E4 (c9 G_is_below hr (a7 (pv 1) (a7 (c9 G_less hr (a7 (pv 5) (a7 (pv 4) a8)) d8) a8)) d8)) (b7 (i4 (i:=6) F5.nd rfl (Or.inl rfl) (c9 G_middle hr (a7 (pv 4) (a7 (pv 5) a8)) d8))
      (c5 (y7 (E4 (c9 G_all_below hr (a7 (pv 2) (a7 (pv 6) a8)) d8)) (c5 (i4 (i:=5) F5.nd rfl (Or.inl rfl) (pv 6))) (c5 (i4 (i:=4) F5.nd rfl (Or.inl rfl) (pv 6))))))))
      (c5 (i5 (l6 (a7 (pv 4) (a7 (pv 5) a8)))))))))),?_⟩
  rw [show start ["p","hair","wholes","bound","low","high","point"] [.ref a,x]=[some (.ref a),some (x),none,none,none,none,none] from rfl]
  have lx:=hN.length;refine d7 (λσ H1=>σ=[some (.ref a),some x,none,none,none,none,none]/\b9 H H1/\2<=qs.length) (λNn hN'=>?_) ?_
  · subst_eqs
    exact ⟨_,.inl hS,x8 (λh=>⟨af7,k0 ⋯ H (b9.refl _)⟩) (λh=>hN' _ _ ⟨rfl,b9.refl _,⋯⟩)⟩
  rintro σ H1 ⟨rfl,S1,l2⟩;obtain ⟨n,B,W,e,s,g,L,pw,ov,bB,w200,e20,s8,he,hd,k⟩:=k1 l2;refine d7 (λσ H2 => ∃ l T c,σ=[some (.ref a),some x,some (.ref l),none,none,none,none]/\b9 H H2/\H2 l=some (.lst (T.map V.int))/\0<c/\qs=scl c T/\x9 T=1/\(∀ v ∈ T,Int.natAbs v<2 ^ W)) (λNn hN'=>?_) ?_
  · subst_eqs
    have W1:1<=W:=Classical.byContradiction λz=>by
      have:W=0:=⋯;rw [this] at bB;have:=pw.b0;omega
    refine ⟨a,xs,qs,rfl,S1.seq hS,(hN.mono S1.tups).toC,W,ay3 pw.b0 bB ov,⋯,W1,by have:=pw.n7;have:=pw.len;omega,pw.tl,λr rs l c T H2 s2 fl er es el bs s0 bT lT eq gT sp=>⟨r,rfl,_,SqT.of er,_,rfl,hN' _ _ ⟨l,T,c,rfl,S1.trans s2,el,sp,eq,gT λz=>?_,bT⟩⟩⟩
    rw [z] at lT
    simp at lT
    omega
  rintro σ H2 ⟨l,T,c,rfl,S2,el,c0,eq,gT,bT⟩;have c00:=k8 c0;have lT:T.length=n+1:=by rw [<- ao9 c T,<- eq,pw.len]
  have eT:∀ k,aQ qs k=c*((aZ T k:Int):Rat):=λk=>by rw [eq,aF9]
  have T0:aZ T n ≠ 0:=λz=>pw.top (by rw [eT,z];show c*0=0;grind)
  refine d7 (λσ H3 => ∃ h:Nat,σ=[some (.ref a),some x,some (.ref l),some (.int (2*2 ^ h)),none,none,none]/\H3=H2/\h<=s+1/\(h:Int)=hL T n n/\aG3 qs n (2 ^ h)) (λNn hN'=>?_) ?_
  · subst_eqs
    have ca:=pw.cau hd;have r2:∀ z:Int,ab (c*(z:Rat))=c*((z.natAbs:Nat):Rat):=λz=>by rw [D5,by9,show ab c=c from if_pos (Rat.le_of_lt c0)]
    have n7:=pw.n7;refine ⟨l,T,n,s,rfl,SqL.of el,lT,⋯,⋯,T0,λk k1 kn=>?_,λh hs hh hb=>hN' _ _ ⟨h,rfl,rfl,hs,hh,pw.len,⋯,pw.top,Rat.pow_pos (by decide),λk k1 kn=>?_⟩⟩
    · have:=ca k kn
      rw [eT,eT,r2,r2] at this;refine Rat.natCast_le_natCast.mp ?_;rw [Rat.natCast_mul];exact bl9 (c:=c) (by grind) c0
    · have:=mle (Rat.natCast_le_natCast.mpr (hb k k1 kn)) (Rat.le_of_lt c0)
      rw [Rat.natCast_mul,bq6] at this;rw [eT,eT,r2,r2]
      grind
  rintro σ H3 ⟨h,rfl,rfl,hs,hh,ca⟩;refine d7 (λσ H4 => ∃ al ah,σ=[some (.ref a),some x,some (.ref l),some (.int (2*2 ^ h)),some (.ref al),some (.ref ah),none]/\b9 H H4/\H4 al=some (.tup (k6 (-(2*2 ^ h))))/\H4 ah=some (.tup (k6 (2*2 ^ h)))/\H4 l=some (.lst (T.map V.int))) (λNn hN'=>?_) ?_
  · subst_eqs
    refine ⟨k7,λp hp=>⟨k7,λp1 hp1=>?_⟩⟩;have S5:=b9.new hp (.tup [.int (-(2*2 ^ h)),.int 1]);have S6:=b9.new hp1 (.tup [.int (2*2 ^ h),.int 1]);refine hN' _ _ ⟨p,p1,rfl,S2.trans (S5.trans S6),?_,?_,S6 _ _ (S5 _ _ el)⟩
    · rw [show (-(2*2 ^ h):Rat)=((-(2*2 ^ h):Int):Rat) by rw [Rat.intCast_neg,aU0],bd2]
      exact S6 _ _ b6
    · rw [<- aU0,bd2]
      exact b6
  rintro σ H4 ⟨al0,ah0,rfl,S4,el0,eh0,eT4⟩;have n7:=pw.n7;have h9:h<=9:=⋯
  have hv0:Hv qs hair e h (h+2+e) (-(2*2 ^ h)) (2*2 ^ h):=by
    refine ⟨ca.up,ca.down pw.n1,⟨-(2*2 ^ h)*(2 ^ e:Nat),?_⟩,?_,Rat.le_refl,Rat.le_refl⟩
    · rw [br5,Rat.intCast_neg,aU0]
    · have e1 : (((2 ^ (h + 2 + e) : Nat) : Nat) : Int) = (2 * (2 * 2 ^ h)) * ((2 ^ e : Nat) : Int) := by
        rw [Nat.pow_add,Int.natCast_mul,Nat.pow_succ,Nat.pow_succ,Int.natCast_mul,Int.natCast_mul,Int.natCast_pow]
        show (2:Int) ^ h*2*2*_=_
        congr 1;omega
      rw [e1,br5,Rat.intCast_mul,aU0]
      show _=(2:Rat)*_
      grind
  obtain ⟨F,hF⟩:∃ F,F+(h+2+e)=60:=⟨60-(h+2+e),⋯⟩;refine d7 (λσ H5 => ∃ al ah o lo hi,σ=[some (.ref a),some x,some (.ref l),some (.int (2*2 ^ h)),some (.ref al),some (.ref ah),o]/\b9 H H5/\H5 al=some (.tup (k6 lo))/\H5 ah=some (.tup (k6 hi))/\LnR qs hair e s lo hi) (λNn hN'=>?_) ?_
  · show af5 _ _ _ _ _
    obtain ⟨J,hJ⟩:∃ J:Nat->L2.St->Hp->Prop,∀ m σ H5,J m σ H5 ↔ ∃ al ah o lo hi,σ=[some (.ref a),some x,some (.ref l),some (.int (2*2 ^ h)),some (.ref al),some (.ref ah),o]/\b9 H H5/\H5 l=some (.lst (T.map V.int))/\H5 al=some (.tup (k6 lo))/\H5 ah=some (.tup (k6 hi))/\Hv qs hair e h m lo hi/\lnQ qs hair (m+F) lo hi=lnQ qs hair 60 (-(2*2 ^ h)) (2*2 ^ h):=⟨_,λ_ _ _=>Iff.rfl⟩;refine bj4 J (h+2+e) ((hJ _ _ _).mpr ⟨al0,ah0,_,_,_,rfl,S4,eT4,el0,eh0,hv0,by rw [show h+2+e+F=60 by omega]⟩) ?_
    intro m σ H5 hm;obtain ⟨al,ah,o,lo,hi,rfl,S5,eT5,el5,eh5,hv,elq⟩:=(hJ _ _ _).mp hm;have ltv:=hv.lt;have bl:=hv.bd h9 e20 hv.lo' Rat.le_refl (Rat.le_of_lt ltv);have bhh:=hv.bd h9 e20 hv.hi' (Rat.le_of_lt ltv) Rat.le_refl
    subst_eqs
    refine ⟨_,_,_,_,rfl,⟨ah,rfl,SqT.of eh5⟩,⟨al,rfl,SqT.of el5⟩,bhh.bd6 (by decide),bl.bd6 (by decide),λr5 H6 s6 e6=>?_⟩
    have S6:=S5.trans s6;refine ⟨_,_,hair,_,rfl,hx.same S6,⟨r5,rfl,SqT.of e6⟩,bh.mono (by decide),(bhh.sub bl).mono (by decide),_,rfl,x8 (λhl=>WhG.mk ?_) (λhl=>?_)⟩
    · rw [decide_eq_true_eq] at hl
      cases m with
      | zero=>exact absurd hl (hv.last he)
      | succ m =>
        obtain ⟨m1,m2,m3⟩:=hv.mid;have pd:=bg8 (m:=m) (e:=e);have bm:=hv.bd h9 e20 m3 (by grind) (by grind)
        subst_eqs
        refine ⟨_,_,_,_,rfl,⟨al,rfl,SqT.of (s6 _ _ el5)⟩,⟨ah,rfl,SqT.of (s6 _ _ eh5)⟩,bl.mono (by decide),bhh.mono (by decide),λr6 H7 s7 e7=>?_⟩
        have S7:=S6.trans s7;have s67:=s6.trans s7;refine ⟨l,.ref r6,T,n,W,31,_,c,rfl,SqL.of (s67 _ _ eT5),lT,n7,T0,bT,w200,⟨r6,rfl,SqT.of e7⟩,bm,by decide,c00,λH8 s8=>⟨_,rfl,?_⟩⟩
        rw [<- eq];have s68:=s67.trans s8;have em:m+1+F=m+F+1:=⋯;rw [em] at elq;refine x8 (λhd=>?_) (λhd=>?_)
        · exact WgN.mk (m':=m) ⋯ ((hJ _ _ _).mpr ⟨al,r6,_,_,_,rfl,S7.trans s8,s68 _ _ eT5,s68 _ _ el5,s8 _ _ e7,hv.left hd,by rw [<- elq,be2 hl hd]⟩)
        · have hd':=Bool.eq_false_iff.mpr hd
          exact WgN.mk (m':=m) ⋯ ((hJ _ _ _).mpr ⟨r6,ah,_,_,_,rfl,S7.trans s8,s68 _ _ eT5,s8 _ _ e7,s68 _ _ eh5,hv.right hd',by rw [<- elq,aX4 hl hd']⟩)
    · rw [decide_eq_true_eq] at hl
      rw [be1 hl] at elq;refine hN' _ _ ⟨al,ah,o,lo,hi,rfl,S6,s6 _ _ el5,s6 _ _ eh5,hv.up,hv.dn,ltv,hl,hv.lo',hv.hi',⟨h,hs,hv.b1,hv.b2⟩,T,c,h,c0,eq,gT,?_,elq⟩;rw [pw.len,Nat.add_sub_cancel];exact hh
  rintro σ H5 ⟨al,ah,o,lo,hi,rfl,S5,el5,eh5,R⟩
  subst_eqs
  refine ⟨k7,λp hp=>?_⟩;have S:=b9.new hp (.tup [.ref al,.ref ah]);exact k p al ah lo hi _ (S5.trans S) b6 (S _ _ el5) (S _ _ eh5) R
def ae4 (j i:Nat):List V:=[V.bl (decide (j=i)),V.bl (decide (j=i+1)),V.bl (decide (j=i+2)),V.bl (decide (j=i+3))]
abbrev N9:Stmt:=top 65
theorem C3:i7 ["_law_e","_law_told","_law_names"] ["_law_e"] (c4 N9):=by and_intros
theorem av1 {a:CAd} {f:Addr} (d:Df K mg "_law_which" N9 ["_law_e"] f) (X:XTx K mg a) (n_isinstance:mg "isinstance" = none) (n_ValueError:mg "ValueError" = none):bp5 P w K mg base 1 "_law_which" f ["_law_e"] (aA2 K a):=by
  obtain ⟨x_NoFraction,x_NoPolynomial,x_NoStretch,x_NoRow,x_NoPair,x_NoBack,x_NoForm,x_NoParts,x_NoDegree,x_NoSteps,x_NoBox,x_NoGain,x_NoText,x_NoLine,x_NoName,x_NoDeed⟩:=X;refine d.okX (N:=["_law_e","_law_told","_law_names"]) C3 (λvs H Q E ⟨u,q,j,h,_⟩=>by rw [h];rfl) (λcdv A outer s H vs Q E hr h=>?_)
  obtain ⟨e,C,j,rfl,kt,hj,he,k⟩:=h
  refine ⟨_, (b7 (i4 (i := 1) C3.nd rfl (Or.inl rfl) (t8 (a7 (d5 j5 rfl n_isinstance (by decide +kernel) (a7 (pv 0) (a7 (y0 (v := .ref _) rfl x_NoFraction.m rfl) a8))) (a7 (d5 j5 rfl n_isinstance (by decide +kernel) (a7 (pv 0) (a7 (y0 (v := .ref _) rfl x_NoPolynomial.m rfl) a8))) (a7 (d5 j5 rfl n_isinstance (by decide +kernel) (a7 (pv 0) (a7 (y0 (v := .ref _) rfl x_NoStretch.m rfl) a8))) (a7 (d5 j5 rfl n_isinstance (by decide +kernel) (a7 (pv 0) (a7 (y0 (v := .ref _) rfl x_NoRow.m rfl) a8))) a8))))))
      (b7 (i4 (i:=1) C3.nd rfl (Or.inl rfl) (d4 af9 (pv 1) (t8 (a7 (d5 j5 rfl n_isinstance (by decide +kernel) (a7 (pv 0) (a7 (y0 (v:=.ref _) rfl x_NoPair.m rfl) a8))) (a7 (d5 j5 rfl n_isinstance (by decide +kernel) (a7 (pv 0) (a7 (y0 (v:=.ref _) rfl x_NoBack.m rfl) a8))) (a7 (d5 j5 rfl n_isinstance (by decide +kernel) (a7 (pv 0) (a7 (y0 (v:=.ref _) rfl x_NoForm.m rfl) a8))) (a7 (d5 j5 rfl n_isinstance (by decide +kernel) (a7 (pv 0) (a7 (y0 (v:=.ref _) rfl x_NoParts.m rfl) a8))) a8)))))))
      (b7 (i4 (i:=1) C3.nd rfl (Or.inl rfl) (d4 af9 (pv 1) (t8 (a7 (d5 j5 rfl n_isinstance (by decide +kernel) (a7 (pv 0) (a7 (y0 (v:=.ref _) rfl x_NoDegree.m rfl) a8))) (a7 (d5 j5 rfl n_isinstance (by decide +kernel) (a7 (pv 0) (a7 (y0 (v:=.ref _) rfl x_NoSteps.m rfl) a8))) (a7 (d5 j5 rfl n_isinstance (by decide +kernel) (a7 (pv 0) (a7 (y0 (v:=.ref _) rfl x_NoBox.m rfl) a8))) (a7 (d5 j5 rfl n_isinstance (by decide +kernel) (a7 (pv 0) (a7 (y0 (v:=.ref _) rfl x_NoGain.m rfl) a8))) a8)))))))
      (b7 (i4 (i:=1) C3.nd rfl (Or.inl rfl) (d4 af9 (pv 1) (t8 (a7 (d5 j5 rfl n_isinstance (by decide +kernel) (a7 (pv 0) (a7 (y0 (v:=.ref _) rfl x_NoText.m rfl) a8))) (a7 (d5 j5 rfl n_isinstance (by decide +kernel) (a7 (pv 0) (a7 (y0 (v:=.ref _) rfl x_NoLine.m rfl) a8))) (a7 (d5 j5 rfl n_isinstance (by decide +kernel) (a7 (pv 0) (a7 (y0 (v:=.ref _) rfl x_NoName.m rfl) a8))) (a7 (d5 j5 rfl n_isinstance (by decide +kernel) (a7 (pv 0) (a7 (y0 (v:=.ref _) rfl x_NoDeed.m rfl) a8))) a8)))))))
      (b7 (i4 (i:=2) C3.nd rfl (Or.inl rfl) Y6)
      (b7 (y7 (PW.pt (T8 (j9 aI0 (aR3 PySem.F.plainAttrs_list PySem.F.slot_list_count PySem.F.type_list_count bd9 (pv 1) (a7 M4 a8)) a9 (l5 _)) (Y1 (N1 (E4 (d5 j5 rfl n_isinstance (by decide +kernel) (a7 (pv 0) (a7 (aj0 (v:=.ty "ValueError") rfl n_ValueError (by decide +kernel) rfl) a8)))))))) (c5 (i5 Y6)) o0)
      (c5 (i5 (j2 m8 (aR3 PySem.F.plainAttrs_str PySem.F.slot_str_split PySem.F.type_str_split bd7 (pv 2) (a7 Y6 a8)) (aR3 PySem.F.plainAttrs_list PySem.F.slot_list_index PySem.F.type_list_index bd8 (pv 1) (a7 M4 a8)) (λ_ _=>rfl)))))))))),?_⟩
  rw [show start ["_law_e","_law_told","_law_names"] [.ref e]=[some (.ref e),none,none] from rfl]
  have ty:∀ {H':Hp},b9 H H'->TyX K H' (.ref e) (.ref C):=λsm=>.exc (sm _ _ he) kt.ec;refine d7 (λσ H1 => ∃ l,σ=[some (.ref e),some (.ref l),none]/\b9 H H1/\H1 l=some (.lst (ae4 j 0))) (λN hN=>?_) ?_
  · subst_eqs
    exact ⟨trivial,_,ty (b9.refl _),_,kt.k_NoFraction,trivial,_,ty (b9.refl _),_,kt.k_NoPolynomial,trivial,_,ty (b9.refl _),_,kt.k_NoStretch,trivial,_,ty (b9.refl _),_,kt.k_NoRow,by decide,λl h=>hN _ _ ⟨l,rfl,b9.new h _,b6⟩⟩
  rintro σ H1 ⟨l1,rfl,sA1,eA1⟩;refine d7 (λσ H2 => ∃ l,σ=[some (.ref e),some (.ref l),none]/\b9 H H2/\H2 l=some (.lst (ae4 j 0 ++ ae4 j 4))) (λN hN=>?_) ?_
  · subst_eqs
    exact ⟨trivial,_,ty sA1,_,kt.k_NoPair,trivial,_,ty sA1,_,kt.k_NoBack,trivial,_,ty sA1,_,kt.k_NoForm,trivial,_,ty sA1,_,kt.k_NoParts,by decide,λp hp=>⟨_,(i9 (i6 eA1 hp)).trans eA1,_,b6,(show (8:Nat)<=sizeLine from by decide),λl h=>hN _ _ ⟨l,rfl,(sA1.trans (b9.new hp _)).trans (b9.new h _),b6⟩⟩⟩
  rintro σ H2 ⟨l2,rfl,sA2,eA2⟩;refine d7 (λσ H2 => ∃ l,σ=[some (.ref e),some (.ref l),none]/\b9 H H2/\H2 l=some (.lst (ae4 j 0 ++ ae4 j 4 ++ ae4 j 8))) (λN hN=>?_) ?_
  · subst_eqs
    exact ⟨trivial,_,ty sA2,_,kt.k_NoDegree,trivial,_,ty sA2,_,kt.k_NoSteps,trivial,_,ty sA2,_,kt.k_NoBox,trivial,_,ty sA2,_,kt.k_NoGain,by decide,λp hp=>⟨_,(i9 (i6 eA2 hp)).trans eA2,_,b6,(show (12:Nat)<=sizeLine from by decide),λl h=>hN _ _ ⟨l,rfl,(sA2.trans (b9.new hp _)).trans (b9.new h _),b6⟩⟩⟩
  rintro σ H3 ⟨l3,rfl,sA3,eA3⟩;refine d7 (λσ H2 => ∃ l,σ=[some (.ref e),some (.ref l),none]/\b9 H H2/\H2 l=some (.lst (ae4 j 0 ++ ae4 j 4 ++ ae4 j 8 ++ ae4 j 12))) (λN hN=>?_) ?_
  · subst_eqs
    exact ⟨trivial,_,ty sA3,_,kt.k_NoText,trivial,_,ty sA3,_,kt.k_NoLine,trivial,_,ty sA3,_,kt.k_NoName,trivial,_,ty sA3,_,kt.k_NoDeed,by decide,λp hp=>⟨_,(i9 (i6 eA3 hp)).trans eA3,_,b6,(show (16:Nat)<=sizeLine from by decide),λl h=>hN _ _ ⟨l,rfl,(sA3.trans (b9.new hp _)).trans (b9.new h _),b6⟩⟩⟩
  rintro σ H4 ⟨l4,rfl,sA4,eA4⟩;have eT:H4 l4=some (.lst (aG5 j)):=eA4;clear eA4
  subst_eqs
  refine ⟨.inl ⟨_,SqL.of eT⟩,_,eT,rfl,aw1 j hj,rfl,?_⟩;rw [aL3 j hj];refine x8 (λhh=>absurd rfl hh) (λ_=>?_);refine ⟨trivial,_,ty sA4,_,kt.kV,?_⟩;refine x8 (λhh=>absurd hh (by decide)) (λ_=>?_)
  refine ⟨by decide +kernel,by decide +kernel,by decide +kernel,by decide +kernel,by rw [am9];decide,λl hl=>?_⟩
  have eT':(upd H4 l (.lst ((ad4 "fraction polynomial stretch row pair back form parts degree steps box gain text line name deed" " ").map V.str))) l4=some (.lst (aG5 j)):=(i9 (i6 eT hl)).trans eT
  refine ⟨.inl ⟨_,SqL.of eT'⟩,_,eT',rfl,aw1 j hj,_,aZ7 j hj,_,SqL.of b6,_,bl8 hj,?_⟩;exact k _ (sA4.trans (b9.new hl _))
abbrev S9:Stmt:=top 50
theorem aB1:i7 ["_law_one","_law_other_here"] ["_law_one","_law_other_here"] (c4 S9):=by and_intros
theorem aD1 {f fl:Addr} (d:Df K mg "_law_less" S9 ["_law_one","_law_other_here"] f) (G__law_low:Def P w K mg base CX0 1 "_law_low" fl ["_law_top","_law_bottom"] am8):Def P w K mg base CX0 2 "_law_less" f ["_law_one","_law_other_here"] (K1 K (· - ·)):=by
 refine d.ok (N:=["_law_one","_law_other_here"]) aB1 (by rintro vs H Q E ⟨x,y,p,q,m,n,h,_⟩;rw [h];rfl) (λcdv A outer s H vs Q E hr h=>?_)
 obtain ⟨x,y,p,q,m,n,rfl,⟨ap,rfl,hp⟩,⟨aq,rfl,hq⟩,bp,bq,hmn,k⟩:=h;refine ⟨_,(c5 (i5 (c9 G__law_low hr (a7 (d4 A8 (d4 m6 (j2 j6 (pv 0) a9 (λ_ _=>rfl)) (j2 j6 (pv 1) a9 (λ_ _=>rfl))) (d4 m6 (j2 j6 (pv 1) a9 (λ_ _=>rfl)) (j2 j6 (pv 0) a9 (λ_ _=>rfl)))) (a7 (d4 m6 (j2 j6 (pv 0) a9 (λ_ _=>rfl)) (j2 j6 (pv 1) a9 (λ_ _=>rfl))) a8)) d8))),?_⟩;rw [show start ["_law_one","_law_other_here"] [.ref ap,.ref aq]=[some (.ref ap),some (.ref aq)] from rfl]
 subst_eqs
 refine ⟨_,hp,_,at0 p,_,hq,_,at1 q,_,rfl,_,rfl,B6 bp.n bq.d' ⋯,_,hq,_,at0 q,_,hp,_,at1 p,_,rfl,_,rfl,B6 bq.n bp.d' ⋯,_,hp,_,at1 p,_,hq,_,at1 q,_,rfl,_,rfl,B6 bp.d' bq.d' ⋯,?_⟩;refine ⟨_,_,rfl,ap7 p q,by3 bp bq hmn,?_⟩;rw [<- aL7];exact k
def aQ1 (K:q0a):Sp:=λvs H Q _ => ∃ (x y:V) (p q:Rat) (m n:Nat),vs=[x,y]/\Num K H x p/\Num K H y q/\BtN m p/\q ≠ 0/\q.num.natAbs<2 ^ n/\q.den<2 ^ 20000/\m+n<=6000/\au0 H Q (p / q)
abbrev R9:Stmt:=top 52
theorem aB0:i7 ["_law_one","_law_other_here"] ["_law_one","_law_other_here"] (c4 R9):=by and_intros
theorem aD0 {f fl:Addr} (d:Df K mg "_law_over" R9 ["_law_one","_law_other_here"] f) (G__law_low:Def P w K mg base CX0 1 "_law_low" fl ["_law_top","_law_bottom"] am8):Def P w K mg base CX0 2 "_law_over" f ["_law_one","_law_other_here"] (aQ1 K):=by
 refine d.ok (N:=["_law_one","_law_other_here"]) aB0 (by rintro vs H Q E ⟨x,y,p,q,m,n,h,_⟩;rw [h];rfl) (λcdv A outer s H vs Q E hr h=>?_)
 obtain ⟨x,y,p,q,m,n,rfl,⟨ap,rfl,hp⟩,⟨aq,rfl,hq⟩,bp,q0,bq,bd,hmn,k⟩:=h;refine ⟨_,(c5 (i5 (c9 G__law_low hr (a7 (d4 m6 (j2 j6 (pv 0) a9 (λ_ _=>rfl)) (j2 j6 (pv 1) a9 (λ_ _=>rfl))) (a7 (d4 m6 (j2 j6 (pv 0) a9 (λ_ _=>rfl)) (j2 j6 (pv 1) a9 (λ_ _=>rfl))) a8)) d8))),?_⟩;rw [show start ["_law_one","_law_other_here"] [.ref ap,.ref aq]=[some (.ref ap),some (.ref aq)] from rfl]
 have bd':(q.den:Int).natAbs<2 ^ 20000:=by rw [q0m];exact bd
 subst_eqs
 refine ⟨_,hp,_,at0 p,_,hq,_,at1 q,_,rfl,_,rfl,B6 bp.n bd' ⋯,_,hp,_,at1 p,_,hq,_,at0 q,_,rfl,_,rfl,B6 bp.d' bq ⋯,?_⟩;refine ⟨_,_,rfl,g0u (q1a (k9 p)) (λz=>q0 (P6.mp z)),?_,?_⟩
 ·rw [z0b]
  have:=j0b bp.d' bq;rw [<- z0u] at this;exact q0b this (c6 hmn)
 ·rw [<- at2]
  exact k
def NK (kd:Int) (q:Rat):Prop:=if kd=2 then BdN 40 q else if kd=0 then OvB 60 10 q else OvB 1 4 q
theorem bA9 {t d:Int} (h1:1<=d) (h6:d<=6) (h:t.natAbs<=9):OvB 60 10 (q0e t d):=by
 have h0:d=1 \/ d=2 \/ d=3 \/ d=4 \/ d=5 \/ d=6:=⋯;rcases h0 with rfl | rfl | rfl | rfl | rfl | rfl
 ·exact ⟨t*60,(z0w (by decide) (by decide)).mpr ⋯,⋯⟩
 ·exact ⟨t*30,(z0w (by decide) (by decide)).mpr ⋯,⋯⟩
 ·exact ⟨t*20,(z0w (by decide) (by decide)).mpr ⋯,⋯⟩
 ·exact ⟨t*15,(z0w (by decide) (by decide)).mpr ⋯,⋯⟩
 ·exact ⟨t*12,(z0w (by decide) (by decide)).mpr ⋯,⋯⟩
 ·exact ⟨t*10,(z0w (by decide) (by decide)).mpr ⋯,⋯⟩
theorem ov1 {t:Int} (h:t.natAbs<=9):OvB 1 4 (q0e t 1):=⟨t,rfl,⋯⟩
theorem NK.ovb0 {q:Rat} (h:NK 0 q):OvB 60 10 q:=by unfold NK at h;rw [if_neg (by decide),if_pos rfl] at h;exact h
theorem NK.ovb1 {q:Rat} (h:NK 1 q):OvB 1 4 q:=by unfold NK at h;rw [if_neg (by decide),if_neg (by decide)] at h;exact h
theorem bC8 {t b:Int} (hb:b ≠ 0) (h1:t.natAbs<=9) (h2:b.natAbs<=7):BdN 4 (q0e t b):=by
 have:=C4 (t:=t) hb;exact ⟨q0k this.1 ⋯,q0k this.2 ⋯⟩
def U5:Sp:=λvs H Q _ => ∃ u kd,vs=[.ref u,.int kd]/\p8 H u/\∀ r q H',NK kd q->p9 u H H'->p8 H' u->H' r=some (.tup (k6 q))->Q (.ref r) H'
theorem ao2 {f fd fl:Addr} (d:Df K mg "_law_number" L6 ["_law_urn_here","_law_kind_here"] f) (G__law_draw:Def P w K mg base CX0 1 "_law_draw" fd ["_law_urn_here","_law_many"] F4) (G__law_low:Def P w K mg base CX0 1 "_law_low" fl ["_law_top","_law_bottom"] am8) (n_int:mg "int" = none):Def P w K mg base CX0 2 "_law_number" f ["_law_urn_here","_law_kind_here"] U5:=by
 refine d.ok (N:=["_law_urn_here","_law_kind_here","_law_top"]) aa5 (λvs H Q E ⟨u,kd,h,_⟩=>by rw [h];rfl) (λcdv A outer s H vs Q E hr h=>?_)
 obtain ⟨u,kd,rfl,hu,k⟩:=h
 refine ⟨_,(b7 (y7 (j9 an0 (pv 1) a9 (l5 _)) (b7 (i4 (i:=2) aa5.nd rfl (j0a rfl) (d4 D3 (d4 m6 (c9 G__law_draw hr (a7 (pv 0) (a7 (d4 ab4 a9 a9) a8)) d8) (d4 ab4 a9 a9)) (c9 G__law_draw hr (a7 (pv 0) (a7 (d4 ab4 a9 a9) a8)) d8)))
   (c5 (i5 (c9 G__law_low hr (a7 (d4 m6 (pv 2) (j2 m8 (t8 (a7 a9 (a7 (E6 A7 a9) a8))) (c9 G__law_draw hr (a7 (pv 0) (a7 a9 a8)) d8) (λ_ _=>rfl))) (a7 (d4 D3 a9 (d4 m6 (c9 G__law_draw hr (a7 (pv 0) (a7 (d4 ab4 a9 a9) a8)) d8) (d4 ab4 a9 a9))) a8)) d8)))) o0)
   (c5 (i5 (c9 G__law_low hr (a7 (d4 A8 (c9 G__law_draw hr (a7 (pv 0) (a7 a9 a8)) d8) a9) (a7 (d4 D3 a9 (d4 m6 (c9 G__law_draw hr (a7 (pv 0) (a7 a9 a8)) d8) (O9 am5 rfl n_int (by decide +kernel) (a7 (Y7 an0 (pv 1) a9 (l5 _)) a8)))) a8)) d8)))),?_⟩
 rw [show start ["_law_urn_here","_law_kind_here","_law_top"] [.ref u,.int kd]=[some (.ref u),some (.int kd),none] from rfl]
 have e10:(10:Int) ^ g0f 6=1000000:=by decide
 simp! [F4,aV6]
 refine x8 (λhk2=>?_) (λhk2=>?_)
 ·refine ⟨⟨by decide,by decide,by decide⟩,hu,by decide,by decide,λr2 H2 a2 b2 s2 u2=>?_⟩
  refine ⟨⟨by decide,by decide,by decide⟩,aI9 (by decide),⟨by decide,by decide,by decide⟩,u2,by decide,by decide,λr3 H3 a3 b3 s3 u3=>?_⟩
  refine ⟨by decide,λl hl=>⟨G0 u3 hl,by decide,by decide,λr4 H4 a4 b4 s4 u4=>?_⟩⟩
  have e:=s4 l _ b6 (V9 u3 hl);have b2':r2<1000000:=b2;have b3':r3<1000000:=b3;have sx:p9 u H H4:=s2.trans (s3.trans (p9.trans (b9.x (b9.new hl _) u) s4))
  have fin:∀ sg:Int,sg=1 \/ sg=-1->(bp6 10 6/\p8 H4 u/\0<(10:Int) ^ g0f 6/\(10:Int) ^ g0f 6<2 ^ 40/\∀ (r:Int) (H':Hp),0<=r->r<10 ^ g0f 6->p9 u H4 H'->p8 H' u ->
    bp6 10 6/\IntMulOk r (10 ^ g0f 6)/\am8 [V.int ((r2*10 ^ g0f 6+r3)*sg),V.int (1+r*10 ^ g0f 6)] H' Q E0):=by
   intro sg hsg;refine ⟨⟨by decide,by decide,by decide⟩,u4,by decide,by decide,λr5 H5 a5 b5 s5 u5=>⟨⟨by decide,by decide,by decide⟩,aI9 (by decide),?_⟩⟩
   rw [e10] at b5 ⊢;refine ⟨_,_,rfl,⋯,q0b (show (1+r5*1000000).natAbs<2 ^ 64 by omega) (c6 (by decide)),λr H' sm hr'=>?_⟩
   refine k r _ H' (by unfold NK;rw [if_pos hk2];refine (bA3 ⋯ ?_ ⋯).bdN;rcases hsg with h | h <;> subst h <;> omega) (sx.trans (s5.trans (b9.x sm u))) (b9.urn sm u5) hr'
  have h3:r4=0 \/ r4=1:=⋯;rcases h3 with h | h <;> subst h
  ·exact ⟨_,SqL.of e,_,rfl,_,rfl,aI9 (by decide),fin 1 (.inl rfl)⟩
  ·exact ⟨_,SqL.of e,_,rfl,_,rfl,aI9 (by decide),fin (-1) (.inr rfl)⟩
 ·refine ⟨hu,by decide,by decide,λr2 H2 a2 b2 s2 u2=>⟨u2,by decide,by decide,λr3 H3 a3 b3 s3 u3=>⟨bB3 ⋯,?_⟩⟩⟩
  have hz:∃ z:Int,z=r3*(if kd=0 then 1 else 0)/\0<=z/\z<=5/\(kd ≠ 0->z=0):=by
   refine ⟨_,rfl,?_,?_,?_⟩
   ·split <;> omega
   ·split <;> omega
   ·intro h;rw [if_neg h,z1n]
  obtain ⟨z,ez,z0,z6,zk⟩:=hz;rw [<- ez];refine ⟨_,_,rfl,⋯,q0b (show (1+z).natAbs<2 ^ 64 by omega) (c6 (by decide)),λr H' sm hr'=>?_⟩
  exact k r _ H' (by
   unfold NK;rw [if_neg hk2]
   by_cases h0:kd=0
   ·rw [if_pos h0];exact bA9 ⋯ ⋯ ⋯
   ·rw [if_neg h0,zk h0];exact ov1 ⋯) (s2.trans (s3.trans (b9.x sm u))) (b9.urn sm u3) hr'
def ah5:Sp:=λvs H Q _ => ∃ u kd,vs=[.ref u,.int kd]/\p8 H u/\∀ r q H',NK kd q->q ≠ 0->p9 u H H'->p8 H' u->H' r=some (.tup (k6 q))->Q (.ref r) H'
theorem as0 {f fd fl:Addr} (d:Df K mg "_law_other" O1 ["_law_urn_here","_law_kind_here"] f) (G__law_draw:Def P w K mg base CX0 1 "_law_draw" fd ["_law_urn_here","_law_many"] F4) (GD__law_number:Def P w K mg base CX0 2 "_law_number" fl ["_law_urn_here","_law_kind_here"] U5):Def P w K mg base CX0 3 "_law_other" f ["_law_urn_here","_law_kind_here"] ah5:=by
 refine d.ok (N:=["_law_urn_here","_law_kind_here","_law_found"]) ae7 (λvs H Q E ⟨u,kd,h,_⟩=>by rw [h];rfl) (λcdv A outer s H vs Q E hr h=>?_)
 obtain ⟨u,kd,rfl,hu,k⟩:=h;have G__law_number:=GD__law_number
 refine ⟨_,(b7 (i4 (i:=2) ae7.nd rfl (j0a rfl) (c9 G__law_number hr (a7 (pv 0) (a7 (pv 1) a8)) d8))
   (b7 (y7 (j9 an0 (j2 j6 (pv 2) a9 (λ_ _=>rfl)) a9 (l5 _)) (c5 (i5 (l6 (a7 (d4 D3 a9 (c9 G__law_draw hr (a7 (pv 0) (a7 a9 a8)) d8)) (a7 a9 a8))))) o0)
   (c5 (i5 (pv 2))))),?_⟩
 rw [show start ["_law_urn_here","_law_kind_here","_law_found"] [.ref u,.int kd]=[some (.ref u),some (.int kd),none] from rfl]
 simp! [F4]
 refine ⟨u,kd,rfl,hu,λr q H1 sm s1 u1 e1=>?_⟩;refine ⟨r,rfl,_,SqT.of e1,_,at0 q,rfl,x8 (λ_=>?_) (λhn=>?_)⟩
 ·refine ⟨u1,by decide,by decide,λr2 H2 a2 b2 s2 u2=>⟨k7,λl hl=>?_⟩⟩
  have hd:=Y9 (n:=1+r2) (d:=1) (by decide) (by simp)
  refine k l (q0e (1+r2) 1) _ (by
   unfold NK
   split
   ·exact (bC8 (by decide) ⋯ (by decide)).mono (by decide)
   ·split
    ·exact bA9 (by decide) (by decide) ⋯
    ·exact ov1 ⋯) ?_ (s1.trans (s2.trans (b9.x (b9.new hl _) u))) (G0 u2 hl) ?_
  ·intro z
   rw [z] at hd;have:(0:Rat).num=0:=rfl;omega
  ·rw [b6]
   unfold k6;rw [hd.1,hd.2]
 ·refine k r q H1 sm (λz=>hn ?_) s1 u1 e1
  rw [z];rfl
def ah6:Sp:=λvs H Q _ => ∃ u kd most,vs=[.ref u,.int kd,.int most]/\p8 H u/\0<=most/\most<1000/\∀ r xs qs q H',p9 u H H'->p8 H' u->H r=none->H' r=some (.lst xs)->p7 H' xs (qs ++ [q])->(∀ p ∈ qs,NK kd p)->NK kd q->q ≠ 0->(qs.length:Int)<=most->Q (.ref r) H'
theorem ae2 {f fd fn fo:Addr} (d:Df K mg "_law_drawn_poly" z7 ["_law_urn_here","_law_kind_here","_law_most"] f) (G__law_draw:Def P w K mg base CX0 1 "_law_draw" fd ["_law_urn_here","_law_many"] F4) (GD__law_number:Def P w K mg base CX0 2 "_law_number" fn ["_law_urn_here","_law_kind_here"] U5) (GD__law_other:Def P w K mg base CX0 3 "_law_other" fo ["_law_urn_here","_law_kind_here"] ah5)
  (n_range:mg "range" = none):Def P w K mg base CX0 4 "_law_drawn_poly" f ["_law_urn_here","_law_kind_here","_law_most"] ah6:=by
 refine d.ok (N:=["_law_urn_here","_law_kind_here","_law_most"]) af8 (λvs H Q E ⟨u,kd,mo,h,_⟩=>by rw [h];rfl) (λcdv A outer s H vs Q E hr h=>?_)
 obtain ⟨u,kd,most,rfl,hu,m0,m1,k⟩:=h;have G__law_number:=GD__law_number;have G__law_other:=GD__law_other;refine ⟨_,(c5 (i5 (d4 af9 (ai9 (Nc:=["_law_urn_here","_law_kind_here","_law_i"]) (caps:=[some 0,some 1,none]) rfl (ag7.of (osc:=c4 z7) (N:=["_law_urn_here","_law_kind_here","_law_most"]) (ks:=["_law_urn_here","_law_kind_here"]) rfl rfl rfl rfl (B9 rfl (B9 rfl G2)) (by decide +kernel)) (K4 rfl n_range (a7 (c9 G__law_draw hr (a7 (pv 0) (a7 (d4 D3 (pv 2) a9) a8)) d8) a8)) (λC s₂ H₂ fp pins=>(d9 (i:=2) (show List.Nodup (["_law_urn_here","_law_kind_here","_law_i"]:List Str) by decide +kernel) rfl (j0a rfl) (Or.inr rfl))) (λC s₂ H₂ fp pins=>(c9 G__law_number hr (a7 (pv 0) (a7 (pv 1) a8)) d8))) (t8 (a7 (c9 G__law_other hr (a7 (pv 0) (a7 (pv 1) a8)) d8) a8))))),?_⟩
 rw [show start ["_law_urn_here","_law_kind_here","_law_most"] [.ref u,.int kd,.int most]=[some (.ref u),some (.int kd),some (.int most)] from rfl]
 simp! [F4]
 refine ⟨hu,⋯,⋯,λr1 H1 a1 b1 s1 u1=>⟨⋯,⋯,λD hD=>?_⟩⟩;have hDu:D ≠ u:=V9 u1 hD
 refine bh5 (λi σ H2 => ∃ o,σ=[some (.ref u),some (.int kd),o]/\p9 u H1 H2/\p8 H2 u/\∃ xs qs,H2 D=some (.lst xs)/\p7 H2 xs qs/\qs.length=i/\∀ p ∈ qs,NK kd p)
  ⟨_,rfl,b9.x (b9.new hD _) u,G0 u1 hD,[],[],b6,.nil,rfl,by simp⟩ ?_ ?_
 ·rintro i σ H2 hi ⟨o,rfl,s2,u2,xs,qs,e,n,hl,hs⟩
  subst_eqs
  refine ⟨u,kd,rfl,u2,λrn q H3 sq s3 u3 e3=>?_⟩;have e4:=s3 D _ e hDu;refine E3.mk hi e4 (by rw [n.length,hl];exact q0b (show i<1000 by omega) (by decide)) ?_
  refine ⟨_,rfl,(s2.trans s3).over hD _,u3.other hDu,_,b6,qs ++ [q],((n.mono (s3.tups u2)).append (.cons e3 .nil)).mono (N3.lst e4),by simp [hl],λp hp=>?_⟩
  rcases u0e.mp hp with z | z
  ·exact hs p z
  ·rw [j0q.mp z];exact sq
 ·rintro σ H2 ⟨o,rfl,s2,u2,xs,qs,e,n,hl,hs⟩
  subst_eqs
  refine ⟨u,kd,rfl,u2,λro q H3 sq q0 s3 u3 e3=>⟨by decide,λp hp=>?_⟩⟩
  have e4:=s3 D _ e hDu;have pD:D ≠ p:=i6 e4 hp;refine ⟨_,(by rw [i9 pD];exact e4),_,b6,?_,λp2 hp2=>?_⟩
  ·rw [n.length,hl]
   exact z0p (show r1.toNat+1<=1001 by omega) (by decide)
  ·have hp3:=aI7 hp2
   have sx:p9 u H H3:=s1.trans (s2.trans s3);refine k p2 _ qs q _ ((sx.trans (b9.x (b9.new hp _) u)).trans (b9.x (b9.new hp2 _) u)) (G0 (G0 u3 hp) hp2) (sx.free u3 hp3) b6 ?_ hs sq q0 ⋯;exact (((n.mono (s3.tups u2)).append (.cons e3 .nil)).mono (N3.new hp)).mono (N3.new hp2)
def sgQ (q:Rat):Int:=if 0<q then 1 else if q<0 then -1 else 0
theorem bs7 (q:Rat):(if q.num > 0 then (1:Int) else 0)-(if q.num<0 then 1 else 0)=sgQ q:=by
 unfold sgQ
 have h1:(0<q) ↔ q.num > 0:=by
  rw [m0x]
  show (0:Int)*(q.den:Int)<q.num*((1:Nat):Int) ↔ _;rw [q1b];simp
 have h2:(q<0) ↔ q.num<0:=by
  rw [m0x]
  show q.num*((1:Nat):Int)<(0:Int)*(q.den:Int) ↔ _;rw [q1b];simp
 by_cases a:q.num > 0
 ·rw [if_pos a,if_neg ⋯,if_pos (h1.mpr a)];rfl
 ·rw [if_neg a,if_neg (λz=>a (h1.mp z))]
  by_cases b:q.num<0
  ·rw [if_pos b,if_pos (h2.mpr b)];rfl
  ·rw [if_neg b,if_neg (λz=>b (h2.mp z))];rfl
def bq1 (K:q0a):Sp:=λvs H Q _ => ∃ x q,vs=[x]/\Num K H x q/\Q (.int (sgQ q)) H
abbrev R5:Stmt:=top 53
theorem aA8:i7 ["_law_number_here"] ["_law_number_here"] (c4 R5):=by and_intros
theorem aC7 {f:Addr} (d:Df K mg "_law_sign" R5 ["_law_number_here"] f) (n_int:mg "int" = none):Def P w K mg base CX0 1 "_law_sign" f ["_law_number_here"] (bq1 K):=by
 refine d.ok (N:=["_law_number_here"]) aA8 (by rintro vs H Q E ⟨_,_,h,_⟩;rw [h];rfl) (λcdv A outer s H vs Q E hr h=>?_)
 obtain ⟨x,q,rfl,⟨a,rfl,ha⟩,k⟩:=h;refine ⟨_,(c5 (i5 (d4 A8 (O9 am5 rfl n_int (by decide +kernel) (a7 (Y7 ax0 (j2 j6 (pv 0) a9 (λ_ _=>rfl)) a9 (l5 _)) a8)) (O9 am5 rfl n_int (by decide +kernel) (a7 (Y7 aj1 (j2 j6 (pv 0) a9 (λ_ _=>rfl)) a9 (l5 _)) a8))))),?_⟩
 rw [show start ["_law_number_here"] [.ref a]=[some (.ref a)] from rfl]
 subst_eqs
 refine ⟨_,ha,_,at0 q,_,rfl,_,ha,_,at0 q,_,rfl,?_⟩;rw [<- bs7] at k;exact k
end
theorem aV9 {c:Rat} (hc:c ≠ 0) (a b:Rat):c*a / (c*b)=a / b:=by
 rw [q0u,q0u]
 by_cases hb:b=0
 ·subst hb
  rw [Rat.mul_zero]
  show _*(0:Rat)⁻¹=_*(0:Rat)⁻¹;rw [show (0:Rat)⁻¹=0 from by decide +kernel];grind
 ·have bi:=q0d _ hb
  have cb:c*b ≠ 0:=λz=>by rcases z0n.mp z with y | y;exact hc y;exact hb y
  have cbi:=q0d _ cb;generalize (c*b)⁻¹=x at cbi ⊢;generalize b⁻¹=y at bi ⊢;have:c*a*x=a*y*(c*b*x):=by grind
  rw [this,cbi];grind
theorem aJ1 {c:Rat} (hc:c ≠ 0) {A B A' B':Nat->Rat} (hA:∀ j,A' j=c*A j) (hB:∀ j,B' j=c*B j):∀ k,(∀ j,Lr A' B' k j=c*Lr A B k j)/\∀ j,Lr A' B' (k+1) j=c*Lr A B (k+1) j
 | 0=>⟨hA,hB⟩
 | k+1=>by
  obtain ⟨i1,i2⟩:=aJ1 hc hA hB k;refine ⟨i2,λj=>?_⟩
  show Lr A' B' k (j+1)-Lr A' B' k 0 / Lr A' B' (k+1) 0*Lr A' B' (k+1) (j+1)=c*(Lr A B k (j+1)-Lr A B k 0 / Lr A B (k+1) 0*Lr A B (k+1) (j+1));rw [i1,i1,i2,i2,aV9 hc];grind
theorem bu0 {A B:Nat->Rat} {k:Nat} (h:∀ i,1<=i->i<k+2->Lr A B i 0 ≠ 0):Pl A B (k+2)=tau A B (k+1) 0:=((af4 (k+1) λi h1 h2=>h i h1 ⋯).1 0).symm
theorem bw8 {z1 z2 B:Int} (z0:z2 ≠ 0) (Bn:(B:Rat) ≠ 0):(B:Rat)⁻¹*q0e z1 z2=q0e z1 (z2*B):=by
 rw [q0y,q0y,q0u,q0u,z0e];have z0':(z2:Rat) ≠ 0:=λz=>z0 ((j0z (a:=z2) (b:=0)).mp z);have nn:(z2:Rat)*(B:Rat) ≠ 0:=λz=>by rcases z0n.mp z with y | y;exact z0' y;exact Bn y
 have h1:=q0d _ z0';have h2:=q0d _ Bn;have h3:=q0d _ nn;generalize ((z2:Rat))⁻¹=x at *;generalize ((B:Rat))⁻¹=y at *;generalize ((z2:Rat)*(B:Rat))⁻¹=t at *
 have:t=x*y:=by
  have:t=t*((z2:Rat)*x)*((B:Rat)*y):=by rw [h1,h2];grind
  grind
 rw [this];grind
theorem ax9 {n:Nat} {A B:Nat->Rat} {t:Nat} (h:t<n):Q5 (n-t) (Lr A B t) (Lr A B (t+1))=(decide (0<Lr A B t 0*Lr A B (t+1) 0) && Q5 (n-(t+1)) (Lr A B (t+1)) (Lr A B (t+2))):=by
 rw [show n-t=(n-(t+1))+1 by omega];rfl
end R
set_option maxRecDepth 100000
namespace L2
open PySem PySem.Spec PyProof.Rows
def bz7 (hi:Int) (n:Nat):It:=⟨λi _=>i<n,λi H x H'=>H'=H/\x=.int (hi-2*i),λi _=>n<=i⟩
theorem aZ6 {P:Program} {w:World} {K:q0a} {tg:Expr} (it:Addr) (lo:Int) (n:Nat):aG1 P w K tg (bz7 lo n) [it] it (λi h=>IsRangeIter h it (lo+(i:Nat) * -2) ((n:Int)-(i:Nat)) (-2)) where
 mem:=by simp
 obj:=λi h st b hb=>by
  have e:b=it:=by simpa using hb
  subst e
  exact ⟨_,st,λv z=>by
   have z':Data.fields _=Data.cell v:=z
   cases z'⟩
 keep:=λi h h' st k=>k it (by simp) _ st
 item:=by
  intro X hP hw hK hc i pins s σ H E I hf st hg;subst hP hw hK;obtain ⟨f0,f1,f2,f3,f4,f5⟩:=hf it (by simp)
  have W:=Walks.range (prog:=X.prog) (w:=X.w) (I.ok.hd hc) it lo (-2) n;refine W.item i s _ _ hg st λv h' tk hv st' kk=>?_;obtain ⟨t,rfl⟩:=hv;have I1:Inv X pins σ H { s with heap:=h',toks:=tk }:=I.turned (λb o hb e=>kk b o (by simpa using hb) e) f0 f1 f3 f4 f5
  refine ⟨_,rfl,ax4 (s:={ s with heap:=h',toks:=tk }) (n := "range_iterator") st' rfl rfl (by decide) ⟨.int (lo-2*i),H,I1,⟨t,?_⟩,⟨rfl,rfl⟩,st',λb hb=>(hf b hb).1⟩⟩
  rw [show lo+(i:Int) * -2=lo-2*i by omega]
 done:=by
  intro X hP hw hK hc i pins s σ H E I hf st hg;subst hP hw hK;obtain ⟨f0,f1,f2,f3,f4,f5⟩:=hf it (by simp)
  exact wpAny_pyNext_range_end (I.ok.hd hc) st (by have:n<=i:=hg;omega) λh' eb=>⟨rfl,I.turned (t':=s.toks) (λb o hb e=>eb b o hb e) f0 f1 f3 f4 f5⟩
 self:=λ_ _ _ _ _ st h=>wpAny_pyIter_rangeiter st h
theorem ae9 (a b:Int):Builtin.Range.rangeSize a b (-2)=(((a-b+1).toNat / 2:Nat):Int):=by
 unfold Builtin.Range.rangeSize;simp only [show ¬ ((-2:Int) > 0) by decide,if_false,show (- -2:Int)=2 from rfl]
 split <;> omega
theorem aV4 {a b:Int} (ha:-(2 ^ 62)<=a) (ha':a<2 ^ 60) (hb:-(2 ^ 62)<=b) (hb':b<2 ^ 60):Builtin.Range.small a b (-2)=true:=by
 unfold Builtin.Range.small;rw [ae9];simp only [Builtin.Range.rangeFitsLong,j0t,g0p,decide_eq_true_eq,beq_iff_eq,show ¬ ((-2:Int) > 0) by decide,if_false]
 omega
section
variable {X:Cx} {tg:Expr}
def bf1 (ta:TA):TI:=λσ H R=>ta σ H λvs H1 => ∃ i j:Int,vs=[.int i,.int j,.int (-2)]/\(-(2 ^ 62)<=i/\i<2 ^ 60/\-(2 ^ 62)<=j/\j<2 ^ 60)/\R (bz7 i ((i-j+1).toNat / 2)) H1
theorem aw7 {a b c:Expr} {ta:TA} {p pos:Pos} (hg:Gl X "range") (hm:X.mg "range" = none) (ha:PA X [a,b,c] ta) (hs:starEach [a,b,c] X.env=[(false,eval a X.env),(false,eval b X.env),(false,eval c X.env)]:=by rfl) (hs2:starEach [b,c] X.env=[(false,eval b X.env),(false,eval c X.env)]:=by rfl) :
  PI X tg (.Call (.Name "range" p) [a,b,c] [] pos) (bf1 ta):=by
 intro pins s σ H R I h;refine Call_ (U2 I hg hm boot_range (PyProof.Rows.callWith_type1 (thn (ha pos pins s σ H _ I h) λus s1 zq=>?_) (by rw [hs,hs2]) (by rw [hs2];rfl)))
 obtain ⟨vs,H1,I1,r1,q1⟩:=zq;obtain ⟨lo,hi,e,⟨q1,q2,q3,q4⟩,q⟩:=q1;subst e
 cases r1 with
 | cons r rr =>
  cases rr with
  | cons r' rr =>
   cases rr with
   | cons r'' rr =>
    cases rr
    obtain ⟨t,rfl⟩:=r;obtain ⟨u,rfl⟩:=r';obtain ⟨v,rfl⟩:=r'';refine call_range_3 (by decide) ?_ (.inl (PyProof.noPylong_of_log2 (by decide +kernel)))
    refine wpAny_pyIter_range (IsRange.new ..) (aV4 q1 q2 q3 q4) ?_;have I2:Inv X pins σ H1 { s1 with heap:=s1.heap.push { cls:=.type "range",data:=.fields #[.int lo t,.int hi u,.int (-2) v] },toks:=s1.toks }:=I1.kept λb o e=>q0h _ e
    refine ⟨(s1.heap.push { cls:=.type "range",data:=.fields #[.int lo t,.int hi u,.int (-2) v] }).objs.size,[(s1.heap.push { cls:=.type "range",data:=.fields #[.int lo t,.int hi u,.int (-2) v] }).objs.size],_,_,H1,rfl,
     I2.kept (t':=s1.toks) λb o e=>q0h _ e,aZ6 _ lo ((lo-hi+1).toNat / 2),?_,λb hb=>?_,q⟩
    ·have e1:lo+((0:Nat):Int) * -2=lo:=by simp
     have e2:((((lo-hi+1).toNat / 2):Nat):Int)-((0:Nat):Int)=Builtin.Range.rangeSize lo hi (-2):=by rw [ae9];omega
     show IsRangeIter _ _ (lo+((0:Nat):Int) * -2) (((((lo-hi+1).toNat / 2):Nat):Int)-((0:Nat):Int)) (-2);rw [e1,e2];exact z0j _ rfl
    ·have e:b=(s1.heap.push { cls:=.type "range",data:=.fields #[.int lo t,.int hi u,.int (-2) v] }).objs.size:=by simpa using hb
     subst e;exact I2.fpOk (q0j _) (I2.hok.fresh (q0j _))
end
end L2
set_option maxRecDepth 100000
namespace R
open PySem L2 PyProof.Rows
theorem bh6 {D:Addr} {g:TG} {te:TE} {σ0:L2.St} {H0:Hp} {Q:VK} {lo:Int} {n:Nat} (Pv:Nat->L2.St->Hp->Prop) (h0:Pv 0 σ0 H0)
  (hs:∀ i σ H,i<n->Pv i σ H->g (.int (lo-2*i)) σ H λσ4 H4=>te σ4 H4 λy H5=>E3 D n Pv i σ4 y H5) (hd:∀ σ H,Pv n σ H->Q (.ref D) H):au2 (bz7 lo n) D σ0 H0 g te Q:=by
 refine ⟨λi m σ H=>m=n-i/\i<=n/\Pv i σ H,⟨n,by simp,j0k _,h0⟩,?_⟩
 rintro i m σ H ⟨rfl,hi,p⟩
 by_cases hlt:i<n
 ·refine .inr ⟨hlt,λx H' y=>?_⟩
  obtain ⟨e,y⟩:=y;subst e y;exact hs i σ _ hlt p
 ·have e:i=n:=⋯
  subst e;exact .inl ⟨q0j _,hd σ H p⟩
def dK (W V k:Nat):Nat:=(W+4)*(k-1)+V+1
def nK (W k:Nat):Nat:=(W+4)*k+W+1
theorem bB5 {qs:List Rat} {n W V Bt k:Nat} (n14:n<=14) (ov:∀ q ∈ qs,OvB Bt W q) (b0:0<Bt) (bv:Bt<2 ^ V) (hk:k<=n+1) (lead:∀ i,1<=i->i<k->Lr (rwA (aQ qs) n) (rwB (aQ qs) n) i 0 ≠ 0) (j:Nat):(Lr (rwA (aQ qs) n) (rwB (aQ qs) n) k j).num.natAbs<2 ^ nK W k/\(Lr (rwA (aQ qs) n) (rwB (aQ qs) n) k j).den<2 ^ dK W V k:=by
 have ex:∀ m,∃ z:Int,aQ qs m=((Bt:Int):Rat)⁻¹*(z:Rat)/\z.natAbs<2 ^ W:=λm=>by
  obtain ⟨v,e,b⟩:=bz0 (P:=OvB Bt W) (OvB.zero _ _) ov m;refine ⟨v,?_,b⟩;rw [e,q0y,q0u];grind
 have Bn:((Bt:Int):Rat) ≠ 0:=λz=>by
  have:=(j0z (a:=(Bt:Int)) (b:=0)).mp z;omega
 have hc:((Bt:Int):Rat)⁻¹ ≠ 0:=λz=>by
  have:=q0d _ Bn;rw [z] at this;grind
 obtain ⟨zz,hz⟩:∃ zz:Nat->Int,∀ m,aQ qs m=((Bt:Int):Rat)⁻¹*(zz m:Rat)/\(zz m).natAbs<2 ^ W:=⟨λm=>Classical.choose (ex m),λm=>Classical.choose_spec (ex m)⟩
 have hA:∀ j,rwA (aQ qs) n j=((Bt:Int):Rat)⁻¹*rwA (λm=>(zz m:Rat)) n j:=λj=>by
  unfold rwA
  split
  ·exact (hz _).1
  ·grind
 have hB:∀ j,rwB (aQ qs) n j=((Bt:Int):Rat)⁻¹*rwB (λm=>(zz m:Rat)) n j:=λj=>by
  unfold rwB
  split
  ·exact (hz _).1
  ·grind
 have sc:=λk=>(aJ1 hc hA hB k).1
 have iA:∀ j,∃ z:Int,rwA (λm=>(zz m:Rat)) n j=(z:Rat)/\z.natAbs<2 ^ W:=λj=>by
  unfold rwA
  split
  ·exact ⟨_,rfl,(hz _).2⟩
  ·exact ⟨0,rfl,j0f _⟩
 have iB:∀ j,∃ z:Int,rwB (λm=>(zz m:Rat)) n j=(z:Rat)/\z.natAbs<2 ^ W:=λj=>by
  unfold rwB
  split
  ·exact ⟨_,rfl,(hz _).2⟩
  ·exact ⟨0,rfl,j0f _⟩
 have lead':∀ i,1<=i->i<k->Lr (rwA (λm=>(zz m:Rat)) n) (rwB (λm=>(zz m:Rat)) n) i 0 ≠ 0:=λi h1 h2 z=>lead i h1 h2 (by rw [sc i,z];grind)
 obtain ⟨z1,e1,b1⟩:=aa3 (m:=k+1) iA iB (show k<=k+1 by omega) ⋯ ⋯ j
 have e1':∃ z1:Int,tau (rwA (λm=>(zz m:Rat)) n) (rwB (λm=>(zz m:Rat)) n) k j=(z1:Rat)/\z1.natAbs<=2 ^ ((W+4)*k+W):=by
  rcases v0t k with rfl | h
  ·obtain ⟨z,e,b⟩:=iA j
   exact ⟨z,by rw [P1];exact e,z0p (v0j b) (j0p (by decide) ⋯)⟩
  ·obtain ⟨z1,e1,b1⟩:=aa3 (m:=k) iA iB (q0j _) h ⋯ j
   exact ⟨z1,e1,z0p b1 (j0p (by decide) ⋯)⟩
 clear e1 b1 z1;obtain ⟨z1,e1,b1⟩:=e1';have hp:=aR1 k lead';have et:=(af4 k lead').1 j
 have key:∃ z2:Int,Pl (rwA (λm=>(zz m:Rat)) n) (rwB (λm=>(zz m:Rat)) n) k=(z2:Rat)/\z2.natAbs<=2 ^ ((W+4)*(k-1)):=by
  match k,hk,lead' with
  | 0,_,_=>exact ⟨1,rfl,Nat.one_le_two_pow⟩
  | 1,_,_=>exact ⟨1,rfl,Nat.one_le_two_pow⟩
  | k+2,hk,lead' =>
   obtain ⟨z2,e2,b2⟩:=aa3 (m:=k+1) iA iB (k:=k+1) ⋯ ⋯ ⋯ 0;exact ⟨z2,by rw [bu0 lead'];exact e2,b2⟩
 obtain ⟨z2,e2,b2⟩:=key;have z0:z2 ≠ 0:=λz=>hp (by rw [e2,z];rfl)
 rw [e1,e2] at et;have z0':(z2:Rat) ≠ 0:=by rw [<- e2];exact hp
 have eL:Lr (rwA (λm=>(zz m:Rat)) n) (rwB (λm=>(zz m:Rat)) n) k j=q0e z1 z2:=by
  rw [q0y,q0u,et];have:=q0d _ z0';generalize ((z2:Rat))⁻¹=x at this ⊢
  grind
 have eq:Lr (rwA (aQ qs) n) (rwB (aQ qs) n) k j=q0e z1 (z2*(Bt:Int)):=by
  rw [sc k,eL];exact bw8 z0 Bn
 rw [eq];have nz:z2*(Bt:Int) ≠ 0:=g0u z0 ⋯;have d:=C4 (t:=z1) nz;unfold nK dK;refine ⟨q0k (z0p d.1 b1) (y0u (by decide) ⋯),q0k d.2 ?_⟩
 rw [z0b,q0m,j0w,z0u];have h1:z2.natAbs*Bt<=2 ^ ((W+4)*(k-1))*2 ^ V:=v0x b2 (v0j bv);have h2:=v0g (j0f ((W+4)*(k-1))) (j0f V);omega
theorem bb7 {a b:Rat} (ha:a ≠ 0) (hb:b ≠ 0):sgQ a=sgQ b ↔ 0<a*b:=by
 unfold sgQ
 by_cases h1:0<a
 ·rw [if_pos h1]
  by_cases h2:0<b
  ·rw [if_pos h2];exact ⟨λ_=>q0s h1 h2,λ_=>rfl⟩
  ·rw [if_neg h2,if_pos (by grind)]
   refine ⟨λz=>absurd z (by decide),λz=>?_⟩
   have:=q0s h1 (show 0 < -b by grind)
   grind
 ·rw [if_neg h1,if_pos (by grind)]
  by_cases h2:0<b
  ·rw [if_pos h2]
   refine ⟨λz=>absurd z (by decide),λz=>?_⟩
   have:=q0s (show 0 < -a by grind) h2
   grind
  ·rw [if_neg h2,if_pos (by grind)]
   refine ⟨λ_=>?_,λ_=>rfl⟩;have:=q0s (show 0 < -a by grind) (show 0 < -b by grind)
   grind
theorem aC0 {qs:List Rat} {F:Nat->Rat} {n:Nat} (l:qs.length=n) (h:∀ j,j<n->aQ qs j=F j) (z:∀ j,n<=j->F j=0) (j:Nat):aQ qs j=F j:=by
 rcases z1m j n with y | y
 ·exact h j y
 ·rw [z j y]
  unfold aQ;rw [q0z ⋯];rfl
theorem be3 {n k:Nat}:Lk n (k+2)=Lk n k-1:=by
 unfold Lk
 split <;> split <;> omega
theorem be4 {n k:Nat} (h:k<=n):0<Lk n k:=by unfold Lk;rw [if_pos h];omega
theorem bq9 {n k:Nat}:Lk n (k+1)<=Lk n k:=by unfold Lk;split <;> split <;> omega
structure RwH (H:Hp) (l:Addr) (xs:List V) (qs:List Rat) (m:Nat) (F:Nat->Rat):Prop where
 e:H l=some (.lst xs)
 n:p7 H xs qs
 len:qs.length=m
 f:∀ j,aQ qs j=F j
theorem RwH.same {H H':Hp} {l:Addr} {xs:List V} {qs:List Rat} {m:Nat} {F:Nat->Rat} (h:RwH H l xs qs m F) (s:b9 H H'):RwH H' l xs qs m F:=⟨s _ _ h.e,h.n.mono s.tups,h.len,h.f⟩
theorem RwH.at0 {H:Hp} {l:Addr} {xs:List V} {qs:List Rat} {m:Nat} {F:Nat->Rat} (h:RwH H l xs qs m F) {j:Nat} (hj:j<m):∃ p,xs[j]? = some (.ref p)/\H p=some (.tup (k6 (F j))):=by
 have hl:j<qs.length:=by rw [h.len];exact hj
 have eq:qs[j]? = some (F j):=by
  rw [<- h.f j];unfold aQ;rw [q0c hl];rfl
 exact h.n.get eq
theorem bd5 (p q:Rat):(p*q).num.natAbs<=p.num.natAbs*q.num.natAbs/\(p*q).den<=p.den*q.den:=by
 have h:=C4 (t:=p.num*q.num) (b:=(p.den:Int)*q.den) (ap7 p q);rw [<- Z3] at h;rw [z0b,z0b,q0m,q0m] at h;exact h
theorem bw7 {q:Rat} (h:q ≠ 0):(q⁻¹).num.natAbs<=q.den/\(q⁻¹).den<=q.num.natAbs:=by
 have:=C4 (t:=(q.den:Int)) (b:=q.num) (λz=>h (P6.mp z));rw [<- Rat.inv_def,q0m] at this;exact this
section
variable {P:Program} {w:World} {K:q0a} {mg:Str->Option Value} {base:Heap}
def aQ2 (K:q0a):Sp:=λvs H Q _ => ∃ (a:Addr) (xs:List V) (qs:List Rat) (n Bt W V':Nat),vs=[.ref a]/\SqL K H a xs/\p7 H xs qs/\qs.length=n+1/\n<=7/\aQ qs n ≠ 0/\(∀ q ∈ qs,OvB Bt W q)/\0<Bt/\Bt<2 ^ V'/\W<=300/\V'<=W/\20*W+3*V'<=5860/\∀ H',b9 H H'->Q (.bl (bn9 qs)) H'
abbrev C8:Stmt:=top 67
theorem z5:i7 ["_law_p","_law_first","_law_second","_law_turn","_law_often","_law_beside","_law_left"] ["_law_p"] (c4 C8):=by and_intros
theorem aD4 {f f1 f2 f3 f4:Addr} (d:Df K mg "_law_dies" C8 ["_law_p"] f) (G__law_sign:Def P w K mg base CX0 1 "_law_sign" f1 ["_law_number_here"] (bq1 K)) (G__law_over:Def P w K mg base CX0 2 "_law_over" f2 ["_law_one","_law_other_here"] (aQ1 K)) (G__law_less:Def P w K mg base CX0 2 "_law_less" f3 ["_law_one","_law_other_here"] (K1 K (· - ·))) (G__law_times:Def P w K mg base CX0 2 "_law_times" f4 ["_law_one","_law_other_here"] (K1 K (· * ·))) (n_range:mg "range" = none) (n_len:mg "len" = none) (n_zip:mg "zip" = none):Def P w K mg base CX0 3 "_law_dies" f ["_law_p"] (aQ2 K):=by
  refine d.ok (N:=["_law_p","_law_first","_law_second","_law_turn","_law_often","_law_beside","_law_left"]) z5 (by rintro vs H Q E ⟨_,_,_,_,_,_,_,h,_⟩;rw [h];rfl) (λcdv A outer s H vs Q E hr h=>?_)
  obtain ⟨a,xs,qs,n,Bt,W,V',rfl,hS,hN,lq,n14,ld,ov,b0,bw,hX1,hX2,hX3,k⟩:=h;have hu:=hr.units
  refine ⟨_, (b7 (K2 (i₀ := 1) z5.nd rfl (Or.inl rfl) (Nc := ["_law_p", "_law_i"]) (caps := [some 0, none]) rfl (ag7.of (osc := c4 C8) (N := ["_law_p", "_law_first", "_law_second", "_law_turn", "_law_often", "_law_beside", "_law_left"]) (ks := ["_law_p"]) rfl rfl rfl rfl (B9 rfl G2) (by decide +kernel)) (aw7 rfl n_range (a7 (d4 A8 (d5 j0 rfl n_len (by decide +kernel) (a7 (pv 0) a8)) a9) (a7 (E6 A7 a9) (a7 (E6 A7 a9) a8)))) (fun C s₂ H₂ fp pins => (d9 (i := 1) (show List.Nodup (["_law_p", "_law_i"] : List Str) by decide +kernel) rfl (Or.inl rfl) (Or.inr rfl))) (fun C s₂ H₂ fp pins => (j2 (by exact m8 : IxR _ (aM2 K)) (pv 0) (pv 1) (fun _ _ => rfl))))
      (b7 (K2 (i₀:=2) z5.nd rfl (Or.inl rfl) (Nc:=["_law_p","_law_i"]) (caps:=[some 0,none]) rfl (ag7.of (osc:=c4 C8) (N:=["_law_p","_law_first","_law_second","_law_turn","_law_often","_law_beside","_law_left"]) (ks:=["_law_p"]) rfl rfl rfl rfl (B9 rfl G2) (by decide +kernel)) (aw7 rfl n_range (a7 (d4 A8 (d5 j0 rfl n_len (by decide +kernel) (a7 (pv 0) a8)) a9) (a7 (E6 A7 a9) (a7 (E6 A7 a9) a8)))) (λC s₂ H₂ fp pins=>(d9 (i:=1) (show List.Nodup (["_law_p","_law_i"]:List Str) by decide +kernel) rfl (Or.inl rfl) (Or.inr rfl))) (λC s₂ H₂ fp pins=>(j2 (by exact m8:IxR _ (aM2 K)) (pv 0) (pv 1) (λ_ _=>rfl))))
      (b7 (G7 PassesOwn.never rfl (K4 rfl n_range (a7 (d4 A8 (d5 j0 rfl n_len (by decide +kernel) (a7 (pv 0) a8)) a9) a8)) (d9 (i:=3) z5.nd rfl (Or.inl rfl)) (b7 (y7 (PW.pt (T8 (j9 (aC4 hu) (pv 2) (t8 a8) (l5 _)) (T8 (j9 an0 (j2 j6 (j2 m8 (pv 2) a9 (λ_ _=>rfl)) a9 (λ_ _=>rfl)) a9 (l5 _)) (Y1 (j9 aI0 (c9 G__law_sign hr (a7 (j2 m8 (pv 1) a9 (λ_ _=>rfl)) a8) d8) (c9 G__law_sign hr (a7 (j2 m8 (pv 2) a9 (λ_ _=>rfl)) a8) d8) (l5 _)))))) (c5 (i5 M4)) o0)
      (b7 (i4 (i:=4) z5.nd rfl (Or.inr rfl) (c9 G__law_over hr (a7 (j2 m8 (pv 1) a9 (λ_ _=>rfl)) (a7 (j2 m8 (pv 2) a9 (λ_ _=>rfl)) a8)) d8))
      (b7 (i4 (i:=5) z5.nd rfl (Or.inl rfl) (d4 af9 (pv 2) (d4 aN2 (t8 (a7 (l6 (a7 a9 (a7 a9 a8))) a8)) (d4 A8 (d5 j0 rfl n_len (by decide +kernel) (a7 (pv 1) a8)) (d5 j0 rfl n_len (by decide +kernel) (a7 (pv 2) a8))))))
      (b7 (K2 (i₀:=6) z5.nd rfl (Or.inl rfl) (Nc:=["_law_often","_law_a","_law_b"]) (caps:=[some 4,none,none]) rfl (ag7.of (osc:=c4 C8) (N:=["_law_p","_law_first","_law_second","_law_turn","_law_often","_law_beside","_law_left"]) (ks:=["_law_often"]) rfl rfl rfl rfl (B9 rfl G2) (by decide +kernel)) (bc5 rfl n_zip (a7 (ai8 ao8 (pv 1) (Y3 a9) Y4) (a7 (ai8 ao8 (pv 5) (Y3 a9) Y4) a8))) (λC s₂ H₂ fp pins=>(show PG _ _ (U9 K 2 (v9 (t6 1) (v9 (t6 2) V0))) from by (refine C9 (n:=2) ?_ ?_ ?_ ?_;rfl;(refine j3 ?_ ?_ ?_;(exact (d9 (i:=1) (show List.Nodup (["_law_often","_law_a","_law_b"]:List Str) by decide +kernel) rfl (Or.inl rfl) (Or.inr rfl)));(refine j3 ?_ ?_ ?_;(exact (d9 (i:=2) (show List.Nodup (["_law_often","_law_a","_law_b"]:List Str) by decide +kernel) rfl (Or.inl rfl) (Or.inr rfl)));(exact z8);rfl);rfl);rfl;rfl))) (λC s₂ H₂ fp pins=>(c9 G__law_less hr (a7 (pv 1) (a7 (c9 G__law_times hr (a7 (pv 0) (a7 (pv 2) a8)) d8) a8)) d8)))
      (c5 (Y2 (i:=1) (j:=2) rfl z5.nd rfl rfl (by decide) rfl rfl (a7 (pv 2) (a7 (pv 6) a8)) rfl)))))))
      (c5 (i5 M4))))),?_⟩
  rw [show start ["_law_p","_law_first","_law_second","_law_turn","_law_often","_law_beside","_law_left"] [.ref a]=[some (.ref a),none,none,none,none,none,none] from rfl]
  have lx:=hN.length
  have ed:bn9 qs=Q5 n (rwA (aQ qs) n) (rwB (aQ qs) n):=by
    unfold bn9;rw [if_neg (λz=>by rw [z] at lq;cases lq),lq,Nat.add_sub_cancel];rfl
  rw [ed] at k
  have gp:∀ m,m<=n->∃ p,xs[m]? = some (.ref p)/\H p=some (.tup (k6 (aQ qs m))):=λm hm=>by
    have hl:m<qs.length:=⋯
    have eq:qs[m]? = some (aQ qs m):=by
      unfold aQ;rw [List.getElem?_eq_getElem hl];rfl
    exact hN.get eq
  have bits:∀ k,k<=n+1->(∀ i,i<k->Lr (rwA (aQ qs) n) (rwB (aQ qs) n) i 0 ≠ 0)->∀ j,(Lr (rwA (aQ qs) n) (rwB (aQ qs) n) k j).num.natAbs<2 ^ nK W k/\(Lr (rwA (aQ qs) n) (rwB (aQ qs) n) k j).den<2 ^ dK W V' k:=λk hk h j=>bB5 ⋯ ov b0 bw hk (λi _ h2=>h i h2) j
  have kb:∀ k,k<=8->nK W k<=6000/\dK W V' k<=6000:=λk hk=>by
    unfold nK dK;have h1:=Nat.mul_le_mul_left (W+4) hk;have h2:=Nat.mul_le_mul_left (W+4) (show k-1<=7 by omega)
    omega
  have kt:∀ t,t+1<=7->dK W V' t+nK W (t+1)<=5900/\(t<=5->dK W V' t+(dK W V' t+nK W (t+1)+dK W V' (t+1))<=6000):=λt ht=>by
    unfold nK dK;rw [Nat.add_sub_cancel];refine ⟨?_,λh5=>?_⟩
    · have h1:=Nat.mul_le_mul_left (W+4) ht
      have h2:=Nat.mul_le_mul_left (W+4) (show t-1<=5 by omega)
      omega
    · have h1:=Nat.mul_le_mul_left (W+4) (show t+1<=6 by omega)
      have h2:=Nat.mul_le_mul_left (W+4) (show t-1<=4 by omega)
      have h3:=Nat.mul_le_mul_left (W+4) h5;omega
  have lsup:∀ j,Lk n 0<=j->rwA (aQ qs) n j=0:=λj hj=>P4 _ _ j (by unfold Lk at hj;rw [if_pos ⋯] at hj;omega)
  have lsup1:∀ j,Lk n 1<=j->rwB (aQ qs) n j=0:=λj hj=>P3 _ _ j (by
    unfold Lk at hj
    split at hj <;> omega)
  refine d7 (λσ H1 => ∃ l1 xs1 qs1,σ=[some (.ref a),some (.ref l1),none,none,none,none,none]/\b9 H H1/\RwH H1 l1 xs1 qs1 (Lk n 0) (rwA (aQ qs) n)) (λN hN=>?_) ?_
  · simp! [bf1]
    refine ⟨_,.inl hS,⋯,⋯,⋯,⋯,λD hD=>?_⟩;have cnt:(((xs.length:Int)-1) - -1+1).toNat / 2=n / 2+1:=⋯;rw [cnt];refine bh6 (λj σ H2 => ∃ o,σ=[some (.ref a),o]/\b9 H H2/\∃ ys rs,H2 D=some (.lst ys)/\p7 H2 ys rs/\rs.length=j/\∀ i,i<j->aQ rs i=rwA (aQ qs) n i) ⟨_,rfl,b9.new hD _,[],[],b6,.nil,rfl,λi hi=>⋯⟩ ?_ ?_
    · rintro j σ H2 hj ⟨o,rfl,s2,ys,rs,e2,n2,l2,f2⟩
      subst_eqs
      obtain ⟨m,hm⟩:∃ m:Nat,((xs.length:Int)-1)-2*(j:Int)=(m:Int):=⟨(((xs.length:Int)-1)-2*(j:Int)).toNat,⋯⟩;have mn:m<=n:=⋯;obtain ⟨p,ep,hp⟩:=gp m mn;rw [hm];have hp2:=s2 _ _ (id hp);refine ⟨xs,s2.seq (hS),_,B3 ep,E3.mk hj e2 (al7 (by rw [n2.length,l2];omega)) ⟨_,rfl,s2.over hD _,ys ++ [.ref p],b6,rs ++ [aQ qs m],(n2.append (.cons hp2 .nil)).mono (N3.lst e2),by rw [List.length_append,l2];rfl,λi hi=>?_⟩⟩
      rcases Nat.lt_or_ge i j with z | z
      · rw [<- f2 i z]
        unfold aQ;rw [List.getElem?_append_left ⋯]
      · have:i=j:=⋯
        subst this
        show ((rs ++ [aQ qs m])[i]?).getD 0=_;rw [List.getElem?_append_right ⋯,l2,Nat.sub_self];unfold rwA;rw [if_pos ⋯]
        show aQ qs m=_
        congr 1
        omega
    · rintro σ H2 ⟨o,rfl,s2,ys,rs,e2,n2,l2,f2⟩
      have lk:Lk n 0=n / 2+1:=by unfold Lk;rw [if_pos ⋯];omega
      exact hN _ _ ⟨D,ys,rs,rfl,s2,e2,n2,⋯,λj=>aC0 (n:=Lk n 0) ⋯ (λj hj=>f2 j ⋯) lsup j⟩
  rintro σ H1 ⟨l1,xs1,qs1,rfl,S1,R1⟩;refine d7 (λσ H2 => ∃ l2 xs2 qs2,σ=[some (.ref a),some (.ref l1),some (.ref l2),none,none,none,none]/\b9 H1 H2/\RwH H2 l2 xs2 qs2 (Lk n 1) (rwB (aQ qs) n)) (λN hN=>?_) ?_
  · simp! [bf1]
    refine ⟨_,.inl (S1.seq hS),⋯,⋯,⋯,⋯,λD hD=>?_⟩;have cnt:(((xs.length:Int)-2) - -1+1).toNat / 2=(n+1) / 2:=⋯;rw [cnt];refine bh6 (λj σ H2 => ∃ o,σ=[some (.ref a),o]/\b9 H1 H2/\∃ ys rs,H2 D=some (.lst ys)/\p7 H2 ys rs/\rs.length=j/\∀ i,i<j->aQ rs i=rwB (aQ qs) n i) ⟨_,rfl,b9.new hD _,[],[],b6,.nil,rfl,λi hi=>⋯⟩ ?_ ?_
    · rintro j σ H2 hj ⟨o,rfl,s2,ys,rs,e2,n2,l2,f2⟩
      subst_eqs
      obtain ⟨m,hm⟩:∃ m:Nat,((xs.length:Int)-2)-2*(j:Int)=(m:Int):=⟨(((xs.length:Int)-2)-2*(j:Int)).toNat,⋯⟩;have mn:m<=n:=⋯;obtain ⟨p,ep,hp⟩:=gp m mn;rw [hm];have hp2:=s2 _ _ (S1 _ _ hp);refine ⟨xs,s2.seq (S1.seq hS),_,B3 ep,E3.mk hj e2 (al7 (by rw [n2.length,l2];omega)) ⟨_,rfl,s2.over hD _,ys ++ [.ref p],b6,rs ++ [aQ qs m],(n2.append (.cons hp2 .nil)).mono (N3.lst e2),by rw [List.length_append,l2];rfl,λi hi=>?_⟩⟩
      rcases Nat.lt_or_ge i j with z | z
      · rw [<- f2 i z]
        unfold aQ;rw [List.getElem?_append_left ⋯]
      · have:i=j:=⋯
        subst this
        show ((rs ++ [aQ qs m])[i]?).getD 0=_;rw [List.getElem?_append_right ⋯,l2,Nat.sub_self];unfold rwB;rw [if_pos ⋯]
        show aQ qs m=_
        congr 1
        omega
    · rintro σ H2 ⟨o,rfl,s2,ys,rs,e2,n2,l2,f2⟩
      have lk:Lk n 1=(n+1) / 2:=by unfold Lk;split <;> omega
      exact hN _ _ ⟨D,ys,rs,rfl,s2,e2,n2,⋯,λj=>aC0 (n:=Lk n 1) ⋯ (λj hj=>f2 j ⋯) lsup1 j⟩
  rintro σ H2 ⟨l2,xs2,qs2,rfl,S2,R2⟩;have S02:=S1.trans S2;have a0:rwA (aQ qs) n 0 ≠ 0:=by unfold rwA;rw [if_pos ⋯];exact ld
  obtain ⟨A,hA⟩:∃ A,A=rwA (aQ qs) n:=⟨_,rfl⟩;obtain ⟨B,hB⟩:∃ B,B=rwB (aQ qs) n:=⟨_,rfl⟩;rw [<- hA] at R1 bits k lsup a0;rw [<- hB] at R2 bits k lsup1
  have sup:∀ t,(∀ j,Lk n t<=j->Lr A B t j=0)/\∀ j,Lk n (t+1)<=j->Lr A B (t+1) j=0:=λt=>by
    induction t with
    | zero=>exact ⟨lsup,lsup1⟩
    | succ t ih =>
      refine ⟨ih.2,λj hj=>?_⟩
      show Lr A B t (j+1)-Lr A B t 0 / Lr A B (t+1) 0*Lr A B (t+1) (j+1)=0;rw [show t+1+1=t+2 from rfl,be3] at hj;rw [ih.1 (j+1) ⋯,ih.2 (j+1) (Nat.le_trans bq9 ⋯)];grind
  obtain ⟨I,hI⟩:∃ I:Nat->L2.St->Hp->Prop,∀ t σ H3,I t σ H3 ↔ ∃ l1 xs1 qs1 l2 xs2 qs2 o3 o4 o5 o6,σ=[some (.ref a),some (.ref l1),some (.ref l2),o3,o4,o5,o6]/\b9 H H3/\RwH H3 l1 xs1 qs1 (Lk n t) (Lr A B t)/\RwH H3 l2 xs2 qs2 (Lk n (t+1)) (Lr A B (t+1))/\(∀ i,i<=t->Lr A B i 0 ≠ 0)/\Q5 n A B=Q5 (n-t) (Lr A B t) (Lr A B (t+1)):=⟨_,λ_ _ _=>Iff.rfl⟩;refine d7 (λσ H3 => ∃ t,t=n/\I t σ H3) (λN hN=>?_) ?_
  · have cnt:((xs.length:Int)-1).toNat=n:=⋯
    refine ⟨_,rfl,a,_,rfl,.inl (S02.seq hS),_,_,rfl,rfl,_,rfl,⋯,⋯,?_⟩;rw [cnt];refine K7 I ((hI _ _ _).mpr ⟨l1,xs1,qs1,l2,xs2,qs2,none,none,none,none,rfl,S02,R1.same S2,R2,λi hi=>by rw [show i=0 by omega];exact a0,rfl⟩) ?_ (λσ H3 h=>hN _ _ ⟨n,rfl,h⟩)
    intro t σ H3 ht h;obtain ⟨l1,xs1,qs1,l2,xs2,qs2,o3,o4,o5,o6,rfl,S3,R1,R2,nz,e3⟩:=(hI _ _ _).mp h;have p1:=be4 (show t<=n by omega)
    have p2:=be4 (show t+1<=n by omega)
    have ll:=bq9 (n:=n) (k:=t);have lk8:Lk n t<=8:=by unfold Lk;split <;> omega
    have nz1:=nz t (Nat.le_refl _);obtain ⟨pf,epf,hpf⟩:=R1.at0 p1;obtain ⟨ps,eps,hps⟩:=R2.at0 p2;simp only [t6,List.set_cons_zero,List.set_cons_succ];refine d7 (λσ H4=>σ=[some (.ref a),some (.ref l1),some (.ref l2),some (.int (0+(t:Int))),o4,o5,o6]/\b9 H3 H4/\Lr A B (t+1) 0 ≠ 0/\0<Lr A B t 0*Lr A B (t+1) 0) (λN hN=>?_) ?_
    · subst_eqs
      refine ⟨by decide,λp hp=>?_⟩
      have S4:=b9.new hp (.lst []);refine ⟨D9 qs2,D9 [],rfl,E7 (S4.seq (SqL.of R2.e)) (R2.n.mono S4.tups),E7 (SqL.of b6) .nil,ab5 _ _,Nat.le_trans (ak2 _) (by decide),_,rfl,?_⟩
      have ne:eqD (D9 qs2) (D9 [])=false:=by
        have l2:=R2.len
        cases qs2 with
        | nil=>simp at l2;omega
        | cons x r=>simp [D9,eqD,J4]
      rw [ne];refine x8 (λz=>by cases z) (λ_=>?_)
      have no:∀ H',b9 H H'->¬ 0<Lr A B t 0*Lr A B (t+1) 0->Q (.bl false) H':=λH' s' z=>by
        have:=k H' s';rw [e3,ax9 ht,decide_eq_false z] at this;exact this
      refine ⟨_,SqL.of (S4 _ _ R2.e),_,B3 (j:=0) eps,ps,rfl,_,SqT.of (S4 _ _ hps),_,at0 _,rfl,x8 (λz=>no _ (S3.trans S4) ?_) (λz0=>?_)⟩
      · have:Lr A B (t+1) 0=0:=P6.mp (V.int.inj z)
        rw [this];grind
      have nz2:Lr A B (t+1) 0 ≠ 0:=λy=>z0 (by rw [P6.mpr y])
      refine ⟨_,SqL.of (S4 _ _ R1.e),_,B3 (j:=0) epf,_,_,rfl,⟨pf,rfl,SqT.of (S4 _ _ hpf)⟩,_,SqL.of (S4 _ _ R2.e),_,B3 (j:=0) eps,_,_,rfl,⟨ps,rfl,SqT.of (S4 _ _ hps)⟩,rfl,x8 (λz=>no _ (S3.trans S4) λy=>z ?_) (λz=>hN _ _ ⟨rfl,S4,nz2,?_⟩)⟩
      · rw [(bb7 nz1 nz2).mpr y]
      · have z:=Classical.byContradiction λy=>z y
        exact (bb7 nz1 nz2).mp (V.int.inj z)
    rintro σ H4 ⟨rfl,S4,nz2,pos⟩;have b2:=bits (t+1) ⋯ (λi hi=>nz i ⋯);have bj:=bits t ⋯ (λi hi=>nz i ⋯);have k1:=kb t ⋯;have k2:=kb (t+1) ⋯;obtain ⟨kt1,kt2⟩:=kt t ⋯;obtain ⟨og,hog⟩:∃ og,og=Lr A B t 0 / Lr A B (t+1) 0:=⟨_,rfl⟩;have tt:∀ {q:Rat} {m d:Nat},q.num.natAbs<2 ^ m->q.den<2 ^ d->m<=20000->BtN d q:=λa b c=>⟨Nat.lt_of_lt_of_le a (c6 c),b⟩
    have bog:og.num.natAbs<2 ^ (nK W t+dK W V' (t+1))/\og.den<2 ^ (dK W V' t+nK W (t+1)):=by
      rw [hog,Rat.div_def];have m:=bd5 (Lr A B t 0) (Lr A B (t+1) 0)⁻¹;have i:=bw7 nz2;rw [Nat.pow_add,Nat.pow_add];exact ⟨Nat.lt_of_le_of_lt m.1 (Nat.mul_lt_mul'' (bj 0).1 (Nat.lt_of_le_of_lt i.1 (b2 0).2)),Nat.lt_of_le_of_lt m.2 (Nat.mul_lt_mul'' (bj 0).2 (Nat.lt_of_le_of_lt i.2 (b2 0).1))⟩
    refine d7 (λσ H5 => ∃ ao,σ=[some (.ref a),some (.ref l1),some (.ref l2),some (.int (0+(t:Int))),some (.ref ao),o5,o6]/\b9 H3 H5/\H5 ao=some (.tup (k6 og))) (λN hN=>?_) ?_
    · subst_eqs
      refine ⟨_,SqL.of (S4 _ _ R1.e),_,B3 (j:=0) epf,_,SqL.of (S4 _ _ R2.e),_,B3 (j:=0) eps,?_⟩;refine ⟨_,_,_,_,dK W V' t,nK W (t+1),rfl,⟨pf,rfl,SqT.of (S4 _ _ hpf)⟩,⟨ps,rfl,SqT.of (S4 _ _ hps)⟩,tt (bj 0).1 (bj 0).2 ⋯,nz2,(b2 0).1,Nat.lt_of_lt_of_le (b2 0).2 (c6 ⋯),⋯,λr H5 s5 e5=>hN _ _ ⟨r,rfl,S4.trans s5,by rw [hog];exact e5⟩⟩
    rintro σ H5 ⟨ao,rfl,S5,eo⟩;refine d7 (λσ H6 => ∃ be ys bs,σ=[some (.ref a),some (.ref l1),some (.ref l2),some (.int (0+(t:Int))),some (.ref ao),some (.ref be),o6]/\b9 H3 H6/\H6 ao=some (.tup (k6 og))/\RwH H6 be ys bs (Lk n t) (Lr A B (t+1))) (λN hN=>?_) ?_
    · subst_eqs
      have lx1:=R1.n.length;have lx2:=R2.n.length;have l1':=R1.len;have l2':=R2.len;refine ⟨k7,λp0 h0=>⟨af7,λp1 h1=>?_⟩⟩;have X0:=b9.new h0 (.tup [.int 0,.int 1]);have X1:=b9.new h1 (.lst [.ref p0]);have X01:=X0.trans X1;have S6:=S5.trans X01;have cn:((xs1.length:Int)-(xs2.length:Int)).toNat=Lk n t-Lk n (t+1):=⋯;refine ⟨_,.inl (SqL.of (S6 _ _ R1.e)),_,.inl (SqL.of (S6 _ _ R2.e)),_,b6,⋯,⋯,?_,λp2 h2=>?_⟩
      · rw [cn];exact Nat.le_trans (show _<=100 by simp;omega) (by decide)
      rw [cn,List.flatten_replicate_singleton];have X2:=b9.new h2 (.lst (List.replicate (Lk n t-Lk n (t+1)) (V.ref p0)));refine ⟨_,X2 _ _ (S6 _ _ R2.e),_,b6,Nat.le_of_lt (al7 (by rw [List.length_replicate];omega)),λp3 h3=>?_⟩
      have X3:=b9.new h3 (.lst (xs2 ++ List.replicate (Lk n t-Lk n (t+1)) (V.ref p0)));have XA:=X1.trans (X2.trans X3);have S7:=S5.trans (X0.trans XA);have e0:=XA _ _ (show upd H5 p0 (.tup [.int 0,.int 1]) p0=some (.tup (k6 0)) from b6);refine hN _ _ ⟨p3,_,qs2 ++ List.replicate (Lk n t-Lk n (t+1)) 0,rfl,S7,(X0.trans XA) _ _ eo,b6,(R2.n.mono S7.tups).append (p7.rep e0 _),by rw [List.length_append,List.length_replicate];omega,λj=>?_⟩
      rw [<- R2.f j];unfold aQ;rcases Nat.lt_or_ge j qs2.length with y | y
      · rw [List.getElem?_append_left y]
      · rw [List.getElem?_append_right y,List.getElem?_eq_none y]
        rcases Nat.lt_or_ge (j-qs2.length) (Lk n t-Lk n (t+1)) with x | x
        · rw [List.getElem?_replicate,if_pos x];rfl
        · rw [List.getElem?_replicate,if_neg ⋯]
    rintro σ H6 ⟨be,ys,bs,rfl,S6,eo6,R3⟩;have R1':=R1.same S6;have R2':=R2.same S6;refine d7 (λσ H7 => ∃ le zs rs,σ=[some (.ref a),some (.ref l1),some (.ref l2),some (.int (0+(t:Int))),some (.ref ao),some (.ref be),some (.ref le)]/\b9 H3 H7/\RwH H7 le zs rs (Lk n (t+2)) (Lr A B (t+2))) (λN hN=>?_) ?_
    · subst_eqs
      simp only [aE9];have lx1:=R1'.n.length;have lx3:=R3.n.length;have l1':=R1'.len;have l3':=R3.len;refine ⟨_,SqL.of R1'.e,λp0 h0=>?_⟩;have X0:=b9.new h0 (.lst (xs1.drop 1));refine ⟨_,SqL.of (X0 _ _ R3.e),λp1 h1=>?_⟩;have X1:=b9.new h1 (.lst (ys.drop 1));have g0:=X1 _ _ (show upd H6 p0 (.lst (xs1.drop 1)) p0=_ from b6);have g1:upd (upd H6 p0 (.lst (xs1.drop 1))) p1 (.lst (ys.drop 1)) p1=some (.lst (ys.drop 1)):=b6;have X01:=X0.trans X1;generalize upd (upd H6 p0 (.lst (xs1.drop 1))) p1 (.lst (ys.drop 1))=HA at g0 g1 X01 ⊢;refine ⟨⟨_,SqL.of g0⟩,⟨_,SqL.of g1⟩,λD hD=>?_⟩;have eoA:=X01 _ _ eo6;refine bh4 (xs1.drop 1) (ys.drop 1) (λj σ H8 => ∃ o1 o2,σ=[some (.ref ao),o1,o2]/\b9 HA H8/\∃ zs,H8 D=some (.lst zs)/\∃ rs,p7 H8 zs rs/\rs.length=j/\∀ i,i<j->aQ rs i=Lr A B (t+2) i) ⟨_,_,rfl,b9.new hD _,[],b6,[],.nil,rfl,λi hi=>⋯⟩ (by rintro j σ H8 ⟨_,_,_,s8,_⟩;exact ⟨SqL.of (s8 _ _ g0),SqL.of (s8 _ _ g1)⟩) ?_ ?_
      · rintro j x y σ H8 pt hx hy ⟨o1,o2,rfl,s8,zs,e8,rs,n8,l8,f8⟩ hpt
        have hj:=(List.getElem?_eq_some_iff.mp hx).1;have hj':=(List.getElem?_eq_some_iff.mp hy).1;rw [List.length_drop] at hj hj';rw [List.getElem?_drop,Nat.add_comm] at hx hy;obtain ⟨px,ex,hpx⟩:=R1'.at0 (j:=j+1) ⋯;obtain ⟨py,ey,hpy⟩:=R3.at0 (j:=j+1) ⋯;rw [hx] at ex;rw [hy] at ey
        cases ex
        cases ey
        have st:=b9.new hpt (.tup [.ref px,.ref py]);have SA:=X01.trans (s8.trans st)
        subst_eqs
        refine ⟨_,SqT.of b6,rfl,_,_,rfl,_,_,rfl,rfl,?_⟩;have bb:=b2 (j+1)
        have t5:t<=5:=Classical.byContradiction λz=>by
          have:Lk n t<=1:=by unfold Lk;split <;> omega
          omega
        have k5:=kt2 t5;have mo:=bd5 og (Lr A B (t+1) (j+1));have bo1:=Nat.lt_of_le_of_lt mo.1 (Nat.mul_lt_mul'' bog.1 bb.1);have bo2:=Nat.lt_of_le_of_lt mo.2 (Nat.mul_lt_mul'' bog.2 bb.2);rw [<- Nat.pow_add] at bo1 bo2;refine ⟨_,_,og,_,dK W V' t+nK W (t+1),dK W V' (t+1),rfl,⟨ao,rfl,SqT.of (SA _ _ eo6)⟩,⟨py,rfl,SqT.of (SA _ _ hpy)⟩,tt bog.1 bog.2 ⋯,tt bb.1 bb.2 ⋯,⋯,λr1 H9 s9 e9=>?_⟩;refine ⟨_,_,_,_,dK W V' t,dK W V' t+nK W (t+1)+dK W V' (t+1),rfl,⟨px,rfl,SqT.of (s9 _ _ (SA _ _ hpx))⟩,⟨r1,rfl,SqT.of e9⟩,tt (bj (j+1)).1 (bj (j+1)).2 ⋯,tt bo1 bo2 ⋯,⋯,λr2 H10 s10 e10=>?_⟩;have ST:=st.trans (s9.trans s10);have e8':=ST _ _ e8;refine E3.mk (by rw [List.length_drop,List.length_drop];omega) e8' (al7 (by rw [n8.length,l8];omega)) ⟨_,_,rfl,(s8.trans ST).over hD _,zs ++ [.ref r2],b6,rs ++ [Lr A B (t+2) j],((n8.mono ST.tups).append (.cons ?_ .nil)).mono (N3.lst e8'),by rw [List.length_append,l8];rfl,λi hi=>?_⟩
        · rw [e10,hog];rfl
        · rcases Nat.lt_or_ge i j with z | z
          · rw [<- f8 i z]
            unfold aQ;rw [List.getElem?_append_left ⋯]
          · have:i=j:=⋯
            subst this
            show ((rs ++ [Lr A B (t+2) i])[i]?).getD 0=_;rw [List.getElem?_append_right ⋯,l8,Nat.sub_self];rfl
      · rintro σ H8 ⟨o1,o2,rfl,s8,zs,e8,rs,n8,l8,f8⟩
        rw [List.length_drop,List.length_drop] at l8 f8;have lk2:=be3 (n:=n) (k:=t);exact hN _ _ ⟨D,zs,rs,rfl,S6.trans (X01.trans s8),e8,n8,⋯,λj=>aC0 (n:=Lk n (t+2)) ⋯ (λj hj=>f8 j ⋯) (sup (t+1)).2 j⟩
    rintro σ H7 ⟨le,zs,rs,rfl,S7,R4⟩
    subst_eqs
    refine (hI _ _ _).mpr ⟨l2,xs2,qs2,le,zs,rs,_,_,_,_,rfl,S3.trans S7,R2.same S7,R4,λi hi=>?_,?_⟩
    · rcases Nat.lt_or_ge i (t+1) with z | z
      · exact nz i ⋯
      · rw [show i=t+1 by omega];exact nz2
    · rw [e3,ax9 ht,decide_eq_true pos,Bool.true_and]
  rintro σ H3 ⟨t,rfl,h⟩;obtain ⟨l1,xs1,qs1,l2,xs2,qs2,o3,o4,o5,o6,rfl,S3,_,_,_,e3⟩:=(hI _ _ _).mp h
  subst_eqs
  rw [e3,Nat.sub_self] at k;exact k H3 S3
theorem OvB.bt {B W e:Nat} {q:Rat} (h:OvB B W q) (hB:0<B) (hBe:B<2 ^ e) (hW:W<=20000):BtN e q:=by
 obtain ⟨v,rfl,b⟩:=h;have:=C4 (t:=v) (b:=(B:Int)) ⋯;rw [q0m] at this;exact ⟨q0k this.1 (q0b b (c6 hW)),q0k this.2 hBe⟩
def aA4 (K:q0a):Sp:=λvs H Q _ => ∃ (a b:Addr) (xs ys:List V) (ps qs:List Rat) (B C V' W e:Nat),vs=[.ref a,.ref b]/\SqL K H a xs/\SqL K H b ys/\p7 H xs ps/\p7 H ys qs/\(∀ q ∈ ps,OvB B V' q)/\(∀ q ∈ qs,OvB C W q)/\0<B/\0<C/\B*C<2 ^ e/\1<=e/\2*e<=6000/\V'+W<=19000/\ps.length<=20/\qs.length<=20 /\
 ∀ m r zs H',Q7 (w8 ps qs) m->(∀ q ∈ w8 ps qs,OvB (B*C) (V'+W+400) q)->b9 H H'->H r=none->H' r=some (.lst zs)->p7 H' zs ((w8 ps qs).take m)->Q (.ref r) H'
abbrev C5:Stmt:=top 61
theorem w5:i7 ["_law_p","_law_q","_law_found","_law_i","_law_one","_law_j","_law_other_here"] ["_law_p","_law_q"] (c4 C5):=by and_intros
theorem ag0 {f fp f1 f2:Addr} (d:Df K mg "_law_poly_times" C5 ["_law_p","_law_q"] f) (G__law_plus:Def P w K mg base CX0 2 "_law_plus" fp ["_law_one","_law_other_here"] (K1 K (· + ·))) (G__law_times:Def P w K mg base CX0 2 "_law_times" f1 ["_law_one","_law_other_here"] (K1 K (· * ·))) (G__law_trim:Def P w K mg base CX0 1 "_law_trim" f2 ["_law_numbers"] (aA3 K)) (n_len:mg "len" = none) (n_enumerate:mg "enumerate" = none):Def P w K mg base CX0 3 "_law_poly_times" f ["_law_p","_law_q"] (aA4 K):=by
 refine d.ok (N:=["_law_p","_law_q","_law_found","_law_i","_law_one","_law_j","_law_other_here"]) w5 (by rintro vs H Q E ⟨_,_,_,_,_,_,_,_,_,_,_,h,_⟩;rw [h];rfl) (λcdv A outer s H vs Q E hr h=>?_)
 obtain ⟨a,b,xs,ys,ps,qs,B,C,V',W,e,rfl,hS,hS',hN,hN',hs,hs',hB,hC,hBC,he1,he,hVW,hl,hl',k⟩:=h;have hBCp:=v0g hB hC;have hBe:B<2 ^ e:=q0k (q1f _ hC) hBC;have hCe:C<2 ^ e:=q0k (v0u _ hB) hBC;have hu:=hr.units
 refine ⟨_,(b7 (y7 (PW.pt (T8 (j9 (aC4 hu) (pv 0) (t8 a8) (l5 _)) (Y1 (j9 (aC4 hu) (pv 1) (t8 a8) (l5 _))))) (c5 (i5 (t8 a8))) o0)
   (b7 (i4 (i:=2) w5.nd rfl (j0a rfl) (d4 aN2 (t8 (a7 (l6 (a7 a9 (a7 a9 a8))) a8)) (d4 A8 (d4 D3 (d5 j0 rfl n_len (by decide +kernel) (a7 (pv 0) a8)) (d5 j0 rfl n_len (by decide +kernel) (a7 (pv 1) a8))) a9)))
   (b7 (G7 PassesOwn.never rfl (aC2 rfl n_enumerate (a7 (pv 0) a8)) (show PG _ _ (U9 K 2 (v9 (t6 3) (v9 (t6 4) V0))) from by (refine C9 (n:=2) ?_ ?_ ?_ ?_;rfl;(refine j3 ?_ ?_ ?_;(exact (d9 (i:=3) w5.nd rfl (j0a rfl)));(refine j3 ?_ ?_ ?_;(exact (d9 (i:=4) w5.nd rfl (j0a rfl)));(exact z8);rfl);rfl);rfl;rfl)) (c5 (G7 PassesOwn.never rfl (aC2 rfl n_enumerate (a7 (pv 1) a8)) (show PG _ _ (U9 K 2 (v9 (t6 5) (v9 (t6 6) V0))) from by (refine C9 (n:=2) ?_ ?_ ?_ ?_;rfl;(refine j3 ?_ ?_ ?_;(exact (d9 (i:=5) w5.nd rfl (j0a rfl)));(refine j3 ?_ ?_ ?_;(exact (d9 (i:=6) w5.nd rfl (j0a rfl)));(exact z8);rfl);rfl);rfl;rfl)) (c5 (G8 (c9 G__law_plus hr (a7 (j2 m8 (pv 2) (d4 D3 (pv 3) (pv 5)) (λ_ _=>rfl)) (a7 (c9 G__law_times hr (a7 (pv 4) (a7 (pv 6) a8)) d8) a8)) d8) (aM7 (pv 2) (d4 D3 (pv 3) (pv 5)) ai0))))))
   (c5 (i5 (c9 G__law_trim hr (a7 (pv 2) a8) d8)))))),?_⟩
 rw [show start ["_law_p","_law_q","_law_found","_law_i","_law_one","_law_j","_law_other_here"] [.ref a,.ref b]=[some (.ref a),some (.ref b),none,none,none,none,none] from rfl]
 subst_eqs
 have tl0:Q7 ([]:List Rat) 0:=⟨q0j _,λi q _ e=>by simp at e,λh=>absurd rfl h⟩
 refine ⟨by decide,λp hp=>?_⟩
 have S1:=b9.new hp (.lst []);refine ⟨D9 ps,D9 [],rfl,E7 (S1.seq hS) (hN.mono S1.tups),E7 (SqL.of b6) .nil,ab5 _ _,z0p (ak2 _) (by decide),?_⟩
 rw [ak1];refine ⟨_,rfl,x8 (λh=>⟨by decide,λr hr'=>?_⟩) (λh=>?_)⟩
 ·have e:w8 ps qs=[]:=by rw [w8,if_pos (.inl (by simpa using h))]
  rw [e] at k;exact k 0 r [] _ tl0 (by simp) (S1.trans (b9.new hr' _)) (S1.free hr') b6 .nil
 have np:ps ≠ []:=λz=>h (by simp [z])
 refine ⟨by decide,λp2 hp2=>?_⟩
 have S2:=S1.trans (b9.new hp2 (.lst []));refine ⟨D9 qs,D9 [],rfl,E7 (S2.seq hS') (hN'.mono S2.tups),E7 (SqL.of b6) .nil,ab5 _ _,z0p (ak2 _) (by decide),?_⟩
 rw [ak1];refine ⟨_,rfl,x8 (λh=>⟨by decide,λr hr'=>?_⟩) (λh=>?_)⟩
 ·have e:w8 ps qs=[]:=by rw [w8,if_pos (.inr (by simpa using h))]
  rw [e] at k;exact k 0 r [] _ tl0 (by simp) (S2.trans (b9.new hr' _)) (S2.free hr') b6 .nil
 have nq:qs ≠ []:=λz=>h (by simp [z])
 have lx:=hN.length;have ly:=hN'.length;have lp:0<ps.length:=y0m.mpr np;have lq:0<qs.length:=y0m.mpr nq;refine ⟨k7,λp3 hp3=>⟨af7,λp4 hp4=>?_⟩⟩;have S3:=S2.trans (b9.new hp3 (.tup [.int 0,.int 1]));have S4:=S3.trans (b9.new hp4 (.lst [.ref p3]));refine ⟨_,.inl (S4.seq hS),_,.inl (S4.seq hS'),_,b6,⋯,⋯,?_,λl hl0=>?_⟩
 ·simp only [q0x,j0y]
  exact z0p (show _<=40 by omega) (by decide)
 have hz:(q0v ((xs.length:Int)+(ys.length:Int)-1).toNat [V.ref p3]).flatten=q0v (ps.length+qs.length-1) (V.ref p3):=by
  have e:((xs.length:Int)+(ys.length:Int)-1).toNat=ps.length+qs.length-1:=⋯;rw [e,List.flatten_replicate_singleton]
 rw [hz];have S5:=S4.trans (b9.new hl0 (.lst (q0v (ps.length+qs.length-1) (.ref p3))));have hlH:H l=none:=S4.free hl0;have ez:(upd (upd (upd (upd (upd H p (.lst [])) p2 (.lst [])) p3 (.tup [.int 0,.int 1])) p4 (.lst [.ref p3])) l (.lst (q0v (ps.length+qs.length-1) (.ref p3)))) p3=some (.tup (k6 0)):=b9.new hl0 _ _ _ (b9.new hp4 _ _ _ b6)
 refine ⟨_,rfl,a,rfl,⟨_,S5.seq hS⟩,aJ6 xs (λi σ H2 => ∃ o3 o4 o5 o6,σ=[some (.ref a),some (.ref b),some (.ref l),o3,o4,o5,o6]/\b9 H H2/\∃ zs,H2 l=some (.lst zs)/\p7 H2 zs (y3 0 (q0v (ps.length+qs.length-1) (0:Rat)) ps qs i)/\∀ v ∈ y3 0 (q0v (ps.length+qs.length-1) (0:Rat)) ps qs i,OvB (B*C) (V'+W+i*qs.length) v)
  ⟨_,_,_,_,rfl,S5,_,b6,p7.rep ez _,λv hv=>by rw [(List.mem_replicate.mp hv).2];exact OvB.zero _ _⟩ (λi σ H2 ⟨_,_,_,_,_,s2,_⟩=>s2.seq hS) ?_ ?_⟩
 ·rintro i x σ H2 r hx ⟨o3,o4,o5,o6,rfl,s2,zs,e2,n2,b2⟩ hr'
  obtain ⟨px,q,rfl,hq,hpx⟩:=hN.getV hx;have hi:=(z0f.mp hq).1;have sr:=b9.new hr' (.tup [.int i,.ref px]);refine ⟨_,_,rfl,SqT.of b6,rfl,_,_,rfl,_,_,rfl,rfl,?_⟩
  refine ⟨_,rfl,b,rfl,⟨_,(s2.trans sr).seq hS'⟩,aJ6 ys (λj σ H4 => ∃ o5 o6,σ=[some (.ref a),some (.ref b),some (.ref l),some (.int i),some (.ref px),o5,o6]/\b9 H H4/\∃ zs,H4 l=some (.lst zs)/\p7 H4 zs (B5 0 (y3 0 (q0v (ps.length+qs.length-1) (0:Rat)) ps qs i) i q qs j)/\∀ v ∈ B5 0 (y3 0 (q0v (ps.length+qs.length-1) (0:Rat)) ps qs i) i q qs j,OvB (B*C) (V'+W+(i*qs.length+j)) v)
   ⟨_,_,rfl,s2.trans sr,_,sr _ _ e2,n2.mono sr.tups,b2⟩ (λi σ H2 ⟨_,_,_,s2,_⟩=>s2.seq hS') ?_ ?_⟩
  ·rintro j y σ H4 t hy ⟨o5,o6,rfl,s4,zs4,e4,n4,b4⟩ ht
   obtain ⟨py,q',rfl,hq',hpy⟩:=hN'.getV hy;have hj:=(z0f.mp hq').1;have st:=b9.new ht (.tup [.int j,.ref py]);have e5:=st _ _ e4
   have hF:i+j<(B5 0 (y3 0 (q0v (ps.length+qs.length-1) (0:Rat)) ps qs i) i q qs j).length:=by
    rw [al8,ad5,y0s];omega
   have eg:=q0c hF;obtain ⟨pv,hv,hpv⟩:=(n4.mono st.tups).get eg;have ec:(i:Int)+(j:Int)=((i+j:Nat):Int):=⋯
   have hc:i*qs.length+j<400:=by
    have h1:i*qs.length<=19*qs.length:=v0y _ ⋯;omega
   subst_eqs
   have o1:=hs q (z0r hq);have o2:=hs' q' (z0r hq');have sq:=o1.bt hB hBe ⋯;have sq':=o2.bt hC hCe ⋯;refine ⟨_,SqT.of b6,rfl,_,_,rfl,_,_,rfl,rfl,_,rfl,_,SqL.of e5,_,(by rw [ec];exact B3 hv),?_⟩
   refine ⟨_,_,q,q',e,e,rfl,⟨px,rfl,SqT.of (st _ _ (s4 _ _ hpx))⟩,⟨py,rfl,SqT.of (st _ _ (s4 _ _ hpy))⟩,sq,sq',⋯,λr1 H5 s5 er1=>?_⟩;have bold:=b4 _ (u0x hF);refine ⟨_,_,_,_,e,e,rfl,⟨pv,rfl,SqT.of (s5 _ _ hpv)⟩,⟨r1,rfl,SqT.of er1⟩,bold.bt hBCp hBC ⋯,(o1.mul o2).bt hBCp hBC ⋯,⋯,λr2 H6 s6 er2=>?_⟩;have e6:=s6 _ _ (s5 _ _ e5);have lz:zs4.length=(B5 0 (y3 0 (q0v (ps.length+qs.length-1) (0:Rat)) ps qs i) i q qs j).length:=n4.length;have n6:p7 H6 zs4 (B5 0 (y3 0 (q0v (ps.length+qs.length-1) (0:Rat)) ps qs i) i q qs j):=((n4.mono st.tups).mono s5.tups).mono s6.tups
   have estep:B5 0 (y3 0 (q0v (ps.length+qs.length-1) (0:Rat)) ps qs i) i q qs (j+1)=U1 (B5 0 (y3 0 (q0v (ps.length+qs.length-1) (0:Rat)) ps qs i) i q qs j) (i+j) (q*q'):=by
    rw [B5,hq'];rfl
   refine ⟨_,rfl,_,e6,i+j,?_,(s4.trans (st.trans (s5.trans s6))).over hlH _,_,b6,?_,?_⟩
   ·rw [ec]
    unfold ixN;rw [if_pos ⋯,if_pos (by rw [lz];omega)]
    rfl
   ·rw [estep,<- az1 _ _ _ _ eg]
    exact (n6.set (i+j) er2).mono (N3.lst e6)
   ·rw [estep]
    intro v hv';exact (aZ0 hBCp b4 ((o1.mul o2).mono ⋯) v hv').mono ⋯
  ·rintro σ H4 ⟨o5,o6,rfl,s4,zs4,e4,n4,b4⟩
   refine ⟨_,_,_,_,rfl,s4,zs4,e4,?_,?_⟩
   ·rw [ly] at n4
    rw [y3,hq];exact n4
   ·rw [ly] at b4
    rw [y3,hq];intro v hv;refine (b4 v hv).mono ?_;have e:(i+1)*qs.length=i*qs.length+qs.length:=by grind
    omega
 ·rintro σ H2 ⟨o3,o4,o5,o6,rfl,s2,zs,e2,n2,b2⟩
  rw [lx] at n2 b2;have em:w8 ps qs=y3 0 (q0v (ps.length+qs.length-1) 0) ps qs ps.length:=by rw [w8,if_neg (by simp [np,nq])]
  rw [<- em] at n2 b2;refine ⟨_,rfl,l,zs,_,rfl,SqL.of e2,n2,λm r H3 tl s3 hr' e3=>?_⟩;refine k m r _ _ tl (λv hv=>(b2 v hv).mono ?_) (s2.trans s3) (s2.free hr') e3 ((n2.take m).mono s3.tups);have:ps.length*qs.length<=20*20:=v0x hl hl';omega
theorem by6 {qs:List Rat} {W c:Nat} {r:Rat} (h:ClN W qs) (hc:BdN c r):ClN (W+(c*qs.length+1)+(c+1)*qs.length+(c*qs.length+1)) (shn r qs):=by
 have hdr:(r.den:Int).natAbs<2 ^ c:=by rw [q0m];exact hc.d
 have wl:(j1 (j4 qs) qs).length=qs.length:=by simp [j1]
 have wb:=h.w;generalize hws:j1 (j4 qs) qs=ws at wl wb
 have wwb:∀ v ∈ wid (r.den:Int) ws,z0q v<2 ^ (W+(c*qs.length+1)):=by
  intro v hv;obtain ⟨i,hi⟩:=q1w.mp hv;rw [ag9] at hi
  cases hu:ws[i]? with
  | none=>rw [hu] at hi;cases hi
  | some u =>
   rw [hu] at hi
   cases hi
   have hp8:=O8 (k:=ws.length-1-i) hdr;have hci:c*(ws.length-1-i)<=c*qs.length:=j0j _ ⋯;rw [z0b,z0u];exact j0b (wb u (z0r hu)) (q0b hp8 (c6 ⋯))
 have b3:=aL9 hc.n _ wwb;rw [ag8,wl] at b3
 have bb:∀ v ∈ bck (r.den:Int) (shn r.num (wid (r.den:Int) ws)),z0q v<2 ^ (W+(c*qs.length+1)+(c+1)*qs.length+(c*qs.length+1)):=by
  intro v hv;obtain ⟨i,hi⟩:=q1w.mp hv;rw [aF4] at hi
  cases hu:(shn r.num (wid (r.den:Int) ws))[i]? with
  | none=>rw [hu] at hi;cases hi
  | some u =>
   have hil:=(z0f.mp hu).1;rw [B7,ag8,wl] at hil;rw [hu] at hi
   cases hi
   have hp8:=O8 (k:=i) hdr;have hci:c*i<=c*qs.length:=j0j _ ⋯;rw [z0b,z0u];exact j0b (b3 u (z0r hu)) (q0b hp8 (c6 ⋯))
 have e:=aq8 (s:=q0e 1 (j4 qs)) (bh2 r) (aR7 r) ws;rw [<- hws,bk3,hws,bl3 _ (C1 qs)] at e;have hd0:0<r.den:=by have:=r.den_nz;omega
 have eL:((j4 qs:Int)*(r.den:Int) ^ (ws.length-1))=((j4 qs*r.den ^ (ws.length-1):Nat):Int):=by
  rw [z0x,g0x]
 rw [eL] at e;rw [<- e];have hp9:=O8 (k:=ws.length-1) hdr;have hcl:c*(ws.length-1)<=c*qs.length:=j0j _ ⋯;refine ay2 (v0g (C1 qs) (v0h hd0)) ?_ bb
 have hp7:r.den ^ (ws.length-1)<2 ^ (c*qs.length+1):=by
  have:((r.den:Int) ^ (ws.length-1)).natAbs=r.den ^ (ws.length-1):=by rw [<- g0x,q0m]
  rw [this] at hp9;exact q0b hp9 (c6 ⋯)
 have:=j0b h.l hp7;rw [<- z0u] at this;exact q0b this (c6 ⋯)
theorem bn2 {R:List Rat} {c q:Rat} {m:Nat} (t:Q7 [q] m) (h:R ≠ [] \/ q ≠ 0):Q3 (w8 R [c,1]) ([q].take m)=sad c q R:=by
 have hm:m=0/\q=0 \/ m=1:=by
  have:=t.le;simp only [q0x,j0y] at this;rcases v0t m with z | z
  ·exact .inl ⟨z,t.zero 0 q ⋯ rfl⟩
  ·exact .inr ⋯
 by_cases hR:R=[]
 ·subst hR
  rcases hm with ⟨_,z⟩ | z
  ·rcases h with h | h
   ·exact absurd rfl h
   ·exact absurd z h
  ·subst z
   simp [w8,Q3,sad]
 ·rcases hm with ⟨z,z'⟩ | z
  ·subst z z'
   rw [List.take_zero,aK5,aS0 hR]
  ·subst z
   exact bx3 hR c q
def aq5 (K:q0a):Sp:=λvs H Q _ => ∃ (a ax:Addr) (xs:List V) (qs:List Rat) (r:Rat) (B0 W c:Nat),vs=[.ref a,.ref ax]/\SqL K H a xs/\p7 H xs qs/\(∀ q ∈ qs,OvB B0 W q)/\0<B0/\B0<2 ^ W/\W<=200/\Q7 qs qs.length/\H ax=some (.tup (k6 r))/\BdN c r/\c<=40/\1<=c/\qs.length<=8 /\
 ∀ l ys H',b9 H H'->H l=none->H' l=some (.lst ys)->p7 H' ys (shn r qs)->Q (.ref l) H'
abbrev O2:Stmt:=top 66
theorem L5:i7 ["_law_p","_law_number_here","_law_found","_law_one"] ["_law_p","_law_number_here"] (c4 O2):=by and_intros
theorem av3 {f fp ft fr:Addr} (d:Df K mg "_law_moved" O2 ["_law_p","_law_number_here"] f) (G__law_poly_plus:Def P w K mg base CX0 3 "_law_poly_plus" fp ["_law_p","_law_q"] (bb2 K)) (G__law_poly_times:Def P w K mg base CX0 3 "_law_poly_times" ft ["_law_p","_law_q"] (aA4 K)) (G__law_trim:Def P w K mg base CX0 1 "_law_trim" fr ["_law_numbers"] (aA3 K)) (n_reversed:mg "reversed" = none):Def P w K mg base CX0 4 "_law_moved" f ["_law_p","_law_number_here"] (aq5 K):=by
 refine d.ok (N:=["_law_p","_law_number_here","_law_found","_law_one"]) L5 (by rintro vs H Q E ⟨_,_,_,_,_,_,_,_,h,_⟩;rw [h];rfl) (λcdv A outer s H vs Q E hr h=>?_)
 obtain ⟨a,ax,xs,qs,r,B0,m,c,rfl,hS,hN,ov,b0,bm,m200,ht,hx,hc,c40,hc1,hl,k⟩:=h
 refine ⟨_,(b7 (i4 (i:=2) L5.nd rfl (j0a rfl) (t8 a8))
   (b7 (G7 PassesOwn.never rfl (bu4 rfl n_reversed (a7 (pv 0) a8)) (d9 (i:=3) L5.nd rfl (j0a rfl)) (c5 (i4 (i:=2) L5.nd rfl (j0a rfl) (c9 G__law_poly_plus hr (a7 (c9 G__law_poly_times hr (a7 (pv 2) (a7 (t8 (a7 (pv 1) (a7 (l6 (a7 a9 (a7 a9 a8))) a8))) a8)) d8) (a7 (c9 G__law_trim hr (a7 (t8 (a7 (pv 3) a8)) a8) d8) a8)) d8))))
   (c5 (i5 (pv 2))))),?_⟩
 rw [show start ["_law_p","_law_number_here","_law_found","_law_one"] [.ref a,.ref ax]=[some (.ref a),some (.ref ax),none,none] from rfl]
 subst_eqs
 have hxl:=hN.length
 have hm1:1<=m:=Classical.byContradiction λz=>by
  have:m=0:=⋯;rw [this] at bm;omega
 have d0:0<r.den:=by have:=r.den_nz;omega
 have sfx:∀ k,(0<j4 (shn r (qs.drop k))/\j4 (shn r (qs.drop k))<2 ^ 1300/\∀ q ∈ shn r (qs.drop k),OvB (j4 (shn r (qs.drop k))) 1300 q)/\(∀ x,(shn r (qs.drop k))[(shn r (qs.drop k)).length-1]? = some x->x ≠ 0):=by
  intro k;have l1:(qs.drop k).length<=8:=by rw [j0s];omega
  have cl:=by6 (ay3 b0 bm λx hx=>ov x (q1y hx)) hc (qs:=qs.drop k);have l2:c*(qs.drop k).length<=40*8:=v0x c40 l1;have l4:(c+1)*(qs.drop k).length<=41*8:=v0x ⋯ l1;refine ⟨⟨C1 _,q0b cl.l (c6 ⋯),λq hq=>(bu9 cl hq).mono ⋯⟩,λx hx=>?_⟩
  by_cases hk:k<qs.length
  ·have hlast:=q0c (l:=qs) (i:=qs.length-1) ⋯
   have hne:qs[qs.length-1] ≠ 0:=ht.last ⋯ _ hlast
   have hlast':(qs.drop k)[(qs.drop k).length-1]? = some qs[qs.length-1]:=by
    rw [List.getElem?_drop,j0s,show k+(qs.length-k-1)=qs.length-1 by omega];exact hlast
   rw [aq7 r _ _ hlast'] at hx
   cases hx
   exact hne
  ·rw [q1r ⋯] at hx
   simp [shn] at hx
 refine ⟨by decide,λp0 hp0=>?_⟩
 have S0:=b9.new hp0 (.lst []);refine ⟨_,rfl,a,_,rfl,S0.seq hS,bn4 (xs:=xs) (λi σ H1 => ∃ p zs o,σ=[some (.ref a),some (.ref ax),some (.ref p),o]/\b9 H H1/\H p=none/\H1 p=some (.lst zs)/\p7 H1 zs (shn r (qs.drop (qs.length-i)))) ⟨p0,[],_,rfl,S0,hp0,b6,by rw [q1c,List.drop_length];exact .nil⟩ (by rintro i σ H1 _ ⟨_,_,_,_,s1,_⟩;exact s1.seq hS) ?_ ?_⟩
 ·rintro i y σ H1 hi hy ⟨p,zs,o,rfl,s1,hp,e1,n1⟩
  obtain ⟨py,q,rfl,hq,hpy⟩:=hN.getV hy;have hqm:=(ov q (z0r hq)).bt b0 bm ⋯;rw [hxl] at hq hi;have hq':qs[qs.length-(i+1)]? = some q:=by rw [show qs.length-(i+1)=qs.length-1-i by omega];exact hq
  have et:qs.drop (qs.length-(i+1))=q :: qs.drop (qs.length-i):=by
   have h1:qs.length-(i+1)<qs.length:=⋯;rw [m0w h1,show qs.length-(i+1)+1=qs.length-i by omega]
   congr 1
   exact (z0f.mp hq').2
  obtain ⟨bR,lR⟩:=sfx (qs.length-i);have lRl:(shn r (qs.drop (qs.length-i))).length<=8:=by rw [B7,j0s];omega
  have hRq:shn r (qs.drop (qs.length-i)) ≠ [] \/ q ≠ 0:=by
   rcases v0t i with z | z
   ·refine .inr (ht.last ⋯ q ?_)
    rw [<- hq',z]
   ·refine .inl λz'=>?_
    have:=congrArg m0c z';rw [B7,j0s] at this;simp only [j0y] at this;omega
  obtain ⟨_,lR'⟩:=sfx (qs.length-(i+1));have eR':shn r (qs.drop (qs.length-(i+1)))=sad r q (shn r (qs.drop (qs.length-i))):=by rw [et,shn]
  rw [eR'] at lR';generalize shn r (qs.drop (qs.length-i))=R at *
  subst_eqs
  refine ⟨k7,λp1 hp1=>⟨k7,λp2 hp2=>?_⟩⟩;have S1:=b9.new hp1 (.tup [.int 1,.int 1]);have S2:=b9.new hp2 (.lst [.ref ax,.ref p1]);have S12:=s1.trans (S1.trans S2);have h1:(upd (upd H1 p1 (.tup [.int 1,.int 1])) p2 (.lst [.ref ax,.ref p1])) p1=some (.tup (k6 1)):=S2 _ _ b6;obtain ⟨bR0,bR1,bR2⟩:=bR
  have oR:∀ x ∈ [r,1],OvB r.den c x:=λx hx=>by
   rcases z0z.mp hx with z | z
   ·rw [z];exact ⟨r.num,(z0y r).symm,hc.n⟩
   ·rw [j0q.mp z]
    exact ⟨r.den,by
     have:((r.den:Int):Rat) ≠ 0:=λy=>by have:=(j0z (a:=(r.den:Int)) (b:=0)).mp y;omega
     rw [q0y,q0u,q0d _ this],by rw [q0m];exact hc.d⟩
  have bRr:j4 R*r.den<2 ^ 1340:=q0b (j0b bR1 hc.d) (by rw [<- z0u];exact c6 ⋯)
  refine ⟨p,p2,zs,[.ref ax,.ref p1],R,[r,1],j4 R,r.den,1300,c,1340,rfl,SqL.of (S2 _ _ (S1 _ _ e1)),SqL.of b6,n1.mono (S1.trans S2).tups,.cons (S12 _ _ hx) (.cons h1 .nil),bR2,oR,bR0,d0,bRr,by decide,by decide,⋯,⋯,by simp,λm1 r1 z1 H3 t1 oM s3 f3 e3 n3=>?_⟩
  have tM:Q7 (w8 R [r,1]) (w8 R [r,1]).length:=by
   refine W3 λx hx=>?_
   by_cases hR:R=[]
   ·subst hR;simp [w8] at hx
   ·have hRl:R.length-1<R.length:=by have:=y0m.mpr hR;omega
    have hlast:=q0c (l:=R) hRl;have:=aX1 hR (by simp) hlast (show [r,1][[r,1].length-1]? = some 1 from rfl)
    rw [this] at hx
    cases hx
    rw [m0f];exact lR _ hlast
  have em:=t1.uniq tM;rw [em,v0q] at n3;have bM:∀ q ∈ w8 R [r,1],BtN 1340 q:=λq hq=>(oM q hq).bt (v0g bR0 d0) bRr ⋯;refine ⟨af7,λp4 hp4=>?_⟩;have S4:=b9.new hp4 (.lst [.ref py]);have S14:=S12.trans (s3.trans S4);refine ⟨p4,[.ref py],[q],rfl,SqL.of b6,.cons (S14 _ _ hpy) .nil,λm2 r2 H5 t2 s5 f5 e5=>?_⟩;have S15:=S14.trans s5;refine ⟨r1,r2,z1,[V.ref py].take m2,w8 R [r,1],[q].take m2,rfl,SqL.of (s5 _ _ (S4 _ _ e3)),SqL.of e5,n3.mono (S4.trans s5).tups,p7.take m2 (.cons (S15 _ _ hpy) .nil),⟨1340,m,bM,?_,⋯,by decide,hm1⟩,?_,?_,λm3 l zs3 H6 t3 s6 f6 e6 n6=>?_⟩
  ·intro q' hq'
   rw [j0q.mp (g0r hq')];exact hqm
  ·by_cases hR:R=[]
   ·subst hR;simp [w8]
   ·rw [U7 hR (by simp)];simp only [q0x,j0y];omega
  ·rw [y0q];simp only [q0x,j0y];omega
  ·rw [bn2 t2 hRq] at t3 n6
   have em3:=t3.uniq (W3 lR');rw [em3,v0q] at n6;have S6:=S15.trans s6;have fl:=S15.free f6;rw [eR']
   first
    | exact ⟨l,rfl,S6,fl,zs3,e6,n6⟩
    | exact ⟨l,zs3,rfl,S6,fl,e6,n6⟩
    | exact ⟨l,zs3,S6,fl,e6,n6⟩
    | exact ⟨S6,l,fl,zs3,e6,n6⟩
    | exact ⟨l,zs3,⟨_,rfl⟩,S6,fl,e6,n6⟩
    | exact ⟨_,l,rfl,S6,fl,zs3,e6,n6⟩
    | exact ⟨S6,fl,zs3,e6,n6⟩
    | trace_state
 ·rintro σ H1 ⟨p,zs,o,rfl,s1,hp,e1,n1⟩
  rw [hxl,g0q,List.drop_zero] at n1
  subst_eqs
  exact k p zs H1 s1 hp e1 n1
end
def isB (B:Nat) (x:Rat):Prop:=∃ z:Int,x*(B:Rat)=(z:Rat)
theorem isB.add {B:Nat} {x y:Rat} (h:isB B x) (k:isB B y):isB B (x+y):=by
 obtain ⟨a,ha⟩:=h;obtain ⟨b,hb⟩:=k;exact ⟨a+b,by rw [q1n,<- ha,<- hb];grind⟩
theorem isB.mul {B C:Nat} {x y:Rat} (h:isB B x) (k:isB C y):isB (B*C) (x*y):=by
 obtain ⟨a,ha⟩:=h;obtain ⟨b,hb⟩:=k;exact ⟨a*b,by rw [z0e,<- ha,<- hb,g0y];grind⟩
theorem isB.up {B:Nat} {x:Rat} (h:isB B x) (C:Nat):isB (B*C) x:=by
 obtain ⟨a,ha⟩:=h;exact ⟨a*C,by rw [z0e,<- ha,g0y,y0e];grind⟩
theorem isB.zero (B:Nat):isB B 0:=⟨0,by rw [Rat.zero_mul];rfl⟩
theorem isB.int (B:Nat) (z:Int):isB B (z:Rat):=⟨z*B,by rw [z0e,y0e]⟩
theorem isB.dv {B:Nat} {x:Rat} (hB:0<B) (h:isB B x):∃ z:Int,x=q0e z B:=by
 obtain ⟨a,ha⟩:=h;have b0:(0:Rat)<((B:Int):Rat):=j0r.mpr ⋯;refine ⟨a,?_⟩;rw [q0y,q0u,<- ha,<- y0e,j0m,q0d _ (k8 b0)];grind
theorem isB.of {B W:Nat} {x:Rat} (hB:0<B) (h:OvB B W x):isB B x:=by
 obtain ⟨v,e,_⟩:=h;have b0:(0:Rat)<((B:Int):Rat):=j0r.mpr ⋯;exact ⟨v,by rw [e,q0y,q0u,<- y0e,j0m,y0z _ (k8 b0)];grind⟩
theorem aK8 {x:Rat} (h:OvB 60 10 x):ab x<=18:=by
 obtain ⟨v,e,b⟩:=h;have:=am1 (z:=v) (B:=60) (by decide) e
 have c:((v.natAbs:Nat):Rat)<=((1024:Nat):Rat):=y0d.mpr ⋯;rw [this] at c;have e1:((60:Nat):Rat)=60:=rfl;have e2:((1024:Nat):Rat)=1024:=rfl;rw [e1,e2] at c
 grind
structure ag6 (qs:List Rat) (n B:Nat) (g L:Rat):Prop where
 len:qs.length=n+1
 top:aQ qs n ≠ 0
 it:∀ k,isB B (aQ qs k)
 ld:ab (aQ qs n)<=L
 g0:0<=g
 dm:∀ k,ab (aQ qs k)<=ab (aQ qs n)*aQ (dmL g n) k
section
variable {qs:List Rat} {n B:Nat} {g L:Rat}
theorem ag6.w (h:ag6 qs n B g L) (n1:1<=n) (n7:n<=7) (hB:0<B) (C:Nat) (hC:0<C):U3 qs n (B*C) g L :=
 ⟨h.len,n1,n7,h.top,v0g hB hC,λk=>((h.it k).up C).dv (v0g hB hC),h.ld,h.g0,h.dm⟩
theorem ag6.tl (h:ag6 qs n B g L):∀ x,qs[qs.length-1]? = some x->x ≠ 0:=λx hx=>by
 rw [h.len,q0w] at hx;have e:aQ qs n=x:=by unfold aQ;rw [hx];rfl
 rw [<- e];exact h.top
theorem ag6.start {c:Rat} (c0:c ≠ 0) (h:isB B c) (hL:ab c<=L) (g0:0<=g):ag6 [c] 0 B g L:=by
 refine ⟨rfl,c0,λk=>?_,hL,g0,λk=>?_⟩
 ·cases k with
  | zero=>exact h
  | succ k=>exact isB.zero _
 ·cases k with
  | zero=>show ab c<=ab c*1;grind
  | succ k=>show ab 0<=ab c*0;have:ab 0=0:=rfl;rw [this];grind
theorem aU7 (qs fs:List Rat) (k:Nat):aQ (w8 qs fs) k=(qp fs*qp qs).f k:=by
 rw [show qp fs*qp qs=qp qs*qp fs by grind,<- bc1];rfl
theorem ag6.mul1 (h:ag6 qs n B g L) {c:Rat} {C:Nat} (hc:isB C c) (bc:ab c<=g):ag6 (w8 qs [c,1]) (n+1) (B*C) g L:=by
 have q0:qs ≠ []:=λz=>by have:=h.len;rw [z] at this;cases this
 have e:∀ k,aQ (w8 qs [c,1]) k=c*aQ qs k+at' (qp qs) 1 k:=λk=>by rw [aU7,af1];rfl
 have o:∀ k,n<k->aQ qs k=0:=λk hk=>N2 (by rw [h.len];omega)
 have tp:aQ (w8 qs [c,1]) (n+1)=aQ qs n:=by
  rw [e,o _ ⋯];unfold at';rw [if_pos ⋯,q0w]
  show _+aQ qs n=_
  grind
 have z:ab 0=0:=rfl;refine ⟨by rw [U7 q0 (by simp),h.len];rfl,by rw [tp];exact h.top,λk=>?_,by rw [tp];exact h.ld,h.g0,λk=>?_⟩
 ·rw [e]
  refine isB.add ?_ ?_
  ·have:=hc.mul (h.it k)
   rw [g0n] at this;exact this
  ·unfold at'
   split
   ·exact (h.it _).up C
   ·exact isB.zero _
 ·rw [e,tp,V3]
  refine z0t (ac5 _ _) ?_;rw [D5];have h1:=h.dm k;have h2:=mle bc (E1 (aQ qs k));have h3:=mle h1 h.g0;unfold at'
  by_cases k0:k=0
  ·rw [if_neg ⋯,if_pos k0,z];grind
  ·rw [if_pos ⋯,if_neg k0]
   have h4:=h.dm (k-1);have e2:(qp qs).f (k-1)=aQ qs (k-1):=rfl;rw [e2];grind
theorem ag6.mul2 (h:ag6 qs n B g L) {c b:Rat} {C:Nat} (hc:isB C c) (hb:isB C b) (bc:ab c<=g*g) (bb:ab b<=2*g):ag6 (w8 qs [c,b,1]) (n+2) (B*C) g L:=by
 have q0:qs ≠ []:=λz=>by have:=h.len;rw [z] at this;cases this
 have e:∀ k,aQ (w8 qs [c,b,1]) k=c*aQ qs k+b*at' (qp qs) 1 k+at' (qp qs) 2 k:=λk=>by rw [aU7,aa9];rfl
 have o:∀ k,n<k->aQ qs k=0:=λk hk=>N2 (by rw [h.len];omega)
 have z:ab 0=0:=rfl;have a1:∀ k,at' (qp qs) 1 k=if k=0 then 0 else aQ qs (k-1):=λk=>by unfold at';by_cases k0:k=0;rw [if_neg ⋯,if_pos k0];rw [if_pos ⋯,if_neg k0];rfl
 have a2:∀ k,at' (qp qs) 2 k=if k<=1 then 0 else aQ qs (k-2):=λk=>by unfold at';by_cases k0:k<=1;rw [if_neg ⋯,if_pos k0];rw [if_pos ⋯,if_neg k0];rfl
 have tp:aQ (w8 qs [c,b,1]) (n+2)=aQ qs n:=by
  rw [e,o _ ⋯,a1,a2,if_neg ⋯,if_neg ⋯,o (n+2-1) ⋯,q0w];grind
 refine ⟨by rw [U7 q0 (by simp),h.len];rfl,by rw [tp];exact h.top,λk=>?_,by rw [tp];exact h.ld,h.g0,λk=>?_⟩
 ·rw [e,a1,a2]
  refine isB.add (isB.add ?_ ?_) ?_
  ·have:=hc.mul (h.it k)
   rw [g0n] at this;exact this
  ·split
   ·rw [Rat.mul_zero];exact isB.zero _
   ·have:=hb.mul (h.it (k-1))
    rw [g0n] at this;exact this
  ·split
   ·exact isB.zero _
   ·exact (h.it _).up C
 ·rw [e,tp,a1,a2]
  refine z0t (ac5 _ _) ?_;have s1:=ac5 (c*aQ qs k) (b*(if k=0 then 0 else aQ qs (k-1)));rw [D5,D5] at s1;have gg:=q0t h.g0 h.g0;have h1:=mle bc (E1 (aQ qs k));have h2:=mle (h.dm k) gg;have g0:=h.g0
  match k with
  | 0 =>
   rw [V3,V3,if_pos rfl,if_pos rfl];rw [if_pos rfl] at s1 ⊢;rw [if_pos ⋯];rw [z] at s1 ⊢
   grind
  | 1 =>
   have h3:=mle bb (E1 (aQ qs 0));have h4:=mle (h.dm 0) (show 0<=2*g by grind)
   have d1:aQ (dmL g (n+2)) 1=aQ (dmL g (n+1)) 0+g*aQ (dmL g (n+1)) 1:=V3 g (n+1) 1;have d2:aQ (dmL g (n+1)) 0=0+g*aQ (dmL g n) 0:=V3 g n 0;have d3:aQ (dmL g (n+1)) 1=aQ (dmL g n) 0+g*aQ (dmL g n) 1:=V3 g n 1;rw [d1,d2,d3];rw [if_neg ⋯] at s1 ⊢;rw [if_pos ⋯,z];rw [show 1-1=0 from rfl] at s1 ⊢
   grind
  | k+2 =>
   have h3:=mle bb (E1 (aQ qs (k+1)));have h4:=mle (h.dm (k+1)) (show 0<=2*g by grind)
   have h5:=h.dm k;rw [V3,if_neg ⋯,V3,if_neg ⋯,V3,if_neg ⋯];rw [if_neg ⋯] at s1 ⊢;rw [if_neg ⋯];rw [show k+2-1=k+1 from rfl] at s1 ⊢;rw [show k+2-2=k from rfl,show k+1-1=k from rfl]
   grind
end
structure KnP (qs:List Rat) (n:Nat) (m:Option Rat):Prop where
 pv:ag6 qs n (60 ^ (n+1)) 18 18
 rt:∀ h,∃ l,Rt n l (qp (shn h qs))/\(l=n ↔ ∀ u,m=some u->u<h)
theorem KnP.start {c:Rat} (c0:c ≠ 0) (h:OvB 60 10 c):KnP [c] 0 none:=⟨.start c0 (isB.of (by decide) h) (aK8 h) (by decide),λ_=>⟨0,Rt.start c0,⟨λ_ _ z=>(by cases z),λ_=>rfl⟩⟩⟩
def mxO (m:Option Rat) (u:Rat):Rat:=match m with
 | none=>u
 | some v=>if v<u then u else v
theorem bd4 (m:Option Rat) (u h:Rat):(∀ v,some (mxO m u)=some v->v<h) ↔ (∀ v,m=some v->v<h)/\u<h:=by
 constructor
 ·intro k
  have k:=k _ rfl
  cases m with
  | none=>exact ⟨λ_ z=>(by cases z),k⟩
  | some v =>
   have e:mxO (some v) u=if v<u then u else v:=rfl;rw [e] at k
   by_cases y:v<u
   ·rw [if_pos y] at k
    exact ⟨λw z=>(by cases z;grind),k⟩
   ·rw [if_neg y] at k
    exact ⟨λw z=>(by cases z;exact k),by grind⟩
 ·rintro ⟨a,b⟩ v z
  cases z
  cases m with
  | none=>exact b
  | some v =>
   have a:=a v rfl
   show (if v<u then u else v)<h
   split <;> assumption
theorem KnP.lin {qs:List Rat} {n:Nat} {m:Option Rat} (K:KnP qs n m) {u:Rat} (hu:OvB 60 10 u):KnP (w8 qs [-u,1]) (n+1) (some (mxO m u)):=by
 refine ⟨?_,λh=>?_⟩
 ·have nb:isB 60 (-u):=by
   obtain ⟨z,hz⟩:=isB.of (by decide) hu
   exact ⟨-z,by rw [v0c,<- hz];grind⟩
  have:=K.pv.mul1 nb (by rw [ac4];exact aK8 hu)
  rw [<- j0w] at this;exact this
 ·obtain ⟨l,R,hl⟩:=K.rt h
  have e:shn h [-u,1]=[-(u-h),1]:=by
   show [-u+h*1,1]=_
   congr 1;grind
  have M:=R.mul (bn5 (u-h));rw [<- e,show qp (shn h [-u,1])*qp (shn h qs)=qp (shn h qs)*qp (shn h [-u,1]) by grind,<- ar1] at M
  refine ⟨_,M,?_⟩;rw [bd4,<- hl];have le:=R.le
  by_cases y:u-h<0
  ·rw [if_pos y]
   exact ⟨λz=>⟨⋯,by grind⟩,λz=>by rw [z.1]⟩
  ·rw [if_neg y]
   exact ⟨λz=>⋯,λz=>absurd (show u-h<0 by grind) y⟩
theorem KnP.quad {qs:List Rat} {n:Nat} {m:Option Rat} (K:KnP qs n m) {u v:Rat} (hu:OvB 60 10 u) (hv:OvB 60 10 v) (v0:0<v):KnP (w8 qs [u*u+v,-2*u,1]) (n+2) (some (mxO m u)):=by
 refine ⟨?_,λh=>?_⟩
 ·have bu:=isB.of (by decide) hu
  have bv:=isB.of (by decide) hv
  have au:=aK8 hu
  have av:ab v<=1024 / 60:=by
   obtain ⟨w,e,b⟩:=hv;have:=am1 (z:=w) (B:=60) (by decide) e
   have c:((w.natAbs:Nat):Rat)<=((1024:Nat):Rat):=y0d.mpr ⋯;rw [this] at c;have e1:((60:Nat):Rat)=60:=rfl;have e2:((1024:Nat):Rat)=1024:=rfl;rw [e1,e2] at c
   grind
  have au':ab u<=1024 / 60:=by
   obtain ⟨w,e,b⟩:=hu;have:=am1 (z:=w) (B:=60) (by decide) e
   have c:((w.natAbs:Nat):Rat)<=((1024:Nat):Rat):=y0d.mpr ⋯;rw [this] at c;have e1:((60:Nat):Rat)=60:=rfl;have e2:((1024:Nat):Rat)=1024:=rfl;rw [e1,e2] at c
   grind
  have:=K.pv.mul2 (c:=u*u+v) (b:=-2*u) (C:=60*60) ((bu.mul bu).add (bv.up 60)) (((isB.int 60 (-2)).mul bu)) (by
   refine z0t (ac5 _ _) ?_;rw [D5];have h1:=mle au' (E1 u)
   grind) (by
   have e:ab (-2*u)=2*ab u:=by rw [D5];rfl
   rw [e];grind)
  rw [show 60 ^ (n+1)*(60*60)=60 ^ (n+2+1) by rw [j0w,j0w,j0w];grind] at this
  exact this
 ·obtain ⟨l,R,hl⟩:=K.rt h
  have e:shn h [u*u+v,-2*u,1]=[(u-h)*(u-h)+v,-2*(u-h),1]:=by
   show [u*u+v+h*(-2*u+h*1),-2*u+h*1+h*1,1]=_
   congr 1
   ·grind
   ·congr 1;grind
  have M:=R.mul (bg1 (u-h) v0);rw [<- e,show qp (shn h [u*u+v,-2*u,1])*qp (shn h qs)=qp (shn h qs)*qp (shn h [u*u+v,-2*u,1]) by grind,<- ar1] at M
  refine ⟨_,M,?_⟩;rw [bd4,<- hl];have le:=R.le
  by_cases y:u-h<0
  ·rw [if_pos y]
   exact ⟨λz=>⟨⋯,by grind⟩,λz=>by rw [z.1]⟩
  ·rw [if_neg y]
   exact ⟨λz=>⋯,λz=>absurd (show u-h<0 by grind) y⟩
theorem KnP.dies {qs:List Rat} {n:Nat} {u:Rat} (K:KnP qs n (some u)) (h:Rat):V6 (shn h qs)=decide (u<h):=by
 obtain ⟨l,R,hl⟩:=K.rt h;rw [V5 K.pv.len];have:=R.dies;have e:(qp (shn h qs)).f=aQ (shn h qs):=rfl;rw [e] at this;rw [this,decide_eq_decide,hl];exact ⟨λz=>z u rfl,λz v y=>by cases y;exact z⟩
structure Drw (qs:List Rat) (n:Nat) (m:Option Rat):Prop where
 pw:U3 qs n (60 ^ 8) 18 18
 tl:∀ u,m=some u->∀ h,V6 (shn h qs)=decide (u<h)
theorem KnP.drw {qs:List Rat} {n:Nat} {m:Option Rat} (K:KnP qs n m) (n1:1<=n) (n7:n<=7):Drw qs n m:=by
 refine ⟨?_,λu e h=>by subst e;exact K.dies h⟩
 have:=K.pv.w n1 n7 (v0h (by decide)) (60 ^ (7-n)) (v0h (by decide))
 rw [<- z0u,show n+1+(7-n)=8 by omega] at this
 exact this
theorem Drw.any {ps:List Rat} (h:∀ x ∈ ps,OvB 60 10 x) (l1:1<=ps.length) (l7:ps.length<=7):Drw (ps ++ [1]) ps.length none:=by
 have tp:aQ (ps ++ [1]) ps.length=1:=by unfold aQ;rw [v0d (q0j _),g0q];rfl
 have lo:∀ k,k<ps.length->∃ x,x ∈ ps/\aQ (ps ++ [1]) k=x:=λk hk=>⟨ps[k],u0x hk,by unfold aQ;rw [m0u hk,q0c hk];rfl⟩
 have hi:∀ k,ps.length<k->aQ (ps ++ [1]) k=0:=λk hk=>N2 (by rw [j0n];simp;omega)
 have dk:∀ n k:Nat,k<n->18<=aQ (dmL 18 n) k:=λn=>by
  induction n with
  | zero=>intro k hk;omega
  | succ n ih =>
   intro k hk;rw [V3];have p1:=am2 (show (0:Rat)<=18 by decide) n (k-1)
   by_cases z:k<n
   ·have:=ih k z
    split <;> grind
   ·rw [show k=n by omega,aE5]
    rw [show k=n by omega] at p1
    split <;> grind
 refine ⟨⟨by rw [j0n];rfl,l1,l7,by rw [tp];decide,by decide,λk=>?_,by rw [tp];decide,by decide,λk=>?_⟩,λ_ z=>by cases z⟩
 ·refine isB.dv (by decide) ?_
  rcases m0s k ps.length with y | y | y
  ·obtain ⟨x,hx,e⟩:=lo k y
   rw [e];have:=(isB.of (by decide) (h x hx)).up (60 ^ 7)
   exact this
  ·rw [y,tp];exact isB.int _ 1
  ·rw [hi k y];exact isB.zero _
 ·have a1:ab 1=1:=rfl
  rw [tp,a1];rcases m0s k ps.length with y | y | y
  ·obtain ⟨x,hx,e⟩:=lo k y
   rw [e];have:=aK8 (h x hx);have:=dk _ k y
   grind
  ·rw [y,tp,aE5,a1];grind
  ·rw [hi k y]
   have:=am2 (show (0:Rat)<=18 by decide) ps.length k
   have z:ab 0=0:=rfl;rw [z];grind
structure LnW (qs:List Rat) (n e s:Nat) (hair:Rat):Prop where
 ex:∃ (B W:Nat) (g L:Rat),U3 qs n B g L/\(∀ q ∈ qs,OvB B W q)/\B<2 ^ W/\W<=140/\∀ k,k<=n->aQ (dmL g n) (n-k)<=((2 ^ (s*k):Nat):Rat)
 fit:∀ x:Rat,(∃ z:Int,x=q0e z (2 ^ e:Nat))->-(2*2 ^ (s+1))<=x->x<=2*2 ^ (s+1)->∃ Bt W V':Nat,(∀ q ∈ shn x qs,OvB Bt W q)/\0<Bt/\Bt<2 ^ V'/\W<=300/\V'<=W/\20*W+3*V'<=5860
 e20:e<=20
 s8:s<=8
 he:q0e 1 (2 ^ e:Nat)<=hair
 bh:BdN 100 hair
 h0:0<hair
def MxN (K:q0a) (H:Hp) (vm:V):Option Rat->Prop
 | none=>vm=.non
 | some u=>Num K H vm u/\BdN 100 u
structure LnH (H:Hp) (t:Addr) (qs:List Rat) (hair:Rat) (e s:Nat) (lo hi:Rat):Prop where
 ex:∃ r al ah,H t=some (.tup [.str "told",.ref r])/\H r=some (.tup [.ref al,.ref ah])/\H al=some (.tup (k6 lo))/\H ah=some (.tup (k6 hi))
 ln:LnR qs hair e s lo hi
theorem LnH.tups {H H':Hp} {t:Addr} {qs:List Rat} {hair lo hi:Rat} {e s:Nat} (h:LnH H t qs hair e s lo hi) (p:N3 H H'):LnH H' t qs hair e s lo hi:=by
 obtain ⟨r,al,ah,a,b,c,d⟩:=h.ex;exact ⟨⟨r,al,ah,p _ _ a,p _ _ b,p _ _ c,p _ _ d⟩,h.ln⟩
theorem bq8 {e s:Nat} {x:Rat} (hx:∃ z:Int,x=q0e z (2 ^ e:Nat)) (e20:e<=20) (s8:s<=8) (h1:-(2*2 ^ (s+1))<=x) (h2:x<=2*2 ^ (s+1)):BdN 31 x:=by
 obtain ⟨z,hz⟩:=hx;have a:=br4 (h:=s+1) hz h1 h2;have b:=bg7 hz;have p1:2 ^ (s+1+1+e)<2 ^ 31:=y0u (by decide) ⋯
 have p2:2 ^ e<2 ^ 31:=y0u (by decide) ⋯
 exact ⟨⋯,⋯⟩
section
variable {P:Program} {w:World} {K:q0a} {mg:Str->Option Value} {base:Heap}
def bq3 (K:q0a):Sp:=λvs H Q _ => ∃ (a:Addr) (x:V) (xs:List V) (qs:List Rat) (hair:Rat),vs=[.ref a,x]/\SqL K H a xs/\p7 H xs qs/\Num K H x hair/\BdN 100 hair/\(qs.length<2->∀ t H',b9 H H'->H' t=some (.tup [.str "refused",.str "polynomial"])->Q (.ref t) H') /\
 (2<=qs.length->∃ (n e s:Nat),LnW qs n e s hair/\∀ t lo hi H',b9 H H'->LnH H' t qs hair e s lo hi->Q (.ref t) H')
abbrev R6:Stmt:=top 69
theorem W6:i7 ["_law_p","_law_hair","_law_e","_law_found"] ["_law_p","_law_hair"] (c4 R6):=by and_intros
theorem aC8 {a:CAd} {f fw fg:Addr} (d:Df K mg "_law_said" R6 ["_law_p","_law_hair"] f) (G_line_of:Def P w K mg base (CXR P w) 4 "line_of" fg ["p","hair"] (bb1 K a.c_NoPolynomial)) (G__law_which:bp5 P w K mg base 1 "_law_which" fw ["_law_e"] (aA2 K a)) (x_RestError:ExT K mg "RestError" a.c_RestError) (kt:bz6 K a a.c_NoPolynomial 1):Def P w K mg base CX0 5 "_law_said" f ["_law_p","_law_hair"] (bq3 K):=by
  refine d.ok (N:=["_law_p","_law_hair","_law_e","_law_found"]) W6 (by rintro vs H Q E ⟨_,_,_,_,_,h,_⟩;rw [h];rfl) (λcdv A outer s H vs Q E hr h=>?_)
  obtain ⟨l,x,xs,qs,hair,rfl,hS,hN,hx,bh,k0,k1⟩:=h
  refine ⟨_, (b7 (bt7 (i := 2) (C := a.c_RestError) rfl rfl rfl W6.nd rfl rfl rfl x_RestError.m (fun E xe pn hx => (c5 (i4 (i := 3) W6.nd rfl (Or.inl rfl) (c9 G_line_of hr (a7 (pv 0) (a7 (pv 1) a8)) hx)))) (fun b => (c5 (i5 (l6 (a7 Y6 (a7 (bl0 G__law_which (hr.toX.mark _) (a7 (pv 2) a8)) a8)))))))
      (c5 (i5 (l6 (a7 Y6 (a7 (pv 3) a8)))))),?_⟩
  rw [show start ["_law_p","_law_hair","_law_e","_law_found"] [.ref l,x]=[some (.ref l),some (x),none,none] from rfl]
  simp! [bA1,aA2]
  refine ⟨l,x,xs,qs,hair,rfl,hS,hN,hx,bh,λh2 H1 s1=>⟨kt.ex,λe he=>⟨_,rfl,e,rfl,_,1,kt,by decide,b6,λH2 s2=>⟨k7,λp hp=>k0 h2 p _ ((s1.trans (b9.new he _)).trans (s2.trans (b9.new hp _))) b6⟩⟩⟩,λh2=>?_⟩
  obtain ⟨n,e,s,ww,k⟩:=k1 h2;obtain ⟨B,W,g,L,pw,ov,bB,w1,hd⟩:=ww.ex;refine ⟨n,B,W,e,s,g,L,pw,ov,bB,⋯,ww.e20,ww.s8,ww.he,hd,λr al ah lo hi H1 s1 e1 e2 e3 R=>⟨k7,λp hp=>?_⟩⟩;have S:=b9.new hp (.tup [.str "told",.ref r])
  exact k p lo hi _ (s1.trans S) ⟨⟨r,al,ah,b6,S _ _ e1,S _ _ e2,S _ _ e3⟩,R⟩
def bb4 (K:q0a):Sp:=λvs H Q _ => ∃ (a t:Addr) (vm x:V) (xs:List V) (qs:List Rat) (n e s:Nat) (m:Option Rat) (hair lo hi:Rat),vs=[.ref a,vm,x,.ref t]/\SqL K H a xs/\p7 H xs qs/\MxN K H vm m/\Num K H x hair/\LnW qs n e s hair/\(∀ u,m=some u->∀ h,V6 (shn h qs)=decide (u<h))/\LnH H t qs hair e s lo hi/\∀ H',b9 H H'->Q (.bl true) H'
abbrev C7:Stmt:=top 70
theorem C0:i7 ["_law_p","_law_most","_law_hair","_law_said_here","_law_word","_law_found","_law_low_here","_law_high"] ["_law_p","_law_most","_law_hair","_law_said_here"] (c4 C7):=by and_intros
theorem ao1 {f f1 f2 f3 f4 f5:Addr} (d:Df K mg "_law_is_line" C7 ["_law_p","_law_most","_law_hair","_law_said_here"] f) (G__law_is_number:Def P w K mg base CX0 2 "_law_is_number" f1 ["_law_thing"] (aQ3 K)) (G__law_below:Def P w K mg base CX0 1 "_law_below" f2 ["_law_one","_law_other_here"] (ah8 K)) (G__law_less:Def P w K mg base CX0 2 "_law_less" f3 ["_law_one","_law_other_here"] (K1 K (· - ·))) (G__law_moved:Def P w K mg base CX0 4 "_law_moved" f4 ["_law_p","_law_number_here"] (aq5 K)) (G__law_dies:Def P w K mg base CX0 3 "_law_dies" f5 ["_law_p"] (aQ2 K)) (n_isinstance:mg "isinstance" = none) (n_tuple:mg "tuple" = none) (n_len:mg "len" = none) (n_all:mg "all" = none):Def P w K mg base CX0 5 "_law_is_line" f ["_law_p","_law_most","_law_hair","_law_said_here"] (bb4 K):=by
  refine d.ok (N:=["_law_p","_law_most","_law_hair","_law_said_here","_law_word","_law_found","_law_low_here","_law_high"]) C0 (by rintro vs H Q E ⟨_,_,_,_,_,_,_,_,_,_,_,_,_,h,_⟩;rw [h];rfl) (λcdv A outer s H vs Q E hr h=>?_)
  obtain ⟨a,t,vm,x,xs,qs,n,e,sx,m,hair,lo,hi,rfl,hS,hN,hm,hx,ww,aG5,lh,k⟩:=h;have hu:=hr.units
  refine ⟨_, (b7 (G8 (pv 3) (show PG _ _ (U9 K 2 (v9 (t6 4) (v9 (t6 5) V0))) from by (refine C9 (n := 2) ?_ ?_ ?_ ?_; rfl; (refine j3 ?_ ?_ ?_; (exact (d9 (i := 4) C0.nd rfl (Or.inl rfl))); (refine j3 ?_ ?_ ?_; (exact (d9 (i := 5) C0.nd rfl (Or.inl rfl))); (exact z8); rfl); rfl); rfl; rfl)))
      (b7 (y7 (PW.pt (T8 (j9 aI0 (pv 4) Y6 (l5 _)) (T8 (N1 (E4 (d5 j5 rfl n_isinstance (by decide +kernel) (a7 (pv 5) (a7 (aj0 (v:=.ty "tuple") rfl n_tuple (by decide +kernel) rfl) a8))))) (Y1 (j9 aI0 (d5 j0 rfl n_len (by decide +kernel) (a7 (pv 5) a8)) a9 (l5 _)))))) (c5 (i5 M4)) o0)
      (b7 (y7 (N1 (E4 (d5 (bi1 rfl) rfl n_all (by decide +kernel) (a7 (ai9 (Nc:=["_law_one"]) (caps:=[none]) rfl (ag7.of (osc:=c4 C7) (N:=["_law_p","_law_most","_law_hair","_law_said_here","_law_word","_law_found","_law_low_here","_law_high"]) (ks:=[]) rfl rfl rfl rfl G2 (by decide +kernel)) (bu3 (pv 5)) (λC s₂ H₂ fp pins=>(d9 (i:=0) (show List.Nodup (["_law_one"]:List Str) by decide +kernel) rfl (Or.inl rfl) (Or.inr rfl))) (λC s₂ H₂ fp pins=>(c9 G__law_is_number hr (a7 (pv 0) a8) d8))) a8)))) (c5 (i5 M4)) o0)
      (b7 (G8 (pv 5) (show PG _ _ (U9 K 2 (v9 (t6 6) (v9 (t6 7) V0))) from by (refine C9 (n:=2) ?_ ?_ ?_ ?_;rfl;(refine j3 ?_ ?_ ?_;(exact (d9 (i:=6) C0.nd rfl (Or.inl rfl)));(refine j3 ?_ ?_ ?_;(exact (d9 (i:=7) C0.nd rfl (Or.inl rfl)));(exact z8);rfl);rfl);rfl;rfl)))
      (b7 (y7 (PW.pt (T8 (N1 (E4 (c9 G__law_below hr (a7 (pv 6) (a7 (pv 7) a8)) d8))) (Y1 (E4 (c9 G__law_below hr (a7 (pv 2) (a7 (c9 G__law_less hr (a7 (pv 7) (a7 (pv 6) a8)) d8) a8)) d8))))) (c5 (i5 M4)) o0)
      (b7 (y7 (PW.pt (aM5 (j9 aR5 (pv 1) al1 (l5 _)) (aB9 (PW.pt (T8 (E4 (c9 G__law_below hr (a7 (pv 1) (a7 (pv 6) a8)) d8)) (Y1 (N1 (E4 (c9 G__law_below hr (a7 (pv 1) (a7 (pv 7) a8)) d8))))))))) (c5 (i5 M4)) o0)
      (c5 (i5 (aN0 (c9 G__law_dies hr (a7 (c9 G__law_moved hr (a7 (pv 0) (a7 (pv 7) a8)) d8) a8) d8) (aM9 (bc6 (c9 G__law_dies hr (a7 (c9 G__law_moved hr (a7 (pv 0) (a7 (pv 6) a8)) d8) a8) d8)))))))))))),?_⟩
  rw [show start ["_law_p","_law_most","_law_hair","_law_said_here","_law_word","_law_found","_law_low_here","_law_high"] [.ref a,vm,x,.ref t]=[some (.ref a),some (vm),some (x),some (.ref t),none,none,none,none] from rfl]
  obtain ⟨r,al,ah,et,er,el,eh⟩:=lh.ex;have ln:=lh.ln;obtain ⟨h,hh9,hb1,hb2⟩:=ln.bb;have s8:=ww.s8;have ltv:=ln.lt;have pm:=ai7 (x:=2) (by decide) h (sx+1-h)
  rw [show h+(sx+1-h)=sx+1 by omega] at pm
  have l1:-(2*2 ^ (sx+1))<=lo:=by grind
  have l2:lo<=2*2 ^ (sx+1):=by grind
  have u1:-(2*2 ^ (sx+1))<=hi:=by grind
  have u2:hi<=2*2 ^ (sx+1):=by grind
  have bl:=bq8 ln.lo' ww.e20 s8 l1 l2;have bhi:=bq8 ln.hi' ww.e20 s8 u1 u2;refine d7 (λσ H1=>H1=H/\σ=[some (.ref a),some vm,some x,some (.ref t),some (.str "told"),some (.ref r),none,none]) (λNn hN'=>?_) ?_
  · subst_eqs
    exact ⟨_,SqT.of et,rfl,_,_,rfl,_,_,rfl,rfl,hN' _ _ ⟨rfl,rfl⟩⟩
  rintro σ H1 ⟨rfl,rfl⟩;refine d7 (λσ H2=>H2=H1/\σ=[some (.ref a),some vm,some x,some (.ref t),some (.str "told"),some (.ref r),none,none]) (λNn hN'=>?_) ?_
  · subst_eqs
    have tr:=SqT.of (K:=K) er;exact ⟨rfl,trivial,_,.sqt tr,_,an2,x8 (λz=>by cases z) (λ_=>⟨_,.inr tr,rfl,x8 (λz=>absurd rfl z) (λ_=>hN' _ _ ⟨rfl,rfl⟩)⟩)⟩
  rintro σ H2 ⟨rfl,rfl⟩;refine d7 (λσ H3=>b9 H2 H3/\σ=[some (.ref a),some vm,some x,some (.ref t),some (.str "told"),some (.ref r),none,none]) (λNn hN'=>?_) ?_
  · subst_eqs
    refine ⟨⟨_,SqT.of er⟩,λD hD=>?_⟩;refine by4 [.ref al,.ref ah] (λj σ H3 => ∃ o,σ=[o]/\b9 H2 H3/\H3 D=some (.lst ((List.replicate j true).map V.bl))) ⟨_,rfl,b9.new hD _,b6⟩ (λj σ H3 _ ⟨o,_,s3,_⟩=>s3.tup (SqT.of er)) ?_ ?_
    · rintro j v σ H3 hx' ⟨o,rfl,s3,e3⟩
      have hj:j<2:=(List.getElem?_eq_some_iff.mp hx').1
      have nb:∃ q,Num K H3 v q/\BdN 31 q:=by
        match j,hx' with
        | 0,hx'=>cases hx';exact ⟨lo,⟨al,rfl,SqT.of (s3 _ _ el)⟩,bl⟩
        | 1,hx'=>cases hx';exact ⟨hi,⟨ah,rfl,SqT.of (s3 _ _ eh)⟩,bhi⟩
      obtain ⟨q,nq,bq⟩:=nb
      subst_eqs
      refine ⟨v,q,rfl,nq,Nat.lt_of_lt_of_le bq.d' (c6 (by decide)),λH4 s4=>?_⟩
      have e4:=s4 _ _ e3;refine E3.mk hj e4 (al7 (by rw [List.length_map,List.length_replicate];omega)) ⟨_,rfl,(s3.trans s4).over hD _,?_⟩
      rw [b6,List.replicate_succ',List.map_append];rfl
    · rintro σ H3 ⟨o,rfl,s3,e3⟩
      refine ⟨D,rfl,_,SqL.of e3,x8 (λz=>?_) (λ_=>hN' _ _ ⟨s3,rfl⟩)⟩;exact absurd z (show ¬ (List.replicate 2 true).all id=false by decide)
  rintro σ H3 ⟨S3,rfl⟩;refine d7 (λσ H4=>H4=H3/\σ=[some (.ref a),some vm,some x,some (.ref t),some (.str "told"),some (.ref r),some (.ref al),some (.ref ah)]) (λNn hN'=>?_) ?_
  · subst_eqs
    exact ⟨_,SqT.of (S3 _ _ er),rfl,_,_,rfl,_,_,rfl,rfl,hN' _ _ ⟨rfl,rfl⟩⟩
  rintro σ H4 ⟨rfl,rfl⟩;refine d7 (λσ H5=>b9 H4 H5/\σ=[some (.ref a),some vm,some x,some (.ref t),some (.str "told"),some (.ref r),some (.ref al),some (.ref ah)]) (λNn hN'=>?_) ?_
  · subst_eqs
    have tl:=SqT.of (K:=K) (S3 _ _ el);have th:=SqT.of (K:=K) (S3 _ _ eh);refine ⟨_,_,lo,hi,rfl,⟨al,rfl,tl⟩,⟨ah,rfl,th⟩,bl.mono (by decide),bhi.mono (by decide),_,rfl,x8 (λz=>absurd ltv (of_decide_eq_false z)) (λ_=>?_)⟩
    refine ⟨_,_,hi,lo,31,31,rfl,⟨ah,rfl,th⟩,⟨al,rfl,tl⟩,bhi.t (by decide),bl.t (by decide),by decide,λr5 H5 s5 e5=>?_⟩
    refine ⟨_,_,hair,hi-lo,rfl,hx.same (S3.trans s5),⟨r5,rfl,SqT.of e5⟩,ww.bh.mono (by decide),(bhi.sub bl).mono (by decide),_,rfl,x8 (λz=>absurd (of_decide_eq_true z) ln.st) (λ_=>hN' _ _ ⟨s5,rfl⟩)⟩
  rintro σ H5 ⟨S5,rfl⟩;refine d7 (λσ H6=>H6=H5/\σ=[some (.ref a),some vm,some x,some (.ref t),some (.str "told"),some (.ref r),some (.ref al),some (.ref ah)]) (λNn hN'=>?_) ?_
  · subst_eqs
    have S35:=S3.trans S5;have tl:=SqT.of (K:=K) (S35 _ _ el);have th:=SqT.of (K:=K) (S35 _ _ eh)
    cases m with
    | none =>
      have hm:vm=.non:=hm;subst hm;exact x8 (λz=>absurd rfl z) (λ_=>hN' _ _ ⟨rfl,rfl⟩)
    | some u =>
      obtain ⟨hm1,hm2⟩:=hm;have d1:=aG5 u rfl lo;have d2:=aG5 u rfl hi;rw [ln.dn] at d1;rw [ln.up] at d2;have a1:¬ u<lo:=of_decide_eq_false d1.symm;have a2:u<hi:=of_decide_eq_true d2.symm;refine x8 (λ_=>?_) (λz=>?_)
      · exact ⟨_,_,u,lo,rfl,hm1.same S35,⟨al,rfl,tl⟩,hm2.mono (by decide),bl.mono (by decide),_,rfl,x8 (λz=>absurd (of_decide_eq_true z) a1) (λ_=>⟨_,_,u,hi,rfl,hm1.same S35,⟨ah,rfl,th⟩,hm2.mono (by decide),bhi.mono (by decide),_,rfl,x8 (λz=>absurd a2 (of_decide_eq_false z)) (λ_=>hN' _ _ ⟨rfl,rfl⟩)⟩)⟩
      · exact hN' _ _ ⟨rfl,rfl⟩
  rintro σ H6 ⟨rfl,rfl⟩;obtain ⟨B,W,g,L,pw,ov,bB,w1,hd⟩:=ww.ex;have n7:=pw.n7;have lq:=pw.len;have S35:=S3.trans S5;have tp:∀ c,aQ (shn c qs) n ≠ 0:=λc=>by rw [ac8 _ _ _ lq];exact pw.top
  obtain ⟨B1,W1,V1,o1,p1,q1,r1,t1,v1⟩:=ww.fit hi ln.hi' u1 u2;obtain ⟨B2,W2,V2,o2,p2,q2,r2,t2,v2⟩:=ww.fit lo ln.lo' l1 l2
  subst_eqs
  refine ⟨a,ah,xs,qs,hi,B,W,31,rfl,S35.seq hS,hN.mono S35.tups,ov,pw.b0,bB,⋯,pw.tl,S35 _ _ eh,bhi,by decide,by decide,⋯,λl ys H7 s7 f7 e7 n7'=>?_⟩
  refine ⟨l,ys,shn hi qs,n,B1,W1,V1,rfl,SqL.of e7,n7',by rw [B7,lq],n7,tp hi,o1,p1,q1,r1,t1,v1,λH8 s8'=>?_⟩
  have S8:=S35.trans (s7.trans s8');refine ⟨_,rfl,x8 (λ_=>?_) (λz=>absurd ln.up z)⟩;refine ⟨a,al,xs,qs,lo,B,W,31,rfl,S8.seq hS,hN.mono S8.tups,ov,pw.b0,bB,⋯,pw.tl,S8 _ _ el,bl,by decide,by decide,⋯,λl9 ys9 H9 s9 f9 e9 n9=>?_⟩
  refine ⟨l9,ys9,shn lo qs,n,B2,W2,V2,rfl,SqL.of e9,n9,by rw [B7,lq],n7,tp lo,o2,p2,q2,r2,t2,v2,λH10 s10=>⟨_,rfl,?_⟩⟩
  have dn:bn9 (shn lo qs)=false:=ln.dn;rw [dn];exact k _ (S8.trans (s9.trans s10))
theorem NK.neg {kd:Int} {q:Rat} (h:NK kd q):NK kd (-q):=by
 unfold NK at h ⊢
 split at h
 ·rename_i z
  rw [if_pos z];exact ⟨by show (-q.num).natAbs<_;rw [m0b];exact h.n,h.d⟩
 ·rename_i z
  rw [if_neg z]
  split at h
  ·rename_i y;rw [if_pos y];exact h.neg
  ·rename_i y;rw [if_neg y];exact h.neg
theorem bv6 {kd:Int} {q:Rat} (h:NK kd q) (q0:q ≠ 0):∃ q',[V.int (if q.num<0 then -q.num else q.num),V.int q.den]=k6 q'/\NK kd q'/\0<q':=by
 have n0:q.num ≠ 0:=λz=>q0 (Rat.num_eq_zero.mp z)
 by_cases z:q.num<0
 ·refine ⟨-q,?_,h.neg,ar0 (by show 0 < -q.num;omega)⟩
  show _=[V.int (-q.num),V.int q.den];rw [if_pos z]
 ·refine ⟨q,?_,h,ar0 ⋯⟩
  show _=[V.int q.num,V.int q.den];rw [if_neg z]
def aQ4:Sp:=λvs H Q _ => ∃ u kd,vs=[.ref u,.int kd]/\p8 H u/\∀ r q H',NK kd q->0<q->p9 u H H'->p8 H' u->H' r=some (.tup (k6 q))->Q (.ref r) H'
abbrev O4:Stmt:=top 58
theorem ae8:i7 ["_law_urn_here","_law_kind_here","_law_found"] ["_law_urn_here","_law_kind_here"] (c4 O4):=by and_intros
theorem av5 {f f1:Addr} (d:Df K mg "_law_above" O4 ["_law_urn_here","_law_kind_here"] f) (GD__law_other:Def P w K mg base CX0 3 "_law_other" f1 ["_law_urn_here","_law_kind_here"] ah5) (n_abs:mg "abs" = none):Def P w K mg base CX0 4 "_law_above" f ["_law_urn_here","_law_kind_here"] aQ4:=by
 refine d.ok (N:=["_law_urn_here","_law_kind_here","_law_found"]) ae8 (by rintro vs H Q E ⟨_,_,h,_⟩;rw [h];rfl) (λcdv A outer s H vs Q E hr h=>?_)
 obtain ⟨u,kd,rfl,hu,k⟩:=h;have G__law_other:=GD__law_other
 refine ⟨_,(b7 (i4 (i:=2) ae8.nd rfl (j0a rfl) (c9 G__law_other hr (a7 (pv 0) (a7 (pv 1) a8)) d8))
   (c5 (i5 (l6 (a7 (d5 V8 rfl n_abs (by decide +kernel) (a7 (j2 j6 (pv 2) a9 (λ_ _=>rfl)) a8)) (a7 (j2 j6 (pv 2) a9 (λ_ _=>rfl)) a8)))))),?_⟩
 rw [show start ["_law_urn_here","_law_kind_here","_law_found"] [.ref u,.int kd]=[some (.ref u),some (.int kd),none] from rfl]
 subst_eqs
 refine ⟨u,kd,rfl,hu,λr q H1 nk q0 s1 u1 e1=>?_⟩;obtain ⟨q',e',n',p'⟩:=bv6 nk q0;refine ⟨r,rfl,_,SqT.of e1,_,at0 q,_,rfl,r,rfl,_,SqT.of e1,_,at1 q,k7,λp hp=>?_⟩;refine k p q' _ n' p' (s1.trans (b9.x (b9.new hp _) u)) (G0 u1 hp) ?_;rw [b6,e']
def MxH (H:Hp) (vm:V):Option Rat->Prop
 | none=>vm=.non
 | some v => ∃ p,vm=.ref p/\H p=some (.tup (k6 v))/\OvB 60 10 v
theorem MxH.tups {H H':Hp} {vm:V} {m:Option Rat} (h:MxH H vm m) (t:N3 H H'):MxH H' vm m:=by
 cases m with
 | none=>exact h
 | some v=>obtain ⟨p,a,b,c⟩:=h;exact ⟨p,a,t _ _ b,c⟩
theorem NK.q60 {kd:Int} {q:Rat} (h:NK kd q) (hk:kd=0 \/ kd=1):OvB 60 10 q:=by
 rcases hk with rfl | rfl
 ·exact h.ovb0
 ·have:=h.ovb1.up (C:=60) (c:=6) (by decide) (by decide) (by decide)
  exact this
theorem ag6.ov {qs:List Rat} {n:Nat} (h:ag6 qs n (60 ^ (n+1)) 18 18) (n7:n<=7):∀ q ∈ qs,OvB (60 ^ (n+1)) 82 q:=λq hq=>by
 obtain ⟨k,hk,e⟩:=u0d hq;have ek:aQ qs k=q:=by unfold aQ;rw [q0c hk,e];rfl
 have B0:0<60 ^ (n+1):=v0h (by decide)
 obtain ⟨z,hz⟩:=(h.it k).dv B0;rw [ek] at hz;refine ⟨z,hz,?_⟩;have ez:=am1 B0 hz;have d:=h.dm k;rw [ek] at d;have l1:=mle h.ld (am2 h.g0 n k);have l2:=mle (aE7 h.g0 n k) (show (0:Rat)<=18 by decide)
 have l4:=mle (ai7 (x:=1+18) (by decide +kernel) n (7-n)) (show (0:Rat)<=18 by decide)
 rw [show n+(7-n)=7 by omega] at l4
 have bb:((60 ^ (n+1):Nat):Rat)<=((60 ^ 8:Nat):Rat):=y0d.mpr (j0p (by decide) ⋯)
 have a1:=mle (show ab q<=18*(1+18) ^ 7 by grind) (show (0:Rat)<=((60 ^ (n+1):Nat):Rat) from u0k)
 have a2:=mle bb (show (0:Rat)<=18*(1+18) ^ 7 by decide +kernel)
 rw [<- ez] at a1;have a3:18*(1+18) ^ 7*((60 ^ 8:Nat):Rat)<=((18*19 ^ 7*60 ^ 8:Nat):Rat):=by decide +kernel
 have a4:((z.natAbs:Nat):Rat)<=((18*19 ^ 7*60 ^ 8:Nat):Rat):=by grind
 exact q0k (y0d.mp a4) (by decide +kernel)
structure FcK (fs:List Rat) (q:Rat) (d:Nat):Prop where
 len:fs.length=d+1
 d1:1<=d
 d2:d<=2
 ov:∀ x ∈ fs,OvB (60 ^ d) 22 x
 go:∀ {qs:List Rat} {n:Nat} {m:Option Rat},KnP qs n m->KnP (w8 qs fs) (n+d) (some (mxO m q))
theorem FcK.lin {q:Rat} (h:OvB 60 10 q):FcK [-q,1] q 1:=⟨rfl,by decide,by decide,λx hx=>by
 have o1:OvB 60 22 1:=⟨60,by decide +kernel,by decide⟩
 have o2:OvB 60 22 (-q):=by
  obtain ⟨z,e,b⟩:=h;refine ⟨-z,by rw [e,q0y,q0y,q0u,q0u,v0c];grind,q0b (by rw [m0b];exact b) (by decide)⟩
 rcases z0z.mp hx with z | z
 ·rw [z];exact o2
 ·rw [j0q.mp z];exact o1,λK=>K.lin h⟩
theorem FcK.quad {q v:Rat} (h:OvB 60 10 q) (hv:OvB 60 10 v) (v0:0<v):FcK [q*q+v,-2*q,1] q 2:=⟨rfl,by decide,by decide,λx hx=>by
 have o1:OvB (60*60) 22 1:=⟨3600,by decide +kernel,by decide⟩
 have o2:OvB (60*60) 22 (-2*q):=(OvB.mul (show OvB 60 10 (-2) from ⟨-120,by decide +kernel,by decide⟩) h).mono (by decide)
 have o3:OvB (60*60) 22 (q*q+v):=(OvB.add (by decide) (h.mul h) ((hv.up (C:=60) (c:=6) (by decide) (by decide) (by decide)).mono (by decide))).mono (by decide)
 rcases z0z.mp hx with z | z
 ·rw [z];exact o3
 ·rcases z0z.mp z with z | z
  ·rw [z];exact o2
  ·rw [j0q.mp z];exact o1,λK=>K.quad h hv v0⟩
def bq4:Sp:=λvs H Q _ => ∃ u kd,vs=[.ref u,.int kd]/\p8 H u/\(kd=0 \/ kd=1)/\∀ r lp vm ys qs n m H',p9 u H H'->p8 H' u->H' r=some (.tup [.ref lp,vm])->LsX u H' lp ys qs->MxH H' vm m->Drw qs n m->Q (.ref r) H'
abbrev B8:Stmt:=top 68
theorem j7:i7 ["_law_urn_here","_law_kind_here","_law_way","_law_far","_law_turn","_law_p","_law_most","_law_factor","_law_u","_law_v"] ["_law_urn_here","_law_kind_here"] (c4 B8):=by and_intros
theorem ae0 {f f1 f2 f3 f4 f5 f6 f7 f8 f9:Addr} (d:Df K mg "_law_drawn_known" B8 ["_law_urn_here","_law_kind_here"] f) (G__law_draw:Def P w K mg base CX0 1 "_law_draw" f1 ["_law_urn_here","_law_many"] F4) (GD__law_other:Def P w K mg base CX0 3 "_law_other" f2 ["_law_urn_here","_law_kind_here"] ah5) (GD__law_drawn_poly:Def P w K mg base CX0 4 "_law_drawn_poly" f3 ["_law_urn_here","_law_kind_here","_law_most"] ah6) (GD__law_number:Def P w K mg base CX0 2 "_law_number" f4 ["_law_urn_here","_law_kind_here"] U5) (G__law_above:Def P w K mg base CX0 4 "_law_above" f5 ["_law_urn_here","_law_kind_here"] aQ4) (G__law_plus:Def P w K mg base CX0 2 "_law_plus" f6 ["_law_one","_law_other_here"] (K1 K (· + ·))) (G__law_times:Def P w K mg base CX0 2 "_law_times" f7 ["_law_one","_law_other_here"] (K1 K (· * ·))) (G__law_poly_times:Def P w K mg base CX0 3 "_law_poly_times" f8 ["_law_p","_law_q"] (aA4 K)) (G__law_below:Def P w K mg base CX0 1 "_law_below" f9 ["_law_one","_law_other_here"] (ah8 K)) (n_range:mg "range" = none) (n_len:mg "len" = none):Def P w K mg base CX0 5 "_law_drawn_known" f ["_law_urn_here","_law_kind_here"] bq4:=by
 have G__law_other:=GD__law_other;have G__law_number:=GD__law_number;have G__law_drawn_poly:=GD__law_drawn_poly;refine d.ok (N:=["_law_urn_here","_law_kind_here","_law_way","_law_far","_law_turn","_law_p","_law_most","_law_factor","_law_u","_law_v"]) j7 (by rintro vs H Q E ⟨_,_,h,_⟩;rw [h];rfl) (λcdv A outer s H vs Q E hr h=>?_)
 obtain ⟨u,kd,rfl,hU,hk,k⟩:=h;have hu:=hr.units
 refine ⟨_,(b7 (i4 (i:=2) j7.nd rfl (j0a rfl) (c9 G__law_draw hr (a7 (pv 0) (a7 a9 a8)) d8))
   (b7 (i4 (i:=3) j7.nd rfl (j0a rfl) (j2 m8 (t8 (a7 a9 (a7 a9 (a7 a9 (a7 a9 a8))))) (c9 G__law_draw hr (a7 (pv 0) (a7 a9 a8)) d8) (λ_ _=>rfl)))
   (b7 (Y2 (i:=5) (j:=6) rfl j7.nd rfl rfl (by decide) rfl rfl (a7 (t8 (a7 (c9 G__law_other hr (a7 (pv 0) (a7 (pv 1) a8)) d8) a8)) (a7 al1 a8)) rfl)
   (b7 (y7 (j9 an0 (pv 2) a9 (l5 _)) (c5 (i5 (l6 (a7 (d4 af9 (c9 G__law_drawn_poly hr (a7 (pv 0) (a7 (pv 1) (a7 (d4 A8 (pv 3) a9) a8))) d8) (t8 (a7 (l6 (a7 a9 (a7 a9 a8))) a8))) (a7 al1 a8))))) o0)
   (b7 (G7 PassesOwn.never rfl (K4 rfl n_range (a7 (d4 D3 a9 (c9 G__law_draw hr (a7 (pv 0) (a7 a9 a8)) d8)) a8)) (d9 (i:=4) j7.nd rfl (j0a rfl)) (b7 (Y2 (i:=8) (j:=9) rfl j7.nd rfl rfl (by decide) rfl rfl (a7 (c9 G__law_number hr (a7 (pv 0) (a7 (pv 1) a8)) d8) (a7 (c9 G__law_above hr (a7 (pv 0) (a7 (pv 1) a8)) d8) a8)) rfl)
   (b7 (i4 (i:=7) j7.nd rfl (j0a rfl) (t8 (a7 (l6 (a7 (d4 A8 a9 (j2 j6 (pv 8) a9 (λ_ _=>rfl))) (a7 (j2 j6 (pv 8) a9 (λ_ _=>rfl)) a8))) (a7 (l6 (a7 a9 (a7 a9 a8))) a8))))
   (b7 (y7 (j9 an0 (c9 G__law_draw hr (a7 (pv 0) (a7 a9 a8)) d8) a9 (l5 _)) (c5 (i4 (i:=7) j7.nd rfl (j0a rfl) (t8 (a7 (c9 G__law_plus hr (a7 (c9 G__law_times hr (a7 (pv 8) (a7 (pv 8) a8)) d8) (a7 (pv 9) a8)) d8) (a7 (c9 G__law_times hr (a7 (l6 (a7 (E6 A7 a9) (a7 a9 a8))) (a7 (pv 8) a8)) d8) (a7 (l6 (a7 a9 (a7 a9 a8))) a8)))))) o0)
   (c5 (y7 (j9 bc8 (d4 A8 (d4 D3 (d5 j0 rfl n_len (by decide +kernel) (a7 (pv 5) a8)) (d5 j0 rfl n_len (by decide +kernel) (a7 (pv 7) a8))) a9) (pv 3) (l5 _)) (b7 (i4 (i:=5) j7.nd rfl (j0a rfl) (c9 G__law_poly_times hr (a7 (pv 5) (a7 (pv 7) a8)) d8))
   (c5 (y7 (PW.pt (T8 (j9 bv1 (pv 6) al1 (l5 _)) (Y1 (E4 (c9 G__law_below hr (a7 (pv 6) (a7 (pv 8) a8)) d8))))) (c5 (i4 (i:=6) j7.nd rfl (j0a rfl) (pv 8))) o0))) o0))))))
   (c5 (i5 (l6 (a7 (pv 5) (a7 (pv 6) a8)))))))))),?_⟩
 rw [show start ["_law_urn_here","_law_kind_here","_law_way","_law_far","_law_turn","_law_p","_law_most","_law_factor","_law_u","_law_v"] [.ref u,.int kd]=[some (.ref u),some (.int kd),none,none,none,none,none,none,none,none] from rfl]
 refine d7 (λσ H1 => ∃ wy:Int,σ=[some (.ref u),some (.int kd),some (.int wy),none,none,none,none,none,none,none]/\p9 u H H1/\p8 H1 u) (λN hN=>?_) ?_
 ·simp! [F4]
  exact ⟨hU,by decide,by decide,λr H1 r0 r1 s1 u1=>hN _ _ ⟨r,rfl,s1,u1⟩⟩
 rintro σ H1 ⟨wy,rfl,s1,u1⟩;refine d7 (λσ H2 => ∃ fa:Nat,σ=[some (.ref u),some (.int kd),some (.int wy),some (.int (fa:Int)),none,none,none,none,none,none]/\p9 u H H2/\p8 H2 u/\(fa=5 \/ fa=7)) (λN hN=>?_) ?_
 ·simp! [F4]
  refine ⟨by decide,λp hp=>?_⟩
  have S:=b9.new hp (.lst [V.int 5,V.int 5,V.int 5,V.int 7]);refine ⟨G0 u1 hp,by decide,by decide,λr H2 r0 r1 s2 u2=>?_⟩
  have ep:=s2 _ _ (show (upd H1 p (.lst [V.int 5,V.int 5,V.int 5,V.int 7])) p=_ from b6) (V9 u1 hp);refine ⟨_,SqL.of ep,?_⟩;have sx:=s1.trans ((b9.x S u).trans s2);have hr4:r=0 \/ r=1 \/ r=2 \/ r=3:=⋯;rcases hr4 with rfl | rfl | rfl | rfl
  ·exact ⟨_,rfl,hN _ _ ⟨5,rfl,sx,u2,.inl rfl⟩⟩
  ·exact ⟨_,rfl,hN _ _ ⟨5,rfl,sx,u2,.inl rfl⟩⟩
  ·exact ⟨_,rfl,hN _ _ ⟨5,rfl,sx,u2,.inl rfl⟩⟩
  ·exact ⟨_,rfl,hN _ _ ⟨7,rfl,sx,u2,.inr rfl⟩⟩
 rintro σ H2 ⟨fa,rfl,s2,u2,hfa⟩;refine d7 (λσ H3 => ∃ lp ys qs,σ=[some (.ref u),some (.int kd),some (.int wy),some (.int (fa:Int)),none,some (.ref lp),some .non,none,none,none]/\p9 u H H3/\p8 H3 u/\LsX u H3 lp ys qs/\KnP qs 0 none) (λN hN=>?_) ?_
 ·subst_eqs
  refine ⟨u,kd,rfl,u2,λr q H3 nq q0 s3 u3 e3=>⟨af7,λp hp=>?_⟩⟩;have S:=b9.new hp (.lst [.ref r]);exact hN _ _ ⟨p,_,[q],rfl,(s2.trans s3).trans (b9.x S u),G0 u3 hp,⟨V9 u3 hp,b6,.cons (S _ _ e3) .nil⟩,KnP.start q0 (nq.q60 hk)⟩
 rintro σ H3 ⟨lp,ys,qs,rfl,s3,u3,X3,K3⟩;refine d7 (λσ H4=>σ=[some (.ref u),some (.int kd),some (.int wy),some (.int (fa:Int)),none,some (.ref lp),some .non,none,none,none]/\H4=H3) (λN hN=>?_) ?_
 ·subst_eqs
  refine ⟨rfl,x8 (λ_=>?_) (λ_=>hN _ _ ⟨rfl,rfl⟩)⟩;refine ⟨u,kd,_,rfl,u3,⋯,⋯,λr xs ps q H4 s4 u4 f4 e4 n4 hps hq q0 lps=>⟨k7,λp0 h0=>⟨af7,λp1 h1=>?_⟩⟩⟩;have S0:=b9.new h0 (.tup [.int 1,.int 1]);have S1:=b9.new h1 (.lst [.ref p0]);have lx:=n4.length;rw [j0n] at lx;refine ⟨r,rfl,xs,S1 _ _ (S0 _ _ e4),_,b6,?_,λp2 h2=>⟨k7,λp3 h3=>?_⟩⟩
  ·simp only [q0x,j0y] at lx ⊢
   exact z0p (show _<=100 by omega) (by decide)
  have S2:=b9.new h2 (.lst (xs ++ [.ref p0]));have S3:=b9.new h3 (.tup [.ref p2,.non]);have S:=S0.trans (S1.trans (S2.trans S3));have l7:(ps ++ [q]).length<=7:=by rw [j0n];simp only [q0x,j0y];omega
  have D:=Drw.any (ps:=ps ++ [q]) (λx hx=>by
   rcases u0e.mp hx with z | z
   ·exact (hps x z).q60 hk
   ·rw [j0q.mp z];exact hq.q60 hk) (by rw [j0n];simp only [q0x,j0y];omega) l7
  have u7:=b9.urn S u4;have e7:=(S2.trans S3) _ _ (S1 _ _ (show (upd H4 p0 (.tup [.int 1,.int 1])) p0=some (.tup (k6 1)) from b6));have p2u:p2 ≠ u:=V9 (b9.urn (S0.trans S1) u4) h2;exact k p3 p2 .non _ _ _ none _ (s3.trans (s4.trans (b9.x S u))) u7 b6 ⟨p2u,S3 _ _ b6,(n4.mono S.tups).append (.cons e7 .nil)⟩ rfl D
 rintro σ H4 ⟨rfl,rfl⟩;obtain ⟨I,hI⟩:∃ I:Nat->L2.St->Hp->Prop,∀ i σ H5,I i σ H5 ↔ ∃ (o4 o7 o8 o9:Option V) (lp:Addr) (vm:V) (ys:List V) (qs:List Rat) (n:Nat) (m:Option Rat),σ=[some (.ref u),some (.int kd),some (.int wy),some (.int (fa:Int)),o4,some (.ref lp),some vm,o7,o8,o9]/\p9 u H H5/\p8 H5 u/\LsX u H5 lp ys qs/\MxH H5 vm m/\KnP qs n m/\n<=7/\(1<=i->1<=n):=⟨_,λ_ _ _=>Iff.rfl⟩;refine d7 (λσ H5 => ∃ i,1<=i/\I i σ H5) (λN hN=>?_) ?_
 ·refine ⟨_,rfl,u,_,rfl,u3,by decide,by decide,λr H5 r0 r1 s5 u5=>?_⟩
  refine ⟨_,_,rfl,rfl,_,rfl,⋯,⋯,K7 I ((hI _ _ _).mpr ⟨_,_,_,_,lp,.non,ys,qs,0,none,rfl,s3.trans s5,u5,X3.samex s5 u3,rfl,K3,by decide,λh=>⋯⟩) ?_ (λσ H6 h=>hN _ _ ⟨_,⋯,h⟩)⟩
  intro i σ H6 hi h;obtain ⟨o4,o7,o8,o9,lp,vm,ys,qs,n,m,rfl,s6,u6,X6,M6,K6,n7,h1⟩:=(hI _ _ _).mp h;simp only [t6,m0j,m0h];refine d7 (λσ H7 => ∃ ua va uq vq,σ=[some (.ref u),some (.int kd),some (.int wy),some (.int (fa:Int)),some (.int (0+(i:Int))),some (.ref lp),some vm,o7,some (.ref ua),some (.ref va)]/\p9 u H6 H7/\p8 H7 u/\H7 ua=some (.tup (k6 uq))/\H7 va=some (.tup (k6 vq))/\OvB 60 10 uq/\OvB 60 10 vq/\0<vq) (λN hN=>?_) ?_
  ·subst_eqs
   refine ⟨u,kd,rfl,u6,λr1 q1 H7 nq1 s7 u7 e7=>⟨u,kd,rfl,u7,λr2 q2 H8 nq2 p2 s8 u8 e8=>hN _ _ ⟨r1,r2,q1,q2,rfl,s7.trans s8,u8,s8.tups u7 _ _ e7,e8,nq1.q60 hk,nq2.q60 hk,p2⟩⟩⟩
  rintro σ H7 ⟨ua,va,uq,vq,rfl,s7,u7,eu,ev,bu,bv,v0⟩;have X7:=X6.samex s7 u6;have M7:=M6.tups (s7.tups u6);refine d7 (λσ H8 => ∃ lf zs,σ=[some (.ref u),some (.int kd),some (.int wy),some (.int (fa:Int)),some (.int (0+(i:Int))),some (.ref lp),some vm,some (.ref lf),some (.ref ua),some (.ref va)]/\b9 H7 H8/\lf ≠ u/\H8 lf=some (.lst zs)/\p7 H8 zs [-uq,1]) (λN hN=>?_) ?_
  ·subst_eqs
   have eN:k6 (-uq)=[.int (0-uq.num),.int uq.den]:=by unfold k6;rw [Rat.neg_num,Rat.neg_den,Int.zero_sub]
   refine ⟨_,SqT.of eu,_,rfl,_,rfl,_,SqT.of eu,_,rfl,k7,λp0 h0=>⟨k7,λp1 h1=>⟨k7,λp2 h2=>?_⟩⟩⟩;have S0:=b9.new h0 (.tup [.int (0-uq.num),.int uq.den]);have S1:=b9.new h1 (.tup [.int 1,.int 1]);have S2:=b9.new h2 (.lst [V.ref p0,V.ref p1]);have S:=S0.trans (S1.trans S2);refine hN _ _ ⟨p2,_,rfl,S,V9 (b9.urn (S0.trans S1) u7) h2,b6,.cons ((S1.trans S2) _ _ (by rw [eN];exact b6)) (.cons (S2 _ _ b6) .nil)⟩
  rintro σ H8 ⟨lf0,zs0,rfl,s8,fu0,ef0,nf0⟩;refine d7 (λσ H9 => ∃ lf zs fs d,σ=[some (.ref u),some (.int kd),some (.int wy),some (.int (fa:Int)),some (.int (0+(i:Int))),some (.ref lp),some vm,some (.ref lf),some (.ref ua),some (.ref va)]/\p9 u H8 H9/\p8 H9 u/\SqL K H9 lf zs/\p7 H9 zs fs/\FcK fs uq d) (λN hN=>?_) ?_
  ·simp! [F4]
   have u8:=b9.urn s8 u7;refine ⟨u8,by decide,by decide,λr H9 r0 r1 s9 u9=>⟨rfl,x8 (λ_=>?_) (λ_=>hN _ _ ⟨lf0,zs0,_,1,rfl,s9,u9,SqL.of (s9 _ _ ef0 fu0),nf0.mono (s9.tups u8),FcK.lin bu⟩)⟩⟩
   have t9:=(s8.tups).trans (s9.tups u8);have eu9:=t9 _ _ eu;have ev9:=t9 _ _ ev;have cu:=OvB.bdN (by decide) (show 60<2 ^ 10 by decide) bu
   have cv:=OvB.bdN (by decide) (show 60<2 ^ 10 by decide) bv
   have nu:∀ {H:Hp},H ua=some (.tup (k6 uq))->Num K H (.ref ua) uq:=λh=>⟨ua,rfl,SqT.of h⟩;refine ⟨_,_,uq,uq,10,10,rfl,nu eu9,nu eu9,cu.t (by decide),cu.t (by decide),by decide,λr2 H10 s10 e10=>?_⟩
   refine ⟨_,_,uq*uq,vq,20,10,rfl,⟨r2,rfl,SqT.of e10⟩,⟨va,rfl,SqT.of (s10 _ _ ev9)⟩,(cu.mul cu).t (by decide),cv.t (by decide),by decide,λr3 H11 s11 e11=>⟨k7,λp0 h0=>?_⟩⟩
   have S0:=b9.new h0 (.tup [.int (-2),.int 1]);have s911:=s10.trans (s11.trans S0);refine ⟨_,_,-2,uq,2,10,rfl,⟨p0,rfl,by rw [show k6 (-2:Rat)=[.int (-2),.int 1] from rfl];exact SqT.of b6⟩,nu (s911 _ _ eu9),⟨by decide,by decide⟩,cu.t (by decide),by decide,λr4 H12 s12 e12=>⟨k7,λp1 h1=>⟨by decide,λp2 h2=>?_⟩⟩⟩
   have S1:=b9.new h1 (.tup [.int 1,.int 1]);have S2:=b9.new h2 (.lst [V.ref r3,V.ref r4,V.ref p1]);have S:=s911.trans (s12.trans (S1.trans S2));refine hN _ _ ⟨p2,_,_,2,rfl,s9.trans (b9.x S u),b9.urn S u9,SqL.of b6,.cons ((S0.trans (s12.trans (S1.trans S2))) _ _ e11) (.cons ((S1.trans S2) _ _ e12) (.cons (S2 _ _ b6) .nil)),FcK.quad bu bv v0⟩
  rintro σ H9 ⟨lf,zs,fs,d,rfl,s9,u9,ef,nf,F⟩;have u8:=b9.urn s8 u7;have X9:=(X7.same s8).samex s9 u8;have s79:=(s8.tups).trans (s9.tups u8);have M9:=M7.tups s79;have eu9:=s79 _ _ eu;have sx:=(s6.trans s7).trans ((b9.x s8 u).trans s9);have lx:=X9.nums.length;have lq:=K6.pv.len;have lz:=nf.length;have lf':=F.len;have Fd1:=F.d1;have Fd2:=F.d2
  subst_eqs
  refine ⟨_,.inl (SqL.of X9.at'),_,.inl ef,x8 (λhle=>?_) (λhgt=>?_)⟩
  ·have p1:0<60 ^ (n+1):=v0h (by decide)
   have p2:0<60 ^ d:=v0h (by decide)
   have hBC:60 ^ (n+1)*60 ^ d<2 ^ 100:=by
    rw [<- z0u];exact q0k (j0p (by decide) (show n+1+d<=11 by omega)) (by decide)
   refine ⟨lp,lf,_,zs,qs,fs,_,_,82,22,100,rfl,SqL.of X9.at',ef,X9.nums,nf,K6.pv.ov n7,F.ov,p1,p2,hBC,by decide,by decide,⋯,⋯,⋯,λm1 r1 zs1 H10 tm1 _ s10 f10 e10 n10=>?_⟩
   have K10:=F.go K6;have em:=tm1.uniq (W3 K10.pv.tl);rw [em,v0q] at n10;have X10:LsX u H10 r1 zs1 (w8 qs fs):=⟨V9 u9 f10,e10,n10⟩;have u10:=b9.urn s10 u9;have sx10:=sx.trans (b9.x s10 u);have eu10:=s10 _ _ eu9;have nd:n+d<=7:=⋯;have fin:∀ (vm':V) (v:Rat),MxH H10 vm' (some v)->v=mxO m uq->I (i+1) [some (.ref u),some (.int kd),some (.int wy),some (.int (fa:Int)),some (.int (0+(i:Int))),some (.ref r1),some vm',some (.ref lf),some (.ref ua),some (.ref va)] H10:=λvm' v hv ev=>(hI _ _ _).mpr ⟨_,_,_,_,r1,vm',zs1,_,n+d,some v,rfl,sx10,u10,X10,hv,by rw [ev];exact K10,nd,λ_=>⋯⟩
   have fu:=fin (.ref ua) uq ⟨ua,rfl,eu10,bu⟩
   cases m with
   | none =>
    have M9':vm=.non:=M9;subst M9';exact x8 (λ_=>fu rfl) (λz=>absurd rfl z)
   | some v =>
    obtain ⟨pm,rfl,em,bm⟩:=M9;have em10:=s10 _ _ em;have cm:=OvB.bdN (by decide) (show 60<2 ^ 10 by decide) bm
    have cu:=OvB.bdN (by decide) (show 60<2 ^ 10 by decide) bu
    have emx:mxO (some v) uq=if v<uq then uq else v:=rfl;refine x8 (λz=>by cases z) (λ_=>⟨_,_,v,uq,rfl,⟨pm,rfl,SqT.of em10⟩,⟨ua,rfl,SqT.of eu10⟩,cm.mono (by decide),cu.mono (by decide),_,rfl,x8 (λz=>?_) (λz=>?_)⟩)
    ·exact fu (by rw [emx,if_pos (of_decide_eq_true z)])
    ·exact fin (.ref pm) v ⟨pm,rfl,em10,bm⟩ (by rw [emx,if_neg (λy=>z (decide_eq_true y))])
  ·exact (hI _ _ _).mpr ⟨_,_,_,_,lp,vm,_,qs,n,m,rfl,sx,u9,X9,M9,K6,n7,λ_=>⋯⟩
 rintro σ H5 ⟨i,i1,h⟩;obtain ⟨o4,o7,o8,o9,lp,vm,ys,qs,n,m,rfl,s5,u5,X5,M5,K5,n7,h1⟩:=(hI _ _ _).mp h
 subst_eqs
 refine ⟨k7,λp hp=>?_⟩;have S:=b9.new hp (.tup [.ref lp,vm]);exact k p lp vm ys qs n m _ (s5.trans (b9.x S u)) (G0 u5 hp) b6 (X5.same S) (M5.tups S.tups) (K5.drw (h1 i1) n7)
end
end R
set_option maxRecDepth 100000
local macro_rules | `(tactic| simp_wf) => `(tactic| first | rfl | decide | exact .inl rfl | (intro _; rfl))
namespace R
open PySem L2 PyProof.Rows
theorem U3.up {qs:List Rat} {n B:Nat} {g L:Rat} (h:U3 qs n B g L) {C:Nat} (hC:0<C):U3 qs n (B*C) g L:=by
 refine ⟨h.len,h.n1,h.n7,h.top,v0g h.b0 hC,λk=>?_,h.ld,h.g0,h.dm⟩;obtain ⟨z,hz⟩:=h.it k;exact ⟨z*C,by rw [hz,z0x];exact (q1z ⋯).symm⟩
theorem U3.line {qs:List Rat} {n B:Nat} {g L:Rat} (pw:U3 qs n B g L) {e s W0 M0 M W V':Nat} {hair:Rat} (a0:L*(1+g) ^ 7*(B:Rat)<=(M0:Rat)) (a1:M0<2 ^ W0) (a2:B<2 ^ W0) (a3:W0<=140) (hd:∀ k,k<=n->aQ (dmL g n) (n-k)<=((2 ^ (s*k):Nat):Rat))
  (b0:L*(1+(g+2*2 ^ (s+1))) ^ 7*((B*(2 ^ e) ^ 7:Nat):Rat)<=(M:Rat)) (b1:M<2 ^ W) (b2:B*(2 ^ e) ^ 7<2 ^ V') (b3:W<=300/\V'<=W/\20*W+3*V'<=5860) (e20:e<=20) (s8:s<=8) (he:q0e 1 (2 ^ e:Nat)<=hair) (bh:BdN 100 hair) (h0:0<hair):LnW qs n e s hair:=by
 refine ⟨⟨B,W0,g,L,pw,pw.ov a0 a1,a2,a3,hd⟩,λx hx h1 h2=>?_,e20,s8,he,bh,h0⟩;obtain ⟨z,hz⟩:=hx;have D0:0<2 ^ e:=j0f e;have ps:=pw.shn D0 hz (bi9 h2 (by grind))
 have le:B*(2 ^ e) ^ n<=B*(2 ^ e) ^ 7:=j0j _ (j0p D0 pw.n7);refine ⟨B*(2 ^ e) ^ n,W,V',ps.ov ?_ b1,v0g pw.b0 (v0h D0),q0k le b2,b3.1,b3.2.1,b3.2.2⟩;have L0:0<=L:=z0t (E1 _) pw.ld;have p0:(0:Rat)<2 ^ (s+1):=j0c (by decide)
 have p:0<(1+(g+2*2 ^ (s+1))) ^ 7:=j0c (by have:=pw.g0;grind)
 have:=mle (y0d.mpr le) (q0t L0 (q0p p))
 grind
theorem Drw.line {qs:List Rat} {n:Nat} {m:Option Rat} (d:Drw qs n m) {hair:Rat} (he:q0e 1 (2 ^ 20:Nat)<=hair) (bh:BdN 100 hair) (h0:0<hair):LnW qs n 20 7 hair :=
 d.pw.line (W0:=82) (M0:=18*19 ^ 7*60 ^ 8) (M:=18*531 ^ 7*(60 ^ 8*(2 ^ 20) ^ 7)) (W:=255) (V':=188) (by decide +kernel) (by decide +kernel) (by decide +kernel) (by decide) (bC2 d.pw.n7) (by decide +kernel) (by decide +kernel) (by decide +kernel) (by decide) (by decide) (by decide) he bh h0
theorem Drw.often {qs:List Rat} {n:Nat} {m:Option Rat} (d:Drw qs n m):LnW (qs.map ((((-3:Int):Rat)) * ·)) n 0 7 2 :=
 (d.pw.scale (-3) (by decide) (C:=3) (by decide +kernel)).line (W0:=84) (M0:=54*19 ^ 7*60 ^ 8) (M:=54*531 ^ 7*(60 ^ 8*(2 ^ 0) ^ 7)) (W:=130) (V':=50) (by decide +kernel) (by decide +kernel) (by decide +kernel) (by decide) (bC2 d.pw.n7) (by decide +kernel) (by decide +kernel) (by decide +kernel) (by decide) (by decide) (by decide) (by decide +kernel) ⟨by decide,by decide⟩ (by decide)
theorem Drw.beside {qs:List Rat} {n:Nat} {m:Option Rat} (d:Drw qs n m) {c:Rat} (hc:OvB 60 10 c):LnW (shn c qs) n 1 8 (1 / 2):=by
 obtain ⟨z,hz⟩:=(isB.of (by decide) hc).dv (by decide)
 have ps:=(d.pw.shn (by decide) hz (aK8 hc)).up (C:=60 ^ (7-n)) (v0h (by decide))
 rw [z1c,<- z0u,show n+(7-n)=7 by have:=d.pw.n7;omega,show (18+18:Rat)=36 by decide +kernel] at ps
 exact ps.line (W0:=130) (M0:=18*37 ^ 7*(60 ^ 8*60 ^ 7)) (M:=18*1061 ^ 7*(60 ^ 8*60 ^ 7*(2 ^ 1) ^ 7)) (W:=171) (V':=96) (by decide +kernel) (by decide +kernel) (by decide +kernel) (by decide) (bE0 d.pw.n7) (by decide +kernel) (by decide +kernel) (by decide +kernel) (by decide) (by decide) (by decide) (by decide +kernel) ⟨by decide +kernel,by decide +kernel⟩ (by decide +kernel)
theorem aO7 {qs:List Rat} {n:Nat} (l:qs.length=n+1) (h:Rat):V6 (shn h (qs.map ((((-3:Int):Rat)) * ·)))=V6 (shn h qs):=by
 rw [V5 (by rw [z0g,l]),V5 l,ah9]
 refine Z6 (c:=((-3:Int):Rat)) (by decide) (λk=>?_) n
 unfold aQ;rw [z0k]
 cases (shn h qs)[k]? with
 | none=>show (0:Rat)=_*0;grind
 | some x=>rfl
def dTL (lo hi:Rat):D:=.tup [.v (.str "told"),.tup [M8 lo,M8 hi]]
def dRP:D:=.tup [.v (.str "refused"),.v (.str "polynomial")]
theorem LnH.isD {K:q0a} {H:Hp} {t:Addr} {qs:List Rat} {hair lo hi:Rat} {e s:Nat} (h:LnH H t qs hair e s lo hi):IsD K H (.ref t) (dTL lo hi):=by
 obtain ⟨r,al,ah,a,b,c,d⟩:=h.ex;exact .tup (SqT.of a) (.cons (.v rfl) (.cons (.tup (SqT.of b) (.cons (aj8 (SqT.of c)) (.cons (aj8 (SqT.of d)) .nil))) .nil))
theorem bx8 (lo hi:Rat):eqD (dTL lo hi) (dTL lo hi)=true:=by simp [dTL,eqD,J4,eqV,aE2]
theorem bf0 {K:q0a} {H:Hp} {r:Addr} (h:H r=some (.tup [.str "refused",.str "polynomial"])):IsD K H (.ref r) dRP:=.tup (SqT.of h) (.cons (.v rfl) (.cons (.v rfl) .nil))
def aG2 (x:Rat):Prop:=q0e 1 (2 ^ 20:Nat)<=x/\BdN 100 x/\0<x
theorem bx2:aG2 4/\aG2 1/\aG2 (1 / 7)/\aG2 (1 / 100)/\aG2 (1 / 10000)/\aG2 (1 / 1000000):=by
 unfold aG2;refine ⟨⟨by decide +kernel,⟨by decide +kernel,by decide +kernel⟩,by decide +kernel⟩,⟨by decide +kernel,⟨by decide +kernel,by decide +kernel⟩,by decide +kernel⟩,⟨by decide +kernel,⟨by decide +kernel,by decide +kernel⟩,by decide +kernel⟩,⟨by decide +kernel,⟨by decide +kernel,by decide +kernel⟩,by decide +kernel⟩,⟨by decide +kernel,⟨by decide +kernel,by decide +kernel⟩,by decide +kernel⟩,⟨by decide +kernel,⟨by decide +kernel,by decide +kernel⟩,by decide +kernel⟩⟩
theorem bd1 (q:Rat) (a b:Int) (h:q.num=a) (k:(q.den:Int)=b):k6 q=[.int a,.int b]:=by unfold k6;rw [h,k]
theorem nv4:k6 4=[.int 4,.int 1]:=bd1 _ _ _ (by decide +kernel) (by decide +kernel)
theorem nv1:k6 1=[.int 1,.int 1]:=rfl
theorem nv7:k6 (1 / 7)=[.int 1,.int 7]:=bd1 _ _ _ (by decide +kernel) (by decide +kernel)
theorem nvh:k6 (1 / 100)=[.int 1,.int 100]:=bd1 _ _ _ (by decide +kernel) (by decide +kernel)
theorem nvt:k6 (1 / 10000)=[.int 1,.int 10000]:=bd1 _ _ _ (by decide +kernel) (by decide +kernel)
theorem nvm:k6 (1 / 1000000)=[.int 1,.int 1000000]:=bd1 _ _ _ (by decide +kernel) (by decide +kernel)
theorem ag1 {H:Hp} {u a:Addr} (o:HO) (h:H a=none) (hu:p8 H u):∃ H',upd H a o=H'/\b9 H H'/\H' a=some o/\p8 H' u/\a ≠ u:=⟨_,rfl,b9.new h o,b6,G0 hu h,V9 hu h⟩
theorem MxH.arg {K:q0a} {H:Hp} {vm:V} {m:Option Rat} (h:MxH H vm m):MxN K H vm m:=by
 cases m with
 | none=>exact h
 | some v =>
  obtain ⟨p,rfl,e,o⟩:=h;exact ⟨⟨p,rfl,SqT.of e⟩,(OvB.bdN (by decide) (show 60<2 ^ 10 by decide) o).mono (by decide)⟩
theorem MxN.same {K:q0a} {H H':Hp} {vm:V} {m:Option Rat} (h:MxN K H vm m) (s:b9 H H'):MxN K H' vm m:=by
 cases m with
 | none=>exact h
 | some v=>exact ⟨h.1.same s,h.2⟩
section
variable {P:Program} {w:World} {K:q0a} {mg:Str->Option Value} {base:Heap}
abbrev aq9:Stmt:=top 71
theorem F6:i7 ["_law_script","_law_at","_law_urn_here","_law_hair","_law_kind_here","_law_number_here","_law_handed","_law_found","_law_far","_law_beside","_law_often","_law_some","_law_p","_law_most"] ["_law_script"] (c4 aq9):=by and_intros
theorem bv2 {f g1 g2 g3 g4 g5 g6 g7 g8 g9 ga : Addr} {fd : FuncData} (F : Fun K "law" "law" aq9 f fd) (G__law_urn : Def P w K mg base CX0 1 "_law_urn" g1 ["_law_script", "_law_at"] (bq0 K)) (G__law_draw : Def P w K mg base CX0 1 "_law_draw" g2 ["_law_urn_here", "_law_many"] F4) (G__law_kind : Def P w K mg base CX0 2 "_law_kind" g3 ["_law_urn_here"] bb3) (G__law_drawn_known : Def P w K mg base CX0 5 "_law_drawn_known" g4 ["_law_urn_here", "_law_kind_here"] bq4) (GD__law_number : Def P w K mg base CX0 2 "_law_number" g5 ["_law_urn_here", "_law_kind_here"] U5) (G__law_said : Def P w K mg base CX0 5 "_law_said" g6 ["_law_p", "_law_hair"] (bq3 K)) (G__law_is_line : Def P w K mg base CX0 5 "_law_is_line" g7 ["_law_p", "_law_most", "_law_hair", "_law_said_here"] (bb4 K)) (G__law_less : Def P w K mg base CX0 2 "_law_less" g8 ["_law_one", "_law_other_here"] (K1 K (· - ·))) (G__law_moved : Def P w K mg base CX0 4 "_law_moved" g9 ["_law_p", "_law_number_here"] (aq5 K)) (G__law_times : Def P w K mg base CX0 2 "_law_times" ga ["_law_one", "_law_other_here"] (K1 K (· * ·)))
    (n_range:mg "range" = none) (n_max:mg "max" = none) (n_min:mg "min" = none) (n_len:mg "len" = none) (n_list:mg "list" = none):ak5 P w K mg base CX0 6 f fd ["_law_script"] (aQ0 K):=by
  have G__law_number:=GD__law_number;refine F.ok (N:=["_law_script","_law_at","_law_urn_here","_law_hair","_law_kind_here","_law_number_here","_law_handed","_law_found","_law_far","_law_beside","_law_often","_law_some","_law_p","_law_most"]) F6 (by rintro vs H Q E ⟨x,y,h,_⟩;rw [h];rfl) (λcdv A outer s H vs Q E hr h=>?_)
  obtain ⟨as,ns,rfl,hS,h63,k⟩:=h;have hu:=hr.units;refine ⟨_,(@b7 _ _ _ _ _ (@G7 _ _ _ _ _ _ _ _ PassesOwn.never rfl (@K4 _ _ _ _ _ _ rfl n_range (@a7 _ _ _ _ _ (@d5 _ _ _ _ _ _ _ _ _ (am4 rfl) rfl n_max (by decide +kernel) (@a7 _ _ _ _ _ a9 (@a7 _ _ _ _ _ (@d5 _ _ _ _ _ _ _ _ _ (aY7 rfl) rfl n_min (by decide +kernel) (@a7 _ _ _ _ _ a9 (@a7 _ _ _ _ _ (@d5 _ _ _ _ _ _ _ _ _ j0 rfl n_len (by decide +kernel) (@a7 _ _ _ _ _ (pv 0) a8 (by simp_wf)) (by simp_wf) (by simp_wf) (by simp_wf) (by simp_wf)) a8 (by simp_wf)) (by simp_wf)) (by simp_wf) (by simp_wf) (by simp_wf) (by simp_wf)) a8 (by simp_wf)) (by simp_wf)) (by simp_wf) (by simp_wf) (by simp_wf) (by simp_wf)) a8 (by simp_wf)) (by simp_wf)) (d9 (i:=1) F6.nd rfl (Or.inl rfl)) (@b7 _ _ _ _ _ (@i4 _ _ 2 _ _ _ _ F6.nd rfl (Or.inl rfl) (@c9 _ _ _ _ _ _ _ _ _ _ _ _ _ _ G__law_urn hr (@a7 _ _ _ _ _ (pv 0) (@a7 _ _ _ _ _ (pv 1) a8 (by simp_wf)) (by simp_wf)) d8 (by simp_wf) (by simp_wf) (by simp_wf) (by simp_wf) (by simp_wf)) (by simp_wf) (by simp_wf)) (@b7 _ _ _ _ _ (@i4 _ _ 3 _ _ _ _ F6.nd rfl (Or.inl rfl) (@j2 _ _ _ _ _ _ _ m8 (@t8 _ _ _ _ (@a7 _ _ _ _ _ (@l6 _ _ _ _ _ (@a7 _ _ _ _ _ a9 (@a7 _ _ _ _ _ a9 a8 (by simp_wf)) (by simp_wf))) (@a7 _ _ _ _ _ (@l6 _ _ _ _ _ (@a7 _ _ _ _ _ a9 (@a7 _ _ _ _ _ a9 a8 (by simp_wf)) (by simp_wf))) (@a7 _ _ _ _ _ (@l6 _ _ _ _ _ (@a7 _ _ _ _ _ a9 (@a7 _ _ _ _ _ a9 a8 (by simp_wf)) (by simp_wf))) (@a7 _ _ _ _ _ (@l6 _ _ _ _ _ (@a7 _ _ _ _ _ a9 (@a7 _ _ _ _ _ a9 a8 (by simp_wf)) (by simp_wf))) (@a7 _ _ _ _ _ (@l6 _ _ _ _ _ (@a7 _ _ _ _ _ a9 (@a7 _ _ _ _ _ a9 a8 (by simp_wf)) (by simp_wf))) (@a7 _ _ _ _ _ (@l6 _ _ _ _ _ (@a7 _ _ _ _ _ a9 (@a7 _ _ _ _ _ a9 a8 (by simp_wf)) (by simp_wf))) a8 (by simp_wf)) (by simp_wf)) (by simp_wf)) (by simp_wf)) (by simp_wf)) (by simp_wf))) (@c9 _ _ _ _ _ _ _ _ _ _ _ _ _ _ G__law_draw hr (@a7 _ _ _ _ _ (pv 2) (@a7 _ _ _ _ _ a9 a8 (by simp_wf)) (by simp_wf)) d8 (by simp_wf) (by simp_wf) (by simp_wf) (by simp_wf) (by simp_wf)) (λ_ _=>rfl)) (by simp_wf) (by simp_wf)) (@b7 _ _ _ _ _ (@i4 _ _ 4 _ _ _ _ F6.nd rfl (Or.inl rfl) (@d4 _ _ _ _ _ _ _ _ L7 (@c9 _ _ _ _ _ _ _ _ _ _ _ _ _ _ G__law_kind hr (@a7 _ _ _ _ _ (pv 2) a8 (by simp_wf)) d8 (by simp_wf) (by simp_wf) (by simp_wf) (by simp_wf) (by simp_wf)) a9) (by simp_wf) (by simp_wf)) (@b7 _ _ _ _ _ (@G8 _ _ _ _ _ _ (@c9 _ _ _ _ _ _ _ _ _ _ _ _ _ _ G__law_drawn_known hr (@a7 _ _ _ _ _ (pv 2) (@a7 _ _ _ _ _ (pv 4) a8 (by simp_wf)) (by simp_wf)) d8 (by simp_wf) (by simp_wf) (by simp_wf) (by simp_wf) (by simp_wf)) (show PG _ _ (U9 K 2 (v9 (t6 12) (v9 (t6 13) V0))) from by (refine C9 (n:=2) ?_ ?_ ?_ ?_;rfl;(refine j3 ?_ ?_ ?_;(exact (d9 (i:=12) F6.nd rfl (Or.inl rfl))) ;(refine j3 ?_ ?_ ?_;(exact (d9 (i:=13) F6.nd rfl (Or.inl rfl))) ;(exact z8) ;rfl) ;rfl) ;rfl;rfl)) (by simp_wf) (by simp_wf) (by simp_wf)) (@b7 _ _ _ _ _ (@i4 _ _ 5 _ _ _ _ F6.nd rfl (Or.inl rfl) (@c9 _ _ _ _ _ _ _ _ _ _ _ _ _ _ G__law_number hr (@a7 _ _ _ _ _ (pv 2) (@a7 _ _ _ _ _ (pv 4) a8 (by simp_wf)) (by simp_wf)) d8 (by simp_wf) (by simp_wf) (by simp_wf) (by simp_wf) (by simp_wf)) (by simp_wf) (by simp_wf)) (@b7 _ _ _ _ _ (@i4 _ _ 6 _ _ _ _ F6.nd rfl (Or.inl rfl) (@O9 _ _ _ _ _ _ _ _ _ Z8 rfl n_list (by decide +kernel) (@a7 _ _ _ _ _ (pv 12) a8 (by simp_wf)) (by simp_wf) (by simp_wf) (by simp_wf) (by simp_wf)) (by simp_wf) (by simp_wf)) (@b7 _ _ _ _ _ (@i4 _ _ 7 _ _ _ _ F6.nd rfl (Or.inl rfl) (@c9 _ _ _ _ _ _ _ _ _ _ _ _ _ _ G__law_said hr (@a7 _ _ _ _ _ (pv 6) (@a7 _ _ _ _ _ (pv 3) a8 (by simp_wf)) (by simp_wf)) d8 (by simp_wf) (by simp_wf) (by simp_wf) (by simp_wf) (by simp_wf)) (by simp_wf) (by simp_wf)) (@b7 _ _ _ _ _ (@y7 _ _ _ _ _ _ _ _ (@PW.pt _ _ _ (@T8 _ _ _ _ _ _ _ (@N1 _ _ _ _ (@E4 _ _ _ (@c9 _ _ _ _ _ _ _ _ _ _ _ _ _ _ G__law_is_line hr (@a7 _ _ _ _ _ (pv 12) (@a7 _ _ _ _ _ (pv 13) (@a7 _ _ _ _ _ (pv 3) (@a7 _ _ _ _ _ (pv 7) a8 (by simp_wf)) (by simp_wf)) (by simp_wf)) (by simp_wf)) d8 (by simp_wf) (by simp_wf) (by simp_wf) (by simp_wf) (by simp_wf)) (by simp_wf))) (@T8 _ _ _ _ _ _ _ (@j9 _ _ _ _ _ _ _ _ (aC3 hu) (@c9 _ _ _ _ _ _ _ _ _ _ _ _ _ _ G__law_said hr (@a7 _ _ _ _ _ (pv 6) (@a7 _ _ _ _ _ (pv 3) a8 (by simp_wf)) (by simp_wf)) d8 (by simp_wf) (by simp_wf) (by simp_wf) (by simp_wf) (by simp_wf)) (pv 7) (l5 _)) (@Y1 _ _ _ _ (@j9 _ _ _ _ _ _ _ _ (aC3 hu) (pv 6) (pv 12) (l5 _)))))) (@c5 _ _ _ (@i5 _ _ _ _ M4)) o0) (@b7 _ _ _ _ _ (@i4 _ _ 8 _ _ _ _ F6.nd rfl (Or.inl rfl) al1 (by simp_wf) (by simp_wf)) (@b7 _ _ _ _ _ (@y7 _ _ _ _ _ _ _ _ (@j9 _ _ _ _ _ _ _ _ aR5 (pv 13) al1 (l5 _)) (@c5 _ _ _ (@i4 _ _ 8 _ _ _ _ F6.nd rfl (Or.inl rfl) (@c9 _ _ _ _ _ _ _ _ _ _ _ _ _ _ G__law_less hr (@a7 _ _ _ _ _ (pv 13) (@a7 _ _ _ _ _ (pv 5) a8 (by simp_wf)) (by simp_wf)) d8 (by simp_wf) (by simp_wf) (by simp_wf) (by simp_wf) (by simp_wf)) (by simp_wf) (by simp_wf))) o0) (@b7 _ _ _ _ _ (@i4 _ _ 9 _ _ _ _ F6.nd rfl (Or.inl rfl) (@c9 _ _ _ _ _ _ _ _ _ _ _ _ _ _ G__law_moved hr (@a7 _ _ _ _ _ (pv 12) (@a7 _ _ _ _ _ (pv 5) a8 (by simp_wf)) (by simp_wf)) d8 (by simp_wf) (by simp_wf) (by simp_wf) (by simp_wf) (by simp_wf)) (by simp_wf) (by simp_wf)) (@b7 _ _ _ _ _ (@y7 _ _ _ _ _ _ _ _ (@N1 _ _ _ _ (@E4 _ _ _ (@c9 _ _ _ _ _ _ _ _ _ _ _ _ _ _ G__law_is_line hr (@a7 _ _ _ _ _ (pv 9) (@a7 _ _ _ _ _ (pv 8) (@a7 _ _ _ _ _ (@l6 _ _ _ _ _ (@a7 _ _ _ _ _ a9 (@a7 _ _ _ _ _ a9 a8 (by simp_wf)) (by simp_wf))) (@a7 _ _ _ _ _ (@c9 _ _ _ _ _ _ _ _ _ _ _ _ _ _ G__law_said hr (@a7 _ _ _ _ _ (pv 9) (@a7 _ _ _ _ _ (@l6 _ _ _ _ _ (@a7 _ _ _ _ _ a9 (@a7 _ _ _ _ _ a9 a8 (by simp_wf)) (by simp_wf))) a8 (by simp_wf)) (by simp_wf)) d8 (by simp_wf) (by simp_wf) (by simp_wf) (by simp_wf) (by simp_wf)) a8 (by simp_wf)) (by simp_wf)) (by simp_wf)) (by simp_wf)) d8 (by simp_wf) (by simp_wf) (by simp_wf) (by simp_wf) (by simp_wf)) (by simp_wf))) (@c5 _ _ _ (@i5 _ _ _ _ M4)) o0) (@b7 _ _ _ _ _ (@K2 _ _ _ _ _ _ _ _ _ 10 _ ["_law_one"] [none] _ _ _ F6.nd rfl (Or.inl rfl) rfl (ag7.of (osc:=c4 aq9) (N:=["_law_script","_law_at","_law_urn_here","_law_hair","_law_kind_here","_law_number_here","_law_handed","_law_found","_law_far","_law_beside","_law_often","_law_some","_law_p","_law_most"]) (ks:=[]) rfl rfl rfl rfl G2 (by decide +kernel)) (@Y5 _ _ _ _ (pv 12)) (λC s₂ H₂ fp pins=>(d9 (i:=0) (show List.Nodup (["_law_one"]:List Str) by decide +kernel) rfl (Or.inl rfl) (Or.inr rfl))) (λC s₂ H₂ fp pins=>(c9 G__law_times hr (a7 (l6 (a7 (E6 A7 a9) (a7 a9 a8))) (a7 (pv 0) a8)) d8)) (by simp_wf) (by simp_wf) (by simp_wf)) (@b7 _ _ _ _ _ (@y7 _ _ _ _ _ _ _ _ (@N1 _ _ _ _ (@E4 _ _ _ (@c9 _ _ _ _ _ _ _ _ _ _ _ _ _ _ G__law_is_line hr (@a7 _ _ _ _ _ (pv 10) (@a7 _ _ _ _ _ (pv 13) (@a7 _ _ _ _ _ (@l6 _ _ _ _ _ (@a7 _ _ _ _ _ a9 (@a7 _ _ _ _ _ a9 a8 (by simp_wf)) (by simp_wf))) (@a7 _ _ _ _ _ (@c9 _ _ _ _ _ _ _ _ _ _ _ _ _ _ G__law_said hr (@a7 _ _ _ _ _ (pv 10) (@a7 _ _ _ _ _ (@l6 _ _ _ _ _ (@a7 _ _ _ _ _ a9 (@a7 _ _ _ _ _ a9 a8 (by simp_wf)) (by simp_wf))) a8 (by simp_wf)) (by simp_wf)) d8 (by simp_wf) (by simp_wf) (by simp_wf) (by simp_wf) (by simp_wf)) a8 (by simp_wf)) (by simp_wf)) (by simp_wf)) (by simp_wf)) d8 (by simp_wf) (by simp_wf) (by simp_wf) (by simp_wf) (by simp_wf)) (by simp_wf))) (@c5 _ _ _ (@i5 _ _ _ _ M4)) o0) (@c5 _ _ _ (@G7 _ _ _ _ _ _ _ _ PassesOwn.never rfl (@Y5 _ _ _ _ (@t8 _ _ _ _ (@a7 _ _ _ _ _ (@t8 _ _ _ _ a8) (@a7 _ _ _ _ _ (@t8 _ _ _ _ (@a7 _ _ _ _ _ (@j2 _ _ _ _ _ _ _ m8 (pv 12) (@E6 _ _ _ _ _ _ A7 a9) (λ_ _=>rfl)) a8 (by simp_wf))) a8 (by simp_wf)) (by simp_wf)))) (d9 (i:=11) F6.nd rfl (Or.inl rfl)) (@c5 _ _ _ (@y7 _ _ _ _ _ _ _ _ (@j9 _ _ _ _ _ _ _ _ (aC3 hu) (@c9 _ _ _ _ _ _ _ _ _ _ _ _ _ _ G__law_said hr (@a7 _ _ _ _ _ (pv 11) (@a7 _ _ _ _ _ (pv 3) a8 (by simp_wf)) (by simp_wf)) d8 (by simp_wf) (by simp_wf) (by simp_wf) (by simp_wf) (by simp_wf)) (@l6 _ _ _ _ _ (@a7 _ _ _ _ _ Y6 (@a7 _ _ _ _ _ Y6 a8 (by simp_wf)) (by simp_wf))) (l5 _)) (@c5 _ _ _ (@i5 _ _ _ _ M4)) o0)) (by simp_wf))))))))))))))))) (by simp_wf)) (@c5 _ _ _ (@i5 _ _ _ _ M4))),?_⟩
  rw [show start ["_law_script","_law_at","_law_urn_here","_law_hair","_law_kind_here","_law_number_here","_law_handed","_law_found","_law_far","_law_beside","_law_often","_law_some","_law_p","_law_most"] [.ref as]=[some (.ref as),none,none,none,none,none,none,none,none,none,none,none,none,none] from rfl]
  have hlen:(((ns.map V.int).length:Nat):Int)=(ns.length:Int):=by rw [List.length_map]
  refine ⟨_,rfl,as,_,rfl,.inl hS,2,_,rfl,1,_,rfl,_,rfl,?_,?_,K7 (λi σ H1 => ∃ o1 o2 o3 o4 o5 o6 o7 o8 o9 o10 o11 o12 o13:Option V,σ=[some (.ref as),o1,o2,o3,o4,o5,o6,o7,o8,o9,o10,o11,o12,o13]/\SqL K H1 as (ns.map V.int)) ⟨_,_,_,_,_,_,_,_,_,_,_,_,_,rfl,hS⟩ ?_ ?_⟩
  · rw [hlen];split <;> split <;> omega
  · rw [hlen];split <;> split <;> omega
  · rintro i σ H1 hi ⟨o1,o2,o3,o4,o5,o6,o7,o8,o9,o10,o11,o12,o13,rfl,hS1⟩
    rw [hlen] at hi
    have hi4:i<4:=by
      revert hi
      split <;> split <;> omega
    simp only [t6,List.set_cons_zero,List.set_cons_succ];refine d7 (λσ H2 => ∃ u,σ=[some (.ref as),some (.int (0+(i:Int))),some (.ref u),o3,o4,o5,o6,o7,o8,o9,o10,o11,o12,o13]/\p9 u H1 H2/\H1 u=none/\p8 H2 u) (λN hN=>?_) ?_
    · subst_eqs
      exact ⟨as,ns,_,rfl,hS1,⋯,⋯,λu H2 s2 hu0 hu2=>hN _ _ ⟨u,rfl,b9.x s2 u,hu0,hu2⟩⟩
    rintro σ H2 ⟨u,rfl,s2,hu0,u2⟩;refine d7 (λσ H3 => ∃ pa hair,σ=[some (.ref as),some (.int (0+(i:Int))),some (.ref u),some (.ref pa),o4,o5,o6,o7,o8,o9,o10,o11,o12,o13]/\p9 u H1 H3/\p8 H3 u/\H3 pa=some (.tup (k6 hair))/\aG2 hair) (λN hN=>?_) ?_
    · simp! [F4]
      refine ⟨k7,λp0 h0=>?_⟩;obtain ⟨A0,q0,S0,e0,v0,n0⟩:=ag1 (.tup [.int 4,.int 1]) h0 u2;rw [q0];refine ⟨k7,λp1 h1=>?_⟩;obtain ⟨A1,q1,S1,e1,v1,n1⟩:=ag1 (.tup [.int 1,.int 1]) h1 v0;rw [q1];refine ⟨k7,λp2 h2=>?_⟩;obtain ⟨A2,q2,S2,e2,v2,n2⟩:=ag1 (.tup [.int 1,.int 7]) h2 v1;rw [q2];refine ⟨k7,λp3 h3=>?_⟩;obtain ⟨A3,q3,S3,e3,v3,n3⟩:=ag1 (.tup [.int 1,.int 100]) h3 v2;rw [q3];refine ⟨k7,λp4 h4=>?_⟩;obtain ⟨A4,q4,S4,e4,v4,n4⟩:=ag1 (.tup [.int 1,.int 10000]) h4 v3;rw [q4];refine ⟨k7,λp5 h5=>?_⟩;obtain ⟨A5,q5,S5,e5,v5,n5⟩:=ag1 (.tup [.int 1,.int 1000000]) h5 v4;rw [q5];refine ⟨by decide,λp6 h6=>?_⟩
      obtain ⟨A6,q6,S6,e6,v6,n6⟩:=ag1 (.lst [V.ref p0,V.ref p1,V.ref p2,V.ref p3,V.ref p4,V.ref p5]) h6 v5;rw [q6];have T5:=S5.trans S6;have T4:=S4.trans T5;have T3:=S3.trans T4;have T2:=S2.trans T3;have T1:=S1.trans T2;have T0:=S0.trans T1;refine ⟨v6,by decide,by decide,λr H3 r0 r1 s3 u3=>?_⟩
      have sx:=s2.trans ((b9.x T0 u).trans s3);refine ⟨_,SqL.of (s3 _ _ e6 n6),?_⟩;obtain ⟨k0,k1,k2,k3,k4,k5⟩:=bx2;have hr6:r=0 \/ r=1 \/ r=2 \/ r=3 \/ r=4 \/ r=5:=⋯;rcases hr6 with rfl | rfl | rfl | rfl | rfl | rfl
      · exact ⟨_,rfl,hN _ _ ⟨p0,4,rfl,sx,u3,s3 _ _ (T1 _ _ (by rw [nv4];exact e0)) n0,k0⟩⟩
      · exact ⟨_,rfl,hN _ _ ⟨p1,1,rfl,sx,u3,s3 _ _ (T2 _ _ (by rw [nv1];exact e1)) n1,k1⟩⟩
      · exact ⟨_,rfl,hN _ _ ⟨p2,1 / 7,rfl,sx,u3,s3 _ _ (T3 _ _ (by rw [nv7];exact e2)) n2,k2⟩⟩
      · exact ⟨_,rfl,hN _ _ ⟨p3,1 / 100,rfl,sx,u3,s3 _ _ (T4 _ _ (by rw [nvh];exact e3)) n3,k3⟩⟩
      · exact ⟨_,rfl,hN _ _ ⟨p4,1 / 10000,rfl,sx,u3,s3 _ _ (T5 _ _ (by rw [nvt];exact e4)) n4,k4⟩⟩
      · exact ⟨_,rfl,hN _ _ ⟨p5,1 / 1000000,rfl,sx,u3,s3 _ _ (S6 _ _ (by rw [nvm];exact e5)) n5,k5⟩⟩
    rintro σ H3 ⟨pa,hair,rfl,s3,u3,eh3,hok⟩;refine d7 (λσ H4 => ∃ kd,σ=[some (.ref as),some (.int (0+(i:Int))),some (.ref u),some (.ref pa),some (.int kd),o5,o6,o7,o8,o9,o10,o11,o12,o13]/\p9 u H1 H4/\p8 H4 u/\H4 pa=some (.tup (k6 hair))/\(kd=0 \/ kd=1)) (λN hN=>?_) ?_
    · subst_eqs
      refine ⟨u,rfl,u3,λr H4 hr3 s4 u4=>⟨r,rfl,by decide,hN _ _ ⟨r.fmod 2,rfl,s3.trans s4,u4,s4.tups u3 _ _ eh3,?_⟩⟩⟩
      rcases hr3 with rfl | rfl | rfl
      · exact .inl rfl
      · exact .inr rfl
      · exact .inl rfl
    rintro σ H4 ⟨kd,rfl,s4,u4,eh4,hk⟩;refine d7 (λσ H5 => ∃ lp vm ys qs n m,σ=[some (.ref as),some (.int (0+(i:Int))),some (.ref u),some (.ref pa),some (.int kd),o5,o6,o7,o8,o9,o10,o11,some (.ref lp),some vm]/\p9 u H1 H5/\p8 H5 u/\H5 pa=some (.tup (k6 hair))/\LsX u H5 lp ys qs/\MxH H5 vm m/\Drw qs n m) (λN hN=>?_) ?_
    · subst_eqs
      exact ⟨u,kd,rfl,u4,hk,λr lp vm ys qs n m H5 s5 u5 er X5 M5 D=>⟨r,rfl,_,SqT.of er,rfl,_,_,rfl,_,_,rfl,rfl,hN _ _ ⟨lp,vm,ys,qs,n,m,rfl,s4.trans s5,u5,s5.tups u4 _ _ eh4,X5,M5,D⟩⟩⟩
    rintro σ H5 ⟨lp,vm,ys,qs,n,m,rfl,s5,u5,eh5,X5,M5,D⟩;refine d7 (λσ H6 => ∃ pc c,σ=[some (.ref as),some (.int (0+(i:Int))),some (.ref u),some (.ref pa),some (.int kd),some (.ref pc),o6,o7,o8,o9,o10,o11,some (.ref lp),some vm]/\p9 u H1 H6/\p8 H6 u/\H6 pa=some (.tup (k6 hair))/\LsX u H6 lp ys qs/\MxH H6 vm m/\H6 pc=some (.tup (k6 c))/\OvB 60 10 c) (λN hN=>?_) ?_
    · subst_eqs
      exact ⟨u,kd,rfl,u5,λr q H6 nq s6 u6 e6=>hN _ _ ⟨r,q,rfl,s5.trans s6,u6,s6.tups u5 _ _ eh5,X5.samex s6 u5,M5.tups (s6.tups u5),e6,nq.q60 hk⟩⟩
    rintro σ H6 ⟨pc,c,rfl,s6,u6,eh6,X6,M6,ec6,oc⟩;have nX:=X6.nums;have eX:=X6.at';have lx:=nX.length;have lq:=D.pw.len;have n1:=D.pw.n1;have n7:=D.pw.n7;refine d7 (λσ H7 => ∃ lh,σ=[some (.ref as),some (.int (0+(i:Int))),some (.ref u),some (.ref pa),some (.int kd),some (.ref pc),some (.ref lh),o7,o8,o9,o10,o11,some (.ref lp),some vm]/\b9 H6 H7/\H7 lh=some (.lst ys)) (λN hN=>?_) ?_
    · subst_eqs
      exact ⟨_,.inl (SqL.of eX),λl hl=>hN _ _ ⟨l,rfl,b9.new hl _,b6⟩⟩
    rintro σ H7 ⟨lh,rfl,s7,el7⟩;have hL:=D.line hok.1 hok.2.1 hok.2.2;have hA:∀ {H:Hp},b9 H7 H->Num K H (.ref pa) hair:=λs=>⟨pa,rfl,SqT.of (s _ _ (s7 _ _ eh6))⟩;have nh:∀ {H:Hp},b9 H7 H->p7 H ys qs:=λs=>(nX.mono s7.tups).mono s.tups;refine d7 (λσ H8 => ∃ t lo hi,σ=[some (.ref as),some (.int (0+(i:Int))),some (.ref u),some (.ref pa),some (.int kd),some (.ref pc),some (.ref lh),some (.ref t),o8,o9,o10,o11,some (.ref lp),some vm]/\b9 H7 H8/\LnH H8 t qs hair 20 7 lo hi) (λN hN=>?_) ?_
    · subst_eqs
      exact ⟨lh,_,ys,qs,hair,rfl,SqL.of el7,nh (b9.refl _),hA (b9.refl _),hok.2.1,λz=>⋯,λ_=>⟨n,20,7,hL,λt lo hi H8 s8 R=>hN _ _ ⟨t,lo,hi,rfl,s8,R⟩⟩⟩
    rintro σ H8 ⟨t,lo,hi,rfl,s8,R8⟩;have el8:=s8 _ _ el7;have s68:=s7.trans s8;refine d7 (λσ H9=>σ=[some (.ref as),some (.int (0+(i:Int))),some (.ref u),some (.ref pa),some (.int kd),some (.ref pc),some (.ref lh),some (.ref t),o8,o9,o10,o11,some (.ref lp),some vm]/\b9 H8 H9) (λN hN=>?_) ?_
    · subst_eqs
      refine ⟨lp,t,vm,.ref pa,ys,qs,n,20,7,m,hair,lo,hi,rfl,SqL.of (s68 _ _ eX),nh s8,(M6.tups s68.tups).arg,hA s8,hL,D.tl,R8,λH9 s9=>⟨true,rfl,x8 (λz=>by cases z) (λ_=>?_)⟩⟩
      have s79:=s8.trans s9;refine ⟨lh,_,ys,qs,hair,rfl,SqL.of (s9 _ _ el8),nh s79,hA s79,hok.2.1,λz=>⋯,λ_=>⟨n,20,7,hL,λt2 lo2 hi2 H10 s10 R10=>?_⟩⟩;have s810:=s9.trans s10;obtain ⟨ea,eb⟩:=R8.ln.uniq R10.ln;rw [<- ea,<- eb] at R10;have s710:=s8.trans s810;refine ⟨dTL lo hi,dTL lo hi,rfl,R10.isD,(R8.tups s810.tups).isD,ar9 _,by simp [dTL,M8,dpD,ao4],?_⟩
      rw [bx8];refine ⟨_,rfl,x8 (λz=>by cases z) (λ_=>⟨D9 qs,D9 qs,rfl,E7 (SqL.of (s810 _ _ el8)) (nh s710),E7 (SqL.of ((s7.trans s710) _ _ eX)) (nh s710),ab5 _ _,Nat.le_trans (ak2 _) (by decide),?_⟩)⟩
      rw [ak1,decide_eq_true rfl];exact ⟨_,rfl,x8 (λz=>by cases z) (λ_=>hN _ _ ⟨rfl,s810⟩)⟩
    rintro σ H9 ⟨rfl,s9⟩;refine d7 (λσ H10=>σ=[some (.ref as),some (.int (0+(i:Int))),some (.ref u),some (.ref pa),some (.int kd),some (.ref pc),some (.ref lh),some (.ref t),some .non,o9,o10,o11,some (.ref lp),some vm]/\H10=H9) (λN hN=>?_) ?_
    · subst_eqs
      exact hN _ _ ⟨rfl,rfl⟩
    rintro σ H10 ⟨rfl,rfl⟩;have s610:=s68.trans s9;have M10:=M6.tups s610.tups;have S7':=s8.trans s9;refine d7 (λσ H11 => ∃ vf,σ=[some (.ref as),some (.int (0+(i:Int))),some (.ref u),some (.ref pa),some (.int kd),some (.ref pc),some (.ref lh),some (.ref t),some vf,o9,o10,o11,some (.ref lp),some vm]/\b9 H10 H11/\MxN K H11 vf (m.map λv=>v-c)) (λN hN=>?_) ?_
    · subst_eqs
      cases m with
      | none =>
        have hm:vm=.non:=M10;subst hm;exact x8 (λz=>absurd rfl z) (λ_=>hN _ _ ⟨.non,rfl,b9.refl _,rfl⟩)
      | some v =>
        obtain ⟨pm,rfl,em,om⟩:=M10;have cm:=OvB.bdN (by decide) (show 60<2 ^ 10 by decide) om
        have cc:=OvB.bdN (by decide) (show 60<2 ^ 10 by decide) oc
        refine x8 (λ_=>?_) (λz=>absurd (λy=>by cases y) z)
        exact ⟨_,_,v,c,10,10,rfl,⟨pm,rfl,SqT.of em⟩,⟨pc,rfl,SqT.of (s610 _ _ ec6)⟩,cm.t (by decide),cc.t (by decide),by decide,λr H11 s11 e11=>hN _ _ ⟨.ref r,rfl,s11,⟨r,rfl,SqT.of e11⟩,(cm.sub cc).mono (by decide)⟩⟩
    rintro σ H11 ⟨vf,rfl,s11,Mf⟩;have s611:=s610.trans s11;have S11:=S7'.trans s11;have bc:=OvB.bdN (by decide) (show 60<2 ^ 10 by decide) oc
    have ovq:=D.pw.ov (M:=18*19 ^ 7*60 ^ 8) (W:=82) (by decide +kernel) (by decide +kernel)
    refine d7 (λσ H12 => ∃ lb zs,σ=[some (.ref as),some (.int (0+(i:Int))),some (.ref u),some (.ref pa),some (.int kd),some (.ref pc),some (.ref lh),some (.ref t),some vf,some (.ref lb),o10,o11,some (.ref lp),some vm]/\b9 H11 H12/\H12 lb=some (.lst zs)/\p7 H12 zs (shn c qs)) (λN hN=>?_) ?_
    · subst_eqs
      exact ⟨lp,pc,ys,qs,c,60 ^ 8,82,10,rfl,SqL.of (s611 _ _ eX),nh S11,ovq,by decide,by decide,by decide,D.pw.tl,s611 _ _ ec6,bc,by decide,by decide,⋯,λl zs H12 s12 f12 e12 n12=>hN _ _ ⟨l,zs,rfl,s12,e12,n12⟩⟩
    rintro σ H12 ⟨lb,zs,rfl,s12,eb,nb⟩;have S12:=S11.trans s12;refine d7 (λσ H13=>σ=[some (.ref as),some (.int (0+(i:Int))),some (.ref u),some (.ref pa),some (.int kd),some (.ref pc),some (.ref lh),some (.ref t),some vf,some (.ref lb),o10,o11,some (.ref lp),some vm]/\b9 H12 H13) (λN hN=>?_) ?_
    · subst_eqs
      refine ⟨k7,λp0 h0=>?_⟩;have Z0:=b9.new h0 (.tup [.int 1,.int 2]);refine ⟨k7,λp1 h1=>?_⟩;have Z1:=b9.new h1 (.tup [.int 1,.int 2]);have Z:=Z0.trans Z1;have e0:upd (upd H12 p0 (.tup [.int 1,.int 2])) p1 (.tup [.int 1,.int 2]) p0=some (.tup (k6 (1 / 2))):=by rw [aN6];exact Z1 _ _ b6
      have e1:upd (upd H12 p0 (.tup [.int 1,.int 2])) p1 (.tup [.int 1,.int 2]) p1=some (.tup (k6 (1 / 2))):=by rw [aN6];exact b6
      have LB:=D.beside oc;have ls:=B7 c qs;refine ⟨lb,.ref p1,zs,shn c qs,1 / 2,rfl,SqL.of (Z _ _ eb),nb.mono Z.tups,⟨p1,rfl,SqT.of e1⟩,LB.bh,λz=>⋯,λ_=>⟨n,1,8,LB,λt2 lo2 hi2 H13 s13 R13=>?_⟩⟩;refine ⟨lb,t2,vf,.ref p0,zs,shn c qs,n,1,8,m.map λv=>v-c,1 / 2,lo2,hi2,rfl,SqL.of (s13 _ _ (Z _ _ eb)),(nb.mono Z.tups).mono s13.tups,Mf.same (s12.trans (Z.trans s13)),⟨p0,rfl,SqT.of (s13 _ _ e0)⟩,LB,λx hx h=>?_,R13,λH14 s14=>⟨true,rfl,x8 (λz=>by cases z) (λ_=>hN _ _ ⟨rfl,Z.trans (s13.trans s14)⟩)⟩⟩
      obtain ⟨v,rfl,rfl⟩:=Option.map_eq_some_iff.mp hx;rw [aQ7,D.tl v rfl,decide_eq_decide]
      constructor <;> intro _ <;> grind
    rintro σ H13 ⟨rfl,s13⟩;have S13:=S12.trans s13;refine d7 (λσ H14 => ∃ lo' ws,σ=[some (.ref as),some (.int (0+(i:Int))),some (.ref u),some (.ref pa),some (.int kd),some (.ref pc),some (.ref lh),some (.ref t),some vf,some (.ref lb),some (.ref lo'),o11,some (.ref lp),some vm]/\b9 H13 H14/\H14 lo'=some (.lst ws)/\p7 H14 ws (qs.map ((((-3:Int):Rat)) * ·))) (λN hN=>?_) ?_
    · subst_eqs
      refine ⟨⟨_,SqL.of ((s611.trans (s12.trans s13)) _ _ eX)⟩,λD2 hD2=>?_⟩;have nX13:=nh (S12.trans s13);refine ap8 ys (λj σ H14 => ∃ o,σ=[o]/\at8 H13 D2 ((qs.map ((((-3:Int):Rat)) * ·)).take j) H14) ⟨_,rfl,at8.start hD2⟩ (λj σ H14 _ ⟨o,_,r14⟩=>SqL.of (r14.same _ _ ((s611.trans (s12.trans s13)) _ _ eX))) ?_ ?_
      · rintro j x σ H14 hx ⟨o,rfl,r14⟩
        obtain ⟨px,q,rfl,hq,hpx⟩:=(nX13.mono r14.same.tups).getV hx;have hj:=(List.getElem?_eq_some_iff.mp hx).1;have oq:=(ovq q (List.mem_of_getElem? hq)).bt (by decide) (show 60 ^ 8<2 ^ 82 by decide) (by decide)
        subst_eqs
        refine ⟨k7,λp0 h0=>?_⟩;have Z0:=b9.new h0 (.tup [.int (-3),.int 1]);have e0:upd H14 p0 (.tup [.int (-3),.int 1]) p0=some (.tup (k6 ((-3:Int):Rat))):=by rw [bd2];exact b6
        refine ⟨_,_,((-3:Int):Rat),q,2,82,rfl,⟨p0,rfl,SqT.of e0⟩,⟨px,rfl,Z0.tup (SqT.of hpx)⟩,⟨by decide,by decide⟩,oq,by decide,λr H15 s15 e15=>?_⟩
        obtain ⟨zs',eD,yl,R'⟩:=r14.add hD2 (Z0.trans s15) e15;have gq:(qs.map ((((-3:Int):Rat)) * ·))[j]? = some (((-3:Int):Rat)*q):=by rw [List.getElem?_map,hq];rfl
        refine E3.mk hj eD (al7 (by rw [yl,List.length_take,List.length_map];omega)) ⟨_,rfl,?_⟩
        rw [ae5 gq];exact R'
      · rintro σ H14 ⟨o,rfl,r14⟩
        rw [aZ9 (by rw [List.length_map];omega)] at r14
        obtain ⟨s14,ws,e14,n14⟩:=r14;exact hN _ _ ⟨D2,ws,rfl,s14,e14,n14⟩
    rintro σ H14 ⟨lof,ws,rfl,s14,eo,no⟩;have S14:=S13.trans s14;refine d7 (λσ H15=>σ=[some (.ref as),some (.int (0+(i:Int))),some (.ref u),some (.ref pa),some (.int kd),some (.ref pc),some (.ref lh),some (.ref t),some vf,some (.ref lb),some (.ref lof),o11,some (.ref lp),some vm]/\b9 H14 H15) (λN hN=>?_) ?_
    · subst_eqs
      refine ⟨k7,λp0 h0=>?_⟩;have Z0:=b9.new h0 (.tup [.int 2,.int 1]);refine ⟨k7,λp1 h1=>?_⟩;have Z1:=b9.new h1 (.tup [.int 2,.int 1]);have Z:=Z0.trans Z1;have n2:k6 2=[.int 2,.int 1]:=rfl;have e0:upd (upd H14 p0 (.tup [.int 2,.int 1])) p1 (.tup [.int 2,.int 1]) p0=some (.tup (k6 2)):=by rw [n2];exact Z1 _ _ b6
      have e1:upd (upd H14 p0 (.tup [.int 2,.int 1])) p1 (.tup [.int 2,.int 1]) p1=some (.tup (k6 2)):=by rw [n2];exact b6
      have LB:=D.often;have ls:(qs.map ((((-3:Int):Rat)) * ·)).length=qs.length:=List.length_map ..
      refine ⟨lof,.ref p1,ws,qs.map ((((-3:Int):Rat)) * ·),2,rfl,SqL.of (Z _ _ eo),no.mono Z.tups,⟨p1,rfl,SqT.of e1⟩,LB.bh,λz=>⋯,λ_=>⟨n,0,7,LB,λt2 lo2 hi2 H15 s15 R15=>?_⟩⟩
      refine ⟨lof,t2,vm,.ref p0,ws,qs.map ((((-3:Int):Rat)) * ·),n,0,7,m,2,lo2,hi2,rfl,SqL.of (s15 _ _ (Z _ _ eo)),(no.mono Z.tups).mono s15.tups,((M6.tups s610.tups).arg).same (s11.trans (s12.trans (s13.trans (s14.trans (Z.trans s15))))),⟨p0,rfl,SqT.of (s15 _ _ e0)⟩,LB,λx hx h=>?_,R15,λH16 s16=>⟨true,rfl,x8 (λz=>by cases z) (λ_=>hN _ _ ⟨rfl,Z.trans (s15.trans s16)⟩)⟩⟩
      rw [aO7 lq];exact D.tl x hx h
    rintro σ H15 ⟨rfl,s15⟩;have S15:=S14.trans s15;refine ⟨by decide,λq0 h0=>?_⟩
    have Z0:=b9.new h0 (.lst []);obtain ⟨px,gx,hx⟩:=nX.get (List.getElem?_eq_getElem (l:=qs) (i:=n) ⋯);have la:atI ys (-1)=some (.ref px):=be8 (by rw [lx,lq,Nat.add_sub_cancel];exact gx)
    refine ⟨_,rfl,_,rfl,lp,ys,_,.ref px,rfl,rfl,SqL.of (Z0 _ _ (S15 _ _ (s7 _ _ eX))),la,af7,λq1 h1=>⟨k7,λq2 h2=>?_⟩⟩;have Z1:=b9.new h1 (.lst [V.ref px]);have Z2:=b9.new h2 (.lst [V.ref q0,V.ref q1]);have Z:=Z0.trans (Z1.trans Z2);have e2:upd (upd (upd H15 q0 (.lst [])) q1 (.lst [V.ref px])) q2 (.lst [V.ref q0,V.ref q1]) q2=some (.lst [V.ref q0,V.ref q1]):=b6;have e1:upd (upd (upd H15 q0 (.lst [])) q1 (.lst [V.ref px])) q2 (.lst [V.ref q0,V.ref q1]) q1=some (.lst [V.ref px]):=Z2 _ _ b6;have e0:upd (upd (upd H15 q0 (.lst [])) q1 (.lst [V.ref px])) q2 (.lst [V.ref q0,V.ref q1]) q0=some (.lst []):=(Z1.trans Z2) _ _ b6;have ST:=S15.trans Z;have hq1:aG2 hair:=hok;have hx':=(S15.trans Z).tups _ _ (s7.tups _ _ hx);generalize upd (upd (upd H15 q0 (.lst [])) q1 (.lst [V.ref px])) q2 (.lst [V.ref q0,V.ref q1])=HZ at e0 e1 e2 Z ST hx' ⊢;refine ⟨q2,rfl,⟨_,SqL.of e2⟩,as5 (xs:=[V.ref q0,V.ref q1]) (λj σ HH => ∃ o11,σ=[some (.ref as),some (.int (0+(i:Int))),some (.ref u),some (.ref pa),some (.int kd),some (.ref pc),some (.ref lh),some (.ref t),some vf,some (.ref lb),some (.ref lof),o11,some (.ref lp),some vm]/\b9 HZ HH) ⟨_,rfl,b9.refl _⟩ (λj σ HH _ ⟨_,_,sz⟩=>SqL.of (sz _ _ e2)) ?_ ?_⟩
    · rintro j x σ HH hx2 ⟨o11,rfl,sz⟩
      have ex:∃ (q:Addr) (xs:List V) (rs:List Rat),x=.ref q/\HH q=some (.lst xs)/\p7 HH xs rs/\rs.length<2:=by
        match j,hx2 with
        | 0,hx2=>cases hx2;exact ⟨q0,[],[],rfl,sz _ _ e0,.nil,by decide⟩
        | 1,hx2=>cases hx2;exact ⟨q1,[.ref px],[qs[n]'⋯],rfl,sz _ _ e1,.cons (sz _ _ hx') .nil,by simp⟩
      obtain ⟨q,xs,rs,rfl,eq,nq,lr⟩:=ex
      subst_eqs
      refine ⟨q,_,xs,rs,hair,rfl,SqL.of eq,nq,hA (ST.trans sz),hok.2.1,λ_ t3 H3 s3 e3=>⟨k7,λp hp=>?_⟩,λz=>⋯⟩;have Y:=b9.new hp (.tup [.str "refused",.str "polynomial"])
      refine ⟨dRP,dRP,rfl,bf0 (Y _ _ e3),bf0 b6,ar9 _,by simp [dRP,dpD,ao4],?_⟩
      rw [show eqD dRP dRP=true by simp [dRP,eqD,J4,eqV]]
      exact ⟨_,rfl,x8 (λz=>by cases z) (λ_=>sz.trans (s3.trans Y))⟩
    · rintro σ HH ⟨o11,rfl,sz⟩
      exact ⟨_,_,_,_,_,_,_,_,_,_,_,_,_,rfl,((s6.trans (b9.x ((s7.trans ST).trans sz) u)).seq hu0 hS1)⟩
  · rintro σ H1 ⟨o1,o2,o3,o4,o5,o6,o7,o8,o9,o10,o11,o12,o13,rfl,hS1⟩
    exact k H1
end
end R
set_option maxRecDepth 100000
namespace PySem.W.Fast
def tw1571343089326010182:=0
def tw15988646756480488907:=0
def tw16556068120860161689:=0
def tw17837150946533571500:=0
def tw3583975442222132001:=0
def tw13204883702020247174:=0
def tw3937553674350119664:=0
def tw13599232191030961942:=0
def tw14891112022492245727:=0
def tw17630287871662932814:=0
def tw11140514187831831523:=0
def tw6672177549994461166:=0
def tw17245577174599881779:=0
def tw2001693345437602796:=0
def tw16024755761395666233:=0
def tw18257038844293174471:=0
def tw17603803415124210107:=0
def tw2550164190900448531:=0
def tw12027967246988104273:=0
def tw4898949120314392780:=0
def tw5345853252492928860:=0
def tw11135431472442524873:=0
def tw11167849449575246128:=0
def tw5718944837068682529:=0
def tw6737950753067490765:=0
def tw4089455546122018354:=0
def tw5026343072472244141:=0
def tw12386650900954837238:=0
def tw5469614682681181120:=0
def tw12000598041287056215:=0
def tw14332389084691544413:=0
def tw8924068518400768637:=0
def tw7737115731438557658:=0
def tw6644087619810706932:=0
def tw3896454198542741697:=0
def tw735947015266356895:=0
def tw12572546229731148949:=0
def tw17972965286499316140:=0
def tw13515335406362058594:=0
def tw7310420186601380225:=0
def tw11863472194058196139:=0
def tw10418115544916565843:=0
def tw15360472866503005165:=0
def tw17401757216124823334:=0
def tw8689890565812071024:=0
def tw7587117561366934612:=0
def tw5310550403287803966:=0
def tw6805981095157753817:=0
def tw10091953226707450046:=0
def tw16195233576140104695:=0
def tw1559164930603749271:=0
def tw1908671745774839249:=0
def tw4292666499767030904:=0
def tw11140096960209993760:=0
def tw6298100610017660219:=0
def tw13132659957641063226:=0
def tw13615159522995976222:=0
def tw158520163224554888:=0
def tw5261106691476280062:=0
def tw8035971402607840792:=0
def tw11822760886971466164:=0
def tw13805738728142353993:=0
def tw15108324189383650172:=0
def tw8605493062884521859:=0
def tw18317585114095783780:=0
def tw9182089632820055394:=0
def tw14964447344378130388:=0
def tw18386909186088346171:=0
def tw17157093534737057428:=0
def tw669990162771186707:=0
def tw2948601442903905590:=0
def tw14277356986851359714:=0
def tw7019625262055233132:=0
def tw4015185372281760185:=0
def tw13762642510816247039:=0
def tw1878725982277123303:=0
def tw587448194396427313:=0
def tw12424197944167191608:=0
def tw16040956816195553572:=0
def tw16245039193753923883:=0
def tw5264186233748865881:=0
def tw3225274246121253111:=0
def tw5674876827132897931:=0
def tw15572155415519135988:=0
def tw13050247754614343747:=0
def tw8272385962227488574:=0
def tw18302915795694710583:=0
def tw7912944744527636638:=0
def tw8306974246070565619:=0
def tw8999627253349171871:=0
def tw7807380741535028794:=0
def tw10040381687740726292:=0
def tw17607833250609259052:=0
def tw13520956301770655394:=0
def tw16507191302751650409:=0
def tw13825903564301156522:=0
def tw10735925087784959299:=0
def tw17626920345573174286:=0
def tw15080049042750788821:=0
def tw3124370567524724295:=0
def tw18207060588741457448:=0
def tw17024657339369285882:=0
def tw8874156060304580341:=0
def tw9441150229799320744:=0
def tw521222828023097365:=0
def tw1608247328483236519:=0
def tw6148780793443871286:=0
def tw17983827437108310338:=0
def tw16965710473005509511:=0
def tw1843451861886412192:=0
def tw10696056037074134303:=0
def tw3224115867555748382:=0
def tw4158171691428172658:=0
def tw14291980918058206941:=0
def tw15080327711294142063:=0
def tw14919250844239389917:=0
def tw11018494799891876560:=0
def tw2054709999964324915:=0
def tw17770673243697959749:=0
def tw14709839695356773006:=0
def tw16045501888163910849:=0
def tw1801214142647000907:=0
def tw583376443279301926:=0
def tw9213366167740766515:=0
def tw8638873525451282470:=0
def tw197044851525850585:=0
def tw16239244001803901861:=0
def tw17473292936087618493:=0
def tw15653162354832877850:=0
def tw6029858352471846784:=0
def tw2589822991471911163:=0
def tw2387704954851649868:=0
def tw13714201188076344814:=0
def tw675197883029498669:=0
def tw53274617631836059:=0
def tw4959139856784557790:=0
def tw12993764674081955804:=0
def tw681566176434953320:=0
def tw4139735827830263982:=0
def tw10182568245045132387:=0
def tw15828461149527068878:=0
def tw9230081209369177307:=0
def tw1248059539758724824:=0
def tw6123159374955167765:=0
def tw3463114206855028999:=0
def tw4231557591227586039:=0
def tw758671327083779172:=0
def tw16966376479418760241:=0
def tw8334414475929358964:=0
def tw5155330654790907192:=0
def tw642997321034978445:=0
def tw9233287782884102174:=0
def tw6012604770029004293:=0
def tw6641639539556093846:=0
def tw1215227141557395985:=0
def tw11922419341727147772:=0
def tw5753959625490263751:=0
def tw17164733837611804616:=0
def tw12254877808641926102:=0
def tw11046871956398139763:=0
def tw7135233975955902247:=0
def tw4052174113057444906:=0
def tw12251259532609837252:=0
def tw15025673484464098390:=0
def tw5377773314946337967:=0
def tw14397140350288508077:=0
def tw8084617804939208929:=0
def tw9604755671493657150:=0
def tw3859386765730078177:=0
def tw10868595134193034083:=0
def tw4516554553644507336:=0
def tw2695664913339823695:=0
def tw12505641473063273256:=0
def tw8193560972460682033:=0
def tw2206581332653717911:=0
def tw16090972710373009167:=0
def tw6620142829587612145:=0
def tw8109871716224784065:=0
def tw2066522618528360662:=0
def tw18081140393463542492:=0
def tw8263123272475157065:=0
def tw12230207720563253224:=0
def tw5795219288112822510:=0
def tw8270016138923559451:=0
def tw7562040214788876182:=0
def tw11147176367460107657:=0
def tw348433029587981368:=0
def tw10977700218342895838:=0
def tw4341523813487982780:=0
def tw7916101256188162088:=0
def tw1082906210735390026:=0
def tw2810603784843338655:=0
def tw8747504436580890221:=0
def tw14681599585275639055:=0
def tw9507372689965614482:=0
def tw17766399695041641146:=0
def tw2838072218558856086:=0
def tw1122347825997598971:=0
def tw3956171553882214314:=0
def tw16503845033398238565:=0
def tw9410457502147207910:=0
def tw17923862274630429803:=0
def tw14463294363035347800:=0
def tw1536725729221785067:=0
def tw14238552822654267976:=0
def tw9423722031512005023:=0
def tw11958969070423029398:=0
def tw2933815611851028088:=0
def tw8337079300345694854:=0
def tw10321487501171250020:=0
def tw18106781892862662940:=0
def tw8877805342954102214:=0
def tw4495629814951725270:=0
def tw5258915877722014114:=0
def tw10365541002184591565:=0
def tw12780239355257526134:=0
def tw1905375766632455394:=0
def tw5862744943296036012:=0
def tw6440899305206197940:=0
def tw8851704790621680835:=0
def tw9547277362220308712:=0
def tw1377012362645162689:=0
def tw15581862126270921044:=0
def tw9361807756523979540:=0
def tw8574576794064643595:=0
def tw7586898381489395503:=0
def tw12701496172293771863:=0
def tw9701177451963069369:=0
def tw818087479344762680:=0
def tw9047450526430402872:=0
def tw16047258474795074067:=0
def tw6766020056084037138:=0
def tw5850718273374798381:=0
def tw9175184145875154672:=0
def tw18160886653153698358:=0
def tw4887851869262352046:=0
def tw5079882789711924102:=0
def tw11797110898405432071:=0
def tw15146310745590372893:=0
def tw1135423288580956459:=0
def tw17082251166709689278:=0
def tw17950223888833293174:=0
def tw7908936454390889880:=0
def tw1221972359536807470:=0
def tw17594939780978359442:=0
def tw5084168605038585382:=0
def tw16905618433051272683:=0
def tw9519936299586296620:=0
def tw8530437513890966096:=0
def tw14595060518431950352:=0
def tw2154374158017269835:=0
def tw17826921308235349849:=0
def tw12369631909642580617:=0
def tw5298058414957113584:=0
def tw18086858557228169078:=0
def tw9820035608405923674:=0
def tw1472711679618323248:=0
def tw7569803452862451061:=0
def tw12652118453438137188:=0
def tw3493432631764245282:=0
def tw11490124748593925094:=0
def tw2035331598878131182:=0
def tw4357272737821120930:=0
def tw4505326454067653233:=0
def tw648314108940983092:=0
def tw2152300752418884335:=0
def tw3619785405575871360:=0
def tw5654073667588176734:=0
def tw1833126337531040397:=0
def tw13095434347157011780:=0
def tw783387848525170484:=0
def tw14567464861643321197:=0
def tw139160919483187593:=0
def tw11151255351745437812:=0
def tw736490329417223562:=0
def tw2077994853140489883:=0
def tw2240131870396431957:=0
def tw735464914293619776:=0
def tw3846289927685678680:=0
def tw10979664124485743091:=0
def tw14582333645794646674:=0
def tw10765723818226104699:=0
def tw1939791412949776238:=0
def tw15321367616461624709:=0
def tw12234846799549454114:=0
def tw10845122102453184827:=0
def tw10000959636680667979:=0
def tw5546601059281778635:=0
def tw2925987300284930745:=0
def tw6244317679942651943:=0
def tw1537852706347328053:=0
def tw15926168878721926736:=0
def tw12363083725880718939:=0
def tw5107869005478054206:=0
def tw11308948671896788936:=0
def tw7526422723743577806:=0
def tw13187075679257647402:=0
def tw2969663144379998355:=0
def tw14876896002063520647:=0
def tw9239511524840928471:=0
def tw12303429126195242088:=0
def tw9948735783106209256:=0
def tw17579535755557040470:=0
def tw8910177527398962977:=0
def tw17644150372070992289:=0
def tw10535634611488909828:=0
def tw714895488783730380:=0
def tw16410394302359779582:=0
def tw4667820245426148179:=0
def tw13152289096811080955:=0
def tw4121138469581462434:=0
def tw91668599224795419:=0
def tw18284036348614254169:=0
def tw1222143359463972560:=0
def tw18438534827263978486:=0
def tw13327675901978580817:=0
def tw17419519920757613409:=0
def tw17611716732231190208:=0
def tw17049933874616090096:=0
def tw14887797595324319953:=0
def tw12519306903500216973:=0
def tw5242368772939857334:=0
def tw2838662628323742591:=0
def tw1728340004805419173:=0
def tw13804924697971992803:=0
def tw133773500884972473:=0
def tw10676072715849268862:=0
def tw3656676300362751592:=0
def tw17759272613245861949:=0
def tw10049339940785236704:=0
def tw1675451368903587083:=0
def tw4550751649867794344:=0
def tw18255837546488532215:=0
def tw550618360176458326:=0
end PySem.W.Fast
namespace R
open PySem L2 PyProof.Rows
section
variable {l:q1k} {w:World} {K:q0a} {h:Heap} {mg:Str->Option Value}
structure Gd (K:q0a) (nm:Str) (st:Stmt) (f:Addr):Prop where
 a:j0e K mainGlobals nm=some (some (.ref f))
 F:∃ fd,Fun K nm nm st f fd
theorem Gd.df {nm:Str} {st:Stmt} {f:Addr} {ps:List Str} (X:K.In h) (G:h.Ns mainGlobals mg) (g:Gd K nm st f) (hb:∀ (kV doc pm:Value) (an:Option Addr) (cdv ct:Value) (us:List Value),us.length=ps.length->bindArgs (v0k nm nm (ad7 st) (J2 st) (c4 st) .none kV doc pm an cdv ct) ⟨us,[]⟩=pure (ps.zip us)):Df K mg nm st ps f:=by
 obtain ⟨a,_,F⟩:=g;exact ⟨⟨_,F,F.binds hb⟩,v0z X G a⟩
structure Gx (K:q0a) (nm:Str) (C:Addr):Prop where
 m:j0e K mainGlobals nm=some (some (.ref C))
 x:z1a K C [.type "ValueError",.type "Exception",.type "BaseException",.type "object"] "ValueError.__new__" = true
 e:au1 K C
theorem Gx.t {nm:Str} {C:Addr} (X:K.In h) (G:h.Ns mainGlobals mg) (g:Gx K nm C):ExT K mg nm C:=⟨v0z X G g.m,⟨g.x⟩,g.e⟩
theorem bm3 {us:List Value} {n:Nat} (h:us.length=n+1):∃ a r,us=a :: r/\r.length=n:=by
 cases us with
 | nil=>cases h
 | cons a r=>exact ⟨a,r,rfl,Nat.succ.inj h⟩
theorem bB7 {us:List Value} (h:us.length=0):us=[]:=y0h h
theorem U8 {us:List Value} (h:us.length=1):∃ a0,us=[a0]:=by
 obtain ⟨_,_,rfl,g⟩:=bm3 h;obtain ⟨rfl⟩:=bB7 g;exact ⟨_,rfl⟩
theorem B4 {us:List Value} (h:us.length=2):∃ a0,∃ a1,us=[a0,a1]:=by
 obtain ⟨_,_,rfl,g⟩:=bm3 h;obtain ⟨_,rfl⟩:=U8 g;exact ⟨_,_,rfl⟩
theorem be6 {us:List Value} (h:us.length=3):∃ a0,∃ a1,∃ a2,us=[a0,a1,a2]:=by
 obtain ⟨_,_,rfl,g⟩:=bm3 h;obtain ⟨_,_,rfl⟩:=B4 g;exact ⟨_,_,_,rfl⟩
theorem bB6 {us:List Value} (h:us.length=4):∃ a0,∃ a1,∃ a2,∃ a3,us=[a0,a1,a2,a3]:=by
 obtain ⟨_,_,rfl,g⟩:=bm3 h;obtain ⟨_,_,_,rfl⟩:=be6 g;exact ⟨_,_,_,_,rfl⟩
theorem by8 {fa f_common_divisor f_plus f_less f_times f_content_of f_cleared f_lifted f_row_behind f_whole_dies f_power_of f_moved f_bound_of f_all_below f__law_low f__law_urn f__law_draw f__law_kind f__law_number f__law_whole f__law_is_number f__law_other f__law_trim f__law_drawn_poly f__law_plus f__law_times f__law_poly_plus f_is_below f__law_below f_middle f_line_of f__law_which f__law_less f__law_over f__law_sign f__law_dies f__law_poly_times f__law_moved f__law_said f__law_is_line f__law_above f__law_drawn_known f_law:Addr} {C_NoFraction C_NoPolynomial C_NoStretch C_NoRow C_NoPair C_NoBack C_NoForm C_NoParts C_NoDegree C_NoSteps C_NoBox C_NoGain C_NoText C_NoLine C_NoName C_NoDeed C_RestError:Addr} {t_SHORT:Tok} {A_ONE:Addr} {td_ONE:Option Addr} {ts_ONE:Array (Option Value)} {tn_ONE:Nat} {tt0_ONE tt1_ONE:Tok}
  (X:K.In h) (G:h.Ns mainGlobals mg) (hfa:mg "law" = some (.ref fa))
  (g_common_divisor:Gd K "common_divisor" D6 f_common_divisor)
  (g_plus:Gd K "plus" aB4 f_plus)
  (g_less:Gd K "less" aB5 f_less)
  (g_times:Gd K "times" ap0 f_times)
  (g_content_of:Gd K "content_of" N7 f_content_of)
  (g_cleared:Gd K "cleared" U6 f_cleared)
  (g_lifted:Gd K "lifted" aa6 f_lifted)
  (g_row_behind:Gd K "row_behind" G5 f_row_behind)
  (g_whole_dies:Gd K "whole_dies" G4 f_whole_dies)
  (g_power_of:Gd K "power_of" W7 f_power_of)
  (g_moved:Gd K "moved" ap1 f_moved)
  (g_bound_of:Gd K "bound_of" W9 f_bound_of)
  (g_all_below:Gd K "all_below" M3 f_all_below)
  (g__law_low:Gd K "_law_low" Y0 f__law_low)
  (g__law_urn:Gd K "_law_urn" X8 f__law_urn)
  (g__law_draw:Gd K "_law_draw" T7 f__law_draw)
  (g__law_kind:Gd K "_law_kind" T6 f__law_kind)
  (g__law_number:Gd K "_law_number" L6 f__law_number)
  (g__law_whole:Gd K "_law_whole" N8 f__law_whole)
  (g__law_is_number:Gd K "_law_is_number" D8 f__law_is_number)
  (g__law_other:Gd K "_law_other" O1 f__law_other)
  (g__law_trim:Gd K "_law_trim" R0 f__law_trim)
  (g__law_drawn_poly:Gd K "_law_drawn_poly" z7 f__law_drawn_poly)
  (g__law_plus:Gd K "_law_plus" R7 f__law_plus)
  (g__law_times:Gd K "_law_times" O0 f__law_times)
  (g__law_poly_plus:Gd K "_law_poly_plus" D7 f__law_poly_plus)
  (g_is_below:Gd K "is_below" W8 f_is_below)
  (g__law_below:Gd K "_law_below" O3 f__law_below)
  (g_middle:Gd K "middle" ai4 f_middle)
  (g_line_of:Gd K "line_of" ad1 f_line_of)
  (g__law_which:Gd K "_law_which" N9 f__law_which)
  (g__law_less:Gd K "_law_less" S9 f__law_less)
  (g__law_over:Gd K "_law_over" R9 f__law_over)
  (g__law_sign:Gd K "_law_sign" R5 f__law_sign)
  (g__law_dies:Gd K "_law_dies" C8 f__law_dies)
  (g__law_poly_times:Gd K "_law_poly_times" C5 f__law_poly_times)
  (g__law_moved:Gd K "_law_moved" O2 f__law_moved)
  (g__law_said:Gd K "_law_said" R6 f__law_said)
  (g__law_is_line:Gd K "_law_is_line" C7 f__law_is_line)
  (g__law_above:Gd K "_law_above" O4 f__law_above)
  (g__law_drawn_known:Gd K "_law_drawn_known" B8 f__law_drawn_known)
  (g_law:Gd K "law" aq9 f_law)
  (z_ValueError:j0e K mainGlobals "ValueError" = some none)
  (z_abs:j0e K mainGlobals "abs" = some none)
  (z_all:j0e K mainGlobals "all" = some none)
  (z_bool:j0e K mainGlobals "bool" = some none)
  (z_enumerate:j0e K mainGlobals "enumerate" = some none)
  (z_int:j0e K mainGlobals "int" = some none)
  (z_isinstance:j0e K mainGlobals "isinstance" = some none)
  (z_len:j0e K mainGlobals "len" = some none)
  (z_list:j0e K mainGlobals "list" = some none)
  (z_max:j0e K mainGlobals "max" = some none)
  (z_min:j0e K mainGlobals "min" = some none)
  (z_range:j0e K mainGlobals "range" = some none)
  (z_reversed:j0e K mainGlobals "reversed" = some none)
  (z_tuple:j0e K mainGlobals "tuple" = some none)
  (z_zip:j0e K mainGlobals "zip" = some none)
  (y_SHORT:j0e K mainGlobals "SHORT" = some (some (.int 6000 t_SHORT)))
  (y_ONE:j0e K mainGlobals "ONE" = some (some (.ref A_ONE)))
  (u_ONE:K.lookup A_ONE=some ⟨.type "tuple",td_ONE,.seq #[.int 1 tt0_ONE,.int 1 tt1_ONE] tn_ONE,ts_ONE⟩)
  (h_NoFraction:Gx K "NoFraction" C_NoFraction)
  (h_NoPolynomial:Gx K "NoPolynomial" C_NoPolynomial)
  (h_NoStretch:Gx K "NoStretch" C_NoStretch)
  (h_NoRow:Gx K "NoRow" C_NoRow)
  (h_NoPair:Gx K "NoPair" C_NoPair)
  (h_NoBack:Gx K "NoBack" C_NoBack)
  (h_NoForm:Gx K "NoForm" C_NoForm)
  (h_NoParts:Gx K "NoParts" C_NoParts)
  (h_NoDegree:Gx K "NoDegree" C_NoDegree)
  (h_NoSteps:Gx K "NoSteps" C_NoSteps)
  (h_NoBox:Gx K "NoBox" C_NoBox)
  (h_NoGain:Gx K "NoGain" C_NoGain)
  (h_NoText:Gx K "NoText" C_NoText)
  (h_NoLine:Gx K "NoLine" C_NoLine)
  (h_NoName:Gx K "NoName" C_NoName)
  (h_NoDeed:Gx K "NoDeed" C_NoDeed)
  (h_RestError:Gx K "RestError" C_RestError)
  (kt_NoPolynomial:bz6 K (⟨C_NoFraction,C_NoPolynomial,C_NoStretch,C_NoRow,C_NoPair,C_NoBack,C_NoForm,C_NoParts,C_NoDegree,C_NoSteps,C_NoBox,C_NoGain,C_NoText,C_NoLine,C_NoName,C_NoDeed,C_RestError⟩:CAd) C_NoPolynomial 1) :
  ∃ fd:FuncData,(∀ (s:Shared) (v:Value),BindsTo s fd ⟨[v],[]⟩ [("_law_script",v)])/\∀ base:Heap,K.In base->base.Ns mainGlobals mg->ak5 l.prog w K mg base CX0 6 fa fd ["_law_script"] (aQ0 K):=by
 have e:=hfa.symm.trans (v0z X G g_law.a)
 cases e
 obtain ⟨_,F_law⟩:=g_law.F;obtain ⟨oc,od,kV,doc,pm,an,cdv,ct,osl,rfl,_,_⟩:=F_law.ex;have d_common_divisor:Df K mg "common_divisor" D6 ["one","other"] f_common_divisor:=g_common_divisor.df X G λ_ _ _ _ _ _ us hl=>by obtain ⟨_,_,rfl⟩:=B4 hl;rfl
 have d_plus:Df K mg "plus" aB4 ["one","other"] f_plus:=g_plus.df X G λ_ _ _ _ _ _ us hl=>by obtain ⟨_,_,rfl⟩:=B4 hl;rfl
 have d_less:Df K mg "less" aB5 ["one","other"] f_less:=g_less.df X G λ_ _ _ _ _ _ us hl=>by obtain ⟨_,_,rfl⟩:=B4 hl;rfl
 have d_times:Df K mg "times" ap0 ["one","other"] f_times:=g_times.df X G λ_ _ _ _ _ _ us hl=>by obtain ⟨_,_,rfl⟩:=B4 hl;rfl
 have d_content_of:Df K mg "content_of" N7 ["wholes"] f_content_of:=g_content_of.df X G λ_ _ _ _ _ _ us hl=>by obtain ⟨_,rfl⟩:=U8 hl;rfl
 have d_cleared:Df K mg "cleared" U6 ["numbers"] f_cleared:=g_cleared.df X G λ_ _ _ _ _ _ us hl=>by obtain ⟨_,rfl⟩:=U8 hl;rfl
 have d_lifted:Df K mg "lifted" aa6 ["p"] f_lifted:=g_lifted.df X G λ_ _ _ _ _ _ us hl=>by obtain ⟨_,rfl⟩:=U8 hl;rfl
 have d_row_behind:Df K mg "row_behind" G5 ["row","further","divisor"] f_row_behind:=g_row_behind.df X G λ_ _ _ _ _ _ us hl=>by obtain ⟨_,_,_,rfl⟩:=be6 hl;rfl
 have d_whole_dies:Df K mg "whole_dies" G4 ["wholes"] f_whole_dies:=g_whole_dies.df X G λ_ _ _ _ _ _ us hl=>by obtain ⟨_,rfl⟩:=U8 hl;rfl
 have d_power_of:Df K mg "power_of" W7 ["whole","many"] f_power_of:=g_power_of.df X G λ_ _ _ _ _ _ us hl=>by obtain ⟨_,_,rfl⟩:=B4 hl;rfl
 have d_moved:Df K mg "moved" ap1 ["wholes","step"] f_moved:=g_moved.df X G λ_ _ _ _ _ _ us hl=>by obtain ⟨_,_,rfl⟩:=B4 hl;rfl
 have d_bound_of:Df K mg "bound_of" W9 ["wholes"] f_bound_of:=g_bound_of.df X G λ_ _ _ _ _ _ us hl=>by obtain ⟨_,rfl⟩:=U8 hl;rfl
 have d_all_below:Df K mg "all_below" M3 ["wholes","number"] f_all_below:=g_all_below.df X G λ_ _ _ _ _ _ us hl=>by obtain ⟨_,_,rfl⟩:=B4 hl;rfl
 have d__law_low:Df K mg "_law_low" Y0 ["_law_top","_law_bottom"] f__law_low:=g__law_low.df X G λ_ _ _ _ _ _ us hl=>by obtain ⟨_,_,rfl⟩:=B4 hl;rfl
 have d__law_urn:Df K mg "_law_urn" X8 ["_law_script","_law_at"] f__law_urn:=g__law_urn.df X G λ_ _ _ _ _ _ us hl=>by obtain ⟨_,_,rfl⟩:=B4 hl;rfl
 have d__law_draw:Df K mg "_law_draw" T7 ["_law_urn_here","_law_many"] f__law_draw:=g__law_draw.df X G λ_ _ _ _ _ _ us hl=>by obtain ⟨_,_,rfl⟩:=B4 hl;rfl
 have d__law_kind:Df K mg "_law_kind" T6 ["_law_urn_here"] f__law_kind:=g__law_kind.df X G λ_ _ _ _ _ _ us hl=>by obtain ⟨_,rfl⟩:=U8 hl;rfl
 have d__law_number:Df K mg "_law_number" L6 ["_law_urn_here","_law_kind_here"] f__law_number:=g__law_number.df X G λ_ _ _ _ _ _ us hl=>by obtain ⟨_,_,rfl⟩:=B4 hl;rfl
 have d__law_whole:Df K mg "_law_whole" N8 ["_law_thing"] f__law_whole:=g__law_whole.df X G λ_ _ _ _ _ _ us hl=>by obtain ⟨_,rfl⟩:=U8 hl;rfl
 have d__law_is_number:Df K mg "_law_is_number" D8 ["_law_thing"] f__law_is_number:=g__law_is_number.df X G λ_ _ _ _ _ _ us hl=>by obtain ⟨_,rfl⟩:=U8 hl;rfl
 have d__law_other:Df K mg "_law_other" O1 ["_law_urn_here","_law_kind_here"] f__law_other:=g__law_other.df X G λ_ _ _ _ _ _ us hl=>by obtain ⟨_,_,rfl⟩:=B4 hl;rfl
 have d__law_trim:Df K mg "_law_trim" R0 ["_law_numbers"] f__law_trim:=g__law_trim.df X G λ_ _ _ _ _ _ us hl=>by obtain ⟨_,rfl⟩:=U8 hl;rfl
 have d__law_drawn_poly:Df K mg "_law_drawn_poly" z7 ["_law_urn_here","_law_kind_here","_law_most"] f__law_drawn_poly:=g__law_drawn_poly.df X G λ_ _ _ _ _ _ us hl=>by obtain ⟨_,_,_,rfl⟩:=be6 hl;rfl
 have d__law_plus:Df K mg "_law_plus" R7 ["_law_one","_law_other_here"] f__law_plus:=g__law_plus.df X G λ_ _ _ _ _ _ us hl=>by obtain ⟨_,_,rfl⟩:=B4 hl;rfl
 have d__law_times:Df K mg "_law_times" O0 ["_law_one","_law_other_here"] f__law_times:=g__law_times.df X G λ_ _ _ _ _ _ us hl=>by obtain ⟨_,_,rfl⟩:=B4 hl;rfl
 have d__law_poly_plus:Df K mg "_law_poly_plus" D7 ["_law_p","_law_q"] f__law_poly_plus:=g__law_poly_plus.df X G λ_ _ _ _ _ _ us hl=>by obtain ⟨_,_,rfl⟩:=B4 hl;rfl
 have d_is_below:Df K mg "is_below" W8 ["one","other"] f_is_below:=g_is_below.df X G λ_ _ _ _ _ _ us hl=>by obtain ⟨_,_,rfl⟩:=B4 hl;rfl
 have d__law_below:Df K mg "_law_below" O3 ["_law_one","_law_other_here"] f__law_below:=g__law_below.df X G λ_ _ _ _ _ _ us hl=>by obtain ⟨_,_,rfl⟩:=B4 hl;rfl
 have d_middle:Df K mg "middle" ai4 ["one","other"] f_middle:=g_middle.df X G λ_ _ _ _ _ _ us hl=>by obtain ⟨_,_,rfl⟩:=B4 hl;rfl
 have d_line_of:Df K mg "line_of" ad1 ["p","hair"] f_line_of:=g_line_of.df X G λ_ _ _ _ _ _ us hl=>by obtain ⟨_,_,rfl⟩:=B4 hl;rfl
 have d__law_which:Df K mg "_law_which" N9 ["_law_e"] f__law_which:=g__law_which.df X G λ_ _ _ _ _ _ us hl=>by obtain ⟨_,rfl⟩:=U8 hl;rfl
 have d__law_less:Df K mg "_law_less" S9 ["_law_one","_law_other_here"] f__law_less:=g__law_less.df X G λ_ _ _ _ _ _ us hl=>by obtain ⟨_,_,rfl⟩:=B4 hl;rfl
 have d__law_over:Df K mg "_law_over" R9 ["_law_one","_law_other_here"] f__law_over:=g__law_over.df X G λ_ _ _ _ _ _ us hl=>by obtain ⟨_,_,rfl⟩:=B4 hl;rfl
 have d__law_sign:Df K mg "_law_sign" R5 ["_law_number_here"] f__law_sign:=g__law_sign.df X G λ_ _ _ _ _ _ us hl=>by obtain ⟨_,rfl⟩:=U8 hl;rfl
 have d__law_dies:Df K mg "_law_dies" C8 ["_law_p"] f__law_dies:=g__law_dies.df X G λ_ _ _ _ _ _ us hl=>by obtain ⟨_,rfl⟩:=U8 hl;rfl
 have d__law_poly_times:Df K mg "_law_poly_times" C5 ["_law_p","_law_q"] f__law_poly_times:=g__law_poly_times.df X G λ_ _ _ _ _ _ us hl=>by obtain ⟨_,_,rfl⟩:=B4 hl;rfl
 have d__law_moved:Df K mg "_law_moved" O2 ["_law_p","_law_number_here"] f__law_moved:=g__law_moved.df X G λ_ _ _ _ _ _ us hl=>by obtain ⟨_,_,rfl⟩:=B4 hl;rfl
 have d__law_said:Df K mg "_law_said" R6 ["_law_p","_law_hair"] f__law_said:=g__law_said.df X G λ_ _ _ _ _ _ us hl=>by obtain ⟨_,_,rfl⟩:=B4 hl;rfl
 have d__law_is_line:Df K mg "_law_is_line" C7 ["_law_p","_law_most","_law_hair","_law_said_here"] f__law_is_line:=g__law_is_line.df X G λ_ _ _ _ _ _ us hl=>by obtain ⟨_,_,_,_,rfl⟩:=bB6 hl;rfl
 have d__law_above:Df K mg "_law_above" O4 ["_law_urn_here","_law_kind_here"] f__law_above:=g__law_above.df X G λ_ _ _ _ _ _ us hl=>by obtain ⟨_,_,rfl⟩:=B4 hl;rfl
 have d__law_drawn_known:Df K mg "_law_drawn_known" B8 ["_law_urn_here","_law_kind_here"] f__law_drawn_known:=g__law_drawn_known.df X G λ_ _ _ _ _ _ us hl=>by obtain ⟨_,_,rfl⟩:=B4 hl;rfl
 have n_ValueError:=z0v X G z_ValueError;have n_abs:=z0v X G z_abs;have n_all:=z0v X G z_all;have n_bool:=z0v X G z_bool;have n_enumerate:=z0v X G z_enumerate;have n_int:=z0v X G z_int;have n_isinstance:=z0v X G z_isinstance;have n_len:=z0v X G z_len;have n_list:=z0v X G z_list;have n_max:=z0v X G z_max;have n_min:=z0v X G z_min;have n_range:=z0v X G z_range;have n_reversed:=z0v X G z_reversed;have n_tuple:=z0v X G z_tuple;have n_zip:=z0v X G z_zip;have c_SHORT:=v0z X G y_SHORT;have c_ONE:=v0z X G y_ONE;have t_ONE:∀ H:Hp,SqT K H A_ONE [.int 1,.int 1]:=λH=>.inr ⟨_,_,_,u_ONE,rfl,rfl,(show 2<=sizeLine by decide),(.cons ⟨_,rfl⟩ (.cons ⟨_,rfl⟩ .nil))⟩
 have X_NoFraction:=h_NoFraction.t X G;have X_NoPolynomial:=h_NoPolynomial.t X G;have X_NoStretch:=h_NoStretch.t X G;have X_NoRow:=h_NoRow.t X G;have X_NoPair:=h_NoPair.t X G;have X_NoBack:=h_NoBack.t X G;have X_NoForm:=h_NoForm.t X G;have X_NoParts:=h_NoParts.t X G;have X_NoDegree:=h_NoDegree.t X G;have X_NoSteps:=h_NoSteps.t X G;have X_NoBox:=h_NoBox.t X G;have X_NoGain:=h_NoGain.t X G;have X_NoText:=h_NoText.t X G;have X_NoLine:=h_NoLine.t X G;have X_NoName:=h_NoName.t X G;have X_NoDeed:=h_NoDeed.t X G;have X_RestError:=h_RestError.t X G;have XX:XTx K mg (⟨C_NoFraction,C_NoPolynomial,C_NoStretch,C_NoRow,C_NoPair,C_NoBack,C_NoForm,C_NoParts,C_NoDegree,C_NoSteps,C_NoBox,C_NoGain,C_NoText,C_NoLine,C_NoName,C_NoDeed,C_RestError⟩:CAd):=⟨X_NoFraction,X_NoPolynomial,X_NoStretch,X_NoRow,X_NoPair,X_NoBack,X_NoForm,X_NoParts,X_NoDegree,X_NoSteps,X_NoBox,X_NoGain,X_NoText,X_NoLine,X_NoName,X_NoDeed⟩;refine ⟨v0k "law" "law" (ad7 aq9) (J2 aq9) (c4 aq9) .none kV doc pm an cdv ct,λs v=>.of_eq rfl,λbase _ _=>?_⟩
 have G_common_divisor:=aj3 (P:=l.prog) (w:=w) (base:=base) d_common_divisor ⟨_,c_SHORT⟩ n_abs;have G_plus:=bl4 (P:=l.prog) (w:=w) (base:=base) d_plus G_common_divisor;have G_less:=bl5 (P:=l.prog) (w:=w) (base:=base) d_less G_plus;have G_times:=bc9 (P:=l.prog) (w:=w) (base:=base) d_times G_common_divisor;have G_content_of:=au9 (P:=l.prog) (w:=w) (base:=base) d_content_of G_common_divisor;have G_cleared:=aN4 (P:=l.prog) (w:=w) (base:=base) d_cleared G_common_divisor;have GP_lifted:=aN5 (P:=l.prog) (w:=w) (base:=base) d_lifted G_cleared G_content_of c_ONE t_ONE;have G_row_behind:=au8 (P:=l.prog) (w:=w) (base:=base) d_row_behind n_len n_zip;have G_whole_dies:=au7 (P:=l.prog) (w:=w) (base:=base) d_whole_dies G_row_behind n_min;have G_power_of:=aI1 (P:=l.prog) (w:=w) (base:=base) d_power_of n_range;have G_moved:=bd0 (P:=l.prog) (w:=w) (base:=base) d_moved n_len n_range n_list;have G_bound_of:=aI3 (P:=l.prog) (w:=w) (base:=base) d_bound_of n_len n_range n_max;have G_all_below:=aC5 (P:=l.prog) (w:=w) (base:=base) d_all_below G_power_of G_moved G_whole_dies n_len n_enumerate;have G__law_low:=aI5 (P:=l.prog) (w:=w) (base:=base) d__law_low n_abs;have G__law_urn:=aI4 (P:=l.prog) (w:=w) (base:=base) d__law_urn n_len n_abs;have G__law_draw:=aD3 (P:=l.prog) (w:=w) (base:=base) d__law_draw;have G__law_kind:=aD2 (P:=l.prog) (w:=w) (base:=base) d__law_kind G__law_draw;have G__law_whole:=av0 (P:=l.prog) (w:=w) (base:=base) d__law_whole n_isinstance n_int n_bool;have G__law_is_number:=aj5 (P:=l.prog) (w:=w) (base:=base) d__law_is_number G__law_whole G__law_low n_isinstance n_tuple n_len;have G__law_trim:=aC6 (P:=l.prog) (w:=w) (base:=base) d__law_trim n_list;have G__law_plus:=aC9 (P:=l.prog) (w:=w) (base:=base) d__law_plus G__law_low;have G__law_times:=av2 (P:=l.prog) (w:=w) (base:=base) d__law_times G__law_low;have G__law_poly_plus:=aj4 (P:=l.prog) (w:=w) (base:=base) d__law_poly_plus G__law_plus G__law_trim n_range n_max n_len;have G_is_below:=aI2 (P:=l.prog) (w:=w) (base:=base) d_is_below;have G__law_below:=av4 (P:=l.prog) (w:=w) (base:=base) d__law_below;have G_middle:=aW8 (P:=l.prog) (w:=w) (base:=base) d_middle G_times G_plus;have G_line_of:=aN3 (P:=l.prog) (w:=w) (base:=base) d_line_of GP_lifted G_bound_of G_is_below G_less G_middle G_all_below X_NoPolynomial n_len;have G__law_which:=av1 (P:=l.prog) (w:=w) (base:=base) d__law_which XX n_isinstance n_ValueError;have G__law_less:=aD1 (P:=l.prog) (w:=w) (base:=base) d__law_less G__law_low;have G__law_over:=aD0 (P:=l.prog) (w:=w) (base:=base) d__law_over G__law_low;have GD__law_number:=ao2 (P:=l.prog) (w:=w) (base:=base) d__law_number G__law_draw G__law_low n_int;have GD__law_other:=as0 (P:=l.prog) (w:=w) (base:=base) d__law_other G__law_draw GD__law_number;have GD__law_drawn_poly:=ae2 (P:=l.prog) (w:=w) (base:=base) d__law_drawn_poly G__law_draw GD__law_number GD__law_other n_range;have G__law_sign:=aC7 (P:=l.prog) (w:=w) (base:=base) d__law_sign n_int;have G__law_dies:=aD4 (P:=l.prog) (w:=w) (base:=base) d__law_dies G__law_sign G__law_over G__law_less G__law_times n_range n_len n_zip
 have G__law_poly_times:=ag0 (P:=l.prog) (w:=w) (base:=base) d__law_poly_times G__law_plus G__law_times G__law_trim n_len n_enumerate;have G__law_moved:=av3 (P:=l.prog) (w:=w) (base:=base) d__law_moved G__law_poly_plus G__law_poly_times G__law_trim n_reversed;have G__law_said:=aC8 (P:=l.prog) (w:=w) (base:=base) d__law_said G_line_of G__law_which X_RestError kt_NoPolynomial;have G__law_is_line:=ao1 (P:=l.prog) (w:=w) (base:=base) d__law_is_line G__law_is_number G__law_below G__law_less G__law_moved G__law_dies n_isinstance n_tuple n_len n_all;have G__law_above:=av5 (P:=l.prog) (w:=w) (base:=base) d__law_above GD__law_other n_abs;have G__law_drawn_known:=ae0 (P:=l.prog) (w:=w) (base:=base) d__law_drawn_known G__law_draw GD__law_other GD__law_drawn_poly GD__law_number G__law_above G__law_plus G__law_times G__law_poly_times G__law_below n_range n_len;exact bv2 (P:=l.prog) (w:=w) (base:=base) F_law G__law_urn G__law_draw G__law_kind G__law_drawn_known GD__law_number G__law_said G__law_is_line G__law_less G__law_moved G__law_times n_range n_max n_min n_len n_list
end
theorem bD2 {l:q1k} {q:Program} {loose:List Str} {XP:(Str->Option Value)->Heap->Prop} {YP:World->Heap->Prop} {d:DefRec} {K:Params->q0a} (hn:l.most=some 63) (hdf:d.params.defaults=[])
  (hY:∀ (w:World) (h:Heap),YP w h->(K w.params).In h)
  (F:∀ (w:World) (mg:Str->Option Value) (fa:Addr) (h:Heap),(K w.params).In h->h.Ns mainGlobals mg->mg d.name=some (.ref fa) ->
   ∃ fd:FuncData,(∀ (s:Shared) (u:Value),BindsTo s fd ⟨[u],[]⟩ [("_law_script",u)])/\∀ base:Heap,(K w.params).In base->base.Ns mainGlobals mg->ak5 l.prog w (K w.params) mg base CX0 6 fa fd ["_law_script"] (aQ0 (K w.params))) :
  PySem.W.WalkO q loose XP YP l.row.toRowW d [] (λf vs=>PySem.call f vs) :=
 L2.aP5 (n:=63) (k:=6) (x := "_law_script") (CX:=λ_=>CX0) (sp:=λw=>aQ0 (K w.params)) hn (by decide) hdf ⟨rfl,by decide,by decide⟩ hY F (λ_ _ a ns hl _ hS=>⟨a,ns,rfl,hS,hl,λ_=>rfl⟩) λ_ _ _ _ _ z=>z
end R
local macro_rules | `(tactic|left) => `(tactic|exact ⟨by k_is, _, L2.bx6 (by k_is) (by k_is) (by k_is)⟩)
local macro_rules | `(tactic|right) => `(tactic|exact ⟨by k_is, by k_exc, by (refine ⟨?_, ?_, ?_, ?_, ?_, ?_⟩ <;> first | k_is | kernel_rfl)⟩)
open PySem PySem.W PyProof.Rows
set_option maxRecDepth 100000 in
theorem PySem.Challenge.cw_restward_k52_lines_holds : PySem.Challenge.rw_restward_k52_lines.Holds := by
  w_on;o_law;k_head;(case hw=>w_witness2)
  k_fill
  refine R.bD2 (l:=PySem.Challenge.rw_restward_k52_lines) rfl rfl (λw h Y=>PySem.W.kIn_of Y) ?F
  case F =>
    intro w mg fa h KX G hmg
    refine' R.by8 KX G hmg ?g_common_divisor ?g_plus ?g_less ?g_times ?g_content_of ?g_cleared ?g_lifted ?g_row_behind ?g_whole_dies ?g_power_of ?g_moved ?g_bound_of ?g_all_below ?g__law_low ?g__law_urn ?g__law_draw ?g__law_kind ?g__law_number ?g__law_whole ?g__law_is_number ?g__law_other ?g__law_trim ?g__law_drawn_poly ?g__law_plus ?g__law_times ?g__law_poly_plus ?g_is_below ?g__law_below ?g_middle ?g_line_of ?g__law_which ?g__law_less ?g__law_over ?g__law_sign ?g__law_dies ?g__law_poly_times ?g__law_moved ?g__law_said ?g__law_is_line ?g__law_above ?g__law_drawn_known ?g_law ?z_ValueError ?z_abs ?z_all ?z_bool ?z_enumerate ?z_int ?z_isinstance ?z_len ?z_list ?z_max ?z_min ?z_range ?z_reversed ?z_tuple ?z_zip ?y_SHORT ?y_ONE ?u_ONE ?h_NoFraction ?h_NoPolynomial ?h_NoStretch ?h_NoRow ?h_NoPair ?h_NoBack ?h_NoForm ?h_NoParts ?h_NoDegree ?h_NoSteps ?h_NoBox ?h_NoGain ?h_NoText ?h_NoLine ?h_NoName ?h_NoDeed ?h_RestError ?kt_NoPolynomial
    (case g_common_divisor=>left)
    (case g_plus=>left)
    (case g_less=>left)
    (case g_times=>left)
    (case g_content_of=>left)
    (case g_cleared=>left)
    (case g_lifted=>left)
    (case g_row_behind=>left)
    (case g_whole_dies=>left)
    (case g_power_of=>left)
    (case g_moved=>left)
    (case g_bound_of=>left)
    (case g_all_below=>left)
    (case g__law_low=>left)
    (case g__law_urn=>left)
    (case g__law_draw=>left)
    (case g__law_kind=>left)
    (case g__law_number=>left)
    (case g__law_whole=>left)
    (case g__law_is_number=>left)
    (case g__law_other=>left)
    (case g__law_trim=>left)
    (case g__law_drawn_poly=>left)
    (case g__law_plus=>left)
    (case g__law_times=>left)
    (case g__law_poly_plus=>left)
    (case g_is_below=>left)
    (case g__law_below=>left)
    (case g_middle=>left)
    (case g_line_of=>left)
    (case g__law_which=>left)
    (case g__law_less=>left)
    (case g__law_over=>left)
    (case g__law_sign=>left)
    (case g__law_dies=>left)
    (case g__law_poly_times=>left)
    (case g__law_moved=>left)
    (case g__law_said=>left)
    (case g__law_is_line=>left)
    (case g__law_above=>left)
    (case g__law_drawn_known=>left)
    (case g_law=>left)
    (case z_ValueError=>k_is)
    (case z_abs=>k_is)
    (case z_all=>k_is)
    (case z_bool=>k_is)
    (case z_enumerate=>k_is)
    (case z_int=>k_is)
    (case z_isinstance=>k_is)
    (case z_len=>k_is)
    (case z_list=>k_is)
    (case z_max=>k_is)
    (case z_min=>k_is)
    (case z_range=>k_is)
    (case z_reversed=>k_is)
    (case z_tuple=>k_is)
    (case z_zip=>k_is)
    (case y_SHORT=>k_is)
    (case y_ONE=>k_is);(case u_ONE=>k_is)
    (case h_NoFraction=>right)
    (case h_NoPolynomial=>right)
    (case h_NoStretch=>right)
    (case h_NoRow=>right)
    (case h_NoPair=>right)
    (case h_NoBack=>right)
    (case h_NoForm=>right)
    (case h_NoParts=>right)
    (case h_NoDegree=>right)
    (case h_NoSteps=>right)
    (case h_NoBox=>right)
    (case h_NoGain=>right)
    (case h_NoText=>right)
    (case h_NoLine=>right)
    (case h_NoName=>right)
    (case h_NoDeed=>right)
    (case h_RestError=>right)
    (case kt_NoPolynomial=>(refine ⟨?_,?_,?_,?_,?_,?_,?_,?_,?_,?_,?_,?_,?_,?_,?_,?_,?_,?_,?_⟩ <;> first | kernel_rfl | (refine ⟨?_,?_,?_,?_,?_,?_⟩ <;> first | k_is | kernel_rfl)))
