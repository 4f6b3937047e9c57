import PyProof.Rows.All
import Wide.All
import OpenK.AllK
import Wide.FinOn
import PyProof.EqAt
import PyProof.EqKinds
import PyProof.TupleCall
import KE.KTryMore
import KE.KIsNot
import PyProof.MeetsStr
import PyProof.Rows.RuleM_int
import PyProof.CompFree
import PyProof.WalksEnum
import PyProof.EnumMake
import PyProof.NeKinds
import PyProof.ConsumeWalk
import PyProof.CompMap
import PyProof.Rows.EqBoolInt
import KE.IntBitsLaws
import PyProof.ZipIter
import PyProof.Rows.ZipGen
import PyProof.MinMaxWalk
import PyProof.WalkInts
import PyProof.Rows.CallKwBuiltin
import PyProof.CompUse
import KE.KRevIter
import PyProof.Rows.Range3
import PyProof.NsDelKeeps
import PyProof.SumAny
import PyProof.TupleIter
import PyProof.WalksMore
import PyProof.ListRange
import PyProof.CollectStr
import PyProof.TupleOfStr
import PySem.Challenge.RW_restward_k34_tables_and_polynomials
open PySem.W renaming Frag→q0a,kitOne→z0e,mg_none_of→z0k,nsIn→z0u,kia_one→j0j,keepIn→y0b,mg_of→y0u,fnOf→y0x,hideAll_get→v0a,findIn→v0x,cellsFrom_some→u0b,methodObj→g0g,instObj→g0y,hideAll→g0z,OpenLaw→m0a,lookIn→m0j,codeIn→m0k,excIn→m0r
open Nat renaming lt_of_lt_of_le→q0b,le_refl→q0h,ne_of_lt→q0m,le_trans→q0q,lt_of_le_of_lt→q0s,mul_lt_mul''→z0g,zero_le→z0n,pow_add→z0p,mul_pos→z0s,lt_succ_self→j0f,le_succ→j0k,lt_irrefl→j0p,le_add_right→y0a,le_of_lt→y0d,ne_of_gt→y0e,pow_le_pow_right→y0h,mul_le_mul_left→y0m,lt_succ_of_lt→y0v,mul_le_mul→y0w,mul_succ→y0z,le_mul_of_pos_left→v0f,mul_comm→v0u,lcm→u0g,succ_mul→u0q,mul_le_mul_right→u0w,pow_lt_pow_right→u0y,eq_zero_or_pos→g0c,add_sub_cancel→g0d,le_of_dvd→g0f,lt_or_ge→g0s,le_mul_of_pos_right→g0v,two_pow_pos→m0c,pow_pos→m0g,mul_assoc→m0t,pow_le_pow_left→m0v,add_comm→m0w,pow_succ→m0z,Coprime→q1a,pow_mul→q1c,mul_add→q1d
open PySem.Heap renaming lt_size→q0c,get?_push_of_some→q0e,get?_push_size→z0a,size_push→z0m,SameBut→y0q,IsTuple→y0r,get?_update_other→m0d,get?_update_self→m0m,FlyingW→m0x
open List renaming mem_append_right→q0d,getElem?_eq_some_iff→q0f,length_map→q0g,getElem?_eq_getElem→q0j,size_toArray→q0k,mem_cons_of_mem→q0r,replicate→q0t,mem_singleton→q0u,mem_of_getElem?→q0v,mem_cons_self→q0x,getElem?_map→z0c,mem_cons→z0d,length_take→z0f,Nodup→z0q,mem_append→z0r,range→z0w,getElem?_eq_none→z0x,filterMap_cons→z0y,length_append→j0a,map_cons→j0d,mem_or_eq_of_mem_set→j0g,mem_map→j0q,map_append→j0r,length_replicate→j0t,length_singleton→j0u,length_cons→j0v,nodup_cons→j0y,mem_iff_getElem?→y0c,length_set→y0f,flatten_cons→y0j,getElem?_replicate→y0k,lookup_cons→y0y,replicate_succ→v0b,getElem?_cons_succ→v0c,length_range→v0h,length_drop→v0m,take_length→v0n,getElem?_append_right→v0p,length_pos_iff→v0r,range_succ→v0s,mem_range→v0w,forIn_nil→v0z,getElem?_set_self→u0a,take_of_length_le→u0e,mem_append_left→u0j,getElem?_set_ne→u0k,append_nil→u0n,of_mem_zip→u0p,mem_of_mem_take→u0t,replicate_succ'→u0x,take_succ→u0z,mem_filterMap→g0b,all_cons→g0e,getElem?_eq_none_iff→g0k,getElem?_append_left→g0m,getElem?_zip_eq_some→g0n,all_eq_true→g0p,not_mem_nil→g0t,mem_flatten→g0u,getElem?_cons_zero→g0x,range_succ_eq_map→m0e,mem_of_mem_drop→m0p
open Bool renaming false_ne_true→q0p,and_eq_true→j0n,not_eq_true'→v0g,eq_iff_iff→u0m,or_eq_true→m0b
open Int renaming gcd→q0w,natAbs_natCast→q0y,natAbs_mul→z0j,natCast_mul→j0m,dvd_mul_left→j0w,gcd_dvd_right→j0x,gcd_dvd_left→j0z,gcd_eq_natAbs_gcd_natAbs→y0n,fmod_nonneg_of_pos→y0p,fmod_lt_of_pos→v0d,natAbs→v0e,natAbs_dvd_natAbs→v0j,natAbs_neg→v0k,dvd_trans→v0q,lt_or_le→v0v,mul_nonneg→v0y,mul_neg→u0c,mul_pos→u0d,toNat→u0h,mul_comm→u0r,le_of_lt→u0s,mul_ne_zero→u0u,natAbs_add_le→g0h,toNat_natCast→g0j,gcd_comm→g0q,ne_of_gt→g0r,natCast_dvd_natCast→g0w,mul_assoc→m0s,zero_sub→m0y
open Or renaming inl→q0z,inr→j0b
open Rat renaming divInt→z0b,num_divInt_den→z0h,mul_inv_cancel→z0t,intCast_mul→z0v,div_def→z0z,intCast_neg→j0c,intCast_add→j0e,divInt_eq_div→j0h,intCast_sub→j0s,divInt_eq_divInt_iff→y0g,divInt_mul_divInt→y0s,intCast_inj→y0t,neg_num→u0f,mul_eq_zero→u0v,neg_den→g0a,one_mul→m0f,mul_one→m0h,divInt_add_divInt→m0n,divInt_mul_right→m0q,inv_def→q1b
open Option renaming isSome_iff_exists→v0t
open Array renaming length_toList→m0u
set_option Elab.async false
set_option linter.all false
local macro_rules | `(def $i:declId $s:optDeclSig $v:declVal) => `(noncomputable def $i:declId $s:optDeclSig $v:declVal)
local macro_rules | `(abbrev $i:declId $s:optDeclSig $v:declVal) => `(noncomputable abbrev $i:declId $s:optDeclSig $v:declVal)
local macro_rules | `(⋯) => `(by omega)
set_option maxHeartbeats 0
noncomputable section
-- CHANGE: your row's module here,as the last of these rows
set_option maxRecDepth 100000
namespace L2
open PySem PySem.Spec PyProof.Rows
abbrev Key:=Sum Int Str
def bh6:Key->Value->Bool
 | .inl k,v=>Value.isInt k v
 | .inr x,v=>Value.isStrOf x v
def br8 (w:World):Key->Int
 | .inl k=>hashInt k
 | .inr x=>hashStr w x
theorem F4:∀ {k:Key} {v:Value},bh6 k v=true->(∃ i t,k=Sum.inl i/\v=Value.int i t) \/ (∃ x t,k=Sum.inr x/\v=Value.str x t)
 | .inl i,v,h=>by
  obtain ⟨t,e⟩:=Value.isInt_shape (k:=i) (v:=v) h;exact .inl ⟨i,t,rfl,e⟩
 | .inr x,v,h=>by
  obtain ⟨t,e⟩:=Value.isStrOf_shape (x:=x) (v:=v) h;exact .inr ⟨x,t,rfl,e⟩
theorem bl6 (a b:Int):decide ((Sum.inl a:Key)=Sum.inl b)=(a == b):=by
 by_cases e:a=b
 ·subst e;simp
 ·have h:¬ (Sum.inl a:Key)=Sum.inl b:=λq=>e (Sum.inl.inj q)
  rw [decide_eq_false h];exact (beq_eq_false_iff_ne.mpr e).symm
theorem bl3 (a b:Str):decide ((Sum.inr a:Key)=Sum.inr b)=decide (a=b):=by
 by_cases e:a=b
 ·subst e;simp
 ·have h:¬ (Sum.inr a:Key)=Sum.inr b:=λq=>e (Sum.inr.inj q)
  rw [decide_eq_false h,decide_eq_false e]
theorem bl5 (a:Int) (b:Str):decide ((Sum.inl a:Key)=Sum.inr b)=false:=decide_eq_false (λq=>nomatch q)
theorem bl4 (a:Str) (b:Int):decide ((Sum.inr a:Key)=Sum.inl b)=false:=decide_eq_false (λq=>nomatch q)
def aF2 (prog:Program) (w:World):PySem.KeyKind prog w Key where
 is:=bh6
 hash:=br8 w
 inj:=λv a b ha hb=>by
  rcases F4 ha with ⟨i,t,rfl,rfl⟩ | ⟨x,t,rfl,rfl⟩
  ·rcases F4 hb with ⟨j,u,rfl,e⟩ | ⟨y,u,rfl,e⟩
   ·injection e with e1 _;rw [e1]
   ·exact nomatch e
  ·rcases F4 hb with ⟨j,u,rfl,e⟩ | ⟨y,u,rfl,e⟩
   ·exact nomatch e
   ·injection e with e1 _;rw [e1]
 byValue:=λk v h=>by
  rcases F4 h with ⟨i,t,rfl,rfl⟩ | ⟨x,t,rfl,rfl⟩ <;> rfl
 pyHash:=λhv h=>by
  rcases F4 hv with ⟨i,t,rfl,rfl⟩ | ⟨x,t,rfl,rfl⟩
  ·exact wpAny_pyHash_int h
  ·exact wpAny_pyHash_str h
 eqBool:=λhu hv h=>by
  rcases F4 hu with ⟨i,t,rfl,rfl⟩ | ⟨x,t,rfl,rfl⟩
  ·rcases F4 hv with ⟨j,u,rfl,rfl⟩ | ⟨y,u,rfl,rfl⟩
   ·rw [bl6] at h;exact wpAny_eqBool_int h
   ·rw [bl5] at h;exact SeqAt.EqAt.int_str i t y u _ _ _ _ h
  ·rcases F4 hv with ⟨j,u,rfl,rfl⟩ | ⟨y,u,rfl,rfl⟩
   ·rw [bl4] at h;exact SeqAt.EqAt.str_int x t j u _ _ _ _ h
   ·rw [bl3] at h;exact wpAny_eqBool_str h
 «strs» := λk x t v h=>by
  rcases F4 h with ⟨i,u,rfl,e⟩ | ⟨y,u,rfl,e⟩
  ·exact nomatch e
  ·injection e with e1 _
   subst e1
   cases v <;> rfl
inductive V where
 | non | bl (b:Bool) | int (i:Int) | str (x:Str) | byt (b:Array UInt8) | flt (b:UInt64) | ref (a:Addr) | ty (n:String)
 deriving DecidableEq
def A5:V->Value->Prop
 | .non,u=>u=Value.none
 | .bl b,u=>u=Value.bool b
 | .int i,u => ∃ t,u=Value.int i t
 | .str x,u => ∃ t,u=Value.str x t
 | .byt b,u => ∃ t,u=Value.bytes b t
 | .flt b,u => ∃ t,u=Value.float b t
 | .ref a,u=>u=Value.ref a
 | .ty n,u=>u=Value.type n
abbrev k9:List V->List Value->Prop:=Paired A5
theorem k9.length {xs:List V} {us:List Value} (r:k9 xs us):xs.length=us.length:=Paired.length r
theorem k9.get:∀ {xs:List V} {us:List Value} {i:Nat} {x:V},k9 xs us->xs[i]? = some x->∃ u,us[i]? = some u/\A5 x u
 | _,_,_,_,.nil,e=>by simp at e
 | _,_,0,_,.cons r _,e=>by simp at e;subst e;exact ⟨_,rfl,r⟩
 | _,_,i+1,x,.cons _ t,e=>by
  obtain ⟨u,h1,h2⟩:=k9.get (i:=i) (x:=x) t (by simpa using e)
  exact ⟨u,by simpa using h1,h2⟩
theorem k9.set {x:V} {u:Value} (r:A5 x u):∀ {xs:List V} {us:List Value} (i:Nat),k9 xs us->k9 (xs.set i x) (us.set i u)
 | _,_,_,.nil=>.nil
 | _,_,0,.cons _ t=>.cons r t
 | _,_,i+1,.cons q t=>.cons q (k9.set r i t)
theorem k9.append:∀ {xs ys:List V} {us ws:List Value},k9 xs us->k9 ys ws->k9 (xs ++ ys) (us ++ ws)
 | _,_,_,_,.nil,s=>s
 | _,_,_,_,.cons r t,s=>.cons r (k9.append t s)
theorem k9.take:∀ {xs:List V} {us:List Value} (n:Nat),k9 xs us->k9 (xs.take n) (us.take n)
 | _,_,0,_=>.nil
 | _,_,_+1,.nil=>.nil
 | _,_,n+1,.cons r t=>.cons r (k9.take n t)
theorem k9.drop:∀ {xs:List V} {us:List Value} (n:Nat),k9 xs us->k9 (xs.drop n) (us.drop n)
 | _,_,0,r=>r
 | _,_,_+1,.nil=>.nil
 | _,_,n+1,.cons _ t=>k9.drop n t
theorem k9.none_of:∀ {xs:List V} {us:List Value} {i:Nat},k9 xs us->xs[i]? = none->us[i]? = none:=fun {xs us i} r e=>by
 have h1:=r.length;have h2:xs.length<=i:=g0k.mp e;exact g0k.mpr ⋯
def bn5:Option V->Option Value->Prop
 | some v,some u=>A5 v u
 | none,none=>True
 | _,_=>False
def KV {κ:Type}:List (κ × V)->List (κ × Value)->Prop:=Paired λ(p:κ × V) (q:κ × Value)=>p.1=q.1/\A5 p.2 q.2
def kV:Key->V
 | .inl i=>.int i
 | .inr x=>.str x
inductive HO where
  | lst (xs:List V)
  | tup (xs:List V)
  | dK (kvs:List (Key × V)) | dT (kvs:List (List Key × V))
  | set (S:Int->Bool) (n:Nat)
  | ins (C dx:Addr) (fs:List (Str × V))
  | own (x:Addr)
  | xd (fs:List (Str × V))
  | met (f x:Addr)
  | rng (lo hi:Int)
  | frz (o:Obj) (u:HO)
  | tbl (ps:Array Value)
  | ext (φ:Heap->Prop)
abbrev Hp:=Addr->Option HO
def upd (H:Hp) (a:Addr) (o:HO):Hp:=λb=>if b=a then some o else H b
theorem b8 {H:Hp} {a:Addr} {o:HO}:upd H a o a=some o:=by unfold upd;rw [if_pos rfl]
theorem d4 {H:Hp} {a b:Addr} {o:HO} (h:b ≠ a):upd H a o b=H b:=by unfold upd;rw [if_neg h]
theorem bh5 {H:Hp} {a b:Addr} {o u:HO} (h:H a=some o) (h':H b=some u) (d:o ≠ u):a ≠ b:=by
 intro e;subst e;rw [h] at h';exact d (Option.some.inj h')
theorem d5 {H:Hp} {a b:Addr} {o:HO} (h:H a=some o) (h':H b=none):a ≠ b:=by
 intro e;subst e;rw [h] at h';cases h'
section
variable (P:Program) (w:World)
def G5 (H:Hp) (h:Heap) (a:Addr):HO->Prop
 | .lst xs=>xs.length<=sizeLine/\∃ (its:List Value) (n:Nat),k9 xs its/\h.get? a=some { cls:=.type "list",data:=.seq its.toArray n }
 | .tup xs=>xs.length<=sizeLine/\∃ its:List Value,k9 xs its/\IsTup h a its.toArray
 | .dK kvs=>kvs.length<=sizeLine/\(a == sysModules)=false/\∃ vs,KV kvs vs/\h.DictOf (aF2 P w) a vs
 | .dT kvs=>kvs.length<=sizeLine/\(a == sysModules)=false/\∃ xs:List (List Key × Addr × Value),
   Paired (λ(p:List Key × V) (q:List Key × Addr × Value)=>p.1=q.1/\H q.2.1=some (.tup (p.1.map kV))/\A5 p.2 q.2.2) kvs xs /\
   ∃ o es ep,h.get? a=some o/\o.ExactDict/\o.data=.dict es ep/\es.toList=xs.map (entryOfKey (tupleKind (aF2 P w)))/\(xs.map (·.1)).Nodup
 | .set S n=>h.SetOf (intKind P w) a S n
 | .ins C dx fs=>H dx=some (.own a)/\fs.length<=1000/\dx ≠ a/\h.get? a=some (g0y C dx) /\
   ∃ mA,h.Ns1 dx mA/\(∀ f,bn5 (fs.lookup f) (mA f))/\PySem.Within mA (fs.map (·.1))
 | .own _ => ∃ o,h.get? a=some o
 | .xd fs => ∃ mA,h.Ns1 a mA/\∀ f,bn5 (fs.lookup f) (mA f)
 | .rng lo hi => ∃ t u v,h.get? a=some { cls:=.type "range",data:=.fields #[.int lo t,.int hi u,.int 1 v] }
 | .frz o u=>h.get? a=some o/\G5 H h a u
 | .tbl ps=>h.get? a=some { cls:=.none,data:=.fields ps }
 | .met f x=>h.get? a=some (g0g (.ref f) (.ref x))
 | .ext φ=>φ h/\(∃ o,h.get? a=some o)/\∀ h1 h2:Heap,φ h1->(∀ o,h1.get? a=some o->h2.get? a=some o)->φ h2
def HOk (H:Hp) (h:Heap):Prop:=∀ a o,H a=some o->G5 P w H h a o
end
section
variable {P:Program} {w:World} {H H':Hp} {h h':Heap} {a:Addr} {o:HO}
theorem G5.lt (x:G5 P w H h a o):a<h.objs.size:=by
 cases o with
 | lst xs=>obtain ⟨_,_,_,_,e⟩:=x;exact q0c e
 | tup xs=>obtain ⟨_,_,_,p⟩:=x;exact p.lt
 | dK kvs=>obtain ⟨_,_,_,_,o,_,_,e,_⟩:=x;exact q0c e
 | dT kvs=>obtain ⟨_,_,_,_,o,_,_,e,_⟩:=x;exact q0c e
 | set S n=>obtain ⟨o,_,_,_,e,_⟩:=x;exact q0c e
 | ins C dx fs=>obtain ⟨_,_,_,e,_⟩:=x;exact q0c e
 | own y=>obtain ⟨_,e⟩:=x;exact q0c e
 | xd fs=>obtain ⟨_,⟨_,_,_,e,_⟩,_⟩:=x;exact q0c e
 | rng lo hi=>obtain ⟨_,_,_,e⟩:=x;exact q0c e
 | frz ob u=>obtain ⟨e,_⟩:=x;exact q0c e
 | tbl ps=>exact q0c (show h.get? a=some _ from x)
 | met f y=>exact q0c (show h.get? a=some _ from x)
 | ext φ=>obtain ⟨_,⟨_,e⟩,_⟩:=x;exact q0c e
theorem Paired.mapP {α β:Type} {F G:α->β->Prop}:∀ {l₁:List α} {l₂:List β},Paired F l₁ l₂->(∀ a b,F a b->G a b)->Paired G l₁ l₂
 | _,_,.nil,_=>.nil
 | _,_,.cons r t,f=>.cons (f _ _ r) (Paired.mapP t f)
theorem G5.stay (x:G5 P w H h a o) (k:∀ b u,(b=a \/ H b=some (.own a))->h.get? b=some u->h'.get? b=some u)
  (ho:∀ b,H b=some (.own a)->H' b=some (.own a)) (ht:∀ b xs,H b=some (.tup xs)->H' b=some (.tup xs)):G5 P w H' h' a o:=by
 induction o with
 | lst xs=>obtain ⟨z,its,n,r,e⟩:=x;exact ⟨z,its,n,r,k _ _ (.inl rfl) e⟩
 | tup xs=>obtain ⟨z,its,r,ob,e,c⟩:=x;exact ⟨z,its,r,ob,k _ _ (.inl rfl) e,c⟩
 | dK kvs=>obtain ⟨z,y,vs,r,ob,es,ep,e,c⟩:=x;exact ⟨z,y,vs,r,ob,es,ep,k _ _ (.inl rfl) e,c⟩
 | dT kvs =>
  obtain ⟨z,y,xs,r,ob,es,ep,e,c⟩:=x;exact ⟨z,y,xs,Paired.mapP r λp q z=>⟨z.1,ht _ _ z.2.1,z.2.2⟩,ob,es,ep,k _ _ (.inl rfl) e,c⟩
 | set S n=>obtain ⟨ob,es,ep,t,e,c⟩:=x;exact ⟨ob,es,ep,t,k _ _ (.inl rfl) e,c⟩
 | ins C dx fs =>
  obtain ⟨d,z,ne,e,mA,⟨od,es,ep,e2,c⟩,r⟩:=x;exact ⟨ho _ d,z,ne,k _ _ (.inl rfl) e,mA,⟨od,es,ep,k _ _ (.inr d) e2,c⟩,r⟩
 | own y=>obtain ⟨ob,e⟩:=x;exact ⟨ob,k _ _ (.inl rfl) e⟩
 | xd fs=>obtain ⟨mA,⟨od,es,ep,e,c⟩,r⟩:=x;exact ⟨mA,⟨od,es,ep,k _ _ (.inl rfl) e,c⟩,r⟩
 | rng lo hi=>obtain ⟨t,u,v,e⟩:=x;exact ⟨t,u,v,k _ _ (.inl rfl) e⟩
 | frz ob u ih=>obtain ⟨e,q⟩:=x;exact ⟨k _ _ (.inl rfl) e,ih q⟩
 | tbl ps =>
  have e:h.get? a=some { cls:=.none,data:=.fields ps }:=x
  show h'.get? a=some { cls:=.none,data:=.fields ps };exact k a _ (.inl rfl) e
 | met f y =>
  have e:h.get? a=some (g0g (.ref f) (.ref y)):=x
  show h'.get? a=some (g0g (.ref f) (.ref y));exact k a _ (.inl rfl) e
 | ext φ=>obtain ⟨p,⟨o,e⟩,st⟩:=x;exact ⟨st _ _ p λo q=>k _ _ (.inl rfl) q,⟨o,k _ _ (.inl rfl) e⟩,st⟩
theorem HOk.lt (x:HOk P w H h) (e:H a=some o):a<h.objs.size:=(x a o e).lt
theorem HOk.fresh (x:HOk P w H h) (e:h.objs.size<=a):H a=none:=by
 cases q:H a with
 | none=>rfl
 | some u=>exact absurd (q0b (x.lt q) e) (j0p _)
theorem HOk.kept (x:HOk P w H h) (k:∀ b u,h.get? b=some u->h'.get? b=some u):HOk P w H h':=λa o e =>
 (x a o e).stay (λb u _ q=>k b u q) (λ_ q=>q) λ_ _ q=>q
theorem HOk.laid (x:HOk P w H h) (k:∀ b u,h.get? b=some u->h'.get? b=some u) (hp:h.objs.size<=a) (new:G5 P w (upd H a o) h' a o):HOk P w (upd H a o) h':=λb u e=>by
 have hn:=x.fresh hp
 by_cases hb:b=a
 ·subst hb;rw [b8] at e;cases e;exact new
 ·rw [d4 hb] at e
  exact (x b u e).stay (λc v _ q=>k c v q) (λc q=>by rw [d4 (d5 q hn)];exact q) λc xs q=>by rw [d4 (d5 q hn)];exact q
end
def Rd (H:Hp) (a:Addr) (u:HO):Prop:=H a=some u \/ ∃ o,H a=some (.frz o u)
theorem Rd.ok {P:Program} {w:World} {H:Hp} {h:Heap} {a:Addr} {u:HO} (r:Rd H a u) (x:HOk P w H h):G5 P w H h a u:=by
 rcases r with r | ⟨o,r⟩
 ·exact x a u r
 ·obtain ⟨_,q⟩:=x a _ r
  exact q
def Mut:Option HO->Prop
 | some (.lst _)=>True
 | some (.dK _)=>True
 | some (.dT _)=>True
 | some (.set _ _)=>True
 | some (.ins _ _ _)=>True
 | some (.ext _)=>True
 | _=>False
section
variable {P:Program} {w:World} {H:Hp} {h h':Heap} {x e:Addr} {o':HO}
theorem HOk.write (ok:HOk P w H h) (mu:Mut (H x)) (he:e=x \/ H e=some (.own x)) (k:∀ b u,b ≠ e->h.get? b=some u->h'.get? b=some u) (heo:∃ u,h'.get? e=some u)
  (new:G5 P w (upd H x o') h' x o'):HOk P w (upd H x o') h':=λb u q=>by
 have nown:∀ c y,H c=some (.own y)->c ≠ x:=λc y r z=>by subst z;rw [r] at mu;exact mu
 have ntup:∀ c xs,H c=some (.tup xs)->c ≠ x:=λc xs r z=>by subst z;rw [r] at mu;exact mu
 by_cases hb:b=x
 ·subst hb;rw [b8] at q;cases q;exact new
 ·rw [d4 hb] at q
  by_cases hbe:b=e
  ·have q':H b=some (.own x):=by
    rcases he with z | z
    ·exact absurd (hbe.trans z) hb
    ·rw [hbe];exact z
   rw [q] at q';cases q';obtain ⟨v,hv⟩:=heo;exact ⟨v,by rw [hbe];exact hv⟩
  ·refine (ok b u q).stay (λc v hc r=>k c v ?_ r) (λc r=>by rw [d4 (nown c b r)];exact r) λc xs r=>by rw [d4 (ntup c xs r)];exact r
   rcases hc with rfl | hc
   ·exact hbe
   ·rintro rfl
    rcases he with z | z
    ·exact nown c b hc z
    ·rw [hc] at z;cases z;exact hb rfl
end
structure Un (fs ex:List Addr) (H H':Hp) (h h':Heap):Prop where
 keep:∀ b o,h.get? b=some o->H b=none->b ∉ fs->b ∉ ex->h'.get? b=some o
 slot:∀ b o,h.get? b=some o->H b=none->b ∈ fs->b ∉ ex->∃ sl,h'.get? b=some { o with slots:=sl }
 free:∀ b o,h.get? b=some o->H b=none->b ∉ ex->H' b=none
 there:∀ b o,h.get? b=some o->b ∉ ex->∃ o',h'.get? b=some o'
 tups:∀ b xs,H b=some (.tup xs)->H' b=some (.tup xs)
 frzs:∀ b o u,H b=some (.frz o u)->H' b=some (.frz o u)
 tbls:∀ b ps,H b=some (.tbl ps)->∃ more,H' b=some (.tbl (ps ++ more))
section
variable {fs fs' ex ex':List Addr} {H H1 H2:Hp} {h h1 h2 h':Heap} {a x e:Addr} {o:HO}
theorem Un.any (u:Un fs ex H H1 h h1) {b:Addr} {ob:Obj} (q:h.get? b=some ob) (n:H b=none) (hx:b ∉ ex):∃ sl,h1.get? b=some { ob with slots:=sl }:=by
 by_cases hb:b ∈ fs
 ·exact u.slot b ob q n hb hx
 ·exact ⟨ob.slots,u.keep b ob q n hb hx⟩
theorem Un.kept (k:∀ b u,h.get? b=some u->h'.get? b=some u):Un fs ex H H h h' :=
 ⟨λb ob q _ _ _=>k b ob q,λb ob q _ _ _=>⟨ob.slots,k b ob q⟩,λ_ _ _ n _=>n,λb ob q _=>⟨ob,k b ob q⟩,λ_ _ q=>q,λ_ _ _ q=>q,λ_ ps q=>⟨#[],by rw [q];simp⟩⟩
theorem Un.refl:Un fs ex H H h h:=Un.kept λ_ _ q=>q
theorem Un.laid (k:∀ b u,h.get? b=some u->h'.get? b=some u) (hp:h.objs.size<=a) (hn:H a=none):Un fs ex H (upd H a o) h h' where
 keep:=λb u q _ _ _=>k b u q
 slot:=λb u q _ _ _=>⟨u.slots,k b u q⟩
 free:=λb u q n _=>by rw [d4 (q0m (q0b (q0c q) hp))];exact n
 there:=λb u q _=>⟨u,k b u q⟩
 tups:=λb xs q=>by rw [d4 (d5 q hn)];exact q
 frzs:=λb u xs q=>by rw [d4 (d5 q hn)];exact q
 tbls:=λb ps q=>⟨#[],by rw [d4 (d5 q hn),q];simp⟩
theorem Un.write (mu:Mut (H x)) (he:e=x \/ H e=some (.own x)) (k:∀ b u,b ≠ e->h.get? b=some u->h'.get? b=some u) (heo:∃ u,h'.get? e=some u):Un fs ex H (upd H x o) h h':=by
 have hx:∀ b,H b=none->b ≠ x:=λb n z=>by subst z;rw [n] at mu;exact mu
 have hb:∀ b,H b=none->b ≠ e:=λb n z=>by
  subst z;rcases he with r | r
  ·exact hx b n r
  ·rw [n] at r;cases r
 have hm:∀ b u,H b=some u->¬ Mut (some u)->b ≠ x:=λb u q nm z=>by subst z;rw [q] at mu;exact nm mu
 refine ⟨λb u q n _ _=>k b u (hb b n) q,λb u q n _ _=>⟨u.slots,k b u (hb b n) q⟩,λb u q n _=>by rw [d4 (hx b n)];exact n,λb u q _=>?_,
  λb xs q=>by rw [d4 (hm b _ q λz=>z)];exact q,λb u xs q=>by rw [d4 (hm b _ q λz=>z)];exact q,λb ps q=>⟨#[],by rw [d4 (hm b _ q λz=>z),q];simp⟩⟩
 by_cases hbe:b=e
 ·subst hbe;exact heo
 ·exact ⟨u,k b u hbe q⟩
end
def trk (h:Heap) (H:Hp):List Addr:=(z0w h.objs.size).filter λa=>(H a).isSome
def aF4 (h:Heap) (H:Hp):Heap:=g0z h (trk h H)
theorem aT5 (h:Heap) (H:Hp):(aF4 h H).objs.size=h.objs.size:=PySem.W.hideAll_size _ _
theorem aZ9 {h:Heap} {H:Hp} {b:Addr} {o:Obj} (e:h.get? b=some o) (n:H b=none):(aF4 h H).get? b=some o :=
 v0a _ e λhm=>by
  have q:(H b).isSome=true:=(List.mem_filter.mp hm).2;rw [n] at q;simp at q
theorem be6 {h:Heap} {H:Hp} {b:Addr} {o:Obj} (e:(aF4 h H).get? b=some o):h.get? b=some o/\H b=none:=by
 have e':h.get? b=some o:=PySem.W.of_hideAll (trk h H) e;refine ⟨e',?_⟩
 cases q:H b with
 | none=>rfl
 | some x =>
  have hm:b ∈ trk h H:=List.mem_filter.mpr ⟨v0w.mpr (q0c e'),by simp [q]⟩
  have z:(aF4 h H).get? b=none:=PySem.W.hideAll_none (trk h H) hm;rw [z] at e;cases e
def bg6 (g h:Heap) (L:Addr):List (Addr × Obj):=(z0w h.objs.size).filterMap λa=>if a=L \/ (g.get? a).isSome=true then none else (h.get? a).map λo=>(a,o)
def aq3 (g h:Heap) (L d:Addr):List (Addr × Obj):=(bg6 g h L).filter λp=>decide (p.1 ≠ d)
structure Mod (K:q0a) (mg:Str->Option Value) (base:Heap):Prop where
 kin:K.In base
 glob:base.Ns mainGlobals mg
 blt:∃ mb,base.Ns builtinsNs mb/\∀ x:Str,x ≠ "__name__"->mb x=bootBuiltins x
 nolimit:base.NoLimit
structure Cx where
 prog:Program
 w:World
 K:q0a
 mg:Str->Option Value
 base:Heap
 A:Around
 N:List Str
 s₀:Shared
 H₀:Hp
 env:Env
 outer:List Env
 stack:List Env
 ex:List Addr
 fn:Str->Bool
 calm:Bool
 pn:List (Addr × Obj)
 xe:Value->Shared->Prop
def frs (l:List Env):List Addr:=l.filterMap (·.frame)
abbrev Cx.fs (X:Cx):List Addr:=frs X.outer
def Vis (sc:Scope) (x:Str):Prop:=sc.names.lookup x=some .local \/ sc.names.lookup x=some .cell \/ sc.names.lookup x=some .free
def Loc (sc:Scope) (x:Str):Prop:=sc.names.lookup x=some .local \/ sc.names.lookup x=some .cell
def br0 (env:Env) (h:Heap) (m:Str->Option Value) (x:Str) (u:Value):Prop :=
 (env.kindOf x=some .local/\m x=some u) \/ ((env.kindOf x=some .cell \/ env.kindOf x=some .free)/\∃ c,env.cells.lookup x=some c/\h.IsCell c (some u))
structure Cx.Ok (X:Cx):Prop where
 mod:Mod X.K X.mg X.base
 kind:X.env.scope.kind=.function
 glob:X.env.globals=mainGlobals
 blt:X.env.builtins=builtinsNs
 above:X.s₀.heap.objs.size<=X.env.locals
 inj:∀ x y c,X.env.cells.lookup x=some c->X.env.cells.lookup y=some c->x=y
 has:∀ x,(X.env.kindOf x=some .cell \/ X.env.kindOf x=some .free)->∃ c,X.env.cells.lookup x=some c
 cab:∀ x c,X.fn x=true->X.env.cells.lookup x=some c->X.s₀.heap.objs.size<=c
 hd:X.calm=true->X.A.handled=none
 frames:X.A.frames=some X.stack
 stk:X.stack=X.outer \/ (X.stack=X.env :: X.outer/\X.env.frame=some X.env.locals)
 exf:∀ b ∈ X.ex,b ≠ X.env.locals/\∀ x c,X.env.cells.lookup x=some c->c ≠ b
 bs:∀ b o,X.base.get? b=some o->X.s₀.heap.get? b=some o/\X.H₀ b=none
 bsz:X.base.objs.size<=X.s₀.heap.objs.size
 noex:∀ b o,X.base.get? b=some o->b ∉ X.ex
 exfs:∀ b ∈ X.ex,b ∉ X.fs
 funs:X.s₀.heap.FunFrames X.base X.outer
 frf:∀ b ∈ X.fs,X.H₀ b=none
structure Inv (X:Cx) (pins:List (Addr × Obj)) (σ:List (Option V)) (H:Hp) (s:Shared):Prop where
 ok:X.Ok
 os:s.os=X.s₀.os
 bare:AllBare s.gens
 base:Un X.fs X.ex X.H₀ H X.s₀.heap s.heap
 loc:∃ m,s.heap.Ns X.env.locals m/\∀ (i:Nat) (x:Str) (v:V),X.N[i]? = some x->σ[i]? = some (some v)->Vis X.env.scope x->∃ u,A5 v u/\br0 X.env s.heap m x u
 cell:∀ x c,X.env.cells.lookup x=some c->∃ v,s.heap.IsCell c v
 free:H X.env.locals=none
 freeC:∀ x c,X.env.cells.lookup x=some c->H c=none
 pin:∀ p ∈ X.pn ++ pins,s.heap.get? p.1=some p.2/\H p.1=none/\p.1 ≠ X.env.locals/\p.1 ∉ X.fs/\∀ v,p.2.data ≠ .cell v
 hok:HOk X.prog X.w H s.heap
 len:σ.length=X.N.length
section
variable {X:Cx} {pins:List (Addr × Obj)} {σ:List (Option V)} {H H':Hp} {s:Shared} {h':Heap}
theorem Cx.Ok.nofr (ok:X.Ok) {b:Addr} {o:Obj} (e:X.base.get? b=some o):b ∉ X.fs:=λhb=>by
 have:=(ok.funs.mem hb).1;rw [e] at this;cases this
theorem Inv.bs (I:Inv X pins σ H s):∀ b o,X.base.get? b=some o->s.heap.get? b=some o/\H b=none:=λb o e =>
 ⟨I.base.keep b o (I.ok.bs b o e).1 (I.ok.bs b o e).2 (I.ok.nofr e) (I.ok.noex b o e),I.base.free b o (I.ok.bs b o e).1 (I.ok.bs b o e).2 (I.ok.noex b o e)⟩
theorem Inv.bk (I:Inv X pins σ H s):∀ b o,X.base.get? b=some o->s.heap.get? b=some o:=λb o e=>(I.bs b o e).1
theorem Inv.mod (I:Inv X pins σ H s):Mod X.K X.mg X.base:=I.ok.mod
theorem Inv.kIn (I:Inv X pins σ H s):X.K.In s.heap:=I.ok.mod.kin.keeps I.bk
theorem Inv.fr (I:Inv X pins σ H s):∃ m,Fr X.base X.env.locals s.heap m :=
 let ⟨m,hn,_⟩:=I.loc
 ⟨m,hn,I.bk,q0q I.ok.bsz I.ok.above⟩
theorem Inv.lt (I:Inv X pins σ H s):X.env.locals<s.heap.objs.size:=let ⟨_,hn,_⟩:=I.loc;hn.lt
theorem Inv.sz (I:Inv X pins σ H s):X.s₀.heap.objs.size<=s.heap.objs.size:=q0q I.ok.above (y0d I.lt)
theorem Inv.nofs (I:Inv X pins σ H s) {a:Addr} (h:s.heap.objs.size<=a):a ∉ X.fs:=λhb=>by
 obtain ⟨_,o,ho,_⟩:=I.ok.funs.mem hb;exact absurd (q0b (q0c ho) (q0q I.sz h)) (j0p _)
theorem Inv.cne (I:Inv X pins σ H s):∀ x c,X.env.cells.lookup x=some c->c ≠ X.env.locals:=λx c e z=>by
 obtain ⟨v,o,ho,hd⟩:=I.cell x c e;obtain ⟨m,⟨o',es,ep,ho',hd',_⟩,_⟩:=I.loc;rw [z,ho'] at ho;cases ho;rw [hd'] at hd;cases hd
theorem Inv.funs (I:Inv X pins σ H s):s.heap.FunFrames X.base X.outer:=by
 have all:∀ (l:List Env),(∀ b ∈ frs l,b ∈ X.fs)->X.s₀.heap.FunFrames X.base l->s.heap.FunFrames X.base l:=by
  intro l
  induction l with
  | nil=>intro _ _;trivial
  | cons env r ih =>
   intro hs hl;obtain ⟨hk,⟨L,o,hf,hn,ho,hd⟩,hr⟩:=hl;have hL:L ∈ X.fs:=hs L (by unfold frs;rw [z0y,hf];exact q0x)
   obtain ⟨sl,e⟩:=I.base.slot L o ho (I.ok.frf L hL) hL λz=>I.ok.exfs L z hL;exact ⟨hk,⟨L,_,hf,hn,e,hd⟩,ih (λb hb=>hs b (by unfold frs;rw [z0y,hf];exact q0r _ hb)) hr⟩
 exact all X.outer (λ_ hb=>hb) I.ok.funs
theorem Inv.stack (I:Inv X pins σ H s):s.heap.FunFrames X.base X.stack:=by
 rcases I.ok.stk with e | ⟨e,hf⟩
 ·rw [e];exact I.funs
 ·rw [e]
  obtain ⟨m,hn,_⟩:=I.loc;refine .cons (by rw [I.ok.kind];decide) hf hn ?_ I.funs
  exact Heap.get?_none_of_le (q0q I.ok.bsz I.ok.above)
theorem Inv.stkSub (I:Inv X pins σ H s):∀ b ∈ frs X.stack,b ∈ X.env.locals :: X.fs:=λb hb=>by
 rcases I.ok.stk with e | ⟨e,hf⟩
 ·rw [e] at hb;exact q0r _ hb
 ·rw [e] at hb
  unfold frs at hb;rw [z0y,hf] at hb;exact hb
theorem Inv.stkFree (I:Inv X pins σ H s):∀ b ∈ frs X.stack,H b=none:=λb hb=>by
 rcases z0d.mp (I.stkSub b hb) with e | hb
 ·rw [e];exact I.free
 ·obtain ⟨_,o,ho,_⟩:=I.ok.funs.mem hb
  exact I.base.free b o ho (I.ok.frf b hb) λz=>I.ok.exfs b z hb
theorem Inv.step {g':Array GenState} {t':Nat} {d':Drawn} {ch:List Addr} (I:Inv X pins σ H s)
  (hch:∀ b ∈ ch,(b ∈ X.ex \/ X.s₀.heap.objs.size<=b)/\b ≠ X.env.locals/\(∀ x c,X.env.cells.lookup x=some c->c ≠ b)/\∀ p ∈ X.pn ++ pins,p.1 ≠ b)
  (keep:∀ b o,b ≠ X.env.locals->b ∉ X.fs->b ∉ ch->s.heap.get? b=some o->H b=none->h'.get? b=some o)
  (slot:∀ b o,b ≠ X.env.locals->b ∈ X.fs->b ∉ ch->s.heap.get? b=some o->H b=none->∃ sl,h'.get? b=some { o with slots:=sl }) (free:∀ b o,b ∉ ch->s.heap.get? b=some o->H b=none->H' b=none)
  (there:∀ b o,b ∉ ch->s.heap.get? b=some o->∃ o',h'.get? b=some o')
  (tups:∀ b xs,H b=some (.tup xs)->H' b=some (.tup xs)) (frzs:∀ b o u,H b=some (.frz o u)->H' b=some (.frz o u)) (tbls:∀ b ps,H b=some (.tbl ps)->∃ more,H' b=some (.tbl (ps ++ more)))
  (ns:∀ m,s.heap.Ns X.env.locals m->h'.Ns X.env.locals m) (hok:HOk X.prog X.w H' h') (hg:AllBare g') :
  Inv X pins σ H' { s with heap:=h',gens:=g',drawn:=d',toks:=t' }:=by
 have neL:∀ b o,X.s₀.heap.get? b=some o->b ≠ X.env.locals:=λb o e=>q0m (q0b (q0c e) I.ok.above)
 have neC:∀ b o,X.s₀.heap.get? b=some o->b ∉ X.ex->b ∉ ch:=λb o e hx hb=>by
  rcases (hch b hb).1 with z | z
  ·exact hx z
  ·exact absurd (q0b (q0c e) z) (j0p _)
 have cellK:∀ x c,X.env.cells.lookup x=some c->∀ v,s.heap.IsCell c v->h'.IsCell c v:=λx c e v ⟨o,ho,hd⟩=>by
  have nch:c ∉ ch:=λz=>(hch c z).2.2.1 x c e rfl
  by_cases hc:c ∈ X.fs
  ·obtain ⟨sl,q⟩:=slot c o (I.cne x c e) hc nch ho (I.freeC x c e)
   exact ⟨_,q,hd⟩
  ·exact ⟨o,keep c o (I.cne x c e) hc nch ho (I.freeC x c e),hd⟩
 refine ⟨I.ok,I.os,hg,⟨λb o e n hb hx=>?_,λb o e n hb hx=>?_,λb o e n hx=>?_,λb o e hx=>?_,λb xs e=>tups b xs (I.base.tups b xs e),λb o xs e=>frzs b o xs (I.base.frzs b o xs e),λb ps e=>?_⟩,?_,λx c e=>?_,?_,λx c e=>?_,λp hp=>?_,hok,I.len⟩
 ·exact keep b o (neL b o e) hb (neC b o e hx) (I.base.keep b o e n hb hx) (I.base.free b o e n hx)
 ·obtain ⟨sl,e1⟩:=I.base.slot b o e n hb hx
  obtain ⟨sl',e2⟩:=slot b _ (neL b o e) hb (neC b o e hx) e1 (I.base.free b o e n hx);exact ⟨sl',e2⟩
 ·obtain ⟨o',e1⟩:=I.base.there b o e hx
  exact free b o' (neC b o e hx) e1 (I.base.free b o e n hx)
 ·obtain ⟨o',e1⟩:=I.base.there b o e hx
  exact there b o' (neC b o e hx) e1
 ·obtain ⟨m1,e1⟩:=I.base.tbls b ps e
  obtain ⟨m2,e2⟩:=tbls b _ e1;exact ⟨m1 ++ m2,by rw [e2,Array.append_assoc]⟩
 ·obtain ⟨m,hn,hl⟩:=I.loc
  refine ⟨m,ns m hn,λi x v e1 e2 e3=>?_⟩;obtain ⟨u,r,l⟩:=hl i x v e1 e2 e3;refine ⟨u,r,?_⟩;rcases l with l | ⟨k,c,e,z⟩
  ·exact .inl l
  ·exact .inr ⟨k,c,e,cellK x c e _ z⟩
 ·obtain ⟨v,z⟩:=I.cell x c e
  exact ⟨v,cellK x c e v z⟩
 ·obtain ⟨m,⟨o,_,_,ho,_⟩,_⟩:=I.loc
  exact free _ o (λz=>(hch _ z).2.1 rfl) ho I.free
 ·obtain ⟨v,o,ho,hd⟩:=I.cell x c e
  exact free c o (λz=>(hch c z).2.2.1 x c e rfl) ho (I.freeC x c e)
 ·obtain ⟨e,n,ne,nf,d⟩:=I.pin p hp
  have nch:p.1 ∉ ch:=λz=>(hch p.1 z).2.2.2 p hp rfl;exact ⟨keep p.1 p.2 ne nf nch e n,free p.1 p.2 nch e n,ne,nf,d⟩
theorem Inv.un {t':Nat} (I:Inv X pins σ H s) (u:Un X.fs [] H H' s.heap h') (hok:HOk X.prog X.w H' h'):Inv X pins σ H' { s with heap:=h',toks:=t' }:=by
 obtain ⟨m,⟨o,es,ep,ho,r⟩,_⟩:=id I.loc;obtain ⟨sl,hL⟩:=u.any ho I.free (by simp)
 exact I.step (g':=s.gens) (d':=s.drawn) (ch:=[]) (λ_ z=>nomatch z) (λb o _ hb _ e n=>u.keep b o e n hb (by simp)) (λb o _ hb _ e n=>u.slot b o e n hb (by simp)) (λb o _ e n=>u.free b o e n (by simp)) (λb o _ e=>u.there b o e (by simp)) u.tups u.frzs u.tbls (λm' hm=>by
  obtain ⟨o',es',ep',ho',r'⟩:=hm;rw [ho] at ho';cases ho';exact ⟨_,es',ep',hL,r'⟩) hok I.bare
theorem Inv.call {g':Array GenState} {t':Nat} {d':Drawn} {ch:List Addr} (I:Inv X pins σ H s) (u:Un (frs X.stack) ch H H' s.heap h') (hok:HOk X.prog X.w H' h') (hg:AllBare g')
  (hch:∀ b ∈ ch,(b ∈ X.ex \/ X.s₀.heap.objs.size<=b)/\b ≠ X.env.locals/\(∀ x c,X.env.cells.lookup x=some c->c ≠ b)/\∀ p ∈ X.pn ++ pins,p.1 ≠ b) :
  Inv X pins σ H' { s with heap:=h',gens:=g',drawn:=d',toks:=t' }:=by
 obtain ⟨m,⟨o,es,ep,ho,r⟩,_⟩:=id I.loc;obtain ⟨sl,hL⟩:=u.any ho I.free λz=>(hch _ z).2.1 rfl
 exact I.step (ch:=ch) hch (λb o hL hb hc e n=>u.keep b o e n (λz=>(z0d.mp (I.stkSub b z)).elim hL hb) hc) (λb o _ _ hc e n=>u.any e n hc) (λb o hc e n=>u.free b o e n hc) (λb o hc e=>u.there b o e hc) u.tups u.frzs u.tbls (λm' hm=>by
  obtain ⟨o',es',ep',ho',r'⟩:=hm;rw [ho] at ho';cases ho';exact ⟨_,es',ep',hL,r'⟩) hok hg
theorem Inv.turned {t':Nat} {it:Addr} (I:Inv X pins σ H s) (k:∀ b o,b ≠ it->s.heap.get? b=some o->h'.get? b=some o) (hn:H it=none) (hL:it ≠ X.env.locals)
  (h1:it ∈ X.ex \/ X.s₀.heap.objs.size<=it) (h2:∀ x c,X.env.cells.lookup x=some c->c ≠ it) (h3:∀ p ∈ X.pn ++ pins,p.1 ≠ it):Inv X pins σ H { s with heap:=h',toks:=t' }:=by
 have nit:∀ b u,H b=some u->b ≠ it:=λb u e z=>by rw [z,hn] at e;cases e
 refine I.step (g':=s.gens) (d':=s.drawn) (ch:=[it]) (λb hb=>?_) (λb o _ _ hc e _=>k b o (λz=>hc (by simp [z])) e) (λb o _ _ hc e _=>⟨o.slots,k b o (λz=>hc (by simp [z])) e⟩) (λ_ _ _ _ n=>n)
  (λb o hc e=>⟨o,k b o (λz=>hc (by simp [z])) e⟩) (λ_ _ e=>e) (λ_ _ _ e=>e) (λb ps e=>⟨#[],by rw [e];simp⟩) (λm hm=>?_) (λb u e=>?_) I.bare
 ·have e:b=it:=by simpa using hb
  subst e;exact ⟨h1,hL,h2,h3⟩
 ·obtain ⟨o,es,ep,ho,r⟩:=hm
  exact ⟨o,es,ep,k _ o (Ne.symm hL) ho,r⟩
 ·refine (I.hok b u e).stay (λc v hc q=>k c v ?_ q) (λ_ q=>q) λ_ _ q=>q
  rcases hc with z | z
  ·rw [z];exact nit b u e
  ·exact nit c _ z
theorem Inv.tok (I:Inv X pins σ H s) (t:Nat):Inv X pins σ H { s with toks:=t }:=I.un (h':=s.heap) (t':=t) Un.refl I.hok
theorem Inv.kept {t':Nat} (I:Inv X pins σ H s) (k:∀ b u,s.heap.get? b=some u->h'.get? b=some u):Inv X pins σ H { s with heap:=h',toks:=t' }:=I.un (Un.kept k) (I.hok.kept k)
theorem Inv.laid {a:Addr} {o:HO} {t':Nat} (I:Inv X pins σ H s) (k:∀ b u,s.heap.get? b=some u->h'.get? b=some u) (hp:s.heap.objs.size<=a) (new:G5 X.prog X.w (upd H a o) h' a o) :
  Inv X pins σ (upd H a o) { s with heap:=h',toks:=t' }:=I.un (Un.laid k hp (I.hok.fresh hp)) (I.hok.laid k hp new)
theorem Inv.write {x e:Addr} {o:HO} {t':Nat} (I:Inv X pins σ H s) (mu:Mut (H x)) (he:e=x \/ H e=some (.own x)) (k:∀ b u,b ≠ e->s.heap.get? b=some u->h'.get? b=some u) (heo:∃ u,h'.get? e=some u)
  (new:G5 X.prog X.w (upd H x o) h' x o):Inv X pins σ (upd H x o) { s with heap:=h',toks:=t' }:=I.un (Un.write mu he k heo) (I.hok.write mu he k heo new)
theorem Inv.weak {σ':List (Option V)} (I:Inv X pins σ H s) (hl:σ'.length=σ.length) (w:∀ (i:Nat) v,σ'[i]? = some (some v)->σ[i]? = some (some v)):Inv X pins σ' H s :=
 ⟨I.ok,I.os,I.bare,I.base,let ⟨m,hn,hl'⟩:=I.loc;⟨m,hn,λi x v e1 e2 e3=>hl' i x v e1 (w i v e2) e3⟩,I.cell,I.free,I.freeC,I.pin,I.hok,hl.trans I.len⟩
theorem Inv.pins_of {pins':List (Addr × Obj)} (I:Inv X pins σ H s) (h:∀ p ∈ pins',s.heap.get? p.1=some p.2/\H p.1=none/\p.1 ≠ X.env.locals/\p.1 ∉ X.fs/\∀ v,p.2.data ≠ .cell v):Inv X pins' σ H s :=
 ⟨I.ok,I.os,I.bare,I.base,I.loc,I.cell,I.free,I.freeC,λp hp=>(z0r.mp hp).elim (λz=>I.pin p (u0j _ z)) (h p),I.hok,I.len⟩
theorem aI4 {N:List Str} (hN:N.Nodup) {i j:Nat} {x:Str} (a:N[i]? = some x) (b:N[j]? = some x):i=j:=by
 obtain ⟨h1,e1⟩:=q0f.mp a;obtain ⟨h2,e2⟩:=q0f.mp b;exact (List.getElem_inj hN).mp (e1.trans e2.symm)
theorem aR9 {M:Model} {A:Around} {E:Value->Shared->Prop} {i:Nat} {x:Str} {v:V} {u:Value} {Q:Unit->Shared->Prop} (I:Inv X pins σ H s) (hN:X.N.Nodup) (hi:X.N[i]? = some x) (hx:Loc X.env.scope x) (r:A5 v u)
  (h:∀ s',Inv X pins (σ.set i (some v)) H s'->(∃ a,y0q a s.heap s'.heap/\(a=X.env.locals \/ X.env.cells.lookup x=some a))->Q () s') (hf:X.fn x=true \/ X.env.scope.names.lookup x=some .local:=by first | exact .inl rfl | exact .inr rfl | assumption):wpAny M A (storeName X.env x u) Q E s:=by
 obtain ⟨m,hn,hl⟩:=id I.loc;have hcls:(X.env.scope.kind == .class || (X.env.scope.kind == .module && X.env.locals != X.env.globals))=false:=by rw [I.ok.kind];rfl
 have hiσ:i<σ.length:=by rw [I.len];exact (q0f.mp hi).1
 have cne:=I.cne
 have tracked:∀ {a:Addr} {h':Heap},(∃ o,s.heap.get? a=some o/\H a=none)->y0q a s.heap h'->HOk X.prog X.w H h':=fun {a h'} ha hs b ob e=>by
  obtain ⟨_,_,hfree⟩:=ha;refine (I.hok b ob e).stay (λc w' hc q=>(hs.2 c ?_).trans q) (λ_ q=>q) λ_ _ q=>q;rintro rfl;rcases hc with rfl | hc
  ·rw [hfree] at e;cases e
  ·rw [hfree] at hc;cases hc
 rcases hx with hk | hk
 ·refine wpAny_storeName_local hk hn (λh' hn' hs=>?_) hcls
  obtain ⟨oL,_,_,hoL,_⟩:=id hn;refine h _ ⟨I.ok,I.os,I.bare,⟨λb o e n hb hx=>?_,λb o e n hb hx=>?_,I.base.free,λb o e hx=>?_,I.base.tups,I.base.frzs,I.base.tbls⟩,⟨_,hn',λj y v' e1 e2 e3=>?_⟩,λy c e=>?_,I.free,I.freeC,λp hp=>?_,tracked ⟨oL,hoL,I.free⟩ hs,by simpa using I.len⟩ ⟨_,hs,.inl rfl⟩
  ·exact (hs.2 b (q0m (q0b (q0c e) I.ok.above))).trans (I.base.keep b o e n hb hx)
  ·obtain ⟨sl,e1⟩:=I.base.slot b o e n hb hx
   exact ⟨sl,(hs.2 b (q0m (q0b (q0c e) I.ok.above))).trans e1⟩
  ·obtain ⟨o',e1⟩:=I.base.there b o e hx
   exact ⟨o',(hs.2 b (q0m (q0b (q0c e) I.ok.above))).trans e1⟩
  ·by_cases hj:j=i
   ·subst hj
    rw [hi] at e1;cases e1;rw [u0a hiσ] at e2
    cases e2
    exact ⟨u,r,.inl ⟨hk,by simp⟩⟩
   ·rw [u0k (Ne.symm hj)] at e2
    obtain ⟨u',r',q⟩:=hl j y v' e1 e2 e3;refine ⟨u',r',?_⟩;rcases q with ⟨k,e⟩ | ⟨k,c,e,z⟩
    ·refine .inl ⟨k,?_⟩
     have:y ≠ x:=λe=>hj (aI4 hN e1 (e ▸ hi))
     simp [this,e]
    ·exact .inr ⟨k,c,e,z.sameBut hs (cne y c e)⟩
  ·obtain ⟨w',z⟩:=I.cell y c e
   exact ⟨w',z.sameBut hs (cne y c e)⟩
  ·obtain ⟨e,n,ne,nf,d⟩:=I.pin p hp
   exact ⟨(hs.2 p.1 ne).trans e,n,ne,nf,d⟩
 ·have hfn:X.fn x=true:=by
   rcases hf with z | z
   ·exact z
   ·rw [z] at hk;cases hk
  obtain ⟨c,hc⟩:=I.ok.has x (.inl hk);obtain ⟨w',z⟩:=I.cell x c hc;refine wpAny_storeName_cell I.ok.kind hk hc z (λh' hc' hs=>?_);obtain ⟨oc,hoc,hocd⟩:=id z;refine h { s with heap:=h' } ⟨I.ok,I.os,I.bare,⟨λb o e n hb hx=>?_,λb o e n hb hx=>?_,I.base.free,λb o e hx=>?_,I.base.tups,I.base.frzs,I.base.tbls⟩,⟨m,hn.sameBut hs (Ne.symm (cne x c hc)),λj y v' e1 e2 e3=>?_⟩,λy c' e=>?_,I.free,I.freeC,λp hp=>?_,tracked ⟨oc,hoc,I.freeC x c hc⟩ hs,by simpa using I.len⟩ ⟨c,hs,.inr hc⟩
  ·exact (hs.2 b (q0m (q0b (q0c e) (I.ok.cab x c hfn hc)))).trans (I.base.keep b o e n hb hx)
  ·obtain ⟨sl,e1⟩:=I.base.slot b o e n hb hx
   exact ⟨sl,(hs.2 b (q0m (q0b (q0c e) (I.ok.cab x c hfn hc)))).trans e1⟩
  ·obtain ⟨o',e1⟩:=I.base.there b o e hx
   exact ⟨o',(hs.2 b (q0m (q0b (q0c e) (I.ok.cab x c hfn hc)))).trans e1⟩
  ·by_cases hj:j=i
   ·subst hj
    rw [hi] at e1;cases e1;rw [u0a hiσ] at e2
    cases e2
    exact ⟨u,r,.inr ⟨.inl hk,c,hc,hc'⟩⟩
   ·rw [u0k (Ne.symm hj)] at e2
    obtain ⟨u',r',q⟩:=hl j y v' e1 e2 e3;refine ⟨u',r',?_⟩;rcases q with q | ⟨k,c',e,z'⟩
    ·exact .inl q
    ·refine .inr ⟨k,c',e,z'.sameBut hs ?_⟩
     rintro rfl;exact hj (aI4 hN e1 (I.ok.inj _ _ _ e hc ▸ hi))
  ·by_cases hcc:c'=c
   ·subst hcc;exact ⟨_,hc'⟩
   ·obtain ⟨w2,z2⟩:=I.cell y c' e
    exact ⟨w2,z2.sameBut hs hcc⟩
  ·obtain ⟨e,n,ne,nf,d⟩:=I.pin p hp
   refine ⟨(hs.2 p.1 ?_).trans e,n,ne,nf,d⟩;intro q;rw [q,hoc] at e;have q':oc=p.2:=Option.some.inj e;exact d w' (by rw [<- q'];exact hocd)
theorem ab2 {M:Model} {A:Around} {E:Value->Shared->Prop} {i:Nat} {x:Str} {v:V} {u:Value} {Q:Unit->Shared->Prop} (I:Inv X pins σ H s) (hN:X.N.Nodup) (hi:X.N[i]? = some x) (hx:Loc X.env.scope x) (r:A5 v u)
  (h:∀ s',Inv X pins (σ.set i (some v)) H s'->Q () s') (hf:X.fn x=true \/ X.env.scope.names.lookup x=some .local:=by first | exact .inl rfl | exact .inr rfl | assumption):wpAny M A (storeName X.env x u) Q E s :=
 aR9 I hN hi hx r (λs' I' _=>h s' I') hf
theorem Inv.call' {s':Shared} {ch:List Addr} (I:Inv X pins σ H s) (ho:s'.os=s.os) (u:Un (frs X.stack) ch H H' s.heap s'.heap) (hok:HOk X.prog X.w H' s'.heap) (hg:AllBare s'.gens)
  (hch:∀ b ∈ ch,(b ∈ X.ex \/ X.s₀.heap.objs.size<=b)/\b ≠ X.env.locals/\(∀ x c,X.env.cells.lookup x=some c->c ≠ b)/\∀ p ∈ X.pn ++ pins,p.1 ≠ b):Inv X pins σ H' s':=by
 obtain ⟨h',g',d',t',o'⟩:=s';have e:o'=s.os:=ho;subst e;exact I.call (g':=g') (t':=t') (d':=d') u hok hg hch
end
abbrev XK:=Value->Option Addr->Hp->Prop
abbrev St:=List (Option V)
abbrev VK:=V->Hp->Prop
abbrev TE:=St->Hp->VK->Prop
abbrev TT:=St->Hp->(Bool->Hp->Prop)->Prop
abbrev TA:=St->Hp->(List V->Hp->Prop)->Prop
structure ak1 where
 nx:St->Hp->Prop
 rt:VK
 bk:St->Hp->Prop:=λ_ _=>False
 ct:St->Hp->Prop:=λ_ _=>False
abbrev TS:=ak1->St->Hp->Prop
def EP (X:Cx) (pins:List (Addr × Obj)) (σ:St) (Q:VK) (u:Value) (s':Shared):Prop:=∃ v H',Inv X pins σ H' s'/\A5 v u/\Q v H'
def TP (X:Cx) (pins:List (Addr × Obj)) (σ:St) (Q:Bool->Hp->Prop) (b:Bool) (s':Shared):Prop:=∃ H',Inv X pins σ H' s'/\Q b H'
def AP (X:Cx) (pins:List (Addr × Obj)) (σ:St) (Q:List V->Hp->Prop) (us:List Value) (s':Shared):Prop:=∃ vs H',Inv X pins σ H' s'/\k9 vs us/\Q vs H'
def SP (X:Cx) (pins:List (Addr × Obj)) (D:ak1) (f:Flow) (s':Shared):Prop :=
 match f with
 | .next => ∃ σ' H',Inv X pins σ' H' s'/\D.nx σ' H'
 | .brk => ∃ σ' H',Inv X pins σ' H' s'/\D.bk σ' H'
 | .cont => ∃ σ' H',Inv X pins σ' H' s'/\D.ct σ' H'
 | .ret u => ∃ v σ' H',Inv X pins σ' H' s'/\A5 v u/\D.rt v H'
def PE (X:Cx) (e:Expr) (t:TE):Prop :=
 ∀ (pins:List (Addr × Obj)) (s:Shared) (σ:St) (H:Hp) (Q:VK),Inv X pins σ H s->t σ H Q->wpAny (model X.prog X.w) X.A (eval e X.env) (EP X pins σ Q) X.xe s
def PT (X:Cx) (e:Expr) (t:TT):Prop :=
 ∀ (pins:List (Addr × Obj)) (s:Shared) (σ:St) (H:Hp) (Q:Bool->Hp->Prop),Inv X pins σ H s->t σ H Q->wpAny (model X.prog X.w) X.A (isTrue e X.env (eval e X.env)) (TP X pins σ Q) X.xe s
def PW (X:Cx) (e:Expr) (t:TT):Prop :=
 ∀ (whole:Sem Value) (pins:List (Addr × Obj)) (s:Shared) (σ:St) (H:Hp) (Q:Bool->Hp->Prop),Inv X pins σ H s->t σ H Q->wpAny (model X.prog X.w) X.A (isTrue e X.env whole) (TP X pins σ Q) X.xe s
theorem PW.pt {X:Cx} {e:Expr} {t:TT} (h:PW X e t):PT X e t:=h _
def PA (X:Cx) (es:List Expr) (t:TA):Prop :=
 ∀ (pos:Pos) (pins:List (Addr × Obj)) (s:Shared) (σ:St) (H:Hp) (Q:List V->Hp->Prop),Inv X pins σ H s->t σ H Q->wpAny (model X.prog X.w) X.A (spliced (backTo pos (starEach es X.env))) (AP X pins σ Q) X.xe s
def PS (X:Cx) (st:Stmt) (t:TS):Prop :=
 ∀ (pins:List (Addr × Obj)) (s:Shared) (σ:St) (H:Hp) (D:ak1),Inv X pins σ H s->t D σ H->wpAny (model X.prog X.w) X.A (exec st X.env) (SP X pins D) X.xe s
def PSs (X:Cx) (st:List Stmt) (t:TS):Prop :=
 ∀ (pins:List (Addr × Obj)) (s:Shared) (σ:St) (H:Hp) (D:ak1),Inv X pins σ H s->t D σ H->wpAny (model X.prog X.w) X.A (execs st X.env) (SP X pins D) X.xe s
theorem thn {α:Type} {t:Sem α} {Q Q':α->Shared->Prop} {M:Model} {A:Around} {E:Value->Shared->Prop} {s:Shared} (h:wpAny M A t Q E s) (hQ:∀ a s,Q a s->Q' a s):wpAny M A t Q' E s:=wpAny_mono h hQ λ_ _ x=>x
section
variable {X:Cx}
def G2 (i:Nat):TE:=λσ H Q => ∃ v,σ[i]? = some (some v)/\Q v H
def tC (v:V):TE:=λ_ H Q=>Q v H
theorem bk2 {i:Nat} {x:Str} {pos:Pos} (hN:X.N[i]? = some x) (hv:Vis X.env.scope x) (hd:(x == ("__debug__" : Str))=false:=by decide) (hcd:(x == ("__classdict__" : Str))=false:=by decide):PE X (.Name x pos) (G2 i):=by
 intro pins s σ H Q I h;obtain ⟨v,e,h⟩:=h;obtain ⟨m,hn,hl⟩:=I.loc;obtain ⟨u,r,l⟩:=hl i x v hN e hv;have fin:EP X pins σ Q u s:=⟨v,H,I,r,h⟩;rcases l with ⟨hk,hm⟩ | ⟨hk,c,hc,hcell⟩
 ·exact wpAny_Name (wpAny_loadName_local I.ok.kind hk hn hm fin) hd
 ·rcases hk with hk | hk
  ·exact wpAny_Name (wpAny_loadName_cell I.ok.kind hk hc hcell fin) hd
  ·exact wpAny_Name (wpAny_loadName_free I.ok.kind hk hc hcell fin hcd) hd
theorem b7 {i j pos}:PE X (.Constant (.int i) j pos) (tC (.int i)):=λ_ _ _ H _ I h=>wpAny_Constant_int ⟨.int i,H,I.tok _,⟨_,rfl⟩,h⟩
theorem Z8 {b j pos}:PE X (.Constant (.bool b) j pos) (tC (.bl b)):=λ_ _ _ H _ I h=>Constant_bool ⟨.bl b,H,I,rfl,h⟩
theorem bk4 {j pos}:PE X (.Constant .none j pos) (tC .non):=λ_ _ _ H _ I h=>Constant_none ⟨.non,H,I,rfl,h⟩
theorem aj0 {x j pos}:PE X (.Constant (.str x) j pos) (tC (.str x)):=λ_ _ _ H _ I h=>Calls.Constant_str ⟨.str x,H,I.tok _,⟨_,rfl⟩,h⟩
def Gl (X:Cx) (x:Str):Prop:=X.env.kindOf x=some .globalImplicit
theorem al9 {E:Value->Shared->Prop} {pins:List (Addr × Obj)} {s:Shared} {σ:St} {H:Hp} {x:Str} {u:Value} {pos:Pos} {Q:Value->Shared->Prop} (I:Inv X pins σ H s) (hg:Gl X x) (hm:X.mg x=some u) (h:Q u s)
  (hd:(x == ("__debug__" : Str))=false:=by decide):wpAny (model X.prog X.w) X.A (eval (.Name x pos) X.env) Q E s :=
 Calls.Name_function_global I.ok.kind hg (Calls.loadGlobal_global (by rw [I.ok.glob];exact I.mod.glob.keeps I.bk) hm h) hd
theorem ad7 {E:Value->Shared->Prop} {pins:List (Addr × Obj)} {s:Shared} {σ:St} {H:Hp} {x:Str} {u:Value} {pos:Pos} {Q:Value->Shared->Prop} (I:Inv X pins σ H s) (hg:Gl X x) (hm:X.mg x=none) (hv:bootBuiltins x=some u) (h:Q u s)
  (hn:x ≠ "__name__" := by decide) (hd:(x == ("__debug__" : Str))=false:=by decide):wpAny (model X.prog X.w) X.A (eval (.Name x pos) X.env) Q E s:=by
 obtain ⟨mb,h1,h2⟩:=I.mod.blt;exact Calls.Name_function_global I.ok.kind hg (Calls.loadGlobal_builtin (by rw [I.ok.glob];exact I.mod.glob.keeps I.bk) hm (by rw [I.ok.blt];exact h1.keeps I.bk) ((h2 x hn).trans hv) h) hd
theorem A0 {x:Str} {v:V} {u:Value} {pos:Pos} (hg:Gl X x) (hm:X.mg x=some u) (r:A5 v u) (hd:(x == ("__debug__" : Str))=false:=by decide):PE X (.Name x pos) (tC v) :=
 λ_ _ _ H _ I h=>al9 I hg hm ⟨v,H,I,r,h⟩ hd
theorem ad5 {x:Str} {v:V} {u:Value} {pos:Pos} (hg:Gl X x) (hm:X.mg x=none) (hv:bootBuiltins x=some u) (r:A5 v u) (hn:x ≠ "__name__" := by decide) (hd:(x == ("__debug__" : Str))=false:=by decide):PE X (.Name x pos) (tC v) :=
 λ_ _ _ H _ I h=>ad7 I hg hm hv ⟨v,H,I,r,h⟩ hn hd
variable {a b:Expr} {ta tb:TE} {pos:Pos}
def PC (X:Cx) (op:CmpOp) (a b:Expr) (t:TE):Prop :=
 ∀ (pins:List (Addr × Obj)) (s:Shared) (σ:St) (H:Hp) (Q:VK),Inv X pins σ H s->t σ H Q ->
  wpAny (model X.prog X.w) X.A (eval a X.env) (λv s₁=>wpAny (model X.prog X.w) X.A (eval b X.env) (λu s₂=>wpAny (model X.prog X.w) X.A (compareOp op v u) (EP X pins σ Q) X.xe s₂) X.xe s₁) X.xe s
def tB (t:TE):TT:=λσ H Q=>t σ H λx H1 => ∃ c,x=.bl c/\Q c H1
theorem P8 {e:Expr} {t:TE} (h:PE X e t) (he:∀ whole,isTrue e X.env whole=(do let v <- whole;standAt e.pos;holding [v] (truthy v)):=by intro _;rfl):PT X e (tB t):=by
 intro pins s σ H Q I hw;refine isTrue_plain (thn (h pins s σ H _ I hw) λv s1 zq=>?_) (he _);obtain ⟨x,H1,I1,r1,q1⟩:=zq;obtain ⟨d,rfl,q⟩:=q1
 cases r1
 exact wpAny_truthy_bool ⟨H1,I1,q⟩
variable {tA tB':TT} {aq3:List Expr}
def bj1 (t u:TT):TT:=λσ H Q=>t σ H λc H1=>if c=true then u σ H1 Q else Q false H1
def tOr (t u:TT):TT:=λσ H Q=>t σ H λc H1=>if c=true then Q true H1 else u σ H1 Q
def bi7 (t:TT):TT:=λσ H Q=>t σ H λc H1=>Q (!c) H1
theorem ar0 (ha:PT X a tA):PW X (.BoolOp .And [a] pos) tA:=by
 intro wh pins s σ H Q I h;refine isTrue_and (thn (ha pins s σ H Q I h) λc s1 e=>?_)
 cases c with
 | true=>exact isTrue_and_nil e
 | false=>exact e
theorem ad1 (ha:PT X a tA):PW X (.BoolOp .Or [a] pos) tA:=by
 intro wh pins s σ H Q I h;refine isTrue_or (thn (ha pins s σ H Q I h) λc s1 e=>?_)
 cases c with
 | false=>exact isTrue_or_nil e
 | true=>exact e
theorem aD9 (ha:PT X a tA) (hb:PW X (.BoolOp .And (b :: aq3) pos) tB'):PW X (.BoolOp .And (a :: b :: aq3) pos) (bj1 tA tB'):=by
 intro wh pins s σ H Q I h;refine isTrue_and (thn (ha pins s σ H _ I h) λc s1 zq=>?_);obtain ⟨H1,I1,q1⟩:=zq
 cases c with
 | true=>exact hb wh pins s1 σ H1 Q I1 q1
 | false=>exact ⟨H1,I1,q1⟩
theorem Z7 (ha:PT X a tA) (hb:PW X (.BoolOp .Or (b :: aq3) pos) tB'):PW X (.BoolOp .Or (a :: b :: aq3) pos) (tOr tA tB'):=by
 intro wh pins s σ H Q I h;refine isTrue_or (thn (ha pins s σ H _ I h) λc s1 zq=>?_);obtain ⟨H1,I1,q1⟩:=zq
 cases c with
 | true=>exact ⟨H1,I1,q1⟩
 | false=>exact hb wh pins s1 σ H1 Q I1 q1
theorem P9 (ha:PT X a tA):PT X (.UnaryOp .Not a pos) (bi7 tA):=by
 intro pins s σ H Q I h;exact isTrue_not (ha pins s σ H (λc H1=>Q (!c) H1) I h)
def aV8 (ta tb:TE):TE:=λσ H Q=>ta σ H λx H1 => ∃ c,x=.bl c/\if c=true then tb σ H1 Q else Q (.bl false) H1
def aV4 (ta:TE):TE:=λσ H Q=>ta σ H λx H1 => ∃ c,x=.bl c/\Q (.bl (!c)) H1
theorem as8 {op} {t:TE} (h:PE X a t):PE X (.BoolOp op [a] pos) t:=λpins s σ H Q I hw=>BoolOp_one (h pins s σ H Q I hw)
theorem an2 (ha:PE X a ta) (hb:PE X (.BoolOp .And (b :: aq3) pos) tb):PE X (.BoolOp .And (a :: b :: aq3) pos) (aV8 ta tb):=by
 intro pins s σ H Q I h;refine BoolOp_and (thn (ha pins s σ H _ I h) λv s1 zq=>?_);obtain ⟨x,H1,I1,r1,q1⟩:=zq;obtain ⟨c,rfl,q1⟩:=q1
 cases r1
 refine wpAny_truthy_bool ?_
 cases c with
 | true=>exact hb pins s1 σ H1 Q I1 q1
 | false=>exact ⟨.bl false,H1,I1,rfl,q1⟩
theorem bk3 (ha:PE X a ta):PE X (.UnaryOp .Not a pos) (aV4 ta):=by
 intro pins s σ H Q I h;refine UnaryOp_ (thn (ha pins s σ H _ I h) λv s1 zq=>?_);obtain ⟨x,H1,I1,r1,q1⟩:=zq;obtain ⟨c,rfl,q1⟩:=q1
 cases r1
 exact not_of (wpAny_truthy_bool ⟨.bl (!c),H1,I1,rfl,q1⟩)
def tIf (t:TT) (ta tb:TE):TE:=λσ H Q=>t σ H λc H1=>if c=true then ta σ H1 Q else tb σ H1 Q
theorem as9 {c:Expr} (hc:PT X c tA) (ha:PE X a ta) (hb:PE X b tb):PE X (.IfExp c a b pos) (tIf tA ta tb):=by
 intro pins s σ H Q I h;refine wpAny_IfExp (thn (hc pins s σ H _ I h) λd s1 zq=>?_);obtain ⟨H1,I1,q1⟩:=zq
 cases d with
 | true=>exact ha pins s1 σ H1 Q I1 q1
 | false=>exact hb pins s1 σ H1 Q I1 q1
end
def SqL (K:q0a) (H:Hp) (a:Addr) (xs:List V):Prop :=
 Rd H a (.lst xs) \/
  ∃ (o:Obj) (its:Array Value) (n:Nat),K.lookup a=some o/\o.cls=.type "list"/\o.dict=none/\o.data=.seq its n/\its.size<=sizeLine/\k9 xs its.toList
def SqT (K:q0a) (H:Hp) (a:Addr) (xs:List V):Prop :=
 Rd H a (.tup xs) \/
  ∃ (o:Obj) (its:Array Value) (n:Nat),K.lookup a=some o/\o.cls=.type "tuple"/\o.data=.seq its n/\its.size<=sizeLine/\k9 xs its.toList
def bs8:Value->Option V
 | .none=>some .non
 | .bool b=>some (.bl b)
 | .int i _=>some (.int i)
 | .str x _=>some (.str x)
 | .bytes b _=>some (.byt b)
 | .float b _=>some (.flt b)
 | .ref a=>some (.ref a)
 | .type n=>some (.ty n)
 | _=>none
theorem A5.abs {x:V} {u:Value} (r:A5 x u):bs8 u=some x:=by
 cases x with
 | non=>cases r;rfl
 | bl _=>cases r;rfl
 | int _=>obtain ⟨t,rfl⟩:=r;rfl
 | str _=>obtain ⟨t,rfl⟩:=r;rfl
 | byt _=>obtain ⟨t,rfl⟩:=r;rfl
 | flt _=>obtain ⟨t,rfl⟩:=r;rfl
 | ref _=>cases r;rfl
 | ty _=>cases r;rfl
theorem A5.inj {x y:V} {u:Value} (r:A5 x u) (q:A5 y u):x=y:=Option.some.inj (r.abs.symm.trans q.abs)
theorem k9.inj:∀ {xs ys:List V} {us:List Value},k9 xs us->k9 ys us->xs=ys
 | _,_,_,.nil,.nil=>rfl
 | _,_,_,.cons r t,.cons r' t'=>by rw [r.inj r',k9.inj t t']
section
variable {X:Cx} {pins:List (Addr × Obj)} {σ:St} {H:Hp} {s:Shared} {a:Addr} {xs ys:List V}
theorem SqL.of {K:q0a} (h:H a=some (.lst xs)):SqL K H a xs:=.inl (.inl h)
theorem SqT.of {K:q0a} (h:H a=some (.tup xs)):SqT K H a xs:=.inl (.inl h)
theorem Inv.list (I:Inv X pins σ H s) (h:SqL X.K H a xs):∃ its:List Value,k9 xs its/\PlainL s.heap a its.toArray/\xs.length<=sizeLine:=by
 rcases h with h | ⟨o,its,n,hk,hc,hd,hs,hz,r⟩
 ·obtain ⟨z,its,n,r,e⟩:=h.ok I.hok
  exact ⟨its,r,⟨_,n,e,rfl,rfl,rfl⟩,z⟩
 ·refine ⟨its.toList,r,⟨o,n,I.kIn a o hk,hc,hd,by simpa using hs⟩,?_⟩
  have e:=r.length;simp only [m0u] at e;omega
theorem Inv.tuple (I:Inv X pins σ H s) (h:SqT X.K H a xs):∃ its:List Value,k9 xs its/\IsTup s.heap a its.toArray/\xs.length<=sizeLine:=by
 rcases h with h | ⟨o,its,n,hk,hc,hs,hz,r⟩
 ·obtain ⟨z,its,r,p⟩:=h.ok I.hok
  exact ⟨its,r,p,z⟩
 ·refine ⟨its.toList,r,⟨o,I.kIn a o hk,hc,n,by simpa using hs⟩,?_⟩
  have e:=r.length;simp only [m0u] at e;omega
theorem Inv.list_inj (I:Inv X pins σ H s) (h:SqL X.K H a xs) (h':SqL X.K H a ys):xs=ys:=by
 obtain ⟨its,r,⟨o,n,e,_,_,d⟩,_⟩:=I.list h;obtain ⟨its',r',⟨o',n',e',_,_,d'⟩,_⟩:=I.list h';rw [e] at e';cases e';rw [d] at d'
 injection d' with d1 _
 have:its=its':=by simpa using congrArg Array.toList d1
 subst this;exact r.inj r'
theorem Inv.tuple_inj (I:Inv X pins σ H s) (h:SqT X.K H a xs) (h':SqT X.K H a ys):xs=ys:=by
 obtain ⟨its,r,⟨o,e,_,n,d⟩,_⟩:=I.tuple h;obtain ⟨its',r',⟨o',e',_,n',d'⟩,_⟩:=I.tuple h';rw [e] at e';cases e';rw [d] at d'
 injection d' with d1 _
 have:its=its':=by simpa using congrArg Array.toList d1
 subst this;exact r.inj r'
end
abbrev Cx.wish (X:Cx) (E:Value->Shared->Prop):Cx:={ X with xe:=E }
abbrev Cx.nox (X:Cx):Cx:=X.wish λ_ _=>False
theorem Cx.Ok.wish {X:Cx} (ok:X.Ok) (E:Value->Shared->Prop):(X.wish E).Ok :=
 ⟨ok.mod,ok.kind,ok.glob,ok.blt,ok.above,ok.inj,ok.has,ok.cab,ok.hd,ok.frames,ok.stk,ok.exf,ok.bs,ok.bsz,ok.noex,ok.exfs,ok.funs,ok.frf⟩
theorem Cx.Ok.unwish {X:Cx} {E:Value->Shared->Prop} (ok:(X.wish E).Ok):X.Ok :=
 ⟨ok.mod,ok.kind,ok.glob,ok.blt,ok.above,ok.inj,ok.has,ok.cab,ok.hd,ok.frames,ok.stk,ok.exf,ok.bs,ok.bsz,ok.noex,ok.exfs,ok.funs,ok.frf⟩
section
variable {X:Cx} {pins:List (Addr × Obj)} {σ:St} {H:Hp} {s:Shared} {E:Value->Shared->Prop}
theorem Inv.wish (I:Inv X pins σ H s) (E:Value->Shared->Prop):Inv (X.wish E) pins σ H s:=⟨I.ok.wish E,I.os,I.bare,I.base,I.loc,I.cell,I.free,I.freeC,I.pin,I.hok,I.len⟩
theorem Inv.unwish (I:Inv (X.wish E) pins σ H s):Inv X pins σ H s:=⟨I.ok.unwish,I.os,I.bare,I.base,I.loc,I.cell,I.free,I.freeC,I.pin,I.hok,I.len⟩
theorem SP.unwish {D:ak1} {f:Flow} {s':Shared} (h:SP (X.wish E) pins D f s'):SP X pins D f s':=by
 cases f with
 | next=>obtain ⟨σ',H',I,q⟩:=h;exact ⟨σ',H',I.unwish,q⟩
 | brk=>obtain ⟨σ',H',I,q⟩:=h;exact ⟨σ',H',I.unwish,q⟩
 | cont=>obtain ⟨σ',H',I,q⟩:=h;exact ⟨σ',H',I.unwish,q⟩
 | ret u=>obtain ⟨v,σ',H',I,r,q⟩:=h;exact ⟨v,σ',H',I.unwish,r,q⟩
theorem PSs.nox {st:List Stmt} {t:TS} (h:PSs X.nox st t):PSs X st t:=λpins s σ H D I hw =>
 wpAny_mono (h pins s σ H D (I.wish _) hw) (λ_ _ q=>q.unwish) λ_ _ z=>False.elim z
end
section
variable {X:Cx} {st:Stmt} {aq3:List Stmt} {t u:TS} {e:Expr} {te:TE} {pos:Pos}
def aV5:TS:=λD σ H=>D.nx σ H
def bc4 (t u:TS):TS:=λD σ H=>t { D with nx:=u D } σ H
theorem m6:PSs X [] aV5:=λ_ _ σ H _ I h=>wpAny_execs_nil ⟨σ,H,I,h⟩
theorem b9 (h1:PS X st t) (h2:PSs X aq3 u):PSs X (st :: aq3) (bc4 t u):=by
 intro pins s σ H D I h;refine wpAny_execs_cons (thn (h1 pins s σ H { D with nx:=u D } I h) λf s1 q=>?_)
 cases f with
 | next =>
  obtain ⟨σ',H',I',q⟩:=q;exact h2 pins s1 σ' H' D I' q
 | ret v=>exact q
 | brk=>exact q
 | cont=>exact q
theorem c7 (h1:PS X st t):PSs X [st] t:=by
 intro pins s σ H D I h;refine wpAny_execs_cons (thn (h1 pins s σ H D I h) λf s1 q=>?_)
 cases f with
 | next=>exact wpAny_execs_nil q
 | ret v=>exact q
 | brk=>exact q
 | cont=>exact q
theorem Inv.quiet {pins:List (Addr × Obj)} {σ:St} {H:Hp} {s:Shared} (I:Inv X pins σ H s):interactive X.env=false:=by simp [interactive,I.ok.kind]
def aV6 (te:TE):TS:=λD σ H=>te σ H λ_ H1=>D.nx σ H1
theorem al1 (he:PE X e te) (hs:swapsWith e none pos.line X.env=pure false:=by rfl):PS X (.Expr e pos) (aV6 te):=by
 intro pins s σ H D I h;exact wpAny_Expr_any (thn (he pins s σ H _ I h) λv s1 ⟨x,H1,I1,r1,q1⟩=>⟨σ,H1,I1,q1⟩) I.quiet hs
def bc5 (te:TE):TS:=λD σ H=>te σ H D.rt
theorem i7 (he:PE X e te):PS X (.Return (some e) pos) (bc5 te):=by
 intro pins s σ H D I h;exact wpAny_Return_some (thn (he pins s σ H _ I h) λv s1 ⟨x,H1,I1,r1,q1⟩=>⟨x,σ,H1,I1,r1,q1⟩)
def bi8 (c:TT) (t u:TS):TS:=λD σ H=>c σ H λb H1=>if b=true then t D σ H1 else u D σ H1
theorem A4 {c:Expr} {a b:List Stmt} {tc:TT} (hc:PT X c tc) (ha:PSs X a t) (hb:PSs X b u):PS X (.If c a b pos) (bi8 tc t u):=by
 intro pins s σ H D I h;refine wpAny_If (thn (hc pins s σ H _ I h) λd s1 zq=>?_);obtain ⟨H1,I1,q1⟩:=zq
 cases d with
 | true=>exact ha pins s1 σ H1 D I1 q1
 | false=>exact hb pins s1 σ H1 D I1 q1
def aL0:TS:=λ_ _ _=>False
theorem as6:PS X st aL0:=λ_ _ _ _ _ _ h=>h.elim
end
abbrev TG:=V->St->Hp->(St->Hp->Prop)->Prop
abbrev TGs:=List V->St->Hp->(St->Hp->Prop)->Prop
def PG (X:Cx) (target:Expr) (t:TG):Prop :=
 ∀ (pins:List (Addr × Obj)) (s:Shared) (σ:St) (H:Hp) (v:V) (u:Value) (Q:St->Hp->Prop),Inv X pins σ H s->A5 v u->t v σ H Q ->
  wpAny (model X.prog X.w) X.A (assign target X.env u) (λ_ s' => ∃ σ' H',Inv X pins σ' H' s'/\Q σ' H') X.xe s
def PGs (X:Cx) (ts:List Expr) (t:TGs):Prop :=
 ∀ (pins:List (Addr × Obj)) (s:Shared) (σ:St) (H:Hp) (vs:List V) (us:List Value) (Q:St->Hp->Prop),Inv X pins σ H s->k9 vs us->t vs σ H Q ->
  wpAny (model X.prog X.w) X.A (assignInOrder ((assignEach ts X.env).map (·.2)) us) (λ_ s' => ∃ σ' H',Inv X pins σ' H' s'/\Q σ' H') X.xe s
abbrev bn4:=V->V->V->Hp->(Hp->Prop)->Prop
def bq8 (X:Cx) (t:bn4):Prop :=
 ∀ (pins:List (Addr × Obj)) (s:Shared) (σ:St) (H:Hp) (o i v:V) (ov iv u:Value) (Q:Hp->Prop),Inv X pins σ H s->A5 o ov->A5 i iv->A5 v u->t o i v H Q ->
  wpAny (model X.prog X.w) X.A (setItem ov iv u) (λ_ s' => ∃ H',Inv X pins σ H' s'/\Q H') X.xe s
abbrev TIp:=V->V->Hp->VK->Prop
def PIp (X:Cx) (op:Operator) (t:TIp):Prop :=
 ∀ (pins:List (Addr × Obj)) (s:Shared) (σ:St) (H:Hp) (x y:V) (v u:Value) (Q:VK),Inv X pins σ H s->A5 x v->A5 y u->t x y H Q ->
  wpAny (model X.prog X.w) X.A (inplaceOp op v u) (EP X pins σ Q) X.xe s
section
variable {X:Cx} {pos:Pos}
def l9 (i:Nat):TG:=λv σ H Q=>Q (σ.set i (some v)) H
theorem c9 {i:Nat} {x:Str} (hN:X.N.Nodup) (hi:X.N[i]? = some x) (hx:Loc X.env.scope x) (hf:X.fn x=true \/ X.env.scope.names.lookup x=some .local:=by first | exact .inl rfl | exact .inr rfl | assumption):PG X (.Name x pos) (l9 i):=by
 intro pins s σ H v u Q I r h;exact wpAny_assign_Name (ab2 I hN hi hx r (λs' I'=>⟨_,H,I',h⟩) hf)
def T9:TGs:=λvs σ H Q=>vs=[]/\Q σ H
def r6 (t:TG) (u:TGs):TGs:=λvs σ H Q => ∃ v r,vs=v :: r/\t v σ H λσ' H'=>u r σ' H' Q
theorem y3:PGs X [] T9:=by
 intro pins s σ H vs us Q I r h;obtain ⟨e,h⟩:=h;subst e
 cases r
 exact assignInOrder_nil ⟨σ,H,I,h⟩
theorem i4 {e:Expr} {es:List Expr} {t:TG} {u:TGs} (h1:PG X e t) (h2:PGs X es u)
  (hs:(assignEach (e :: es) X.env).map (·.2)=assign e X.env :: (assignEach es X.env).map (·.2):=by rfl):PGs X (e :: es) (r6 t u):=by
 intro pins s σ H vs us Q I r h;obtain ⟨v,vr,e1,h⟩:=h;subst e1
 cases r with
 | cons r rr =>
  rw [hs];refine assignInOrder_cons (thn (h1 pins s σ H _ _ _ I r h) λ_ s1 zq=>?_);obtain ⟨σ1,H1,I1,q1⟩:=zq;exact h2 pins s1 σ1 H1 _ _ Q I1 rr q1
def T6 (K:q0a) (n:Nat) (t:TGs):TG:=λv σ H Q => ∃ a xs,v=.ref a/\SqT K H a xs/\xs.length=n/\t xs σ H Q
theorem C2 {es:List Expr} {k:Nat} {t:TGs} {n:Nat} (hc:X.calm=true) (h:PGs X es t)
  (hn:(assignEach es X.env).length=n:=by rfl) (hst:(assignEach es X.env).findIdx? (·.1)=none:=by rfl):PG X (.Tuple es k pos) (T6 X.K n t):=by
 intro pins s σ H v u Q I r hw;obtain ⟨a,xs,e1,hq,hl,hw⟩:=hw;subst e1
 cases r
 obtain ⟨its,rv,ht,hz⟩:=I.tuple hq;refine assign_Tuple_tuple (I.ok.hd hc) ht (by simp [hn,<- hl,rv.length]) hst λh' hx=>?_
 have I1:Inv X pins σ H { s with heap:=h' }:=I.kept (t':=s.toks) λb o e=>hx b o (q0m (q0c e)) e;exact h pins _ σ H xs _ Q I1 (by simpa using rv) hw
def aN0 (to ti:TE) (t:bn4):TG:=λv σ H Q=>to σ H λo H1=>ti σ H1 λi H2=>t o i v H2 λH3=>Q σ H3
theorem P2 {o i:Expr} {to ti:TE} {t:bn4} (ho:PE X o to) (hi:PE X i ti) (hs:bq8 X t)
  (ha:∀ v,assign (.Subscript o i pos) X.env v=(do
   let ov <- holding [v] (eval o X.env)
   let iv <- holding [v,ov] (eval i X.env)
   standAt pos
   holding [v,ov,iv] (setItem ov iv v)
   release [v,ov,iv] []):=by intro _;rfl):PG X (.Subscript o i pos) (aN0 to ti t):=by
 intro pins s σ H v u Q I r h;rw [ha];refine wpAny_bind (wpAny_holding (thn (ho pins s σ H _ I h) λov s1 zq=>?_));obtain ⟨x,H1,I1,r1,q1⟩:=zq;refine wpAny_bind (wpAny_holding (thn (hi pins s1 σ H1 _ I1 q1) λiv s2 zq=>?_));obtain ⟨y,H2,I2,r2,q2⟩:=zq;refine wpAny_bind (wpAny_standAt (wpAny_bind (wpAny_holding (thn (hs pins s2 σ H2 x y v ov iv u _ I2 r1 r2 r q2) λ_ s3 zq=>?_))));obtain ⟨H3,I3,q3⟩:=zq;exact wpAny_release ⟨σ,H3,I3,q3⟩
def aL2 (te:TE) (g:TG):TS:=λD σ H=>te σ H λx H1=>g x σ H1 D.nx
theorem E5 {tg e : Expr} {te : TE} {g : TG} (he : PE X e te) (hg : PG X tg g) (hs : swapsWithSole [tg] e pos.line X.env = pure false := by rfl) (hw : swappedStores [tg] e X.env = pure none := by rfl)
    (h1:(assignEach [tg] X.env).map (·.2)=[assign tg X.env]:=by rfl):PS X (.Assign [tg] e pos) (aL2 te g):=by
  intro pins s σ H D I h;refine wpAny_Assign_stores (thn (he pins s σ H _ I h) λv s1 zq=>?_) hs hw;obtain ⟨x,H1,I1,r1,q1⟩:=zq;rw [h1];exact thn (hg pins s1 σ H1 x v _ I1 r1 q1) λ_ s2 q=>q
theorem h9 {i:Nat} {x:Str} {e:Expr} {te:TE} {pos':Pos} (hN:X.N.Nodup) (hi:X.N[i]? = some x) (hx:Loc X.env.scope x) (he:PE X e te) (hs:swapsWith e (some (.Name x pos')) pos.line X.env=pure false:=by rfl) (hf:X.fn x=true \/ X.env.scope.names.lookup x=some .local:=by first | exact .inl rfl | exact .inr rfl | assumption) :
  PS X (.Assign [.Name x pos'] e pos) (aL2 te (l9 i)):=by
 intro pins s σ H D I h;refine wpAny_Assign_Name (thn (he pins s σ H _ I h) λv s1 zq=>?_) hs;obtain ⟨y,H1,I1,r1,q1⟩:=zq;exact ab2 I1 hN hi hx r1 (λs2 I2=>⟨_,H1,I2,q1⟩) hf
def bc6 (i j:Nat) (ta:TA):TS:=λD σ H=>ta σ H λvs H1 => ∃ v w,vs=[v,w]/\D.nx ((σ.set i (some v)).set j (some w)) H1
theorem aM2 {i j:Nat} {x y:Str} {a b:Expr} {ta:TA} {px py pt:Pos} {kt k2 pt2} (hc:X.calm=true) (hN:X.N.Nodup) (hi:X.N[i]? = some x) (hj:X.N[j]? = some y) (hij:i ≠ j)
  (hx:X.env.scope.names.lookup x=some .local) (hy:X.env.scope.names.lookup y=some .local) (ha:PA X [a,b] ta)
  (hw:swappedStores [.Tuple [.Name x px,.Name y py] kt pt] (.Tuple [a,b] k2 pt2) X.env=pure (some [x,y]))
  (hs:swapsWithSole [.Tuple [.Name x px,.Name y py] kt pt] (.Tuple [a,b] k2 pt2) pos.line X.env=pure false:=by rfl) :
  PS X (.Assign [.Tuple [.Name x px,.Name y py] kt pt] (.Tuple [a,b] k2 pt2) pos) (bc6 i j ta):=by
 intro pins s σ H D I h;rw [exec_Assign_arm];refine wpAny_bind (wpAny_standAt ?_);rw [hs];refine wpAny_bind (wpAny_pure ?_);rw [if_neg (by decide)]
 refine wpAny_bind (Tuple_ (thn (ha _ pins s σ H _ I h) λus s1 zq=>?_));obtain ⟨vs,H1,I1,r1,q1⟩:=zq;obtain ⟨v,w,e1,q1⟩:=q1;subst e1
 obtain ⟨u1,u2,rfl,rv,rw'⟩:∃ u1 u2,us=[u1,u2]/\A5 v u1/\A5 w u2:=by
  cases r1 with
  | cons p q =>
   cases q with
   | cons p' q' =>
    cases q'
    exact ⟨_,_,rfl,p,p'⟩
 refine wpAny_newObj_type ?_ (by show 2<=sizeLine;decide)
 have I2:Inv X pins σ H1 { s1 with heap:=s1.heap.push { cls:=.type "tuple",data:=.seq [u1,u2].toArray } }:=I1.kept (t':=s1.toks) λb o e=>q0e _ e
 rw [hw];refine wpAny_bind (wpAny_pure ?_)
 show wpAny (model X.prog X.w) X.A (do rule "assign.swapped-stores";let items <- unpackItems (.ref s1.heap.objs.size) 2 none;assignInOrder [λv=>bindName X.env y v,λv=>bindName X.env x v] items.reverse;pure Flow.next) _ _ _
 refine wpAny_bind (wpAny_rule (wpAny_bind (unpackItems_tuple (items:=#[u1,u2]) (I.ok.hd hc) (IsTup.new s1.heap _) λh' hx'=>?_)));have I3:=I2.kept (h':=h') (t':=s1.toks) λb o e=>hx' b o (q0m (q0c e)) e
 show wpAny _ _ (assignInOrder [λv=>bindName X.env y v,λv=>bindName X.env x v] [u2,u1] >>= λ_=>pure Flow.next) _ _ _;refine wpAny_bind (assignInOrder_cons (wpAny_bindName (ab2 I3 hN hj (.inl hy) rw' (λs2 I4=>?_) (.inr hy))));refine assignInOrder_cons (wpAny_bindName (ab2 I4 hN hi (.inl hx) rv (λs3 I5=>assignInOrder_nil (wpAny_pure ?_)) (.inr hx)));rw [List.set_comm _ _ (Ne.symm hij)] at I5;exact ⟨_,H1,I5,q1⟩
def bj0 (i:Nat) (te:TE) (ti:TIp):TS:=λD σ H => ∃ x,σ[i]? = some (some x)/\te σ H λy H1=>ti x y H1 λz H2=>D.nx (σ.set i (some z)) H2
theorem bj9 {i:Nat} {x:Str} {e:Expr} {te:TE} {op:Operator} {ti:TIp} {pos':Pos} (hN:X.N.Nodup) (hi:X.N[i]? = some x) (hx:Loc X.env.scope x) (he:PE X e te) (ho:PIp X op ti) (hf:X.fn x=true \/ X.env.scope.names.lookup x=some .local:=by first | exact .inl rfl | exact .inr rfl | assumption) :
  PS X (.AugAssign (.Name x pos') op e pos) (bj0 i te ti):=by
 intro pins s σ H D I h;obtain ⟨v,e1,h⟩:=h;obtain ⟨m,hn,hl⟩:=I.loc;have vis:Vis X.env.scope x:=by rcases hx with k | k;exact .inl k;exact .inr (.inl k)
 obtain ⟨u,r,l⟩:=hl i x v hi e1 vis;refine wpAny_AugAssign_Name ?_
 have go:wpAny (model X.prog X.w) X.A (eval e X.env) (λw s₂=>wpAny (model X.prog X.w) X.A (inplaceOp op u w) (λr s₃=>wpAny (model X.prog X.w) X.A (storeName X.env x r) (λ_=>SP X pins D .next) X.xe s₃) X.xe s₂) X.xe s:=by
  refine thn (he pins s σ H _ I h) λw s1 zq=>?_;obtain ⟨y,H1,I1,r1,q1⟩:=zq;refine thn (ho pins s1 σ H1 v y u w _ I1 r r1 q1) λz s2 zq=>?_;obtain ⟨zv,H2,I2,r2,q2⟩:=zq;exact ab2 I2 hN hi hx r2 (λs3 I3=>⟨_,H2,I3,q2⟩) hf
 rcases l with ⟨hk,hm⟩ | ⟨hk,c,hc,hcell⟩
 ·exact wpAny_loadName_local I.ok.kind hk hn hm go
 ·rcases hk with hk | hk
  ·exact wpAny_loadName_cell I.ok.kind hk hc hcell go
  ·rcases hx with k | k
   ·have:X.env.scope.names.lookup x=some .free:=hk
    rw [k] at this;cases this
   ·have:X.env.scope.names.lookup x=some .free:=hk
    rw [k] at this;cases this
def aB8 (c:TT) (tb:TS):TS:=λD σ H => ∃ W:Nat->St->Hp->Prop,(∃ m,W m σ H)/\∀ m σ H,W m σ H ->
 c σ H λb H1=>if b=true then ∃ N:St->Hp->Prop,(∀ σ' H',N σ' H'->∃ m',m'<m/\W m' σ' H')/\tb { D with nx:=N,ct:=N,bk:=D.nx } σ H1 else D.nx σ H1
theorem al0 {c:Expr} {body:List Stmt} {tc:TT} {tb:TS} (hp:PassesOwn (model X.prog X.w) X.A X.env X.xe) (hc:PT X c tc) (hb:PSs X body tb):PS X (.While c body [] pos) (aB8 tc tb):=by
 intro pins s σ H D I h;obtain ⟨W,⟨m0,w0⟩,turn⟩:=h;refine wpAny_While (codeAny_whileLoop (λn s' => ∃ σ' H',Inv X pins σ' H' s'/\W n σ' H') ?_ m0 ⟨σ,H,I,w0⟩);rintro n s1 ⟨σ1,H1,I1,w1⟩;refine wpAny_passesOwn hp (thn (hc pins s1 σ1 H1 _ I1 (turn n σ1 H1 w1)) λb s2 zq=>?_);obtain ⟨H2,I2,q2⟩:=zq
 cases b with
 | true =>
  obtain ⟨N,hN,q2⟩:=q2;rw [if_pos rfl];refine wpAny_passesOwn hp (thn (hb pins s2 σ1 H2 _ I2 q2) λf s3 q3=>?_)
  cases f with
  | next =>
   obtain ⟨σ3,H3,I3,n3⟩:=q3;obtain ⟨m',hm,w3⟩:=hN σ3 H3 n3;exact ⟨m',hm,σ3,H3,I3,w3⟩
  | cont =>
   obtain ⟨σ3,H3,I3,n3⟩:=q3;obtain ⟨m',hm,w3⟩:=hN σ3 H3 n3;exact ⟨m',hm,σ3,H3,I3,w3⟩
  | brk=>exact q3
  | ret v=>exact q3
 | false =>
  rw [if_neg q0p];exact wpAny_execs_nil ⟨σ1,H2,I2,q2⟩
end
structure It where
 go:Nat->Hp->Prop
 yld:Nat->Hp->V->Hp->Prop
 stop:Nat->Hp->Prop
def ab0 (X:Cx) (pins:List (Addr × Obj)) (H:Hp) (b:Addr):Prop :=
 H b=none/\b ≠ X.env.locals/\b ∉ X.fs/\(b ∈ X.ex \/ X.s₀.heap.objs.size<=b)/\(∀ x c,X.env.cells.lookup x=some c->c ≠ b)/\∀ p ∈ X.pn ++ pins,p.1 ≠ b
theorem Inv.fpOk {X:Cx} {pins:List (Addr × Obj)} {σ:St} {H H':Hp} {s:Shared} {b:Addr} (I:Inv X pins σ H s) (hb:s.heap.objs.size<=b) (hn:H' b=none):ab0 X pins H' b:=by
 refine ⟨hn,y0e (q0b I.lt hb),I.nofs hb,.inr (q0q I.sz hb),λx c e z=>?_,λp hp z=>?_⟩
 ·obtain ⟨v,q⟩:=I.cell x c e
  exact absurd (q0b q.lt (by rw [z];exact hb)) (j0p _)
 ·exact absurd (q0b (q0c (I.pin p hp).1) (by rw [z];exact hb)) (j0p _)
structure aO2 (P:Program) (w:World) (K:q0a) (tg:Expr) (J:It) (fp:List Addr) (it:Addr) (tn:Nat->Heap->Prop):Prop where
 mem:it ∈ fp
 obj:∀ i h,tn i h->∀ b ∈ fp,∃ o,h.get? b=some o/\∀ v,o.data ≠ .cell v
 keep:∀ i h h',tn i h->(∀ b ∈ fp,∀ o,h.get? b=some o->h'.get? b=some o)->tn i h'
 item:∀ (X:Cx),X.prog=P->X.w=w->X.K=K->X.calm=true->∀ (i:Nat) (pins:List (Addr × Obj)) (s:Shared) (σ:St) (H:Hp) (E:Value->Shared->Prop),Inv X pins σ H s->(∀ b ∈ fp,ab0 X pins H b)->tn i s.heap->J.go i H ->
  wpAny (model P w) X.A (pyNext (.ref it)) (λr s1 => ∃ u,r=some u /\
   wpAny (model P w) X.A (letOwnedTupleGo tg (.ref it) u) (λ_ s2 => ∃ x H',Inv X pins σ H' s2/\A5 x u/\J.yld i H x H'/\tn (i+1) s2.heap/\∀ b ∈ fp,H' b=none) E s1) E s
 done:∀ (X:Cx),X.prog=P->X.w=w->X.K=K->X.calm=true->∀ (i:Nat) (pins:List (Addr × Obj)) (s:Shared) (σ:St) (H:Hp) (E:Value->Shared->Prop),Inv X pins σ H s->(∀ b ∈ fp,ab0 X pins H b)->tn i s.heap->J.stop i H ->
  wpAny (model P w) X.A (pyNext (.ref it)) (λr s1=>r=none/\Inv X pins σ H s1) E s
 self:∀ (A:Around) (i:Nat) (s:Shared) (Q:Value->Shared->Prop) (E:Value->Shared->Prop),tn i s.heap->Q (.ref it) s->wpAny (model P w) A (pyIter (.ref it)) Q E s
abbrev TI:=St->Hp->(It->Hp->Prop)->Prop
def PIE (X:Cx) (pins:List (Addr × Obj)) (σ:St) (tg:Expr) (R:It->Hp->Prop) (itv:Value) (s2:Shared):Prop :=
 ∃ (it:Addr) (fp:List Addr) (tn:Nat->Heap->Prop) (J:It) (H':Hp),itv=.ref it/\Inv X pins σ H' s2/\aO2 X.prog X.w X.K tg J fp it tn/\tn 0 s2.heap/\(∀ b ∈ fp,ab0 X pins H' b)/\R J H'
def PI (X:Cx) (tg iter:Expr) (wi:TI):Prop :=
 ∀ (pins:List (Addr × Obj)) (s:Shared) (σ:St) (H:Hp) (R:It->Hp->Prop),Inv X pins σ H s->wi σ H R ->
  wpAny (model X.prog X.w) X.A (eval iter X.env) (λv s1=>wpAny (model X.prog X.w) X.A (pyIter v) (PIE X pins σ tg R) X.xe s1) X.xe s
theorem ba0 {M : Model} {A : Around} {E : Value → Shared → Prop} {s : Shared} {tg : Expr} {it : Addr} {u : Value} {o : Obj} {n : String} {vs : Array Value} {Q : Unit → Shared → Prop} (ho : s.heap.get? it = some o) (hc : o.cls = .type n) (hd : o.data = .fields vs)
    (hn:["enumerate","zip","dict_itemiterator","dict_reverseitemiterator","odict_iterator","itertools.zip_longest","itertools.pairwise"].contains n=false) (hQ:Q () s):wpAny M A (letOwnedTupleGo tg (.ref it) u) Q E s:=by
  unfold letOwnedTupleGo
  cases tg <;> first
    | exact wpAny_pure hQ
    | (cases u <;> first
        | exact wpAny_pure hQ
        | (refine wpAny_bind (wpAny_load ho ?_)
           rw [hc,hd]
           show wpAny M A (if (["enumerate","zip","dict_itemiterator","dict_reverseitemiterator","odict_iterator","itertools.zip_longest","itertools.pairwise"].contains n && vs[0]? == some (rawInt _))=true then _ else _) Q E s
           rw [if_neg (by intro h;rw [hn,Bool.false_and] at h;cases h)]
           exact wpAny_pure hQ))
def Itl (K:q0a) (a:Addr):It :=
 ⟨λi H => ∃ xs x,SqL K H a xs/\xs[i]? = some x,λi H x H'=>H'=H/\∀ xs,SqL K H a xs->xs[i]? = some x,λi H => ∃ xs,SqL K H a xs/\xs.length<=i⟩
def Itr (lo:Int) (n:Nat):It:=⟨λi _=>i<n,λi H x H'=>H'=H/\x=.int (lo+i),λi _=>n<=i⟩
theorem aR6 {P:Program} {w:World} {K:q0a} {tg:Expr} (a it:Addr):aO2 P w K tg (Itl K a) [it] it (λi h=>h.IsListIter it a i) where
 mem:=by simp
 obj:=λi h st b hb=>by
  have e:b=it:=by simpa using hb
  subst e;obtain ⟨o,e,c,d⟩:=st;exact ⟨o,e,λv z=>by rw [d] at z;cases z⟩
 keep:=λi h h' st k=>st.at λo e=>k it (by simp) o e
 item:=by
  intro X hP hw hK hc i pins s σ H E I hf st hg;subst hP hw hK;obtain ⟨xs,x,hq,hx⟩:=hg;obtain ⟨its,rv,p,hz⟩:=I.list hq;obtain ⟨u,hu,ru⟩:=rv.get hx;obtain ⟨f0,f1,f2,f3,f4,f5⟩:=hf it (by simp)
  refine wpAny_pyNext_list_item st p.isList (x:=u) (by simpa using hu) λh' st' sb=>?_
  have I1:Inv X pins σ H { s with heap:=h' }:=I.turned (t':=s.toks) (λb o hb e=>(sb.2 b hb).trans e) f0 f1 f3 f4 f5;obtain ⟨o,e,c,d⟩:=id st';exact ⟨u,rfl,ba0 (s:={ s with heap:=h' }) e c d (by decide) ⟨x,H,I1,ru,⟨rfl,λys hy=>by rw [I.list_inj hy hq];exact hx⟩,st',λb hb=>(hf b hb).1⟩⟩
 done:=by
  intro X hP hw hK hc i pins s σ H E I hf st hg;subst hP hw hK;obtain ⟨xs,hq,hx⟩:=hg;obtain ⟨its,rv,p,hz⟩:=I.list hq;obtain ⟨f0,f1,f2,f3,f4,f5⟩:=hf it (by simp)
  have hl:=rv.length;exact wpAny_pyNext_list_end (I.ok.hd hc) st p.isList (by simp;omega) λh' eb=>⟨rfl,I.turned (t':=s.toks) (λb o hb e=>eb b o hb e) f0 f1 f3 f4 f5⟩
 self:=λ_ _ _ _ _ st h=>wpAny_pyIter_listiter st h
theorem aK7 {P:Program} {w:World} {K:q0a} {tg:Expr} (it:Addr) (lo:Int) (n:Nat):aO2 P w K tg (Itr lo n) [it] it (λi h=>IsRangeIter h it (lo+(i:Nat)*1) ((n:Int)-(i:Nat)) 1) where
 mem:=by simp
 obj:=λi h st b hb=>by
  have e:b=it:=by simpa using hb
  subst e
  exact ⟨_,st,λv z=>by
   have z':Data.fields _=Data.cell v:=z
   cases z'⟩
 keep:=λi h h' st k=>k it (by simp) _ st
 item:=by
  intro X hP hw hK hc i pins s σ H E I hf st hg;subst hP hw hK;obtain ⟨f0,f1,f2,f3,f4,f5⟩:=hf it (by simp)
  have W:=Walks.range (prog:=X.prog) (w:=X.w) (I.ok.hd hc) it lo 1 n;refine W.item i s _ _ hg st λv h' tk hv st' kk=>?_;obtain ⟨t,rfl⟩:=hv;have I1:Inv X pins σ H { s with heap:=h',toks:=tk }:=I.turned (λb o hb e=>kk b o (by simpa using hb) e) f0 f1 f3 f4 f5
  refine ⟨_,rfl,ba0 (s:={ s with heap:=h',toks:=tk }) (n := "range_iterator") st' rfl rfl (by decide) ⟨.int (lo+i),H,I1,⟨t,?_⟩,⟨rfl,rfl⟩,st',λb hb=>(hf b hb).1⟩⟩
  rw [Int.mul_one]
 done:=by
  intro X hP hw hK hc i pins s σ H E I hf st hg;subst hP hw hK;obtain ⟨f0,f1,f2,f3,f4,f5⟩:=hf it (by simp)
  exact wpAny_pyNext_range_end (I.ok.hd hc) st (by have:n<=i:=hg;omega) λh' eb=>⟨rfl,I.turned (t':=s.toks) (λb o hb e=>eb b o hb e) f0 f1 f3 f4 f5⟩
 self:=λ_ _ _ _ _ st h=>wpAny_pyIter_rangeiter st h
section
variable {X:Cx} {tg:Expr}
def au6 (K:q0a) (tl:TE):TI:=λσ H R=>tl σ H λx H1 => ∃ a,x=.ref a/\(∃ xs,SqL K H1 a xs)/\R (Itl K a) H1
theorem z9 {l:Expr} {tl:TE} (hl:PE X l tl):PI X tg l (au6 X.K tl):=by
 intro pins s σ H R I h;refine thn (hl pins s σ H _ I h) λv s1 zq=>?_;obtain ⟨x,H1,I1,r1,q1⟩:=zq;obtain ⟨a,e,⟨xs,hq⟩,q⟩:=q1;subst e
 cases r1
 obtain ⟨its,rv,p,hz⟩:=I1.list hq;refine wpAny_pyIter_list p.isList ?_;refine ⟨s1.heap.objs.size,[s1.heap.objs.size],_,_,H1,rfl,I1.kept (t':=s1.toks) λb o e=>q0e _ e,aR6 a _,⟨_,z0a _ rfl,rfl,rfl⟩,λb hb=>?_,q⟩;have e:b=s1.heap.objs.size:=by simpa using hb
 subst e;exact I1.fpOk (q0h _) (I1.hok.fresh (q0h _))
theorem aH6 {pins:List (Addr × Obj)} {σ:St} {H:Hp} {s:Shared} {R:It->Hp->Prop} {E:Value->Shared->Prop} {lo hi:Int} {t u v:Tok} {tk:Nat} (I:Inv X pins σ H s) (h1:-(2 ^ 62)<=lo) (h2:lo<2 ^ 62) (h3:-(2 ^ 62)<=hi) (h4:hi<2 ^ 62)
  (q:R (Itr lo (hi-lo).toNat) H):wpAny (model X.prog X.w) X.A (pyIter (.ref s.heap.objs.size)) (PIE X pins σ tg R) E { s with heap:=s.heap.push { cls:=.type "range",data:=.fields #[.int lo t,.int hi u,.int 1 v] },toks:=tk }:=by
 refine wpAny_pyIter_range (IsRange.new ..) (small_one h1 h2 h3 h4) ?_;have I1:Inv X pins σ H { s with heap:=s.heap.push { cls:=.type "range",data:=.fields #[.int lo t,.int hi u,.int 1 v] },toks:=tk }:=I.kept λb o e=>q0e _ e
 refine ⟨(s.heap.push { cls:=.type "range",data:=.fields #[.int lo t,.int hi u,.int 1 v] }).objs.size,[(s.heap.push { cls:=.type "range",data:=.fields #[.int lo t,.int hi u,.int 1 v] }).objs.size],_,_,H,rfl,
  I1.kept (t':=tk) λb o e=>q0e _ e,aK7 _ lo (hi-lo).toNat,?_,λb hb=>?_,q⟩
 ·have e1:lo+((0:Nat):Int)*1=lo:=by simp
  have e2:(((hi-lo).toNat:Nat):Int)-((0:Nat):Int)=Builtin.Range.rangeSize lo hi 1:=by rw [rangeSize_one];split <;> omega
  show IsRangeIter _ _ (lo+((0:Nat):Int)*1) ((((hi-lo).toNat:Nat):Int)-((0:Nat):Int)) 1;rw [e1,e2];exact z0a _ rfl
 ·have e:b=(s.heap.push { cls:=.type "range",data:=.fields #[.int lo t,.int hi u,.int 1 v] }).objs.size:=by simpa using hb
  subst e;exact I1.fpOk (q0h _) (I1.hok.fresh (q0h _))
def aZ8 (ta:TA):TI:=λσ H R=>ta σ H λvs H1 => ∃ j:Int,vs=[.int j]/\-(2 ^ 62)<=j/\j<2 ^ 62/\R (Itr 0 j.toNat) H1
def aZ7 (ta:TA):TI:=λσ H R=>ta σ H λvs H1 => ∃ i j:Int,vs=[.int i,.int j]/\(-(2 ^ 62)<=i/\i<2 ^ 62/\-(2 ^ 62)<=j/\j<2 ^ 62)/\R (Itr i (j-i).toNat) H1
theorem A8 {a:Expr} {ta:TA} {p pos:Pos} (hg:Gl X "range") (hm:X.mg "range" = none) (ha:PA X [a] ta) (hs:starEach [a] X.env=[(false,eval a X.env)]:=by rfl):PI X tg (.Call (.Name "range" p) [a] [] pos) (aZ8 ta):=by
 intro pins s σ H R I h;refine Call_ (ad7 I hg hm boot_range (PyProof.Rows.callWith_type1 (thn (ha pos pins s σ H _ I h) λus s1 zq=>?_) hs rfl));obtain ⟨vs,H1,I1,r1,q1⟩:=zq;obtain ⟨j,e,q1,q2,q⟩:=q1;subst e
 cases r1 with
 | cons r rr =>
  cases rr
  obtain ⟨t,rfl⟩:=r;exact call_range_1 (aH6 I1 ⋯ ⋯ q1 q2 (by simpa using q))
theorem an1 {a b:Expr} {ta:TA} {p pos:Pos} (hg:Gl X "range") (hm:X.mg "range" = none) (ha:PA X [a,b] ta) (hs:starEach [a,b] X.env=[(false,eval a X.env),(false,eval b X.env)]:=by rfl) (hs2:starEach [b] X.env=[(false,eval b X.env)]:=by rfl) :
  PI X tg (.Call (.Name "range" p) [a,b] [] pos) (aZ7 ta):=by
 intro pins s σ H R I h;refine Call_ (ad7 I hg hm boot_range (PyProof.Rows.callWith_type1 (thn (ha pos pins s σ H _ I h) λus s1 zq=>?_) (by rw [hs,hs2]) (by rw [hs2];rfl)))
 obtain ⟨vs,H1,I1,r1,q1⟩:=zq;obtain ⟨i,j,e,⟨q1,q2,q3,q4⟩,q⟩:=q1;subst e
 cases r1 with
 | cons r rr =>
  cases rr with
  | cons r' rr =>
   cases rr
   obtain ⟨t,rfl⟩:=r;obtain ⟨t',rfl⟩:=r';exact call_range_2 (aH6 I1 q1 q2 q3 q4 q)
def br3 (wi:TI) (g:TG) (tb:TS):TS:=λD σ H=>wi σ H λJ H1 => ∃ W:Nat->Nat->St->Hp->Prop,(∃ m,W 0 m σ H1)/\∀ i m σ H,W i m σ H ->
 (J.stop i H/\D.nx σ H) \/ (J.go i H/\∃ N:St->Hp->Prop,(∀ σ' H',N σ' H'->∃ m',m'<m/\W (i+1) m' σ' H')/\∀ x H',J.yld i H x H'->g x σ H' λσ2 H2=>tb { D with nx:=N,ct:=N,bk:=D.nx } σ2 H2)
def an0 (fp:List Addr) (h:Heap):List (Addr × Obj):=fp.filterMap λb=>(h.get? b).map λo=>(b,o)
theorem k6 {fp:List Addr} {h:Heap} {b:Addr} {o:Obj} (hb:b ∈ fp) (e:h.get? b=some o):(b,o) ∈ an0 fp h:=g0b.mpr ⟨b,hb,by rw [e];rfl⟩
theorem aS8 {fp:List Addr} {h:Heap} {p:Addr × Obj} (hp:p ∈ an0 fp h):p.1 ∈ fp/\h.get? p.1=some p.2:=by
 obtain ⟨b,hb,e⟩:=g0b.mp hp
 cases q:h.get? b with
 | none=>rw [q] at e;cases e
 | some o =>
  rw [q] at e;have e':(b,o)=p:=Option.some.inj e;subst e';exact ⟨hb,q⟩
theorem Inv.pinned {pins:List (Addr × Obj)} {σ:St} {H:Hp} {s:Shared} {fp:List Addr} (I:Inv X pins σ H s) (hf:∀ b ∈ fp,ab0 X pins H b) (ho:∀ b ∈ fp,∃ o,s.heap.get? b=some o/\∀ v,o.data ≠ .cell v):Inv X (pins ++ an0 fp s.heap) σ H s :=
 I.pins_of λp hp=>(z0r.mp hp).elim (λz=>I.pin p (q0d _ z)) λz=>by
  obtain ⟨hb,e⟩:=aS8 z;obtain ⟨f0,f1,f2,_⟩:=hf p.1 hb;obtain ⟨o,e',d⟩:=ho p.1 hb;rw [e] at e';cases e';exact ⟨e,f0,f1,f2,d⟩
theorem Inv.unpinned {pins pl:List (Addr × Obj)} {σ:St} {H:Hp} {s:Shared} (I:Inv X (pins ++ pl) σ H s):Inv X pins σ H s:=I.pins_of λp hp=>I.pin p (q0d _ (u0j _ hp))
theorem Y4 {iter:Expr} {body:List Stmt} {wi:TI} {g:TG} {tb:TS} {pos:Pos} (hp:PassesOwn (model X.prog X.w) X.A X.env X.xe) (hc:X.calm=true) (hi:PI X tg iter wi) (hg:PG X tg g) (hb:PSs X body tb)
  (hs:∀ x,foldedSetIterable iter X.env x=pure x:=by intro _;rfl):PS X (.For tg iter body [] pos) (br3 wi g tb):=by
 intro pins s σ H D I h;refine wpAny_For (thn (hi pins s σ H _ I h) λv s1 h1=>thn h1 λitv s2 h2=>?_) hs;obtain ⟨it,fp,tn,J,H2,e,I2,T,st2,f2,W,⟨m0,w0⟩,turn⟩:=h2;subst e
 -- what stays true of the iterator's objects through the loop
 have stat:∀ {H':Hp},(∀ b ∈ fp,H' b=none)->∀ b ∈ fp,ab0 X pins H' b:=λhn b hb=>⟨hn b hb,(f2 b hb).2⟩;refine codeAny_forLoop_any (λn s' => ∃ i σ' H',Inv X pins σ' H' s'/\tn i s'.heap/\(∀ b ∈ fp,H' b=none)/\W i n σ' H') ?_ m0 ⟨0,σ,H2,I2,st2,λb hb=>(f2 b hb).1,w0⟩;rintro n s3 ⟨i,σ3,H3,I3,st3,fr3,w3⟩;rcases turn i n σ3 H3 w3 with ⟨stop,qn⟩ | ⟨go,N,hN,step⟩
 ·refine wpAny_passesOwn hp (thn (T.done X rfl rfl rfl hc i pins s3 σ3 H3 X.xe I3 (stat fr3) st3 stop) λr s4 zq=>?_)
  obtain ⟨hr,I4⟩:=zq;subst hr;exact wpAny_execs_nil ⟨σ3,H3,I4,qn⟩
 ·refine wpAny_passesOwn hp (thn (T.item X rfl rfl rfl hc i pins s3 σ3 H3 X.xe I3 (stat fr3) st3 go) λr s4 zq=>?_)
  obtain ⟨u,hr,h4⟩:=zq;subst hr;refine wpAny_passesOwn hp (thn h4 λ_ s5 zq=>?_);obtain ⟨x,H5,I5,r5,y5,st5,fr5⟩:=zq;have I5':=I5.pinned (stat fr5) (T.obj _ _ st5);refine wpAny_passesOwn hp (thn (hg _ s5 σ3 H5 x u _ I5' r5 (step x H5 y5)) λ_ s6 zq=>?_);obtain ⟨σ6,H6,I6,q6⟩:=zq;refine wpAny_passesOwn hp (thn (hb _ s6 σ6 H6 _ I6 q6) λf s7 q7=>?_)
  have again:∀ {σ7:St} {H7:Hp},Inv X (pins ++ an0 fp s5.heap) σ7 H7 s7->N σ7 H7->∃ m,m<n/\∃ i σ' H',Inv X pins σ' H' s7/\tn i s7.heap/\(∀ b ∈ fp,H' b=none)/\W i m σ' H':=fun {σ7 H7} I7 n7=>by
   obtain ⟨m',hm,w7⟩:=hN σ7 H7 n7;refine ⟨m',hm,i+1,σ7,H7,I7.unpinned,T.keep _ _ _ st5 λb hb o e=>(I7.pin (b,o) (q0d _ (q0d _ (k6 hb e)))).1,λb hb=>?_,w7⟩;obtain ⟨o,e,d⟩:=T.obj _ _ st5 b hb;exact (I7.pin (b,o) (q0d _ (q0d _ (k6 hb e)))).2.1
  cases f with
  | next=>obtain ⟨σ7,H7,I7,n7⟩:=q7;exact again I7 n7
  | cont=>obtain ⟨σ7,H7,I7,n7⟩:=q7;exact again I7 n7
  | brk=>obtain ⟨σ7,H7,I7,q7⟩:=q7;exact ⟨σ7,H7,I7.unpinned,q7⟩
  | ret v=>obtain ⟨x7,σ7,H7,I7,r7,q7⟩:=q7;exact ⟨x7,σ7,H7,I7.unpinned,r7,q7⟩
end
theorem aJ3 {K:q0a} {a:Addr} {xs:List V} {g:TG} {tb:TS} {D:ak1} {σ:St} {H:Hp} (Pv:Nat->St->Hp->Prop) (h0:Pv 0 σ H) (hl:∀ i σ H,i<=xs.length->Pv i σ H->SqL K H a xs)
  (hs:∀ i x σ H,xs[i]? = some x->Pv i σ H->g x σ H λσ2 H2=>tb { D with nx:=Pv (i+1),ct:=Pv (i+1),bk:=D.nx } σ2 H2) (hd:∀ σ H,Pv xs.length σ H->D.nx σ H) :
  ∃ W:Nat->Nat->St->Hp->Prop,(∃ m,W 0 m σ H)/\∀ i m σ H,W i m σ H ->
   ((Itl K a).stop i H/\D.nx σ H) \/ ((Itl K a).go i H/\∃ N:St->Hp->Prop,(∀ σ' H',N σ' H'->∃ m',m'<m/\W (i+1) m' σ' H')/\∀ x H',(Itl K a).yld i H x H'->g x σ H' λσ2 H2=>tb { D with nx:=N,ct:=N,bk:=D.nx } σ2 H2):=by
 refine ⟨λi m σ H=>m=xs.length-i/\i<=xs.length/\Pv i σ H,⟨xs.length,by simp,z0n _,h0⟩,?_⟩
 rintro i m σ H ⟨rfl,hi,p⟩;have q:=hl i σ H hi p
 by_cases hlt:i<xs.length
 ·refine .inr ⟨⟨xs,xs[i],q,by simp [hlt]⟩,Pv (i+1),λσ' H' p'=>⟨xs.length-(i+1),⋯,rfl,hlt,p'⟩,λx H' y=>?_⟩
  obtain ⟨e,y⟩:=y;subst e;exact hs i x σ _ (y xs q) p
 ·have e:i=xs.length:=⋯
  subst e;exact .inl ⟨⟨xs,q,q0h _⟩,hd σ H p⟩
theorem Y0 {lo:Int} {n:Nat} {g:TG} {tb:TS} {D:ak1} {σ:St} {H:Hp} (Pv:Nat->St->Hp->Prop) (h0:Pv 0 σ H)
  (hs:∀ i σ H,i<n->Pv i σ H->g (.int (lo+i)) σ H λσ2 H2=>tb { D with nx:=Pv (i+1),ct:=Pv (i+1),bk:=D.nx } σ2 H2) (hd:∀ σ H,Pv n σ H->D.nx σ H) :
  ∃ W:Nat->Nat->St->Hp->Prop,(∃ m,W 0 m σ H)/\∀ i m σ H,W i m σ H ->
   ((Itr lo n).stop i H/\D.nx σ H) \/ ((Itr lo n).go i H/\∃ N:St->Hp->Prop,(∀ σ' H',N σ' H'->∃ m',m'<m/\W (i+1) m' σ' H')/\∀ x H',(Itr lo n).yld i H x H'->g x σ H' λσ2 H2=>tb { D with nx:=N,ct:=N,bk:=D.nx } σ2 H2):=by
 refine ⟨λi m σ H=>m=n-i/\i<=n/\Pv i σ H,⟨n,by simp,z0n _,h0⟩,?_⟩
 rintro i m σ H ⟨rfl,hi,p⟩
 by_cases hlt:i<n
 ·refine .inr ⟨hlt,Pv (i+1),λσ' H' p'=>⟨n-(i+1),⋯,rfl,hlt,p'⟩,λx H' y=>?_⟩
  obtain ⟨e,y⟩:=y;subst e y;exact hs i σ _ hlt p
 ·have e:i=n:=⋯
  subst e;exact .inl ⟨q0h _,hd σ H p⟩
theorem aG5 {c:TT} {tb:TS} {D:ak1} {σ:St} {H:Hp} (Pv:St->Hp->Prop) (μ:St->Hp->Nat) (h0:Pv σ H)
  (hs:∀ σ H,Pv σ H->c σ H λb H1=>if b=true then tb { D with nx:=λσ' H'=>Pv σ' H'/\μ σ' H'<μ σ H,ct:=λσ' H'=>Pv σ' H'/\μ σ' H'<μ σ H,bk:=D.nx } σ H1 else D.nx σ H1)
  (mono:∀ σ H Q Q',(∀ b H1,Q b H1->Q' b H1)->c σ H Q->c σ H Q'):aB8 c tb D σ H:=by
 refine ⟨λm σ H=>m=μ σ H/\Pv σ H,⟨_,rfl,h0⟩,?_⟩;rintro m σ H ⟨rfl,p⟩;refine mono σ H _ _ (λb H1 q=>?_) (hs σ H p)
 cases b with
 | true=>exact ⟨_,λσ' H' ⟨p',l⟩=>⟨_,l,rfl,p'⟩,q⟩
 | false=>exact q
abbrev R2:=V->V->Hp->VK->Prop
def OpR (X:Cx) (f:Value->Value->Sem Value) (r:R2):Prop :=
 ∀ (pins:List (Addr × Obj)) (s:Shared) (σ:St) (H:Hp) (x y:V) (v u:Value) (Q:VK),Inv X pins σ H s->A5 x v->A5 y u->r x y H Q ->
  wpAny (model X.prog X.w) X.A (f v u) (EP X pins σ Q) X.xe s
def UnR (X:Cx) (f:Value->Sem Value) (r:V->Hp->VK->Prop):Prop :=
 ∀ (pins:List (Addr × Obj)) (s:Shared) (σ:St) (H:Hp) (x:V) (v:Value) (Q:VK),Inv X pins σ H s->A5 x v->r x H Q ->
  wpAny (model X.prog X.w) X.A (f v) (EP X pins σ Q) X.xe s
def Y6 (X:Cx) (f:Value) (r:List V->Hp->VK->Prop):Prop :=
 ∀ (pins:List (Addr × Obj)) (s:Shared) (σ:St) (H:Hp) (xs:List V) (us:List Value) (Q:VK),Inv X pins σ H s->k9 xs us->r xs H Q ->
  wpAny (model X.prog X.w) X.A (call f us) (EP X pins σ Q) X.xe s
def bs9 (X:Cx) (r:V->Hp->(Bool->Hp->Prop)->Prop):Prop :=
 ∀ (pins:List (Addr × Obj)) (s:Shared) (σ:St) (H:Hp) (x:V) (v:Value) (Q:Bool->Hp->Prop),Inv X pins σ H s->A5 x v->r x H Q ->
  wpAny (model X.prog X.w) X.A (truthy v) (TP X pins σ Q) X.xe s
def tOp (r:R2) (ta tb:TE):TE:=λσ H Q=>ta σ H λx H1=>tb σ H1 λy H2=>r x y H2 Q
def tUn (r:V->Hp->VK->Prop) (ta:TE):TE:=λσ H Q=>ta σ H λx H1=>r x H1 Q
def rI (C:Int->Int->Prop) (g:Int->Int->V):R2:=λx y H Q => ∃ i j,x=.int i/\y=.int j/\C i j/\Q (g i j) H
def rI0 (g:Int->Int->V):R2:=λx y H Q => ∃ i j,x=.int i/\y=.int j/\Q (g i j) H
def rU (g:Int->V):V->Hp->VK->Prop:=λx H Q => ∃ i,x=.int i/\Q (g i) H
section
variable {X:Cx} {a b c:Expr} {ta tb tc:TE} {pos:Pos}
theorem bm8 (ha:PE X a ta) (hb:PE X b tb) {pins:List (Addr × Obj)} {s:Shared} {σ:St} {H:Hp} {R:V->V->Hp->Prop} (I:Inv X pins σ H s)
  (h:ta σ H λx H1=>tb σ H1 λy H2=>R x y H2) {Q:Value->Shared->Prop} {f:Value->Value->Sem Value}
  (hf:∀ v u s2 x y H2,Inv X pins σ H2 s2->A5 x v->A5 y u->R x y H2->wpAny (model X.prog X.w) X.A (f v u) Q X.xe s2) :
  wpAny (model X.prog X.w) X.A (eval a X.env) (λv s₁=>wpAny (model X.prog X.w) X.A (eval b X.env) (λu s₂=>wpAny (model X.prog X.w) X.A (f v u) Q X.xe s₂) X.xe s₁) X.xe s:=by
 refine thn (ha pins s σ H _ I h) λv s1 zq=>?_;obtain ⟨x,H1,I1,r1,q1⟩:=zq;refine thn (hb pins s1 σ H1 _ I1 q1) λu s2 zq=>?_;obtain ⟨y,H2,I2,r2,q2⟩:=zq;exact hf v u s2 x y H2 I2 r1 r2 q2
theorem d2 {op:Operator} {r:R2} (ho:OpR X (binaryOp op) r) (ha:PE X a ta) (hb:PE X b tb):PE X (.BinOp a op b pos) (tOp r ta tb):=by
 intro pins s σ H Q I h;exact wpAny_BinOp (bm8 ha hb I h λv u s2 x y H2 I2 rx ry q=>ho pins s2 σ H2 x y v u Q I2 rx ry q)
theorem ae9 {op:UnaryOp} {r:V->Hp->VK->Prop} (ho:UnR X (unaryOp op) r) (ha:PE X a ta):PE X (.UnaryOp op a pos) (tUn r ta):=by
 intro pins s σ H Q I h;exact UnaryOp_ (thn (ha pins s σ H _ I h) λv s1 ⟨x,H1,I1,r1,q1⟩=>ho pins s1 σ H1 x v Q I1 r1 q1)
theorem opI {f:Value->Value->Sem Value} {C:Int->Int->Prop} {g:Int->Int->Int}
  (rule:∀ (i j:Int) (t u:Tok) (s:Shared) (Q:Value->Shared->Prop) (E:Value->Shared->Prop),C i j->Q (.int (g i j) s.toks) { s with toks:=s.toks+1 }->wpAny (model X.prog X.w) X.A (f (.int i t) (.int j u)) Q E s) :
  OpR X f (rI C λi j=>.int (g i j)):=by
 intro pins s σ H x y v u Q I rx ry h;obtain ⟨i,j,rfl,rfl,hc,q⟩:=h;obtain ⟨t,rfl⟩:=rx;obtain ⟨t',rfl⟩:=ry;exact rule i j t t' s _ _ hc ⟨.int (g i j),H,I.tok _,⟨_,rfl⟩,q⟩
theorem bo6 {f:Value->Value->Sem Value} {g:Int->Int->Int}
  (rule:∀ (i j:Int) (t u:Tok) (s:Shared) (Q:Value->Shared->Prop) (E:Value->Shared->Prop),Q (.int (g i j) s.toks) { s with toks:=s.toks+1 }->wpAny (model X.prog X.w) X.A (f (.int i t) (.int j u)) Q E s) :
  OpR X f (rI0 λi j=>.int (g i j)):=by
 intro pins s σ H x y v u Q I rx ry h;obtain ⟨i,j,rfl,rfl,q⟩:=h;obtain ⟨t,rfl⟩:=rx;obtain ⟨t',rfl⟩:=ry;exact rule i j t t' s _ _ ⟨.int (g i j),H,I.tok _,⟨_,rfl⟩,q⟩
theorem be2 {f:Value->Value->Sem Value} {g:Int->Int->Bool}
  (rule:∀ (i j:Int) (t u:Tok) (s:Shared) (Q:Value->Shared->Prop) (E:Value->Shared->Prop),Q (.bool (g i j)) s->wpAny (model X.prog X.w) X.A (f (.int i t) (.int j u)) Q E s) :
  OpR X f (rI0 λi j=>.bl (g i j)):=by
 intro pins s σ H x y v u Q I rx ry h;obtain ⟨i,j,rfl,rfl,q⟩:=h;obtain ⟨t,rfl⟩:=rx;obtain ⟨t',rfl⟩:=ry;exact rule i j t t' s _ _ ⟨.bl (g i j),H,I,rfl,q⟩
def bo1 (i j:Int):Prop:=0<=j/\j<=1000000/\i.natAbs<2 ^ 64
theorem y0:OpR X (binaryOp .Add) (rI0 λi j=>.int (i+j)):=bo6 λ_ _ _ _ _ _ _ q=>add_int q
theorem G8:OpR X (binaryOp .Sub) (rI0 λi j=>.int (i-j)):=bo6 λ_ _ _ _ _ _ _ q=>sub_int q
theorem P0:OpR X (binaryOp .Mod) (rI (λ_ j=>j ≠ 0) λi j=>.int (i.fmod j)):=opI λ_ _ _ _ _ _ _ hc q=>mod_int' hc q
theorem af0:OpR X (binaryOp .Pow) (rI bo1 λi j=>.int (i ^ j.toNat)):=opI λ_ _ _ _ _ _ _ hc q=>pow_int_small hc.1 hc.2.1 hc.2.2 q
theorem unI {f:Value->Sem Value} {g:Int->Int}
  (rule:∀ (i:Int) (t:Tok) (s:Shared) (Q:Value->Shared->Prop) (E:Value->Shared->Prop),Q (.int (g i) s.toks) { s with toks:=s.toks+1 }->wpAny (model X.prog X.w) X.A (f (.int i t)) Q E s) :
  UnR X f (rU λi=>.int (g i)):=by
 intro pins s σ H x v Q I rx h;obtain ⟨i,rfl,q⟩:=h;obtain ⟨t,rfl⟩:=rx;exact rule i t s _ _ ⟨.int (g i),H,I.tok _,⟨_,rfl⟩,q⟩
theorem Y1:UnR X (unaryOp .USub) (rU λi=>.int (-i)):=unI λ_ _ _ _ _ q=>neg_int q
def aw2:V->V->Bool
 | .non,.non=>true | .non,.int _=>true | .int _,.non=>true | .non,.bl _=>true | .bl _,.non=>true | .non,.str _=>true | .str _,.non=>true
 | .int _,.int _=>true | .bl _,.bl _=>true | .str _,.str _=>true | .byt _,.byt _=>true
 | .int _,.str _=>true | .str _,.int _=>true | .bl _,.str _=>true | .str _,.bl _=>true
 | _,_=>false
def rEq:R2:=λx y H Q=>aw2 x y=true/\Q (.bl (decide (x=y))) H
def rNe:R2:=λx y H Q=>aw2 x y=true/\Q (.bl (!decide (x=y))) H
theorem aQ4 {i j:Int}:decide (V.int i=V.int j)=(i == j):=by
 rw [u0m]
 simp
theorem bb3 {i j:Bool}:decide (V.bl i=V.bl j)=(i == j):=by
 rw [u0m]
 simp
theorem aQ3 {i j:Str}:decide (V.str i=V.str j)=(i == j):=by
 rw [u0m]
 simp
theorem aQ5 {i j:Array UInt8}:decide (V.byt i=V.byt j)=(i.toList == j.toList):=by
 rw [u0m]
 cases i
 cases j
 simp
theorem y7 {pins:List (Addr × Obj)} {σ:St} {H:Hp} {s:Shared} {Q:VK} {k k':Bool} (I:Inv X pins σ H s) (q:Q (.bl k) H) (e:k=k'):EP X pins σ Q (.bool k') s:=by
 subst e;exact ⟨.bl k,H,I,rfl,q⟩
theorem R3:OpR X (compareOp .Eq) rEq:=by
 intro pins s σ H x y v u Q I rx ry h;obtain ⟨hs,q⟩:=h
 cases x with
 | non =>
  cases rx
  cases y with
  | non=>cases ry;exact PySem.EqNone.eq_none_none (y7 I q (by simp))
  | bl j=>cases ry;exact PySem.EqNone.eq_none_bool (y7 I q (by simp))
  | int j=>obtain ⟨t',rfl⟩:=ry;exact PySem.EqNone.eq_none_int (y7 I q (by simp))
  | str j=>obtain ⟨t',rfl⟩:=ry;exact PySem.EqNone.eq_none_str (y7 I q (by simp))
  | _=>exact absurd (show false=true from hs) q0p
 | bl i =>
  cases rx
  cases y with
  | non=>cases ry;exact PySem.EqNone.eq_bool_none (y7 I q (by simp))
  | bl j=>cases ry;exact eq_bool (y7 I q bb3)
  | str j=>obtain ⟨t',rfl⟩:=ry;exact PySem.EqMixed.eq_bool_str (y7 I q (by simp))
  | _=>exact absurd (show false=true from hs) q0p
 | int i =>
  obtain ⟨t,rfl⟩:=rx
  cases y with
  | non=>cases ry;exact PySem.EqNone.eq_int_none (y7 I q (by simp))
  | int j=>obtain ⟨t',rfl⟩:=ry;exact eq_int (y7 I q aQ4)
  | str j=>obtain ⟨t',rfl⟩:=ry;exact PySem.EqMixed.eq_int_str (y7 I q (by simp))
  | _=>exact absurd (show false=true from hs) q0p
 | str i =>
  obtain ⟨t,rfl⟩:=rx
  cases y with
  | non=>cases ry;exact PySem.EqNone.eq_str_none (y7 I q (by simp))
  | bl j=>cases ry;exact PySem.EqMixed.eq_str_bool (y7 I q (by simp))
  | int j=>obtain ⟨t',rfl⟩:=ry;exact PySem.EqMixed.eq_str_int (y7 I q (by simp))
  | str j=>obtain ⟨t',rfl⟩:=ry;exact eq_str (y7 I q aQ3)
  | _=>exact absurd (show false=true from hs) q0p
 | byt i =>
  obtain ⟨t,rfl⟩:=rx
  cases y with
  | byt j=>obtain ⟨t',rfl⟩:=ry;exact PySem.W.eq_bytes (y7 I q aQ5)
  | _=>exact absurd (show false=true from hs) q0p
 | _=>cases y <;> exact absurd (show false=true from hs) q0p
theorem al3:OpR X (compareOp .NotEq) rNe:=by
 intro pins s σ H x y v u Q I rx ry h;obtain ⟨hs,q⟩:=h
 cases x with
 | non =>
  cases rx
  cases y with
  | non=>cases ry;exact PySem.EqNone.ne_none_none (y7 I q (by simp))
  | bl j=>cases ry;exact PySem.EqNone.ne_none_bool (y7 I q (by simp))
  | int j=>obtain ⟨t',rfl⟩:=ry;exact PySem.EqNone.ne_none_int (y7 I q (by simp))
  | str j=>obtain ⟨t',rfl⟩:=ry;exact PySem.EqNone.ne_none_str (y7 I q (by simp))
  | _=>exact absurd (show false=true from hs) q0p
 | bl i =>
  cases rx
  cases y with
  | non=>cases ry;exact PySem.EqNone.ne_bool_none (y7 I q (by simp))
  | bl j=>cases ry;exact ne_bool (y7 I q (congrArg not bb3))
  | str j=>obtain ⟨t',rfl⟩:=ry;exact PySem.EqMixed.ne_bool_str (y7 I q (by simp))
  | _=>exact absurd (show false=true from hs) q0p
 | int i =>
  obtain ⟨t,rfl⟩:=rx
  cases y with
  | non=>cases ry;exact PySem.EqNone.ne_int_none (y7 I q (by simp))
  | int j=>obtain ⟨t',rfl⟩:=ry;exact ne_int (y7 I q (congrArg not aQ4))
  | str j=>obtain ⟨t',rfl⟩:=ry;exact PySem.EqMixed.ne_int_str (y7 I q (by simp))
  | _=>exact absurd (show false=true from hs) q0p
 | str i =>
  obtain ⟨t,rfl⟩:=rx
  cases y with
  | non=>cases ry;exact PySem.EqNone.ne_str_none (y7 I q (by simp))
  | bl j=>cases ry;exact PySem.EqMixed.ne_str_bool (y7 I q (by simp))
  | int j=>obtain ⟨t',rfl⟩:=ry;exact PySem.EqMixed.ne_str_int (y7 I q (by simp))
  | str j=>obtain ⟨t',rfl⟩:=ry;exact ne_str (y7 I q (congrArg not aQ3))
  | _=>exact absurd (show false=true from hs) q0p
 | byt i =>
  obtain ⟨t,rfl⟩:=rx
  cases y with
  | byt j=>obtain ⟨t',rfl⟩:=ry;exact PySem.W.ne_bytes (y7 I q (congrArg not aQ5))
  | _=>exact absurd (show false=true from hs) q0p
 | _=>cases y <;> exact absurd (show false=true from hs) q0p
theorem ab6:OpR X (compareOp .Lt) (rI0 λi j=>.bl (decide (i<j))):=be2 λ_ _ _ _ _ _ _ q=>lt_int q
theorem aX9:OpR X (compareOp .LtE) (rI0 λi j=>.bl (decide (i<=j))):=be2 λ_ _ _ _ _ _ _ q=>le_int q
theorem ae2:OpR X (compareOp .Gt) (rI0 λi j=>.bl (decide (j<i))):=be2 λ_ _ _ _ _ _ _ q=>gt_int q
theorem bo5:OpR X (compareOp .GtE) (rI0 λi j=>.bl (decide (j<=i))):=be2 λ_ _ _ _ _ _ _ q=>ge_int q
theorem i5 (b:Expr) {op:CmpOp} (h:op ≠ .In:=by decide) (h2:op ≠ .NotIn:=by decide):behindInMarks op b=false:=by
 have e1:(op == CmpOp.In)=false:=by cases op <;> first | rfl | exact absurd rfl h
 have e2:(op == CmpOp.NotIn)=false:=by cases op <;> first | rfl | exact absurd rfl h2
 cases b <;> simp [behindInMarks,e1,e2]
theorem y4 {op:CmpOp} {r:R2} (ho:OpR X (compareOp op) r) (ha:PE X a ta) (hb:PE X b tb) (hm:behindInMarks op b=false):PE X (.Compare a [op] [b] pos) (tOp r ta tb):=by
 intro pins s σ H Q I h;exact wpAny_Compare1 (bm8 ha hb I h λv u s2 x y H2 I2 rx ry q=>ho pins s2 σ H2 x y v u Q I2 rx ry q) hm
def aO4 (t:TE):TT:=λσ H Q=>t σ H λx H' => ∃ k,x=.bl k/\Q k H'
theorem j1 {op:CmpOp} {r:R2} (ho:OpR X (compareOp op) r) (ha:PE X a ta) (hb:PE X b tb) (hm:behindInMarks op b=false):PT X (.Compare a [op] [b] pos) (aO4 (tOp r ta tb)):=by
 intro pins s σ H Q I h
 refine wpAny_isTrue_Compare1 (thn (ha pins s σ H _ I h) λv s1 ⟨x,H1,I1,r1,q1⟩=>thn (hb pins s1 σ H1 _ I1 q1) λu s2 ⟨y,H2,I2,r2,q2⟩ =>
  thn (ho pins s2 σ H2 x y v u _ I2 r1 r2 q2) λc s3 ⟨z,H3,I3,r3,k,e,q3⟩=>?_) hm
 subst e
 cases r3
 exact wpAny_truthy_bool ⟨H3,I3,q3⟩
def aL1 (r r':R2) (ta tb tc:TE):TE:=λσ H Q=>ta σ H λx H1=>tb σ H1 λy H2=>r x y H2 λz H3 => ∃ k,z=.bl k /\
 (if k=true then tc σ H3 λw' H4=>r' y w' H4 Q else Q (.bl false) H3)
theorem aW6 {op op':CmpOp} {r r':R2} (ho:OpR X (compareOp op) r) (ho':OpR X (compareOp op') r') (ha:PE X a ta) (hb:PE X b tb) (hc:PE X c tc)
  (hm:lastMarks [op,op'] [b,c]=false:=by with_unfolding_all rfl):PT X (.Compare a [op,op'] [b,c] pos) (aO4 (aL1 r r' ta tb tc)):=by
 intro pins s σ H Q I h
 refine isTrue_chain (thn (ha pins s σ H _ I h) λv s1 ⟨x,H1,I1,r1,q1⟩=>test_link (thn (hb pins s1 σ H1 _ I1 q1) λu s2 ⟨y,H2,I2,r2,q2⟩ =>
  thn (ho pins s2 σ H2 x y v u _ I2 r1 r2 q2) λd s3 ⟨z,H3,I3,r3,k,e,q3⟩=>?_)) hm
 subst e
 cases r3
 refine wpAny_truthy_bool ?_
 cases k with
 | false =>
  obtain ⟨k',e',q'⟩:=q3
  cases e'
  exact ite_ff ⟨H3,I3,q'⟩
 | true =>
  refine ite_tt (test_last (thn (hc pins s3 σ H3 _ I3 q3) λw' s4 ⟨z',H4,I4,r4,q4⟩=>thn (ho' pins s4 σ H4 y z' u w' _ I4 r2 r4 q4) λd' s5 zq=>?_));obtain ⟨z2,H5,I5,r5,k2,e2,q5⟩:=zq;subst e2
  cases r5
  exact wpAny_truthy_bool ⟨H5,I5,q5⟩
def bg8 (K:q0a) (x:V) (H:Hp) (k:Bool):Prop :=
 match x with
 | .non=>k=false
 | .bl b=>k=b
 | .int i=>k=(i != 0)
 | .str y=>y.length<=sizeLine/\k=((y.length:Int) != 0)
 | .byt y=>y.size<=sizeLine/\k=((y.size:Int) != 0)
 | .ref p=>(∃ xs,SqL K H p xs/\k = !xs.isEmpty) \/ (∃ xs,SqT K H p xs/\k = !xs.isEmpty) \/ ∃ kvs,H p=some (.dK kvs)/\k = !kvs.isEmpty
 | _=>False
theorem aM9 {κ:Type} {kvs:List (κ × V)} {vs:List (κ × Value)} (r:KV kvs vs):(!vs.isEmpty) = !kvs.isEmpty:=by
 cases r <;> rfl
theorem au4 {xs:List V} {its:List Value} (r:k9 xs its):(!its.toArray.isEmpty) = !xs.isEmpty:=by
 cases r <;> simp
theorem ao3:(sizeLine:Nat)<2 ^ 63:=by rw [sizeLine_eq];decide
theorem bi2:bs9 X (λx H Q => ∃ k,bg8 X.K x H k/\Q k H):=by
 intro pins s σ H x v Q I rx h;obtain ⟨k,e,q⟩:=h;have hl:=ao3;have hs:sizeLine=16777216:=sizeLine_eq
 cases x with
 | non =>
  cases rx
  have e':k=false:=e;subst e';exact truthy_none ⟨H,I,q⟩
 | bl b =>
  cases rx
  have e':k=b:=e;subst e';exact wpAny_truthy_bool ⟨H,I,q⟩
 | int i =>
  obtain ⟨t,rfl⟩:=rx;have e':k=(i != 0):=e;subst e';exact PySem.P.truthy_int ⟨H,I,q⟩
 | str y =>
  obtain ⟨t,rfl⟩:=rx;obtain ⟨hy,e'⟩:y.length<=sizeLine/\k=((y.length:Int) != 0):=e;subst e';exact PySem.P.truthy_str ⋯ ⟨H,I.tok _,q⟩
 | byt y =>
  obtain ⟨t,rfl⟩:=rx;obtain ⟨hy,e'⟩:y.size<=sizeLine/\k=((y.size:Int) != 0):=e;subst e';exact PySem.W.truthy_bytes ⋯ ⟨H,I.tok _,q⟩
 | ref p =>
  cases rx
  have e':(∃ xs,SqL X.K H p xs/\k = !xs.isEmpty) \/ (∃ xs,SqT X.K H p xs/\k = !xs.isEmpty) \/ ∃ kvs,H p=some (.dK kvs)/\k = !kvs.isEmpty:=e;rcases e' with ⟨xs,hx,e'⟩ | ⟨xs,hx,e'⟩ | ⟨kvs,hx,e'⟩
  ·subst e'
   obtain ⟨its,r,pl,hz⟩:=I.list hx;have hlen:=r.length;exact wpAny_truthy_list pl.isList (by simp only [q0k];omega) ⟨H,I.tok _,by rw [au4 r];exact q⟩
  ·subst e'
   obtain ⟨its,r,pl,hz⟩:=I.tuple hx;have hlen:=r.length;exact truthy_tuple pl (by simp only [q0k];omega) ⟨H,I.tok _,by rw [au4 r];exact q⟩
  ·subst e'
   obtain ⟨hz,hS,vs,r,m⟩:kvs.length<=sizeLine/\(p == sysModules)=false/\∃ vs,KV kvs vs/\s.heap.DictOf (aF2 X.prog X.w) p vs:=I.hok p _ hx;have hlen:kvs.length=vs.length:=Paired.length r;exact wpAny_truthy_dict hS m ⋯ ⟨H,I.tok _,by rw [aM9 r];exact q⟩
 | _=>exact (show False from e).elim
theorem aW5 (ha:PE X a ta) (he:∀ whole,isTrue a X.env whole=(do let v <- whole;standAt a.pos;holding [v] (truthy v))) :
  PT X a (λσ H Q=>ta σ H λx H' => ∃ k,bg8 X.K x H' k/\Q k H'):=by
 intro pins s σ H Q I h;exact isTrue_plain (thn (ha pins s σ H _ I h) λv s1 ⟨x,H1,I1,r1,q1⟩=>bi2 pins s1 σ H1 x v Q I1 r1 q1) (he _)
theorem ah9 {x:V} {us:List Value} (r:k9 [x] us):∃ u,us=[u]/\A5 x u:=by
 cases r with
 | cons r1 r2=>cases r2;exact ⟨_,rfl,r1⟩
theorem bo2 {x y:V} {us:List Value} (r:k9 [x,y] us):∃ u w',us=[u,w']/\A5 x u/\A5 y w':=by
 cases r with
 | cons r1 r2 =>
  cases r2 with
  | cons r3 r4=>cases r4;exact ⟨_,_,rfl,r1,r3⟩
theorem ac3:Y6 X (.builtin "abs") (λxs H Q => ∃ i,xs=[.int i]/\Q (.int (if i<0 then -i else i)) H):=by
 intro pins s σ H xs us Q I r h;obtain ⟨i,rfl,q⟩:=h;obtain ⟨u,rfl,t,rfl⟩:=ah9 r;exact call_abs_int λu tk=>⟨.int (if i<0 then -i else i),H,I.tok _,⟨_,rfl⟩,q⟩
theorem aU3 (hc:X.calm=true):Y6 X (.builtin "max") (λxs H Q => ∃ i j,xs=[.int i,.int j]/\Q (.int (if j > i then j else i)) H):=by
 intro pins s σ H xs us Q I r h;obtain ⟨i,j,rfl,q⟩:=h;obtain ⟨u,w',rfl,⟨t,rfl⟩,⟨t',rfl⟩⟩:=bo2 r;refine max_two_ints (I.ok.hd hc) λh' tk k=>⟨_,H,I.kept k,?_,q⟩
 by_cases hj:j > i
 ·rw [if_pos hj,if_pos hj];exact ⟨_,rfl⟩
 ·rw [if_neg hj,if_neg hj];exact ⟨_,rfl⟩
theorem C8:Y6 X (.type "int") (λxs H Q=>(∃ i,xs=[.int i]/\Q (.int i) H) \/ ∃ k,xs=[.bl k]/\Q (.int (if k then 1 else 0)) H):=by
 intro pins s σ H xs us Q I r h;rcases h with ⟨i,rfl,q⟩ | ⟨k,rfl,q⟩
 ·obtain ⟨u,rfl,t,rfl⟩:=ah9 r
  exact call_int_int ⟨.int i,H,I,⟨_,rfl⟩,q⟩
 ·obtain ⟨u,rfl,r1⟩:=ah9 r
  cases r1
  exact call_int_bool ⟨.int (if k then 1 else 0),H,I.tok _,⟨_,rfl⟩,q⟩
end
structure bn8 (h:Heap) (x dx C:Addr) (mA:Str->Option Value):Prop where
 obj:h.get? x=some (g0y C dx)
 ns:h.Ns1 dx mA
 ne:dx ≠ x
theorem aT1 {h:Heap} {dx:Addr} {mA:Str->Option Value} (n:h.Ns1 dx mA):∃ od,h.get? dx=some od/\∀ name,m0j name od=some (mA name):=by
 obtain ⟨o,es,ep,ho,hd,hk,_,hm⟩:=n;refine ⟨o,ho,λname=>?_⟩;have e:=hm name;unfold nsFind findBy at e;rw [<- Array.find?_toList] at e;unfold m0j;rw [hd]
 dsimp only
 split
 ·rename_i y q
  rw [q] at e;exact congrArg some e
 ·rename_i q
  rw [q] at e
  have a:es.toList.any (·.refKey)=false:=by
   rw [List.any_eq_false];intro y hy;obtain ⟨z,t,hkey⟩:=hk y (Array.mem_toList_iff.mp hy)
   simp [DictEntry.refKey,hkey]
  have a':¬ es.toList.any (·.refKey)=true:=by rw [a];exact q0p
  rw [if_neg a'];exact congrArg some e
theorem bn8.look {h:Heap} {x dx C:Addr} {mA:Str->Option Value} (I:bn8 h x dx C mA):∃ od,PySem.W.InstAt h x (g0y C dx) C (some od)/\∀ name,m0j name od=some (mA name) :=
 let ⟨od,ho,hl⟩:=aT1 I.ns
 ⟨od,⟨I.obj,rfl,rfl,ho⟩,hl⟩
section
variable {P:Program} {w:World} {H H':Hp} {h h':Heap} {a C dx:Addr} {fs fs':List (Str × V)}
theorem bf2 (hok:HOk P w H h) (e:H a=some (.ins C dx fs)):∃ mA,bn8 h a dx C mA/\(∀ f,bn5 (fs.lookup f) (mA f))/\PySem.Within mA (fs.map (·.1))/\fs.length<=1000/\H dx=some (.own a):=by
 obtain ⟨d,z,ne,ob,mA,n,r,q⟩:=(show G5 P w H h a (.ins C dx fs) from hok a _ e);exact ⟨mA,⟨ob,n,ne⟩,r,q,z,d⟩
end
structure Cls (K:q0a) (C:Addr):Prop where
 pg:PySem.W.plainGet K C Str.empty=true
 hd:PySem.W.hasDictIn K C=true
 po:PySem.W.plainOver K C=true
 sa:v0x K (.ref C) "__setattr__" = some (some (.builtin "object.__setattr__"))
theorem Cls.get {K:q0a} {C:Addr} (c:Cls K C) (f:Str):PySem.W.plainGet K C f=true:=c.pg
structure Con (K:q0a) (C:Addr) (f:Str) (v:V) (u:Value):Prop where
 at_:v0x K (.ref C) f=some (some u)
 rel:A5 v u
 get:PySem.W.specialIn K u "__get__" = some none
 cp:PySem.W.copiedNames.contains f=false
structure Meth (K:q0a) (C:Addr) (m:Str) (f:Addr):Prop where
 at_:v0x K (.ref C) m=some (some (.ref f))
 fn:PySem.W.isFn K (.ref f)=true
 kp:y0b K (.ref f)=true
section
variable {X:Cx} {pins:List (Addr × Obj)} {σ:St} {H:Hp} {s:Shared} {A:Around} {E:Value->Shared->Prop} {Q:Value->Shared->Prop} {c:Value} {b:Bool}
inductive ao7 (K:q0a) (H:Hp):V->Value->Prop where
 | non:ao7 K H .non (.type "NoneType")
 | bl (x:Bool):ao7 K H (.bl x) (.type "bool")
 | int (i:Int):ao7 K H (.int i) (.type "int")
 | str (x:Str):ao7 K H (.str x) (.type "str")
 | flt (x:UInt64):ao7 K H (.flt x) (.type "float")
 | lst {a:Addr} {xs:List V} (e:H a=some (.lst xs)):ao7 K H (.ref a) (.type "list")
 | frz {a:Addr} {o:Obj} {xs:List V} (e:H a=some (.frz o (.lst xs))):ao7 K H (.ref a) (.type "list")
 | tup {a:Addr} {xs:List V} (e:H a=some (.tup xs)):ao7 K H (.ref a) (.type "tuple")
 | dK {a:Addr} {kvs:List (Key × V)} (e:H a=some (.dK kvs)):ao7 K H (.ref a) (.type "dict")
 | dT {a:Addr} {kvs:List (List Key × V)} (e:H a=some (.dT kvs)):ao7 K H (.ref a) (.type "dict")
 | ins {a C dx:Addr} {fs:List (Str × V)} (e:H a=some (.ins C dx fs)) (cl:Cls K C) (ha:v0x K (.ref C) "__class__" = some (some (.builtin "object.__class__")))
   (hn:PySem.W.specialIn K (.builtin "object.__class__") "__get__" = some (some (.builtin "getset_descriptor.__get__"))) (htk:PySem.W.takesIn K (.builtin "object.__class__")=some true)
   (hm:PySem.W.mroIn K C (.type "object")=some true):ao7 K H (.ref a) (.ref C)
theorem aT3 {x:V} {u t:Value} (I:Inv X pins σ H s) (rx:A5 x u) (ty:ao7 X.K H x t) (e:z0e X.K t c=some b) (h:∀ tk,Q (.bool b) { s with toks:=tk }) :
  wpAny (model X.prog X.w) A (call (.builtin "isinstance") [u,c]) Q E s:=by
 cases ty with
 | non=>cases (show u=Value.none from rx);exact j0j PySem.W.kitx_none I.kIn True.intro e (λz=>nomatch z) h
 | bl y=>cases (show u=Value.bool y from rx);exact j0j PySem.W.kitx_bool I.kIn True.intro e (λz=>nomatch z) h
 | int i=>obtain ⟨t,q⟩:=(show ∃ t,u=Value.int i t from rx);cases q;exact j0j PySem.W.kitx_int I.kIn True.intro e (λz=>nomatch z) h
 | str y=>obtain ⟨t,q⟩:=(show ∃ t,u=Value.str y t from rx);cases q;exact j0j PySem.W.kitx_str I.kIn True.intro e (λz=>nomatch z) h
 | flt y=>obtain ⟨t,q⟩:=(show ∃ t,u=Value.float y t from rx);cases q;exact j0j PySem.W.kitx_float I.kIn True.intro e (λz=>nomatch z) h
 | @lst a xs ea =>
  cases (show u=Value.ref a from rx)
  obtain ⟨_,_,n,_,h1⟩:=(show G5 X.prog X.w H s.heap a (.lst xs) from I.hok a _ ea);exact j0j PySem.W.kitx_list I.kIn ⟨_,h1,rfl⟩ e (λz=>nomatch z) h
 | @frz a ob xs ea =>
  cases (show u=Value.ref a from rx)
  obtain ⟨_,_,_,n,_,h1⟩:=(show G5 X.prog X.w H s.heap a (.frz ob (.lst xs)) from I.hok a _ ea);exact j0j PySem.W.kitx_list I.kIn ⟨_,h1,rfl⟩ e (λz=>nomatch z) h
 | @tup a xs ea =>
  cases (show u=Value.ref a from rx)
  obtain ⟨_,_,_,p⟩:=(show G5 X.prog X.w H s.heap a (.tup xs) from I.hok a _ ea);obtain ⟨o,h1,h2,_⟩:=p;exact j0j PySem.W.kitx_tuple I.kIn ⟨o,h1,h2⟩ e (λz=>nomatch z) h
 | @dK a kvs ea =>
  cases (show u=Value.ref a from rx)
  obtain ⟨_,_,vs,_,p⟩:=(show G5 X.prog X.w H s.heap a (.dK kvs) from I.hok a _ ea);obtain ⟨o,es,ep,h1,h2,_⟩:=p;exact j0j PySem.W.kitx_dict I.kIn ⟨o,h1,h2.1⟩ e (λz=>nomatch z) h
 | @dT a kvs ea =>
  cases (show u=Value.ref a from rx)
  obtain ⟨_,_,xs,_,o,es,ep,h1,h2,_⟩:=(show G5 X.prog X.w H s.heap a (.dT kvs) from I.hok a _ ea);exact j0j PySem.W.kitx_dict I.kIn ⟨o,h1,h2.1⟩ e (λz=>nomatch z) h
 | @ins a C dx fs ea cl ha hn htk hm =>
  cases (show u=Value.ref a from rx)
  obtain ⟨mA,O,_⟩:=bf2 I.hok ea;obtain ⟨od,J,_⟩:=O.look;exact j0j (PySem.W.kitx_own (cl.get _) cl.hd ha hn htk hm) I.kIn J e (λz=>nomatch z) h
end
structure Y7 (k:Nat) (A:Around):Prop where
 hd:A.handled=none
 dp:A.depth+3*k+5<recursionLimit
 un:A.units+16*k+200<cLine
theorem Y7.mono {j k:Nat} {A:Around} (r:Y7 k A) (h:j<=k):Y7 j A:=⟨r.hd,by have:=r.dp;omega,by have:=r.un;omega⟩
theorem Y7.deeper {k:Nat} {A:Around} (r:Y7 (k+1) A) (env:Env):Y7 k (A.deeper env) :=
 ⟨r.hd,by have:=r.dp;show A.depth+1+3*k+5<_;omega,by have:=r.un;show A.units+3+16*k+200<_;omega⟩
theorem Y7.depth {k:Nat} {A:Around} (r:Y7 k A):A.depth<recursionLimit:=by have:=r.dp;omega
theorem Y7.units {k:Nat} {A:Around} (r:Y7 k A):A.units+64<cLine:=by have:=r.un;omega
def ae4:TA:=λ_ H Q=>Q [] H
def J1 (ta:TE) (tr:TA):TA:=λσ H Q=>ta σ H λx H1=>tr σ H1 λxs H2=>Q (x :: xs) H2
section
variable {X:Cx} {e:Expr} {es:List Expr} {te:TE} {t:TA} {pos:Pos}
theorem b6:PA X [] ae4:=λ_ _ _ _ H Q I h=>Calls.spliced_nil ⟨[],H,I,.nil,h⟩
theorem a8 (ha:PE X e te) (hr:PA X es t) (hs:starEach (e :: es) X.env=(false,eval e X.env) :: starEach es X.env:=by rfl):PA X (e :: es) (J1 te t):=by
 intro pos pins s σ H Q I h;rw [hs]
 show wpAny _ _ (spliced ((false,eval e X.env) :: backTo pos (starEach es X.env))) _ _ s;refine Calls.spliced_cons (thn (ha pins s σ H _ I h) λu s1 zq=>?_);obtain ⟨x,H1,I1,r1,q1⟩:=zq;refine thn (hr pos pins s1 σ H1 _ I1 q1) λus s2 zq=>?_;obtain ⟨xs,H2,I2,r2,q2⟩:=zq;exact ⟨x :: xs,H2,I2,.cons r1 r2,q2⟩
def bi5 (t:TA):TE:=λσ H Q=>t σ H λxs H1=>xs.length<=sizeLine/\∀ p,H1 p=none->Q (.ref p) (upd H1 p (.tup xs))
def aR8 (t:TA):TE:=λσ H Q=>t σ H λxs H1=>xs.length<=sizeLine/\∀ p,H1 p=none->Q (.ref p) (upd H1 p (.lst xs))
theorem j2 {x1} (h:PA X es t):PE X (.Tuple es x1 pos) (bi5 t):=by
 intro pins s σ H Q I hq;refine wpAny_Tuple_spliced (thn (h pos pins s σ H _ I hq) λus s1 ⟨xs,H1,I1,r,z,q⟩=>⟨by rw [<- r.length];exact z,?_⟩)
 have hf:H1 s1.heap.objs.size=none:=I1.hok.fresh (q0h _);refine ⟨.ref s1.heap.objs.size,upd H1 s1.heap.objs.size (.tup xs),I1.laid (t':=s1.toks) (λb u e=>q0e _ e) (q0h _) ?_,rfl,q _ hf⟩;exact ⟨z,us,r,⟨_,z0a _ rfl,rfl,_,rfl⟩⟩
theorem w9 (h:PA X es t):PE X (.List es pos) (aR8 t):=by
 intro pins s σ H Q I hq;refine wpAny_List_spliced (thn (h pos pins s σ H _ I hq) λus s1 ⟨xs,H1,I1,r,z,q⟩=>⟨by rw [<- r.length];exact z,?_⟩)
 have hf:H1 s1.heap.objs.size=none:=I1.hok.fresh (q0h _);refine ⟨.ref s1.heap.objs.size,upd H1 s1.heap.objs.size (.lst xs),I1.laid (t':=s1.toks) (λb u e=>q0e _ e) (q0h _) ?_,rfl,q _ hf⟩;exact ⟨z,us,0,r,z0a _ rfl⟩
end
abbrev Sp:=List V->Hp->VK->XK->Prop
abbrev CXT:=List Env->Hp->Shared->XK->Value->Shared->Prop
structure aU6 (P:Program) (w:World) (K:q0a) (mg:Str->Option Value) (base:Heap) (A:Around) (outer:List Env) (s:Shared) (H:Hp):Prop where
 frames:A.frames=some outer
 mod:Mod K mg base
 bs:∀ b o,base.get? b=some o->s.heap.get? b=some o/\H b=none
 bsz:base.objs.size<=s.heap.objs.size
 funs:s.heap.FunFrames base outer
 frf:∀ b ∈ frs outer,H b=none
 hok:HOk P w H s.heap
 bare:AllBare s.gens
def CE (outer:List Env) (P:Program) (w:World) (H:Hp) (s:Shared) (Q:VK) (u:Value) (s':Shared):Prop :=
 ∃ v H',s'.os=s.os/\AllBare s'.gens/\Un (frs outer) [] H H' s.heap s'.heap/\HOk P w H' s'.heap/\A5 v u/\Q v H'
def CR (CX:CXT) (outer:List Env) (P:Program) (w:World) (H:Hp) (s:Shared) (Q:VK) (E:XK) (r:Result) (s':Shared):Prop :=
 match r with
 | .ok (.ret u)=>CE outer P w H s Q u s'
 | .ok _=>False
 | .error e=>CX outer H s E e s'
structure am6 (P:Program) (w:World) (K:q0a) (mg:Str->Option Value) (base:Heap) (CX:CXT) (k:Nat) (f:Addr) (fd:FuncData) (ps:List Str) (sp:Sp):Prop where
 len:∀ vs H Q E,sp vs H Q E->vs.length=ps.length
 run:∀ (A:Around) (outer:List Env) (s:Shared) (H:Hp) (args:Args) (us:List Value) (vs:List V) (Q:VK) (E:XK),Y7 k A->aU6 P w K mg base A outer s H->BindsTo s fd args (ps.zip us)->k9 vs us->sp vs H Q E ->
  codeAny (model P w) A (.call (.ref f) args) (CR CX outer P w H s Q E) s
theorem am6.mono {P:Program} {w:World} {K:q0a} {mg:Str->Option Value} {base:Heap} {CX:CXT} {j k:Nat} {f:Addr} {fd:FuncData} {ps:List Str} {sp:Sp} (F:am6 P w K mg base CX j f fd ps sp) (h:j<=k) :
  am6 P w K mg base CX k f fd ps sp:=⟨F.len,λA outer s H args us vs Q E hr=>F.run A outer s H args us vs Q E (hr.mono h)⟩
section
variable {X:Cx} {pins:List (Addr × Obj)} {σ:St} {H:Hp} {s s':Shared}
theorem Inv.env0 (I:Inv X pins σ H s):aU6 X.prog X.w X.K X.mg X.base X.A X.stack s H :=
 ⟨I.ok.frames,I.ok.mod,I.bs,q0q I.ok.bsz I.sz,I.stack,I.stkFree,I.hok,I.bare⟩
theorem Inv.after {Q:VK} {u:Value} (I:Inv X pins σ H s) (h:CE X.stack X.prog X.w H s Q u s'):EP X pins σ Q u s':=by
 obtain ⟨v,H',os,bare,un,hok,r,q⟩:=h;obtain ⟨hh,g,d,t,os'⟩:=s';obtain rfl:os'=s.os:=os;exact ⟨v,H',I.call (h':=hh) (g':=g) (d':=d) (t':=t) (ch:=[]) un hok bare (λb z=>absurd z (by simp)),r,q⟩
end
def bh2 (sp:Sp) (dvs:List V) (E:XK) (t:TA):TE:=λσ H Q=>t σ H λvs H1=>sp (vs ++ dvs) H1 Q E
def ag2 (K:q0a) (fd:FuncData) (ps:List Str) (ds:List Value):Prop :=
 ∀ (s:Shared) (us:List Value),K.In s.heap->(us ++ ds).length=ps.length->BindsTo s fd ⟨us,[]⟩ (ps.zip (us ++ ds))
theorem ag2.all {K:q0a} {fd:FuncData} {ps:List Str} (h:∀ us:List Value,us.length=ps.length->bindArgs fd ⟨us,[]⟩=pure (ps.zip us)):ag2 K fd ps []:=λs us _ hl=>by
 rw [u0n] at hl ⊢;exact .of_eq (h us hl)
def av9 (CX:CXT) (X:Cx) (E:XK):Prop:=∀ (pins:List (Addr × Obj)) (σ:St) (H:Hp) (s:Shared) (e:Value) (s':Shared),Inv X pins σ H s->CX X.stack H s E e s'->X.xe e s'
section
variable {X:Cx} {CX:CXT} {k:Nat} {f C:Addr} {fd:FuncData} {ps:List Str} {sp:Sp} {dvs:List V} {ds:List Value} {E:XK} {x m:Str} {p pos apos:Pos} {e o:Expr} {es:List Expr} {ta:TE} {t:TA}
theorem bj4 {pins:List (Addr × Obj)} {σ:St} {H:Hp} {s:Shared} {Q:VK} {us:List Value} {vs:List V} (F:am6 X.prog X.w X.K X.mg X.base CX k f fd ps sp) (hr:Y7 k X.A) (hb:ag2 X.K fd ps ds) (hd:k9 dvs ds) (hx:av9 CX X E)
  (I:Inv X pins σ H s) (r:k9 vs us) (h:sp (vs ++ dvs) H Q E):wpAny (model X.prog X.w) X.A (call (.ref f) us) (EP X pins σ Q) X.xe s:=by
 have r2:k9 (vs ++ dvs) (us ++ ds):=r.append hd;have hl:(us ++ ds).length=ps.length:=by rw [<- r2.length];exact F.len _ _ _ _ h
 refine wpAny_call (codeAny_mono (F.run X.A X.stack s H ⟨us,[]⟩ (us ++ ds) (vs ++ dvs) Q E hr I.env0 (hb s us I.kIn hl) r2 h) λr s' hq=>?_)
 cases r with
 | error e=>exact hx pins σ H s e s' I hq
 | ok fl =>
  cases fl with
  | ret u=>exact I.after hq
  | next=>exact False.elim hq
  | brk=>exact False.elim hq
  | cont=>exact False.elim hq
theorem be0 (F:am6 X.prog X.w X.K X.mg X.base CX k f fd ps sp) (hr:Y7 k X.A) (hg:Gl X x) (hm:X.mg x=some (.ref f)) (hk:y0b X.K (.ref f)=true) (hb:ag2 X.K fd ps ds) (hd:k9 dvs ds) (hx:av9 CX X E)
  (ha:PA X (e :: es) t) (hdb:(x == ("__debug__" : Str))=false:=by decide) (he:starEach (e :: es) X.env=(false,eval e X.env) :: starEach es X.env:=by rfl) (hpl:(backTo pos (starEach es X.env)).any (·.1)=false:=by rfl) :
  PE X (.Call (.Name x p) (e :: es) [] pos) (bh2 sp dvs E t):=by
 intro pins s σ H Q I h;refine wpAny_Call_Name_kw (al9 I hg hm ?_ hdb);refine PySem.W.callWith_K (h₀:=X.base) I.ok.mod.kin hk (thn (ha pos pins s σ H _ I h) λus s1 ⟨vs,H1,I1,r,q⟩=>⟨I1.kIn,?_⟩) he hpl;exact bj4 F hr hb hd hx I1 r q
structure Mk (K:q0a) (C f:Addr):Prop where
 makes:PySem.W.makesIn K C=true
 init:v0x K (.ref C) "__init__" = some (some (.ref f))
 fn:PySem.W.isFn K (.ref f)=true
 kp:y0b K (.ref C)=true
end
section
variable {X:Cx} {CX:CXT} {k:Nat} {f C:Addr} {fd:FuncData} {ps ks:List Str} {sp:Sp} {E:XK} {x m:Str} {p pos apos kpos:Pos} {e o:Expr} {es:List Expr} {kws:List Keyword} {te ta:TE} {t tk:TA} {nm:Option Str}
structure KBinds (K:q0a) (fd:FuncData) (ps ks:List Str) (g:List Value->List Value->List Value) (gV:List V->List V->List V):Prop where
 to:∀ (s:Shared) (us ws:List Value),K.In s.heap->(g us ws).length=ps.length->BindsTo s fd ⟨us,ks.zip ws⟩ (ps.zip (g us ws))
 rel:∀ {vs:List V} {us:List Value} {zs:List V} {ws:List Value},k9 vs us->k9 zs ws->k9 (gV vs zs) (g us ws)
variable {g:List Value->List Value->List Value} {gV:List V->List V->List V}
end
structure i9 (N P:List Str) (sc:Scope):Prop where
 kind:sc.kind=.function
 co:sc.isCoroutine=false
 gen:sc.isGenerator=false
 nd:N.Nodup
 pre:N.take P.length=P
 par:∀ x ∈ P,sc.names.lookup x=some .local \/ sc.names.lookup x=some .cell
 nofree:∀ y ∈ sc.names,y.2 ≠ .free
theorem aA8 {kindOf:Str->Option NameKind} {x:Str}:∀ {binds:List (Str × Value)} {m:Str->Option Value},(∀ v,(x,v) ∉ binds)->bindL kindOf binds m x=m x
 | [],_,_=>rfl
 | (n,v) :: r,m,h=>by
  unfold bindL;rw [aA8 λw hw=>h w (q0r _ hw)]
  split
  ·have:x ≠ n:=by rintro rfl;exact h v q0x
   simp [this]
  ·rfl
theorem aB0 {kindOf:Str->Option NameKind} {x:Str}:∀ {binds:List (Str × Value)} {m:Str->Option Value},(∀ v,(x,v) ∉ binds)->bindC kindOf binds m x=m x
 | [],_,_=>rfl
 | (n,v) :: r,m,h=>by
  unfold bindC;rw [aB0 λw hw=>h w (q0r _ hw)]
  split
  ·rfl
  ·have:x ≠ n:=by rintro rfl;exact h v q0x
   simp [this]
theorem aA9 {kindOf:Str->Option NameKind} {x:Str} {v:Value}:∀ {P:List Str} {vs:List Value} {i:Nat} {m:Str->Option Value},P.Nodup->P[i]? = some x->vs[i]? = some v->kindOf x=some .local ->
  bindL kindOf (P.zip vs) m x=some v
 | [],_,_,_,_,h,_,_=>by simp at h
 | _ :: _,[],_,_,_,_,h,_=>by simp at h
 | p :: P,w :: vs,0,m,nd,h1,h2,hk=>by
  simp at h1 h2;subst h1;subst h2
  show bindL kindOf ((p,w) :: P.zip vs) m p=_;unfold bindL;rw [aA8 λv hv=>(j0y.mp nd).1 (u0p hv).1,if_pos hk]
  simp
 | p :: P,w :: vs,i+1,m,nd,h1,h2,hk=>by
  show bindL kindOf ((p,w) :: P.zip vs) m x=_;unfold bindL;exact aA9 (i:=i) (j0y.mp nd).2 (by simpa using h1) (by simpa using h2) hk
theorem aB1 {kindOf:Str->Option NameKind} {x:Str} {v:Value}:∀ {P:List Str} {vs:List Value} {i:Nat} {m:Str->Option Value},P.Nodup->P[i]? = some x->vs[i]? = some v->kindOf x ≠ some .local ->
  bindC kindOf (P.zip vs) m x=some v
 | [],_,_,_,_,h,_,_=>by simp at h
 | _ :: _,[],_,_,_,_,h,_=>by simp at h
 | p :: P,w :: vs,0,m,nd,h1,h2,hk=>by
  simp at h1 h2;subst h1;subst h2
  show bindC kindOf ((p,w) :: P.zip vs) m p=_;unfold bindC;rw [aB0 λv hv=>(j0y.mp nd).1 (u0p hv).1,if_neg hk]
  simp
 | p :: P,w :: vs,i+1,m,nd,h1,h2,hk=>by
  show bindC kindOf ((p,w) :: P.zip vs) m x=_;unfold bindC;exact aB1 (i:=i) (j0y.mp nd).2 (by simpa using h1) (by simpa using h2) hk
def start (N:List Str) (vs:List V):St:=vs.map some ++ q0t (N.length-vs.length) none
def aq8 (CX:CXT) (P:Program) (w:World) (K:q0a) (mg:Str->Option Value) (base:Heap) (N:List Str) (qual:Str) (scope:Scope) (f:Addr) (cd:Value) (A:Around) (outer:List Env) (s:Shared) (H:Hp) (E:XK):Cx where
 prog:=P
 w:=w
 K:=K
 mg:=mg
 base:=base
 A:=A.deeper (envOfC qual scope s.heap.objs.size f cd)
 N:=N
 s₀:=s
 H₀:=H
 env:=envOfC qual scope s.heap.objs.size f cd
 outer:=outer
 stack:=envOfC qual scope s.heap.objs.size f cd :: outer
 ex:=[]
 calm:=true
 fn:=λ_=>true
 pn:=[]
 xe:=λe s'=>wpAny (model P w) (A.deeper (envOfC qual scope s.heap.objs.size f cd)) (leaving (envOfC qual scope s.heap.objs.size f cd) e) (λ_ s''=>CX outer H s E e s'') (λe' s''=>CX outer H s E e' s'') s'
theorem aK5 {sc:Scope} {n:Nat} {x:Str} (h:sc.names.lookup x=some .cell):∃ c,(cellsFrom n sc.names []).lookup x=some c:=by
 have q:=u0b sc.names n [] (.inl h);exact v0t.mp q
theorem az9 {CX:CXT} {P:Program} {w:World} {K:q0a} {mg:Str->Option Value} {base:Heap} {N ps:List Str} {qual:Str} {scope:Scope} {f:Addr} {cd:Value} {A:Around} {outer:List Env} {s s1:Shared} {H:Hp} {E:XK} {us:List Value} {vs:List V}
  (S:i9 N ps scope) (hd:A.handled=none) (e0:aU6 P w K mg base A outer s H) (hl:vs.length=ps.length) (r:k9 vs us)
  (x:InCallC s s.heap.objs.size (bindL (envOfC qual scope s.heap.objs.size f cd).kindOf (ps.zip us) λ_=>none) (cellsFrom (s.heap.objs.size+1) scope.names []) (bindC (envOfC qual scope s.heap.objs.size f cd).kindOf (ps.zip us) λ_=>none) s1) :
  Inv (aq8 CX P w K mg base N qual scope f cd A outer s H E) [] (start N vs) H s1:=by
 have hpl:ps.length<=N.length:=by have:=congrArg List.length S.pre;rw [z0f] at this;omega
 obtain ⟨h1,tk,rfl,hk⟩:=x.done;have noA:∀ b:Addr,b ∉ (aq8 CX P w K mg base N qual scope f cd A outer s H E).ex:=λb z=>absurd (show b ∈ ([]:List Addr) from z) (by simp)
 refine ⟨⟨e0.mod,S.kind,rfl,rfl,q0h _,λy z c h1 h2=>?_,λy hy=>?_,λy c _ h=>?_,λ_=>hd,Around.frames_deeper e0.frames,.inr ⟨rfl,rfl⟩,λb z=>absurd z (noA b),e0.bs,e0.bsz,λb _ _=>noA b,λb z=>absurd z (noA b),e0.funs,e0.frf⟩,
  rfl,e0.bare,Un.kept hk,⟨_,x.toInCall.ns,λi y v h1 h2 h3=>?_⟩,λy c h=>⟨_,x.cell y c h⟩,e0.hok.fresh (q0h _),λy c h=>?_,λp hp=>absurd (show p ∈ ([]:List (Addr × Obj)) from hp) (by simp),e0.hok.kept hk,?_⟩
 ·exact name_of_addr x.apart (PySem.mem_of_lookup h1) (PySem.mem_of_lookup h2)
 ·have hy:scope.names.lookup y=some .cell \/ scope.names.lookup y=some .free:=hy
  rcases hy with hy | hy
  ·exact aK5 hy
  ·exact absurd rfl (S.nofree _ (PySem.mem_of_lookup hy))
 ·exact y0d (x.above y c (PySem.mem_of_lookup h))
 ·have hi:i<vs.length:=by
   unfold start at h2
   by_cases hi:i<vs.length
   ·exact hi
   ·rw [v0p (by simpa using hi)] at h2
    rw [y0k] at h2
    split at h2 <;> cases h2
  have ha:vs[i]? = some v:=by
   unfold start at h2;rw [g0m (by simpa using hi),z0c] at h2
   cases e:vs[i]? with
   | none=>rw [e] at h2;cases h2
   | some a=>rw [e] at h2;cases h2;rfl
  obtain ⟨u,hu,rv⟩:=r.get ha
  have hp:ps[i]? = some y:=by
   rw [<- S.pre,List.getElem?_take_of_lt ⋯];exact h1
  have ndP:ps.Nodup:=by rw [<- S.pre];exact S.nd.sublist (List.take_sublist _ _)
  refine ⟨u,rv,?_⟩;rcases S.par y (q0v hp) with k | k
  ·exact .inl ⟨k,aA9 ndP hp hu k⟩
  ·obtain ⟨c,e⟩:=aK5 (n:=s.heap.objs.size+1) k
   refine .inr ⟨.inl k,c,e,?_⟩;have q:=x.cell y c e;rw [aB1 ndP hp hu (by show scope.names.lookup y ≠ _;rw [k];decide)] at q
   exact q
 ·exact e0.hok.fresh (y0d (x.above y c (PySem.mem_of_lookup h)))
 ·unfold start
  show _=N.length;rw [j0a,q0g,j0t];omega
theorem bh7 {CX:CXT} {P:Program} {w:World} {K:q0a} {mg:Str->Option Value} {base:Heap} {k:Nat} {f:Addr} {name qual:Str} {params:Arguments} {body:List Stmt} {scope:Scope} {dV kV doc pm cdv ct oc:Value} {an od:Option Addr}
  {osl:Array (Option Value)} {N ps:List Str} {sp:Sp} (lk:K.lookup f=some ⟨oc,od,.func (y0x name qual params body scope dV kV doc pm an cdv ct),osl⟩) (hcd:m0k K cdv qual=true) (S:i9 N ps scope)
  (len:∀ vs H Q E,sp vs H Q E->vs.length=ps.length)
  (hbody:∀ (A:Around) (outer:List Env) (s:Shared) (H:Hp) (vs:List V) (Q:VK) (E:XK),Y7 k (A.deeper (envOfC qual scope s.heap.objs.size f cdv))->sp vs H Q E ->
   ∃ t,PSs (aq8 CX P w K mg base N qual scope f cdv A outer s H E) body t/\t { nx:=λ_ H'=>Q .non H',rt:=Q } (start N vs) H) :
  am6 P w K mg base CX (k+1) f (y0x name qual params body scope dV kV doc pm an cdv ct) ps sp:=by
 refine ⟨len,λA outer s H args us vs Q E hr e0 hb r hsp=>?_⟩;have hl:=len _ _ _ _ hsp;have KX:K.In s.heap:=e0.mod.kin.keeps λb o e=>(e0.bs b o e).1;have lim:s.heap.NoLimit:=e0.mod.nolimit.keeps λb o e=>(e0.bs b o e).1
 have hkind:∀ y ∈ ps.zip us,scope.names.lookup y.1=some .local \/ (scope.names.lookup y.1=some .cell/\((cellsFrom (s.heap.objs.size+1) scope.names []).lookup y.1).isSome=true):=λ⟨n,v⟩ hy=>by
  rcases S.par n (u0p hy).1 with q | q
  ·exact .inl q
  ·exact .inr ⟨q,u0b _ _ _ (.inl q)⟩
 refine codeAny_call_function hr.depth (KX _ _ lk) rfl S.co S.gen rfl (PySem.W.codeRec_of KX hcd) (hb _ _ _ _ ?_);refine wpAny_newFunctionEnv_cells S.kind hkind λenv he s1 x=>?_;subst he;refine ⟨lim.keeps x.toInCall.keep,codeAny_func ?_⟩;obtain ⟨t,ht,hq⟩:=hbody A outer s H vs Q E (hr.deeper _) hsp;have I:Inv (aq8 CX P w K mg base N qual scope f cdv A outer s H E) [] (start N vs) H s1:=az9 S hr.hd e0 hl r x;refine wpAny_mono (ht [] s1 (start N vs) H _ I hq) (λfl s' hs=>?_) λe s' hs=>hs
 have fin:∀ {σ':St} {H':Hp} {v:V} {u:Value},Inv (aq8 CX P w K mg base N qual scope f cdv A outer s H E) [] σ' H' s'->A5 v u->Q v H'->CE outer P w H s Q u s' :=
  fun {σ' H' v u} J rv q=>⟨v,H',J.os,J.bare,J.base,J.hok,rv,q⟩
 cases fl with
 | ret u =>
  obtain ⟨v,σ',H',J,rv,q⟩:=hs;exact fin J rv q
 | next =>
  obtain ⟨σ',H',J,q⟩:=hs;exact fin (v:=V.non) (u:=Value.none) J rfl q
 | brk =>
  obtain ⟨_,_,_,q⟩:=hs;exact False.elim q
 | cont =>
  obtain ⟨_,_,_,q⟩:=hs;exact False.elim q
section
variable {X:Cx} {x:Str} {p pos:Pos} {e:Expr} {es:List Expr} {t:TA} {id T:String} {r:List V->Hp->VK->Prop}
def tCB (r:List V->Hp->VK->Prop) (t:TA):TE:=λσ H Q=>t σ H λvs H1=>r vs H1 Q
theorem g8 (hc : Y6 X (.builtin id) r) (hg : Gl X x) (hm : X.mg x = none) (hv : bootBuiltins x = some (.builtin id)) (ha : PA X (e :: es) t) (hn : x ≠ "__name__" := by decide) (hdb : (x == ("__debug__" : Str)) = false := by decide)
    (he:starEach (e :: es) X.env=(false,eval e X.env) :: starEach es X.env:=by rfl) (hpl:(backTo pos (starEach es X.env)).any (·.1)=false:=by rfl):PE X (.Call (.Name x p) (e :: es) [] pos) (tCB r t):=by
  intro pins s σ H Q I h;refine wpAny_Call_Name_kw (ad7 I hg hm hv ?_ hn hdb);exact PyProof.Rows.callWith_builtin1 (thn (ha pos pins s σ H _ I h) λus s1 ⟨vs,H1,I1,r1,q1⟩=>hc pins s1 σ H1 vs us Q I1 r1 q1) he hpl
theorem p5 (hc : Y6 X (.type T) r) (hg : Gl X x) (hm : X.mg x = none) (hv : bootBuiltins x = some (.type T)) (ha : PA X (e :: es) t) (hn : x ≠ "__name__" := by decide) (hdb : (x == ("__debug__" : Str)) = false := by decide)
    (he:starEach (e :: es) X.env=(false,eval e X.env) :: starEach es X.env:=by rfl) (hpl:(backTo pos (starEach es X.env)).any (·.1)=false:=by rfl):PE X (.Call (.Name x p) (e :: es) [] pos) (tCB r t):=by
  intro pins s σ H Q I h;refine wpAny_Call_Name_kw (ad7 I hg hm hv ?_ hn hdb);exact PyProof.Rows.callWith_type1 (thn (ha pos pins s σ H _ I h) λus s1 ⟨vs,H1,I1,r1,q1⟩=>hc pins s1 σ H1 vs us Q I1 r1 q1) he hpl
end
end L2
namespace HT
open PySem PyProof.Rows
section
open PySem.SeqAt
open PySem.AutoSeq1 (wpAny_loadPart')
open PySem.MeetsSeq PySem.MeetsSeq2 PySem.MeetsSeq3
end
section
variable {prog:Program} {w:World} {A:Around} {E:Value->Shared->Prop} {s:Shared}
def sIx (n d:Nat):Option Int->Nat
 | none=>d
 | some v=>if v<0 then (v+(n:Int)).toNat else min v.toNat n
end
end HT
namespace L2
open PySem PySem.Spec PyProof.Rows
abbrev TO:=St->Hp->(Option Int->Hp->Prop)->Prop
def PO (X:Cx) (e:Option Expr) (t:TO):Prop :=
 ∀ (pins:List (Addr × Obj)) (s:Shared) (σ:St) (H:Hp) (Q:Option Int->Hp->Prop),Inv X pins σ H s->t σ H Q ->
  wpAny (model X.prog X.w) X.A (evalPart e X.env) (λu s' => ∃ o H',Inv X pins σ H' s'/\IsPart u o/\Q o H') X.xe s
def V8:TO:=λ_ H Q=>Q none H
def ak2 (t:TE):TO:=λσ H Q=>t σ H λx H1 => ∃ i,x=.int i/\Q (some i) H1
section
variable {X:Cx} {e:Expr} {te:TE} {lo hi:Option Expr} {tl th:TO} {pos p2:Pos}
theorem U5:PO X none V8:=by
 intro pins s σ H Q I h;rw [evalPart_none];exact wpAny_pure ⟨none,H,I,.none,h⟩
theorem Q0 (h:PE X e te):PO X (some e) (ak2 te):=by
 intro pins s σ H Q I hw;rw [evalPart_some];refine thn (h pins s σ H _ I hw) λu s1 zq=>?_;obtain ⟨x,H1,I1,r1,q1⟩:=zq;obtain ⟨i,rfl,q⟩:=q1;obtain ⟨t,rfl⟩:=r1;exact ⟨some i,H1,I1,.int i t,q⟩
def SlR (X:Cx) (r:V->Option Int->Option Int->Hp->VK->Prop):Prop :=
 ∀ (pins:List (Addr × Obj)) (s:Shared) (σ:St) (H:Hp) (x:V) (v vl vu:Value) (lo hi:Option Int) (sl:Addr) (Q:VK),Inv X pins σ H s->A5 x v->s.heap.IsSliceOf sl vl vu .none->IsPart vl lo->IsPart vu hi->r x lo hi H Q ->
  ∃ T id,typeLookup (.type T) "__getitem__" = pure (some (.builtin id))/\s.TypeIs v T/\wpAny (model X.prog X.w) X.A (getItem v (.ref sl)) (EP X pins σ Q) X.xe s
def tSl (r:V->Option Int->Option Int->Hp->VK->Prop) (te:TE) (tl th:TO):TE:=λσ H Q=>te σ H λx H1=>tl σ H1 λl H2=>th σ H2 λu H3=>r x l u H3 Q
theorem Q3 {r:V->Option Int->Option Int->Hp->VK->Prop} (hr:SlR X r) (he:PE X e te) (hl:PO X lo tl) (hu:PO X hi th):PE X (.Subscript e (.Slice lo hi none p2) pos) (tSl r te tl th):=by
 intro pins s σ H Q I h;refine Subscript_ (thn (he pins s σ H _ I h) λv s1 zq=>?_);obtain ⟨x,H1,I1,r1,q1⟩:=zq;refine wpAny_Slice (thn (hl pins s1 σ H1 _ I1 q1) λvl s2 ⟨l,H2,I2,pl,q2⟩=>thn (hu pins s2 σ H2 _ I2 q2) λvu s3 zq=>?_);obtain ⟨u,H3,I3,pu,q3⟩:=zq;rw [evalPart_none];refine wpAny_pure ?_;have I4:Inv X pins σ H3 { s3 with heap:=s3.heap.push { cls:=.type "slice",data:=.fields #[vl,vu,.none] } }:=I3.kept (t':=s3.toks) λb ob q=>q0e _ q
 obtain ⟨T,id,hT,ht,hg⟩:=hr pins { s3 with heap:=s3.heap.push { cls:=.type "slice",data:=.fields #[vl,vu,.none] } } σ H3 x v vl vu l u s3.heap.objs.size Q I4 r1 (Heap.IsSliceOf.new ..) pl pu q3
 show wpAny (model X.prog X.w) X.A (subscriptTail e (.Slice lo hi none p2) v (.ref s3.heap.objs.size)) (EP X pins σ Q) X.xe { s3 with heap:=s3.heap.push { cls:=.type "slice",data:=.fields #[vl,vu,.none] } }
 exact tail_any (ops:=[.ref s3.heap.objs.size,v]) ht hT hg (by with_unfolding_all rfl)
def af7 (xs:List V) (lo hi:Option Int):List V:=(xs.drop (HT.sIx xs.length 0 lo)).take (HT.sIx xs.length xs.length hi-HT.sIx xs.length 0 lo)
theorem aK2 (xs:List V) (lo hi:Option Int):(af7 xs lo hi).length<=xs.length:=by
 unfold af7;rw [z0f,v0m];omega
end
def ixN (n:Nat) (i:Int):Option Nat:=if 0<=i then (if i<n then some i.toNat else none) else if -(n:Int)<=i then some (i+n).toNat else none
def atI {α:Type} (xs:List α) (i:Int):Option α:=(ixN xs.length i).bind λj=>xs[j]?
theorem aP7 {n:Nat} {i:Int} {j:Nat} (h:ixN n i=some j):seqIndex? i n=some j/\j<n/\-(n:Int)<=i/\i<n:=by
 unfold ixN at h
 by_cases h0:0<=i
 ·rw [if_pos h0] at h
  by_cases h1:i<n
  ·rw [if_pos h1] at h
   have e:i.toNat=j:=Option.some.inj h;exact ⟨by rw [seqIndex_of h0 h1,e],⋯,⋯,h1⟩
  ·rw [if_neg h1] at h;cases h
 ·rw [if_neg h0] at h
  by_cases h1:-(n:Int)<=i
  ·rw [if_pos h1] at h
   have e:(i+n).toNat=j:=Option.some.inj h;exact ⟨by rw [seqIndex_neg ⋯ h1,e],⋯,h1,⋯⟩
  ·rw [if_neg h1] at h;cases h
theorem aQ8 {α:Type} {xs:List α} {i:Int} {v:α} (h:atI xs i=some v):∃ j,seqIndex? i xs.length=some j/\xs[j]? = some v/\j<xs.length/\-(xs.length:Int)<=i/\i<xs.length:=by
 unfold atI at h
 cases e:ixN xs.length i with
 | none=>rw [e] at h;cases h
 | some j =>
  rw [e] at h;obtain ⟨h1,h2,h3,h4⟩:=aP7 e;exact ⟨j,h1,h,h2,h3,h4⟩
theorem p7 {α:Type} {xs:List α} {j:Nat} {v:α} (h:xs[j]? = some v):atI xs (j:Int)=some v:=by
 have hj:j<xs.length:=(q0f.mp h).1
 have e:ixN xs.length (j:Int)=some j:=by
  unfold ixN;rw [if_pos ⋯,if_pos ⋯];simp
 unfold atI;rw [e];exact h
def bg9 (b:Expr):Prop:=∀ o i,subscripted b false o i=operate [o,i] (getItem o i)
def IxR (X:Cx) (r:R2):Prop :=
 ∀ (value slice:Expr) (pins:List (Addr × Obj)) (s:Shared) (σ:St) (H:Hp) (x y:V) (v u:Value) (Q:VK),Inv X pins σ H s->A5 x v->A5 y u->r x y H Q ->
  subscripted slice false v u=operate [v,u] (getItem v u)->wpAny (model X.prog X.w) X.A (subscriptTail value slice v u) (EP X pins σ Q) X.xe s
def MtR (X:Cx) (id:String) (r:V->List V->Hp->VK->Prop):Prop :=
 ∀ (pins:List (Addr × Obj)) (s:Shared) (σ:St) (H:Hp) (x:V) (xs:List V) (v:Value) (us:List Value) (Q:VK),Inv X pins σ H s->A5 x v->k9 xs us->r x xs H Q ->
  wpAny (model X.prog X.w) X.A (call (.builtin id) (v :: us)) (EP X pins σ Q) X.xe s
section
variable {X:Cx} {a b:Expr} {ta tb:TE} {pos:Pos}
theorem i6 {r:R2} (hr:IxR X r) (ha:PE X a ta) (hb:PE X b tb) (hs:bg9 b):PE X (.Subscript a b pos) (tOp r ta tb):=by
 intro pins s σ H Q I h;exact Subscript_ (bm8 ha hb I h λv u s2 x y H2 I2 rx ry q=>hr a b pins s2 σ H2 x y v u Q I2 rx ry q (hs _ _))
def ae3 (K:q0a):R2:=λx y H Q => ∃ p xs i v,x=.ref p/\y=.int i/\SqL K H p xs/\atI xs i=some v/\Q v H
def aS4 (K:q0a):R2:=λx y H Q => ∃ p xs i v,x=.ref p/\y=.int i/\SqT K H p xs/\atI xs i=some v/\Q v H
theorem j3:IxR X (ae3 X.K):=by
 intro value slice pins s σ H x y v u Q I rx ry h hs;obtain ⟨p,xs,i,z,rfl,rfl,hq,he,q⟩:=h
 cases rx
 obtain ⟨t,rfl⟩:=ry;obtain ⟨its,r,pl,hz⟩:=I.list hq;obtain ⟨j,h1,h2,h3,h4,h5⟩:=aQ8 he;obtain ⟨w,ew,rw'⟩:=r.get h2;have hl:=r.length;have hn:=ao3;have fin:EP X pins σ Q w s:=⟨z,H,I,rw',q⟩
 by_cases h0:0<=i
 ·have hj:i.toNat=j:=by
   rw [seqIndex_of h0 h5] at h1;exact Option.some.inj h1
  exact item_listR pl.isList h0 ⋯ (by rw [hj];simpa using ew) fin hs
 ·have hj:(i+(its.toArray.size:Int)).toNat=j:=by
   rw [seqIndex_neg ⋯ h4] at h1;rw [q0k,<- hl];exact Option.some.inj h1
  exact subscriptTail_builtinR (x:=w) pl.isList.typeIs slot_list_getitem.lookup
   (wpAny_getItem_list_neg (Q:=λr s'=>r=w/\EP X pins σ Q r s') pl.isList ⋯ (by rw [q0k] <;> omega) ⋯ (by rw [hj];simpa using ew) ⟨rfl,fin⟩) hs
theorem k7:IxR X (aS4 X.K):=by
 intro value slice pins s σ H x y v u Q I rx ry h hs;obtain ⟨p,xs,i,z,rfl,rfl,hq,he,q⟩:=h
 cases rx
 obtain ⟨t,rfl⟩:=ry;obtain ⟨its,r,pl,hz⟩:=I.tuple hq;obtain ⟨j,h1,h2,h3,h4,h5⟩:=aQ8 he;obtain ⟨w,ew,rw'⟩:=r.get h2;have hl:=r.length;have hn:=ao3;have fin:EP X pins σ Q w s:=⟨z,H,I,rw',q⟩
 exact subscriptTail_builtinR (x:=w) pl.typeIs slot_tuple_getitem.lookup
  (getItem_tuple (j:=j) (Q:=λr s'=>r=w/\EP X pins σ Q r s') pl ⋯ ⋯ (by rw [q0k,<- hl];exact h1) (by simpa using ew) ⟨rfl,fin⟩) hs
theorem aM8 (its:List Value) (n j:Nat) (u:Value):Obj.mapSeq (·.setIfInBounds j u) { cls:=.type "list",data:=.seq its.toArray n }={ cls:=.type "list",data:=.seq (its.set j u).toArray n }:=by
 simp [Obj.mapSeq]
theorem Inv.lst {pins:List (Addr × Obj)} {σ:St} {H:Hp} {s:Shared} {p:Addr} {xs:List V} (I:Inv X pins σ H s) (h:H p=some (.lst xs)) :
  ∃ (its:List Value) (n:Nat),k9 xs its/\s.heap.get? p=some { cls:=.type "list",data:=.seq its.toArray n }/\xs.length<=sizeLine:=by
 obtain ⟨z,its,n,r,e⟩:=I.hok p _ h;exact ⟨its,n,r,e,z⟩
theorem Inv.lstUpd {pins:List (Addr × Obj)} {σ:St} {H:Hp} {s:Shared} {p:Addr} {xs ys:List V} {its its':List Value} {n n':Nat} {f:Obj->Obj} (I:Inv X pins σ H s) (h:H p=some (.lst xs))
  (ho:s.heap.get? p=some { cls:=.type "list",data:=.seq its.toArray n }) (hf:f { cls:=.type "list",data:=.seq its.toArray n }={ cls:=.type "list",data:=.seq its'.toArray n' }) (r:k9 ys its') (hz:ys.length<=sizeLine) (t:Nat) :
  Inv X pins σ (upd H p (.lst ys)) { s with heap:=s.heap.update p f,toks:=t }:=by
 have e:(s.heap.update p f).get? p=some { cls:=.type "list",data:=.seq its'.toArray n' }:=by
  rw [m0m f ho (by rw [hf] <;> rfl),hf]
 refine I.write (x:=p) (e:=p) (by rw [h];trivial) (.inl rfl) (λb u hb q=>(m0d _ _ (Ne.symm hb)).trans q) ⟨_,e⟩ ?_
 exact ⟨hz,its',n',r,e⟩
def as5:V->V->V->Hp->(Hp->Prop)->Prop:=λo i v H Q => ∃ p xs k j,o=.ref p/\i=.int k/\H p=some (.lst xs)/\ixN xs.length k=some j/\Q (upd H p (.lst (xs.set j v)))
theorem E1:bq8 X as5:=by
 intro pins s σ H o i v ov iv u Q I ro ri rv h;obtain ⟨p,xs,k,j,rfl,rfl,hp,hj,q⟩:=h
 cases ro
 obtain ⟨t,rfl⟩:=ri;obtain ⟨its,n,r,ho,hz⟩:=I.lst hp;obtain ⟨h1,h2,h3,h4⟩:=aP7 hj;have hl:=r.length;have hn:=ao3
 have I':Inv X pins σ (upd H p (.lst (xs.set j v))) { s with heap:=s.heap.update p (Obj.mapSeq (·.setIfInBounds j u)) } :=
  I.lstUpd hp ho (aM8 its n j u) (r.set rv j) (by rw [y0f];exact hz) s.toks
 by_cases h0:0<=k
 ·have hk:k.toNat=j:=by
   rw [seqIndex_of h0 h4] at h1;exact Option.some.inj h1
  exact PySem.W.ki_setAt ho h0 ⋯ (by rw [q0k,<- hl];exact h4) (by rw [hk];exact ⟨_,I',q⟩)
 ·have hk:(k+(its.toArray.size:Int)).toNat=j:=by
   rw [seqIndex_neg ⋯ h3] at h1;rw [q0k,<- hl];exact Option.some.inj h1
  exact PySem.W.ki_setBack ho ⋯ (by rw [q0k,<- hl];exact h3) ⋯ (by rw [hk];exact ⟨_,I',q⟩)
theorem aC4 (lo hi:Option Int) (n:Nat):(sliceBounds lo hi none n).1=((HT.sIx n 0 lo:Nat):Int)/\(sliceBounds lo hi none n).2.1=((HT.sIx n n hi:Nat):Int)/\(sliceBounds lo hi none n).2.2=1:=by
 refine ⟨?_,?_,rfl⟩
 ·cases lo with
  | none=>simp [sliceBounds,HT.sIx]
  | some i =>
   simp only [sliceBounds,HT.sIx,Option.getD_none,show (1:Int) > 0 by decide,if_true]
   by_cases h:i<0
   ·simp only [h,if_true] <;> omega
   ·simp only [h,if_false] <;> omega
 ·cases hi with
  | none=>simp [sliceBounds,HT.sIx]
  | some i =>
   simp only [sliceBounds,HT.sIx,Option.getD_none,show (1:Int) > 0 by decide,if_true]
   by_cases h:i<0
   ·simp only [h,if_true] <;> omega
   ·simp only [h,if_false] <;> omega
theorem aw1 (its:List Value) (lo hi:Option Int):slicePick its.toArray lo hi none=((its.drop (HT.sIx its.length 0 lo)).take (HT.sIx its.length its.length hi-HT.sIx its.length 0 lo)).toArray:=by
 obtain ⟨h1,h2,h3⟩:=aC4 lo hi its.toArray.size;unfold slicePick;rw [h1,h2,h3];simp only [sliceRange_one,pick_run,q0k] <;> rfl
def ak8 (K:q0a):V->Option Int->Option Int->Hp->VK->Prop:=λx lo hi H Q => ∃ a xs,x=.ref a/\SqL K H a xs/\∀ p,H p=none->Q (.ref p) (upd H p (.lst (af7 xs lo hi)))
theorem W3:SlR X (ak8 X.K):=by
 intro pins s σ H x v vl vu lo hi sl Q I rx hs pl pu h;obtain ⟨a,xs,rfl,hx,q⟩:=h
 cases rx
 obtain ⟨its,r,ht,hz⟩:=I.list hx;have hlen:=r.length;refine ⟨"list",_,slot_list_getitem.lookup,ht.isList.typeIs,?_⟩
 refine wpAny_getItem_list_slice ht.isList hs pl pu .none (by simp) ?_ (by rw [q0k] <;> omega)
 rw [aw1,<- hlen];refine ⟨.ref s.heap.objs.size,_,I.laid (t':=s.toks) (o:=.lst (af7 xs lo hi)) (λb ob q=>q0e _ q) (q0h _) ?_,rfl,q _ (I.hok.fresh (q0h _))⟩;exact ⟨q0q (aK2 xs lo hi) hz,_,0,(r.drop (HT.sIx xs.length 0 lo)).take (HT.sIx xs.length xs.length hi-HT.sIx xs.length 0 lo),z0a _ rfl⟩
def aa2:V->Bool
 | .non=>true
 | .bl _=>true
 | .int _=>true
 | .str _=>true
 | _=>false
def eqV:V->V->Bool
 | .non,.non=>true
 | .bl a,.bl b=>a == b
 | .bl a,.int b=>(if a then 1 else 0) == b
 | .int a,.bl b=>a == (if b then 1 else 0)
 | .int a,.int b=>a == b
 | .str a,.str b=>a == b
 | _,_=>false
theorem bb0 {A:Around} {s:Shared} {y x:V} {u v:Value} (ry:A5 y u) (rx:A5 x v) (fy:aa2 y=true) (fx:aa2 x=true):SeqAt.EqAt A s u v (eqV y x):=by
 cases y with
 | non =>
  cases ry
  cases x with
  | non=>cases rx;exact SeqAt.EqAt.same _
  | bl b=>cases rx;exact SeqAt.EqAt.none_bool b
  | int b=>obtain ⟨t,rfl⟩:=rx;exact SeqAt.EqAt.none_int b t
  | str b=>obtain ⟨t,rfl⟩:=rx;exact SeqAt.EqAt.none_str b t
  | _=>exact absurd (show false=true from fx) q0p
 | bl a =>
  cases ry
  cases x with
  | non=>cases rx;exact SeqAt.EqAt.bool_none a
  | bl b=>cases rx;exact SeqAt.EqAt.bool_bool a b
  | int b=>obtain ⟨t,rfl⟩:=rx;exact SeqAt.EqAt.bool_int a b t
  | str b=>obtain ⟨t,rfl⟩:=rx;exact SeqAt.EqAt.bool_str a b t
  | _=>exact absurd (show false=true from fx) q0p
 | int a =>
  obtain ⟨t',rfl⟩:=ry
  cases x with
  | non=>cases rx;exact SeqAt.EqAt.int_none a t'
  | bl b=>cases rx;exact SeqAt.EqAt.int_bool a t' b
  | int b=>obtain ⟨t,rfl⟩:=rx;exact SeqAt.EqAt.int_int a t' b t
  | str b=>obtain ⟨t,rfl⟩:=rx;exact SeqAt.EqAt.int_str a t' b t
  | _=>exact absurd (show false=true from fx) q0p
 | str a =>
  obtain ⟨t',rfl⟩:=ry
  cases x with
  | non=>cases rx;exact SeqAt.EqAt.str_none a t'
  | bl b=>cases rx;exact SeqAt.EqAt.str_bool a t' b
  | int b=>obtain ⟨t,rfl⟩:=rx;exact SeqAt.EqAt.str_int a t' b t
  | str b=>obtain ⟨t,rfl⟩:=rx;exact SeqAt.EqAt.str_str a t' b t
  | _=>exact absurd (show false=true from fx) q0p
 | _=>exact absurd (show false=true from fy) q0p
def eqU (x:V) (u:Value):Bool:=match u with
 | .none=>eqV .non x
 | .bool b=>eqV (.bl b) x
 | .int i _=>eqV (.int i) x
 | .str z _=>eqV (.str z) x
 | _=>false
theorem aN2 {x y:V} {u:Value} (r:A5 y u) (f:aa2 y=true):eqU x u=eqV y x:=by
 cases y with
 | non=>cases r;rfl
 | bl b=>cases r;rfl
 | int i=>obtain ⟨t,rfl⟩:=r;rfl
 | str z=>obtain ⟨t,rfl⟩:=r;rfl
 | _=>exact absurd (show false=true from f) q0p
theorem au3 {A:Around} {s:Shared} {x:V} {v:Value} (rx:A5 x v) (fx:aa2 x=true):∀ {xs:List V} {us:List Value},k9 xs us->xs.all aa2=true->∀ u ∈ us,SeqAt.EqAt A s u v (eqU x u)
 | _,_,.nil,_=>λu hu=>by cases hu
 | y :: xs,u :: us,.cons r t,f=>λu' hu=>by
  rw [g0e,j0n] at f;rcases z0d.mp hu with rfl | hu
  ·rw [aN2 r f.1];exact bb0 r rx f.1 fx
  ·exact au3 rx fx t f.2 u' hu
theorem j5:Y6 X (.builtin "len") (λxs H Q => ∃ p ys,xs=[.ref p]/\(SqL X.K H p ys \/ SqT X.K H p ys)/\Q (.int ys.length) H):=by
 intro pins s σ H xs us Q I r h;obtain ⟨p,ys,rfl,hq,q⟩:=h;obtain ⟨u,rfl,rx⟩:=ah9 r
 cases rx
 have hn:=ao3;rcases hq with hq | hq
 ·obtain ⟨its,r',pl,hz⟩:=I.list hq
  have hlen:=r'.length;exact Calls.call_len_list pl.isList (by simp only [q0k] <;> omega) ⟨.int ys.length,H,I.tok _,⟨s.toks+1,by rw [q0k,hlen]⟩,q⟩
 ·obtain ⟨its,r',pl,hz⟩:=I.tuple hq
  have hlen:=r'.length;exact len_tuple pl (by simp only [q0k] <;> omega) ⟨.int ys.length,H,I.tok _,⟨s.toks+1,by rw [q0k,hlen]⟩,q⟩
theorem C5:Y6 X (.type "list") (λxs H Q => ∃ p ys,xs=[.ref p]/\(SqL X.K H p ys \/ SqT X.K H p ys)/\∀ l,H l=none->Q (.ref l) (upd H l (.lst ys))):=by
 intro pins s σ H xs us Q I r h;obtain ⟨p,ys,rfl,hq,q⟩:=h;obtain ⟨u,rfl,rx⟩:=ah9 r
 cases rx
 have fin:∀ (its:List Value),k9 ys its->ys.length<=sizeLine->∀ (h':Heap) (c':Nat),(∀ b o',s.heap.get? b=some o'->h'.get? b=some o') ->
   h'.get? s.heap.objs.size=some { cls:=.type "list",dict:=none,data:=.seq its.toArray c',slots:=#[] }->EP X pins σ Q (.ref s.heap.objs.size) { s with heap:=h' }:=λits r' hz h' c' kp e =>
  ⟨.ref s.heap.objs.size,_,I.laid (t':=s.toks) kp (q0h _) (show G5 X.prog X.w _ h' _ (.lst ys) from ⟨hz,its,c',r',e⟩),rfl,q _ (I.hok.fresh (q0h _))⟩
 rcases hq with hq | hq
 ·obtain ⟨its,r',pl,hz⟩:=I.list hq
  have hlen:=r'.length;obtain ⟨o,ho,hc,n,hd⟩:=pl.isList;exact call_list_seq p (.inl rfl) ho hc hd (λh' c' kp e=>fin its r' hz h' c' kp e) (by simp only [q0k] <;> omega)
 ·obtain ⟨its,r',pl,hz⟩:=I.tuple hq
  have hlen:=r'.length;obtain ⟨o,ho,hc,n,hd⟩:=pl;exact call_list_seq p (.inr rfl) ho hc hd (λh' c' kp e=>fin its r' hz h' c' kp e) (by simp only [q0k] <;> omega)
theorem ax4:Y6 X (.type "tuple") (λxs H Q => ∃ p ys,xs=[.ref p]/\((SqL X.K H p ys/\∀ l,H l=none->Q (.ref l) (upd H l (.tup ys))) \/ (SqT X.K H p ys/\Q (.ref p) H))):=by
 intro pins s σ H xs us Q I r h;obtain ⟨p,ys,rfl,h⟩:=h;obtain ⟨u,rfl,rx⟩:=ah9 r
 cases rx
 rcases h with ⟨hq,q⟩ | ⟨hq,q⟩
 ·obtain ⟨its,r',pl,hz⟩:=I.list hq
  have hlen:=r'.length;refine call_tuple_list pl.isList (λh' kp=>?_) (by simp only [q0k] <;> omega)
  have I1:Inv X pins σ H { s with heap:=h' }:=I.kept (t':=s.toks) kp
  have I2:Inv X pins σ (upd H h'.objs.size (.tup ys)) { s with heap:=h'.push { cls:=.type "tuple",data:=.seq its.toArray } } :=
   I1.laid (t':=s.toks) (λb o e=>q0e _ e) (q0h _) (show G5 X.prog X.w _ _ _ (.tup ys) from ⟨hz,its,r',IsTup.new _ _⟩)
  exact ⟨.ref h'.objs.size,_,I2,rfl,q _ (I1.hok.fresh (q0h _))⟩
 ·obtain ⟨its,r',pl,hz⟩:=I.tuple hq
  exact call_tuple_same pl ⟨.ref p,H,I,rfl,q⟩
def tyV (K:PySem.W.Frag) (T:String) (x:V) (H:Hp):Prop:=match x with
  | .str _=>T = "str"
  | .int _=>T = "int"
  | .ref p => (T = "list" ∧ ∃ xs, SqL K H p xs) ∨ (T = "tuple" ∧ ∃ o, K.lookup p = some o ∧ o.cls = .type "tuple" ∧ o.dict = none) ∨
      (T = "dict"/\((∃ kvs,H p=some (.dK kvs)) \/ ∃ kvs,H p=some (.dT kvs))) \/ (T = "set"/\∃ S n,H p=some (.set S n))
  | _=>False
theorem aU8 {pins:List (Addr × Obj)} {σ:St} {H:Hp} {s:Shared} {T:String} {x:V} {v:Value} (I:Inv X pins σ H s) (r:A5 x v) (ty:tyV X.K T x H) :
  s.TypeIs v T/\∀ a,v=.ref a->∃ ob,s.heap.get? a=some ob/\ob.dict=none:=by
 cases x with
 | str z =>
  obtain ⟨t,rfl⟩:=r
  cases (show T = "str" from ty)
  exact ⟨typeIs_str s z t,λ_ e=>nomatch e⟩
 | int i =>
  obtain ⟨t,rfl⟩:=r
  cases (show T = "int" from ty)
  exact ⟨typeIs_int s i t,λ_ e=>nomatch e⟩
 | ref p =>
  cases r
  rcases ty with ⟨rfl,xs,hq⟩ | ⟨rfl,o,hk,hc,hd⟩ | ⟨rfl,hk⟩ | ⟨rfl,S,n,hk⟩
  ·obtain ⟨its,_,pl,_⟩:=I.list hq
   refine ⟨pl.isList.typeIs,λa e=>?_⟩
   cases e
   obtain ⟨o,n,e,c,hd,_⟩:=pl;exact ⟨o,e,hd⟩
  ·refine ⟨⟨o,I.kIn p o hk,hc⟩,λa e=>?_⟩
   cases e
   exact ⟨o,I.kIn _ o hk,hd⟩
  ·have z:∃ o,s.heap.get? p=some o/\o.ExactDict:=by
    rcases hk with ⟨kvs,hk⟩ | ⟨kvs,hk⟩
    ·obtain ⟨_,_,_,_,o,_,_,e,ex,_⟩:=I.hok p _ hk
     exact ⟨o,e,ex⟩
    ·obtain ⟨_,_,_,_,o,_,_,e,ex,_⟩:=I.hok p _ hk
     exact ⟨o,e,ex⟩
   obtain ⟨o,e,ex⟩:=z;refine ⟨⟨o,e,ex.1⟩,λa e2=>?_⟩
   cases e2
   exact ⟨o,e,ex.2.1⟩
  ·obtain ⟨o,_,_,_,e,ex,_⟩:=I.hok p _ hk
   refine ⟨⟨o,e,ex.1⟩,λa e2=>?_⟩
   cases e2
   exact ⟨o,e,ex.2.1⟩
 | _=>exact False.elim ty
def bi9 (K:q0a) (T:String) (r:V->List V->Hp->VK->Prop) (to:TE):TE:=λσ H Q=>to σ H λx H1=>tyV K T x H1/\r x [] H1 Q
def tBM (K:q0a) (T:String) (r:V->List V->Hp->VK->Prop) (to:TE) (t:TA):TE:=λσ H Q=>to σ H λx H1=>tyV K T x H1/\t σ H1 λxs H2=>r x xs H2 Q
variable {o e:Expr} {es:List Expr} {to:TE} {t:TA} {name:Str} {apos cpos:Pos} {T id:String} {r:V->List V->Hp->VK->Prop}
theorem aE1 (pa:PlainAttrs T) (slot:Slot T name id) (hty:typeOf (.builtin id)=pure (.type "method_descriptor")) (hm:MtR X id r) (ho:PE X o to)
  (hbase:attributeBase o name X.env (eval o X.env)=eval o X.env:=by rfl) (hline:(apos.endLine == cpos.line)=true:=by rfl):PE X (.Call (.Attribute o name apos) [] [] cpos) (bi9 X.K T r to):=by
 intro pins s σ H Q I h;refine wpAny_Call_method0_late hbase hline (thn (ho pins s σ H _ I h) λv s1 zq=>?_);obtain ⟨x,H1,I1,r1,ty,q1⟩:=zq;obtain ⟨h1,h2⟩:=aU8 I1 r1 ty;exact ⟨T,id,pa,slot,hty,h1,h2,Calls.callWith_builtin rfl (PySem.evalArgs_none (hm pins s1 σ H1 x [] v [] Q I1 r1 .nil q1))⟩
theorem az2 (pa:PlainAttrs T) (slot:Slot T name id) (hty:typeOf (.builtin id)=pure (.type "method_descriptor")) (hm:MtR X id r) (ho:PE X o to) (ha:PA X (e :: es) t)
  (hbase:attributeBase o name X.env (eval o X.env)=eval o X.env:=by rfl)
  (hfew:((backTo cpos (starEach (e :: es) X.env)).all (λx => !x.1) && (backToKw cpos (keywordEach [] X.env)).all (λx=>x.1.isSome)
   && decide ((e :: es).length+([]:List Keyword).length+(if ([]:List Keyword).isEmpty then 0 else 1)<30))=true:=by rfl)
  (hline:(apos.endLine == cpos.line)=true:=by rfl) (hs:starEach (e :: es) X.env=(false,eval e X.env) :: starEach es X.env:=by rfl) (hplain:(backTo cpos (starEach es X.env)).any (·.1)=false:=by rfl) :
  PE X (.Call (.Attribute o name apos) (e :: es) [] cpos) (tBM X.K T r to t):=by
 intro pins s σ H Q I h;refine wpAny_Call_method_late hbase hfew hline rfl (thn (ho pins s σ H _ I h) λv s1 zq=>?_);obtain ⟨x,H1,I1,r1,ty,q1⟩:=zq;obtain ⟨h1,h2⟩:=aU8 I1 r1 ty;refine ⟨T,id,pa,slot,hty,h1,h2,?_⟩;have hA:=ha cpos pins s1 σ H1 _ I1 q1;rw [hs] at hA ⊢;refine Calls.callWith_builtin (by show (false || (backTo cpos (starEach es X.env)).any (·.1))=false;rw [hplain] <;> rfl) (Calls.evalArgs_plain ?_)
 refine thn hA λus s2 zq=>?_;obtain ⟨vs,H2,I2,r2,q2⟩:=zq;exact hm pins s2 σ H2 x vs v us Q I2 r1 r2 q2
end
def MtM (X:Cx) (id:String) (r:V->List V->Hp->VK->Prop):Prop :=
 ∀ (pins:List (Addr × Obj)) (s:Shared) (σ:St) (H:Hp) (x:V) (xs:List V) (v:Value) (us:List Value) (Q:VK),Inv X pins σ H s->A5 x v->k9 xs us->r x xs H Q ->
  wpAny (model X.prog X.w) X.A (call (.builtin id) (v :: us)) (EP X pins σ Q) X.xe s
theorem k9.one:∀ {x:V} {us:List Value},k9 [x] us->∃ u,us=[u]/\A5 x u
 | _,_,.cons r .nil=>⟨_,rfl,r⟩
theorem k9.two:∀ {x y:V} {us:List Value},k9 [x,y] us->∃ u v,us=[u,v]/\A5 x u/\A5 y v
 | _,_,_,.cons r (.cons q .nil)=>⟨_,_,rfl,r,q⟩
theorem k9.zero:∀ {us:List Value},k9 [] us->us=[]
 | _,.nil=>rfl
theorem k9.dropLast {xs:List V} {us:List Value} (h:k9 xs us):k9 xs.dropLast us.dropLast:=by
 induction h with
 | nil=>exact .nil
 | cons r t ih =>
  cases t with
  | nil=>exact .nil
  | cons q t'=>exact .cons r ih
theorem k9.rep {xs:List V} {us:List Value} (h:k9 xs us):∀ k:Nat,k9 (q0t k xs).flatten (q0t k us).flatten
 | 0=>.nil
 | k+1=>by
  rw [v0b,v0b,y0j,y0j];exact k9.append h (k9.rep h k)
theorem aN1 {α:Type} (l:List α):l.eraseIdx (l.length-1)=l.dropLast:=by
 induction l with
 | nil=>rfl
 | cons a r ih =>
  cases r with
  | nil=>rfl
  | cons b r =>
   have e:(a :: b :: r).length-1=((b :: r).length-1)+1:=by
    have h1:(a :: b :: r).length=r.length+2:=rfl;have h2:(b :: r).length=r.length+1:=rfl;omega
   rw [e,List.eraseIdx_cons_succ,ih]
   all_goals rfl
theorem aA2 (its:List Value):∀ (k:Nat) (acc:List Value),
  List.foldl (λx1 x2=>x1 ++ x2) acc.toArray (q0t k its.toArray)=(acc ++ (q0t k its).flatten).toArray
 | 0,acc=>by simp
 | k+1,acc=>by
  have e:acc.toArray ++ its.toArray=(acc ++ its).toArray:=by simp
  have e2:(acc ++ its) ++ (q0t k its).flatten=acc ++ (q0t (k+1) its).flatten:=by
   rw [v0b,y0j,List.append_assoc]
  rw [<- e2,<- aA2 its k (acc ++ its),<- e,v0b,List.foldl_cons]
section
variable {X:Cx} {pins:List (Addr × Obj)} {σ:St} {H:Hp} {s:Shared} {l b:Addr} {xs ys zs:List V}
theorem Inv.lset {its its':List Value} {n:Nat} {f:Array Value->Array Value} {t':Nat} (I:Inv X pins σ H s) (hH:H l=some (.lst xs))
  (e:s.heap.get? l=some { cls:=.type "list",data:=.seq its.toArray n }) (hf:f its.toArray=its'.toArray) (hv:k9 ys its') (hz:ys.length<=sizeLine) :
  Inv X pins σ (upd H l (.lst ys)) { s with heap:=s.heap.update l (Obj.mapSeq f),toks:=t' }:=by
 have q:=PySem.IsL.update e f;rw [hf] at q;refine I.write (x:=l) (e:=l) (by rw [hH];exact trivial) (.inl rfl) (λb' u hb hu=>(m0d s.heap (Obj.mapSeq f) (Ne.symm hb)).trans hu) ⟨_,q⟩ ?_
 exact ⟨hz,its',_,hv,q⟩
theorem Inv.lnew {its:List Value} {t':Nat} (I:Inv X pins σ H s) (hv:k9 ys its) (hz:ys.length<=sizeLine) :
  Inv X pins σ (upd H s.heap.objs.size (.lst ys)) { s with heap:=s.heap.push { cls:=.type "list",data:=.seq its.toArray },toks:=t' } :=
 I.laid (λ_ _ q=>q0e _ q) (q0h _) ⟨hz,its,0,hv,z0a _ rfl⟩
theorem Inv.fresh (I:Inv X pins σ H s):H s.heap.objs.size=none:=I.hok.fresh (q0h _)
theorem Inv.lstM (I:Inv X pins σ H s) (hH:H l=some (.lst xs)):xs.length<=sizeLine/\∃ (its:List Value) (n:Nat),k9 xs its/\xs.length=its.length/\s.heap.get? l=some { cls:=.type "list",data:=.seq its.toArray n }:=by
 obtain ⟨z,its,n,r,e⟩:=I.hok l _ hH;exact ⟨z,its,n,r,r.length,e⟩
theorem aY2 {n:Nat} (h:n<=sizeLine):Builtin.List.listTooLong n=false:=by
 unfold Builtin.List.listTooLong;exact decide_eq_false ⋯
end
section
variable {X:Cx}
def aD8:V->List V->Hp->VK->Prop:=λx vs H Q => ∃ l xs y,x=.ref l/\vs=[y]/\H l=some (.lst xs)/\xs.length<sizeLine/\Q .non (upd H l (.lst (xs ++ [y])))
theorem N4:MtM X "list.append" aD8:=by
 intro pins s σ H x vs v us Q I rx rv h;obtain ⟨l,xs,y,rfl,rfl,hH,hz,q⟩:=h
 cases rx
 obtain ⟨u,rfl,ru⟩:=rv.one;obtain ⟨z,its,n,r,hl,e⟩:=I.lstM hH;refine call_meets F.slot_list_append ⟨_,e,rfl⟩ F.entry_list_append (F.args_list_append_2 _ _) (PySem.list_append l its.toArray n u (by rw [q0k];omega)) ⟨e,?_⟩
 refine ⟨.non,_,I.lset (its':=its ++ [u]) hH e (by simp) (r.append (.cons ru .nil)) ?_,rfl,q⟩
 rw [j0a,j0u];omega
def rExtend:V->List V->Hp->VK->Prop:=λx vs H Q => ∃ l b xs zs,x=.ref l/\vs=[.ref b]/\H l=some (.lst xs)/\H b=some (.lst zs)/\xs.length+zs.length<=sizeLine/\Q .non (upd H l (.lst (xs ++ zs)))
def bj6:V->List V->Hp->VK->Prop:=λx vs H Q => ∃ l xs y,x=.ref l/\vs=[]/\H l=some (.lst xs)/\xs[xs.length-1]? = some y/\Q y (upd H l (.lst xs.dropLast))
theorem aY8:MtM X "list.pop" bj6:=by
 intro pins s σ H x vs v us Q I rx rv h;obtain ⟨l,xs,y,rfl,rfl,hH,hy,q⟩:=h
 cases rx
 have hus:=rv.zero;subst hus;obtain ⟨z,its,n,r,hl,e⟩:=I.lstM hH;obtain ⟨u,hu,ru⟩:=r.get hy
 have hy':its.toArray[its.toArray.size-1]? = some u:=by
  show its.toArray[its.length-1]? = some u;rw [<- Array.getElem?_toList,<- hl];exact hu
 refine call_meets F.slot_list_pop ⟨_,e,rfl⟩ F.entry_list_pop (F.args_list_pop_1 _) (MeetsSeq.list_pop_last l its.toArray n u hy' (by rw [q0k];omega)) ⟨e,?_⟩
 refine ⟨y,_,I.lset (its':=its.dropLast) hH e ?_ r.dropLast ?_,ru,q⟩
 ·show its.toArray.eraseIdxIfInBounds (its.toArray.size-1)=its.dropLast.toArray
  rw [q0k,List.eraseIdxIfInBounds_toArray,aN1]
 ·rw [List.length_dropLast]
  omega
def aD6:R2:=λx y H Q => ∃ l b xs zs,x=.ref l/\y=.ref b/\H l=some (.lst xs)/\H b=some (.lst zs)/\xs.length+zs.length<=sizeLine/\∀ p,H p=none->Q (.ref p) (upd H p (.lst (xs ++ zs)))
theorem aa7:OpR X (binaryOp .Add) aD6:=by
 intro pins s σ H x y v u Q I rx ry h;obtain ⟨l,b,xs,zs,rfl,rfl,hH,hB,hz,q⟩:=h
 cases rx
 cases ry
 obtain ⟨z,its,n,r,hl,e⟩:=I.lstM hH;obtain ⟨z2,its2,n2,r2,hl2,e2⟩:=I.lstM hB;refine PySem.P.add_list e e2 ?_ (by rw [q0k,q0k];omega)
 have ea:its.toArray ++ its2.toArray=(its ++ its2).toArray:=by simp
 rw [ea];exact ⟨.ref _,_,I.lnew (t':=s.toks) (r.append r2) (by rw [j0a];omega),rfl,q _ I.fresh⟩
def bj5:R2:=λx y H Q => ∃ l k xs,x=.ref l/\y=.int k/\H l=some (.lst xs)/\-(2 ^ 63)<=k/\k<2 ^ 63/\xs.length*k.toNat<=sizeLine /\
 ∀ p,H p=none->Q (.ref p) (upd H p (.lst (q0t k.toNat xs).flatten))
theorem bf0 {α:Type} (xs:List α) (k:Nat):(q0t k xs).flatten.length=k*xs.length:=by
 induction k with
 | zero=>simp
 | succ k ih=>rw [v0b,y0j,j0a,ih,u0q,m0w]
theorem aX8:OpR X (binaryOp .Mult) bj5:=by
 intro pins s σ H x y v u Q I rx ry h;obtain ⟨l,k,xs,rfl,rfl,hH,h1,h2,hz,q⟩:=h
 cases rx
 obtain ⟨t,rfl⟩:=ry;obtain ⟨z,its,n,r,hl,e⟩:=I.lstM hH;have hlen:its.toArray.size*k.toNat<=sizeLine:=by rw [q0k,<- hl];exact hz
 have hcap:¬ its.toArray.size*k.toNat > (2 ^ 63-1) / 8:=by
  have:(sizeLine:Nat)<=(2 ^ 63-1) / 8:=by decide
  omega
 have hfit:¬ (!Builtin.List.listFitsIndex k)=true:=by
  rw [fitsIndex_both h1 h2];exact q0p
 have hlong:¬ Builtin.List.listTooLong (its.toArray.size*k.toNat)=true:=by
  rw [aY2 hlen];exact q0p
 have hnew:List.foldl (λx1 x2=>x1 ++ x2) #[] (q0t (if its.toArray.isEmpty=true then 0 else k.toNat) its.toArray)=(q0t k.toNat its).flatten.toArray:=by
  have f0:∀ m:Nat,List.foldl (λx1 x2=>x1 ++ x2) #[] (q0t m its.toArray)=(q0t m its).flatten.toArray:=λm=>by
   have:=aA2 its m [];rw [List.nil_append] at this;exact this
  rw [f0]
  cases its with
  | nil=>simp
  | cons a r'=>rw [if_neg (by simp)]
 refine wpAny_binaryOp_repeat_ref (T := "list") (U := "int") (by decide) ⟨_,e,rfl⟩ (λs'=>typeIs_int s' k t) noFill_list_mul F.fills_int_mul F.slot_int_rmul repeat_list F.slot_int_index.lookup
  (call_meets F.slot_int_rmul (typeIs_int s k t) F.entry_int_rmul (F.args_int_rmul_2 _ _) (int___rmul___int_list k t l its.toArray n)
   ⟨e,rfl,⟨_,e,rfl⟩,call_meets F.slot_list_mul ⟨_,e,rfl⟩ F.entry_list_mul (F.args_list_mul_2 _ _) (AutoListH.list___mul___list_int_3 l its.toArray n k t hfit hcap hlong) ⟨e,?_⟩⟩)
 rw [hnew];exact ⟨.ref _,_,I.lnew (t':=s.toks) (r.rep k.toNat) (by rw [bf0,v0u];exact hz),rfl,q _ I.fresh⟩
end
end L2
namespace Att
open PySem PySem.W PySem.Calls PyProof.Rows
theorem aq7 {P:Params} {h:Heap}:∀ (ns:List Int) (vs:List Value),WellAll P h vs (ns.map WData.int)->IntsAre vs ns:=by
 intro ns
 induction ns with
 | nil =>
  intro vs w;rw [List.map_nil] at w
  cases w
  exact .nil
 | cons n ns ih =>
  intro vs w;rw [j0d] at w
  cases w with
  | cons a b =>
   cases a
   exact .cons _ _ (ih _ b)
theorem aS0 {l:OpenLaw} {n:Nat} (hn:l.most=some n) {P:Params} {h:Heap} {args:List WData} {vals:List Value}
  (hpre:l.row.toRowW.claim.pre args=true) (hwl:WellAll P h vals args) :
  ∃ a vs ns,vals=[Value.ref a]/\args=[WData.list (ns.map WData.int)]/\h.get? a=some { cls:=.type "list",data:=.seq vs.toArray }/\IntsAre vs ns/\ns.length<=n:=by
 have hsh:WShape.hasAll [] args [.list .int]=true:=(pre_splitW hpre).1;have hc:l.pre.holds [] { args:=args }=true:=(pre_splitW hpre).2;obtain ⟨d,r,rfl,h1,h2⟩:=hasAllW_cons hsh;obtain rfl:=hasAllW_nil h2;obtain ⟨xs,rfl,h3⟩:=hasW_list h1;obtain ⟨ns,rfl⟩:=items_int h3
 have hlen:ns.length<=n:=by
  unfold OpenLaw.pre at hc
  have h4:(WTm.not (.lt (.lit (.int (n:Int))) (.len (.arg 0)))).holds [] { args:=[.list (ns.map .int)] }=true:=by
   have h4:=(holds_andW hc).1;rw [hn] at h4;exact h4
  have h5:=condW_of h4 (w_not (w_lt w_lit (w_len_list (w_arg rfl))));rw [q0g] at h5;refine Nat.le_of_not_lt λq=>?_;have q':(n:Int)<((ns.length:Nat):Int):=⋯
  first
   | (rw [decide_eq_true q'] at h5;exact absurd h5 (by decide))
   | (simp at h5;omega)
 cases hwl with
 | cons w1 w2 =>
  cases w2
  cases w1 with
  | list ho hall=>exact ⟨_,_,ns,rfl,rfl,ho,aq7 ns _ hall,hlen⟩
theorem aS5 (l:OpenLaw) (args:List WData):l.row.toRowW.claim.post args (.bool true) args=true :=
 postW_of (r:=l.row.toRowW) (X:=(true == true))
  (show WShape.has [] (.bool true) .bool=true by first | rfl | decide | simp [WShape.has,WShape.arms,WShape.armsAll])
  (show (WTm.eq .res (.lit (.bool true))).value [] { args:=args,res:=some (.bool true),after:=args }=some (.bool (true == true)) from w_eq_bool (w_res rfl) w_lit) rfl
theorem attach_call {l:OpenLaw} {n:Nat} {q:Program} {loose:List Str} {XP:(Str->Option Value)->Heap->Prop} {YP:World->Heap->Prop} {d:DefRec}
  (hn:l.most=some n) (hdf:d.params.defaults=[])
  (call:∀ (w:World) (s₀ s₁:Shared) (mg mb:Str->Option Value) (fa:Addr) (o:Obj) (pm cd doc:Value) (a:Addr) (vs:List Value) (ns:List Int),
   Ground q loose [] XP w s₀ mg mb s₁.heap->YP w s₁.heap ->
   s₁.heap.get? fa=some o->o.data=.func (docDef d.name d.params d.body d.scope pm cd doc)->s₁.heap.CodeRec cd d.name->mg d.name=some (.ref fa) ->
   s₁.heap.get? a=some { cls:=.type "list",data:=.seq vs.toArray }->IntsAre vs ns->ns.length<=n->s₁.gens = #[] ->
   codeAny (model l.prog w) callerA (.call (.ref fa) ⟨[.ref a],[]⟩) (λr s'=>r=.ok (.ret (.bool true))/\OldK s₁.heap s'.heap/\s'.os=s₁.os/\AllBare s'.gens) s₁) :
  WalkO q loose XP YP l.row.toRowW d [] (λf vs=>PySem.call f vs):=by
 intro w s₀ s₁ mg mb G Y fa o pm cd doc dV kV ho hd hcd hD hmg hg args vals as hpre hlay hrd hwl hlo;obtain rfl:dV=.none:=Dflts.none hD hdf;obtain rfl:kV=.none:=Dflts.noKw hD;obtain ⟨a,vs,ns,rfl,rfl,hobj,hints,hlen⟩:=aS0 hn hpre hwl;refine enter_call (codeAny_mono (call w s₀ s₁ mg mb fa o pm cd doc a vs ns G Y ho (fd_plain hd) hcd hmg hobj hints hlen hg) λr s' hq=>?_);obtain ⟨rfl,h2,h3,h4⟩:=hq;exact ⟨.inl ⟨.bool true,.bool true,[],rfl,λ_=>rfl,.bool true,aS5 l _,λ_=>⟨List.Pairwise.nil,λ_ hm=>(nomatch hm)⟩⟩,h2,h3,h4⟩
end Att
namespace L2
open PySem PySem.Spec PyProof.Rows
theorem ax8:∀ {vs:List Value} {ns:List Int},IntsAre vs ns->k9 (ns.map V.int) vs
 | _,_,.nil=>.nil
 | _,_,.cons n t h=>.cons ⟨t,rfl⟩ (ax8 h)
def bn7 (H:Hp):Prop:=∀ b,H b=none \/ ∃ o xs,H b=some (.frz o (.lst xs))
theorem aZ3 {P:Program} {w:World} {K:q0a} {mg mb:Str->Option Value} {CX:CXT} {k:Nat} {fa a:Addr} {fd:FuncData} {x:Str} {sp:Sp} {s₁:Shared} {vs:List Value} {ns:List Int}
  (KX:K.In s₁.heap) (hns:s₁.heap.Ns mainGlobals mg) (hb:s₁.heap.Ns builtinsNs mb) (hbb:∀ x:Str,x ≠ "__name__"->mb x=bootBuiltins x) (hlim:s₁.heap.NoLimit) (hg:s₁.gens = #[])
  (ha:s₁.heap.get? a=some { cls:=.type "list",data:=.seq vs.toArray }) (hi:IntsAre vs ns) (hl:ns.length<=sizeLine) (hr:Y7 k callerA)
  (F:∀ base:Heap,K.In base->base.Ns mainGlobals mg->am6 P w K mg base CX k fa fd [x] sp) (hbind:∀ (s:Shared) (u:Value),BindsTo s fd ⟨[u],[]⟩ [(x,u)])
  (hsp:∀ H:Hp,bn7 H->SqL K H a (ns.map V.int)->sp [.ref a] H (λv _=>v=.bl true) λ_ _ _=>False)
  (hCX:∀ H e s',CX [] H s₁ (λ_ _ _=>False) e s'->False) :
  codeAny (model P w) callerA (.call (.ref fa) ⟨[.ref a],[]⟩) (λr s'=>r=.ok (.ret (.bool true))/\OldK s₁.heap s'.heap/\s'.os=s₁.os/\AllBare s'.gens) s₁:=by
 have rv:=ax8 hi;have lenV:=hi.length
 -- from an abstract heap in which nothing but the script may be tracked
 have core:∀ H:Hp,bn7 H->SqL K H a (ns.map V.int)->HOk P w H s₁.heap->(∀ b,H b ≠ none->b=a)->(H a ≠ none->K.lookup a=none) ->
   codeAny (model P w) callerA (.call (.ref fa) ⟨[.ref a],[]⟩) (λr s'=>r=.ok (.ret (.bool true))/\OldK s₁.heap s'.heap/\s'.os=s₁.os/\AllBare s'.gens) s₁:=by
  intro H hO hS hok hA hK;have base_of:∀ {b:Addr} {o:Obj},s₁.heap.get? b=some o->H b=none->(aF4 s₁.heap H).get? b=some o:=λe n=>aZ9 e n
  have noA:∀ {b:Addr} {o:Obj} {es:Array DictEntry} {ep:Nat},s₁.heap.get? b=some o->o.data=.dict es ep->H b=none:=fun {b o es ep} e d=>by
   cases q:H b with
   | none=>rfl
   | some u =>
    have e':b=a:=hA b (by rw [q];simp)
    subst e';rw [ha] at e;cases e;have d':Data.seq vs.toArray _=Data.dict es ep:=d
    cases d'
  have nsK:∀ {b:Addr} {m:Str->Option Value},s₁.heap.Ns b m->(aF4 s₁.heap H).Ns b m:=fun {b m} ⟨o,es,ep,e,d,r⟩=>⟨o,es,ep,base_of e (noA e d),d,r⟩
  have hKb:K.In (aF4 s₁.heap H):=λb o e=>base_of (KX b o e) (by
   cases q:H b with
   | none=>rfl
   | some u =>
    have e':b=a:=hA b (by rw [q];simp)
    subst e';rw [hK (by rw [q];simp)] at e;cases e)
  have hM:Mod K mg (aF4 s₁.heap H):=⟨hKb,nsK hns,⟨mb,nsK hb,hbb⟩,let ⟨mc,h1,h2⟩:=hlim;⟨mc,nsK h1,h2⟩⟩;have e0:aU6 P w K mg (aF4 s₁.heap H) callerA [] s₁ H:=⟨rfl,hM,λb o e=>be6 e,Nat.le_of_eq (aT5 _ _),trivial,λb hb=>absurd (show b ∈ ([]:List Addr) from hb) (by simp),hok,.of_eq hg⟩
  refine codeAny_mono ((F _ hKb (nsK hns)).run callerA [] s₁ H ⟨[.ref a],[]⟩ [.ref a] [.ref a] _ _ hr e0 (hbind s₁ (.ref a)) (.cons rfl .nil) (hsp H hO hS)) λr s' h=>?_
  cases r with
  | error e=>exact (hCX H e s' h).elim
  | ok fl =>
   cases fl with
   | next=>exact False.elim h
   | brk=>exact False.elim h
   | cont=>exact False.elim h
   | ret u =>
    obtain ⟨v,H',os,bare,un,hok',r',q⟩:=h;have q':v=.bl true:=q;subst q';obtain rfl:u=Value.bool true:=r';refine ⟨rfl,OldK.of_keep λb o e=>?_,os,bare⟩
    cases q:H b with
    | none=>exact un.keep b o e q (by intro z;exact absurd (show b ∈ ([]:List Addr) from z) (by simp)) (by simp)
    | some u =>
     rcases hO b with z | ⟨ob,xs,z⟩
     ·rw [q] at z;cases z
     ·have z2:=un.frzs b ob _ z
      obtain ⟨e1,_⟩:=hok b _ z;obtain ⟨e2,_⟩:=hok' b _ z2;rw [e] at e1;cases e1;exact e2
 cases hk:K.lookup a with
 | some o =>
  -- the script is one of the module's own objects
  have e:=KX a o hk;rw [ha] at e
  cases e
  refine core (λ_=>none) (λ_=>.inl rfl) (.inr ⟨_,vs.toArray,_,hk,rfl,rfl,rfl,by rw [q0k,lenV];exact hl,by simpa using rv⟩) (λb u z=>by have z':(none:Option HO)=some u:=z;cases z') (λb z=>absurd rfl z) λz=>absurd rfl z
 | none =>
  refine core (λb=>if b=a then some (.frz { cls:=.type "list",data:=.seq vs.toArray } (.lst (ns.map V.int))) else none) (λb=>?_) (.inl (.inr ⟨{ cls:=.type "list",data:=.seq vs.toArray },if_pos rfl⟩)) (λb u z=>?_) (λb z=>?_) λ_=>hk
  ·by_cases hb:b=a
   ·exact .inr ⟨_,_,if_pos hb⟩
   ·exact .inl (if_neg hb)
  ·by_cases hb:b=a
   ·have z':=(if_pos hb).symm.trans z
    cases z'
    subst hb;exact ⟨ha,by rw [q0g];exact hl,vs,_,rv,ha⟩
   ·have z':=(if_neg hb).symm.trans z
    cases z'
  ·by_cases hb:b=a
   ·exact hb
   ·exact absurd (if_neg hb) z
abbrev KOf {K:q0a} {h:Heap} (_:K.In h):q0a:=K
theorem aO3 {l:m0a} {n k:Nat} {q:Program} {loose:List Str} {XP:(Str->Option Value)->Heap->Prop} {YP:World->Heap->Prop} {d:DefRec} {K:Params->q0a} {CX:World->CXT} {sp:World->Sp} {x:Str}
  (hn:l.most=some n) (hn2:n<=sizeLine) (hdf:d.params.defaults=[]) (hr:Y7 k callerA)
  (hY:∀ (w:World) (h:Heap),YP w h->(K w.params).In h)
  (F:∀ (w:World) (mg:Str->Option Value) (fa:Addr) (h:Heap),(K w.params).In h->h.Ns mainGlobals mg->mg d.name=some (.ref fa) ->
   ∃ fd:FuncData,(∀ (s:Shared) (u:Value),BindsTo s fd ⟨[u],[]⟩ [(x,u)]) /\
    ∀ base:Heap,(K w.params).In base->base.Ns mainGlobals mg->am6 l.prog w (K w.params) mg base (CX w) k fa fd [x] (sp w))
  (hsp:∀ (w:World) (H:Hp) (a:Addr) (ns:List Int),ns.length<=n->bn7 H->SqL (K w.params) H a (ns.map V.int)->sp w [.ref a] H (λv _=>v=.bl true) λ_ _ _=>False)
  (hCX:∀ (w:World) (H:Hp) (s:Shared) (e:Value) (s':Shared),CX w [] H s (λ_ _ _=>False) e s'->False) :
  PySem.W.WalkO q loose XP YP l.row.toRowW d [] (λf vs=>PySem.call f vs):=by
 refine Att.attach_call hn hdf λw s₀ s₁ mg mb fa o pm cd doc a vs ns G Y ho hd hcd hmg hobj hints hlen hg=>?_;have KX:=hY w _ Y;obtain ⟨fd,hb,hF⟩:=F w mg fa _ KX G.T.g hmg;exact aZ3 KX G.T.g G.T.b G.T.builtins G.T.nolimit hg hobj hints (q0q hlen hn2) hr hF hb (λH hO hS=>hsp w H a ns hlen hO hS) λH e s'=>hCX w H s₁ e s'
end L2
namespace L2
open PySem PySem.Spec PyProof.Rows
def ah0 (s:Stmt):Arguments:=match s with
 | .FunctionDef _ a _ _ _ _ _ _ _ _=>a
 | _=>{ posonlyargs:=[],args:=[],vararg:=none,kwonlyargs:=[],kw_defaults:=[],kwarg:=none,defaults:=[] }
def Q7 (s:Stmt):List Stmt:=match s with
 | .FunctionDef _ _ b _ _ _ _ _ _ _=>b
 | _=>[]
def c6 (s:Stmt):Scope:=match s with
 | .FunctionDef _ _ _ _ _ _ sc _ _ _=>sc
 | _=>{ kind:=.function,names:=[],isGenerator:=false,isCoroutine:=false }
abbrev CX0:CXT:=λ_ _ _ _ _ _=>False
abbrev E0:XK:=λ_ _ _=>False
theorem g9 {X:Cx}:av9 CX0 X E0:=λ_ _ _ _ _ _ _ h=>h.elim
structure Fun (K:q0a) (x qual:Str) (st:Stmt) (f:Addr) (fd:FuncData):Prop where
 ex:∃ (oc:Value) (od:Option Addr) (kV doc pm:Value) (an:Option Addr) (cdv ct:Value) (osl:Array (Option Value)),
  fd=y0x x qual (ah0 st) (Q7 st) (c6 st) .none kV doc pm an cdv ct/\K.lookup f=some ⟨oc,od,.func fd,osl⟩/\m0k K cdv qual=true
 kp:y0b K (.ref f)=true
section
variable {P:Program} {w:World} {K:q0a} {mg:Str->Option Value} {base:Heap}
theorem Fun.ok {x qual:Str} {st:Stmt} {f:Addr} {fd:FuncData} {N ps:List Str} {k:Nat} {sp:Sp} (F:Fun K x qual st f fd) (S:i9 N ps (c6 st)) (len:∀ vs H Q E,sp vs H Q E->vs.length=ps.length)
  (hbody:∀ (cdv:Value) (A:Around) (outer:List Env) (s:Shared) (H:Hp) (vs:List V) (Q:VK) (E:XK),Y7 k (A.deeper (envOfC qual (c6 st) s.heap.objs.size f cdv))->sp vs H Q E ->
   ∃ t,PSs (aq8 CX0 P w K mg base N qual (c6 st) f cdv A outer s H E).nox (Q7 st) t/\t { nx:=λ_ H'=>Q .non H',rt:=Q } (start N vs) H):am6 P w K mg base CX0 (k+1) f fd ps sp:=by
 obtain ⟨oc,od,kV,doc,pm,an,cdv,ct,osl,rfl,lk,hcd⟩:=F.ex;refine bh7 lk hcd S len λA outer s H vs Q E hr hsp=>?_;obtain ⟨t,h,q⟩:=hbody cdv A outer s H vs Q E hr hsp;exact ⟨t,h.nox,q⟩
theorem Fun.binds {x qual:Str} {st:Stmt} {f:Addr} {fd:FuncData} {ps:List Str} (F:Fun K x qual st f fd)
  (h:∀ (kV doc pm:Value) (an:Option Addr) (cdv ct:Value) (us:List Value),us.length=ps.length->bindArgs (y0x x qual (ah0 st) (Q7 st) (c6 st) .none kV doc pm an cdv ct) ⟨us,[]⟩=pure (ps.zip us)):ag2 K fd ps []:=by
 obtain ⟨oc,od,kV,doc,pm,an,cdv,ct,osl,rfl,lk,hcd⟩:=F.ex;exact .all (h kV doc pm an cdv ct)
theorem bm0 {x qual:Str} {st:Stmt} {f:Addr} {oc:Value} {od an:Option Addr} {osl:Array (Option Value)} {kV doc pm cdv ct:Value} (l:K.lookup f=some ⟨oc,od,.func (y0x x qual (ah0 st) (Q7 st) (c6 st) .none kV doc pm an cdv ct),osl⟩)
  (c:m0k K cdv qual=true) (k:y0b K (.ref f)=true):Fun K x qual st f (y0x x qual (ah0 st) (Q7 st) (c6 st) .none kV doc pm an cdv ct):=⟨⟨oc,od,kV,doc,pm,an,cdv,ct,osl,rfl,l,c⟩,k⟩
end
section
variable {X:Cx}
theorem pv (i : Nat) {x : Str} {pos : Pos} (hN : X.N[i]? = some x := by rfl) (hv : Vis X.env.scope x := by first | exact Or.inl rfl | exact Or.inr (Or.inl rfl) | exact Or.inr (Or.inr rfl)) (hd : (x == ("__debug__" : Str)) = false := by decide)
    (hcd:(x == ("__classdict__" : Str))=false:=by decide):PE X (.Name x pos) (G2 i):=bk2 hN hv hd hcd
end
theorem br9 {A B:Prop} (h:A):if true=true then A else B:=by
 rw [if_pos rfl];exact h
theorem B3 {c A B:Prop} [Decidable c] (h1:c->A) (h2:¬ c->B):if c then A else B:=by
 by_cases h:c
 ·rw [if_pos h]
  exact h1 h
 ·rw [if_neg h]
  exact h2 h
def c5 (H H':Hp):Prop:=∀ b o,H b=some o->H' b=some o
theorem c5.refl (H:Hp):c5 H H:=λ_ _ h=>h
theorem c5.trans {H H1 H2:Hp} (a:c5 H H1) (b:c5 H1 H2):c5 H H2:=λc o h=>b c o (a c o h)
theorem c5.free {H H':Hp} (e:c5 H H') {l:Addr} (h:H' l=Option.none):H l=Option.none:=by
 cases q:H l with
 | none=>rfl
 | some o =>
  rw [e l o q] at h
  cases h
theorem c5.seq {K:q0a} {H H':Hp} {a:Addr} {xs:List V} (e:c5 H H') (h:SqL K H a xs):SqL K H' a xs:=by
 rcases h with (h | ⟨o,h⟩) | h
 ·exact .inl (.inl (e _ _ h))
 ·exact .inl (.inr ⟨o,e _ _ h⟩)
 ·exact .inr h
section
variable {P:Program} {w:World} {H:Hp} {h:Heap} {a:Addr} {o:HO}
theorem G5.there (x:G5 P w H h a o):∃ ob,h.get? a=some ob:=by
 cases o with
 | lst xs=>obtain ⟨_,_,_,_,e⟩:=x;exact ⟨_,e⟩
 | tup xs=>obtain ⟨_,_,_,ob,e,_⟩:=x;exact ⟨_,e⟩
 | dK kvs=>obtain ⟨_,_,_,_,o,_,_,e,_⟩:=x;exact ⟨_,e⟩
 | dT kvs=>obtain ⟨_,_,_,_,o,_,_,e,_⟩:=x;exact ⟨_,e⟩
 | set S n=>obtain ⟨o,_,_,_,e,_⟩:=x;exact ⟨_,e⟩
 | ins C dx fs=>obtain ⟨_,_,_,e,_⟩:=x;exact ⟨_,e⟩
 | own y=>obtain ⟨_,e⟩:=x;exact ⟨_,e⟩
 | xd fs=>obtain ⟨_,⟨_,_,_,e,_⟩,_⟩:=x;exact ⟨_,e⟩
 | rng lo hi=>obtain ⟨_,_,_,e⟩:=x;exact ⟨_,e⟩
 | frz ob u=>obtain ⟨e,_⟩:=x;exact ⟨_,e⟩
 | tbl ps=>exact ⟨_,(show h.get? a=some _ from x)⟩
 | met f y=>exact ⟨_,(show h.get? a=some _ from x)⟩
 | ext φ=>obtain ⟨_,e,_⟩:=x;exact e
end
def CXR (P:Program) (w:World):CXT:=λouter H s E e s' => ∃ (a:Addr) (cls a0:Value) (H':Hp) (B:Heap),e=.ref a/\s'.os=s.os/\AllBare s'.gens /\
 m0x B outer a cls a0 s'.heap/\(∀ b o,s.heap.get? b=some o->H b=none->b ∉ frs outer->B.get? b=some o)/\(∀ b o,s.heap.get? b=some o->b ∉ frs outer->∃ o',B.get? b=some o') /\
 HOk P w H' B/\Un (frs outer) [] H H' s.heap s'.heap/\H' a=none/\E cls none H'
def bb9 (X:Cx) (R:Value->Hp->Prop):Prop:=∀ (pins:List (Addr × Obj)) (σ:St) (H:Hp) (s:Shared) (h':Heap) (e:Addr) (cls:Value) (vs:List Value),Inv X pins σ H s->Heap.MadeExcOf s.heap h' e cls vs->R cls H ->
 X.xe (.ref e) { s with heap:=h' }
section
variable {CX:CXT} {P:Program} {w:World} {K:q0a} {mg:Str->Option Value} {base:Heap} {N:List Str} {qual:Str} {scope:Scope} {f:Addr} {cd:Value} {A:Around} {outer:List Env} {s₀:Shared} {H₀:Hp} {E:XK}
abbrev cxR (P:Program) (w:World) (K:q0a) (mg:Str->Option Value) (base:Heap) (N:List Str) (qual:Str) (scope:Scope) (f:Addr) (cd:Value) (A:Around) (outer:List Env) (s₀:Shared) (H₀:Hp) (E:XK):Cx:=aq8 (CXR P w) P w K mg base N qual scope f cd A outer s₀ H₀ E
theorem bl9 {X:Cx} {pins:List (Addr × Obj)} {σ:St} {H:Hp} {s:Shared} (I:Inv X pins σ H s):HOk X.prog X.w H (g0z s.heap (frs X.stack)):=λb u e=>by
 refine (I.hok b u e).stay (λc v hc q=>v0a _ q λhm=>?_) (λ_ q=>q) λ_ _ q=>q;have z:=I.stkFree c hm;rcases hc with rfl | hc
 ·rw [z] at e;cases e
 ·rw [z] at hc;cases hc
theorem aS3:bb9 (cxR P w K mg base N qual scope f cd A outer s₀ H₀ E) (λcls H'=>E cls none H'):=by
 intro pins σ H s h' e cls vs I hx hE;have frS:=I.stack;have hin:∀ env ∈ (cxR P w K mg base N qual scope f cd A outer s₀ H₀ E).stack,∀ b,env.frame=some b->b ∈ frs (cxR P w K mg base N qual scope f cd A outer s₀ H₀ E).stack:=λenv he b hb=>g0b.mpr ⟨env,he,hb⟩
 have lo:∀ b o,s₀.heap.get? b=some o->b ∉ frs outer->b ∉ frs (cxR P w K mg base N qual scope f cd A outer s₀ H₀ E).stack:=λb o q hb hm=>by
  rcases z0d.mp (I.stkSub b hm) with z | z
  ·exact absurd z (q0m (q0b (q0c q) I.ok.above))
  ·exact hb z
 refine wpAny_leaves_madeW (base:=g0z s.heap (frs (cxR P w K mg base N qual scope f cd A outer s₀ H₀ E).stack)) I.ok.frames rfl (λb o q=>PySem.W.of_hideAll _ q) (PySem.W.funFrames_hide frS hin) hx λh2 t x1 x2 x3 x4=>?_;have hk:∀ b o,s.heap.get? b=some o->b ∉ frs (cxR P w K mg base N qual scope f cd A outer s₀ H₀ E).stack->h2.get? b=some o:=λb o q hb=>x1.1 b o (v0a _ q hb)
 have hfr:∀ b o,s.heap.get? b=some o->b ∈ frs (cxR P w K mg base N qual scope f cd A outer s₀ H₀ E).stack->∃ sl,h2.get? b=some { o with slots:=sl }:=λb o q hb=>by
  obtain ⟨_,ob,hob,hnf⟩:=frS.mem hb;rw [q] at hob;cases hob;exact x4 b o (hx.keeps b o q) hnf
 have hany:∀ b o,s.heap.get? b=some o->∃ o',h2.get? b=some o':=λb o q=>by
  by_cases hb:b ∈ frs (cxR P w K mg base N qual scope f cd A outer s₀ H₀ E).stack
  ·obtain ⟨sl,z⟩:=hfr b o q hb;exact ⟨_,z⟩
  ·exact ⟨_,hk b o q hb⟩
 have nx:∀ b:Addr,b ∉ (cxR P w K mg base N qual scope f cd A outer s₀ H₀ E).ex:=λb z=>absurd (show b ∈ ([]:List Addr) from z) (by simp)
 refine ⟨e,cls,.ref t,H,_,rfl,I.os,I.bare,x1,λb o q n hb=>v0a _ (I.base.keep b o q n hb (nx b)) (lo b o q hb),λb o q hb=>?_,bl9 I,⟨λb o q n hb _=>?_,λb o q n hb _=>?_,λb o q n _=>I.base.free b o q n (nx b),λb o q _=>?_,I.base.tups,I.base.frzs,I.base.tbls⟩,?_,hE⟩
 ·obtain ⟨o',z⟩:=I.base.there b o q (nx b)
  exact ⟨o',v0a _ z (lo b o q hb)⟩
 ·exact hk b o (I.base.keep b o q n hb (nx b)) (lo b o q hb)
 ·obtain ⟨sl,z⟩:=I.base.slot b o q n hb (nx b)
  have hm:b ∈ frs (cxR P w K mg base N qual scope f cd A outer s₀ H₀ E).stack:=by
   show b ∈ frs (_ :: outer);unfold frs at hb ⊢;rw [z0y];exact q0r _ hb
  obtain ⟨sl',z'⟩:=hfr b _ z hm;exact ⟨sl',z'⟩
 ·obtain ⟨o',z⟩:=I.base.there b o q (nx b)
  exact hany b o' z
 ·cases q:H e with
  | none=>rfl
  | some u =>
   obtain ⟨ob,z⟩:=(I.hok e u q).there;rw [hx.new] at z;cases z
end
structure bh0 (K:q0a) (C:Addr) (bm:List Value) (newId:String):Prop where
 ok:m0r K C bm newId=true
theorem bh0.obj {K:q0a} {C:Addr} {bm:List Value} {newId:String} (O:bh0 K C bm newId) {h:Heap} (X:K.In h) :
  ∃ tl N nm q bs hdct sn sub ab col dd k0 k1 k2 k3 k5 mN,h.get? C=some (excClassObj nm q C N bs tl hdct sn sub ab col dd k0 k1 k2 k3 k5 newId)/\h.Ns N mN/\mN "__init__" = none/\OwnTail h bm tl:=by
 have q:=O.ok;unfold m0r at q
 split at q
 ·rename_i dd cd sl ho
  split at q
  ·rename_i C' bm' k0 k1 k2 k3 n k5 hm hs
   simp only [j0n,beq_iff_eq,v0g] at q;obtain ⟨⟨⟨⟨⟨rfl,rfl⟩,hdel⟩,ht⟩,hok⟩,hni⟩:=q;obtain ⟨nm,bs,mro,ns,qn,hd,sn,sub,ab,col,del⟩:=cd
   dsimp only at hm hdel hok hni
   subst hm hdel
   have hsl:sl = #[k0,k1,k2,k3,some (.builtin n),k5]:=by
    obtain ⟨l⟩:=sl;simp only at hs;rw [hs]
   subst hsl;exact ⟨bm',ns,nm,qn,bs,hd,sn,sub,ab,col,dd,k0,k1,k2,k3,k5,_,X _ _ ho,.of_isNs (PySem.W.isNs_of_in X hok),PySem.W.nsMap_none_of_in X hok hni,PySem.W.tail_of_in X ht⟩
  ·cases q
 ·cases q
section
variable {X:Cx} {x:Str} {C:Addr} {bm:List Value} {newId B initId:String} {e:Expr} {es:List Expr} {te:TA} {np cpos pos:Pos} {R:Value->Hp->Prop}
def aK9 (C:Addr) (te:TA) (R:Value->Hp->Prop):TS:=λ_ σ H=>te σ H λvs H1=>vs.length<=sizeLine/\R (.ref C) H1
theorem aW7 (O:bh0 X.K C bm newId) (FB:ExcBaseFacts B newId initId bm) (hc:X.calm=true) (hg:Gl X x) (hm:X.mg x=some (.ref C)) (hr:bb9 X R) (he:PA X (e :: es) te)
  (hst:starEach (e :: es) X.env=(false,eval e X.env) :: starEach es X.env:=by rfl) (hplain:(backTo cpos (starEach es X.env)).any (·.1)=false:=by rfl) (hd:(x == ("__debug__" : Str))=false:=by decide) :
  PS X (.Raise (some (.Call (.Name x np) (e :: es) [] cpos)) none pos) (aK9 C te R):=by
 intro pins s σ H D I h;obtain ⟨tl,N,nm,q,bs,hdct,sn,sub,ab,col,dd,k0,k1,k2,k3,k5,mN,hC,hN,hni,T⟩:=O.obj I.ok.mod.kin
 refine wpAny_Raise_call_subT (C:=C) (nm:=nm) (q:=q) (N:=N) (bs:=bs) (bm:=tl) (hdct:=hdct) (sn:=sn) (sub:=sub) (ab:=ab) (col:=col) (dd:=dd) (k0:=k0) (k1:=k1) (k2:=k2) (k3:=k3) (k5:=k5)
  FB (mN:=mN) (T.hasType FB.hasBase) (I.ok.hd hc) (by rw [hst];show (false || (backTo cpos (starEach es X.env)).any (·.1))=false;rw [hplain];rfl) hni (al9 I hg hm ⟨rfl,?_⟩ hd)
 have hA:=he cpos pins s σ H _ I h;rw [hst] at hA ⊢;refine Calls.evalArgs_plain (thn hA λus s2 ⟨vs,H1,I1,r1,hl,q1⟩=>⟨rfl,?_,I1.bk _ _ hC,hN.keeps I1.bk,T.keeps I1.bk,λh' a hx=>hr pins σ H1 s2 h' a _ us I1 hx q1⟩)
 show us.length<=sizeLine;rw [<- r1.length];exact hl
end
section
variable {X:Cx} {pins:List (Addr × Obj)} {σ:St} {H H':Hp} {s s':Shared}
theorem Inv.reA {A2:Around} {c2:Bool} {E2:Value->Shared->Prop} (I:Inv X pins σ H s) (hf:A2.frames=X.A.frames) (hc:c2=true->A2.handled=none):Inv { X with A:=A2,calm:=c2,xe:=E2 } pins σ H s :=
 ⟨⟨I.ok.mod,I.ok.kind,I.ok.glob,I.ok.blt,I.ok.above,I.ok.inj,I.ok.has,I.ok.cab,hc,hf.trans I.ok.frames,I.ok.stk,I.ok.exf,I.ok.bs,I.ok.bsz,I.ok.noex,I.ok.exfs,I.ok.funs,I.ok.frf⟩,
  I.os,I.bare,I.base,I.loc,I.cell,I.free,I.freeC,I.pin,I.hok,I.len⟩
theorem Inv.unA {A2:Around} {c2:Bool} {E2:Value->Shared->Prop} (I:Inv { X with A:=A2,calm:=c2,xe:=E2 } pins σ H s) (ok:X.Ok):Inv X pins σ H s :=
 ⟨ok,I.os,I.bare,I.base,I.loc,I.cell,I.free,I.freeC,I.pin,I.hok,I.len⟩
theorem Inv.bear {E2:Value->Shared->Prop} (I:Inv X pins σ H s):Inv { X with xe:=E2,pn:=X.pn ++ pins } [] σ H s :=
 ⟨⟨I.ok.mod,I.ok.kind,I.ok.glob,I.ok.blt,I.ok.above,I.ok.inj,I.ok.has,I.ok.cab,I.ok.hd,I.ok.frames,I.ok.stk,I.ok.exf,I.ok.bs,I.ok.bsz,I.ok.noex,I.ok.exfs,I.ok.funs,I.ok.frf⟩,
  I.os,I.bare,I.base,I.loc,I.cell,I.free,I.freeC,λp hp=>I.pin p (by simpa using hp),I.hok,I.len⟩
theorem Inv.unbear {E2:Value->Shared->Prop} {pins':List (Addr × Obj)} (I:Inv { X with xe:=E2,pn:=X.pn ++ pins } pins' σ H s):Inv X pins σ H s :=
 ⟨⟨I.ok.mod,I.ok.kind,I.ok.glob,I.ok.blt,I.ok.above,I.ok.inj,I.ok.has,I.ok.cab,I.ok.hd,I.ok.frames,I.ok.stk,I.ok.exf,I.ok.bs,I.ok.bsz,I.ok.noex,I.ok.exfs,I.ok.funs,I.ok.frf⟩,
  I.os,I.bare,I.base,I.loc,I.cell,I.free,I.freeC,λp hp=>I.pin p (u0j _ hp),I.hok,I.len⟩
def ap5 (X:Cx):St:=q0t X.N.length none
theorem Inv.forget (I:Inv X pins σ H s):Inv X pins (ap5 X) H s :=
 I.weak (by unfold ap5;rw [j0t];exact I.len.symm) λi v e=>by
  unfold ap5 at e;rw [y0k] at e
  split at e <;> cases e
theorem Inv.relocal {h':Heap} {m':Str->Option Value} {t':Nat} (I:Inv X pins σ H s) (hn':h'.Ns X.env.locals m') (hs:y0q X.env.locals s.heap h'):Inv X pins (ap5 X) H { s with heap:=h',toks:=t' }:=by
 have cne:=I.cne;refine ⟨I.ok,I.os,I.bare,⟨λb o e n hb hx=>?_,λb o e n hb hx=>?_,I.base.free,λb o e hx=>?_,I.base.tups,I.base.frzs,I.base.tbls⟩,⟨_,hn',λj y v' e1 e2 e3=>?_⟩,λy c e=>?_,I.free,I.freeC,λp hp=>?_,λb ob e=>?_,?_⟩
 ·exact (hs.2 b (q0m (q0b (q0c e) I.ok.above))).trans (I.base.keep b o e n hb hx)
 ·obtain ⟨sl,e1⟩:=I.base.slot b o e n hb hx
  exact ⟨sl,(hs.2 b (q0m (q0b (q0c e) I.ok.above))).trans e1⟩
 ·obtain ⟨o',e1⟩:=I.base.there b o e hx
  exact ⟨o',(hs.2 b (q0m (q0b (q0c e) I.ok.above))).trans e1⟩
 ·unfold ap5 at e2
  rw [y0k] at e2
  split at e2 <;> cases e2
 ·obtain ⟨w',z⟩:=I.cell y c e
  exact ⟨w',z.sameBut hs (cne y c e)⟩
 ·obtain ⟨e,n,ne,nf,d⟩:=I.pin p hp
  exact ⟨(hs.2 p.1 ne).trans e,n,ne,nf,d⟩
 ·refine (I.hok b ob e).stay (λc w' hc q=>(hs.2 c ?_).trans q) (λ_ q=>q) λ_ _ q=>q
  rintro rfl;rcases hc with rfl | hc
  ·rw [I.free] at e;cases e
  ·rw [I.free] at hc;cases hc
 ·show (q0t X.N.length none).length=_
  exact j0t
def Exc (cls:Value) (a:Addr):HO:=.ext λh => ∃ o vs,h.get? a=some o/\o.cls=cls/\o.data=.fields vs
end
theorem Exc.ok {P:Program} {w:World} {H:Hp} {h:Heap} {cls:Value} {a:Addr} {o:Obj} {vs:Array Value} (h1:h.get? a=some o) (h2:o.cls=cls) (h3:o.data=.fields vs):G5 P w H h a (Exc cls a) :=
 ⟨⟨o,vs,h1,h2,h3⟩,⟨o,h1⟩,λ_ _ ⟨o,vs,q1,q2,q3⟩ k=>⟨o,vs,k o q1,q2,q3⟩⟩
theorem Inv.track {X:Cx} {pins:List (Addr × Obj)} {σ:St} {H:Hp} {s:Shared} {o:HO} {a:Addr} (I:Inv X pins σ H s) (hn:H a=none) (new:G5 X.prog X.w (upd H a o) s.heap a o)
  (h1:∀ b ob,X.s₀.heap.get? b=some ob->X.H₀ b=none->b ∉ X.ex->b ≠ a) (h2:X.env.locals ≠ a) (h3:∀ x c,X.env.cells.lookup x=some c->c ≠ a) (h4:∀ p ∈ X.pn ++ pins,p.1 ≠ a):Inv X pins σ (upd H a o) s :=
 ⟨I.ok,I.os,I.bare,⟨I.base.keep,I.base.slot,λb ob q n hx=>by rw [d4 (h1 b ob q n hx)];exact I.base.free b ob q n hx,I.base.there,λb xs q=>by rw [d4 (d5 (I.base.tups b xs q) hn)];exact I.base.tups b xs q,
   λb ob u q=>by rw [d4 (d5 (I.base.frzs b ob u q) hn)];exact I.base.frzs b ob u q,λb ps q=>by obtain ⟨m,z⟩:=I.base.tbls b ps q;exact ⟨m,by rw [d4 (d5 z hn)];exact z⟩⟩,
  I.loc,I.cell,by rw [d4 h2];exact I.free,λx c q=>by rw [d4 (h3 x c q)];exact I.freeC x c q,λp hp=>let ⟨e1,e2,e3⟩:=I.pin p hp;⟨e1,by rw [d4 (h4 p hp)];exact e2,e3⟩,
  λb u e=>by
   by_cases hb:b=a
   ·subst hb;rw [b8] at e;cases e;exact new
   ·rw [d4 hb] at e
    exact (I.hok b u e).stay (λ_ _ _ q=>q) (λc q=>by rw [d4 (d5 q hn)];exact q) λc xs q=>by rw [d4 (d5 q hn)];exact q,
  I.len⟩
theorem Inv.caught {X:Cx} {pins:List (Addr × Obj)} {σ:St} {H:Hp} {s s':Shared} {a:Addr} {cls a0:Value} {H':Hp} {B h6:Heap} (I:Inv X pins σ H s) (os:s'.os=s.os) (bare:AllBare s'.gens) (fl:m0x B X.stack a cls a0 s'.heap)
  (hB:∀ b o,s.heap.get? b=some o->H b=none->b ∉ frs X.stack->B.get? b=some o) (hth:∀ b o,s.heap.get? b=some o->b ∉ frs X.stack->∃ o',B.get? b=some o') (hok:HOk X.prog X.w H' B)
  (un:Un (frs X.stack) [] H H' s.heap s'.heap) (st:B.StaysIn h6) (up:s'.heap.UpToSlots h6):Inv X pins σ H' { s' with heap:=h6 }:=by
 have hfr:∀ b o,s'.heap.get? b=some o->b ∈ frs X.stack->∃ sl,h6.get? b=some { o with slots:=sl }:=λb o q hb=>by
  obtain ⟨_,ob,hob,hnf⟩:=fl.2.2.1.mem hb;rw [q] at hob;cases hob;exact up b o q hnf
 refine I.call' (s':={ s' with heap:=h6 }) (ch:=[]) os ⟨λb o q n hb _=>st b o (hB b o q n hb),λb o q n hb _=>?_,un.free,λb o q _=>?_,un.tups,un.frzs,un.tbls⟩ (hok.kept λb u q=>st b u q) bare (λb z=>absurd z (by simp))
 ·obtain ⟨sl,z⟩:=un.slot b o q n hb (by simp)
  obtain ⟨sl2,z2⟩:=hfr b _ z hb;exact ⟨sl2,z2⟩
 ·by_cases hb:b ∈ frs X.stack
  ·obtain ⟨o2,z2⟩:=un.there b o q (by simp)
   obtain ⟨sl,z3⟩:=hfr b o2 z2 hb;exact ⟨_,z3⟩
  ·obtain ⟨o2,z2⟩:=hth b o q hb
   exact ⟨o2,st b o2 z2⟩
abbrev Cx.body (X:Cx) (xe:Value->Shared->Prop) (pn:List (Addr × Obj)):Cx:={ X with xe:=xe,pn:=pn }
abbrev Cx.suite (X:Cx) (a:Addr):Cx:={ X with A:=X.A.mark (some (.ref a)),calm:=false,xe:=λ_ _=>False }
structure R6 (k:Nat) (A:Around):Prop where
 dp:A.depth+3*k+5<recursionLimit
 un:A.units+16*k+200<cLine
theorem Y7.toX {k:Nat} {A:Around} (r:Y7 k A):R6 k A:=⟨r.dp,r.un⟩
theorem R6.mono {j k:Nat} {A:Around} (r:R6 k A) (h:j<=k):R6 j A:=⟨by have:=r.dp;omega,by have:=r.un;omega⟩
theorem R6.deeper {k:Nat} {A:Around} (r:R6 (k+1) A) (env:Env):R6 k (A.deeper env) :=
 ⟨by have:=r.dp;show A.depth+1+3*k+5<_;omega,by have:=r.un;show A.units+3+16*k+200<_;omega⟩
theorem R6.mark {k:Nat} {A:Around} (r:R6 k A) (v:Option Value):R6 k (A.mark v):=⟨r.dp,r.un⟩
theorem R6.depth {k:Nat} {A:Around} (r:R6 k A):A.depth<recursionLimit:=by have:=r.dp;omega
structure aR0 (P:Program) (w:World) (K:q0a) (mg:Str->Option Value) (base:Heap) (k:Nat) (f:Addr) (fd:FuncData) (ps:List Str) (sp:Sp):Prop where
 len:∀ vs H Q E,sp vs H Q E->vs.length=ps.length
 run:∀ (A:Around) (outer:List Env) (s:Shared) (H:Hp) (args:Args) (us:List Value) (vs:List V) (Q:VK) (E:XK),R6 k A->aU6 P w K mg base A outer s H->BindsTo s fd args (ps.zip us)->k9 vs us->sp vs H Q E ->
  codeAny (model P w) A (.call (.ref f) args) (CR CX0 outer P w H s Q E) s
abbrev cxX (P:Program) (w:World) (K:q0a) (mg:Str->Option Value) (base:Heap) (N:List Str) (qual:Str) (scope:Scope) (f:Addr) (cd:Value) (A:Around) (outer:List Env) (s₀:Shared) (H₀:Hp) (E:XK):Cx :=
 { aq8 CX0 P w K mg base N qual scope f cd A outer s₀ H₀ E with calm:=false,xe:=λ_ _=>False }
theorem Fun.okX {P:Program} {w:World} {K:q0a} {mg:Str->Option Value} {base:Heap} {x qual:Str} {st:Stmt} {f:Addr} {fd:FuncData} {N ps:List Str} {k:Nat} {sp:Sp} (F:Fun K x qual st f fd) (S:i9 N ps (c6 st)) (len:∀ vs H Q E,sp vs H Q E->vs.length=ps.length)
  (hbody:∀ (cdv:Value) (A:Around) (outer:List Env) (s:Shared) (H:Hp) (vs:List V) (Q:VK) (E:XK),R6 k (A.deeper (envOfC qual (c6 st) s.heap.objs.size f cdv))->sp vs H Q E ->
   ∃ t,PSs (cxX P w K mg base N qual (c6 st) f cdv A outer s H E) (Q7 st) t/\t { nx:=λ_ H'=>Q .non H',rt:=Q } (start N vs) H):aR0 P w K mg base (k+1) f fd ps sp:=by
 obtain ⟨oc,od,kV,doc,pm,an,cdv,ct,osl,rfl,lk,hcd⟩:=F.ex;refine ⟨len,λA outer s H args us vs Q E hr e0 hb r hsp=>?_⟩;have hl:=len _ _ _ _ hsp;have KX:K.In s.heap:=e0.mod.kin.keeps λb o e=>(e0.bs b o e).1;have lim:s.heap.NoLimit:=e0.mod.nolimit.keeps λb o e=>(e0.bs b o e).1
 have hkind:∀ y ∈ ps.zip us,(c6 st).names.lookup y.1=some .local \/ ((c6 st).names.lookup y.1=some .cell/\((cellsFrom (s.heap.objs.size+1) (c6 st).names []).lookup y.1).isSome=true):=λ⟨n,v⟩ hy=>by
  rcases S.par n (u0p hy).1 with q | q
  ·exact .inl q
  ·exact .inr ⟨q,u0b _ _ _ (.inl q)⟩
 refine codeAny_call_function hr.depth (KX _ _ lk) rfl S.co S.gen rfl (PySem.W.codeRec_of KX hcd) (hb _ _ _ _ ?_);refine wpAny_newFunctionEnv_cells S.kind hkind λenv he s1 x=>?_;subst he;refine ⟨lim.keeps x.toInCall.keep,codeAny_func ?_⟩;obtain ⟨t,ht,hq⟩:=hbody cdv A outer s H vs Q E (hr.deeper _) hsp;have e0':aU6 P w K mg base { A with handled:=none } outer s H:=⟨e0.frames,e0.mod,e0.bs,e0.bsz,e0.funs,e0.frf,e0.hok,e0.bare⟩;have I0:Inv (aq8 CX0 P w K mg base N qual (c6 st) f cdv { A with handled:=none } outer s H E) [] (start N vs) H s1:=az9 S rfl e0' hl r x;have I:Inv (cxX P w K mg base N qual (c6 st) f cdv A outer s H E) [] (start N vs) H s1:=I0.reA (A2:=A.deeper (envOfC qual (c6 st) s.heap.objs.size f cdv)) (by rfl) (λz=>nomatch z)
 refine wpAny_mono (ht [] s1 (start N vs) H _ I hq) (λfl s' hs=>?_) λe s' hs=>False.elim hs
 have fin:∀ {σ':St} {H':Hp} {v:V} {u:Value},Inv (cxX P w K mg base N qual (c6 st) f cdv A outer s H E) [] σ' H' s'->A5 v u->Q v H'->CE outer P w H s Q u s' :=
  fun {σ' H' v u} J rv q=>⟨v,H',J.os,J.bare,J.base,J.hok,rv,q⟩
 cases fl with
 | ret u =>
  obtain ⟨v,σ',H',J,rv,q⟩:=hs;exact fin J rv q
 | next =>
  obtain ⟨σ',H',J,q⟩:=hs;exact fin (v:=V.non) (u:=Value.none) J rfl q
 | brk =>
  obtain ⟨_,_,_,q⟩:=hs;exact False.elim q
 | cont =>
  obtain ⟨_,_,_,q⟩:=hs;exact False.elim q
section
variable {X:Cx} {CX:CXT} {k:Nat} {f:Addr} {fd:FuncData} {ps:List Str} {sp:Sp} {E:XK} {x:Str} {p pos:Pos} {e:Expr} {es:List Expr} {t:TA}
theorem bc9 {pins:List (Addr × Obj)} {σ:St} {H:Hp} {s:Shared} {Q:VK} {us:List Value} {vs:List V} (F:aR0 X.prog X.w X.K X.mg X.base k f fd ps sp) (hr:R6 k X.A) (hb:ag2 X.K fd ps [])
  (I:Inv X pins σ H s) (r:k9 vs us) (h:sp vs H Q E):wpAny (model X.prog X.w) X.A (call (.ref f) us) (EP X pins σ Q) X.xe s:=by
 have hl:(us ++ []).length=ps.length:=by rw [u0n,<- r.length];exact F.len _ _ _ _ h
 have hb':=hb s us I.kIn hl;rw [u0n] at hb';refine wpAny_call (codeAny_mono (F.run X.A X.stack s H ⟨us,[]⟩ us vs Q E hr I.env0 hb' r h) λr s' hq=>?_)
 cases r with
 | error e=>exact False.elim hq
 | ok fl =>
  cases fl with
  | ret u=>exact I.after hq
  | next=>exact False.elim hq
  | brk=>exact False.elim hq
  | cont=>exact False.elim hq
def aB9 (sp:Sp) (t:TA):TE:=λσ H Q=>t σ H λvs H1=>sp vs H1 Q E0
theorem aX1 (F:aR0 X.prog X.w X.K X.mg X.base k f fd ps sp) (hr:R6 k X.A) (hg:Gl X x) (hm:X.mg x=some (.ref f)) (hk:y0b X.K (.ref f)=true) (hb:ag2 X.K fd ps [])
  (ha:PA X (e :: es) t) (hdb:(x == ("__debug__" : Str))=false:=by decide) (he:starEach (e :: es) X.env=(false,eval e X.env) :: starEach es X.env:=by rfl) (hpl:(backTo pos (starEach es X.env)).any (·.1)=false:=by rfl) :
  PE X (.Call (.Name x p) (e :: es) [] pos) (aB9 sp t):=by
 intro pins s σ H Q I h;refine wpAny_Call_Name_kw (al9 I hg hm ?_ hdb);refine PySem.W.callWith_K (h₀:=X.base) I.ok.mod.kin hk (thn (ha pos pins s σ H _ I h) λus s1 ⟨vs,H1,I1,r,q⟩=>⟨I1.kIn,?_⟩) he hpl;exact bc9 F hr hb I1 r q
structure FnV (P:Program) (w:World) (K:q0a) (mg:Str->Option Value) (base:Heap) (k:Nat) (f:Addr) (sp:Sp):Prop where
 ex:∃ fd ps,am6 P w K mg base (CXR P w) k f fd ps sp/\ag2 K fd ps []
 kp:y0b K (.ref f)=true
end
end L2
-- the class of an exception,isinstance,great numbers
set_option maxRecDepth 100000
namespace L2
open PySem PySem.W PySem.Spec PyProof.Rows Builtin Builtin.ObjectAttr Builtin.Getset_descriptor
section
variable {prog:Program} {w:World} {A:Around} {E:Value->Shared->Prop} {s:Shared} {K:Frag} {a C:Addr} {o:Obj}
theorem ax3 {R:Result->Shared->Prop} {tp:Value} (X:K.In s.heap) (hx:s.heap.get? a=some o) (hc:o.cls=.ref C) (hm:mroIn K C (.type "object")=some true)
  (h:R (.ok (.ret (.ref C))) s):codeAny (model prog w) A (.call (.builtin "getset_descriptor.__get__") ⟨[.builtin "object.__class__",.ref a,tp],[]⟩) R s:=by
 obtain ⟨hh,g,dr,t,os⟩:=s;have L0:Looks (model prog w) hh (typeOf (.ref a)) (.ref C):=hc ▸ (Looks.ld hx).andThen .now;have L1:=looks_mroIn (M:=model prog w) X hm;refine codeAny_call_builtin KF.slot_gs.plain KF.entry_gs (KF.slot_gs.check _ _ _ _ _ _ _ _ KF.type_class (KF.args_gs _ _ _) ?_);unfold Builtin.«getset_descriptor.__get__» descrGet;rw [dga_obj];refine wpAny_bind (wpAny_pure ?_);unfold descrGetter descrCheckInstance descrNameAndClass isInstance;simp only [KF.owner_class]
 repeat lk
 refine ⟨Code.quiet_builtin _ (by decide +kernel),codeAny_builtin KF.entry_class ?_⟩
 unfold Builtin.«object.__class__» shownTypeOf
 repeat lk
 exact h
theorem aT6 {tk:Tok} {Q:Fin->Shared->Prop} (X:K.In s.heap) (hx:s.heap.get? a=some o) (hc:o.cls=.ref C) (g3:findIn K (.ref C) "__class__" = some (some (.builtin "object.__class__"))) (hm:mroIn K C (.type "object")=some true)
  (hq:Q (.done (.ret (.ref C))) s):wpAny (model prog w) A (Builtin.«object.__getattribute__» ⟨[.ref a,.str "__class__" tk],[]⟩) Q E s:=by
 obtain ⟨hh,g,dr,t,os⟩:=s;have L0:Looks (model prog w) hh (typeOf (.ref a)) (.ref C):=hc ▸ (Looks.ld hx).andThen .now;have L1:=looks_findIn (M:=model prog w) X g3;have f5:typeOf (.builtin "object.__class__")=pure (.type "getset_descriptor"):=KF.type_class
 have f6:=F.slot_gs_get.lookup;have f7:=F.slot_gs_set.lookup
 repeat (any_goals (first | assumption | (with_reducible refine wpAny_loadPart_at hx ?_;rw [hc]) | with_reducible refine L1.at ?_ | wp_step))
 refine ax3 X hx hc hm ?_
 repeat (any_goals (first | assumption | wp_step))
theorem aT8 {M:Model} {nameV:Value} {Q:Unit->Shared->Prop} (X:K.In s.heap) (hx:s.heap.get? a=some o) (hc:o.cls=.ref C) (hmB:mroIn K C (.type "BaseException")=some true) (hq:Q () s) :
  wpAny M A (checkBuiltinCall "BaseException.__getattribute__" ⟨[.ref a,nameV],[]⟩) Q E s:=by
 obtain ⟨hh,g,d,t,os⟩:=s;have L3:=looks_mroIn (M:=M) X hmB;have hk:builtinKind "BaseException.__getattribute__" = some .slot:=by decide +kernel
 have hsplit:splitId "BaseException.__getattribute__" = some ("BaseException","__getattribute__"):=by decide +kernel
 have ha:=F.args_bexc_ga (.ref a) nameV;simp only [checkBuiltinCall,hk,hsplit];refine wpAny_bind ?_
 ·unfold isInstance
  repeat (first | (with_reducible refine wpAny_loadPart_at hx ?_;rw [hc]) | with_reducible refine L3.at ?_ | wp_step)
  exact hq
theorem aT7 {Q:Option Value->Shared->Prop} (X:K.In s.heap) (hx:s.heap.get? a=some o) (hc:o.cls=.ref C) (g1:findIn K (.ref C) "__getattribute__" = some (some (.builtin "BaseException.__getattribute__"))) (g2:findIn K (.ref C) "__getattr__" = some none)
  (g3:findIn K (.ref C) "__class__" = some (some (.builtin "object.__class__"))) (hm:mroIn K C (.type "object")=some true) (hmB:mroIn K C (.type "BaseException")=some true) 
  (h:Q (some (.ref C)) { s with toks:=s.toks+1 }):wpAny (model prog w) A (getAttr? (.ref a) "__class__") Q E s:=by
 obtain ⟨hh,g,d,t,os⟩:=s;have L0:Looks (model prog w) hh (typeOf (.ref a)) (.ref C):=hc ▸ (Looks.ld hx).andThen .now;have L1:=looks_findIn (M:=model prog w) X g1;have L2:=looks_findIn (M:=model prog w) X g2;have L3:=looks_mroIn (M:=model prog w) X hmB;unfold getAttr? getAttrBy? getAttrBy;refine wpAny_bind (wpAny_mkText (wpAny_bind (wpAny_attempt (wpAny_holding (wpAny_bind (L0.at (wpAny_bind (L1.at ?_))))))));have hx2:(Value.builtin "BaseException.__getattribute__" == Value.builtin "object.__getattribute__")=false:=by decide +kernel
 have hx1:(onTheHeap (Value.ref C) && Value.builtin "BaseException.__getattribute__" == Value.builtin "object.__getattribute__")=false:=by rw [hx2];rfl
 show wpAny _ _ (if (onTheHeap (Value.ref C) && Value.builtin "BaseException.__getattribute__" == Value.builtin "object.__getattribute__")=true then _ else _) _ _ _
 rw [if_neg (by rw [hx1];decide)]
 have f3:=PySem.F.attr_ValueError.ga.bind (.ref a);have hx0:(false && onTheHeap (Value.builtin "BaseException.__getattribute__"))=false:=rfl
 unfold getAttrByItsOwn hookBefore
 repeat (any_goals (first | assumption | (with_reducible refine wpAny_loadPart_at hx ?_;rw [hc]) | with_reducible refine L1.at ?_ | with_reducible refine L2.at ?_ | wp_step))
 refine codeAny_call_builtin PySem.F.attr_ValueError.ga.plain F.entry_bexc_ga (aT8 X hx hc hmB (aT6 X hx hc g3 hm ?_))
 dsimp only
 unfold handedOut;exact wpAny_pure (wpAny_pure h)
structure aw0 (K:Frag) (C:Addr):Prop where
 cl:(clsIn K C).isSome=true
 g1:findIn K (.ref C) "__getattribute__" = some (some (.builtin "BaseException.__getattribute__"))
 g2:findIn K (.ref C) "__getattr__" = some none
 g3:findIn K (.ref C) "__class__" = some (some (.builtin "object.__class__"))
 hm:mroIn K C (.type "object")=some true
 hB:mroIn K C (.type "BaseException")=some true
theorem aZ4 (c:aw0 K C):KitX K (.ref a) (.ref C) (λh => ∃ o,h.get? a=some o/\o.cls=.ref C) where
 ty:=λ_ _ _ ⟨o,hx,hc⟩=>hc ▸ (Looks.ld hx).andThen .now
 it:=λ_ _ X _=>by
  obtain ⟨cdD,hcD⟩:=v0t.mp c.cl;unfold clsIn at hcD
  split at hcD
  ·rename_i c' d' cd' sl' ho
   intro A' Q' E' s' k q;unfold isType loadHead;exact wpAny_bind (wpAny_loadPart (k _ _ (X _ _ ho)) (wpAny_pure q))
  ·cases hcD
 ne:=λh tp dd its n sl X htp=>by
  obtain ⟨cdD,hcD⟩:=v0t.mp c.cl;refine Bool.eq_false_iff.mpr λq=>?_;have e:C=tp:=Value.ref.inj (beq_iff_eq.mp q);subst e;unfold clsIn at hcD
  split at hcD
  ·rename_i c' d' cd' sl' ho
   have z:=(X _ _ ho).symm.trans htp
   cases z
  ·cases hcD
 ca:=λX ⟨o,hx,hc⟩ k=>aT7 X hx hc c.g1 c.g2 c.g3 c.hm c.hB k
end
section
variable {X:Cx}
def bq5:V->Value
 | .ty n=>.type n
 | .ref a=>.ref a
 | _=>.none
def isC:V->Prop
 | .ty _=>True
 | .ref _=>True
 | _=>False
inductive TyX (K:Frag) (H:Hp):V->Value->Prop where
 | of {x:V} {t:Value} (h:ao7 K H x t):TyX K H x t
 | exc {a C:Addr} (e:H a=some (Exc (.ref C) a)) (c:aw0 K C):TyX K H (.ref a) (.ref C)
 | sqt {a:Addr} {xs:List V} (h:SqT K H a xs):TyX K H (.ref a) (.type "tuple")
 | sql {a:Addr} {xs:List V} (h:SqL K H a xs):TyX K H (.ref a) (.type "list")
def bj7 (K:Frag):List V->Hp->VK->Prop:=λxs H Q => ∃ x c t b,xs=[x,c]/\isC c/\TyX K H x t/\kitOne K t (bq5 c)=some b/\Q (.bl b) H
theorem j6:Y6 X (.builtin "isinstance") (bj7 X.K):=by
 intro pins s σ H us vs Q I r h;obtain ⟨x,c,t,b,rfl,ic,ty,e,q⟩:=h;obtain ⟨u,cu,rfl,rx,rc⟩:=k9.two r
 have ec:cu=bq5 c:=by
  cases c with
  | ty n=>exact rc
  | ref a=>exact rc
  | _=>exact False.elim ic
 subst ec;have fin:∀ tk,EP X pins σ Q (.bool b) { s with toks:=tk }:=λtk=>⟨.bl b,H,I.tok tk,rfl,q⟩
 cases ty with
 | of ty=>exact aT3 I rx ty e fin
 | @exc a C ea cl =>
  cases (show u=Value.ref a from rx)
  obtain ⟨⟨o,_,h1,h2,_⟩,_⟩:=(show G5 X.prog X.w H s.heap a (Exc (.ref C) a) from I.hok a _ ea);exact kia_one (aZ4 cl) I.kIn ⟨o,h1,h2⟩ e (λz=>nomatch z) fin
 | @sqt a xs h =>
  cases (show u=Value.ref a from rx)
  obtain ⟨_,_,⟨o,h1,h2,_⟩,_⟩:=I.tuple h;exact kia_one kitx_tuple I.kIn ⟨o,h1,h2⟩ e (λz=>nomatch z) fin
 | @sql a xs h =>
  cases (show u=Value.ref a from rx)
  obtain ⟨_,_,⟨o,n,h1,h2,_⟩,_⟩:=I.list h;exact kia_one kitx_list I.kIn ⟨o,h1,h2⟩ e (λz=>nomatch z) fin
theorem t3:OpR X (binaryOp .Mult) (rI IntMulOk λi j=>.int (i*j)):=opI λ_ _ _ _ _ _ _ hc q=>mul_int q hc
def ag1 (_ j:Int):Prop:=j ≠ 0/\j.natAbs.log2<9000
theorem A6:OpR X (binaryOp .FloorDiv) (rI ag1 λi j=>.int (i.fdiv j)):=opI λ_ _ _ _ _ _ _ hc q=>floordiv_int hc.1 q (.inl (PyProof.noPylong_of_log2 hc.2))
end
open PySem PySem.Spec PyProof.Rows
inductive D where
 | v (x:V)
 | tup (ds:List D)
 | lst (ds:List D)
mutual
def eqD:D->D->Bool
 | .v x,.v y=>eqV x y
 | .tup a,.tup b=>K9 a b
 | .lst a,.lst b=>K9 a b
 | _,_=>false
def K9:List D->List D->Bool
 | [],[]=>true
 | x :: xs,y :: ys=>eqD x y && K9 xs ys
 | _,_=>false
end
mutual
def okD:D->D->Bool
 | .v _,.v _=>true
 | .tup a,.tup b=>ab7 a b
 | .lst a,.lst b=>ab7 a b
 | _,_=>false
def ab7:List D->List D->Bool
 | x :: xs,y :: ys=>okD x y && ab7 xs ys
 | _,_=>true
end
mutual
def dpD:D->Nat
 | .v _=>0
 | .tup a=>af5 a+1
 | .lst a=>af5 a+1
def af5:List D->Nat
 | []=>0
 | x :: xs=>max (dpD x) (af5 xs)
end
mutual
inductive IsD (K:q0a) (H:Hp):V->D->Prop where
 | v {x:V} (f:aa2 x=true):IsD K H x (.v x)
 | tup {p:Addr} {xs:List V} {ds:List D} (h:SqT K H p xs) (t:ac4 K H xs ds):IsD K H (.ref p) (.tup ds)
 | lst {p:Addr} {xs:List V} {ds:List D} (h:SqL K H p xs) (t:ac4 K H xs ds):IsD K H (.ref p) (.lst ds)
inductive ac4 (K:q0a) (H:Hp):List V->List D->Prop where
 | nil:ac4 K H [] []
 | cons {x:V} {xs:List V} {d:D} {ds:List D} (h:IsD K H x d) (t:ac4 K H xs ds):ac4 K H (x :: xs) (d :: ds)
end
theorem ac4.length {K:q0a} {H:Hp}:∀ {xs:List V} {ds:List D},ac4 K H xs ds->xs.length=ds.length
 | _,_,.nil=>rfl
 | _,_,.cons _ t=>congrArg (· + 1) t.length
theorem ba7:∀ {x:V},aa2 x=true->eqV x x=true
 | .non,_=>rfl
 | .bl a,_=>by simp [eqV]
 | .int a,_=>by simp [eqV]
 | .str a,_=>by simp [eqV]
 | .byt _,h=>absurd (show false=true from h) q0p
 | .flt _,h=>absurd (show false=true from h) q0p
 | .ref _,h=>absurd (show false=true from h) q0p
 | .ty _,h=>absurd (show false=true from h) q0p
section
variable {X:Cx} {pins:List (Addr × Obj)} {σ:St} {H:Hp} {s:Shared}
mutual
theorem au9 (I:Inv X pins σ H s):∀ {x:V} {d d':D},IsD X.K H x d->IsD X.K H x d'->okD d d'=true->eqD d d'=true
 | _,_,_,.v f,b,_=>by
  cases b with
  | v _=>rw [eqD];exact ba7 f
  | tup _ _=>exact absurd (show false=true from f) q0p
  | lst _ _=>exact absurd (show false=true from f) q0p
 | _,_,_,.tup h t,b,ok=>by
  cases b with
  | v f=>exact absurd (show false=true from f) q0p
  | tup h' t' =>
   have e:=I.tuple_inj h h';subst e;rw [eqD];rw [okD] at ok;exact ao5 I t t' ok
  | lst _ _=>simp [okD] at ok
 | _,_,_,.lst h t,b,ok=>by
  cases b with
  | v f=>exact absurd (show false=true from f) q0p
  | tup _ _=>simp [okD] at ok
  | lst h' t' =>
   have e:=I.list_inj h h';subst e;rw [eqD];rw [okD] at ok;exact ao5 I t t' ok
theorem ao5 (I:Inv X pins σ H s):∀ {xs:List V} {ds ds':List D},ac4 X.K H xs ds->ac4 X.K H xs ds'->ab7 ds ds'=true->K9 ds ds'=true
 | _,_,_,.nil,b,_=>by cases b;rw [K9]
 | _,_,_,.cons h t,b,ok=>by
  cases b with
  | cons h' t' =>
   rw [ab7,j0n] at ok;rw [K9,au9 I h h' ok.1,ao5 I t t' ok.2];rfl
end
def af4 (ds ds':List D) (j:Nat):Bool:=match ds[j]?,ds'[j]? with
 | some d,some d'=>eqD d d'
 | _,_=>true
theorem af8 (n:Nat) (e:Nat->Bool):(z0w (n+1)).all e=(e 0 && (z0w n).all λj=>e (j+1)):=by
 rw [m0e,g0e,List.all_map];rfl
theorem ah3:∀ (ds ds':List D),((z0w (min ds.length ds'.length)).all (af4 ds ds') && ds.length == ds'.length)=K9 ds ds'
 | [],[]=>by rw [K9];rfl
 | [],_ :: _=>by simp [K9]
 | _ :: _,[]=>by simp [K9]
 | x :: xs,y :: ys=>by
  have ih:=ah3 xs ys;rw [K9,<- ih];have e1:min (x :: xs).length (y :: ys).length=min xs.length ys.length+1:=by simp only [j0v];omega
  rw [e1,af8]
  have e2:((x :: xs).length == (y :: ys).length)=(xs.length == ys.length):=by
   by_cases h:xs.length=ys.length <;> simp [h]
  rw [e2,Bool.and_assoc];rfl
theorem ai5 (ds ds':List D) (h:ds.length=ds'.length):(z0w ds.length).all (af4 ds ds')=K9 ds ds':=by
 rw [<- ah3,<- h,Nat.min_self];simp
theorem au8:∀ (ds ds':List D),ds.length ≠ ds'.length->K9 ds ds'=false
 | [],[],h=>absurd rfl h
 | [],_ :: _,_=>by simp [K9]
 | _ :: _,[],_=>by simp [K9]
 | x :: xs,y :: ys,h=>by
  rw [K9,au8 xs ys (λe=>h (by simp [e]))];simp
theorem ay9 (I:Inv X pins σ H s) {p p':Addr} {xs ys:List V} {ds ds':List D} {A:Around} (h:SqT X.K H p xs) (t:ac4 X.K H xs ds) (h':SqT X.K H p' ys) (t':ac4 X.K H ys ds') (hu:A.units<cLine)
  (q:∀ {us vs:List Value},k9 xs us->k9 ys vs->∀ (j:Nat) (h1:j<us.length) (h2:j<vs.length),SeqAt.EqAt A.in1 s us[j] vs[j] (af4 ds ds' j)):SeqAt.RcAt A s (.ref p) (.ref p') (K9 ds ds'):=by
  obtain ⟨its,r1,i1,_⟩:=I.tuple h;obtain ⟨its',r2,i2,_⟩:=I.tuple h';have z:=SeqAt.RcAt.tuples (A:=A) (items:=its.toArray) (items2:=its'.toArray) (e:=af4 ds ds') i1 i2 hu (λj h1 h2=>q r1 r2 j (by simpa using h1) (by simpa using h2))
  have e1:its.toArray.size=ds.length:=by rw [q0k,<- r1.length,t.length]
  have e2:its'.toArray.size=ds'.length:=by rw [q0k,<- r2.length,t'.length]
  rw [e1,e2,ah3] at z;exact z
theorem az0 (I:Inv X pins σ H s) {p p':Addr} {xs ys:List V} {ds ds':List D} {A:Around} (h:SqL X.K H p xs) (t:ac4 X.K H xs ds) (h':SqL X.K H p' ys) (t':ac4 X.K H ys ds') (hu:A.units<cLine)
  (q:∀ {us vs:List Value},k9 xs us->k9 ys vs->∀ (j:Nat) (h1:j<us.length) (h2:j<vs.length),SeqAt.EqAt A.in1 s us[j] vs[j] (af4 ds ds' j)):SeqAt.RcAt A s (.ref p) (.ref p') (K9 ds ds'):=by
  obtain ⟨its,r1,i1,_⟩:=I.list h;obtain ⟨its',r2,i2,_⟩:=I.list h';have e1:its.toArray.size=ds.length:=by rw [q0k,<- r1.length,t.length]
  have e2:its'.toArray.size=ds'.length:=by rw [q0k,<- r2.length,t'.length]
  by_cases hl:ds.length=ds'.length
  ·have z:=SeqAt.RcAt.lists (A:=A) (items:=its.toArray) (items2:=its'.toArray) (e:=af4 ds ds') i1.isList i2.isList (by rw [e1,e2,hl]) hu (λj h1 h2=>q r1 r2 j (by simpa using h1) (by simpa using h2))
   rw [e1,ai5 ds ds' hl] at z;exact z
  ·rw [au8 ds ds' hl]
   exact SeqAt.RcAt.lists_lengths i1.isList i2.isList (by rw [e1,e2];simpa using hl) hu
mutual
theorem bm1 (I:Inv X pins σ H s):∀ {x y:V} {d d':D} {u v:Value} {A:Around},IsD X.K H x d->IsD X.K H y d'->okD d d'=true->A5 x u->A5 y v->A.units+dpD d<cLine->SeqAt.EqAt A s u v (eqD d d')
 | _,_,_,_,_,_,_,.v f,b,ok,r,r',_=>by
  cases b with
  | v f'=>rw [eqD];exact bb0 r r' f f'
  | tup _ _=>simp [okD] at ok
  | lst _ _=>simp [okD] at ok
 | _,_,_,_,u,v,A,.tup (p:=p) h t,b,ok,r,r',hu=>by
  cases b with
  | v _=>simp [okD] at ok
  | @tup p' _ _ h' t' =>
   cases (show u=Value.ref p from r)
   cases (show v=Value.ref p' from r')
   by_cases hp:p=p'
   ·subst hp
    rw [au9 I (.tup h t) (.tup h' t') ok];exact SeqAt.EqAt.same _
   ·rw [okD] at ok
    rw [dpD] at hu;rw [eqD];exact SeqAt.EqAt.of_refs hp (ay9 I h t h' t' ⋯ λr1 r2 j h1 h2=>ad8 (A:=A.in1) I t t' ok r1 r2 (by show A.units+1+_<_;omega) j h1 h2)
  | lst _ _=>simp [okD] at ok
 | _,_,_,_,u,v,A,.lst (p:=p) h t,b,ok,r,r',hu=>by
  cases b with
  | v _=>simp [okD] at ok
  | tup _ _=>simp [okD] at ok
  | @lst p' _ _ h' t' =>
   cases (show u=Value.ref p from r)
   cases (show v=Value.ref p' from r')
   by_cases hp:p=p'
   ·subst hp
    rw [au9 I (.lst h t) (.lst h' t') ok];exact SeqAt.EqAt.same _
   ·rw [okD] at ok
    rw [dpD] at hu;rw [eqD];exact SeqAt.EqAt.of_refs hp (az0 I h t h' t' ⋯ λr1 r2 j h1 h2=>ad8 (A:=A.in1) I t t' ok r1 r2 (by show A.units+1+_<_;omega) j h1 h2)
theorem ad8 (I:Inv X pins σ H s):∀ {xs ys:List V} {ds ds':List D} {us vs:List Value} {A:Around},ac4 X.K H xs ds->ac4 X.K H ys ds'->ab7 ds ds'=true->k9 xs us->k9 ys vs->A.units+af5 ds<cLine ->
  ∀ (j:Nat) (h1:j<us.length) (h2:j<vs.length),SeqAt.EqAt A s us[j] vs[j] (af4 ds ds' j)
 | _,_,_,_,_,_,_,.nil,_,_,r,_,_=>λj h1 _=>by cases r;exact absurd h1 (Nat.not_lt_zero _)
 | _,_,_,_,_,_,A,.cons h t,b,ok,r,r',hu=>λj h1 h2=>by
  cases b with
  | nil=>cases r';exact absurd h2 (Nat.not_lt_zero _)
  | cons h' t' =>
   cases r with
   | cons r rs =>
    cases r' with
    | cons r' rs' =>
     rw [ab7,j0n] at ok;rw [af5] at hu
     cases j with
     | zero=>exact bm1 I h h' ok.1 r r' ⋯
     | succ j=>exact ad8 I t t' ok.2 rs rs' ⋯ j (by simpa using h1) (by simpa using h2)
end
def D.isV:D->Bool
 | .v _=>true
 | _=>false
def bd2 (K:q0a):R2:=λx y H Q => ∃ d d',d.isV=false/\IsD K H x d/\IsD K H y d'/\okD d d'=true/\dpD d<=60/\Q (.bl (eqD d d')) H
theorem aa6 (hu:X.A.units+64<cLine):OpR X (compareOp .Eq) (bd2 X.K):=by
 intro pins s σ H x y v u Q I rx ry h;obtain ⟨d,d',nf,h1,h2,ok,dp,q⟩:=h;have fin:EP X pins σ Q (.bool (eqD d d')) s:=⟨.bl _,H,I,rfl,q⟩
 cases h1 with
 | v f =>
  cases h2 with
  | v f'=>exact absurd (show true=false from nf) (by decide)
  | tup _ _=>simp [okD] at ok
  | lst _ _=>simp [okD] at ok
 | @tup p xs ds h t =>
  cases h2 with
  | v f'=>simp [okD] at ok
  | @tup p' ys ds' h' t' =>
   cases (show v=Value.ref p from rx)
   cases (show u=Value.ref p' from ry)
   rw [okD] at ok;rw [dpD] at dp;rw [eqD] at fin;exact ay9 I h t h' t' ⋯ (λr1 r2 j h1 h2=>ad8 (A:=X.A.in1) I t t' ok r1 r2 (by show X.A.units+1+_<_;omega) j h1 h2) X.prog X.w X.xe _ fin
  | lst _ _=>simp [okD] at ok
 | @lst p xs ds h t =>
  cases h2 with
  | v f'=>simp [okD] at ok
  | tup _ _=>simp [okD] at ok
  | @lst p' ys ds' h' t' =>
   cases (show v=Value.ref p from rx)
   cases (show u=Value.ref p' from ry)
   rw [okD] at ok;rw [dpD] at dp;rw [eqD] at fin;exact az0 I h t h' t' ⋯ (λr1 r2 j h1 h2=>ad8 (A:=X.A.in1) I t t' ok r1 r2 (by show X.A.units+1+_<_;omega) j h1 h2) X.prog X.w X.xe _ fin
end
open PySem PySem.Spec PyProof.Rows
section
variable {X:Cx}
def aD7:V->List V->Hp->VK->Prop:=λx vs H Q => ∃ i,x=.int i/\vs=[]/\Q (.int (Builtin.Int.intBits i)) H
theorem az6:MtM X "int.bit_length" aD7:=by
 intro pins s σ H x vs v us Q I rx rv h;obtain ⟨i,rfl,rfl,q⟩:=h;obtain ⟨t,rfl⟩:=rx
 cases k9.zero rv
 exact call_int_bit_length ⟨.int _,H,I.tok _,⟨_,rfl⟩,q⟩
theorem aA7 {x:V}:∀ {xs:List V} {us:List Value},k9 xs us->xs.all aa2=true->us.countP (eqU x)=xs.countP λy=>eqV y x
 | _,_,.nil,_=>rfl
 | y :: xs,u :: us,.cons r t,f=>by
  rw [g0e,j0n] at f;rw [List.countP_cons,List.countP_cons,aN2 r f.1,aA7 t f.2]
def aM0:V->List V->Hp->VK->Prop:=λx vs H Q => ∃ l xs y,x=.ref l/\vs=[y]/\H l=some (.lst xs)/\aa2 y=true/\xs.all aa2=true/\Q (.int (xs.countP λz=>eqV z y)) H
theorem aZ0:MtM X "list.count" aM0:=by
 intro pins s σ H x vs v us Q I rx rv h;obtain ⟨l,xs,y,rfl,rfl,hH,fy,fx,q⟩:=h
 cases rx
 obtain ⟨u,rfl,ru⟩:=rv.one;obtain ⟨z,its,n,r,hl,e⟩:=I.lstM hH;refine call_meets F.slot_list_count ⟨_,e,rfl⟩ F.entry_list_count (F.args_list_count_2 _ _) (SeqAt.list_countAt l its.toArray n none #[] u (eqU y)) ⟨e,λw hw=>au3 ru fy r fx w (by simpa using hw),?_⟩
 refine ⟨.int _,H,I.tok _,⟨_,rfl⟩,?_⟩;rw [show its.toArray.toList=its from rfl,aA7 r fx];exact q
theorem aQ1 {y:V} {xs:List V} {us:List Value} (r:k9 xs us) (f:xs.all aa2=true) (j:Nat) (hj:j<us.length) (hx:j<xs.length):eqU y us[j]=eqV xs[j] y:=by
 obtain ⟨u,e1,e2⟩:=r.get (q0j hx);have e3:us[j]=u:=by rw [q0j hj] at e1;exact Option.some.inj e1
 rw [e3];exact aN2 e2 (g0p.mp f _ (List.getElem_mem hx))
def aL9:V->List V->Hp->VK->Prop:=λx vs H Q => ∃ l xs y j,x=.ref l/\vs=[y]/\H l=some (.lst xs)/\aa2 y=true/\xs.all aa2=true/\(xs.findIdx? λz=>eqV z y)=some j/\Q (.int (j:Nat)) H
theorem aY9:MtM X "list.index" aL9:=by
  intro pins s σ H x vs v us Q I rx rv h;obtain ⟨l,xs,y,j,rfl,rfl,hH,fy,fx,hi,q⟩:=h
  cases rx
  obtain ⟨u,rfl,ru⟩:=rv.one;obtain ⟨z,its,n,r,hl,e⟩:=I.lstM hH;obtain ⟨hj,h1,h2⟩:=List.findIdx?_eq_some_iff_getElem.mp hi;have hz:xs.length<2 ^ 63:=Nat.lt_of_le_of_lt z ao3
  refine call_meets F.slot_list_index ⟨_, e, rfl⟩ F.entry_list_index (F.args_list_index_2 _ _) (SeqAt.list_indexAt l its.toArray n none #[] u (eqU y) j (by simpa [← hl] using hj) (by have : (xs.length : Int) < 2 ^ 63 := by exact_mod_cast hz
                                                                                                                                                                                       omega) ?_ ?_) ⟨e,λw hw=>au3 ru fy r fx w (by simpa using hw),?_⟩
  · rw [show its.toArray[j]'(by simpa [<- hl] using hj)=its[j]'(by rw [<- hl];exact hj) from rfl,aQ1 r fx j _ hj];exact h1
  · intro m hm hlt
    have hm':m<its.length:=by simpa using hm
    rw [show its.toArray[m]'hm=its[m]'hm' from rfl,aQ1 r fx m _ (by rw [hl];exact hm')]
    have:=h2 m hlt
    simpa using this
  · exact ⟨.int _,H,I.tok _,⟨_,rfl⟩,q⟩
theorem ax7:∀ (t:Nat) (ps:List Str),k9 (ps.map V.str) (strsFrom t ps)
 | _,[]=>.nil
 | t,p :: ps=>.cons ⟨_,rfl⟩ (ax7 (t+1) ps)
def ag6 (x y:Str):List Str:=Builtin.Str.partsBetween x (Builtin.Str.occurrences x y 0 x.length (x.length+1)) y.length
def aL7:V->List V->Hp->VK->Prop:=λv vs H Q => ∃ x y,v=.str x/\vs=[.str y]/\(decide (x.length<y.length) || decide (Builtin.Str.strKind x<Builtin.Str.strKind y))=false/\(y.length == 0)=false /\
 (Builtin.Str.occurrences x y 0 x.length (x.length+1)).isEmpty=false/\x.length<=sizeLine/\(ag6 x y).length<=sizeLine/\∀ l,H l=none->Q (.ref l) (upd H l (.lst ((ag6 x y).map V.str)))
theorem aY7:MtM X "str.split" aL7:=by
 intro pins s σ H x vs v us Q I rx rv h;obtain ⟨x',y,rfl,rfl,h1,h2,h3,h4,h5,q⟩:=h;obtain ⟨t,rfl⟩:=rx;obtain ⟨u,rfl,t',rfl⟩:=rv.one;refine call_meets F.slot_str_split rfl F.entry_str_split (F.args_str_split_2 _ _) (meets_str_split_sep x' y t t' h1 h2 h3 h4 h5) ?_;exact ⟨.ref _,_,I.lnew (ys:=(ag6 x' y).map V.str) (ax7 _ _) (by rw [q0g];exact h5),rfl,q _ I.fresh⟩
end
open PySem PySem.Spec PyProof.Rows
structure Df (K:q0a) (mg:Str->Option Value) (x:Str) (st:Stmt) (ps:List Str) (f:Addr):Prop where
 ex:∃ fd,Fun K x x st f fd/\ag2 K fd ps []
 m:mg x=some (.ref f)
structure Def (P:Program) (w:World) (K:q0a) (mg:Str->Option Value) (base:Heap) (CX:CXT) (k:Nat) (x:Str) (f:Addr) (ps:List Str) (sp:Sp):Prop where
 ex:∃ fd,am6 P w K mg base CX k f fd ps sp/\ag2 K fd ps []
 m:mg x=some (.ref f)
 kp:y0b K (.ref f)=true
structure bh1 (P:Program) (w:World) (K:q0a) (mg:Str->Option Value) (base:Heap) (k:Nat) (x:Str) (f:Addr) (ps:List Str) (sp:Sp):Prop where
 ex:∃ fd,aR0 P w K mg base k f fd ps sp/\ag2 K fd ps []
 m:mg x=some (.ref f)
 kp:y0b K (.ref f)=true
section
variable {P:Program} {w:World} {K:q0a} {mg:Str->Option Value} {base:Heap} {k:Nat} {x:Str} {f:Addr} {ps N:List Str} {sp:Sp} {st:Stmt} {CX:CXT}
theorem Df.ok (d:Df K mg x st ps f) (S:i9 N ps (c6 st)) (len:∀ vs H Q E,sp vs H Q E->vs.length=ps.length)
  (hbody:∀ (cdv:Value) (A:Around) (outer:List Env) (s:Shared) (H:Hp) (vs:List V) (Q:VK) (E:XK),Y7 k (A.deeper (envOfC x (c6 st) s.heap.objs.size f cdv))->sp vs H Q E ->
   ∃ t,PSs (aq8 CX0 P w K mg base N x (c6 st) f cdv A outer s H E).nox (Q7 st) t/\t { nx:=λ_ H'=>Q .non H',rt:=Q } (start N vs) H):Def P w K mg base CX0 (k+1) x f ps sp:=by
 obtain ⟨fd,F,b⟩:=d.ex;exact ⟨⟨fd,F.ok S len hbody,b⟩,d.m,F.kp⟩
theorem Df.okR (d:Df K mg x st ps f) (S:i9 N ps (c6 st)) (len:∀ vs H Q E,sp vs H Q E->vs.length=ps.length)
  (hbody:∀ (cdv:Value) (A:Around) (outer:List Env) (s:Shared) (H:Hp) (vs:List V) (Q:VK) (E:XK),Y7 k (A.deeper (envOfC x (c6 st) s.heap.objs.size f cdv))->sp vs H Q E ->
   ∃ t,PSs (cxR P w K mg base N x (c6 st) f cdv A outer s H E) (Q7 st) t/\t { nx:=λ_ H'=>Q .non H',rt:=Q } (start N vs) H):Def P w K mg base (CXR P w) (k+1) x f ps sp:=by
 obtain ⟨fd,F,b⟩:=d.ex;have kp:=F.kp;obtain ⟨oc,od,kV,doc,pm,an,cdv,ct,osl,rfl,lk,hcd⟩:=F.ex;exact ⟨⟨_,bh7 lk hcd S len λA outer s H vs Q E hr hsp=>hbody cdv A outer s H vs Q E hr hsp,b⟩,d.m,kp⟩
theorem Df.okX (d:Df K mg x st ps f) (S:i9 N ps (c6 st)) (len:∀ vs H Q E,sp vs H Q E->vs.length=ps.length)
  (hbody:∀ (cdv:Value) (A:Around) (outer:List Env) (s:Shared) (H:Hp) (vs:List V) (Q:VK) (E:XK),R6 k (A.deeper (envOfC x (c6 st) s.heap.objs.size f cdv))->sp vs H Q E ->
   ∃ t,PSs (cxX P w K mg base N x (c6 st) f cdv A outer s H E) (Q7 st) t/\t { nx:=λ_ H'=>Q .non H',rt:=Q } (start N vs) H):bh1 P w K mg base (k+1) x f ps sp:=by
 obtain ⟨fd,F,b⟩:=d.ex;exact ⟨⟨fd,F.okX S len hbody,b⟩,d.m,F.kp⟩
end
section
variable {X:Cx} {CX:CXT} {k j:Nat} {f:Addr} {ps:List Str} {sp:Sp} {E:XK} {x:Str} {p pos:Pos} {e:Expr} {es:List Expr} {t:TA}
def ar8 (sp:Sp) (E:XK) (t:TA):TE:=λσ H Q=>t σ H λvs H1=>sp vs H1 Q E
theorem c8 (d : Def X.prog X.w X.K X.mg X.base CX j x f ps sp) (hr : Y7 k X.A) (ha : PA X (e :: es) t) (hx : av9 CX X E) (hj : j ≤ k := by decide) (hg : Gl X x := by rfl)
    (hdb:(x == ("__debug__" : Str))=false:=by decide) (he:starEach (e :: es) X.env=(false,eval e X.env) :: starEach es X.env:=by rfl) (hpl:(backTo pos (starEach es X.env)).any (·.1)=false:=by rfl) :
    PE X (.Call (.Name x p) (e :: es) [] pos) (ar8 sp E t):=by
  obtain ⟨fd,F,b⟩:=d.ex;have z:=be0 (E:=E) (es:=es) (e:=e) (p:=p) (pos:=pos) (F.mono hj) hr hg d.m d.kp b .nil hx ha hdb he hpl;intro pins s σ H Q I h;refine z pins s σ H Q I ?_;unfold bh2
  simpa only [List.append_nil,ar8] using h
theorem bd9 (d : bh1 X.prog X.w X.K X.mg X.base j x f ps sp) (hr : R6 k X.A) (ha : PA X (e :: es) t) (hj : j ≤ k := by decide) (hg : Gl X x := by rfl)
    (hdb:(x == ("__debug__" : Str))=false:=by decide) (he:starEach (e :: es) X.env=(false,eval e X.env) :: starEach es X.env:=by rfl) (hpl:(backTo pos (starEach es X.env)).any (·.1)=false:=by rfl) :
    PE X (.Call (.Name x p) (e :: es) [] pos) (aB9 sp t):=by
  obtain ⟨fd,F,b⟩:=d.ex;exact aX1 F (hr.mono hj) hg d.m d.kp b ha hdb he hpl
end
theorem c5.new {H:Hp} {p:Addr} (h:H p=none) (o:HO):c5 H (upd H p o):=λb u q=>by rw [d4 (d5 q h)];exact q
theorem c5.tup {K:q0a} {H H':Hp} {a:Addr} {xs:List V} (e:c5 H H') (h:SqT K H a xs):SqT K H' a xs:=by
 rcases h with h | h
 ·rcases h with h | ⟨o,h⟩
  ·exact .inl (.inl (e _ _ h))
  ·exact .inl (.inr ⟨o,e _ _ h⟩)
 ·exact .inr h
open PySem PySem.Spec PyProof.Rows
section
variable {prog:Program} {w:World} {A:Around} {R:Result->Shared->Prop} {s:Shared}
theorem ah1 {elt target iter:Expr} {scope:Scope} {pos:Pos} {it acc:Value} {env:Env} (I:Nat->Shared->Prop)
  (turn:∀ n s,I n s->wpAny (model prog w) A (pyNext it) (λr s₁=>match r with
   | none=>R (.ok .next) s₁
   | some v=>wpAny (model prog w) A (letOwnedTupleGo target it v) (λ_ s₁'=>wpAny (model prog w) A (assign target env v) (λ_ s₂=>wpAny (model prog w) A (eval elt env) (λx s₃ =>
     wpAny (model prog w) A (call (.builtin "list.append") [acc,x]) (λ_ s₄ => ∃ m,m<n/\I m s₄) (λ_ _=>False) s₃)
     (λ_ _=>False) s₂) (λ_ _=>False) s₁') (λ_ _=>False) s₁) (λ_ _=>False) s)
  (n:Nat) (h:I n s) :
  codeAny (model prog w) A (.compLoop (.ListComp elt [⟨target,iter,[],0⟩] scope pos) 0 it acc env) R s:=by
 refine codeAny_loop rfl I (λn s hI=>?_) n h
 show wpAny _ _ ((compTurn (.ListComp elt [⟨target,iter,[],0⟩] scope pos) 0 it acc env).onRaise (λx=>do noteFrame x env;theTreesLotGoes x)) _ _ s
 refine wpAny_noted ?_;rw [compTurn_list1];have no:∀ {P:Value->Shared->Prop} (e:Value) (s:Shared),False->P e s:=λ_ _ h=>h.elim;refine wpAny_bind (wpAny_standAt (wpAny_bind (wpAny_mono (turn n s hI) (λr s₁ h₁=>?_) no)))
 cases r with
 | none=>exact wpAny_pure h₁
 | some v =>
  refine wpAny_bind (wpAny_mono h₁ (λ_ s₁' h₁'=>?_) no)
  exact wpAny_bind (wpAny_mono h₁' (λ_ s₂ h₂=>wpAny_bind (wpAny_bind (wpAny_mono h₂ (λx s₃ h₃=>wpAny_bind (wpAny_mono h₃
   (λ_ s₄ h₄=>wpAny_pure (wpAny_pure ⟨rfl,h₄⟩)) no)) no))) no)
end
abbrev Cx.block (X:Cx) (scope:Scope) (cl:List (Str × Addr)) (C:Addr) (Nc:List Str) (s₂:Shared) (H₂:Hp) (fp:List Addr) (pins:List (Addr × Obj)):Cx :=
 { X with N:=Nc,s₀:=s₂,H₀:=H₂,env:=compEnvC scope cl C X.env,outer:=X.stack,ex:=fp,fn:=λ_=>false,pn:=X.pn ++ pins,xe:=λ_ _=>False }
def C6 (caps:List (Option Nat)) (σ:St):St:=caps.map λo=>o.bind λj=>(σ[j]?).join
def aG8 (wi:TI) (caps:List (Option Nat)) (g:TG) (te:TE):TE:=λσ H Q=>wi σ H λJ H1 => ∀ D,H1 D=none->∃ W:Nat->Nat->St->Hp->Prop,(∃ m,W 0 m (C6 caps σ) (upd H1 D (.lst []))) /\
 ∀ i m σc H2,W i m σc H2->(J.stop i H2/\Q (.ref D) H2) \/
  (J.go i H2/\∀ x H3,J.yld i H2 x H3->g x σc H3 λσ4 H4=>te σ4 H4 λy H5 => ∃ ys,H5 D=some (.lst ys)/\ys.length<sizeLine/\∃ m',m'<m/\W (i+1) m' σ4 (upd H5 D (.lst (ys ++ [y]))))
section
variable {X:Cx}
structure G3 (X:Cx) (scope:Scope) (cl:List (Str × Addr)) (Nc:List Str) (caps:List (Option Nat)):Prop where
 clos:closureFor scope X.env=pure cl
 sub:∀ x c,cl.lookup x=some c->X.env.cells.lookup x=some c
 has:∀ x,(relabel scope X.env).names.lookup x=some .cell \/ (relabel scope X.env).names.lookup x=some .free->∃ c,cl.lookup x=some c
 nocell:∀ x ∈ scope.names,x.2 ≠ .cell
 kind:scope.kind=.function
 names:∀ x ∈ scope.names,x.2=.local->scope.names.lookup x.1=some .local
 len:caps.length=Nc.length
 cap:∀ (i j:Nat) (x:Str),caps[i]? = some (some j)->Nc[i]? = some x->X.N[j]? = some x/\Vis X.env.scope x/\X.env.kindOf x ≠ some .local/\((relabel scope X.env).names.lookup x=some .cell \/ (relabel scope X.env).names.lookup x=some .free)
theorem Inv.sameC {pins:List (Addr × Obj)} {σ:St} {H H':Hp} {s s':Shared} {h'':Heap} {fp:List Addr} {C:Addr} (I:Inv X pins σ H s) (hf:∀ b ∈ fp,ab0 X pins H b) (os:s'.os=s.os) (bare:AllBare s'.gens)
  (un:Un (frs X.stack) fp H H' s.heap s'.heap) (hok:HOk X.prog X.w H' s'.heap) (hC:s.heap.objs.size<=C) (hCn:H' C=none) (sb:y0q C s'.heap h''):Inv X pins σ H' { s' with heap:=h'' }:=by
 have ne:∀ b o,s.heap.get? b=some o->b ≠ C:=λb o e=>q0m (q0b (q0c e) hC);refine I.call' (s':={ s' with heap:=h'' }) (ch:=fp) os ⟨λb o e n h1 h2=>(sb.2 b (ne b o e)).trans (un.keep b o e n h1 h2),λb o e n h1 h2=>?_,un.free,λb o e h2=>?_,un.tups,un.frzs,un.tbls⟩ (λb u e=>?_) bare (λb hb=>?_)
 ·obtain ⟨sl,z⟩:=un.slot b o e n h1 h2
  exact ⟨sl,(sb.2 b (ne b o e)).trans z⟩
 ·obtain ⟨o',z⟩:=un.there b o e h2
  exact ⟨o',(sb.2 b (ne b o e)).trans z⟩
 ·refine (hok b u e).stay (λc v hc q=>(sb.2 c ?_).trans q) (λ_ q=>q) λ_ _ q=>q
  rintro rfl;rcases hc with rfl | hc
  ·rw [hCn] at e;cases e
  ·rw [hCn] at hc;cases hc
 ·obtain ⟨_,f1,_,f3,f4,f5⟩:=hf b hb
  exact ⟨f3,f1,f4,f5⟩
theorem t5 {elt tg iter:Expr} {scope:Scope} {pos:Pos} {cl:List (Str × Addr)} {Nc:List Str} {caps:List (Option Nat)} {wi:TI} {g:TG} {te:TE} (hc:X.calm=true) (cp:G3 X scope cl Nc caps) (hi:PI X tg iter wi)
  (hg:∀ C s₂ H₂ fp pins,PG (X.block scope cl C Nc s₂ H₂ fp pins) tg g) (he:∀ C s₂ H₂ fp pins,PE (X.block scope cl C Nc s₂ H₂ fp pins) elt te) (hs:∀ x,foldedSetIterable iter X.env x=pure x:=by intro _;rfl) :
  PE X (.ListComp elt [⟨tg,iter,[],0⟩] scope pos) (aG8 wi caps g te):=by
 intro pins s σ H Q I h;rw [eval_ListComp];refine wpAny_comprehension_free (use:=none) rfl hs cp.clos cp.kind cp.names ?_;refine thn (hi pins s σ H _ I h) λv s1 h1=>thn h1 λitv s2 h2=>?_;obtain ⟨it,fp,tn,J,H2,e,I2,T,st2,f2,hW⟩:=h2;subst e;refine wpAny_newObj_type ?_ (by show 0<=sizeLine;exact z0n _)
 refine wpAny_newFunctionEnv cp.nocell (by intro y hy;simp at hy) (λh4 hns hsb=>?_) cp.kind
 dsimp only at hns hsb ⊢
 generalize hH3:s2.heap.push { cls:=.type "list",dict:=none,data:=.seq ([]:List Value).toArray }=H3 at hns hsb ⊢
 have hCe:H3.objs.size=s2.heap.objs.size+1:=by rw [<- hH3,z0m]
 have M1:∀ b o,s2.heap.get? b=some o->b ≠ H3.objs.size:=λb o e=>by rw [hCe];exact q0m (y0v (q0c e))
 have old:∀ b o,s2.heap.get? b=some o->h4.get? b=some o:=λb o e=>hsb.extBut b o (M1 b o e) (q0e _ (hH3 ▸ q0e _ e))
 have hD:h4.get? s2.heap.objs.size=some { cls:=.type "list",dict:=none,data:=.seq ([]:List Value).toArray } :=
  hsb.extBut _ _ (by rw [hCe];exact q0m (j0f _)) (q0e _ (hH3 ▸ z0a _ rfl))
 have hDn:H2 s2.heap.objs.size=none:=I2.fresh;have hCn:H2 H3.objs.size=none:=I2.hok.fresh (by rw [hCe];exact j0k _)
 have hCs:s2.heap.objs.size<=H3.objs.size:=by rw [hCe];exact j0k _
 have hDC:s2.heap.objs.size ≠ H3.objs.size:=by rw [hCe];exact q0m (j0f _)
 have fpl:∀ b ∈ fp,∃ o,s2.heap.get? b=some o:=λb hb=>let ⟨o,e,_⟩:=T.obj _ _ st2 b hb;⟨o,e⟩;have fpC:∀ b ∈ fp,b ≠ H3.objs.size:=λb hb=>let ⟨o,e⟩:=fpl b hb;M1 b o e;have fpD:∀ b ∈ fp,b ≠ s2.heap.objs.size:=λb hb=>let ⟨o,e⟩:=fpl b hb;q0m (q0c e);have stkN:∀ b,b ≠ X.env.locals->b ∉ X.fs->b ∉ frs X.stack:=λb h1 h2 z=>(z0d.mp (I2.stkSub b z)).elim h1 h2;obtain ⟨W,⟨m0,w0⟩,turn⟩:=hW s2.heap.objs.size hDn
 have okB:(X.block scope cl H3.objs.size Nc s2 H2 fp pins).Ok:=by
  refine ⟨I2.ok.mod,?_,I2.ok.glob,I2.ok.blt,hCs,λx y c h1 h2=>I2.ok.inj x y c (cp.sub x c h1) (cp.sub y c h2),λx hx=>cp.has x hx,λx c h=>(by cases h),I2.ok.hd,I2.ok.frames,.inl rfl,λb hb=>⟨fpC b hb,λx c h=>(f2 b hb).2.2.2.2.1 x c (cp.sub x c h)⟩,I2.bs,q0q I2.ok.bsz I2.sz,λb o e hb=>?_,λb hb=>stkN b (f2 b hb).2.1 (f2 b hb).2.2.1,I2.stack,I2.stkFree⟩
  ·exact cp.kind
  ·rcases (f2 b hb).2.2.2.1 with z | z
   ·exact I2.ok.noex b o e z
   ·exact absurd (q0b (q0c e) (q0q I2.ok.bsz z)) (j0p _)
 have hokB:HOk X.prog X.w (upd H2 s2.heap.objs.size (.lst [])) h4:=I2.hok.laid old (q0h _) ⟨z0n _,[],_,.nil,hD⟩
 have IB:Inv (X.block scope cl H3.objs.size Nc s2 H2 fp pins) [] (C6 caps σ) (upd H2 s2.heap.objs.size (.lst [])) { s2 with heap:=h4,toks:=s2.toks+([]:List (Str × Value)).length }:=by
  refine ⟨okB,rfl,I2.bare,Un.laid old (q0h _) hDn,⟨_,hns,λi x v e1 e2 e3=>?_⟩,λx c e=>?_,(show upd H2 s2.heap.objs.size (.lst []) H3.objs.size=none by rw [d4 (Ne.symm hDC)];exact hCn),λx c e=>?_,λp hp=>?_,hokB,?_⟩
  ·unfold C6 at e2
   rw [z0c] at e2
   cases hcap:caps[i]? with
   | none=>rw [hcap] at e2;cases e2
   | some o =>
    rw [hcap] at e2
    cases o with
    | none=>cases e2
    | some j =>
     have hj:σ[j]? = some (some v):=by
      have e2':(σ[j]?).join=some v:=Option.some.inj e2
      cases q:σ[j]? with
      | none=>rw [q] at e2';cases e2'
      | some z=>rw [q] at e2';exact congrArg some e2'
     obtain ⟨n1,n2,n3,n4⟩:=cp.cap i j x hcap e1;obtain ⟨m,hm,hl⟩:=I2.loc;obtain ⟨u,r,q⟩:=hl j x v n1 hj n2;rcases q with ⟨k,_⟩ | ⟨k,c,ec,z⟩
     ·exact absurd k n3
     ·obtain ⟨c',ec'⟩:=cp.has x n4
      have:=cp.sub x c' ec';rw [ec] at this;cases this;obtain ⟨oc,ho,hd⟩:=z;exact ⟨u,r,.inr ⟨n4,c,ec',oc,old _ _ ho,hd⟩⟩
  ·obtain ⟨v,oc,ho,hd⟩:=I2.cell x c (cp.sub x c e)
   exact ⟨v,oc,old _ _ ho,hd⟩
  ·obtain ⟨v,oc,ho,hd⟩:=I2.cell x c (cp.sub x c e)
   rw [d4 (q0m (q0c ho))];exact I2.freeC x c (cp.sub x c e)
  ·have hp':p ∈ X.pn ++ pins:=by simpa using hp
   obtain ⟨e1,e2,e3,e4,e5⟩:=I2.pin p hp';exact ⟨old _ _ e1,by rw [d4 (q0m (q0c e1))];exact e2,M1 _ _ e1,stkN _ e3 e4,e5⟩
  ·show (C6 caps σ).length=Nc.length
   unfold C6;rw [q0g];exact cp.len
 have stat:∀ {H':Hp},(∀ b ∈ fp,H' b=none)->∀ b ∈ fp,ab0 (X.block scope cl H3.objs.size Nc s2 H2 fp pins) [] H' b:=λhn b hb =>
  ⟨hn b hb,fpC b hb,stkN b (f2 b hb).2.1 (f2 b hb).2.2.1,.inl hb,λx c h=>(f2 b hb).2.2.2.2.1 x c (cp.sub x c h),λp hp=>(f2 b hb).2.2.2.2.2 p (by simpa using hp)⟩
 have loop:∀ s5:Shared,s5={ s2 with heap:=h4,toks:=s2.toks+([]:List (Str × Value)).length } ->
   codeAny (model X.prog X.w) X.A (.compLoop (.ListComp elt [⟨tg,iter,[],0⟩] scope pos) 0 (.ref it) (.ref s2.heap.objs.size) (compEnvC scope cl H3.objs.size X.env))
    (compPost (model X.prog X.w) X.A X.xe none (EP X pins σ Q) (.ref s2.heap.objs.size) H3.objs.size) s5:=by
  rintro s5 rfl;refine ah1 (λn s' => ∃ i σ' H',Inv (X.block scope cl H3.objs.size Nc s2 H2 fp pins) [] σ' H' s'/\tn i s'.heap/\(∀ b ∈ fp,H' b=none)/\W i n σ' H') ?_ m0 ⟨0,_,_,IB,T.keep _ _ _ st2 λb hb o e=>old b o e,λb hb=>by rw [d4 (fpD b hb)];exact (f2 b hb).1,w0⟩
  rintro n s6 ⟨i,σ6,H6,I6,st6,fr6,w6⟩;rcases turn i n σ6 H6 w6 with ⟨stop,qn⟩ | ⟨go,step⟩
  ·refine thn (T.done (X.block scope cl H3.objs.size Nc s2 H2 fp pins) rfl rfl rfl hc i [] s6 σ6 H6 _ I6 (stat fr6) st6 stop) λr s7 zq=>?_
   obtain ⟨hr,I7⟩:=zq;subst hr;obtain ⟨m7,hn7,_⟩:=id I7.loc;exact ⟨m7,hn7,λh' sb=>⟨.ref s2.heap.objs.size,H6,I2.sameC f2 I7.os I7.bare I7.base I7.hok hCs I7.free sb,rfl,qn⟩⟩
  ·refine thn (T.item (X.block scope cl H3.objs.size Nc s2 H2 fp pins) rfl rfl rfl hc i [] s6 σ6 H6 _ I6 (stat fr6) st6 go) λr s7 zq=>?_
   obtain ⟨u,hr,h7⟩:=zq;subst hr;refine thn h7 λ_ s8 zq=>?_;obtain ⟨x,H8,I8,r8,y8,st8,fr8⟩:=zq;have I8':=I8.pinned (stat fr8) (T.obj _ _ st8);refine thn (hg _ _ _ _ _ _ s8 σ6 H8 x u _ I8' r8 (step x H8 y8)) λ_ s9 zq=>?_;obtain ⟨σ9,H9,I9,q9⟩:=zq;refine thn (he _ _ _ _ _ _ s9 σ9 H9 _ I9 q9) λu10 s10 zq=>?_;obtain ⟨v10,H10,I10,r10,ys,hys,hlen,m',hm',w'⟩:=zq;refine thn (N4 _ s10 σ9 H10 (.ref s2.heap.objs.size) [v10] (.ref s2.heap.objs.size) [u10] (λ_ H11=>H11=upd H10 s2.heap.objs.size (.lst (ys ++ [v10]))) I10 rfl (.cons r10 .nil) ⟨_,ys,v10,rfl,rfl,hys,hlen,rfl⟩) λ_ s11 zq=>?_;obtain ⟨_,H11,I11,_,hH11⟩:=zq;subst hH11;refine ⟨m',hm',i+1,σ9,_,I11.unpinned,T.keep _ _ _ st8 λb hb o e=>(I11.pin (b,o) (q0d _ (q0d _ (k6 hb e)))).1,λb hb=>?_,w'⟩;obtain ⟨o,e,d⟩:=T.obj _ _ st8 b hb;exact (I11.pin (b,o) (q0d _ (q0d _ (k6 hb e)))).2.1
 exact codeAny_compStart_list (loop _ rfl) (T.self _ 0 _ _ _ (T.keep _ _ _ st2 λb hb o e=>old b o e) (loop _ rfl))
end
open PySem PySem.Spec PyProof.Rows
def V2 (scope osc:Scope):List (Str × NameKind):=scope.names.map λ(n,k)=>if (k == .free && osc.kind == .function && osc.names.lookup n == some .cell) then (n,.cell) else (n,k)
def aT4 (o:Option NameKind):Bool:=o == some .cell || o == some .free
def bb6 (scope osc:Scope) (N ks Nc:List Str) (caps:List (Option Nat)):Bool :=
 ((V2 scope osc).all λy => !(y.2 == .cell || y.2 == .free) || ks.contains y.1) && (scope.names.all λy=>y.2 != .cell) && scope.kind == .function &&
 (scope.names.all λy=>y.2 != .local || scope.names.lookup y.1 == some .local) && caps.length == Nc.length &&
 ((caps.zip Nc).all λp=>match p.1 with
  | none=>true
  | some j=>N[j]? == some p.2 && aT4 (osc.names.lookup p.2) && aT4 ((V2 scope osc).lookup p.2))
theorem aj5 {α β:Type} [BEq α] [LawfulBEq α]:∀ {l:List (α × β)} {x:α} {v:β},l.lookup x=some v->(x,v) ∈ l
 | [],_,_,h=>by simp at h
 | (a,b) :: r,x,v,h=>by
  rw [y0y] at h
  split at h
  ·rename_i e
   have:=eq_of_beq e;subst this
   cases h
   exact q0x
  ·exact q0r _ (aj5 h)
theorem U6 {β:Type}:∀ {l:List (Str × β)} {x:Str},x ∈ l.map (·.1)->∃ c,l.lookup x=some c
 | [],_,h=>by simp at h
 | (a,b) :: r,x,h=>by
  rw [y0y]
  by_cases e:x=a
  ·subst e;exact ⟨b,by simp⟩
  ·have:(x == a)=false:=by simpa using e
   rw [this];rcases z0d.mp h with z | z
   ·exact absurd z e
   ·exact U6 z
theorem ar4 {o:Option NameKind} (h:aT4 o=true):o=some .cell \/ o=some .free:=by
 unfold aT4 at h;simp only [m0b,beq_iff_eq] at h;exact h
theorem G3.of {X:Cx} {scope osc:Scope} {cl:List (Str × Addr)} {N ks Nc:List Str} {caps:List (Option Nat)} (clos:closureFor scope X.env=pure cl) (hN:X.N=N) (hosc:X.env.scope=osc) (hks:cl.map (·.1)=ks)
  (sub:∀ x c,cl.lookup x=some c->X.env.cells.lookup x=some c) (ok:bb6 scope osc N ks Nc caps=true):G3 X scope cl Nc caps:=by
 unfold bb6 at ok;simp only [j0n,g0p,beq_iff_eq,m0b,v0g,bne_iff_ne,ne_eq] at ok;obtain ⟨⟨⟨⟨⟨o1,o2⟩,o3⟩,o4⟩,o5⟩,o6⟩:=ok;have er:(relabel scope X.env).names=V2 scope osc:=by subst hosc;rfl
 have kof:∀ x,X.env.kindOf x=osc.names.lookup x:=λx=>by subst hosc;rfl
 refine ⟨clos,sub,λx h=>?_,λx hx=>o2 x hx,o3,λx hx hl=>?_,o5,λi j x h1 h2=>?_⟩
 ·rw [er] at h
  refine U6 ?_;rw [hks]
  have key:∀ k,(V2 scope osc).lookup x=some k->(k=.cell \/ k=.free)->x ∈ ks:=λk hk hcf=>by
   rcases o1 (x,k) (aj5 hk) with z | z
   ·rcases hcf with rfl | rfl <;> simp at z
   ·simpa using z
  rcases h with h | h
  ·exact key _ h (.inl rfl)
  ·exact key _ h (.inr rfl)
 ·rcases o4 x hx with z | z
  ·exact absurd hl z
  ·exact z
 ·have hm:(some j,x) ∈ caps.zip Nc:=by
   have:(caps.zip Nc)[i]? = some (some j,x):=by
    rw [g0n];exact ⟨h1,h2⟩
   exact q0v this
  have z:=o6 _ hm;simp only [j0n,beq_iff_eq] at z;obtain ⟨⟨z1,z2⟩,z3⟩:=z;have c2:=ar4 z2;have c3:=ar4 z3;refine ⟨by rw [hN];exact z1,?_,?_,?_⟩
  ·rw [hosc]
   rcases c2 with c | c
   ·exact .inr (.inl c)
   ·exact .inr (.inr c)
  ·rw [kof]
   rcases c2 with c | c <;> rw [c] <;> decide
  ·rw [er];exact c3
open PySem PySem.Spec PyProof.Rows
section
variable {X:Cx} {pins:List (Addr × Obj)} {σ:St} {H:Hp} {s:Shared}
theorem Inv.turnLaid {h':Heap} {t':Nat} {fp:List Addr} {a:Addr} {o:HO} (I:Inv X pins σ H s) (hf:∀ b ∈ fp,ab0 X pins H b)
  (k:∀ b u,b ∉ fp->s.heap.get? b=some u->h'.get? b=some u) (hp:s.heap.objs.size<=a) (new:G5 X.prog X.w (upd H a o) h' a o):Inv X pins σ (upd H a o) { s with heap:=h',toks:=t' }:=by
 have hn:H a=none:=I.hok.fresh hp;have nf:∀ b u,H b=some u->b ∉ fp:=λb u e z=>by rw [(hf b z).1] at e;cases e
 have ne:∀ b u,s.heap.get? b=some u->b ≠ a:=λb u e=>q0m (q0b (q0c e) hp)
 refine I.step (g':=s.gens) (d':=s.drawn) (ch:=fp) (λb hb=>?_) (λb o _ _ hc e _=>k b o hc e) (λb o _ _ hc e _=>⟨o.slots,k b o hc e⟩) (λb o _ e n=>by rw [d4 (ne b o e)];exact n)
  (λb o hc e=>⟨o,k b o hc e⟩) (λb xs e=>by rw [d4 (d5 e hn)];exact e) (λb o u e=>by rw [d4 (d5 e hn)];exact e) (λb ps e=>⟨#[],by rw [d4 (d5 e hn),e];simp⟩) (λm hm=>?_) (λb u e=>?_) I.bare
 ·obtain ⟨_,f1,_,f3,f4,f5⟩:=hf b hb
  exact ⟨f3,f1,f4,f5⟩
 ·obtain ⟨o,es,ep,ho,r⟩:=hm
  exact ⟨o,es,ep,k _ o (λz=>(hf _ z).2.1 rfl) ho,r⟩
 ·by_cases hb:b=a
  ·subst hb;rw [b8] at e;cases e;exact new
  ·rw [d4 hb] at e
   refine (I.hok b u e).stay (λc v hc q=>k c v ?_ q) (λc q=>by rw [d4 (d5 q hn)];exact q) λc xs q=>by rw [d4 (d5 q hn)];exact q
   rcases hc with z | z
   ·rw [z];exact nf b u e
   ·exact nf c _ z
end
def Ite (K:q0a) (a:Addr):It :=
 ⟨λi H => ∃ xs x,SqL K H a xs/\xs[i]? = some x,λi H y H' => ∀ xs,SqL K H a xs->∃ x p,xs[i]? = some x/\H p=none/\y=.ref p/\H'=upd H p (.tup [.int i,x]),λi H => ∃ xs,SqL K H a xs/\xs.length<=i⟩
theorem aR7 {P:Program} {w:World} {K:q0a} {elts:List Expr} {k:Nat} {tpos:Pos} (a e it:Addr) (hei:e ≠ it) :
  aO2 P w K (.Tuple elts k tpos) (Ite K a) [e,it] e (λi h=>(∃ old,IsEnum h e it ((i:Nat):Int) old)/\h.IsListIter it a i) where
 mem:=by simp
 obj:=λi h st b hb=>by
  obtain ⟨⟨old,he⟩,hit⟩:=st;rcases (by simpa using hb:b=e \/ b=it) with z | z
  ·subst z
   exact ⟨_,he,λv z=>by cases z⟩
  ·subst z
   obtain ⟨o,e,c,d⟩:=hit;exact ⟨o,e,λv z=>by rw [d] at z;cases z⟩
 keep:=λi h h' st k=>⟨let ⟨old,he⟩:=st.1;⟨old,k e (by simp) _ he⟩,st.2.at λo e=>k it (by simp) o e⟩
 item:=by
  intro X hP hw hK hc i pins s σ H E I hf st hg;subst hP hw hK;obtain ⟨xs,x,hq,hx⟩:=hg;obtain ⟨its,rv,p,hz⟩:=I.list hq;obtain ⟨u,hu,ru⟩:=rv.get hx;obtain ⟨⟨old,he⟩,hit⟩:=st;have helt:e<s.heap.objs.size:=q0c he;have hilt:it<s.heap.objs.size:=by obtain ⟨_,x,_⟩:=id hit;exact q0c x
  refine wpAny_pyNext_enum_item he hit p.isList (x:=u) (by simpa using hu) hei λh' ho hit' hT hsz kk=>?_
  refine ⟨_,rfl,?_⟩;refine wpAny_letOwnedTupleGo_enum (s:={ s with heap:=h',toks:=s.toks+1 }) ho λh'' he' sb=>?_;have hT':h''.get? s.heap.objs.size=some { cls:=.type "tuple",data:=.seq #[.int i s.toks,u] }:=(sb.2 _ (y0e helt)).trans hT
  refine ⟨.ref s.heap.objs.size,upd H s.heap.objs.size (.tup [.int i,x]),I.turnLaid (fp:=[e,it]) (t':=s.toks+1) hf (λb v hb q=>?_) (q0h _) ?_,rfl,?_,?_,λb hb=>?_⟩
  ·have h1:b ≠ e:=λz=>hb (by simp [z])
   have h2:b ≠ it:=λz=>hb (by simp [z])
   exact (sb.2 b h1).trans (kk b v h1 h2 q)
  ·exact ⟨(show 2<=sizeLine by decide +kernel),[.int i s.toks,u],.cons ⟨_,rfl⟩ (.cons ru .nil),_,hT',rfl,_,rfl⟩
  ·intro ys hy
   rw [I.list_inj hy hq];exact ⟨x,_,hx,I.fresh,rfl,rfl⟩
  ·refine ⟨⟨u,by have:=he';simpa using this⟩,hit'.at λo q=>(sb.2 it hei.symm).trans q⟩
  ·have hlt:b<s.heap.objs.size:=by
    rcases (by simpa using hb:b=e \/ b=it) with z | z
    ·rw [z];exact helt
    ·rw [z];exact hilt
   rw [d4 (q0m hlt)];exact (hf b hb).1
 done:=by
  intro X hP hw hK hc i pins s σ H E I hf st hg;subst hP hw hK;obtain ⟨xs,hq,hx⟩:=hg;obtain ⟨its,rv,p,hz⟩:=I.list hq;obtain ⟨⟨old,he⟩,hit⟩:=st;obtain ⟨f0,f1,f2,f3,f4,f5⟩:=hf it (by simp)
  have hl:=rv.length;exact wpAny_pyNext_enum_end (I.ok.hd hc) he hit p.isList (by simp;omega) λh' eb=>⟨rfl,I.turned (t':=s.toks) (λb o hb e=>eb b o hb e) f0 f1 f3 f4 f5⟩
 self:=λ_ _ _ _ _ st h=>by
  obtain ⟨⟨old,he⟩,_⟩:=st;exact wpAny_pyIter_enum he h
section
variable {X:Cx}
def aJ1 (K:q0a) (ta:TA):TI:=λσ H R=>ta σ H λvs H1 => ∃ a,vs=[.ref a]/\(∃ xs,SqL K H1 a xs)/\R (Ite K a) H1
theorem ad4 {elts:List Expr} {k:Nat} {tpos:Pos} {l:Expr} {ta:TA} {p pos:Pos} (hg:Gl X "enumerate") (hm:X.mg "enumerate" = none) (ha:PA X [l] ta) (hs:starEach [l] X.env=[(false,eval l X.env)]:=by rfl) :
  PI X (.Tuple elts k tpos) (.Call (.Name "enumerate" p) [l] [] pos) (aJ1 X.K ta):=by
 intro pins s σ H R I h;refine Call_ (ad7 I hg hm (u:=.type "enumerate") (by decide +kernel) (PyProof.Rows.callWith_type1 (thn (ha pos pins s σ H _ I h) λus s1 ⟨vs,H1,I1,r1,q1⟩=>?_) hs rfl))
 obtain ⟨a,e,⟨xs,hq⟩,q⟩:=q1;subst e;obtain ⟨u,rfl,rx⟩:=ah9 r1
 cases rx
 obtain ⟨its,rv,p,hz⟩:=I1.list hq;refine call_enumerate_list p.isList λh' he hit hsz kk=>?_;refine wpAny_pyIter_enum he ?_;have I2:Inv X pins σ H1 { s1 with heap:=h' }:=I1.kept (t':=s1.toks) kk;refine ⟨s1.heap.objs.size+1,[s1.heap.objs.size+1,s1.heap.objs.size],_,_,H1,rfl,I2,aR7 a _ _ (Nat.succ_ne_self _),⟨⟨_,he⟩,hit⟩,λb hb=>?_,q⟩
 have hb':s1.heap.objs.size<=b:=by
  rcases (by simpa using hb:b=s1.heap.objs.size+1 \/ b=s1.heap.objs.size) with z | z
  ·rw [z];exact j0k _
  ·rw [z];exact q0h _
 obtain ⟨f0,f1,f2,f3,f4,f5⟩:=I1.fpOk (H':=H1) hb' (I1.hok.fresh hb');exact ⟨f0,f1,f2,f3,f4,f5⟩
end
section
variable {prog:Program} {w:World} {A:Around} {R:Result->Shared->Prop} {s:Shared}
theorem aK4 {elt target iter c:Expr} {scope:Scope} {pos:Pos} {it acc:Value} {env:Env} (I:Nat->Shared->Prop)
  (turn:∀ n s,I n s->wpAny (model prog w) A (pyNext it) (λr s₁=>match r with
   | none=>R (.ok .next) s₁
   | some v=>wpAny (model prog w) A (letOwnedTupleGo target it v) (λ_ s₁'=>wpAny (model prog w) A (assign target env v) (λ_ s₂ =>
     wpAny (model prog w) A (isTrue c env (eval c env)) (λok s₂'=>if ok=true then wpAny (model prog w) A (eval elt env) (λx s₃ =>
     wpAny (model prog w) A (call (.builtin "list.append") [acc,x]) (λ_ s₄ => ∃ m,m<n/\I m s₄) (λ_ _=>False) s₃)
     (λ_ _=>False) s₂' else ∃ m,m<n/\I m s₂') (λ_ _=>False) s₂) (λ_ _=>False) s₁') (λ_ _=>False) s₁) (λ_ _=>False) s)
  (n:Nat) (h:I n s) :
  codeAny (model prog w) A (.compLoop (.ListComp elt [⟨target,iter,[c],0⟩] scope pos) 0 it acc env) R s:=by
 refine codeAny_loop rfl I (λn s hI=>?_) n h
 show wpAny _ _ ((compTurn (.ListComp elt [⟨target,iter,[c],0⟩] scope pos) 0 it acc env).onRaise (λx=>do noteFrame x env;theTreesLotGoes x)) _ _ s
 refine wpAny_noted ?_;rw [compTurn_list];have no:∀ {P:Value->Shared->Prop} (e:Value) (s:Shared),False->P e s:=λ_ _ h=>h.elim;refine wpAny_bind (wpAny_standAt (wpAny_bind (wpAny_mono (turn n s hI) (λr s₁ h₁=>?_) no)))
 cases r with
 | none=>exact wpAny_pure h₁
 | some v =>
  refine wpAny_bind (wpAny_mono h₁ (λ_ s₁' h₁'=>?_) no);refine wpAny_bind (wpAny_mono h₁' (λ_ s₂ h₂=>?_) no);refine wpAny_bind (wpAny_tests_one (wpAny_mono h₂ (λok s₂' h₂'=>?_) no))
  cases ok with
  | true =>
   rw [if_pos rfl] at h₂' ⊢;exact wpAny_bind (wpAny_bind (wpAny_mono h₂' (λx s₃ h₃=>wpAny_bind (wpAny_mono h₃ (λ_ s₄ h₄=>wpAny_pure (wpAny_pure ⟨rfl,h₄⟩)) no)) no))
  | false =>
   rw [if_neg (by decide)] at h₂' ⊢
   exact wpAny_pure ⟨rfl,h₂'⟩
end
def aO5 (wi:TI) (caps:List (Option Nat)) (g:TG) (tt:TT) (te:TE):TE:=λσ H Q=>wi σ H λJ H1 => ∀ D,H1 D=none->∃ W:Nat->Nat->St->Hp->Prop,(∃ m,W 0 m (C6 caps σ) (upd H1 D (.lst []))) /\
 ∀ i m σc H2,W i m σc H2->(J.stop i H2/\Q (.ref D) H2) \/
  (J.go i H2/\∀ x H3,J.yld i H2 x H3->g x σc H3 λσ4 H4=>tt σ4 H4 λb H4'=>if b=true then te σ4 H4' λy H5 => ∃ ys,H5 D=some (.lst ys)/\ys.length<sizeLine/\∃ m',m'<m/\W (i+1) m' σ4 (upd H5 D (.lst (ys ++ [y])))
   else ∃ m',m'<m/\W (i+1) m' σ4 H4')
open PySem PySem.Spec PyProof.Rows
section
variable {X:Cx}
theorem ax5 (bs:List Bool):(z0w bs.length).all (λi=>(bs[i]?).getD true)=bs.all id:=by
 induction bs with
 | nil=>rfl
 | cons b bs ih =>
  rw [j0v,af8,g0e,<- ih];rfl
theorem av6 (hc:X.calm=true):Y6 X (.builtin "all") (λxs H Q => ∃ (p:Addr) (bs:List Bool),xs=[.ref p]/\SqL X.K H p (bs.map V.bl)/\Q (.bl (bs.all id)) H):=by
 intro pins s σ H xs us Q I r h;obtain ⟨p,bs,rfl,hq,q⟩:=h;obtain ⟨u,rfl,rx⟩:=ah9 r
 cases rx
 obtain ⟨its,r',pl,hz⟩:=I.list hq;have hlen:its.length=bs.length:=by rw [<- r'.length,q0g]
 have hp:p ≠ s.heap.objs.size:=by
  obtain ⟨o,ho,_⟩:=pl.isList;exact q0m (q0c ho)
 refine call_all_walk (wpAny_pyIter_list pl.isList ?_);refine ⟨s.heap.objs.size,_,_,_,_,_,λi=>(bs[i]?).getD true,rfl,Walks.list (A:=X.A.in1) (I.ok.hd hc) _ p hp its.toArray,⟨⟨_,z0a _ rfl,rfl,rfl⟩,pl.isList.at λo e=>q0e _ e⟩,?_,?_⟩
 ·intro i v s' Q' E' hv hQ
  have hv':its[i]? = some v:=by simpa using hv
  have hi:i<bs.length:=by rw [<- hlen];exact (q0f.mp hv').1
  obtain ⟨u,hu,ru⟩:=r'.get (i:=i) (x:=.bl bs[i]) (by rw [z0c,q0j hi];rfl)
  rw [hv'] at hu
  cases hu
  cases ru
  simp only [q0j hi] at hQ;exact wpAny_truthy_bool hQ
 ·intro h' tk kk
  have e:(z0w its.toArray.size).all (λi=>(bs[i]?).getD true)=bs.all id:=by rw [q0k,hlen,ax5]
  rw [e];refine ⟨.bl _,H,I.kept (t':=tk) λb o e=>kk b o ?_ (q0e _ e),rfl,q⟩;intro z;have:b=s.heap.objs.size:=by simpa using z
  exact absurd (q0c e) (by rw [this];exact j0p _)
def br4 (K:q0a):R2:=λx y H Q => ∃ d d',d.isV=false/\IsD K H x d/\IsD K H y d'/\okD d d'=true/\dpD d<=60/\Q (.bl (!eqD d d')) H
theorem af1 (hu:X.A.units+64<cLine):OpR X (compareOp .NotEq) (br4 X.K):=by
 intro pins s σ H x y v u Q I rx ry h;obtain ⟨d,d',nf,h1,h2,ok,dp,q⟩:=h;have fin:EP X pins σ Q (.bool (!eqD d d')) s:=⟨.bl _,H,I,rfl,q⟩
 cases h1 with
 | v f =>
  cases h2 with
  | v f'=>exact absurd (show true=false from nf) (by decide)
  | tup _ _=>simp [okD] at ok
  | lst _ _=>simp [okD] at ok
 | @tup p xs ds h t =>
  cases h2 with
  | v f'=>simp [okD] at ok
  | @tup p' ys ds' h' t' =>
   cases (show v=Value.ref p from rx)
   cases (show u=Value.ref p' from ry)
   rw [okD] at ok;rw [dpD] at dp;rw [eqD] at fin;obtain ⟨its,r1,i1,_⟩:=I.tuple h;obtain ⟨its',r2,i2,_⟩:=I.tuple h';have q':∀ (j:Nat) (h1:j<its.length) (h2:j<its'.length),SeqAt.EqAt X.A.in1 s its[j] its'[j] (af4 ds ds' j):=λj h1 h2=>ad8 (A:=X.A.in1) I t t' ok r1 r2 (by show X.A.units+1+_<_;omega) j h1 h2
   have z:=SeqAt.RcNeAt.tuples (A:=X.A) (items:=its.toArray) (items2:=its'.toArray) (e:=af4 ds ds') i1 i2 ⋯ (λj h1 h2=>q' j (by simpa using h1) (by simpa using h2))
   have e1:its.toArray.size=ds.length:=by rw [q0k,<- r1.length,t.length]
   have e2:its'.toArray.size=ds'.length:=by rw [q0k,<- r2.length,t'.length]
   rw [e1,e2,ah3] at z;exact PySem.EqBoolInt.of_rcne z fin
  | lst _ _=>simp [okD] at ok
 | @lst p xs ds h t =>
  cases h2 with
  | v f'=>simp [okD] at ok
  | tup _ _=>simp [okD] at ok
  | @lst p' ys ds' h' t' =>
   cases (show v=Value.ref p from rx)
   cases (show u=Value.ref p' from ry)
   rw [okD] at ok;rw [dpD] at dp;rw [eqD] at fin;obtain ⟨its,r1,i1,_⟩:=I.list h;obtain ⟨its',r2,i2,_⟩:=I.list h';have q':∀ (j:Nat) (h1:j<its.length) (h2:j<its'.length),SeqAt.EqAt X.A.in1 s its[j] its'[j] (af4 ds ds' j):=λj h1 h2=>ad8 (A:=X.A.in1) I t t' ok r1 r2 (by show X.A.units+1+_<_;omega) j h1 h2
   have e1:its.toArray.size=ds.length:=by rw [q0k,<- r1.length,t.length]
   have e2:its'.toArray.size=ds'.length:=by rw [q0k,<- r2.length,t'.length]
   by_cases hl:ds.length=ds'.length
   ·have z:=SeqAt.RcNeAt.lists (A:=X.A) (items:=its.toArray) (items2:=its'.toArray) (e:=af4 ds ds') i1.isList i2.isList (by rw [e1,e2,hl]) ⋯ (λj h1 h2=>q' j (by simpa using h1) (by simpa using h2))
    rw [e1,ai5 ds ds' hl] at z;exact PySem.EqBoolInt.of_rcne z fin
   ·rw [au8 ds ds' hl] at fin
    exact PySem.EqBoolInt.of_rcne (SeqAt.RcNeAt.lists_lengths (A:=X.A) i1.isList i2.isList (by rw [e1,e2];simpa using hl) ⋯) fin
def aH8 (xs:List V) (lo hi st:Option Int):List V :=
 (sliceRange (sliceBounds lo hi st xs.length).1 (sliceBounds lo hi st xs.length).2.1 (sliceBounds lo hi st xs.length).2.2).filterMap (xs[·]?)
theorem k9.picks {xs:List V} {us:List Value} (r:k9 xs us):∀ ks:List Nat,k9 (ks.filterMap (xs[·]?)) (ks.filterMap (us[·]?))
 | []=>.nil
 | k :: ks=>by
  rw [z0y,z0y]
  cases h:xs[k]? with
  | none=>rw [r.none_of h];exact r.picks ks
  | some x =>
   obtain ⟨u,hu,ru⟩:=r.get h;rw [hu];exact .cons ru (r.picks ks)
def bi6 (K:q0a) (te:TE) (tl th tk:TO):TE:=λσ H Q=>te σ H λx H1=>tl σ H1 λl H2=>th σ H2 λu H3=>tk σ H3 λk H4 =>
 ∃ a xs,x=.ref a/\SqL K H4 a xs/\k ≠ some 0/\∀ p,H4 p=none->Q (.ref p) (upd H4 p (.lst (aH8 xs l u k)))
theorem aS6 {e:Expr} {te:TE} {lo hi:Option Expr} {st:Expr} {tl th tk:TO} {pos p2:Pos} (he:PE X e te) (hl:PO X lo tl) (hu:PO X hi th) (hk:PO X (some st) tk):PE X (.Subscript e (.Slice lo hi (some st) p2) pos) (bi6 X.K te tl th tk):=by
 intro pins s σ H Q I h;refine Subscript_ (thn (he pins s σ H _ I h) λv s1 zq=>?_);obtain ⟨x,H1,I1,r1,q1⟩:=zq;refine wpAny_Slice (thn (hl pins s1 σ H1 _ I1 q1) λvl s2 ⟨l,H2,I2,pl,q2⟩=>thn (hu pins s2 σ H2 _ I2 q2) λvu s3 ⟨u,H3,I3,pu,q3⟩=>thn (hk pins s3 σ H3 _ I3 q3) λvk s4 zq=>?_);obtain ⟨k,H4,I4,pk,q4⟩:=zq;obtain ⟨a,xs,rfl,hq,h0,q⟩:=q4
 cases r1
 have I5:Inv X pins σ H4 { s4 with heap:=s4.heap.push { cls:=.type "slice",data:=.fields #[vl,vu,vk] } }:=I4.kept (t':=s4.toks) λb ob q=>q0e _ q
 obtain ⟨its,r,ht,hz⟩:=I5.list hq;have hlen:=r.length
 show wpAny (model X.prog X.w) X.A (subscriptTail e (.Slice lo hi (some st) p2) (.ref a) (.ref s4.heap.objs.size)) (EP X pins σ Q) X.xe { s4 with heap:=s4.heap.push { cls:=.type "slice",data:=.fields #[vl,vu,vk] } }
 refine tail_any (ops:=[.ref a,.ref s4.heap.objs.size]) (s:={ s4 with heap:=s4.heap.push { cls:=.type "slice",data:=.fields #[vl,vu,vk] } }) (T := "list") ht.isList.typeIs slot_list_getitem.lookup ?_ (by with_unfolding_all rfl)
 refine wpAny_getItem_list_slice ht.isList (Heap.IsSliceOf.new ..) pl pu pk h0 ?_ (by rw [q0k] <;> omega)
 have ep:(slicePick its.toArray l u k)=((sliceRange (sliceBounds l u k xs.length).1 (sliceBounds l u k xs.length).2.1 (sliceBounds l u k xs.length).2.2).filterMap (its[·]?)).toArray:=by
  unfold slicePick;rw [q0k,<- hlen]
  simp
 rw [ep];have hv:k9 (aH8 xs l u k) ((sliceRange (sliceBounds l u k xs.length).1 (sliceBounds l u k xs.length).2.1 (sliceBounds l u k xs.length).2.2).filterMap (its[·]?)):=k9.picks r _
 have hsz:=slicePick_size_le its.toArray l u k;rw [ep,q0k,q0k,<- hv.length] at hsz;refine ⟨.ref _,_,I5.laid (t':=s4.toks) (o:=.lst (aH8 xs l u k)) (λb ob q=>q0e _ q) (q0h _) ?_,rfl,q _ (I5.hok.fresh (q0h _))⟩;exact ⟨⋯,_,0,hv,z0a _ rfl⟩
end
def m8 (D:Addr) (n:Nat) (Pv:Nat->St->Hp->Prop) (i:Nat) (σ4:St) (y:V) (H5:Hp):Prop :=
 ∃ ys,H5 D=some (.lst ys)/\ys.length<sizeLine/\∃ m',m'<n-i/\(m'=n-(i+1)/\i+1<=n/\Pv (i+1) σ4 (upd H5 D (.lst (ys ++ [y]))))
theorem m8.mk {D:Addr} {n:Nat} {Pv:Nat->St->Hp->Prop} {i:Nat} {σ4:St} {y:V} {H5:Hp} {ys:List V} (hi:i<n) (h:H5 D=some (.lst ys)) (hl:ys.length<sizeLine) (p:Pv (i+1) σ4 (upd H5 D (.lst (ys ++ [y])))):m8 D n Pv i σ4 y H5 :=
 ⟨ys,h,hl,_,⋯,rfl,hi,p⟩
def aR1 (n:Nat) (Pv:Nat->St->Hp->Prop) (i:Nat) (σ4:St) (H5:Hp):Prop:=∃ m',m'<n-i/\(m'=n-(i+1)/\i+1<=n/\Pv (i+1) σ4 H5)
theorem aR1.mk {n:Nat} {Pv:Nat->St->Hp->Prop} {i:Nat} {σ4:St} {H5:Hp} (hi:i<n) (p:Pv (i+1) σ4 H5):aR1 n Pv i σ4 H5:=⟨_,⋯,rfl,hi,p⟩
section
variable {K:q0a} {a D:Addr} {xs:List V} {g:TG} {te:TE} {σ0:St} {H0:Hp} {Q:VK}
theorem aU0 (Pv:Nat->St->Hp->Prop) (h0:Pv 0 σ0 H0) (hl:∀ i σ H,i<=xs.length->Pv i σ H->SqL K H a xs)
  (hs:∀ i x σ H,xs[i]? = some x->Pv i σ H->g x σ H λσ4 H4=>te σ4 H4 λy H5=>m8 D xs.length Pv i σ4 y H5) (hd:∀ σ H,Pv xs.length σ H->Q (.ref D) H) :
  ∃ W:Nat->Nat->St->Hp->Prop,(∃ m,W 0 m σ0 H0)/\∀ i m σc H2,W i m σc H2->((Itl K a).stop i H2/\Q (.ref D) H2) \/
   ((Itl K a).go i H2/\∀ x H3,(Itl K a).yld i H2 x H3->g x σc H3 λσ4 H4=>te σ4 H4 λy H5 => ∃ ys,H5 D=some (.lst ys)/\ys.length<sizeLine/\∃ m',m'<m/\W (i+1) m' σ4 (upd H5 D (.lst (ys ++ [y])))):=by
 refine ⟨λi m σ H=>m=xs.length-i/\i<=xs.length/\Pv i σ H,⟨xs.length,by simp,z0n _,h0⟩,?_⟩
 rintro i m σ H ⟨rfl,hi,p⟩;have q:=hl i σ H hi p
 by_cases hlt:i<xs.length
 ·refine .inr ⟨⟨xs,xs[i],q,q0j hlt⟩,?_⟩
  rintro x H3 ⟨rfl,hx⟩;exact hs i x σ _ (hx xs q) p
 ·have e:i=xs.length:=⋯
  subst e;exact .inl ⟨⟨xs,q,q0h _⟩,hd σ H p⟩
theorem aN9 {lo:Int} {n:Nat} (Pv:Nat->St->Hp->Prop) (h0:Pv 0 σ0 H0)
  (hs:∀ i σ H,i<n->Pv i σ H->g (.int (lo+i)) σ H λσ4 H4=>te σ4 H4 λy H5=>m8 D n Pv i σ4 y H5) (hd:∀ σ H,Pv n σ H->Q (.ref D) H) :
  ∃ W:Nat->Nat->St->Hp->Prop,(∃ m,W 0 m σ0 H0)/\∀ i m σc H2,W i m σc H2->((Itr lo n).stop i H2/\Q (.ref D) H2) \/
   ((Itr lo n).go i H2/\∀ x H3,(Itr lo n).yld i H2 x H3->g x σc H3 λσ4 H4=>te σ4 H4 λy H5 => ∃ ys,H5 D=some (.lst ys)/\ys.length<sizeLine/\∃ m',m'<m/\W (i+1) m' σ4 (upd H5 D (.lst (ys ++ [y])))):=by
 refine ⟨λi m σ H=>m=n-i/\i<=n/\Pv i σ H,⟨n,by simp,z0n _,h0⟩,?_⟩
 rintro i m σ H ⟨rfl,hi,p⟩
 by_cases hlt:i<n
 ·refine .inr ⟨hlt,?_⟩
  rintro x H3 ⟨rfl,rfl⟩;exact hs i σ _ hlt p
 ·have e:i=n:=⋯
  subst e;exact .inl ⟨q0h _,hd σ H p⟩
end
end L2
namespace R
theorem au1 {n d:Int} (hd:0<d) (hc:q0w n d=1):(z0b n d).num=n/\((z0b n d).den:Int)=d:=by
 obtain ⟨k,rfl⟩:∃ k:Nat,d=k:=⟨d.toNat,⋯⟩;have hk:k ≠ 0:=⋯
 have hc':n.natAbs.Coprime k:=by
  rw [y0n] at hc
  simpa [q1a] using hc
 have e:(⟨n,k,hk,hc'⟩:Rat)=z0b n k:=Rat.mk_eq_divInt;rw [<- e];exact ⟨rfl,rfl⟩
theorem N5 {n d t b:Int} (hd:0<d) (hc:q0w n d=1) (hb:b ≠ 0) (h:n*b=t*d):n=(z0b t b).num/\d=((z0b t b).den:Int):=by
 have e:z0b n d=z0b t b:=(y0g ⋯ hb).mpr h;obtain ⟨h1,h2⟩:=au1 hd hc;rw [e] at h1 h2;exact ⟨h1.symm,h2.symm⟩
theorem k8 {g n:Int} (hg:g ≠ 0):(g*n).fdiv g=n:=by
 rw [u0r];exact Int.mul_fdiv_cancel n hg
theorem G9 {t b:Int} (hb:b ≠ 0):0<q0w t b:=Int.gcd_pos_of_ne_zero_right t hb
theorem O8 {t b n d:Int} (hb:b ≠ 0) (h1:t=(q0w t b:Int)*n) (h2:b=(q0w t b:Int)*d):q0w n d=1:=by
 have hg:=G9 (t:=t) hb
 have e:q0w ((q0w t b:Int)*n) ((q0w t b:Int)*d)=q0w t b*q0w n d:=by
  rw [Int.gcd_mul_left];simp
 rw [<- h1,<- h2] at e;exact Nat.eq_of_mul_eq_mul_left hg (by rw [<- e,Nat.mul_one])
theorem ao2 {t b g:Int} (hb:b ≠ 0) (hg:g=if b<0 then -(Int.gcd t b:Int) else (Int.gcd t b:Int)):t.fdiv g=(Rat.divInt t b).num/\b.fdiv g=((Rat.divInt t b).den:Int):=by
  have hp:(0:Int)<Int.gcd t b:=by have:=G9 (t:=t) hb;omega
  obtain ⟨n,hn⟩:=Int.gcd_dvd_left t b;obtain ⟨d,hd⟩:=Int.gcd_dvd_right t b;have hc:=O8 hb hn hd
  by_cases hs:b<0
  · rw [if_pos hs] at hg
    subst hg;have hg0:(-(Int.gcd t b:Int)) ≠ 0:=⋯;have e1:t=-(Int.gcd t b:Int)*(-n):=by rw [Int.neg_mul_neg];exact hn
    have e2:b=-(Int.gcd t b:Int)*(-d):=by rw [Int.neg_mul_neg];exact hd
    have f1 : t.fdiv (-(Int.gcd t b : Int)) = -n := by conv => lhs; arg 1; rw [e1]
                                                       exact k8 hg0
    have f2 : b.fdiv (-(Int.gcd t b : Int)) = -d := by conv => lhs; arg 1; rw [e2]
                                                       exact k8 hg0
    rw [f1,f2]
    have hd0:0 < -d:=by
      rcases Int.lt_or_le d 0 with z | z
      · omega
      · have:=Int.mul_nonneg (Int.le_of_lt hp) z;omega
    refine N5 hd0 (by rw [Int.gcd_neg,Int.neg_gcd];exact hc) hb ?_
    conv=>lhs;rw [hd]
    conv=>rhs;rw [hn]
    generalize (Int.gcd t b:Int)=g
    grind
  · rw [if_neg hs] at hg
    subst hg;have hg0:((Int.gcd t b:Int)) ≠ 0:=⋯
    have f1 : t.fdiv (Int.gcd t b : Int) = n := by conv => lhs; arg 1; rw [hn]
                                                   exact k8 hg0
    have f2 : b.fdiv (Int.gcd t b : Int) = d := by conv => lhs; arg 1; rw [hd]
                                                   exact k8 hg0
    rw [f1,f2]
    have hd0:0<d:=by
      rcases Int.lt_or_le 0 d with z | z
      · exact z
      · have:=Int.mul_nonneg (Int.le_of_lt hp) (show 0<=-d by omega);rw [Int.mul_neg] at this;omega
    refine N5 hd0 hc hb ?_
    conv=>lhs;rw [hd]
    conv=>rhs;rw [hn]
    generalize (Int.gcd t b:Int)=g
    grind
theorem aa0 {x y:Int} (h:∀ k:Int,k ∣ x->k ∣ y->k ∣ 1):q0w x y=1:=by
 have:=h (q0w x y:Int) (j0z x y) (j0x x y);have h2:=v0j.mpr this
 simpa using h2
theorem ad9 {x y k:Int} (h:q0w x y=1) (h1:k ∣ x) (h2:k ∣ y):k ∣ 1:=by
 have:=Int.dvd_coe_gcd h1 h2;rw [h] at this
 simpa using this
theorem O9 {k m n:Int} (h1:q0w k m=1) (h2:q0w k n=1):q0w k (m*n)=1:=by
 rw [y0n] at *;rw [z0j];exact q1a.mul_right h1 h2
theorem am4 {k m:Int} (h1:q0w k m=1):q0w m k=1:=by rw [g0q];exact h1
theorem aG1 {k m n:Int} (h1:q0w k m=1) (h:n ∣ m):q0w k n=1:=aa0 λj a b=>ad9 h1 a (v0q b h)
theorem Q8 {k m n:Int} (h1:q0w k m=1) (h:n ∣ k):q0w n m=1:=aa0 λj a b=>ad9 h1 (v0q a h) b
theorem av0 {k m n:Int} (h1:q0w k m=1) (h:k ∣ m*n):k ∣ n:=by
 rw [y0n] at h1;have:=v0j.mpr h;rw [z0j] at this;exact v0j.mp (q1a.dvd_of_dvd_mul_left h1 this)
theorem bd7 {a b c d g top h:Int} (hb:0<b) (hd:0<d) (h1:q0w a b=1) (h2:q0w c d=1) (hg:g=(q0w b d:Int)) (ht:top=a*d.fdiv g+c*b.fdiv g) (hh:h=(q0w top g:Int)) :
  0<b.fdiv g*d.fdiv h/\q0w (top.fdiv h) (b.fdiv g*d.fdiv h)=1/\top.fdiv h*(b*d)=(a*d+c*b)*(b.fdiv g*d.fdiv h):=by
 have hgp:0<g:=by rw [hg];have:=G9 (t:=b) (b:=d) ⋯;omega
 have hhp:0<h:=by rw [hh];have:=G9 (t:=top) (b:=g) ⋯;omega
 obtain ⟨b',hb'⟩:g ∣ b:=hg ▸ j0z b d;obtain ⟨d',hd'⟩:g ∣ d:=hg ▸ j0x b d;have hc:q0w b' d'=1:=O8 (t:=b) (b:=d) ⋯ (by rw [<- hg];exact hb') (by rw [<- hg];exact hd')
 have eb:b.fdiv g=b':=by rw [hb'];exact k8 ⋯
 have ed:d.fdiv g=d':=by rw [hd'];exact k8 ⋯
 rw [eb,ed] at ht;obtain ⟨n,hn⟩:h ∣ top:=hh ▸ j0z top g;obtain ⟨g',hg'⟩:h ∣ g:=hh ▸ j0x top g;have hng:q0w n g'=1:=O8 (t:=top) (b:=g) ⋯ (by rw [<- hh];exact hn) (by rw [<- hh];exact hg')
 have en:top.fdiv h=n:=by rw [hn];exact k8 ⋯
 have edh:d.fdiv h=g'*d':=by
  have:d=h*(g'*d'):=by rw [hd',hg',m0s]
  rw [this];exact k8 ⋯
 rw [eb,en,edh]
 have bp:0<b':=by
  rcases v0v 0 b' with z | z
  ·exact z
  ·have:=v0y (u0s hgp) (show 0<=-b' by omega);rw [u0c] at this;omega
 have dp:0<d':=by
  rcases v0v 0 d' with z | z
  ·exact z
  ·have:=v0y (u0s hgp) (show 0<=-d' by omega);rw [u0c] at this;omega
 have gp:0<g':=by
  rcases v0v 0 g' with z | z
  ·exact z
  ·have:=v0y (u0s hhp) (show 0<=-g' by omega);rw [u0c] at this;omega
 have t1:q0w top b'=1:=aa0 λk ka kb=>by
  have k1:k ∣ a*d':=by
   have:k ∣ top-c*b':=Int.dvd_sub ka (v0q kb (j0w _ _));rw [ht] at this
   simpa using this
  have k2:k ∣ a:=by
   rw [u0r] at k1;exact av0 (Q8 hc kb) k1
  exact ad9 h1 k2 (v0q kb (hb' ▸ j0w _ _))
 have t2:q0w top d'=1:=aa0 λk ka kb=>by
  have k1:k ∣ c*b':=by
   have:k ∣ top-a*d':=Int.dvd_sub ka (v0q kb (j0w _ _));rw [ht] at this;have e:a*d'+c*b'-a*d'=c*b':=⋯;rw [e] at this;exact this
  have k2:k ∣ c:=by
   rw [u0r] at k1;exact av0 (am4 (aG1 hc kb)) k1
  exact ad9 h2 k2 (v0q kb (hd' ▸ j0w _ _))
 have ndt:n ∣ top:=hn ▸ j0w _ _;refine ⟨u0d bp (u0d gp dp),O9 (Q8 t1 ndt) (O9 hng (Q8 t2 ndt)),?_⟩;have e1:a*d+c*b=g*(h*n):=by rw [<- hn,ht,hb',hd'];grind
 rw [e1,hb',hd',hg']
 grind
theorem aV2 {a b c d g1 g2:Int} (hb:0<b) (hd:0<d) (h1:q0w a b=1) (h2:q0w c d=1) (hg1:g1=(q0w a d:Int)) (hg2:g2=(q0w c b:Int)) :
  0<b.fdiv g2*d.fdiv g1/\q0w (a.fdiv g1*c.fdiv g2) (b.fdiv g2*d.fdiv g1)=1/\(a.fdiv g1*c.fdiv g2)*(b*d)=(a*c)*(b.fdiv g2*d.fdiv g1):=by
 have p1:0<g1:=by rw [hg1];have:=G9 (t:=a) (b:=d) ⋯;omega
 have p2:0<g2:=by rw [hg2];have:=G9 (t:=c) (b:=b) ⋯;omega
 obtain ⟨a',ha'⟩:g1 ∣ a:=hg1 ▸ j0z a d;obtain ⟨d',hd'⟩:g1 ∣ d:=hg1 ▸ j0x a d;obtain ⟨c',hc'⟩:g2 ∣ c:=hg2 ▸ j0z c b;obtain ⟨b',hb'⟩:g2 ∣ b:=hg2 ▸ j0x c b;have c1:q0w a' d'=1:=O8 (t:=a) (b:=d) ⋯ (by rw [<- hg1];exact ha') (by rw [<- hg1];exact hd')
 have c2:q0w c' b'=1:=O8 (t:=c) (b:=b) ⋯ (by rw [<- hg2];exact hc') (by rw [<- hg2];exact hb')
 have ea:a.fdiv g1=a':=by rw [ha'];exact k8 ⋯
 have ed:d.fdiv g1=d':=by rw [hd'];exact k8 ⋯
 have ec:c.fdiv g2=c':=by rw [hc'];exact k8 ⋯
 have eb:b.fdiv g2=b':=by rw [hb'];exact k8 ⋯
 rw [ea,ed,ec,eb]
 have bp:0<b':=by
  rcases v0v 0 b' with z | z
  ·exact z
  ·have:=v0y (u0s p2) (show 0<=-b' by omega);rw [u0c] at this;omega
 have dp:0<d':=by
  rcases v0v 0 d' with z | z
  ·exact z
  ·have:=v0y (u0s p1) (show 0<=-d' by omega);rw [u0c] at this;omega
 have x1:q0w a' b'=1:=aG1 (Q8 h1 (ha' ▸ j0w _ _)) (hb' ▸ j0w _ _);have x2:q0w c' d'=1:=aG1 (Q8 h2 (hc' ▸ j0w _ _)) (hd' ▸ j0w _ _);refine ⟨u0d bp dp,am4 (O9 (am4 (O9 x1 c1)) (am4 (O9 c2 x2))),?_⟩;rw [ha',hb',hc',hd']
 grind
theorem ag5 (q:Rat):q0w q.num q.den=1:=by
 rw [y0n]
 simpa using q.reduced
theorem p8 (q:Rat):(0:Int)<q.den:=by have:=q.den_nz;omega
theorem av8 (p q:Rat):p+q=z0b (p.num*q.den+q.num*p.den) (p.den*q.den):=by
 have h1:=p8 p;have h2:=p8 q
 conv=>lhs;rw [<- z0h p,<- z0h q]
 exact m0n _ _ ⋯ ⋯
theorem aL3 (p q:Rat):p-q=z0b (p.num*q.den-q.num*p.den) (p.den*q.den):=by
 have h1:=p8 p;have h2:=p8 q
 conv=>lhs;rw [<- z0h p,<- z0h q]
 exact Rat.divInt_sub_divInt _ _ ⋯ ⋯
theorem aj3 (p q:Rat):p*q=z0b (p.num*q.num) (p.den*q.den):=by
 conv=>lhs;rw [<- z0h p,<- z0h q]
 exact y0s _ _
theorem aN5 (p q:Rat):p / q=z0b (p.num*q.den) (p.den*q.num):=by
 rw [z0z,q1b]
 conv=>lhs;lhs;rw [<- z0h p]
 exact y0s _ _
theorem aJ2 (a b:Int):q0w b (a.fmod b)=q0w a b:=by
 have e:=Int.mul_fdiv_add_fmod a b;rw [g0q a b]
 conv=>rhs;rw [<- e]
 rw [show b*a.fdiv b+a.fmod b=a.fmod b+a.fdiv b*b by rw [u0r,Int.add_comm]]
 simp
theorem af2 (a:Int) {b:Int} (hb:b ≠ 0):(a.fmod b).natAbs<b.natAbs:=by
 rcases v0v b 0 with h | h
 ·have e:=Int.neg_fmod_neg a b
  have h1:=y0p (-a) (show 0 < -b by omega)
  have h2:=v0d (-a) (show 0 < -b by omega)
  omega
 ·have h1:=y0p a (show 0<b by omega)
  have h2:=v0d a (show 0<b by omega)
  omega
open PySem L2 PyProof.Rows
section
variable {P:Program} {w:World} {K:q0a} {mg:Str->Option Value} {base:Heap}
theorem S9 {a:Int} {m:Nat} (h:a.natAbs<2 ^ m):Builtin.Int.intBits a<=m:=by
 unfold Builtin.Int.intBits
 split
 ·exact z0n _
 ·rename_i hz
  have h0:a.natAbs ≠ 0:=by
   intro z;have:a=0:=⋯
   simp [this] at hz
  have:=(Nat.log2_lt h0).mpr h;omega
theorem Q4 {a b:Int} {m n:Nat} (ha:a.natAbs<2 ^ m) (hb:b.natAbs<2 ^ n) (h:m+n<=134217728:=by decide):IntMulOk a b:=IntMulOk.of_le (S9 ha) (S9 hb) h
theorem aa3 {j:Int} (h0:j ≠ 0) (h:j.natAbs<2 ^ 9000):ag1 i j:=⟨h0,(Nat.log2_lt ⋯).mpr h⟩
theorem d7 {m n:Nat} (h:m<=n):2 ^ m<=2 ^ n:=y0h (by decide) h
theorem V6 {a:Nat} {m n:Nat} (h:a<2 ^ m) (hm:m<=n:=by decide):a<2 ^ n:=q0b h (d7 hm)
def t4 (q:Rat):List V:=[.int q.num,.int (q.den:Int)]
structure Bd (q:Rat):Prop where
 n:q.num.natAbs<2 ^ 3000
 d:q.den<2 ^ 3000
def Num (K:q0a) (H:Hp) (v:V) (q:Rat):Prop:=∃ p,v=.ref p/\SqT K H p (t4 q)
def ak0 (H:Hp) (Q:VK) (q:Rat):Prop:=∀ r H',c5 H H'->H' r=some (.tup (t4 q))->Q (.ref r) H'
theorem Num.same {K:q0a} {H H':Hp} {v:V} {q:Rat} (n:Num K H v q) (e:c5 H H'):Num K H' v q:=let ⟨p,h1,h2⟩:=n;⟨p,h1,e.tup h2⟩
theorem t9:(2:Nat)<=sizeLine:=by decide
theorem bj2:(1:Nat)<=sizeLine:=by decide
theorem aj7 {a b:Int} {n:Nat} (hb:b ≠ 0) (h:b.natAbs<n):((q0w a b:Nat):Int).natAbs<n:=by
 have h1:q0w a b ∣ b.natAbs:=by
  have:=v0j.mpr (j0x a b)
  simpa using this
 have h2:=g0f ⋯ h1;simp only [q0y];omega
theorem X4 {a g:Int} (hg:0<g) (hd:g ∣ a):(a.fdiv g).natAbs<=a.natAbs:=by
 obtain ⟨n,rfl⟩:=hd;rw [k8 ⋯,z0j];exact v0f _ ⋯
theorem ab8 {q:Rat}:q.num=0 ↔ q=0:=by
 constructor
 ·intro h;exact Rat.num_eq_zero.mp h
 ·intro h;rw [h];rfl
theorem at0 (q:Rat):atI (t4 q) 0=some (.int q.num):=rfl
theorem at1 (q:Rat):atI (t4 q) 1=some (.int (q.den:Int)):=rfl
theorem aY6 {a b:Int} (h:a.natAbs<2 ^ 64):IntMulOk a b:=IntMulOk.of_left (S9 h)
theorem az5 {a b:Int} (h:b.natAbs<2 ^ 64):IntMulOk a b:=IntMulOk.of_right (S9 h)
def ap0:Sp:=λvs H Q _ => ∃ t b:Int,vs=[.int t,.int b]/\b ≠ 0/\b.natAbs<2 ^ 6000/\ak0 H Q (z0b t b)
def j7 (H:Hp) (u:Addr):Prop:=∃ g m p:Int,H u=some (.lst [.int g,.int m,.int p])/\0<=g/\0<=m/\m<2 ^ 40/\0<p/\p<2 ^ 40
def j9 (u:Addr) (H H':Hp):Prop:=∀ b o,H b=some o->b ≠ u->H' b=some o
theorem c5.x {H H':Hp} (s:c5 H H') (u:Addr):j9 u H H':=λb o h _=>s b o h
theorem j9.trans {u:Addr} {H H1 H2:Hp} (a:j9 u H H1) (b:j9 u H1 H2):j9 u H H2:=λc o h n=>b c o (a c o h n) n
theorem j9.upd (u:Addr) (H:Hp) (o:HO):j9 u H (upd H u o):=λb p h n=>by rw [d4 n];exact h
theorem c5.urn {H H':Hp} {u:Addr} (s:c5 H H') (h:j7 H u):j7 H' u:=let ⟨g,m,p,h1,r⟩:=h;⟨g,m,p,s _ _ h1,r⟩
def bh3 (K:q0a):Sp:=λvs H Q _ => ∃ (a:Addr) (ns:List Int) (k:Int),vs=[.ref a,.int k]/\SqL K H a (ns.map V.int)/\0<=k/\k<64/\∀ r H',c5 H H'->H r=none->j7 H' r->Q (.ref r) H'
def bk0:List V:=[.int 1899999979,.int 1899998977,.int 1899997949,.int 1899996929,.int 1899995927,.int 1899994903,.int 1899993877,.int 1899992839]
theorem aW8 {k:Int} (h0:0<=k):∃ p:Int,atI bk0 (k.fmod 8)=some (.int p)/\1899992839<=p/\p<=1899999979:=by
 have h1:=y0p k (show (0:Int)<8 by decide)
 have h2:=v0d k (show (0:Int)<8 by decide)
 have h3:k.fmod 8=0 \/ k.fmod 8=1 \/ k.fmod 8=2 \/ k.fmod 8=3 \/ k.fmod 8=4 \/ k.fmod 8=5 \/ k.fmod 8=6 \/ k.fmod 8=7:=⋯;rcases h3 with h | h | h | h | h | h | h | h <;> rw [h] <;> exact ⟨_,rfl,by decide,by decide⟩
theorem aU4 {ns:List Int} {k:Int} (h0:0<=k) (h:k<(ns.length:Int)):∃ v:Int,atI (ns.map V.int) k=some (.int v):=by
 have hk:k.toNat<ns.length:=⋯;have ek:k=((k.toNat:Nat):Int):=⋯;have q:atI (ns.map V.int) ((k.toNat:Nat):Int)=some (.int ns[k.toNat]):=p7 (by rw [z0c,q0j hk] <;> rfl)
 rw [<- ek] at q;exact ⟨_,q⟩
def C9:Sp:=λvs H Q _ => ∃ (u:Addr) (n:Int),vs=[.ref u,.int n]/\j7 H u/\0<n/\n<2 ^ 40/\∀ r H',0<=r->r<n->j9 u H H'->j7 H' u->Q (.int r) H'
structure Sm (q:Rat):Prop where
 n:q.num.natAbs<=10 ^ 12
 d:q.den<=10 ^ 12
theorem U0 {t b:Int} (hb:b ≠ 0):(z0b t b).num.natAbs<=t.natAbs/\(z0b t b).den<=b.natAbs:=by
 have hp:=G9 (t:=t) hb;obtain ⟨e1,e2⟩:=ao2 (t:=t) (b:=b) (g:=if b<0 then -(q0w t b:Int) else (q0w t b:Int)) hb rfl
 have key:∀ x:Int,(q0w t b:Int) ∣ x->(x.fdiv (if b<0 then -(q0w t b:Int) else (q0w t b:Int))).natAbs<=x.natAbs:=by
  rintro x ⟨n,hn⟩
  split
  ·have:x=-(q0w t b:Int)*(-n):=by rw [Int.neg_mul_neg];exact hn
   rw [this,k8 ⋯,z0j];exact v0f _ ⋯
  ·rw [hn,k8 ⋯,z0j]
   exact v0f _ ⋯
 have k1:=key t (j0z t b);have k2:=key b (j0x t b);rw [e1] at k1;rw [e2] at k2;exact ⟨k1,⋯⟩
theorem bo4 {t b:Int} (hb:b ≠ 0) (h1:t.natAbs<=10 ^ 12) (h2:b.natAbs<=10 ^ 12):Sm (z0b t b):=by
 obtain ⟨e1,e2⟩:=U0 (t:=t) hb;exact ⟨⋯,⋯⟩
def as1:Sp:=λvs H Q _ => ∃ u,vs=[.ref u]/\j7 H u/\∀ r H',r=0 \/ r=1 \/ r=2->j9 u H H'->j7 H' u->Q (.int r) H'
theorem w5 {H:Hp} {u l:Addr} (hu:j7 H u) (hl:H l=none):l ≠ u:=by
 obtain ⟨g,m,p,h,r⟩:=hu;exact (d5 h hl).symm
theorem K1 {H:Hp} {u l:Addr} {o:HO} (hu:j7 H u) (hl:H l=none):j7 (upd H l o) u:=by
 obtain ⟨g,m,p,h,r⟩:=hu;exact ⟨g,m,p,by rw [d4 (d5 h hl)];exact h,r⟩
def spNumber:Sp:=λvs H Q _ => ∃ u kd,vs=[.ref u,.int kd]/\j7 H u/\∀ r q H',Sm q->j9 u H H'->j7 H' u->H' r=some (.tup (t4 q))->Q (.ref r) H'
def ak3:Sp:=λvs H Q _ => ∃ i:Int,vs=[.int i]/\Q (.bl true) H
theorem aI9:z0e K (.type "int") (.type "int")=some true:=by unfold z0e;rw [if_pos (by decide)]
theorem aF3:z0e K (.type "int") (.type "bool")=some false:=by kernel_rfl
theorem aI8:z0e K (.type "tuple") (.type "tuple")=some true:=by unfold z0e;rw [if_pos (by decide)]
def R0 (q:Rat):D:=.tup [.v (.int q.num),.v (.int (q.den:Int))]
theorem aa1 {H:Hp} {a:Addr} {q:Rat} (h:SqT K H a (t4 q)):IsD K H (.ref a) (R0 q):=.tup h (.cons (.v rfl) (.cons (.v rfl) .nil))
theorem ar5 (q:Rat):eqD (R0 q) (R0 q)=true:=by simp [R0,eqD,K9,eqV]
theorem ar2 (p q:Rat):okD (R0 p) (R0 q)=true:=by simp [R0,okD,ab7]
theorem aN4 (q:Rat):dpD (R0 q)<=60:=by simp [R0,dpD,af5]
def aC2 (K:q0a):Sp:=λvs H Q _ => ∃ x q,vs=[x]/\(∃ p,x=.ref p/\SqT K H p (t4 q))/\(q.den:Int).natAbs<2 ^ 6000/\∀ H',c5 H H'->Q (.bl true) H'
end
open PySem L2 PyProof.Rows
inductive v9 (H:Hp):List V->List Rat->Prop where
 | nil:v9 H [] []
 | cons {p:Addr} {q:Rat} {vs:List V} {qs:List Rat} (h:H p=some (.tup (t4 q))) (t:v9 H vs qs):v9 H (.ref p :: vs) (q :: qs)
def V5 (H H':Hp):Prop:=∀ b xs,H b=some (.tup xs)->H' b=some (.tup xs)
theorem _root_.L2.c5.tups {H H':Hp} (s:c5 H H'):V5 H H':=λb xs h=>s b _ h
theorem j9.tups {u:Addr} {H H':Hp} (s:j9 u H H') (hu:j7 H u):V5 H H':=λb xs h=>by
 obtain ⟨g,m,p,e,_⟩:=hu;exact s b _ h (bh5 h e (by intro z;cases z))
theorem V5.lst {H:Hp} {a:Addr} {xs:List V} {o:HO} (h:H a=some (.lst xs)):V5 H (upd H a o):=λb ys e=>by
 rw [d4 (bh5 e h (by intro z;cases z))];exact e
theorem V5.new {H:Hp} {a:Addr} {o:HO} (h:H a=none):V5 H (upd H a o):=(c5.new h o).tups
theorem v9.mono {H H':Hp} (e:V5 H H'):∀ {vs:List V} {qs:List Rat},v9 H vs qs->v9 H' vs qs
 | _,_,.nil=>.nil
 | _,_,.cons h t=>.cons (e _ _ h) (t.mono e)
theorem v9.length {H:Hp}:∀ {vs:List V} {qs:List Rat},v9 H vs qs->vs.length=qs.length
 | _,_,.nil=>rfl
 | _,_,.cons _ t=>congrArg (· + 1) t.length
theorem v9.take {H:Hp}:∀ {vs:List V} {qs:List Rat} (m:Nat),v9 H vs qs->v9 H (vs.take m) (qs.take m)
 | _,_,0,_=>by simp;exact .nil
 | _,_,_+1,.nil=>.nil
 | _,_,m+1,.cons h t=>.cons h (t.take m)
theorem v9.drop {H:Hp}:∀ {vs:List V} {qs:List Rat} (m:Nat),v9 H vs qs->v9 H (vs.drop m) (qs.drop m)
 | _,_,0,h=>h
 | _,_,_+1,.nil=>.nil
 | _,_,m+1,.cons h t=>t.drop m
theorem v9.append {H:Hp}:∀ {vs ws:List V} {qs rs:List Rat},v9 H vs qs->v9 H ws rs->v9 H (vs ++ ws) (qs ++ rs)
 | _,_,_,_,.nil,b=>b
 | _,_,_,_,.cons h t,b=>.cons h (t.append b)
theorem v9.get {H:Hp}:∀ {vs:List V} {qs:List Rat} {i:Nat} {q:Rat},v9 H vs qs->qs[i]? = some q->∃ p,vs[i]? = some (.ref p)/\H p=some (.tup (t4 q))
 | _,_,_,_,.nil,e=>by simp at e
 | _,_,0,_,.cons h t,e=>by
  have:=Option.some.inj e;subst this;exact ⟨_,rfl,h⟩
 | _,_,i+1,_,.cons h t,e=>by
  obtain ⟨p,e1,e2⟩:=t.get (i:=i) (by simpa using e)
  exact ⟨p,by simpa using e1,e2⟩
theorem v9.getV {H:Hp}:∀ {vs:List V} {qs:List Rat} {i:Nat} {v:V},v9 H vs qs->vs[i]? = some v->∃ p q,v=.ref p/\qs[i]? = some q/\H p=some (.tup (t4 q))
 | _,_,_,_,.nil,e=>by simp at e
 | _,_,0,_,.cons h t,e=>by
  have:=Option.some.inj e;subst this;exact ⟨_,_,rfl,rfl,h⟩
 | _,_,i+1,_,.cons h t,e=>by
  obtain ⟨p,q,e0,e1,e2⟩:=t.getV (i:=i) (by simpa using e)
  exact ⟨p,q,e0,by simpa using e1,e2⟩
theorem v9.isDs {K:q0a} {H:Hp}:∀ {vs:List V} {qs:List Rat},v9 H vs qs->ac4 K H vs (qs.map R0)
 | _,_,.nil=>.nil
 | _,_,.cons h t=>.cons (aa1 (SqT.of h)) t.isDs
theorem bd0 {p q:Rat} (h1:p.num=q.num) (h2:p.den=q.den):p=q:=by
 cases p;cases q;simp at h1 h2;subst h1 h2;rfl
theorem ba8 (p q:Rat):eqD (R0 p) (R0 q)=decide (p=q):=by
 by_cases h:p=q
 ·subst h;rw [ar5];simp
 ·rw [decide_eq_false h]
  simp only [R0,eqD,K9,eqV,Bool.and_true]
  by_cases h1:p.num=q.num
  ·have h2:p.den ≠ q.den:=λz=>h (bd0 h1 z)
   have:((p.den:Int) == (q.den:Int))=false:=by
    rw [beq_eq_false_iff_ne];intro z;exact h2 ⋯
   rw [this,Bool.and_false]
  ·have:(p.num == q.num)=false:=by rw [beq_eq_false_iff_ne];exact h1
   rw [this,Bool.false_and]
theorem aA4:∀ ps qs:List Rat,K9 (ps.map R0) (qs.map R0)=decide (ps=qs)
 | [],[]=>by simp [K9]
 | [],_ :: _=>by simp [K9]
 | _ :: _,[]=>by simp [K9]
 | p :: ps,q :: qs=>by
  rw [j0d,j0d,K9,ba8,aA4 ps qs]
  by_cases h1:p=q <;> by_cases h2:ps=qs <;> simp [h1,h2]
theorem az4:∀ ps qs:List Rat,ab7 (ps.map R0) (qs.map R0)=true
 | [],[]=>by simp [ab7]
 | [],_ :: _=>by simp [ab7]
 | _ :: _,[]=>by simp [ab7]
 | p :: ps,q :: qs=>by rw [j0d,j0d,ab7,ar2,az4 ps qs];rfl
theorem aA5:∀ qs:List Rat,af5 (qs.map R0)<=1
 | []=>by simp [af5]
 | q :: qs=>by
  have h1:dpD (R0 q)<=1:=by simp [R0,dpD,af5]
  have h2:=aA5 qs;rw [j0d,af5];omega
def A9 (qs:List Rat):D:=.lst (qs.map R0)
theorem K8 {K:q0a} {H:Hp} {a:Addr} {vs:List V} {qs:List Rat} (h:SqL K H a vs) (n:v9 H vs qs):IsD K H (.ref a) (A9 qs):=.lst h n.isDs
theorem L9 (ps qs:List Rat):eqD (A9 ps) (A9 qs)=decide (ps=qs):=by unfold A9;rw [eqD,aA4]
theorem O7 (ps qs:List Rat):okD (A9 ps) (A9 qs)=true:=by unfold A9;rw [okD,az4]
theorem U7 (qs:List Rat):dpD (A9 qs)<=2:=by unfold A9;rw [dpD];have:=aA5 qs;omega
structure P3 (qs:List Rat) (m:Nat):Prop where
 le:m<=qs.length
 zero:∀ (i:Nat) (q:Rat),m<=i->qs[i]? = some q->q=0
 last:m ≠ 0->∀ q,qs[m-1]? = some q->q ≠ 0
theorem P3.uniq {qs:List Rat} {m n:Nat} (a:P3 qs m) (b:P3 qs n):m=n:=by
 have key:∀ {m n:Nat},P3 qs m->P3 qs n->¬ m<n:=by
  intro m n a b h;have hn:n-1<qs.length:=by have:=b.le;omega
  exact b.last ⋯ _ (q0j hn) (a.zero (n-1) _ ⋯ (q0j hn))
 have:=key a b;have:=key b a;omega
theorem ac1 (vs:List V) {m:Nat} (h:m<=vs.length):af7 vs none (some (m:Int))=vs.take m:=by
 unfold af7;have e1:HT.sIx vs.length 0 none=0:=by simp [HT.sIx]
 have e2:HT.sIx vs.length vs.length (some (m:Int))=m:=by
  simp only [HT.sIx]
  split <;> omega
 rw [e1,e2];simp
end R
set_option maxRecDepth 100000
namespace L2
open PySem PySem.Spec PyProof.Rows
def WhN (Pv:St->Hp->Prop) (μ:St->Hp->Nat) (m:Nat):St->Hp->Prop:=λσ' H' => ∃ m',m'<m/\(m'=μ σ' H'/\Pv σ' H')
theorem WhN.mk {Pv:St->Hp->Prop} {μ:St->Hp->Nat} {m:Nat} {σ':St} {H':Hp} (h:Pv σ' H') (l:μ σ' H'<m):WhN Pv μ m σ' H':=⟨_,l,rfl,h⟩
def WhB (tb:TS) (D:ak1) (Pv:St->Hp->Prop) (μ:St->Hp->Nat) (m:Nat) (σ:St) (H1:Hp):Prop :=
 ∃ N:St->Hp->Prop,(∀ σ' H',N σ' H'->∃ m',m'<m/\(m'=μ σ' H'/\Pv σ' H'))/\tb { D with nx:=N,ct:=N,bk:=D.nx } σ H1
theorem WhB.mk {tb:TS} {D:ak1} {Pv:St->Hp->Prop} {μ:St->Hp->Nat} {m:Nat} {σ:St} {H1:Hp} (h:tb { D with nx:=WhN Pv μ m,ct:=WhN Pv μ m,bk:=D.nx } σ H1):WhB tb D Pv μ m σ H1:=⟨_,λ_ _ n=>n,h⟩
theorem aG4 {c:TT} {tb:TS} {D:ak1} {σ:St} {H:Hp} (Pv:St->Hp->Prop) (μ:St->Hp->Nat) (h0:Pv σ H)
  (hs:∀ σ H,Pv σ H->c σ H λb H1=>if b=true then WhB tb D Pv μ (μ σ H) σ H1 else D.nx σ H1):aB8 c tb D σ H:=by
 refine ⟨λm σ H=>m=μ σ H/\Pv σ H,⟨_,rfl,h0⟩,?_⟩;rintro m σ H ⟨rfl,p⟩;exact hs σ H p
theorem c5.over {H H1:Hp} {l:Addr} (s:c5 H H1) (hl:H l=none) (o:HO):c5 H (upd H1 l o):=λb u h=>by
 rw [d4 (d5 h hl)];exact s b u h
def V7 (J:It) (D:Addr) (σ0:St) (H0:Hp) (g:TG) (te:TE) (Q:VK):Prop:=∃ W:Nat->Nat->St->Hp->Prop,(∃ m,W 0 m σ0 H0) /\
 ∀ i m σc H2,W i m σc H2->(J.stop i H2/\Q (.ref D) H2) \/
  (J.go i H2/\∀ x H3,J.yld i H2 x H3->g x σc H3 λσ4 H4=>te σ4 H4 λy H5 => ∃ ys,H5 D=some (.lst ys)/\ys.length<sizeLine/\∃ m',m'<m/\W (i+1) m' σ4 (upd H5 D (.lst (ys ++ [y]))))
theorem aG7 (wi:TI) (caps:List (Option Nat)) (g:TG) (te:TE):aG8 wi caps g te=λσ H Q=>wi σ H λJ H1 => ∀ D,H1 D=none->V7 J D (C6 caps σ) (upd H1 D (.lst [])) g te Q:=rfl
def bc2 (J:It) (D:Addr) (σ0:St) (H0:Hp) (g:TG) (tt:TT) (te:TE) (Q:VK):Prop:=∃ W:Nat->Nat->St->Hp->Prop,(∃ m,W 0 m σ0 H0) /\
 ∀ i m σc H2,W i m σc H2->(J.stop i H2/\Q (.ref D) H2) \/
  (J.go i H2/\∀ x H3,J.yld i H2 x H3->g x σc H3 λσ4 H4=>tt σ4 H4 λb H4'=>if b=true then te σ4 H4' λy H5 => ∃ ys,H5 D=some (.lst ys)/\ys.length<sizeLine/\∃ m',m'<m/\W (i+1) m' σ4 (upd H5 D (.lst (ys ++ [y])))
   else ∃ m',m'<m/\W (i+1) m' σ4 H4')
theorem ar9 (wi:TI) (caps:List (Option Nat)) (g:TG) (tt:TT) (te:TE):aO5 wi caps g tt te=λσ H Q=>wi σ H λJ H1 => ∀ D,H1 D=none->bc2 J D (C6 caps σ) (upd H1 D (.lst [])) g tt te Q:=rfl
section
variable {K:q0a} {a D:Addr} {xs:List V} {g:TG} {te:TE} {σ0:St} {H0:Hp} {Q:VK}
theorem C4 (xs:List V) (Pv:Nat->St->Hp->Prop) (h0:Pv 0 σ0 H0) (hl:∀ i σ H,i<=xs.length->Pv i σ H->SqL K H a xs)
  (hs:∀ i x σ H,xs[i]? = some x->Pv i σ H->g x σ H λσ4 H4=>te σ4 H4 λy H5=>m8 D xs.length Pv i σ4 y H5) (hd:∀ σ H,Pv xs.length σ H->Q (.ref D) H):V7 (Itl K a) D σ0 H0 g te Q:=aU0 Pv h0 hl hs hd
theorem M0 {lo:Int} {n:Nat} (Pv:Nat->St->Hp->Prop) (h0:Pv 0 σ0 H0)
  (hs:∀ i σ H,i<n->Pv i σ H->g (.int (lo+i)) σ H λσ4 H4=>te σ4 H4 λy H5=>m8 D n Pv i σ4 y H5) (hd:∀ σ H,Pv n σ H->Q (.ref D) H):V7 (Itr lo n) D σ0 H0 g te Q:=aN9 Pv h0 hs hd
end
theorem j8 {cells:List (Str × Addr)}:∀ (x:Str) (c:Addr),([]:List (Str × Addr)).lookup x=some c->cells.lookup x=some c:=λx c h=>by cases h
theorem i8 {cells cl:List (Str × Addr)} {k:Str} {a:Addr} (h:cells.lookup k=some a) (r:∀ (x:Str) (c:Addr),cl.lookup x=some c->cells.lookup x=some c):∀ (x:Str) (c:Addr),((k,a) :: cl).lookup x=some c->cells.lookup x=some c:=λx c e=>by
 rw [y0y] at e
 split at e
 ·rename_i q
  have:=eq_of_beq q;subst this
  cases e
  exact h
 ·exact r x c e
end L2
namespace R
open PySem L2 PyProof.Rows
theorem j9.over {u:Addr} {H H1:Hp} {l:Addr} (s:j9 u H H1) (hl:H l=none) (o:HO):j9 u H (L2.upd H1 l o):=λb x h n=>by
 rw [d4 (d5 h hl)];exact s b x h n
theorem j9.free {u:Addr} {H H':Hp} {l:Addr} (s:j9 u H H') (hu:j7 H' u) (h:H' l=none):H l=none:=by
 cases e:H l with
 | none=>rfl
 | some o =>
  by_cases q:l=u
  ·subst q
   obtain ⟨_,_,_,z,_⟩:=hu;rw [z] at h;cases h
  ·rw [s l o e q] at h;cases h
theorem j7.other {H:Hp} {u l:Addr} {o:HO} (h:j7 H u) (ne:l ≠ u):j7 (upd H l o) u:=by
 obtain ⟨g,m,p,e,r⟩:=h;exact ⟨g,m,p,by rw [d4 ne.symm];exact e,r⟩
theorem aY3 {H:Hp} {p l:Addr} {o:HO} (h:upd H p o l=none):H l=none:=by
 by_cases q:l=p
 ·subst q;rw [b8] at h;cases h
 ·rw [d4 q] at h;exact h
theorem aa8 {K:q0a}:z0e K (.type "list") (.type "list")=some true:=by unfold z0e;rw [if_pos (by decide)]
end R
set_option maxRecDepth 100000
namespace L2
open PySem PySem.Spec PyProof.Rows
def Itz (K:PySem.W.Frag) (a b:Addr):It :=
  ⟨λi H => ∃ xs ys x y,SqL K H a xs/\SqL K H b ys/\xs[i]? = some x/\ys[i]? = some y,
   λi H v H' => ∀ xs ys,SqL K H a xs->SqL K H b ys->∃ x y p,xs[i]? = some x/\ys[i]? = some y/\H p=none/\v=.ref p/\H'=upd H p (.tup [x,y]),
   λi H => ∃ xs ys,SqL K H a xs/\SqL K H b ys/\(xs.length<=i \/ ys.length<=i)⟩
theorem aU9 {P:Program} {w:World} {K:q0a} {elts:List Expr} {k:Nat} {tpos:Pos} (a b z TI TO i1 i2:Addr) (D:ZipApart z TI TO i1 i2 a b) :
  aO2 P w K (.Tuple elts k tpos) (Itz K a b) [z,TI,TO,i1,i2] z (λi h=>IsZip h z TI TO .none/\IsPair h TI (.ref i1) (.ref i2)/\(∃ a b,IsPair h TO a b)/\h.IsListIter i1 a i/\h.IsListIter i2 b i) where
 mem:=by simp
 obj:=λi h st c hc=>by
  obtain ⟨hz,hTI,⟨p,q,hTO⟩,h1,h2⟩:=st;rcases (by simpa using hc:c=z \/ c=TI \/ c=TO \/ c=i1 \/ c=i2) with e | e | e | e | e <;> subst e
  ·exact ⟨_,hz,λv z=>by cases z⟩
  ·exact ⟨_,hTI,λv z=>by cases z⟩
  ·exact ⟨_,hTO,λv z=>by cases z⟩
  ·obtain ⟨o,e,c,d⟩:=h1
   exact ⟨o,e,λv z=>by rw [d] at z;cases z⟩
  ·obtain ⟨o,e,c,d⟩:=h2
   exact ⟨o,e,λv z=>by rw [d] at z;cases z⟩
 keep:=λi h h' st k=>by
  obtain ⟨hz,hTI,⟨p,q,hTO⟩,h1,h2⟩:=st;exact ⟨k z (by simp) _ hz,k TI (by simp) _ hTI,⟨p,q,k TO (by simp) _ hTO⟩,h1.at λo e=>k i1 (by simp) o e,h2.at λo e=>k i2 (by simp) o e⟩
 item:=by
  intro X hP hw hK hc i pins s σ H E I hf st hg;subst hP hw hK;obtain ⟨xs,ys,x,y,hq,hq',hx,hy⟩:=hg;obtain ⟨its,rv,p,hlz⟩:=I.list hq;obtain ⟨its',rv',p',hlz'⟩:=I.list hq';obtain ⟨u,hu,ru⟩:=rv.get hx;obtain ⟨u',hu',ru'⟩:=rv'.get hy;obtain ⟨hz,hTI,⟨pa,pb,hTO⟩,h1,h2⟩:=st;have zlt:z<s.heap.objs.size:=q0c hz;refine wpAny_pyNext_zip_item D hz hTI hTO h1 h2 p.isList p'.isList (x:=u) (y:=u') (by simpa using hu) (by simpa using hu') λh' a1 a2 a3 a4 a5 a6 kk=>?_
  refine ⟨_,rfl,?_⟩;refine wpAny_letOwnedTupleGo_zip (s:={ s with heap:=h' }) a1 λh'' hz'' sb=>?_;have up:∀ c o,c ≠ z->h'.get? c=some o->h''.get? c=some o:=λc o n q=>(sb.2 c n).trans q;have hT':h''.get? s.heap.objs.size=some { cls:=.type "tuple",data:=.seq #[u,u'] }:=up _ _ (y0e zlt) a5
  refine ⟨.ref s.heap.objs.size,upd H s.heap.objs.size (.tup [x,y]),I.turnLaid (fp:=[z,TI,TO,i1,i2]) (t':=s.toks) hf (λc v hb q=>?_) (q0h _) ?_,rfl,?_,?_,λc hb=>?_⟩
  ·have n1:c ≠ z:=λe=>hb (by simp [e])
   have n2:c ≠ TO:=λe=>hb (by simp [e])
   have n3:c ≠ i1:=λe=>hb (by simp [e])
   have n4:c ≠ i2:=λe=>hb (by simp [e])
   exact up c v n1 (kk c v n1 n2 n3 n4 q)
  ·exact ⟨(show 2<=sizeLine by decide +kernel),[u,u'],.cons ru (.cons ru' .nil),_,hT',rfl,_,rfl⟩
  ·intro vs ws hv hw
   rw [I.list_inj hv hq,I.list_inj hw hq'];exact ⟨x,y,_,hx,hy,I.fresh,rfl,rfl⟩
  ·refine ⟨hz'',up _ _ D.TIz (kk _ _ D.TIz D.TITO D.TIi1 D.TIi2 hTI),⟨u,u',up _ _ D.TOz a2⟩,a3.at λo q=>up _ o D.i1z q,a4.at λo q=>up _ o D.i2z q⟩
  ·have hlt:c<s.heap.objs.size:=by
    have l1:i1<s.heap.objs.size:=by obtain ⟨_,e,_⟩:=h1;exact q0c e
    have l2:i2<s.heap.objs.size:=by obtain ⟨_,e,_⟩:=h2;exact q0c e
    rcases (by simpa using hb:c=z \/ c=TI \/ c=TO \/ c=i1 \/ c=i2) with e | e | e | e | e <;> rw [e]
    ·exact zlt
    ·exact q0c hTI
    ·exact q0c hTO
    ·exact l1
    ·exact l2
   rw [d4 (q0m hlt)];exact (hf c hb).1
 done:=by
  intro X hP hw hK hc i pins s σ H E I hf st hg;subst hP hw hK;obtain ⟨xs,ys,hq,hq',hend⟩:=hg;obtain ⟨its,rv,p,hlz⟩:=I.list hq;obtain ⟨its',rv',p',hlz'⟩:=I.list hq';obtain ⟨hz,hTI,⟨pa,pb,hTO⟩,h1,h2⟩:=st;have l1:=rv.length;have l2:=rv'.length;refine wpAny_pyNext_zip_end (I.ok.hd hc) D hz hTI hTO h1 h2 p.isList p'.isList ?_ λh' kk=>⟨rfl,?_⟩
  ·rcases hend with e | e
   ·exact .inl (by simp;omega)
   ·exact .inr (by simp;omega)
  ·have nf:∀ b u,H b=some u->b ∉ [z,TI,TO,i1,i2]:=λb u e q=>by rw [(hf b q).1] at e;cases e
   have k:∀ b u,b ∉ [z,TI,TO,i1,i2]->s.heap.get? b=some u->h'.get? b=some u:=λc o hb q=>kk c o (λe=>hb (by simp [e])) (λe=>hb (by simp [e])) (λe=>hb (by simp [e])) (λe=>hb (by simp [e])) q
   refine I.step (t':=s.toks) (g':=s.gens) (d':=s.drawn) (ch:=[z,TI,TO,i1,i2]) (λb hb=>?_) (λb o _ _ hc e _=>k b o hc e) (λb o _ _ hc e _=>⟨o.slots,k b o hc e⟩) (λb o _ e n=>n)
    (λb o hc e=>⟨o,k b o hc e⟩) (λb xs e=>e) (λb o u e=>e) (λb ps e=>⟨#[],by rw [e];simp⟩) (λm hm=>?_) (λb u e=>?_) I.bare
   ·obtain ⟨_,f1,_,f3,f4,f5⟩:=hf b hb
    exact ⟨f3,f1,f4,f5⟩
   ·obtain ⟨o,es,ep,ho,r⟩:=hm
    exact ⟨o,es,ep,k _ o (λq=>(hf _ q).2.1 rfl) ho,r⟩
   ·refine (I.hok b u e).stay (λc v hc q=>k c v ?_ q) (λc q=>q) λc xs q=>q
    rcases hc with q | q
    ·rw [q];exact nf b u e
    ·exact nf c _ q
 self:=λ_ _ _ _ _ st h=>wpAny_pyIter_zip st.1 h
section
variable {X:Cx}
def bf3 (K:q0a) (ta:TA):TI:=λσ H R=>ta σ H λvs H1 => ∃ a b,vs=[.ref a,.ref b]/\(∃ xs,SqL K H1 a xs)/\(∃ ys,SqL K H1 b ys)/\R (Itz K a b) H1
theorem aM3 {elts:List Expr} {k:Nat} {tpos:Pos} {l l':Expr} {ta:TA} {p pos:Pos} (hg:Gl X "zip") (hm:X.mg "zip" = none) (ha:PA X [l,l'] ta) (hs:starEach [l,l'] X.env=[(false,eval l X.env),(false,eval l' X.env)]:=by rfl) (hs2:starEach [l'] X.env=[(false,eval l' X.env)]:=by rfl) :
  PI X (.Tuple elts k tpos) (.Call (.Name "zip" p) [l,l'] [] pos) (bf3 X.K ta):=by
 intro pins s σ H R I h;refine Call_ (ad7 I hg hm (u:=.type "zip") (by decide +kernel) (PyProof.Rows.callWith_type1 (thn (ha pos pins s σ H _ I h) λus s1 ⟨vs,H1,I1,r1,q1⟩=>?_) (by rw [hs,hs2]) (by rw [hs2];rfl)))
 obtain ⟨a,b,e,⟨xs,hq⟩,⟨ys,hq'⟩,q⟩:=q1;subst e;obtain ⟨u,u',rfl,rx,rx'⟩:=k9.two r1
 cases rx
 cases rx'
 obtain ⟨its,rv,p,hz⟩:=I1.list hq;obtain ⟨its',rv',p',hz'⟩:=I1.list hq';have a1:a<s1.heap.objs.size:=by obtain ⟨_,e,_⟩:=p.isList;exact q0c e
 have a2:b<s1.heap.objs.size:=by obtain ⟨_,e,_⟩:=p'.isList;exact q0c e
 refine call_zip_2 p.isList p'.isList λh' hz hTI hTO hi1 hi2 hsz kk=>?_;refine wpAny_pyIter_zip hz ?_;have I2:Inv X pins σ H1 { s1 with heap:=h' }:=I1.kept (t':=s1.toks) kk;refine ⟨_,_,_,_,H1,rfl,I2,aU9 a b _ _ _ _ _ (zipApart_new a1 a2),⟨hz,hTI,⟨_,_,hTO⟩,hi1,hi2⟩,λc hb=>?_,q⟩
 have hb':s1.heap.objs.size<=c:=by
  rcases (by simpa using hb:c=s1.heap.objs.size+4 \/ c=s1.heap.objs.size+2 \/ c=s1.heap.objs.size+3 \/ c=s1.heap.objs.size \/ c=s1.heap.objs.size+1) with e | e | e | e | e <;> rw [e]
  ·exact y0a _ _
  ·exact y0a _ _
  ·exact y0a _ _
  ·exact q0h _
  ·exact y0a _ _
 obtain ⟨f0,f1,f2,f3,f4,f5⟩:=I1.fpOk (H':=H1) hb' (I1.hok.fresh hb');exact ⟨f0,f1,f2,f3,f4,f5⟩
end
end L2
set_option maxRecDepth 100000
namespace R
open PySem L2 PyProof.Rows
structure BdN (k:Nat) (q:Rat):Prop where
 n:q.num.natAbs<2 ^ k
 d:q.den<2 ^ k
theorem BdN.mono {m n:Nat} {q:Rat} (h:BdN m q) (l:m<=n):BdN n q:=⟨q0b h.n (d7 l),q0b h.d (d7 l)⟩
theorem Sm.bdN {q:Rat} (s:Sm q):BdN 40 q:=⟨q0s s.n (by decide),q0s s.d (by decide)⟩
theorem BdN.mul {m n:Nat} {p q:Rat} (a:BdN m p) (b:BdN n q):BdN (m+n) (p*q):=by
 rw [aj3];have hb:(p.den:Int)*q.den ≠ 0:=g0r (u0d (p8 p) (p8 q));obtain ⟨e1,e2⟩:=U0 (t:=p.num*q.num) hb;rw [z0j] at e1 e2;refine ⟨q0s e1 ?_,q0s e2 ?_⟩
 ·rw [z0p];exact z0g a.n b.n
 ·rw [z0p,q0y,q0y];exact z0g a.d b.d
structure SmW (q:Rat):Prop where
 n:q.num.natAbs<2 ^ 42
 d:q.den<2 ^ 40
section
variable {α β:Type}
def aa4 [Add α]:List α->Nat->α->List α
 | [],_,_=>[]
 | y :: r,0,x=>(y+x) :: r
 | y :: r,k+1,x=>y :: aa4 r k x
theorem aB4 [Add α]:∀ (f:List α) (k:Nat) (x:α),(aa4 f k x).length=f.length
 | [],_,_=>rfl
 | _ :: _,0,_=>rfl
 | _ :: r,k+1,x=>by simp [aa4,aB4 r k x]
theorem aB2 [Add α]:∀ (f:List α) (k:Nat) (x y:α),f[k]? = some y->f.set k (y+x)=aa4 f k x
 | [],_,_,_,h=>by simp at h
 | z :: r,0,x,y,h=>by cases h;rfl
 | z :: r,k+1,x,y,h=>by
  rw [List.set_cons_succ,aa4,aB2 r k x y (by simpa using h)]
theorem af9 [Add α]:∀ (f:List α) (k i:Nat) (x:α),i ≠ k->(aa4 f k x)[i]? = f[i]?
 | [],_,_,_,_=>rfl
 | _ :: _,0,0,_,h=>absurd rfl h
 | _ :: _,0,i+1,_,_=>rfl
 | _ :: _,k+1,0,_,_=>rfl
 | _ :: r,k+1,i+1,x,h=>by
  simp only [aa4,v0c];exact af9 r k i x ⋯
theorem aj9 [Add α]:∀ (f:List α) (k:Nat) (x y:α),f[k]? = some y->(aa4 f k x)[k]? = some (y+x)
 | [],_,_,_,h=>by simp at h
 | z :: r,0,x,y,h=>by cases h;rfl
 | z :: r,k+1,x,y,h=>by simp only [aa4,v0c];exact aj9 r k x y (by simpa using h)
def G0 [Add α] [Mul α] (z:α) (f:List α) (i:Nat) (x:α) (q:List α):Nat->List α
 | 0=>f
 | j+1=>aa4 (G0 z f i x q j) (i+j) (x*(q[j]?).getD z)
def C3 [Add α] [Mul α] (z:α) (f p q:List α):Nat->List α
 | 0=>f
 | i+1=>G0 z (C3 z f p q i) i ((p[i]?).getD z) q q.length
theorem ao4 [Add α] [Mul α] (z:α) (f:List α) (i:Nat) (x:α) (q:List α):∀ j,(G0 z f i x q j).length=f.length
 | 0=>rfl
 | j+1=>by rw [G0,aB4,ao4 z f i x q j]
theorem ag7 [Add α] [Mul α] (z:α) (f p q:List α):∀ n,(C3 z f p q n).length=f.length
 | 0=>rfl
 | n+1=>by rw [C3,ao4,ag7 z f p q n]
theorem aj6 [Add α] [Mul α] (z:α) (f:List α) (i:Nat) (x:α) (q:List α) (k:Nat):∀ j,i+j<=k->(G0 z f i x q j)[k]? = f[k]?
 | 0,_=>rfl
 | j+1,h=>by rw [G0,af9 _ _ _ _ ⋯,aj6 z f i x q k j ⋯]
theorem at4 [Add α] [Mul α] (z:α) (f p q:List α) (k:Nat):∀ n,n+q.length<=k+1->(C3 z f p q n)[k]? = f[k]?
 | 0,_=>rfl
 | n+1,h=>by rw [C3,aj6 _ _ _ _ _ _ _ ⋯,at4 z f p q k n ⋯]
end
def K7 (p q:List Rat):List Rat:=if p=[] \/ q=[] then [] else C3 0 (q0t (p.length+q.length-1) 0) p q p.length
def scl (s:Rat) (ws:List Int):List Rat:=ws.map λw:Int=>s*(w:Rat)
theorem aS9 {p q:List Rat} (hp:p ≠ []) (hq:q ≠ []) {x y:Rat} (hx:p[p.length-1]? = some x) (hy:q[q.length-1]? = some y):(K7 p q)[(K7 p q).length-1]? = some (x*y):=by
 have lp:0<p.length:=v0r.mpr hp;have lq:0<q.length:=v0r.mpr hq;unfold K7;rw [if_neg (by simp [hp,hq]),ag7,j0t]
 obtain ⟨n,hn⟩:∃ n,p.length=n+1:=⟨p.length-1,⋯⟩;obtain ⟨m,hm⟩:∃ m,q.length=m+1:=⟨q.length-1,⋯⟩
 have hx':(p[n]?).getD 0=x:=by
  have:p[n]? = some x:=by rw [hn] at hx;simpa using hx
  rw [this];rfl
 have hy':(q[m]?).getD 0=y:=by
  have:q[m]? = some y:=by rw [hm] at hy;simpa using hy
  rw [this];rfl
 have key:∀ F:List Rat,C3 0 F p q (n+1)=aa4 (G0 0 (C3 0 F p q n) n x q m) (n+m) (x*y):=λF=>by
  rw [C3,hm,G0,hx',hy']
 rw [hn,hm,key];have e:n+1+(m+1)-1-1=n+m:=⋯;rw [e]
 have h0:(G0 (0:Rat) (C3 0 (q0t (n+1+(m+1)-1) 0) p q n) n x q m)[n+m]? = some 0:=by
  rw [aj6 _ _ _ _ _ _ _ ⋯,at4 _ _ _ _ _ _ (by rw [hm];omega),y0k,if_pos ⋯]
 rw [aj9 _ _ _ _ h0]
 congr 1;grind
theorem al8 {p q:List Rat} (hp:p ≠ []) (hq:q ≠ []):(K7 p q).length=p.length+q.length-1:=by
 unfold K7;rw [if_neg (by simp [hp,hq]),ag7,j0t]
def E7 (qs:List Rat):Nat:=qs.foldl (λb q=>u0g b q.den) 1
theorem aT2 (qs:List Rat) (q:Rat):E7 (qs ++ [q])=u0g (E7 qs) q.den:=by simp [E7]
theorem ap9:∀ (qs:List Rat) (b m:Nat),b ∣ m->(∀ q ∈ qs,q.den ∣ m)->qs.foldl (λb q=>u0g b q.den) b ∣ m
 | [],_,_,h,_=>h
 | q :: qs,b,m,h,k=>ap9 qs _ m (Nat.lcm_dvd h (k q q0x)) λr hr=>k r (q0r _ hr)
theorem aI7 {qs:List Rat} {m:Nat} (h:∀ q ∈ qs,q.den ∣ m):E7 qs ∣ m:=ap9 qs 1 m (Nat.one_dvd _) h
theorem am1:∀ (qs:List Rat) (b:Nat),b ∣ qs.foldl (λb q=>u0g b q.den) b
 | [],_=>Nat.dvd_refl _
 | q :: qs,b=>Nat.dvd_trans (Nat.dvd_lcm_left _ _) (am1 qs _)
theorem ap8:∀ (qs:List Rat) (b:Nat) (q:Rat),q ∈ qs->q.den ∣ qs.foldl (λb q=>u0g b q.den) b
 | r :: qs,b,q,h=>by
  rcases z0d.mp h with e | e
  ·subst e;exact Nat.dvd_trans (Nat.dvd_lcm_right _ _) (am1 qs _)
  ·exact ap8 qs _ q e
theorem ae0 {qs:List Rat} {q:Rat} (h:q ∈ qs):q.den ∣ E7 qs:=ap8 qs 1 q h
def N9 (B:Nat) (qs:List Rat):List Int:=qs.map λq=>q.num*(B:Int).fdiv (q.den:Int)
theorem aG3 {B:Nat} {q:Rat} (hB:0<B) (h:q.den ∣ B):q=z0b (q.num*(B:Int).fdiv (q.den:Int)) B:=by
 obtain ⟨e,he⟩:=h;have hd:(q.den:Int) ≠ 0:=by have:=q.den_nz;omega
 have e1:(B:Int).fdiv (q.den:Int)=(e:Int):=by
  rw [he,j0m];exact k8 hd
 rw [e1]
 conv=>lhs;rw [<- z0h q]
 rw [y0g hd ⋯,he,j0m]
 grind
end R
namespace L2
open PySem PySem.Spec PyProof.Rows
section
variable {K:q0a} {a b D:Addr} {xs ys:List V} {g:TG} {te:TE} {σ0:St} {H0:Hp} {Q:VK}
theorem aN7 (xs ys:List V) (Pv:Nat->St->Hp->Prop) (h0:Pv 0 σ0 H0) (hl:∀ i σ H,Pv i σ H->SqL K H a xs/\SqL K H b ys)
  (hs:∀ i x y σ H p,xs[i]? = some x->ys[i]? = some y->Pv i σ H->H p=none->g (.ref p) σ (upd H p (.tup [x,y])) λσ4 H4=>te σ4 H4 λv H5=>m8 D (min xs.length ys.length) Pv i σ4 v H5)
  (hd:∀ σ H,Pv (min xs.length ys.length) σ H->Q (.ref D) H):V7 (Itz K a b) D σ0 H0 g te Q:=by
 refine ⟨λi m σ H=>m=min xs.length ys.length-i/\i<=min xs.length ys.length/\Pv i σ H,⟨_,rfl,z0n _,h0⟩,?_⟩;rintro i m σ H ⟨rfl,hi,p⟩;obtain ⟨q,q'⟩:=hl i σ H p
 by_cases hlt:i<min xs.length ys.length
 ·have h1:i<xs.length:=⋯
  have h2:i<ys.length:=⋯;refine .inr ⟨⟨xs,ys,xs[i],ys[i],q,q',q0j h1,q0j h2⟩,?_⟩;intro v H3 hy;obtain ⟨x,y,r,e1,e2,hr,rfl,rfl⟩:=hy xs ys q q';exact hs i x y σ _ r e1 e2 p hr
 ·have e:i=min xs.length ys.length:=⋯
  subst e;exact .inl ⟨⟨xs,ys,q,q',⋯⟩,hd σ H p⟩
theorem am3 (xs:List V) (Pv:Nat->St->Hp->Prop) (h0:Pv 0 σ0 H0) (hl:∀ i σ H,Pv i σ H->SqL K H a xs)
  (hs:∀ i x σ H p,xs[i]? = some x->Pv i σ H->H p=none->g (.ref p) σ (upd H p (.tup [.int i,x])) λσ4 H4=>te σ4 H4 λv H5=>m8 D xs.length Pv i σ4 v H5)
  (hd:∀ σ H,Pv xs.length σ H->Q (.ref D) H):V7 (Ite K a) D σ0 H0 g te Q:=by
 refine ⟨λi m σ H=>m=xs.length-i/\i<=xs.length/\Pv i σ H,⟨_,rfl,z0n _,h0⟩,?_⟩;rintro i m σ H ⟨rfl,hi,p⟩;have q:=hl i σ H p
 by_cases hlt:i<xs.length
 ·refine .inr ⟨⟨xs,xs[i],q,q0j hlt⟩,?_⟩
  intro x H3 hy;obtain ⟨y,r,hy1,hr,rfl,rfl⟩:=hy xs q;exact hs i y σ _ r hy1 p hr
 ·have e:i=xs.length:=⋯
  subst e;exact .inl ⟨⟨xs,q,q0h _⟩,hd σ H p⟩
theorem aJ4 {tb:TS} {E:ak1} {σ:St} {H:Hp} (xs:List V) (Pv:Nat->St->Hp->Prop) (h0:Pv 0 σ H) (hl:∀ i σ H,Pv i σ H->SqL K H a xs)
  (hs:∀ i x σ H p,xs[i]? = some x->Pv i σ H->H p=none->g (.ref p) σ (upd H p (.tup [.int i,x])) λσ2 H2=>tb { E with nx:=Pv (i+1),ct:=Pv (i+1),bk:=E.nx } σ2 H2) (hd:∀ σ H,Pv xs.length σ H->E.nx σ H) :
  ∃ W:Nat->Nat->St->Hp->Prop,(∃ m,W 0 m σ H)/\∀ i m σ H,W i m σ H ->
   ((Ite K a).stop i H/\E.nx σ H) \/ ((Ite K a).go i H/\∃ N:St->Hp->Prop,(∀ σ' H',N σ' H'->∃ m',m'<m/\W (i+1) m' σ' H')/\∀ x H',(Ite K a).yld i H x H'->g x σ H' λσ2 H2=>tb { E with nx:=N,ct:=N,bk:=E.nx } σ2 H2):=by
 refine ⟨λi m σ H=>m=xs.length-i/\i<=xs.length/\Pv i σ H,⟨_,rfl,z0n _,h0⟩,?_⟩;rintro i m σ H ⟨rfl,hi,p⟩;have q:=hl i σ H p
 by_cases hlt:i<xs.length
 ·refine .inr ⟨⟨xs,xs[i],q,q0j hlt⟩,Pv (i+1),λσ' H' n=>⟨_,⋯,rfl,hlt,n⟩,?_⟩
  intro x H3 hy;obtain ⟨y,r,hy1,hr,rfl,rfl⟩:=hy xs q;exact hs i y σ _ r hy1 p hr
 ·have e:i=xs.length:=⋯
  subst e;exact .inl ⟨⟨xs,q,q0h _⟩,hd σ H p⟩
end
end L2
set_option maxRecDepth 100000
namespace R
open PySem L2 PyProof.Rows
def j4 (f:Nat->Rat):Nat->Rat
 | 0=>0
 | n+1=>j4 f n+f n
theorem ao9 (f:Nat->Rat):∀ n,j4 f (n+1)=f 0+j4 (λi=>f (i+1)) n
 | 0=>by simp only [j4];grind
 | n+1=>by
  rw [j4,ao9 f n,j4];grind
theorem y1 {f g:Nat->Rat}:∀ {n},(∀ i,i<n->f i=g i)->j4 f n=j4 g n
 | 0,_=>rfl
 | n+1,h=>by rw [j4,j4,y1 λi hi=>h i ⋯,h n ⋯]
theorem ai1:∀ (n:Nat) (f:Nat->Rat),j4 f n=j4 (λi=>f (n-1-i)) n
 | 0,_=>rfl
 | n+1,f=>by
  rw [ao9 (λi=>f (n+1-1-i)) n,j4,ai1 n f];have:j4 (λi=>f (n-1-i)) n=j4 (λi=>f (n+1-1-(i+1))) n:=y1 λi hi=>by congr 1;omega
  rw [this]
  show _=f (n+1-1-0)+_;rw [show n+1-1-0=n by omega]
  grind
theorem ac5 {f:Nat->Rat} {m:Nat}:∀ {n},m<=n->(∀ i,m<=i->i<n->f i=0)->j4 f n=j4 f m
 | 0,h,_=>by rw [show m=0 by omega]
 | n+1,h,z=>by
  by_cases e:m=n+1
  ·rw [e]
  ·rw [j4,z n ⋯ ⋯,ac5 (n:=n) ⋯ λi a b=>z i a ⋯]
   grind
theorem aA1 (f:List Rat) (i:Nat) (x:Rat) (q:List Rat) {k:Nat} (y:Rat) (hy:f[k]? = some y):∀ j,(G0 0 f i x q j)[k]? = some (y+if i<=k/\k<i+j then x*(q[k-i]?).getD 0 else 0)
 | 0=>by
  rw [G0,hy,if_neg ⋯];congr 1;grind
 | j+1=>by
  have ih:=aA1 f i x q y hy j;rw [G0]
  by_cases e:k=i+j
  ·subst e
   rw [aj9 _ _ _ _ ih,if_neg ⋯,if_pos ⋯,show i+j-i=j by omega]
   congr 1;grind
  ·rw [af9 _ _ _ _ e,ih]
   by_cases h:i<=k/\k<i+j
   ·rw [if_pos h,if_pos ⋯]
   ·rw [if_neg h,if_neg ⋯]
def aB7 (p q:List Rat) (k i:Nat):Rat:=if i<=k then (p[i]?).getD 0*(q[k-i]?).getD 0 else 0
theorem az3 (f p q:List Rat) {k:Nat} (hy:f[k]? = some 0):∀ n,(C3 0 f p q n)[k]? = some (j4 (aB7 p q k) n)
 | 0=>hy
 | n+1=>by
  rw [C3,aA1 _ _ _ _ _ (az3 f p q hy n),j4]
  congr 2
  unfold aB7
  by_cases h:n<=k
  ·rw [if_pos h]
   by_cases h2:k<n+q.length
   ·rw [if_pos ⟨h,h2⟩]
   ·rw [if_neg ⋯,z0x (l:=q) ⋯]
    show (0:Rat)=_*0
    grind
  ·rw [if_neg h,if_neg ⋯]
theorem au2 {p q:List Rat} (hp:p ≠ []) (hq:q ≠ []) {k:Nat} (hk:k<p.length+q.length-1):(K7 p q)[k]? = some (j4 (λi=>(p[i]?).getD 0*(q[k-i]?).getD 0) (k+1)):=by
 unfold K7;rw [if_neg (by simp [hp,hq]),az3 _ _ _ (by rw [y0k,if_pos hk])]
 congr 1
 have h1:j4 (aB7 p q k) (max p.length (k+1))=j4 (aB7 p q k) p.length:=ac5 ⋯ λi a _=>by
  unfold aB7;rw [z0x a]
  split
  ·show (0:Rat)*_=0;grind
  ·rfl
 have h2:j4 (aB7 p q k) (max p.length (k+1))=j4 (aB7 p q k) (k+1):=ac5 ⋯ λi a _=>by
  unfold aB7;rw [if_neg ⋯]
 rw [<- h1,h2];exact y1 λi hi=>by unfold aB7;rw [if_pos ⋯]
theorem aT0 (p q:List Rat):K7 p q=K7 q p:=by
 by_cases hp:p=[]
 ·subst hp;simp [K7]
 by_cases hq:q=[]
 ·subst hq;simp [K7]
 refine List.ext_getElem? λk=>?_
 by_cases hk:k<p.length+q.length-1
 ·rw [au2 hp hq hk,au2 hq hp ⋯,ai1]
  congr 1
  refine y1 λi hi=>?_;rw [show k+1-1-i=k-i by omega,show k-(k-i)=i by omega]
  grind
 ·rw [z0x (by rw [al8 hp hq];omega),z0x (by rw [al8 hq hp];omega)]
end R
namespace L2
theorem f9 {t R:TS} {D:ak1} {σ:St} {H:Hp} (P:St->Hp->Prop) (first:∀ N:St->Hp->Prop,(∀ σ H,P σ H->N σ H)->t { D with nx:=N } σ H) (aq3:∀ σ H,P σ H->R D σ H):bc4 t R D σ H:=first _ aq3
end L2
set_option maxRecDepth 100000
namespace R
section
variable {α:Type} [Lean.Grind.CommRing α]
def syn (c:α):List α->List α
 | []=>[]
 | a :: p=>match syn c p with
  | []=>[a]
  | h :: t=>(a+c*h) :: h :: t
def pass (c:α) (k:Nat) (l:List α):List α:=l.take k ++ syn c (l.drop k)
end
def evQ (x:Rat):List Rat->Rat
 | []=>0
 | a :: p=>a+x*evQ x p
open PySem L2 PyProof.Rows
structure Bd6 (q:Rat):Prop where
 n:q.num.natAbs<2 ^ 6000
 d:q.den<2 ^ 6000
theorem BdN.bd6 {n:Nat} {q:Rat} (h:BdN n q) (l:n<=6000):Bd6 q:=⟨q0b h.n (d7 l),q0b h.d (d7 l)⟩
theorem ap7:∀ (qs:List Rat) (b:Nat),0<b->0<qs.foldl (λb q=>u0g b q.den) b
 | [],b,h=>h
 | q :: qs,b,h=>ap7 qs _ (Nat.lcm_pos h (by have:=q.den_nz;omega))
theorem Q6 (qs:List Rat):0<E7 qs:=ap7 qs 1 (by decide)
end R
set_option maxRecDepth 100000
namespace L2
open PySem PySem.Spec PyProof.Rows
section
variable {prog:Program} {w:World} {A:Around} {R:Result->Shared->Prop} {s:Shared}
theorem aK3 {elt t1 i1 t2 i2:Expr} {scope:Scope} {pos:Pos} {it acc:Value} {env:Env}
  (h1:codeAny (model prog w) A (.compLoop (.ListComp elt [⟨t1,i1,[],0⟩,⟨t2,i2,[],0⟩] scope pos) 1 it acc env) R s)
  (h2:wpAny (model prog w) A (pyIter it) (λit' s'=>codeAny (model prog w) A (.compLoop (.ListComp elt [⟨t1,i1,[],0⟩,⟨t2,i2,[],0⟩] scope pos) 1 it' acc env) R s') (λ_ _=>False) s) :
  codeAny (model prog w) A (.compStart (.ListComp elt [⟨t1,i1,[],0⟩,⟨t2,i2,[],0⟩] scope pos) 1 it acc env) R s:=by
 refine codeAny_of_tree ?_
 show wpAny _ _ ((compStart (.ListComp elt [⟨t1,i1,[],0⟩,⟨t2,i2,[],0⟩] scope pos) 1 it acc env).onRaise _) _ _ s;refine wpAny_onRaise ?_;unfold compStart;rw [if_neg (show ¬((clausesOf (.ListComp elt [⟨t1,i1,[],0⟩,⟨t2,i2,[],0⟩] scope pos))[1]?.elim false λx=>x.is_async != 0)=true by intro h;cases h)]
 refine wpAny_bind (wpAny_askSetting ?_)
 split
 ·exact wpAny_pure ⟨rfl,h1⟩
 ·refine wpAny_bind (wpAny_rule ?_)
  refine wpAny_bind (wpAny_standAt ?_);refine wpAny_bind (wpAny_mono h2 (λit' s' h=>wpAny_pure ⟨rfl,h⟩) λ_ _ h=>h.elim)
theorem aO1 {elt t1 i1 t2 i2:Expr} {scope:Scope} {pos:Pos} {it acc:Value} {env:Env} (I:Nat->Shared->Prop)
  (turn:∀ n s,I n s->wpAny (model prog w) A (pyNext it) (λr s₁=>match r with
   | none=>R (.ok .next) s₁
   | some v=>wpAny (model prog w) A (letOwnedTupleGo t2 it v) (λ_ s₁'=>wpAny (model prog w) A (assign t2 env v) (λ_ s₂=>wpAny (model prog w) A (eval elt env) (λx s₃ =>
     wpAny (model prog w) A (call (.builtin "list.append") [acc,x]) (λ_ s₄ => ∃ m,m<n/\I m s₄) (λ_ _=>False) s₃)
     (λ_ _=>False) s₂) (λ_ _=>False) s₁') (λ_ _=>False) s₁) (λ_ _=>False) s)
  (n:Nat) (h:I n s) :
  codeAny (model prog w) A (.compLoop (.ListComp elt [⟨t1,i1,[],0⟩,⟨t2,i2,[],0⟩] scope pos) 1 it acc env) R s:=by
 refine codeAny_loop rfl I (λn s hI=>?_) n h
 show wpAny _ _ ((compTurn (.ListComp elt [⟨t1,i1,[],0⟩,⟨t2,i2,[],0⟩] scope pos) 1 it acc env).onRaise (λx=>do noteFrame x env;theTreesLotGoes x)) _ _ s
 refine wpAny_noted ?_;have no:∀ {P:Value->Shared->Prop} (e:Value) (s:Shared),False->P e s:=λ_ _ h=>h.elim;unfold compTurn;refine wpAny_bind (wpAny_standAt (wpAny_bind (wpAny_mono (turn n s hI) (λr s₁ h₁=>?_) no)))
 cases r with
 | none=>exact wpAny_pure h₁
 | some v =>
  refine wpAny_bind (wpAny_mono h₁ (λ_ s₁' h₁'=>?_) no);refine wpAny_bind (wpAny_mono h₁' (λ_ s₂ h₂=>?_) no);refine wpAny_bind ?_;rw [v0z];refine wpAny_pure ?_;exact wpAny_bind (wpAny_bind (wpAny_mono h₂ (λx s₃ h₃=>wpAny_bind (wpAny_mono h₃ (λ_ s₄ h₄=>wpAny_pure (wpAny_pure ⟨rfl,h₄⟩)) no)) no))
theorem aO0 {elt t1 i1 t2 i2:Expr} {scope:Scope} {pos:Pos} {it acc:Value} {env:Env} (hs:∀ x,foldedSetIterable i2 env x=pure x) (I:Nat->Shared->Prop)
  (turn:∀ n s,I n s->wpAny (model prog w) A (pyNext it) (λr s₁=>match r with
   | none=>R (.ok .next) s₁
   | some v=>wpAny (model prog w) A (letOwnedTupleGo t1 it v) (λ_ s₁'=>wpAny (model prog w) A (assign t1 env v) (λ_ s₂=>wpAny (model prog w) A (eval i2 env) (λx s₃ =>
     wpAny (model prog w) A (pyIter x) (λit2 s₄=>codeAny (model prog w) A (.compStart (.ListComp elt [⟨t1,i1,[],0⟩,⟨t2,i2,[],0⟩] scope pos) 1 it2 acc env) (λr s₅=>match r with
      | .ok _ => ∃ m,m<n/\I m s₅
      | .error _=>False) s₄) (λ_ _=>False) s₃)
     (λ_ _=>False) s₂) (λ_ _=>False) s₁') (λ_ _=>False) s₁) (λ_ _=>False) s)
  (n:Nat) (h:I n s) :
  codeAny (model prog w) A (.compLoop (.ListComp elt [⟨t1,i1,[],0⟩,⟨t2,i2,[],0⟩] scope pos) 0 it acc env) R s:=by
 refine codeAny_loop rfl I (λn s hI=>?_) n h
 show wpAny _ _ ((compTurn (.ListComp elt [⟨t1,i1,[],0⟩,⟨t2,i2,[],0⟩] scope pos) 0 it acc env).onRaise (λx=>do noteFrame x env;theTreesLotGoes x)) _ _ s
 refine wpAny_noted ?_;have no:∀ {P:Value->Shared->Prop} (e:Value) (s:Shared),False->P e s:=λ_ _ h=>h.elim;unfold compTurn;refine wpAny_bind (wpAny_standAt (wpAny_bind (wpAny_mono (turn n s hI) (λr s₁ h₁=>?_) no)))
 cases r with
 | none=>exact wpAny_pure h₁
 | some v =>
  refine wpAny_bind (wpAny_mono h₁ (λ_ s₁' h₁'=>?_) no);refine wpAny_bind (wpAny_mono h₁' (λ_ s₂ h₂=>?_) no);refine wpAny_bind ?_;rw [v0z];refine wpAny_pure ?_;refine wpAny_bind (wpAny_mono h₂ (λx s₃ h₃=>?_) no);refine wpAny_bind (wpAny_standAt ?_)
  dsimp only
  rw [if_neg (by decide),hs x]
  refine wpAny_bind (wpAny_pure ?_);refine wpAny_bind (wpAny_holding ?_);refine wpAny_mono h₃ (λit2 s₄ h₄=>?_) no;refine wpAny_bind (wpAny_runOwn ?_);refine codeAny_mono h₄ λr s₅ h₅=>?_
  cases r with
  | ok f=>exact wpAny_pure ⟨rfl,h₅⟩
  | error e=>exact h₅.elim
end
def aV7 (wi:TI) (caps:List (Option Nat)) (g:TG) (wi2:TI) (g2:TG) (te:TE):TE:=λσ H Q=>wi σ H λJ H1 => ∀ D,H1 D=none->∃ W:Nat->Nat->St->Hp->Prop,(∃ m,W 0 m (C6 caps σ) (upd H1 D (.lst []))) /\
 ∀ i m σc H2,W i m σc H2->(J.stop i H2/\Q (.ref D) H2) \/
  (J.go i H2/\∀ x H3,J.yld i H2 x H3->g x σc H3 λσ4 H4=>wi2 σ4 H4 λJ2 H5 => ∃ W2:Nat->Nat->St->Hp->Prop,(∃ m2,W2 0 m2 σ4 H5) /\
   ∀ i2 m2 σ6 H6,W2 i2 m2 σ6 H6->(J2.stop i2 H6/\∃ m',m'<m/\W (i+1) m' σ6 H6) \/
    (J2.go i2 H6/\∀ y H7,J2.yld i2 H6 y H7->g2 y σ6 H7 λσ8 H8=>te σ8 H8 λz H9 => ∃ ys,H9 D=some (.lst ys)/\ys.length<sizeLine/\∃ m3,m3<m2/\W2 (i2+1) m3 σ8 (upd H9 D (.lst (ys ++ [z])))))
section
variable {X:Cx}
theorem aX0 {elt tg iter tg2 iter2 : Expr} {scope : Scope} {pos : Pos} {cl : List (Str × Addr)} {Nc : List Str} {caps : List (Option Nat)} {wi wi2 : TI} {g g2 : TG} {te : TE} (hc : X.calm = true) (cp : G3 X scope cl Nc caps) (hi : PI X tg iter wi)
    (hg:∀ C s₂ H₂ fp pins,PG (X.block scope cl C Nc s₂ H₂ fp pins) tg g) (hi2:∀ C s₂ H₂ fp pins,PI (X.block scope cl C Nc s₂ H₂ fp pins) tg2 iter2 wi2) (hg2:∀ C s₂ H₂ fp pins,PG (X.block scope cl C Nc s₂ H₂ fp pins) tg2 g2) (he:∀ C s₂ H₂ fp pins,PE (X.block scope cl C Nc s₂ H₂ fp pins) elt te) (hs:∀ x,foldedSetIterable iter X.env x=pure x:=by intro _;rfl) (hs2:∀ (env:Env) x,foldedSetIterable iter2 env x=pure x:=by intro _ _;rfl) :
    PE X (.ListComp elt [⟨tg,iter,[],0⟩,⟨tg2,iter2,[],0⟩] scope pos) (aV7 wi caps g wi2 g2 te):=by
  intro pins s σ H Q I h;rw [eval_ListComp];refine wpAny_comprehension_free (use:=none) rfl hs cp.clos cp.kind cp.names ?_;refine thn (hi pins s σ H _ I h) λv s1 h1=>thn h1 λitv s2 h2=>?_;obtain ⟨it,fp,tn,J,H2,e,I2,T,st2,f2,hW⟩:=h2;subst e;refine wpAny_newObj_type ?_ (by show 0<=sizeLine;exact Nat.zero_le _)
  refine wpAny_newFunctionEnv cp.nocell (by intro y hy;simp at hy) (λh4 hns hsb=>?_) cp.kind
  dsimp only at hns hsb ⊢
  generalize hH3:s2.heap.push { cls:=.type "list",dict:=none,data:=.seq ([]:List Value).toArray }=H3 at hns hsb ⊢
  have hCe:H3.objs.size=s2.heap.objs.size+1:=by rw [<- hH3,Heap.size_push]
  have M1:∀ b o,s2.heap.get? b=some o->b ≠ H3.objs.size:=λb o e=>by rw [hCe];exact Nat.ne_of_lt (Nat.lt_succ_of_lt (Heap.lt_size e))
  have old:∀ b o,s2.heap.get? b=some o->h4.get? b=some o:=λb o e=>hsb.extBut b o (M1 b o e) (Heap.get?_push_of_some _ (hH3 ▸ Heap.get?_push_of_some _ e))
  have hD:h4.get? s2.heap.objs.size=some { cls:=.type "list",dict:=none,data:=.seq ([]:List Value).toArray } :=
    hsb.extBut _ _ (by rw [hCe];exact Nat.ne_of_lt (Nat.lt_succ_self _)) (Heap.get?_push_of_some _ (hH3 ▸ Heap.get?_push_size _ rfl))
  have hDn:H2 s2.heap.objs.size=none:=I2.fresh;have hCn:H2 H3.objs.size=none:=I2.hok.fresh (by rw [hCe];exact Nat.le_succ _)
  have hCs:s2.heap.objs.size<=H3.objs.size:=by rw [hCe];exact Nat.le_succ _
  have hDC:s2.heap.objs.size ≠ H3.objs.size:=by rw [hCe];exact Nat.ne_of_lt (Nat.lt_succ_self _)
  have fpl:∀ b ∈ fp,∃ o,s2.heap.get? b=some o:=λb hb=>let ⟨o,e,_⟩:=T.obj _ _ st2 b hb;⟨o,e⟩;have fpC:∀ b ∈ fp,b ≠ H3.objs.size:=λb hb=>let ⟨o,e⟩:=fpl b hb;M1 b o e;have fpD:∀ b ∈ fp,b ≠ s2.heap.objs.size:=λb hb=>let ⟨o,e⟩:=fpl b hb;Nat.ne_of_lt (Heap.lt_size e);have stkN:∀ b,b ≠ X.env.locals->b ∉ X.fs->b ∉ frs X.stack:=λb h1 h2 z=>(List.mem_cons.mp (I2.stkSub b z)).elim h1 h2;obtain ⟨W,⟨m0,w0⟩,turn⟩:=hW s2.heap.objs.size hDn
  have okB:(X.block scope cl H3.objs.size Nc s2 H2 fp pins).Ok:=by
    refine ⟨I2.ok.mod,?_,I2.ok.glob,I2.ok.blt,hCs,λx y c h1 h2=>I2.ok.inj x y c (cp.sub x c h1) (cp.sub y c h2),λx hx=>cp.has x hx,λx c h=>(by cases h),I2.ok.hd,I2.ok.frames,.inl rfl,λb hb=>⟨fpC b hb,λx c h=>(f2 b hb).2.2.2.2.1 x c (cp.sub x c h)⟩,I2.bs,Nat.le_trans I2.ok.bsz I2.sz,λb o e hb=>?_,λb hb=>stkN b (f2 b hb).2.1 (f2 b hb).2.2.1,I2.stack,I2.stkFree⟩
    · exact cp.kind
    · rcases (f2 b hb).2.2.2.1 with z | z
      · exact I2.ok.noex b o e z
      · exact absurd (Nat.lt_of_lt_of_le (Heap.lt_size e) (Nat.le_trans I2.ok.bsz z)) (Nat.lt_irrefl _)
  have hokB:HOk X.prog X.w (upd H2 s2.heap.objs.size (.lst [])) h4:=I2.hok.laid old (Nat.le_refl _) ⟨Nat.zero_le _,[],_,.nil,hD⟩
  have IB:Inv (X.block scope cl H3.objs.size Nc s2 H2 fp pins) [] (C6 caps σ) (upd H2 s2.heap.objs.size (.lst [])) { s2 with heap:=h4,toks:=s2.toks+([]:List (Str × Value)).length }:=by
    refine ⟨okB,rfl,I2.bare,Un.laid old (Nat.le_refl _) hDn,⟨_,hns,λi x v e1 e2 e3=>?_⟩,λx c e=>?_,(show upd H2 s2.heap.objs.size (.lst []) H3.objs.size=none by rw [d4 (Ne.symm hDC)];exact hCn),λx c e=>?_,λp hp=>?_,hokB,?_⟩
    · unfold C6 at e2
      rw [List.getElem?_map] at e2
      cases hcap:caps[i]? with
      | none=>rw [hcap] at e2;cases e2
      | some o =>
        rw [hcap] at e2
        cases o with
        | none=>cases e2
        | some j =>
          have hj:σ[j]? = some (some v):=by
            have e2':(σ[j]?).join=some v:=Option.some.inj e2
            cases q:σ[j]? with
            | none=>rw [q] at e2';cases e2'
            | some z=>rw [q] at e2';exact congrArg some e2'
          obtain ⟨n1,n2,n3,n4⟩:=cp.cap i j x hcap e1;obtain ⟨m,hm,hl⟩:=I2.loc;obtain ⟨u,r,q⟩:=hl j x v n1 hj n2;rcases q with ⟨k,_⟩ | ⟨k,c,ec,z⟩
          · exact absurd k n3
          · obtain ⟨c',ec'⟩:=cp.has x n4
            have:=cp.sub x c' ec';rw [ec] at this;cases this;obtain ⟨oc,ho,hd⟩:=z;exact ⟨u,r,.inr ⟨n4,c,ec',oc,old _ _ ho,hd⟩⟩
    · obtain ⟨v,oc,ho,hd⟩:=I2.cell x c (cp.sub x c e)
      exact ⟨v,oc,old _ _ ho,hd⟩
    · obtain ⟨v,oc,ho,hd⟩:=I2.cell x c (cp.sub x c e)
      rw [d4 (Nat.ne_of_lt (Heap.lt_size ho))];exact I2.freeC x c (cp.sub x c e)
    · have hp':p ∈ X.pn ++ pins:=by simpa using hp
      obtain ⟨e1,e2,e3,e4,e5⟩:=I2.pin p hp';exact ⟨old _ _ e1,by rw [d4 (Nat.ne_of_lt (Heap.lt_size e1))];exact e2,M1 _ _ e1,stkN _ e3 e4,e5⟩
    · show (C6 caps σ).length=Nc.length
      unfold C6;rw [List.length_map];exact cp.len
  have stat:∀ {H':Hp},(∀ b ∈ fp,H' b=none)->∀ b ∈ fp,ab0 (X.block scope cl H3.objs.size Nc s2 H2 fp pins) [] H' b:=λhn b hb =>
    ⟨hn b hb,fpC b hb,stkN b (f2 b hb).2.1 (f2 b hb).2.2.1,.inl hb,λx c h=>(f2 b hb).2.2.2.2.1 x c (cp.sub x c h),λp hp=>(f2 b hb).2.2.2.2.2 p (by simpa using hp)⟩
  have loop : ∀ s5 : Shared, s5 = { s2 with heap := h4, toks := s2.toks + ([] : List (Str × Value)).length } →
      codeAny (model X.prog X.w) X.A (.compLoop (.ListComp elt [⟨tg,iter,[],0⟩,⟨tg2,iter2,[],0⟩] scope pos) 0 (.ref it) (.ref s2.heap.objs.size) (compEnvC scope cl H3.objs.size X.env))
        (compPost (model X.prog X.w) X.A X.xe none (EP X pins σ Q) (.ref s2.heap.objs.size) H3.objs.size) s5:=by
    rintro s5 rfl;refine aO0 (hs2 _) (λn s' => ∃ i σ' H',Inv (X.block scope cl H3.objs.size Nc s2 H2 fp pins) [] σ' H' s'/\tn i s'.heap/\(∀ b ∈ fp,H' b=none)/\W i n σ' H') ?_ m0 ⟨0,_,_,IB,T.keep _ _ _ st2 λb hb o e=>old b o e,λb hb=>by rw [d4 (fpD b hb)];exact (f2 b hb).1,w0⟩
    rintro n s6 ⟨i,σ6,H6,I6,st6,fr6,w6⟩;rcases turn i n σ6 H6 w6 with ⟨stop,qn⟩ | ⟨go,step⟩
    · refine thn (T.done (X.block scope cl H3.objs.size Nc s2 H2 fp pins) rfl rfl rfl hc i [] s6 σ6 H6 _ I6 (stat fr6) st6 stop) λr s7 zq=>?_
      obtain ⟨hr,I7⟩:=zq;subst hr;obtain ⟨m7,hn7,_⟩:=id I7.loc;exact ⟨m7,hn7,λh' sb=>⟨.ref s2.heap.objs.size,H6,I2.sameC f2 I7.os I7.bare I7.base I7.hok hCs I7.free sb,rfl,qn⟩⟩
    · refine thn (T.item (X.block scope cl H3.objs.size Nc s2 H2 fp pins) rfl rfl rfl hc i [] s6 σ6 H6 _ I6 (stat fr6) st6 go) λr s7 zq=>?_
      obtain ⟨u,hr,h7⟩:=zq;subst hr;refine thn h7 λ_ s8 zq=>?_;obtain ⟨x,H8,I8,r8,y8,st8,fr8⟩:=zq;have I8':=I8.pinned (stat fr8) (T.obj _ _ st8);refine thn (hg _ _ _ _ _ _ s8 σ6 H8 x u _ I8' r8 (step x H8 y8)) λ_ s9 zq=>?_;obtain ⟨σ9,H9,I9,q9⟩:=zq;refine thn (hi2 _ _ _ _ _ _ s9 σ9 H9 _ I9 q9) λv10 s10 h10=>?_;refine thn h10 λit2v s11 h11=>?_;obtain ⟨it2,fp2,tn2,J2,H11,e11,I11,T2,st11,f11,W2,⟨m2,w2⟩,turn2⟩:=h11;subst e11;have stat2:∀ {H':Hp},(∀ b ∈ fp2,H' b=none)->∀ b ∈ fp2,ab0 (X.block scope cl H3.objs.size Nc s2 H2 fp pins) ([] ++ an0 fp s8.heap) H' b:=λhn b hb=>⟨hn b hb,(f11 b hb).2⟩
      have inner : codeAny (model X.prog X.w) X.A (.compLoop (.ListComp elt [⟨tg, iter, [], 0⟩, ⟨tg2, iter2, [], 0⟩] scope pos) 1 (.ref it2) (.ref s2.heap.objs.size) (compEnvC scope cl H3.objs.size X.env)) (fun r s₅ => match r with
            | .ok _ => ∃ m,m<n/\∃ i σ' H',Inv (X.block scope cl H3.objs.size Nc s2 H2 fp pins) [] σ' H' s₅/\tn i s₅.heap/\(∀ b ∈ fp,H' b=none)/\W i m σ' H'
            | .error _=>False) s11:=by
        refine aO1 (λk s' => ∃ j σ' H',Inv (X.block scope cl H3.objs.size Nc s2 H2 fp pins) ([] ++ an0 fp s8.heap) σ' H' s'/\tn2 j s'.heap/\(∀ b ∈ fp2,H' b=none)/\W2 j k σ' H') ?_ m2 ⟨0,_,_,I11,st11,λb hb=>(f11 b hb).1,w2⟩;rintro k s12 ⟨j,σ12,H12,I12,st12,fr12,w12⟩;rcases turn2 j k σ12 H12 w12 with ⟨stop,m',hm',w'⟩ | ⟨go2,step2⟩
        · refine thn (T2.done (X.block scope cl H3.objs.size Nc s2 H2 fp pins) rfl rfl rfl hc j _ s12 σ12 H12 _ I12 (stat2 fr12) st12 stop) λr s13 zq=>?_
          obtain ⟨hr,I13⟩:=zq;subst hr;refine ⟨m',hm',i+1,σ12,H12,I13.unpinned,T.keep _ _ _ st8 λb hb o e=>(I13.pin (b,o) (List.mem_append_right _ (List.mem_append_right _ (k6 hb e)))).1,λb hb=>?_,w'⟩;obtain ⟨o,e,d⟩:=T.obj _ _ st8 b hb;exact (I13.pin (b,o) (List.mem_append_right _ (List.mem_append_right _ (k6 hb e)))).2.1
        · refine thn (T2.item (X.block scope cl H3.objs.size Nc s2 H2 fp pins) rfl rfl rfl hc j _ s12 σ12 H12 _ I12 (stat2 fr12) st12 go2) λr s13 zq=>?_
          obtain ⟨u13,hr,h13⟩:=zq;subst hr;refine thn h13 λ_ s14 zq=>?_;obtain ⟨y,H14,I14,r14,y14,st14,fr14⟩:=zq;have I14':=I14.pinned (stat2 fr14) (T2.obj _ _ st14);refine thn (hg2 _ _ _ _ _ _ s14 σ12 H14 y u13 _ I14' r14 (step2 y H14 y14)) λ_ s15 zq=>?_;obtain ⟨σ15,H15,I15,q15⟩:=zq;refine thn (he _ _ _ _ _ _ s15 σ15 H15 _ I15 q15) λu16 s16 zq=>?_;obtain ⟨v16,H16,I16,r16,ys,hys,hlen,m3,hm3,w3⟩:=zq;refine thn (N4 _ s16 σ15 H16 (.ref s2.heap.objs.size) [v16] (.ref s2.heap.objs.size) [u16] (λ_ H17=>H17=upd H16 s2.heap.objs.size (.lst (ys ++ [v16]))) I16 rfl (.cons r16 .nil) ⟨_,ys,v16,rfl,rfl,hys,hlen,rfl⟩) λ_ s17 zq=>?_;obtain ⟨_,H17,I17,_,hH17⟩:=zq;subst hH17;refine ⟨m3,hm3,j+1,σ15,_,I17.unpinned,T2.keep _ _ _ st14 λb hb o e=>(I17.pin (b,o) (List.mem_append_right _ (List.mem_append_right _ (k6 hb e)))).1,λb hb=>?_,w3⟩;obtain ⟨o,e,d⟩:=T2.obj _ _ st14 b hb;exact (I17.pin (b,o) (List.mem_append_right _ (List.mem_append_right _ (k6 hb e)))).2.1
      exact aK3 inner (T2.self _ 0 _ _ _ st11 inner)
  exact codeAny_compStart_list (loop _ rfl) (T.self _ 0 _ _ _ (T.keep _ _ _ st2 λb hb o e=>old b o e) (loop _ rfl))
end
end L2
set_option maxRecDepth 100000
namespace R
theorem Y2 {f:Nat->Rat}:∀ n,(∀ i,i<n->f i=0)->j4 f n=0
 | 0,_=>rfl
 | n+1,h=>by
  rw [j4,Y2 n (λi hi=>h i ⋯),h n ⋯]
  grind
open PySem L2 PyProof.Rows
structure ClN (W:Nat) (qs:List Rat):Prop where
 l:E7 qs<2 ^ W
 w:∀ v ∈ N9 (E7 qs) qs,v0e v<2 ^ W
theorem ClN.den {W:Nat} {qs:List Rat} (h:ClN W qs) {q:Rat} (hq:q ∈ qs):q.den<2 ^ W:=q0s (g0f (Q6 qs) (ae0 hq)) h.l
theorem ClN.num {W:Nat} {qs:List Rat} (h:ClN W qs) {q:Rat} (hq:q ∈ qs):q.num.natAbs<2 ^ W:=by
 have h1:=h.w _ (j0q.mpr ⟨q,hq,rfl⟩);obtain ⟨e,he⟩:=ae0 hq;have hp:=Q6 qs;have h0:(q.den:Int) ≠ 0:=by have:=q.den_nz;omega
 have e1:(E7 qs:Int).fdiv (q.den:Int)=(e:Int):=by
  rw [he,j0m];exact k8 h0
 rw [e1,z0j,q0y] at h1;refine q0s (g0v _ ?_) h1;rcases g0c e with z | z
 ·rw [z] at he;omega
 ·exact z
theorem ClN.bdN {W:Nat} {qs:List Rat} (h:ClN W qs) {q:Rat} (hq:q ∈ qs):BdN W q:=⟨h.num hq,h.den hq⟩
theorem ClN.take {W:Nat} {qs:List Rat} (h:ClN W qs) (i:Nat):E7 (qs.take i)<2 ^ W :=
 q0s (g0f (Q6 qs) (aI7 λq hq=>ae0 (u0t hq))) h.l
theorem al4 (v:Int) (L:Nat):z0b 1 L*(v:Rat)=z0b v L:=by
 have h1:=z0h (v:Rat);rw [Rat.num_intCast,Rat.den_intCast] at h1
 conv=>lhs;rw [<- h1]
 rw [y0s]
 simp
theorem av5 (v:Int) {L:Nat} (h:0<L):(z0b v L).den ∣ L:=by
 have hL:(L:Int) ≠ 0:=⋯;obtain ⟨_,e2⟩:=ao2 (t:=v) (b:=(L:Int)) (g:=(q0w v L:Int)) hL (by rw [if_neg ⋯])
 obtain ⟨k,hk⟩:=j0x v (L:Int);have hg:=G9 (t:=v) hL
 have e3:(L:Int).fdiv (q0w v L:Int)=k:=by
  conv=>lhs;arg 1;rw [hk]
  exact k8 ⋯
 rw [e3] at e2;have:((z0b v L).den:Int) ∣ (L:Int):=⟨_,by rw [u0r,<- e2];exact hk⟩
 exact g0w.mp this
theorem aF8 (v:Int) {L:Nat} (h:0<L):(z0b v L).num*L=v*((z0b v L).den:Int):=by
 have hL:(L:Int) ≠ 0:=⋯;have hd:((z0b v L).den:Int) ≠ 0:=by have:=(z0b v L).den_nz;omega
 exact (y0g hd hL).mp (z0h _)
theorem aU1 {L W:Nat} {vs:List Int} (hL0:0<L) (hL:L<2 ^ W) (hv:∀ v ∈ vs,v0e v<2 ^ W):ClN W (scl (z0b 1 L) vs):=by
 have hd:E7 (scl (z0b 1 L) vs) ∣ L:=aI7 λq hq=>by
  obtain ⟨v,_,rfl⟩:=j0q.mp hq;rw [al4];exact av5 v hL0
 have hle:=g0f hL0 hd;refine ⟨q0s hle hL,λu hu=>?_⟩;obtain ⟨q,hq,rfl⟩:=j0q.mp hu;obtain ⟨e,he⟩:=ae0 hq;have h0:(q.den:Int) ≠ 0:=by have:=q.den_nz;omega
 have e1:(E7 (scl (z0b 1 L) vs):Int).fdiv (q.den:Int)=(e:Int):=by
  rw [he,j0m];exact k8 h0
 obtain ⟨v,hvm,hvq⟩:=j0q.mp hq;rw [al4] at hvq;have hc:=aF8 v hL0;rw [hvq] at hc
 have hc':q.num.natAbs*L=v.natAbs*q.den:=by
  have:=congrArg v0e hc
  rwa [z0j,z0j,q0y,q0y] at this
 rw [e1,z0j,q0y];refine q0s ?_ (hv v hvm)
 have h2:(q.num.natAbs*e)*L<=v.natAbs*L:=by
  calc (q.num.natAbs*e)*L=(q.num.natAbs*L)*e:=by rw [Nat.mul_right_comm]
   _=v.natAbs*(q.den*e):=by rw [hc',m0t]
   _<=v.natAbs*L:=y0m _ (by rw [<- he];exact hle)
 exact Nat.le_of_mul_le_mul_right h2 hL0
theorem bc8 (qs:List Rat):scl (z0b 1 (E7 qs)) (N9 (E7 qs) qs)=qs:=by
 unfold scl N9;rw [List.map_map]
 conv=>rhs;rw [<- List.map_id qs]
 refine List.map_congr_left λq hq=>?_
 show z0b 1 (E7 qs)*((q.num*(E7 qs:Int).fdiv (q.den:Int):Int):Rat)=q;rw [al4];exact (aG3 (Q6 qs) (ae0 hq)).symm
open PySem L2 PyProof.Rows
structure bn6 (H:Hp) (p:Addr) (qs:List Rat):Prop where
 ex:∃ xs,H p=some (.lst xs)/\v9 H xs qs
 bd:∀ q ∈ qs,q.den<2 ^ 6000
 len:qs.length<900
 tl:P3 qs qs.length
inductive bc0 (H:Hp):List Addr->List (List Rat)->Prop where
 | nil:bc0 H [] []
 | cons {p:Addr} {ps:List Addr} {L:List Rat} {Ls:List (List Rat)} (h:bn6 H p L) (t:bc0 H ps Ls):bc0 H (p :: ps) (L :: Ls)
theorem aN3:∀ Ls:List (List Rat),K9 (Ls.map A9) (Ls.map A9)=true
 | []=>by simp [K9]
 | L :: Ls=>by rw [j0d,K9,L9,aN3 Ls];simp
theorem av4:∀ Ls:List (List Rat),af5 (Ls.map A9)<=2
 | []=>by simp [af5]
 | L :: Ls=>by
  have h1:=U7 L;have h2:=av4 Ls;rw [j0d,af5];omega
theorem F2 {ts:List Addr} {i:Nat} {x:V} (h:(ts.map V.ref)[i]? = some x):∃ p,ts[i]? = some p/\x=.ref p:=by
 rw [z0c] at h
 cases hw:ts[i]? with
 | none=>rw [hw] at h;cases h
 | some v=>rw [hw] at h;cases h;exact ⟨v,rfl,rfl⟩
theorem aq0:∀ Ls Ms:List (List Rat),K9 (Ls.map A9) (Ms.map A9)=decide (Ls=Ms)
 | [],[]=>by simp [K9]
 | [],_ :: _=>by simp [K9]
 | _ :: _,[]=>by simp [K9]
 | p :: ps,q :: qs=>by
  rw [j0d,j0d,K9,L9,aq0 ps qs]
  by_cases h1:p=q <;> by_cases h2:ps=qs <;> simp [h1,h2]
theorem ap4:∀ Ls Ms:List (List Rat),ab7 (Ls.map A9) (Ms.map A9)=true
 | [],[]=>by simp [ab7]
 | [],_ :: _=>by simp [ab7]
 | _ :: _,[]=>by simp [ab7]
 | p :: ps,q :: qs=>by rw [j0d,j0d,ab7,O7,ap4 ps qs];rfl
def N7 (Ls:List (List Rat)):D:=.lst (Ls.map A9)
theorem ag9 (Ls Ms:List (List Rat)):eqD (N7 Ls) (N7 Ms)=decide (Ls=Ms):=by unfold N7;rw [eqD,aq0]
theorem ag8 (Ls Ms:List (List Rat)):okD (N7 Ls) (N7 Ms)=true:=by unfold N7;rw [okD,ap4]
theorem am2 (Ls:List (List Rat)):dpD (N7 Ls)<=60:=by unfold N7;rw [dpD];have:=av4 Ls;omega
end R
set_option maxRecDepth 100000
namespace L2
open PySem PySem.Spec PyProof.Rows
theorem an7 {h:Heap} {a:Addr} {m:Str->Option Value} {o:Obj} (n:h.Ns a m) (e:h.get? a=some o) (v:Option Value) (z:o.data=.cell v):False:=by
 obtain ⟨o',es,ep,e',r⟩:=n;rw [e] at e'
 cases e'
 have d:=r.1;rw [d] at z;cases z
section
variable {X:Cx}
theorem ad2 {elt tg iter:Expr} {scope:Scope} {pos spos py:Pos} {y:Str} {i₀:Nat} {cl:List (Str × Addr)} {Nc:List Str} {caps:List (Option Nat)} {wi:TI} {g:TG} {te:TE} (hN:X.N.Nodup) (hi₀:X.N[i₀]? = some y) (hx:Loc X.env.scope y) (hc:X.calm=true) (cp:G3 X scope cl Nc caps) (hi:PI X tg iter wi)
  (hg:∀ C s₂ H₂ fp pins,PG (X.block scope cl C Nc s₂ H₂ fp pins) tg g) (he:∀ C s₂ H₂ fp pins,PE (X.block scope cl C Nc s₂ H₂ fp pins) elt te) (hs:∀ x,foldedSetIterable iter X.env x=pure x:=by intro _;rfl) (hsw:swapsWith (.ListComp elt [⟨tg,iter,[],0⟩] scope pos) (some (.Name y py)) spos.line X.env=pure true:=by rfl)
  (hf:X.fn y=true \/ X.env.scope.names.lookup y=some .local:=by first | exact .inl rfl | exact .inr rfl | assumption) :
  PS X (.Assign [.Name y py] (.ListComp elt [⟨tg,iter,[],0⟩] scope pos) spos) (aL2 (aG8 wi caps g te) (l9 i₀)):=by
 intro pins s σ H DD I h;rw [exec_Assign_Name_used _ _ _ _ hsw];refine wpAny_bind (wpAny_standAt (wpAny_bind ?_))
 show wpAny _ X.A (do let _ <- comprehension (.ListComp elt [⟨tg,iter,[],0⟩] scope pos) scope X.env _ (newList []) false (eval iter X.env) (some (assign (.Name y py) X.env))) _ _ s
 refine wpAny_bind (wpAny_mono (wpAny_comprehension_free (use:=some (assign (.Name y py) X.env)) (Q:=λ_ s'=>SP X pins DD .next s') rfl hs cp.clos cp.kind cp.names ?_) (λ_ s' hq=>wpAny_pure (wpAny_pure hq)) λ_ _ e=>e);refine thn (hi pins s σ H _ I h) λv s1 h1=>thn h1 λitv s2 h2=>?_;obtain ⟨it,fp,tn,J,H2,e,I2,T,st2,f2,hW⟩:=h2;subst e;refine wpAny_newObj_type ?_ (by show 0<=sizeLine;exact z0n _)
 refine wpAny_newFunctionEnv cp.nocell (by intro y hy;simp at hy) (λh4 hns hsb=>?_) cp.kind
 dsimp only at hns hsb ⊢
 generalize hH3:s2.heap.push { cls:=.type "list",dict:=none,data:=.seq ([]:List Value).toArray }=H3 at hns hsb ⊢
 have hCe:H3.objs.size=s2.heap.objs.size+1:=by rw [<- hH3,z0m]
 have M1:∀ b o,s2.heap.get? b=some o->b ≠ H3.objs.size:=λb o e=>by rw [hCe];exact q0m (y0v (q0c e))
 have old:∀ b o,s2.heap.get? b=some o->h4.get? b=some o:=λb o e=>hsb.extBut b o (M1 b o e) (q0e _ (hH3 ▸ q0e _ e))
 have hD:h4.get? s2.heap.objs.size=some { cls:=.type "list",dict:=none,data:=.seq ([]:List Value).toArray } :=
  hsb.extBut _ _ (by rw [hCe];exact q0m (j0f _)) (q0e _ (hH3 ▸ z0a _ rfl))
 have hDn:H2 s2.heap.objs.size=none:=I2.fresh;have hCn:H2 H3.objs.size=none:=I2.hok.fresh (by rw [hCe];exact j0k _)
 have hCs:s2.heap.objs.size<=H3.objs.size:=by rw [hCe];exact j0k _
 have hDC:s2.heap.objs.size ≠ H3.objs.size:=by rw [hCe];exact q0m (j0f _)
 have fpl:∀ b ∈ fp,∃ o,s2.heap.get? b=some o:=λb hb=>let ⟨o,e,_⟩:=T.obj _ _ st2 b hb;⟨o,e⟩;have fpC:∀ b ∈ fp,b ≠ H3.objs.size:=λb hb=>let ⟨o,e⟩:=fpl b hb;M1 b o e;have fpD:∀ b ∈ fp,b ≠ s2.heap.objs.size:=λb hb=>let ⟨o,e⟩:=fpl b hb;q0m (q0c e);have stkN:∀ b,b ≠ X.env.locals->b ∉ X.fs->b ∉ frs X.stack:=λb h1 h2 z=>(z0d.mp (I2.stkSub b z)).elim h1 h2;obtain ⟨W,⟨m0,w0⟩,turn⟩:=hW s2.heap.objs.size hDn
 have okB:(X.block scope cl H3.objs.size Nc s2 H2 fp pins).Ok:=by
  refine ⟨I2.ok.mod,?_,I2.ok.glob,I2.ok.blt,hCs,λx y c h1 h2=>I2.ok.inj x y c (cp.sub x c h1) (cp.sub y c h2),λx hx=>cp.has x hx,λx c h=>(by cases h),I2.ok.hd,I2.ok.frames,.inl rfl,λb hb=>⟨fpC b hb,λx c h=>(f2 b hb).2.2.2.2.1 x c (cp.sub x c h)⟩,I2.bs,q0q I2.ok.bsz I2.sz,λb o e hb=>?_,λb hb=>stkN b (f2 b hb).2.1 (f2 b hb).2.2.1,I2.stack,I2.stkFree⟩
  ·exact cp.kind
  ·rcases (f2 b hb).2.2.2.1 with z | z
   ·exact I2.ok.noex b o e z
   ·exact absurd (q0b (q0c e) (q0q I2.ok.bsz z)) (j0p _)
 have hokB:HOk X.prog X.w (upd H2 s2.heap.objs.size (.lst [])) h4:=I2.hok.laid old (q0h _) ⟨z0n _,[],_,.nil,hD⟩
 have IB:Inv (X.block scope cl H3.objs.size Nc s2 H2 fp pins) [] (C6 caps σ) (upd H2 s2.heap.objs.size (.lst [])) { s2 with heap:=h4,toks:=s2.toks+([]:List (Str × Value)).length }:=by
  refine ⟨okB,rfl,I2.bare,Un.laid old (q0h _) hDn,⟨_,hns,λi x v e1 e2 e3=>?_⟩,λx c e=>?_,(show upd H2 s2.heap.objs.size (.lst []) H3.objs.size=none by rw [d4 (Ne.symm hDC)];exact hCn),λx c e=>?_,λp hp=>?_,hokB,?_⟩
  ·unfold C6 at e2
   rw [z0c] at e2
   cases hcap:caps[i]? with
   | none=>rw [hcap] at e2;cases e2
   | some o =>
    rw [hcap] at e2
    cases o with
    | none=>cases e2
    | some j =>
     have hj:σ[j]? = some (some v):=by
      have e2':(σ[j]?).join=some v:=Option.some.inj e2
      cases q:σ[j]? with
      | none=>rw [q] at e2';cases e2'
      | some z=>rw [q] at e2';exact congrArg some e2'
     obtain ⟨n1,n2,n3,n4⟩:=cp.cap i j x hcap e1;obtain ⟨m,hm,hl⟩:=I2.loc;obtain ⟨u,r,q⟩:=hl j x v n1 hj n2;rcases q with ⟨k,_⟩ | ⟨k,c,ec,z⟩
     ·exact absurd k n3
     ·obtain ⟨c',ec'⟩:=cp.has x n4
      have:=cp.sub x c' ec';rw [ec] at this;cases this;obtain ⟨oc,ho,hd⟩:=z;exact ⟨u,r,.inr ⟨n4,c,ec',oc,old _ _ ho,hd⟩⟩
  ·obtain ⟨v,oc,ho,hd⟩:=I2.cell x c (cp.sub x c e)
   exact ⟨v,oc,old _ _ ho,hd⟩
  ·obtain ⟨v,oc,ho,hd⟩:=I2.cell x c (cp.sub x c e)
   rw [d4 (q0m (q0c ho))];exact I2.freeC x c (cp.sub x c e)
  ·have hp':p ∈ X.pn ++ pins:=by simpa using hp
   obtain ⟨e1,e2,e3,e4,e5⟩:=I2.pin p hp';exact ⟨old _ _ e1,by rw [d4 (q0m (q0c e1))];exact e2,M1 _ _ e1,stkN _ e3 e4,e5⟩
  ·show (C6 caps σ).length=Nc.length
   unfold C6;rw [q0g];exact cp.len
 have stat:∀ {H':Hp},(∀ b ∈ fp,H' b=none)->∀ b ∈ fp,ab0 (X.block scope cl H3.objs.size Nc s2 H2 fp pins) [] H' b:=λhn b hb =>
  ⟨hn b hb,fpC b hb,stkN b (f2 b hb).2.1 (f2 b hb).2.2.1,.inl hb,λx c h=>(f2 b hb).2.2.2.2.1 x c (cp.sub x c h),λp hp=>(f2 b hb).2.2.2.2.2 p (by simpa using hp)⟩
 have loop:∀ s5:Shared,s5={ s2 with heap:=h4,toks:=s2.toks+([]:List (Str × Value)).length } ->
   codeAny (model X.prog X.w) X.A (.compLoop (.ListComp elt [⟨tg,iter,[],0⟩] scope pos) 0 (.ref it) (.ref s2.heap.objs.size) (compEnvC scope cl H3.objs.size X.env))
    (compPost (model X.prog X.w) X.A X.xe (some (assign (.Name y py) X.env)) (λ_ s'=>SP X pins DD .next s') (.ref s2.heap.objs.size) H3.objs.size) s5:=by
  rintro s5 rfl;refine ah1 (λn s' => ∃ i σ' H',Inv (X.block scope cl H3.objs.size Nc s2 H2 fp pins) [] σ' H' s'/\tn i s'.heap/\(∀ b ∈ fp,H' b=none)/\W i n σ' H') ?_ m0 ⟨0,_,_,IB,T.keep _ _ _ st2 λb hb o e=>old b o e,λb hb=>by rw [d4 (fpD b hb)];exact (f2 b hb).1,w0⟩
  rintro n s6 ⟨i,σ6,H6,I6,st6,fr6,w6⟩;rcases turn i n σ6 H6 w6 with ⟨stop,qn⟩ | ⟨go,step⟩
  ·refine thn (T.done (X.block scope cl H3.objs.size Nc s2 H2 fp pins) rfl rfl rfl hc i [] s6 σ6 H6 _ I6 (stat fr6) st6 stop) λr s7 zq=>?_
   obtain ⟨hr,I7⟩:=zq;subst hr;obtain ⟨m7,hn7,_⟩:=id I7.loc;have Io:Inv X pins σ H6 s7:=I2.sameC (h'':=s7.heap) f2 I7.os I7.bare I7.base I7.hok hCs I7.free ⟨rfl,λ_ _=>rfl⟩;have fC:ab0 X pins H6 H3.objs.size:=I2.fpOk hCs I7.free;have fC':∀ b ∈ [H3.objs.size],ab0 X pins H6 b:=λb hb=>by rw [q0u.mp hb];exact fC
   obtain ⟨oC,esC,epC,hoC,restC⟩:=id hn7
   have obC:∀ b ∈ [H3.objs.size],∃ o,s7.heap.get? b=some o/\∀ v,o.data ≠ .cell v:=λb hb=>by
    rw [q0u.mp hb];exact ⟨oC,hoC,λv z=>an7 hn7 hoC v z⟩
   have Ip:=Io.pinned fC' obC
   show wpAny (model X.prog X.w) X.A (assign (.Name y py) X.env (.ref s2.heap.objs.size)) _ _ s7;refine thn (c9 (pos:=py) hN hi₀ hx hf _ s7 σ H6 (.ref s2.heap.objs.size) (.ref s2.heap.objs.size) DD.nx Ip rfl qn) λ_ s9 zq=>?_;obtain ⟨σ9,H9,I9,q9⟩:=zq;have keepC:=(I9.pin (H3.objs.size,oC) (q0d _ (q0d _ (k6 (by simp) hoC)))).1
   have H9C:=(I9.pin (H3.objs.size,oC) (q0d _ (q0d _ (k6 (by simp) hoC)))).2.1
   refine ⟨m7,hn7.at' λo e=>by rw [hoC] at e;cases e;exact keepC,λh' sb=>?_⟩
   obtain ⟨_,g1,g2,g3,g4,g5⟩:=fC;exact ⟨σ9,H9,I9.unpinned.turned (t':=s9.toks) (λb o hb e=>(sb.2 b hb).trans e) H9C g1 g3 g4 g5,q9⟩
  ·refine thn (T.item (X.block scope cl H3.objs.size Nc s2 H2 fp pins) rfl rfl rfl hc i [] s6 σ6 H6 _ I6 (stat fr6) st6 go) λr s7 zq=>?_
   obtain ⟨u,hr,h7⟩:=zq;subst hr;refine thn h7 λ_ s8 zq=>?_;obtain ⟨x,H8,I8,r8,y8,st8,fr8⟩:=zq;have I8':=I8.pinned (stat fr8) (T.obj _ _ st8);refine thn (hg _ _ _ _ _ _ s8 σ6 H8 x u _ I8' r8 (step x H8 y8)) λ_ s9 zq=>?_;obtain ⟨σ9,H9,I9,q9⟩:=zq;refine thn (he _ _ _ _ _ _ s9 σ9 H9 _ I9 q9) λu10 s10 zq=>?_;obtain ⟨v10,H10,I10,r10,ys,hys,hlen,m',hm',w'⟩:=zq;refine thn (N4 _ s10 σ9 H10 (.ref s2.heap.objs.size) [v10] (.ref s2.heap.objs.size) [u10] (λ_ H11=>H11=upd H10 s2.heap.objs.size (.lst (ys ++ [v10]))) I10 rfl (.cons r10 .nil) ⟨_,ys,v10,rfl,rfl,hys,hlen,rfl⟩) λ_ s11 zq=>?_;obtain ⟨_,H11,I11,_,hH11⟩:=zq;subst hH11;refine ⟨m',hm',i+1,σ9,_,I11.unpinned,T.keep _ _ _ st8 λb hb o e=>(I11.pin (b,o) (q0d _ (q0d _ (k6 hb e)))).1,λb hb=>?_,w'⟩;obtain ⟨o,e,d⟩:=T.obj _ _ st8 b hb;exact (I11.pin (b,o) (q0d _ (q0d _ (k6 hb e)))).2.1
 exact codeAny_compStart_list (loop _ rfl) (T.self _ 0 _ _ _ (T.keep _ _ _ st2 λb hb o e=>old b o e) (loop _ rfl))
def Itv (K:q0a) (a:Addr) (n:Nat):It :=
 ⟨λi H=>i<n/\∃ xs x,SqL K H a xs/\xs[n-1-i]? = some x,λi H x H'=>H'=H/\∀ xs,SqL K H a xs->xs[n-1-i]? = some x,λi H=>i=n⟩
theorem aV0 {P:Program} {w:World} {K:q0a} {tg:Expr} (a it:Addr) (n:Nat):aO2 P w K tg (Itv K a n) [it] it (λi h=>h.IsRevIter it a ((n:Int)-1-(i:Int))) where
 mem:=by simp
 obj:=λi h st b hb=>by
  have e:b=it:=by simpa using hb
  subst e;obtain ⟨o,e,c,d⟩:=st;exact ⟨o,e,λv z=>by rw [d] at z;cases z⟩
 keep:=λi h h' st k=>st.at λo e=>k it (by simp) o e
 item:=by
  intro X hP hw hK hc i pins s σ H E I hf st hg;subst hP hw hK;obtain ⟨hi,xs,x,hq,hx⟩:=hg;obtain ⟨its,rv,p,hz⟩:=I.list hq;obtain ⟨u,hu,ru⟩:=rv.get hx;obtain ⟨f0,f1,f2,f3,f4,f5⟩:=hf it (by simp)
  have e:(n:Int)-1-(i:Int)=((n-1-i:Nat):Int):=⋯;rw [e] at st;refine wpAny_pyNext_rev_item st p.isList (x:=u) (by simpa using hu) λh' st' sb=>?_
  have I1:Inv X pins σ H { s with heap:=h' }:=I.turned (t':=s.toks) (λb o hb e=>(sb.2 b hb).trans e) f0 f1 f3 f4 f5;have e2:((n-1-i:Nat):Int)-1=(n:Int)-1-((i+1:Nat):Int):=⋯;rw [e2] at st';obtain ⟨o,e,c,d⟩:=id st';exact ⟨u,rfl,ba0 (s:={ s with heap:=h' }) e c d (by decide) ⟨x,H,I1,ru,⟨rfl,λys hy=>by rw [I.list_inj hy hq];exact hx⟩,st',λb hb=>(hf b hb).1⟩⟩
 done:=by
  intro X hP hw hK hc i pins s σ H E I hf st hg;subst hP hw hK;have e:i=n:=hg;subst e;have e:(i:Int)-1-(i:Int)=-1:=⋯;rw [e] at st;obtain ⟨f0,f1,f2,f3,f4,f5⟩:=hf it (by simp)
  exact wpAny_pyNext_rev_end (I.ok.hd hc) st λh' eb=>⟨rfl,I.turned (t':=s.toks) (λb o hb e=>eb b o hb e) f0 f1 f3 f4 f5⟩
 self:=λ_ _ _ _ _ st h=>wpAny_pyIter_revIter st h
def bl8 (K:q0a) (ta:TA):TI:=λσ H R=>ta σ H λvs H1 => ∃ a xs,vs=[.ref a]/\SqL K H1 a xs/\R (Itv K a xs.length) H1
theorem bk1 {tg l:Expr} {ta:TA} {p pos:Pos} (hg:Gl X "reversed") (hm:X.mg "reversed" = none) (ha:PA X [l] ta) (hs:starEach [l] X.env=[(false,eval l X.env)]:=by rfl) :
  PI X tg (.Call (.Name "reversed" p) [l] [] pos) (bl8 X.K ta):=by
 intro pins s σ H R I h;refine Call_ (ad7 I hg hm (u:=.type "reversed") (by decide +kernel) (PyProof.Rows.callWith_type1 (thn (ha pos pins s σ H _ I h) λus s1 ⟨vs,H1,I1,r1,q1⟩=>?_) hs rfl))
 obtain ⟨a,xs,e,hq,q⟩:=q1;subst e;obtain ⟨u,rfl,rx⟩:=ah9 r1
 cases rx
 obtain ⟨its,rv,p,hz⟩:=I1.list hq;refine call_reversed_list p.isList ?_;have hl:=rv.length;have e:((its.toArray.size:Nat):Int)-1=(xs.length:Int)-1-((0:Nat):Int):=by simp;omega
 rw [e];have I2:Inv X pins σ H1 { s1 with heap:=s1.heap.push (revObj a ((xs.length:Int)-1-((0:Nat):Int))) }:=I1.kept (t':=s1.toks) λb o e=>q0e _ e;refine wpAny_pyIter_revIter (it:=s1.heap.objs.size) (l:=a) (i:=(xs.length:Int)-1-((0:Nat):Int)) ⟨_,z0a _ rfl,rfl,rfl⟩ ?_;refine ⟨s1.heap.objs.size,[s1.heap.objs.size],_,_,H1,rfl,I2,aV0 a _ xs.length,⟨_,z0a _ rfl,rfl,rfl⟩,λb hb=>?_,q⟩;have e:b=s1.heap.objs.size:=by simpa using hb
 subst e;exact I1.fpOk (q0h _) (I1.hok.fresh (q0h _))
def ipM (c:Int->Int->Prop) (f:Int->Int->Int):TIp:=λx y H Q => ∃ i j,x=.int i/\y=.int j/\c i j/\Q (.int (f i j)) H
theorem bl7:PIp X .Mult (ipM IntMulOk λi j=>i*j):=by
 intro pins s σ H x y v u Q I r1 r2 h;obtain ⟨i,j,e1,e2,hc,q⟩:=h;subst e1;subst e2;obtain ⟨t,rfl⟩:=r1;obtain ⟨t',rfl⟩:=r2;exact imul_int ⟨.int _,H,I.tok _,⟨_,rfl⟩,q⟩ hc
end
theorem bf4 {K:q0a} {a:Addr} {xs:List V} {g:TG} {tb:TS} {D:ak1} {σ:St} {H:Hp} (Pv:Nat->St->Hp->Prop) (h0:Pv 0 σ H) (hl:∀ i σ H,i<=xs.length->Pv i σ H->SqL K H a xs)
  (hs:∀ i x σ H,i<xs.length->xs[xs.length-1-i]? = some x->Pv i σ H->g x σ H λσ2 H2=>tb { D with nx:=Pv (i+1),ct:=Pv (i+1),bk:=D.nx } σ2 H2) (hd:∀ σ H,Pv xs.length σ H->D.nx σ H) :
  ∃ W:Nat->Nat->St->Hp->Prop,(∃ m,W 0 m σ H)/\∀ i m σ H,W i m σ H ->
   ((Itv K a xs.length).stop i H/\D.nx σ H) \/ ((Itv K a xs.length).go i H/\∃ N:St->Hp->Prop,(∀ σ' H',N σ' H'->∃ m',m'<m/\W (i+1) m' σ' H')/\∀ x H',(Itv K a xs.length).yld i H x H'->g x σ H' λσ2 H2=>tb { D with nx:=N,ct:=N,bk:=D.nx } σ2 H2):=by
 refine ⟨λi m σ H=>m=xs.length-i/\i<=xs.length/\Pv i σ H,⟨xs.length,by simp,z0n _,h0⟩,?_⟩
 rintro i m σ H ⟨rfl,hi,p⟩;have q:=hl i σ H hi p
 by_cases hlt:i<xs.length
 ·refine .inr ⟨⟨hlt,xs,xs[xs.length-1-i],q,q0j ⋯⟩,Pv (i+1),λσ' H' p'=>⟨xs.length-(i+1),⋯,rfl,hlt,p'⟩,λx H' y=>?_⟩
  obtain ⟨e,y⟩:=y;subst e;exact hs i x σ _ hlt (y xs q) p
 ·have e:i=xs.length:=⋯
  subst e;exact .inl ⟨rfl,hd σ H p⟩
end L2
set_option maxRecDepth 100000
namespace R
open PySem L2 PyProof.Rows
theorem bb5 (xs:List V) {n:Nat} (h:n<=xs.length):af7 xs (some (n:Int)) none=xs.drop n:=by
 unfold af7
 have e1:HT.sIx xs.length 0 (some (n:Int))=n:=by
  simp only [HT.sIx];rw [if_neg ⋯];omega
 have e2:HT.sIx xs.length xs.length none=xs.length:=rfl;rw [e1,e2,u0e (by rw [v0m];omega)]
theorem d6 {α:Type} {l:List α} {i:Nat} {x:α} (h:l[i]? = some x):l.take (i+1)=l.take i ++ [x]:=by rw [u0z,h];rfl
theorem ai7 {qs:List Rat} (h:∀ x,qs[qs.length-1]? = some x->x ≠ 0):P3 qs qs.length :=
 ⟨q0h _,λi q hi e=>(by rw [z0x hi] at e;cases e),λ_ q e=>h q e⟩
theorem aY4 (r:Rat):t4 (-r)=[.int (0-r.num),.int (r.den:Int)]:=by
 unfold t4;rw [u0f,m0y];rfl
theorem j9.seq {K:q0a} {u:Addr} {H H':Hp} {b:Addr} {xs:List V} (s:j9 u H H') (hu:H u=none) (h:SqL K H b xs):SqL K H' b xs:=by
 rcases h with h | h
 ·rcases h with h | ⟨o,h⟩
  ·exact .inl (.inl (s _ _ h (d5 h hu)))
  ·exact .inl (.inr ⟨o,s _ _ h (d5 h hu)⟩)
 ·exact .inr h
theorem aB6 {qs:List Rat} {q:Rat} (h:q ≠ 0):P3 (qs ++ [q]) (qs ++ [q]).length:=by
 refine ⟨q0h _,λi p hi e=>?_,λ_ p e=>?_⟩
 ·rw [z0x hi] at e;cases e
 ·rw [j0a,j0u,g0d,v0p (q0h _)] at e
  simp at e
  rw [<- e];exact h
def aP0 (K:q0a):Sp:=λvs H Q _ => ∃ (a:Addr) (ns:List Int),vs=[.ref a]/\SqL K H a (ns.map V.int)/\ns.length<=63/\∀ H',Q (.bl true) H'
structure ExT (K:q0a) (mg:Str->Option Value) (x:Str) (C:Addr):Prop where
 m:mg x=some (.ref C)
 ox:bh0 K C [.type "ValueError",.type "Exception",.type "BaseException",.type "object"] "ValueError.__new__"
 ec:aw0 K C
structure CAd where
 c_NoFraction:Addr
 c_NoPolynomial:Addr
 c_NoStretch:Addr
 c_NoRow:Addr
 c_NoPair:Addr
 c_NoBack:Addr
 c_NoForm:Addr
 c_NoParts:Addr
 c_NoDegree:Addr
 c_NoSteps:Addr
 c_NoBox:Addr
 c_NoGain:Addr
 c_NoText:Addr
 c_NoLine:Addr
 c_NoName:Addr
 c_NoDeed:Addr
 c_RestError:Addr
structure XTx (K:q0a) (mg:Str->Option Value) (a:CAd):Prop where
 x_NoFraction:ExT K mg "NoFraction" a.c_NoFraction
 x_NoPolynomial:ExT K mg "NoPolynomial" a.c_NoPolynomial
 x_NoStretch:ExT K mg "NoStretch" a.c_NoStretch
 x_NoRow:ExT K mg "NoRow" a.c_NoRow
 x_NoPair:ExT K mg "NoPair" a.c_NoPair
 x_NoBack:ExT K mg "NoBack" a.c_NoBack
 x_NoForm:ExT K mg "NoForm" a.c_NoForm
 x_NoParts:ExT K mg "NoParts" a.c_NoParts
 x_NoDegree:ExT K mg "NoDegree" a.c_NoDegree
 x_NoSteps:ExT K mg "NoSteps" a.c_NoSteps
 x_NoBox:ExT K mg "NoBox" a.c_NoBox
 x_NoGain:ExT K mg "NoGain" a.c_NoGain
 x_NoText:ExT K mg "NoText" a.c_NoText
 x_NoLine:ExT K mg "NoLine" a.c_NoLine
 x_NoName:ExT K mg "NoName" a.c_NoName
 x_NoDeed:ExT K mg "NoDeed" a.c_NoDeed
structure bn9 (K:q0a) (a:CAd) (C:Addr) (j:Nat):Prop where
 k_NoFraction:z0e K (.ref C) (.ref a.c_NoFraction)=some (decide (j=0))
 k_NoPolynomial:z0e K (.ref C) (.ref a.c_NoPolynomial)=some (decide (j=1))
 k_NoStretch:z0e K (.ref C) (.ref a.c_NoStretch)=some (decide (j=2))
 k_NoRow:z0e K (.ref C) (.ref a.c_NoRow)=some (decide (j=3))
 k_NoPair:z0e K (.ref C) (.ref a.c_NoPair)=some (decide (j=4))
 k_NoBack:z0e K (.ref C) (.ref a.c_NoBack)=some (decide (j=5))
 k_NoForm:z0e K (.ref C) (.ref a.c_NoForm)=some (decide (j=6))
 k_NoParts:z0e K (.ref C) (.ref a.c_NoParts)=some (decide (j=7))
 k_NoDegree:z0e K (.ref C) (.ref a.c_NoDegree)=some (decide (j=8))
 k_NoSteps:z0e K (.ref C) (.ref a.c_NoSteps)=some (decide (j=9))
 k_NoBox:z0e K (.ref C) (.ref a.c_NoBox)=some (decide (j=10))
 k_NoGain:z0e K (.ref C) (.ref a.c_NoGain)=some (decide (j=11))
 k_NoText:z0e K (.ref C) (.ref a.c_NoText)=some (decide (j=12))
 k_NoLine:z0e K (.ref C) (.ref a.c_NoLine)=some (decide (j=13))
 k_NoName:z0e K (.ref C) (.ref a.c_NoName)=some (decide (j=14))
 k_NoDeed:z0e K (.ref C) (.ref a.c_NoDeed)=some (decide (j=15))
 kV:z0e K (.ref C) (.type "ValueError")=some true
 ec:aw0 K C
 ex:PySem.W.exmOne K (.ref C) (.ref a.c_RestError)=some true
def aM6 (j:Nat):Str:=[("fraction" : Str),"polynomial","stretch","row","pair","back","form","parts","degree","steps","box","gain","text","line","name","deed"].getD j ""
def aC0 (K:q0a) (a:CAd):Sp:=λvs H Q _ => ∃ e C j,vs=[.ref e]/\bn9 K a C j/\j<16/\H e=some (Exc (.ref C) e)/\∀ H',c5 H H'->Q (.str (aM6 j)) H'
def aG6 (j:Nat):List V:=[V.bl (decide (j=0)),V.bl (decide (j=1)),V.bl (decide (j=2)),V.bl (decide (j=3))] ++ [V.bl (decide (j=4)),V.bl (decide (j=5)),V.bl (decide (j=6)),V.bl (decide (j=7))] ++ [V.bl (decide (j=8)),V.bl (decide (j=9)),V.bl (decide (j=10)),V.bl (decide (j=11))] ++ [V.bl (decide (j=12)),V.bl (decide (j=13)),V.bl (decide (j=14)),V.bl (decide (j=15))]
theorem aK8:∀ j,j<16->(aG6 j).countP (λz=>eqV z (V.bl true))=1:=by decide
theorem aV1:∀ j,j<16->(aG6 j).findIdx? (λz=>eqV z (V.bl true))=some j:=by decide
theorem ax9:∀ j,j<16->(aG6 j).all aa2=true:=by decide
theorem ap3:ag6 "fraction polynomial stretch row pair back form parts degree steps box gain text line name deed" " " = [("fraction" : Str),"polynomial","stretch","row","pair","back","form","parts","degree","steps","box","gain","text","line","name","deed"]:=by decide +kernel
theorem be7 {j:Nat} (hj:j<16):atI ((ag6 "fraction polynomial stretch row pair back form parts degree steps box gain text line name deed" " ").map V.str) (j:Int)=some (.str (aM6 j)):=by
 rw [ap3];refine p7 ?_;have:∀ j,j<16->((["fraction","polynomial","stretch","row","pair","back","form","parts","degree","steps","box","gain","text","line","name","deed"]:List Str).map V.str)[j]? = some (.str (aM6 j)):=by decide
 exact this j hj
theorem aJ0 {ws:List Int} {i:Nat} {x:V} (h:(ws.map V.int)[i]? = some x):∃ v,ws[i]? = some v/\x=.int v:=by
 rw [z0c] at h
 cases hw:ws[i]? with
 | none=>rw [hw] at h;cases h
 | some v=>rw [hw] at h;cases h;exact ⟨v,rfl,rfl⟩
end R
namespace L2
open PySem PyProof.Rows
end L2
set_option maxRecDepth 100000
namespace R
open PySem L2 PyProof.Rows
theorem az1 {α:Type}:∀ xs:List α,(z0w xs.length).filterMap (λk=>xs[k]?)=xs
 | []=>by simp
 | x :: r=>by
  rw [j0v,m0e,z0y]
  show x :: _=x :: r
  congr 1
  rw [List.filterMap_map];exact az1 r
theorem aJ5 {α β:Type} {f g:α->Option β}:∀ l:List α,(∀ x ∈ l,f x=g x)->l.filterMap f=l.filterMap g
 | [],_=>rfl
 | a :: l,h=>by
  rw [z0y,z0y,h a q0x,aJ5 l λx hx=>h x (q0r _ hx)]
theorem aW9 (xs:List V):aH8 xs none none (some (-1))=xs.reverse:=by
 unfold aH8
 have e:sliceBounds none none (some (-1)) xs.length=((xs.length:Int)-1,-1,-1):=by
  simp [sliceBounds]
 rw [e];unfold sliceRange;have hn:¬ ((-1:Int) > 0):=by decide
 simp only [hn,if_false]
 have ec:(if (xs.length:Int)-1 > -1 then ((xs.length:Int)-1 - -1 - -1-1) / (- -1) else 0).toNat=xs.reverse.length:=by
  rw [List.length_reverse,show (- -1:Int)=1 from rfl,Int.ediv_one]
  split <;> omega
 rw [ec,List.filterMap_map]
 conv=>rhs;rw [<- az1 xs.reverse]
 refine aJ5 _ λk hk=>?_;have hk':k<xs.length:=by simpa using v0w.mp hk
 show xs[((xs.length:Int)-1 + -1*(k:Int)).toNat]? = xs.reverse[k]?;rw [List.getElem?_reverse hk']
 congr 1
 omega
mutual
def noU:D->Bool
 | .v _=>true
 | .tup ds=>bk9 ds
 | .lst ds=>(ds.length != 3) && bk9 ds
def bk9:List D->Bool
 | []=>true
 | d :: ds=>noU d && bk9 ds
end
end R
set_option maxRecDepth 100000
namespace L2
open PySem PySem.Spec PyProof.Rows
section
variable {X:Cx} {pins:List (Addr × Obj)} {σ:St} {H:Hp} {s:Shared}
theorem Inv.relocalN {h':Heap} {m:Str->Option Value} {t' i:Nat} {n:Str} {v₀:Option Value} (I:Inv X pins σ H s) (hN:X.N.Nodup) (hi:X.N[i]? = some n) (hl:∀ (j:Nat) (x:Str) (v:V),X.N[j]? = some x->σ[j]? = some (some v)->Vis X.env.scope x->∃ u,A5 v u/\br0 X.env s.heap m x u)
  (hn':h'.Ns X.env.locals (λx=>if x=n then v₀ else m x)) (hs:y0q X.env.locals s.heap h'):Inv X pins (σ.set i none) H { s with heap:=h',toks:=t' }:=by
 have cne:=I.cne;refine ⟨I.ok,I.os,I.bare,⟨λb o e n hb hx=>?_,λb o e n hb hx=>?_,I.base.free,λb o e hx=>?_,I.base.tups,I.base.frzs,I.base.tbls⟩,⟨_,hn',λj y v' e1 e2 e3=>?_⟩,λy c e=>?_,I.free,I.freeC,λp hp=>?_,λb ob e=>?_,?_⟩
 ·exact (hs.2 b (q0m (q0b (q0c e) I.ok.above))).trans (I.base.keep b o e n hb hx)
 ·obtain ⟨sl,e1⟩:=I.base.slot b o e n hb hx
  exact ⟨sl,(hs.2 b (q0m (q0b (q0c e) I.ok.above))).trans e1⟩
 ·obtain ⟨o',e1⟩:=I.base.there b o e hx
  exact ⟨o',(hs.2 b (q0m (q0b (q0c e) I.ok.above))).trans e1⟩
 ·by_cases hj:j=i
  ·subst hj
   rw [u0a (by rw [I.len];exact (q0f.mp hi).1)] at e2
   cases e2
  ·rw [u0k (Ne.symm hj)] at e2
   obtain ⟨u,r,q⟩:=hl j y v' e1 e2 e3;refine ⟨u,r,?_⟩
   have hy:y ≠ n:=λz=>by
    subst z;have h1:=q0f.mp e1;have h2:=q0f.mp hi;exact hj ((List.getElem_inj hN).mp (h1.2.trans h2.2.symm))
   rcases q with ⟨k,q⟩ | ⟨k,c,ec,z⟩
   ·exact .inl ⟨k,(if_neg hy).trans q⟩
   ·exact .inr ⟨k,c,ec,z.sameBut hs (cne y c ec)⟩
 ·obtain ⟨w',z⟩:=I.cell y c e
  exact ⟨w',z.sameBut hs (cne y c e)⟩
 ·obtain ⟨e,n,ne,nf,d⟩:=I.pin p hp
  exact ⟨(hs.2 p.1 ne).trans e,n,ne,nf,d⟩
 ·refine (I.hok b ob e).stay (λc w' hc q=>(hs.2 c ?_).trans q) (λ_ q=>q) λ_ _ q=>q
  rintro rfl;rcases hc with rfl | hc
  ·rw [I.free] at e;cases e
  ·rw [I.free] at hc;cases hc
 ·rw [y0f];exact I.len
end
def aV3 (K:q0a) (n C i:Nat) (tb:XK->TS) (th:Addr->TS):TS:=λD σ H =>
 tb (λcls _ H'=>PySem.W.exmOne K cls (.ref C)=some true/\∀ a,H' a=none->th a { nx:=λσ H'=>D.nx (σ.set i none) H',rt:=D.rt } ((q0t n none).set i (some (.ref a))) (upd H' a (Exc cls a))) D σ H
section
variable {X:Cx}
theorem bd4 {body:List Stmt} {x n:Str} {C:Addr} {i:Nat} {b₀:Stmt} {suite:List Stmt} {tb:XK->TS} {th:Addr->TS} {np hpos pos:Pos} {l:List Env} (hst:X.stack=X.env :: l) (hfr:X.env.frame=some X.env.locals)
  (hex0:X.ex=[]) (hN:X.N.Nodup) (hi:X.N[i]? = some n) (hl:X.env.kindOf n=some .local) (hg:Gl X x) (hm:X.mg x=some (.ref C)) 
  (hb:∀ (E:XK) (xe:Value->Shared->Prop) (pn:List (Addr × Obj)),av9 (CXR X.prog X.w) (X.body xe pn) E->PSs (X.body xe pn) body (tb E))
  (hs:∀ a,PSs (X.suite a) (b₀ :: suite) (th a)) (hd:(x == ("__debug__" : Str))=false:=by decide) :
  PS X (.Try body [.ExceptHandler (some (.Name x np)) (some n) (b₀ :: suite) hpos] [] [] pos) (aV3 X.K X.N.length C i tb th):=by
 intro pins s σ H D I h;refine wpAny_Try_except ?_;refine wpAny_mono (hb _ (λe s₁=>wpAny (model X.prog X.w) X.A (noteFrame e X.env) (λ_ s₂=>wpAny (model X.prog X.w) X.A (setFlight e none) (λ_ s₃=>wpAny (model X.prog X.w) X.A (handleBy e X.env [.ExceptHandler (some (.Name x np)) (some n) (b₀ :: suite) hpos]) (SP X pins D) X.xe s₃) X.xe s₂) X.xe s₁) (X.pn ++ pins) ?_ [] s σ H D I.bear h) ?_ λ_ _ z=>z
 case refine_2 =>
  intro f s1 hf
  cases f with
  | next =>
   obtain ⟨σ',H',J,q⟩:=hf;exact wpAny_execs_nil ⟨σ',H',J.unbear,q⟩
  | brk =>
   obtain ⟨σ',H',J,q⟩:=hf;exact ⟨σ',H',J.unbear,q⟩
  | cont =>
   obtain ⟨σ',H',J,q⟩:=hf;exact ⟨σ',H',J.unbear,q⟩
  | ret u =>
   obtain ⟨v,σ',H',J,r,q⟩:=hf;exact ⟨v,σ',H',J.unbear,r,q⟩
 case refine_1 =>
  intro pins' σ' H1 s1 e s2 J0 hcx;have J:Inv X pins σ' H1 s1:=J0.unbear;obtain ⟨a,cls,a0,H2,B,rfl,os,bare,fl,hB,hth,hok,un,hn,hE⟩:=hcx;obtain ⟨hex,hsu⟩:=hE;have fl':m0x B (X.env :: l) a cls a0 s2.heap:=by rw [<- hst];exact fl
  refine wpAny_looks_onW (by rw [J.ok.frames,hst]) hfr fl' λh4 held4 up4=>?_
  refine wpAny_landsW held4 λh5 fl5 up5=>?_;have J5:Inv X pins σ' H2 { s2 with heap:=h5 }:=J.caught os bare fl hB hth hok un fl5.1 (up4.trans up5);obtain ⟨ob,hob,hobc⟩:=fl5.there;have LT:PySem.W.Looks (model X.prog X.w) h5 (typeOf (.ref a)) cls:=hobc ▸ (PySem.W.Looks.ld hob).andThen .now;have J5h:Inv (X.suite a) pins σ' H2 { s2 with heap:=h5 }:=J5.reA rfl (λz=>nomatch z);refine wpAny_handleBy_cons (codeAny_handlers_test (al9 (X:=X.suite a) J5h hg hm ?_ hd)) (by intro q;cases q)
  refine (PySem.W.exm_one (M:=model X.prog X.w) J5.kIn LT hex).at ?_;refine codeAny_handlers_suite_as ?_;refine lands_againW fl5 λh6 fl6 up6=>?_;have J6:Inv X pins σ' H2 { s2 with heap:=h6 }:=J.caught os bare fl hB hth hok un fl6.1 ((up4.trans up5).trans up6);have J6h:Inv (X.suite a) pins (ap5 X) H2 { s2 with heap:=h6 }:=(show Inv (X.suite a) pins σ' H2 { s2 with heap:=h6 } from J6.reA rfl (λz=>nomatch z)).forget
  -- the exception is tracked
  obtain ⟨oe,ws,hoe,hoec,hoed,_⟩:=fl6.first
  have nfr:∀ b ∈ frs X.stack,b ≠ a:=λb hb z=>by
   obtain ⟨_,o',ho',hnf⟩:=fl6.2.2.1.mem (show b ∈ frs (X.env :: l) from hst ▸ hb);subst z;have ho6:h6.get? b=some o':=ho';rw [hoe] at ho6;cases ho6;exact hnf ws hoed
  have nB:∀ b o,B.get? b=some o->b ≠ a:=λb o q z=>by rw [z,fl.2.1] at q;cases q
  have nL:X.env.locals ≠ a:=nfr _ (by rw [hst];unfold frs;rw [z0y,hfr];exact q0x)
  have J7:Inv (X.suite a) pins (ap5 X) (upd H2 a (Exc cls a)) { s2 with heap:=h6 }:=by
   refine J6h.track hn (Exc.ok hoe hoec hoed) (λb ob q n hx=>?_) nL (λy c q=>?_) (λp hp=>?_)
   ·have hx':b ∉ X.ex:=hx
    by_cases hbf:b ∈ frs X.stack
    ·exact nfr b hbf
    ·have z1:b ∉ X.fs:=λz=>hbf (by
      rcases J.ok.stk with e | ⟨e,_⟩
      ·rw [e];exact z
      ·rw [e];unfold frs;rw [z0y,hfr];exact q0r _ z)
     exact nB b ob (hB b ob (J.base.keep b ob q n z1 hx') (J.base.free b ob q n hx') hbf)
   ·obtain ⟨v,o',ho',hd'⟩:=J6h.cell y c q
    intro z;subst z;have z1:h6.get? c=some o':=ho';rw [hoe] at z1;cases z1;rw [hoed] at hd';cases hd'
   ·have hp':p ∈ X.pn ++ pins:=hp
    obtain ⟨e1,e2,e3,e4,_⟩:=J.pin p hp';refine nB p.1 p.2 (hB p.1 p.2 e1 e2 λz=>?_);rcases z0d.mp (J.stkSub p.1 z) with y | y
    ·exact e3 y
    ·exact e4 y
  refine ab2 (X:=X.suite a) J7 hN hi (.inl hl) (v:=.ref a) (u:=.ref a) rfl (λs8 J8=>?_) (.inr hl);refine wpAny_mono (hs a pins s8 _ _ { nx:=λσ H'=>D.nx (σ.set i none) H',rt:=D.rt } J8 (hsu a hn)) (λf s9 hf=>?_) λ_ _ z=>False.elim z
  cases f with
  | next =>
   obtain ⟨σ9,H9,J9,q9⟩:=hf;have J9':Inv X pins σ9 H9 s9:=J9.unA J.ok;obtain ⟨m9,hn9,hl9⟩:=id J9'.loc;refine wpAny_nameGoes_keeps hl hn9 (by rw [J.ok.kind];rfl) λh' v' hn' hs'=>?_
   exact ⟨σ9.set i none,H9,J9'.relocalN hN hi hl9 hn' hs',q9⟩
  | brk=>obtain ⟨_,_,_,q⟩:=hf;exact False.elim q
  | cont=>obtain ⟨_,_,_,q⟩:=hf;exact False.elim q
  | ret u =>
   obtain ⟨v,σ9,H9,J9,r9,q9⟩:=hf;obtain ⟨m9,hn9,_⟩:=id J9.loc;have J9':Inv X pins σ9 H9 s9:=J9.unA J.ok;refine wpAny_nameGoes hl hn9 (by rw [J.ok.kind];rfl) λh' m' hn' hs'=>?_
   exact ⟨v,ap5 X,H9,J9'.relocal hn' hs',r9,q9⟩
def smZ:List Int->Int
 | []=>0
 | a :: l=>a+smZ l
theorem as3:∀ (l m:List Int),smZ (l ++ m)=smZ l+smZ m
 | [],m=>by simp [smZ]
 | a :: l,m=>by rw [List.cons_append,smZ,smZ,as3 l m];omega
theorem ap2 (ns:List Int):∀ k,k<=ns.length->preSum (λi=>(ns[i]?).getD 0) k=smZ (ns.take k)
 | 0,_=>by rw [List.take_zero];rfl
 | k+1,h=>by
  have hk:ns[k]? = some (ns[k]'⋯):=q0j _;rw [u0z,hk,as3,<- ap2 ns k ⋯]
  show preSum (λi=>(ns[i]?).getD 0) k+(ns[k]?).getD 0=preSum (λi=>(ns[i]?).getD 0) k+(ns[k]'⋯+0);rw [hk,Int.add_zero];rfl
def bd1 (K:q0a):List V->Hp->VK->Prop:=λxs H Q => ∃ (p:Addr) (ns:List Int),xs=[.ref p]/\SqL K H p (ns.map V.int)/\Q (.int (smZ ns)) H
theorem aK6 (hc:X.calm=true):Y6 X (.builtin "sum") (bd1 X.K):=by
 intro pins s σ H xs us Q I r h;obtain ⟨p,ns,rfl,hq,q⟩:=h;obtain ⟨u,rfl,rx⟩:=ah9 r
 cases rx
 obtain ⟨its,r',pl,hz⟩:=I.list hq;have hlen:its.length=ns.length:=by rw [<- r'.length,q0g]
 have hp:p ≠ s.heap.objs.size:=by
  obtain ⟨o,ho,_⟩:=pl.isList;exact q0m (q0c ho)
 refine call_sum_walkAnyS (wpAny_pyIter_list pl.isList ?_);refine ⟨s.heap.objs.size,_,_,_,_,_,_,λi=>(ns[i]?).getD 0,rfl,(Walks.list (A:=X.A.in1) (I.ok.hd hc) _ p hp its.toArray).toS,⟨⟨_,z0a _ rfl,rfl,rfl⟩,pl.isList.at λo e=>q0e _ e⟩,?_,?_,?_⟩
 ·intro b hb
  have hb':b=s.heap.objs.size \/ b=p:=by simpa using hb
  show b<(s.heap.push _).objs.size;rw [z0m];rcases hb' with z | z
  ·rw [z];exact j0f _
  ·obtain ⟨o,ho,_⟩:=pl.isList
   rw [z];exact y0v (q0c ho)
 ·intro i v hv
  have hv':its[i]? = some v:=by simpa using hv
  have hi:i<ns.length:=by rw [<- hlen];exact (q0f.mp hv').1
  obtain ⟨u,hu,ru⟩:=r'.get (i:=i) (x:=.int ns[i]) (by rw [z0c,q0j hi];rfl)
  rw [hv'] at hu
  cases hu
  obtain ⟨t,rfl⟩:=(show ∃ t,v=Value.int ns[i] t from ru);exact ⟨t,by show _=Value.int ((ns[i]?).getD 0) t;rw [q0j hi];rfl⟩
 ·intro s' t' mv
  have e:preSum (λi=>(ns[i]?).getD 0) its.toArray.size=smZ ns:=by
   rw [q0k,hlen,ap2 ns _ (q0h _),v0n]
  rw [e];obtain ⟨h',g',d',tk',o'⟩:=s';obtain ⟨m1,m2,m3,m4,m5⟩:=mv;have m2':g'=s.gens:=m2;have m3':d'=s.drawn:=m3;have m4':o'=s.os:=m4;subst m2' m3' m4';refine ⟨.int _,H,?_,⟨_,rfl⟩,q⟩;refine I.kept (t':=tk') (h':=h') λb o e=>m1 b o ?_ (q0e _ e);intro z;have:b=s.heap.objs.size:=by simpa using z
  exact absurd (q0c e) (by rw [this];exact j0p _)
end
def aL8 (K:q0a):List V->Hp->VK->Prop:=λxs H Q => ∃ p ys,xs=[.ref p]/\(SqL K H p ys \/ SqT K H p ys)/\∀ l,H l=none->Q (.ref l) (upd H l (.lst ys))
open PySem PyProof.Rows
end L2
namespace R
open PySem L2 PyProof.Rows
inductive Rws (H:Hp):List Addr->List (List Rat)->Prop where
 | nil:Rws H [] []
 | cons {p:Addr} {xs:List V} {ps:List Addr} {L:List Rat} {Ls:List (List Rat)} (h:H p=some (.lst xs)) (n:v9 H xs L) (t:Rws H ps Ls):Rws H (p :: ps) (L :: Ls)
theorem Rws.length {H:Hp}:∀ {ts:List Addr} {M:List (List Rat)},Rws H ts M->ts.length=M.length
 | _,_,.nil=>rfl
 | _,_,.cons _ _ t=>congrArg (· + 1) t.length
theorem Rws.same {H H':Hp} (s:c5 H H'):∀ {ts:List Addr} {M:List (List Rat)},Rws H ts M->Rws H' ts M
 | _,_,.nil=>.nil
 | _,_,.cons h n t=>.cons (s _ _ h) (n.mono s.tups) (t.same s)
theorem Rws.samex {u:Addr} {H H':Hp} (s:j9 u H H') (hu:j7 H u):∀ {ts:List Addr} {M:List (List Rat)},(∀ t ∈ ts,t ≠ u)->Rws H ts M->Rws H' ts M
 | _,_,_,.nil=>.nil
 | _,_,hn,.cons h n t=>.cons (s _ _ h (hn _ q0x)) (n.mono (s.tups hu)) (t.samex s hu λx hx=>hn x (q0r _ hx))
theorem Rws.over {H:Hp} {l:Addr} {xs:List V} {o:HO} (hl:H l=some (.lst xs)):∀ {ts:List Addr} {M:List (List Rat)},l ∉ ts->Rws H ts M->Rws (upd H l o) ts M
 | _,_,_,.nil=>.nil
 | _,_,hn,.cons h n t=>.cons (by rw [d4 (λz=>hn (by rw [<- z];exact q0x))];exact h) (n.mono (V5.lst hl)) (t.over hl λz=>hn (q0r _ z))
theorem Rws.append {H:Hp}:∀ {ts us:List Addr} {M N:List (List Rat)},Rws H ts M->Rws H us N->Rws H (ts ++ us) (M ++ N)
 | _,_,_,_,.nil,h=>h
 | _,_,_,_,.cons h n t,k=>.cons h n (t.append k)
theorem Rws.get {H:Hp}:∀ {ts:List Addr} {M:List (List Rat)} {i:Nat} {p:Addr},Rws H ts M->ts[i]? = some p->∃ xs L,M[i]? = some L/\H p=some (.lst xs)/\v9 H xs L
 | _,_,_,_,.nil,e=>by simp at e
 | _,_,0,_,.cons h n _,e=>by cases e;exact ⟨_,_,rfl,h,n⟩
 | _,_,i+1,_,.cons _ _ t,e=>t.get (i:=i) (by simpa using e)
theorem Rws.isDs {K:q0a} {H:Hp}:∀ {ts:List Addr} {M:List (List Rat)},Rws H ts M->ac4 K H (ts.map V.ref) (M.map A9)
 | _,_,.nil=>.nil
 | _,_,.cons h n t=>.cons (K8 (SqL.of h) n) t.isDs
theorem aL6 {m:Nat}:∀ l:List Int,(∀ v ∈ l,v0e v<2 ^ m)->(smZ l).natAbs<2 ^ (m+l.length)
 | [],_=>m0c _
 | a :: l,h=>by
  have ih:=aL6 l λv hv=>h v (q0r _ hv);have ha:=h a q0x;have hle:2 ^ m<=2 ^ (m+l.length):=d7 ⋯;have:=g0h a (smZ l);rw [j0v,show m+(l.length+1)=m+l.length+1 by omega,m0z]
  show (a+smZ l).natAbs<_;omega
end R
set_option maxRecDepth 100000
namespace L2
open PySem PySem.Spec PyProof.Rows
theorem N8 {M:Model} {A:Around} {E:Value->Shared->Prop} {s:Shared} {scope:Scope} {globals:Addr} {cl:List (Str × Addr)} {qual:Str} {func:Option Addr} {code:Value} {outer:Env} {Q:Env->Shared->Prop}
  (hQ:Q { scope,locals:=s.heap.objs.size,globals,cells:=cellsFrom (s.heap.objs.size+1) scope.names cl,qual,func,code:=outer.code,frame:=outer.frame,builtins:=outer.builtins }
   { s with heap:=pushCells (s.heap.push { cls:=.type "dict",data:=.dict #[] }) scope.names }) :
  wpAny M A (newFunctionEnv scope globals cl [] qual func code (some outer)) Q E s:=by
 simp only [newFunctionEnv,Option.isSome_some,if_true];refine wpAny_bind (wpAny_alloc ?_);refine wpAny_bind (wpAny_layCells _ (λname kind cells=>by cases hkc:kind == NameKind.cell <;> simp [hkc]) _ _ _ _ ?_)
 rw [show ({ s with heap:=s.heap.push { cls:=.type "dict",data:=.dict #[] } }:Shared).heap.objs.size=s.heap.objs.size+1 from z0m ..]
 rw [v0z];exact wpAny_bind (wpAny_pure (wpAny_pure hQ))
structure bc1 (h h':Heap) (names:List (Str × NameKind)) (acc cs:List (Str × Addr)):Prop where
 cell:∀ x c,cs.lookup x=some c->∃ v,h'.IsCell c v
 inj:∀ x y c,cs.lookup x=some c->cs.lookup y=some c->x=y
 old:∀ x c,cs.lookup x=some c->acc.lookup x=some c \/ h.objs.size<=c
 fresh:∀ x,(x,NameKind.cell) ∈ names->∀ c,cs.lookup x=some c->h.objs.size<=c
theorem ab9 {x name:Str} {a c:Addr} {acc:List (Str × Addr)} (h:((name,a) :: acc).lookup x=some c):(x=name/\c=a) \/ (x ≠ name/\acc.lookup x=some c):=by
 rw [y0y] at h
 by_cases e:x=name
 ·subst e
  simp at h
  exact .inl ⟨rfl,h.symm⟩
 ·have:(x == name)=false:=by simpa using e
  rw [this] at h;exact .inr ⟨e,h⟩
theorem ah2 : ∀ (names : List (Str × NameKind)) (h : Heap) (acc : List (Str × Addr)), (∀ x c, acc.lookup x = some c → ∃ v, h.IsCell c v) → (∀ x y c, acc.lookup x = some c → acc.lookup y = some c → x = y) →
    bc1 h (pushCells h names) names acc (cellsFrom h.objs.size names acc)
  | [],h,acc,hc,hi=>⟨hc,hi,λ_ _ e=>.inl e,λ_ hm=>by cases hm⟩
  | (name,kind) :: r,h,acc,hc,hi=>by
    unfold pushCells cellsFrom
    split
    · have ih := ah2 r (h.push { cls := .type "cell", data := .cell none }) ((name, h.objs.size) :: acc)
        (λx c e=>by
          rcases ab9 e with ⟨_,e2⟩ | ⟨_,e2⟩
          · subst e2;exact ⟨none,_,Heap.get?_push_size _ rfl,rfl⟩
          · obtain ⟨v,z⟩:=hc x c e2
            exact ⟨v,z.keeps λb o e=>Heap.get?_push_of_some _ e⟩)
        (λx y c e1 e2=>by
          rcases ab9 e1 with ⟨a1,a2⟩ | ⟨a1,a2⟩ <;> rcases ab9 e2 with ⟨b1,b2⟩ | ⟨b1,b2⟩
          · rw [a1,b1]
          · obtain ⟨v,z⟩:=hc y c b2
            exact absurd z.lt (by rw [a2];exact Nat.lt_irrefl _)
          · obtain ⟨v,z⟩:=hc x c a2
            exact absurd z.lt (by rw [b2];exact Nat.lt_irrefl _)
          · exact hi x y c a2 b2)
      rw [Heap.size_push] at ih;refine ⟨ih.cell,ih.inj,λx c e=>?_,λx hm c e=>?_⟩
      · rcases ih.old x c e with z | z
        · rcases ab9 z with ⟨_,e2⟩ | ⟨_,e2⟩
          · exact .inr (by rw [e2];exact Nat.le_refl _)
          · exact .inl e2
        · rw [Heap.size_push] at z
          exact .inr (Nat.le_of_succ_le z)
      · rcases List.mem_cons.mp hm with z | z
        · cases z
          rcases ih.old _ c e with z | z
          · rcases ab9 z with ⟨_,e2⟩ | ⟨e1,_⟩
            · rw [e2];exact Nat.le_refl _
            · exact absurd rfl e1
          · rw [Heap.size_push] at z
            exact Nat.le_of_succ_le z
        · have:=ih.fresh x z c e
          rw [Heap.size_push] at this;exact Nat.le_of_succ_le this
    · rename_i hk
      have ih:=ah2 r h acc hc hi;refine ⟨ih.cell,ih.inj,ih.old,λx hm c e=>?_⟩;rcases List.mem_cons.mp hm with z | z
      · cases z;exact absurd rfl hk
      · exact ih.fresh x z c e
theorem ae1 {x:Str}:∀ (names:List (Str × NameKind)) (n:Nat) (acc:List (Str × Addr)),(x,NameKind.cell) ∉ names->(cellsFrom n names acc).lookup x=acc.lookup x
 | [],_,_,_=>rfl
 | (name,kind) :: r,n,acc,h=>by
  unfold cellsFrom;have hr:(x,NameKind.cell) ∉ r:=λz=>h (q0r _ z)
  split
  ·rename_i hk
   rw [ae1 r _ _ hr,y0y]
   have:(x == name)=false:=by
    refine beq_eq_false_iff_ne.mpr λe=>h ?_;subst e;rw [<- beq_iff_eq.mp hk];exact q0x
   rw [this]
  ·exact ae1 r _ _ hr
theorem aa9 {x:Str}:∀ (names:List (Str × NameKind)) (n:Nat) (acc:List (Str × Addr)),((x,NameKind.cell) ∈ names \/ ∃ c,acc.lookup x=some c)->∃ c,(cellsFrom n names acc).lookup x=some c
 | [],_,_,h=>h.elim (λz=>by cases z) id
 | (name,kind) :: r,n,acc,h=>by
  unfold cellsFrom
  have up:(∃ c,acc.lookup x=some c)->∃ c,((name,n) :: acc).lookup x=some c:=λ⟨c,e⟩=>by
   rw [y0y]
   split
   ·exact ⟨_,rfl⟩
   ·exact ⟨c,e⟩
  split
  ·refine aa9 r _ _ ?_
   rcases h with z | z
   ·rcases z0d.mp z with z | z
    ·cases z
     exact .inr ⟨n,by simp⟩
    ·exact .inl z
   ·exact .inr (up z)
  ·rename_i hk
   refine aa9 r _ _ ?_;rcases h with z | z
   ·rcases z0d.mp z with z | z
    ·cases z;exact absurd rfl hk
    ·exact .inl z
   ·exact .inr z
def aS7 (scope:Scope) (x:Str):Bool:=scope.names.any λy=>y.1 == x && y.2 == .cell
theorem aE2 {scope:Scope} {x:Str} (h:aS7 scope x=true):(x,NameKind.cell) ∈ scope.names:=by
 unfold aS7 at h;obtain ⟨⟨a,k⟩,hm,hh⟩:=List.any_eq_true.mp h;simp only [j0n,beq_iff_eq] at hh;obtain ⟨rfl,rfl⟩:=hh;exact hm
abbrev Cx.blockC (X:Cx) (scope:Scope) (cl:List (Str × Addr)) (C:Addr) (Nc:List Str) (s₂:Shared) (H₂:Hp) (fp:List Addr) (pins:List (Addr × Obj)):Cx :=
 { X with N:=Nc,s₀:=s₂,H₀:=H₂,env:=compEnvC scope (cellsFrom (C+1) scope.names cl) C X.env,outer:=X.stack,ex:=fp,fn:=aS7 scope,pn:=X.pn ++ pins,xe:=λ_ _=>False }
structure ag0 (X:Cx) (scope:Scope) (cl:List (Str × Addr)) (Nc:List Str) (caps:List (Option Nat)):Prop where
 clos:closureFor scope X.env=pure cl
 sub:∀ x c,cl.lookup x=some c->X.env.cells.lookup x=some c
 has:∀ n x,(relabel scope X.env).names.lookup x=some .cell \/ (relabel scope X.env).names.lookup x=some .free->∃ c,(cellsFrom n scope.names cl).lookup x=some c
 kind:scope.kind=.function
 names:∀ x ∈ scope.names,x.2=.local->scope.names.lookup x.1=some .local
 len:caps.length=Nc.length
 cap:∀ (i j:Nat) (x:Str),caps[i]? = some (some j)->Nc[i]? = some x->X.N[j]? = some x/\Vis X.env.scope x/\X.env.kindOf x ≠ some .local/\((relabel scope X.env).names.lookup x=some .cell \/ (relabel scope X.env).names.lookup x=some .free) /\
  (∃ c,cl.lookup x=some c)/\∀ n c,cl.lookup x=some c->(cellsFrom n scope.names cl).lookup x=some c
def aQ7 (scope osc:Scope) (N ks Nc:List Str) (caps:List (Option Nat)):Bool :=
 ((V2 scope osc).all λy => !(y.2 == .cell || y.2 == .free) || ks.contains y.1 || aS7 scope y.1) && scope.kind == .function &&
 (scope.names.all λy=>y.2 != .local || scope.names.lookup y.1 == some .local) && caps.length == Nc.length &&
 ((caps.zip Nc).all λp=>match p.1 with
  | none=>true
  | some j=>N[j]? == some p.2 && aT4 (osc.names.lookup p.2) && aT4 ((V2 scope osc).lookup p.2) && ks.contains p.2 && !aS7 scope p.2)
theorem ag0.of {X:Cx} {scope osc:Scope} {cl:List (Str × Addr)} {N ks Nc:List Str} {caps:List (Option Nat)} (clos:closureFor scope X.env=pure cl) (hN:X.N=N) (hosc:X.env.scope=osc) (hks:cl.map (·.1)=ks)
  (sub:∀ x c,cl.lookup x=some c->X.env.cells.lookup x=some c) (ok:aQ7 scope osc N ks Nc caps=true):ag0 X scope cl Nc caps:=by
 unfold aQ7 at ok;simp only [j0n,g0p,beq_iff_eq,m0b,v0g,bne_iff_ne,ne_eq] at ok;obtain ⟨⟨⟨⟨o1,o3⟩,o4⟩,o5⟩,o6⟩:=ok;have er:(relabel scope X.env).names=V2 scope osc:=by subst hosc;rfl
 have kof:∀ x,X.env.kindOf x=osc.names.lookup x:=λx=>by subst hosc;rfl
 refine ⟨clos,sub,λn x h=>?_,o3,λx hx hl=>?_,o5,λi j x h1 h2=>?_⟩
 ·rw [er] at h
  have key:∀ k,(V2 scope osc).lookup x=some k->(k=.cell \/ k=.free)->∃ c,(cellsFrom n scope.names cl).lookup x=some c:=λk hk hcf=>by
   refine aa9 _ _ _ ?_;rcases o1 (x,k) (aj5 hk) with (z | z) | z
   ·rcases hcf with rfl | rfl <;> simp at z
   ·refine .inr (U6 ?_)
    rw [hks];simpa using z
   ·exact .inl (aE2 z)
  rcases h with h | h
  ·exact key _ h (.inl rfl)
  ·exact key _ h (.inr rfl)
 ·rcases o4 x hx with z | z
  ·exact absurd hl z
  ·exact z
 ·have hm:(some j,x) ∈ caps.zip Nc:=by
   have:(caps.zip Nc)[i]? = some (some j,x):=by
    rw [g0n];exact ⟨h1,h2⟩
   exact q0v this
  have z:=o6 _ hm;simp only [j0n,beq_iff_eq,v0g] at z;obtain ⟨⟨⟨⟨z1,z2⟩,z3⟩,z4⟩,z5⟩:=z;have c2:=ar4 z2;have c3:=ar4 z3;refine ⟨by rw [hN];exact z1,?_,?_,?_,U6 (by rw [hks];simpa using z4),λn c e=>?_⟩
  ·rw [hosc]
   rcases c2 with c | c
   ·exact .inr (.inl c)
   ·exact .inr (.inr c)
  ·rw [kof]
   rcases c2 with c | c <;> rw [c] <;> decide
  ·rw [er];exact c3
  ·rw [ae1 _ _ _ λhm=>?_]
   ·exact e
   ·have:aS7 scope x=true:=List.any_eq_true.mpr ⟨_,hm,by simp⟩
    rw [z5] at this;cases this
section
variable {X:Cx}
theorem al2 {elt tg iter:Expr} {scope:Scope} {pos:Pos} {cl:List (Str × Addr)} {Nc:List Str} {caps:List (Option Nat)} {wi:TI} {g:TG} {te:TE} (hc:X.calm=true) (cp:ag0 X scope cl Nc caps) (hi:PI X tg iter wi)
  (hg:∀ C s₂ H₂ fp pins,PG (X.blockC scope cl C Nc s₂ H₂ fp pins) tg g) (he:∀ C s₂ H₂ fp pins,PE (X.blockC scope cl C Nc s₂ H₂ fp pins) elt te) (hs:∀ x,foldedSetIterable iter X.env x=pure x:=by intro _;rfl) :
  PE X (.ListComp elt [⟨tg,iter,[],0⟩] scope pos) (aG8 wi caps g te):=by
 intro pins s σ H Q I h;rw [eval_ListComp];refine wpAny_comprehension_free (use:=none) rfl hs cp.clos cp.kind cp.names ?_;refine thn (hi pins s σ H _ I h) λv s1 h1=>thn h1 λitv s2 h2=>?_;obtain ⟨it,fp,tn,J,H2,e,I2,T,st2,f2,hW⟩:=h2;subst e;refine wpAny_newObj_type ?_ (by show 0<=sizeLine;exact z0n _)
 refine N8 ?_
 dsimp only
 generalize hH3:s2.heap.push { cls:=.type "list",dict:=none,data:=.seq ([]:List Value).toArray }=H3
 have hCe:H3.objs.size=s2.heap.objs.size+1:=by rw [<- hH3,z0m]
 have M1:∀ b o,s2.heap.get? b=some o->b ≠ H3.objs.size:=λb o e=>by rw [hCe];exact q0m (y0v (q0c e))
 have hns0:=(Heap.Ns.new H3 (.type "dict")).keeps (pushCells_keeps scope.names _)
 have old0:∀ b o,s2.heap.get? b=some o->(pushCells (H3.push { cls:=.type "dict",data:=.dict #[] }) scope.names).get? b=some o:=λb o e=>pushCells_keeps _ _ b o (q0e _ (hH3 ▸ q0e _ e))
 have hD0:(pushCells (H3.push { cls:=.type "dict",data:=.dict #[] }) scope.names).get? s2.heap.objs.size=some { cls:=.type "list",dict:=none,data:=.seq ([]:List Value).toArray } :=
  pushCells_keeps _ _ _ _ (q0e _ (hH3 ▸ z0a _ rfl))
 have own:=ah2 scope.names (H3.push { cls:=.type "dict",data:=.dict #[] }) cl (λx c e=>by
   obtain ⟨v,o,ho,hd⟩:=I2.cell x c (cp.sub x c e);exact ⟨v,o,q0e _ (hH3 ▸ q0e _ ho),hd⟩) (λx y c h1 h2=>I2.ok.inj x y c (cp.sub x c h1) (cp.sub y c h2))
 rw [z0m] at own;generalize hh4:pushCells (H3.push { cls:=.type "dict",data:=.dict #[] }) scope.names=h4 at own hns0 old0 hD0 ⊢
 have hns:=hns0;have old:=old0;have hD:=hD0;have isOld:∀ x c,(cellsFrom (H3.objs.size+1) scope.names cl).lookup x=some c->X.env.cells.lookup x=some c \/ H3.objs.size+1<=c:=λx c e=>(own.old x c e).imp (cp.sub x c) λz=>by rw [z0m] at z;exact z
 have hDn:H2 s2.heap.objs.size=none:=I2.fresh;have hCn:H2 H3.objs.size=none:=I2.hok.fresh (by rw [hCe];exact j0k _)
 have hCs:s2.heap.objs.size<=H3.objs.size:=by rw [hCe];exact j0k _
 have hDC:s2.heap.objs.size ≠ H3.objs.size:=by rw [hCe];exact q0m (j0f _)
 have fpl:∀ b ∈ fp,∃ o,s2.heap.get? b=some o:=λb hb=>let ⟨o,e,_⟩:=T.obj _ _ st2 b hb;⟨o,e⟩;have fpC:∀ b ∈ fp,b ≠ H3.objs.size:=λb hb=>let ⟨o,e⟩:=fpl b hb;M1 b o e;have fpD:∀ b ∈ fp,b ≠ s2.heap.objs.size:=λb hb=>let ⟨o,e⟩:=fpl b hb;q0m (q0c e);have stkN:∀ b,b ≠ X.env.locals->b ∉ X.fs->b ∉ frs X.stack:=λb h1 h2 z=>(z0d.mp (I2.stkSub b z)).elim h1 h2
 have fpX:∀ b ∈ fp,∀ x c,(cellsFrom (H3.objs.size+1) scope.names cl).lookup x=some c->c ≠ b:=λb hb x c h=>by
  rcases isOld x c h with z | z
  ·exact (f2 b hb).2.2.2.2.1 x c z
  ·obtain ⟨o,e⟩:=fpl b hb
   exact y0e (q0b (q0c e) (q0q (q0q hCs (j0k _)) z))
 obtain ⟨W,⟨m0,w0⟩,turn⟩:=hW s2.heap.objs.size hDn
 have okB:(X.blockC scope cl H3.objs.size Nc s2 H2 fp pins).Ok:=by
  refine ⟨I2.ok.mod,?_,I2.ok.glob,I2.ok.blt,hCs,λx y c h1 h2=>own.inj x y c h1 h2,λx hx=>cp.has _ x hx,λx c h e=>q0q (q0q hCs (j0k _)) (by have z:=own.fresh x (aE2 h) c e;rw [z0m] at z;exact z),I2.ok.hd,I2.ok.frames,.inl rfl,λb hb=>⟨fpC b hb,λx c h=>fpX b hb x c h⟩,I2.bs,q0q I2.ok.bsz I2.sz,λb o e hb=>?_,λb hb=>stkN b (f2 b hb).2.1 (f2 b hb).2.2.1,I2.stack,I2.stkFree⟩
  ·exact cp.kind
  ·rcases (f2 b hb).2.2.2.1 with z | z
   ·exact I2.ok.noex b o e z
   ·exact absurd (q0b (q0c e) (q0q I2.ok.bsz z)) (j0p _)
 have hokB:HOk X.prog X.w (upd H2 s2.heap.objs.size (.lst [])) h4:=I2.hok.laid old (q0h _) ⟨z0n _,[],_,.nil,hD⟩
 have IB:Inv (X.blockC scope cl H3.objs.size Nc s2 H2 fp pins) [] (C6 caps σ) (upd H2 s2.heap.objs.size (.lst [])) { s2 with heap:=h4 }:=by
  refine ⟨okB,rfl,I2.bare,Un.laid old (q0h _) hDn,⟨_,hns,λi x v e1 e2 e3=>?_⟩,λx c e=>?_,(show upd H2 s2.heap.objs.size (.lst []) H3.objs.size=none by rw [d4 (Ne.symm hDC)];exact hCn),λx c e=>?_,λp hp=>?_,hokB,?_⟩
  ·unfold C6 at e2
   rw [z0c] at e2
   cases hcap:caps[i]? with
   | none=>rw [hcap] at e2;cases e2
   | some o =>
    rw [hcap] at e2
    cases o with
    | none=>cases e2
    | some j =>
     have hj:σ[j]? = some (some v):=by
      have e2':(σ[j]?).join=some v:=Option.some.inj e2
      cases q:σ[j]? with
      | none=>rw [q] at e2';cases e2'
      | some z=>rw [q] at e2';exact congrArg some e2'
     obtain ⟨n1,n2,n3,n4,n5,n6⟩:=cp.cap i j x hcap e1;obtain ⟨m,hm,hl⟩:=I2.loc;obtain ⟨u,r,q⟩:=hl j x v n1 hj n2;rcases q with ⟨k,_⟩ | ⟨k,c,ec,z⟩
     ·exact absurd k n3
     ·obtain ⟨c',ec'⟩:=n5
      have:=cp.sub x c' ec';rw [ec] at this;cases this;obtain ⟨oc,ho,hd⟩:=z;exact ⟨u,r,.inr ⟨n4,c,n6 _ _ ec',oc,old _ _ ho,hd⟩⟩
  ·exact own.cell x c e
  ·show upd H2 s2.heap.objs.size (.lst []) c=none
   rcases isOld x c e with z | z
   ·obtain ⟨v,oc,ho,hd⟩:=I2.cell x c z
    rw [d4 (q0m (q0c ho))];exact I2.freeC x c z
   ·have hz:s2.heap.objs.size<c:=q0b (q0s hCs (j0f _)) z
    rw [d4 (y0e hz)];exact I2.hok.fresh (y0d hz)
  ·have hp':p ∈ X.pn ++ pins:=by simpa using hp
   obtain ⟨e1,e2,e3,e4,e5⟩:=I2.pin p hp';exact ⟨old _ _ e1,by rw [d4 (q0m (q0c e1))];exact e2,M1 _ _ e1,stkN _ e3 e4,e5⟩
  ·show (C6 caps σ).length=Nc.length
   unfold C6;rw [q0g];exact cp.len
 have stat:∀ {H':Hp},(∀ b ∈ fp,H' b=none)->∀ b ∈ fp,ab0 (X.blockC scope cl H3.objs.size Nc s2 H2 fp pins) [] H' b:=λhn b hb =>
  ⟨hn b hb,fpC b hb,stkN b (f2 b hb).2.1 (f2 b hb).2.2.1,.inl hb,λx c h=>fpX b hb x c h,λp hp=>(f2 b hb).2.2.2.2.2 p (by simpa using hp)⟩
 have loop:∀ s5:Shared,s5={ s2 with heap:=h4 } ->
   codeAny (model X.prog X.w) X.A (.compLoop (.ListComp elt [⟨tg,iter,[],0⟩] scope pos) 0 (.ref it) (.ref s2.heap.objs.size) (compEnvC scope (cellsFrom (H3.objs.size+1) scope.names cl) H3.objs.size X.env))
    (compPost (model X.prog X.w) X.A X.xe none (EP X pins σ Q) (.ref s2.heap.objs.size) H3.objs.size) s5:=by
  rintro s5 rfl;refine ah1 (λn s' => ∃ i σ' H',Inv (X.blockC scope cl H3.objs.size Nc s2 H2 fp pins) [] σ' H' s'/\tn i s'.heap/\(∀ b ∈ fp,H' b=none)/\W i n σ' H') ?_ m0 ⟨0,_,_,IB,T.keep _ _ _ st2 λb hb o e=>old b o e,λb hb=>by rw [d4 (fpD b hb)];exact (f2 b hb).1,w0⟩
  rintro n s6 ⟨i,σ6,H6,I6,st6,fr6,w6⟩;rcases turn i n σ6 H6 w6 with ⟨stop,qn⟩ | ⟨go,step⟩
  ·refine thn (T.done (X.blockC scope cl H3.objs.size Nc s2 H2 fp pins) rfl rfl rfl hc i [] s6 σ6 H6 _ I6 (stat fr6) st6 stop) λr s7 zq=>?_
   obtain ⟨hr,I7⟩:=zq;subst hr;obtain ⟨m7,hn7,_⟩:=id I7.loc;exact ⟨m7,hn7,λh' sb=>⟨.ref s2.heap.objs.size,H6,I2.sameC f2 I7.os I7.bare I7.base I7.hok hCs I7.free sb,rfl,qn⟩⟩
  ·refine thn (T.item (X.blockC scope cl H3.objs.size Nc s2 H2 fp pins) rfl rfl rfl hc i [] s6 σ6 H6 _ I6 (stat fr6) st6 go) λr s7 zq=>?_
   obtain ⟨u,hr,h7⟩:=zq;subst hr;refine thn h7 λ_ s8 zq=>?_;obtain ⟨x,H8,I8,r8,y8,st8,fr8⟩:=zq;have I8':=I8.pinned (stat fr8) (T.obj _ _ st8);refine thn (hg _ _ _ _ _ _ s8 σ6 H8 x u _ I8' r8 (step x H8 y8)) λ_ s9 zq=>?_;obtain ⟨σ9,H9,I9,q9⟩:=zq;refine thn (he _ _ _ _ _ _ s9 σ9 H9 _ I9 q9) λu10 s10 zq=>?_;obtain ⟨v10,H10,I10,r10,ys,hys,hlen,m',hm',w'⟩:=zq;refine thn (N4 _ s10 σ9 H10 (.ref s2.heap.objs.size) [v10] (.ref s2.heap.objs.size) [u10] (λ_ H11=>H11=upd H10 s2.heap.objs.size (.lst (ys ++ [v10]))) I10 rfl (.cons r10 .nil) ⟨_,ys,v10,rfl,rfl,hys,hlen,rfl⟩) λ_ s11 zq=>?_;obtain ⟨_,H11,I11,_,hH11⟩:=zq;subst hH11;refine ⟨m',hm',i+1,σ9,_,I11.unpinned,T.keep _ _ _ st8 λb hb o e=>(I11.pin (b,o) (q0d _ (q0d _ (k6 hb e)))).1,λb hb=>?_,w'⟩;obtain ⟨o,e,d⟩:=T.obj _ _ st8 b hb;exact (I11.pin (b,o) (q0d _ (q0d _ (k6 hb e)))).2.1
 exact codeAny_compStart_list (loop _ rfl) (T.self _ 0 _ _ _ (T.keep _ _ _ st2 λb hb o e=>old b o e) (loop _ rfl))
end
end L2
set_option maxRecDepth 100000
namespace R
open PySem L2 PyProof.Rows
def aG2 (H:Hp) (Q:VK) (M:List (List Rat)):Prop:=∀ (r:Addr) (ts:List Addr) (H':Hp),c5 H H'->H r=none->(∀ t ∈ ts,H t=none/\t ≠ r)->ts.Nodup->H' r=some (.lst (ts.map V.ref))->Rws H' ts M->Q (.ref r) H'
structure F8 (H:Hp) (D:Addr) (M:List (List Rat)) (H2:Hp):Prop where
 same:c5 H H2
 at':∃ ts:List Addr,H2 D=some (.lst (ts.map V.ref))/\(∀ t ∈ ts,H t=none/\t ≠ D)/\ts.Nodup/\Rws H2 ts M
structure M5 (H:Hp) (D:Addr) (L:List Rat) (H2:Hp):Prop where
 same:c5 H H2
 at':∃ xs:List V,H2 D=some (.lst xs)/\v9 H2 xs L
theorem F8.start {H:Hp} {D:Addr} (h:H D=none):F8 H D [] (upd H D (.lst [])):=⟨c5.new h _,[],b8,by simp,.nil,.nil⟩
theorem M5.start {H:Hp} {D:Addr} (h:H D=none):M5 H D [] (upd H D (.lst [])):=⟨c5.new h _,[],b8,.nil⟩
theorem F8.res {H H2:Hp} {D:Addr} {M:List (List Rat)} {Q:VK} (k:aG2 H Q M) (h:H D=none) (t:F8 H D M H2):Q (.ref D) H2 :=
 let ⟨s,ts,e,hn,nd,r⟩:=t;k D ts H2 s h hn nd e r
theorem M5.add {H H2 H3:Hp} {D p:Addr} {L:List Rat} {q:Rat} (t:M5 H D L H2) (h:H D=none) (s:c5 H2 H3) (e:H3 p=some (.tup (t4 q))) :
  ∃ ys,H3 D=some (.lst ys)/\ys.length=L.length/\M5 H D (L ++ [q]) (upd H3 D (.lst (ys ++ [.ref p]))):=by
 obtain ⟨s2,xs,e2,n2⟩:=t;have eD:=s _ _ e2;exact ⟨xs,eD,n2.length,(s2.trans s).over h _,_,b8,((n2.mono s.tups).append (.cons e .nil)).mono (V5.lst eD)⟩
theorem F8.add {H H2 H3:Hp} {D D2:Addr} {M:List (List Rat)} {L:List Rat} (t:F8 H D M H2) (h:H D=none) (h2:H2 D2=none) (r:M5 H2 D2 L H3) :
  ∃ ys,H3 D=some (.lst ys)/\ys.length=M.length/\F8 H D (M ++ [L]) (upd H3 D (.lst (ys ++ [.ref D2]))):=by
 obtain ⟨s2,ts,e2,hn,nd,n2⟩:=t;obtain ⟨s,xs,e3,n3⟩:=r;have eD:=s _ _ e2;have hD2:D2 ≠ D:=(d5 e2 h2).symm
 have hnt:D2 ∉ ts:=λz=>by
  obtain ⟨i,hi⟩:=y0c.mp z;obtain ⟨_,_,_,e,_⟩:=n2.get hi;rw [h2] at e;cases e
 refine ⟨_,eD,by rw [q0g,n2.length],(s2.trans s).over h _,ts ++ [D2],by rw [b8,j0r];rfl,?_,?_,?_⟩
 ·intro t ht
  rcases z0r.mp ht with z | z
  ·exact hn t z
  ·rw [q0u.mp z]
   refine ⟨?_,hD2⟩
   cases q:H D2 with
   | none=>rfl
   | some o=>rw [s2 _ _ q] at h2;cases h2
 ·rw [List.nodup_append]
  refine ⟨nd,by simp,λa ha b hb=>?_⟩
  rw [q0u.mp hb];rintro rfl;exact hnt ha
 ·refine ((n2.same s).append (.cons e3 n3 .nil)).over eD λz=>?_
  rcases z0r.mp z with z | z
  ·exact (hn D z).2 rfl
  ·exact hD2 (q0u.mp z).symm
def NmC (K:q0a) (H:Hp) (p:Addr) (q:Rat):Prop:=H p=some (.tup (t4 q)) \/ ∀ H',SqT K H' p (t4 q)
theorem NmC.sqt {K:q0a} {H:Hp} {p:Addr} {q:Rat}:NmC K H p q->SqT K H p (t4 q)
 | .inl h=>SqT.of h
 | .inr h=>h H
theorem NmC.mono {K:q0a} {H H':Hp} {p:Addr} {q:Rat} (e:V5 H H'):NmC K H p q->NmC K H' p q
 | .inl h=>.inl (e _ _ h)
 | .inr h=>.inr h
inductive w4 (K:q0a) (H:Hp):List V->List Rat->Prop where
 | nil:w4 K H [] []
 | cons {p:Addr} {q:Rat} {vs:List V} {qs:List Rat} (h:NmC K H p q) (t:w4 K H vs qs):w4 K H (.ref p :: vs) (q :: qs)
theorem w4.mono {K:q0a} {H H':Hp} (e:V5 H H'):∀ {vs:List V} {qs:List Rat},w4 K H vs qs->w4 K H' vs qs
 | _,_,.nil=>.nil
 | _,_,.cons h t=>.cons (h.mono e) (t.mono e)
theorem w4.length {K:q0a} {H:Hp}:∀ {vs:List V} {qs:List Rat},w4 K H vs qs->vs.length=qs.length
 | _,_,.nil=>rfl
 | _,_,.cons _ t=>congrArg (· + 1) t.length
theorem w4.append {K:q0a} {H:Hp}:∀ {vs ws:List V} {qs rs:List Rat},w4 K H vs qs->w4 K H ws rs->w4 K H (vs ++ ws) (qs ++ rs)
 | _,_,_,_,.nil,b=>b
 | _,_,_,_,.cons h t,b=>.cons h (t.append b)
theorem w4.getV {K:q0a} {H:Hp}:∀ {vs:List V} {qs:List Rat} {i:Nat} {v:V},w4 K H vs qs->vs[i]? = some v->∃ p q,v=.ref p/\qs[i]? = some q/\NmC K H p q
 | _,_,_,_,.nil,e=>by simp at e
 | _,_,0,_,.cons h t,e=>by cases e;exact ⟨_,_,rfl,rfl,h⟩
 | _,_,i+1,_,.cons _ t,e=>t.getV (i:=i) (by simpa using e)
theorem w4.isDs {K:q0a} {H:Hp}:∀ {vs:List V} {qs:List Rat},w4 K H vs qs->ac4 K H vs (qs.map R0)
 | _,_,.nil=>.nil
 | _,_,.cons h t=>.cons (aa1 h.sqt) t.isDs
theorem v9.toC {K:q0a} {H:Hp}:∀ {vs:List V} {qs:List Rat},v9 H vs qs->w4 K H vs qs
 | _,_,.nil=>.nil
 | _,_,.cons h t=>.cons (.inl h) t.toC
inductive K4 (K:q0a) (H:Hp):List Addr->List (List Rat)->Prop where
 | nil:K4 K H [] []
 | cons {p:Addr} {xs:List V} {ps:List Addr} {L:List Rat} {Ls:List (List Rat)} (h:H p=some (.lst xs)) (n:w4 K H xs L) (t:K4 K H ps Ls):K4 K H (p :: ps) (L :: Ls)
theorem Rws.toC {K:q0a} {H:Hp}:∀ {ts:List Addr} {M:List (List Rat)},Rws H ts M->K4 K H ts M
 | _,_,.nil=>.nil
 | _,_,.cons h n t=>.cons h n.toC t.toC
theorem K4.length {K:q0a} {H:Hp}:∀ {ts:List Addr} {M:List (List Rat)},K4 K H ts M->ts.length=M.length
 | _,_,.nil=>rfl
 | _,_,.cons _ _ t=>congrArg (· + 1) t.length
theorem K4.same {K:q0a} {H H':Hp} (s:c5 H H'):∀ {ts:List Addr} {M:List (List Rat)},K4 K H ts M->K4 K H' ts M
 | _,_,.nil=>.nil
 | _,_,.cons h n t=>.cons (s _ _ h) (n.mono s.tups) (t.same s)
theorem K4.over {K:q0a} {H:Hp} {l:Addr} {xs:List V} {o:HO} (hl:H l=some (.lst xs)):∀ {ts:List Addr} {M:List (List Rat)},l ∉ ts->K4 K H ts M->K4 K (upd H l o) ts M
 | _,_,_,.nil=>.nil
 | _,_,hn,.cons h n t=>.cons (by rw [d4 (λz=>hn (by rw [<- z];exact q0x))];exact h) (n.mono (V5.lst hl)) (t.over hl λz=>hn (q0r _ z))
theorem K4.append {K:q0a} {H:Hp}:∀ {ts us:List Addr} {M N:List (List Rat)},K4 K H ts M->K4 K H us N->K4 K H (ts ++ us) (M ++ N)
 | _,_,_,_,.nil,h=>h
 | _,_,_,_,.cons h n t,k=>.cons h n (t.append k)
theorem K4.get {K:q0a} {H:Hp}:∀ {ts:List Addr} {M:List (List Rat)} {i:Nat} {p:Addr},K4 K H ts M->ts[i]? = some p->∃ xs L,M[i]? = some L/\H p=some (.lst xs)/\w4 K H xs L
 | _,_,_,_,.nil,e=>by simp at e
 | _,_,0,_,.cons h n _,e=>by cases e;exact ⟨_,_,rfl,h,n⟩
 | _,_,i+1,_,.cons _ _ t,e=>t.get (i:=i) (by simpa using e)
theorem K4.take {K:q0a} {H:Hp}:∀ {ts:List Addr} {M:List (List Rat)} (m:Nat),K4 K H ts M->K4 K H (ts.take m) (M.take m)
 | _,_,0,_=>by simp;exact .nil
 | _,_,_+1,.nil=>.nil
 | _,_,m+1,.cons h n t=>.cons h n (t.take m)
theorem K4.isDs {K:q0a} {H:Hp}:∀ {ts:List Addr} {M:List (List Rat)},K4 K H ts M->ac4 K H (ts.map V.ref) (M.map A9)
 | _,_,.nil=>.nil
 | _,_,.cons h n t=>.cons (.lst (SqL.of h) n.isDs) t.isDs
def aQ9 (K:q0a) (H:Hp) (Q:VK) (M:List (List Rat)):Prop:=∀ (r:Addr) (ts:List Addr) (H':Hp),c5 H H'->H r=none->(∀ t ∈ ts,H t=none/\t ≠ r)->ts.Nodup->H' r=some (.lst (ts.map V.ref))->K4 K H' ts M->Q (.ref r) H'
structure ax6 (K:q0a) (H:Hp) (D:Addr) (M:List (List Rat)) (H2:Hp):Prop where
 same:c5 H H2
 at':∃ ts:List Addr,H2 D=some (.lst (ts.map V.ref))/\(∀ t ∈ ts,H t=none/\t ≠ D)/\ts.Nodup/\K4 K H2 ts M
structure ao8 (K:q0a) (H:Hp) (D:Addr) (L:List Rat) (H2:Hp):Prop where
 same:c5 H H2
 at':∃ xs:List V,H2 D=some (.lst xs)/\w4 K H2 xs L
theorem ax6.start {K:q0a} {H:Hp} {D:Addr} (h:H D=none):ax6 K H D [] (upd H D (.lst [])):=⟨c5.new h _,[],b8,by simp,.nil,.nil⟩
theorem ao8.start {K:q0a} {H:Hp} {D:Addr} (h:H D=none):ao8 K H D [] (upd H D (.lst [])):=⟨c5.new h _,[],b8,.nil⟩
theorem ao8.add {K:q0a} {H H2 H3:Hp} {D p:Addr} {L:List Rat} {q:Rat} (t:ao8 K H D L H2) (h:H D=none) (s:c5 H2 H3) (e:NmC K H3 p q) :
  ∃ ys,H3 D=some (.lst ys)/\ys.length=L.length/\ao8 K H D (L ++ [q]) (upd H3 D (.lst (ys ++ [.ref p]))):=by
 obtain ⟨s2,xs,e2,n2⟩:=t;have eD:=s _ _ e2;exact ⟨xs,eD,n2.length,(s2.trans s).over h _,_,b8,((n2.mono s.tups).append (.cons e .nil)).mono (V5.lst eD)⟩
theorem ax6.add {K:q0a} {H H2 H3:Hp} {D D2:Addr} {M:List (List Rat)} {L:List Rat} (t:ax6 K H D M H2) (h:H D=none) (h2:H2 D2=none) (r:ao8 K H2 D2 L H3) :
  ∃ ys,H3 D=some (.lst ys)/\ys.length=M.length/\ax6 K H D (M ++ [L]) (upd H3 D (.lst (ys ++ [.ref D2]))):=by
 obtain ⟨s2,ts,e2,hn,nd,n2⟩:=t;obtain ⟨s,xs,e3,n3⟩:=r;have eD:=s _ _ e2;have hD2:D2 ≠ D:=(d5 e2 h2).symm
 have hnt:D2 ∉ ts:=λz=>by
  obtain ⟨i,hi⟩:=y0c.mp z;obtain ⟨_,_,_,e,_⟩:=n2.get hi;rw [h2] at e;cases e
 refine ⟨_,eD,by rw [q0g,n2.length],(s2.trans s).over h _,ts ++ [D2],by rw [b8,j0r];rfl,?_,?_,?_⟩
 ·intro t ht
  rcases z0r.mp ht with z | z
  ·exact hn t z
  ·rw [q0u.mp z]
   refine ⟨?_,hD2⟩
   cases q:H D2 with
   | none=>rfl
   | some o=>rw [s2 _ _ q] at h2;cases h2
 ·rw [List.nodup_append]
  refine ⟨nd,by simp,λa ha b hb=>?_⟩
  rw [q0u.mp hb];rintro rfl;exact hnt ha
 ·refine ((n2.same s).append (.cons e3 n3 .nil)).over eD λz=>?_
  rcases z0r.mp z with z | z
  ·exact (hn D z).2 rfl
  ·exact hD2 (q0u.mp z).symm
theorem F8.to {H H2 H3:Hp} {D:Addr} {M:List (List Rat)} (t:F8 H D M H2) (s:c5 H2 H3):F8 H D M H3 :=
 let ⟨s2,ts,e,hn,nd,r⟩:=t;⟨s2.trans s,ts,s _ _ e,hn,nd,r.same s⟩
theorem Z6 {n i:Nat} (h:i<n):(z0w n)[i]? = some i:=by rw [q0j (by simpa using h)];simp
theorem n9 {α:Type} {l:List α} {n:Nat} (h:l.length<=n):l.take n=l:=u0e h
theorem p9 {n:Nat} (h:n<=100):n<sizeLine:=q0s h (by decide)
def ClA (D:Addr) (H:Hp) (v:V) (p:List Rat):Prop:=∃ r l,v=.ref r/\H r=some (.tup [.ref l,.int (E7 p)])/\H l=some (.lst ((N9 (E7 p) p).map V.int))/\l ≠ D
inductive ClL (D:Addr) (H:Hp):List V->List (List Rat)->Prop where
 | nil:ClL D H [] []
 | cons {v:V} {p:List Rat} {vs:List V} {ps:List (List Rat)} (h:ClA D H v p) (t:ClL D H vs ps):ClL D H (v :: vs) (p :: ps)
structure ClR (H:Hp) (D:Addr) (M:List (List Rat)) (H2:Hp):Prop where
 same:c5 H H2
 at':∃ vs:List V,H2 D=some (.lst vs)/\ClL D H2 vs M
def bc3 (J:It) (D:Addr) (σ0:L2.St) (H0:Hp) (g:TG) (wi2:TI) (g2:TG) (te:TE) (Q:VK):Prop:=∃ W:Nat->Nat->L2.St->Hp->Prop,(∃ m,W 0 m σ0 H0) /\
 ∀ i m σc H2,W i m σc H2->(J.stop i H2/\Q (.ref D) H2) \/
  (J.go i H2/\∀ x H3,J.yld i H2 x H3->g x σc H3 λσ4 H4=>wi2 σ4 H4 λJ2 H5 => ∃ W2:Nat->Nat->L2.St->Hp->Prop,(∃ m2,W2 0 m2 σ4 H5) /\
   ∀ i2 m2 σ6 H6,W2 i2 m2 σ6 H6->(J2.stop i2 H6/\∃ m',m'<m/\W (i+1) m' σ6 H6) \/
    (J2.go i2 H6/\∀ y H7,J2.yld i2 H6 y H7->g2 y σ6 H7 λσ8 H8=>te σ8 H8 λz H9 => ∃ ys,H9 D=some (.lst ys)/\ys.length<sizeLine/\∃ m3,m3<m2/\W2 (i2+1) m3 σ8 (upd H9 D (.lst (ys ++ [z])))))
theorem ay0 (wi:TI) (caps:List (Option Nat)) (g:TG) (wi2:TI) (g2:TG) (te:TE):aV7 wi caps g wi2 g2 te=λσ H Q=>wi σ H λJ H1 => ∀ D,H1 D=none->bc3 J D (C6 caps σ) (upd H1 D (.lst [])) g wi2 g2 te Q:=rfl
def bi1 (D:Addr) (n:Nat) (Pv:Nat->L2.St->Hp->Prop) (i:Nat) (g2:TG) (te:TE) (σ4:L2.St) (J2:It) (H5:Hp):Prop:=∃ W2:Nat->Nat->L2.St->Hp->Prop,(∃ m2,W2 0 m2 σ4 H5) /\
 ∀ i2 m2 σ6 H6,W2 i2 m2 σ6 H6->(J2.stop i2 H6/\∃ m',m'<n-i/\m'=n-(i+1)/\i+1<=n/\Pv (i+1) σ6 H6) \/
  (J2.go i2 H6/\∀ y H7,J2.yld i2 H6 y H7->g2 y σ6 H7 λσ8 H8=>te σ8 H8 λz H9 => ∃ ys,H9 D=some (.lst ys)/\ys.length<sizeLine/\∃ m3,m3<m2/\W2 (i2+1) m3 σ8 (upd H9 D (.lst (ys ++ [z]))))
theorem bb4 {K:q0a} {a D:Addr} {g g2:TG} {wi2:TI} {te:TE} {σ0:L2.St} {H0:Hp} {Q:VK} (xs:List V) (Pv:Nat->L2.St->Hp->Prop) (h0:Pv 0 σ0 H0) (hl:∀ i σ H,i<=xs.length->Pv i σ H->SqL K H a xs)
  (hs:∀ i x σ H,xs[i]? = some x->Pv i σ H->g x σ H λσ4 H4=>wi2 σ4 H4 λJ2 H5=>bi1 D xs.length Pv i g2 te σ4 J2 H5)
  (hd:∀ σ H,Pv xs.length σ H->Q (.ref D) H):bc3 (Itl K a) D σ0 H0 g wi2 g2 te Q:=by
 refine ⟨λi m σ H=>m=xs.length-i/\i<=xs.length/\Pv i σ H,⟨xs.length,by simp,z0n _,h0⟩,?_⟩
 rintro i m σ H ⟨rfl,hi,p⟩;have q:=hl i σ H hi p
 by_cases hlt:i<xs.length
 ·refine .inr ⟨⟨xs,xs[i],q,by simp [hlt]⟩,λx H' y=>?_⟩
  obtain ⟨e,y⟩:=y;subst e;exact hs i x σ _ (y xs q) p
 ·have e:i=xs.length:=⋯
  subst e;exact .inl ⟨⟨xs,q,q0h _⟩,hd σ H p⟩
theorem bg4 {K:q0a} {b D:Addr} {n i:Nat} {Pv:Nat->L2.St->Hp->Prop} {g2:TG} {te:TE} {σ4:L2.St} {H5:Hp} (ys:List V) (Pw:Nat->L2.St->Hp->Prop) (hi:i<n) (h0:Pw 0 σ4 H5) (hl:∀ j σ H,j<=ys.length->Pw j σ H->SqL K H b ys)
  (hs:∀ j y σ H,ys[j]? = some y->Pw j σ H->g2 y σ H λσ8 H8=>te σ8 H8 λz H9=>m8 D ys.length Pw j σ8 z H9) (hd:∀ σ H,Pw ys.length σ H->Pv (i+1) σ H):bi1 D n Pv i g2 te σ4 (Itl K b) H5:=by
 refine ⟨λj m2 σ H=>m2=ys.length-j/\j<=ys.length/\Pw j σ H,⟨ys.length,by simp,z0n _,h0⟩,?_⟩
 rintro j m2 σ6 H6 ⟨rfl,hj,p6⟩;have q6:=hl j σ6 H6 hj p6
 by_cases hlt2:j<ys.length
 ·refine .inr ⟨⟨ys,ys[j],q6,by simp [hlt2]⟩,λz H' y2=>?_⟩
  obtain ⟨e,y2⟩:=y2;subst e;exact hs j z σ6 _ (y2 ys q6) p6
 ·have e:j=ys.length:=⋯
  subst e;exact .inl ⟨⟨ys,q6,q0h _⟩,n-(i+1),⋯,rfl,hi,hd _ _ p6⟩
end R
set_option maxRecDepth 100000
namespace L2
open PySem PySem.Spec PyProof.Rows
structure Stp (prog:Program) (w:World) (it src:Addr) (ar:Array Value) (st:Nat->Heap->Prop):Prop where
 stay:∀ {k:Nat} {h h':Heap},st k h->(∀ o,h.get? it=some o->h'.get? it=some o)->(∀ o,h.get? src=some o->h'.get? src=some o)->st k h'
 item:∀ {A:Around} {E:Value->Shared->Prop} {s:Shared} {k:Nat} {v:Value} {Q:Value->Shared->Prop},st k s.heap->ar[k]? = some v->(∀ h',st (k+1) h'->y0q it s.heap h'->Q v { s with heap:=h' })->wpAny (model prog w) A (Builtin.SmallTypes.nextOf (.ref it)) Q E s
 fin:∀ {A:Around} {E:Value->Shared->Prop} {s:Shared} {k:Nat} {Q:Value->Shared->Prop},A.handled=none->st k s.heap->ar[k]? = none->(∀ h' e,Heap.ExtBut it s.heap h'->(∃ o,h'.get? e=some o/\o.cls=.type "StopIteration")->E (.ref e) { s with heap:=h' })->wpAny (model prog w) A (Builtin.SmallTypes.nextOf (.ref it)) Q E s
def bq7 (it src:Addr) (ar:Array Value) (k:Nat) (h:Heap):Prop:=h.IsTupleIter it src k/\h.IsTuple src ar
theorem ag3 {prog:Program} {w:World} {it src:Addr} {ar:Array Value} (ne:src ≠ it):Stp prog w it src ar (bq7 it src ar) where
 stay:=λst h1 h2=>⟨st.1.at h1,by obtain ⟨o,e,r⟩:=st.2;exact ⟨o,h2 o e,r⟩⟩
 item:=by
  intro A E s k v Q st hv hQ;obtain ⟨hi,ht⟩:=st;obtain ⟨ob,gob,cob,dob⟩:=id hi;obtain ⟨os,gos,_,ns,dos⟩:=id ht;unfold Builtin.SmallTypes.nextOf;refine wpAny_bind (wpAny_callSpecial?_slot (name:=Str.ofString "__next__") hi.typeIs F.slot_tuple_iterator_next (wpAny_call_entry F.slot_tuple_iterator_next hi.typeIs F.entry_tuple_iterator_next ?_ (F.args_tuple_iterator_next_1 _)))
  show wpAny _ _ (field (.ref it) 0 >>= _) _ _ s;refine wpAny_bind (wpAny_field gob dob (x:=.ref src) rfl ?_)
  show wpAny _ _ (if (Value.ref src == Value.none)=true then _ else _) _ _ s;rw [if_neg (show ¬ ((Value.ref src == Value.none)=true) from q0p)]
  show wpAny _ _ (field (.ref it) 1 >>= _) _ _ s;refine wpAny_bind (wpAny_field gob dob (x:=.int k 0) rfl ?_)
  show wpAny _ _ (seqItems? (.ref src) >>= _) _ _ s;refine wpAny_bind (wpAny_seqItems gos dos ?_);simp only [g0j,hv];refine wpAny_bind (wpAny_setField gob dob (by simp) (wpAny_pure ⟨v,rfl,wpAny_pure (hQ _ ⟨?_,?_⟩ (y0q.update ..))⟩))
  ·exact ⟨_,m0m _ gob (Obj.isFreed_of_fields (Obj.data_mapFields dob _)),(Obj.cls_mapFields ..).trans cob,by rw [Obj.data_mapFields dob];simp [rawInt]⟩
  ·exact ht.extBut (y0q.update ..).extBut ne
 fin:=by
  intro A E s k Q hh st hv hE;obtain ⟨hi,ht⟩:=st;obtain ⟨ob,gob,cob,dob⟩:=id hi;obtain ⟨os,gos,_,ns,dos⟩:=id ht;unfold Builtin.SmallTypes.nextOf;refine wpAny_bind (wpAny_callSpecial?_slot (name:=Str.ofString "__next__") hi.typeIs F.slot_tuple_iterator_next (wpAny_call_entry F.slot_tuple_iterator_next hi.typeIs F.entry_tuple_iterator_next ?_ (F.args_tuple_iterator_next_1 _)))
  show wpAny _ _ (field (.ref it) 0 >>= _) _ _ s;refine wpAny_bind (wpAny_field gob dob (x:=.ref src) rfl ?_)
  show wpAny _ _ (if (Value.ref src == Value.none)=true then _ else _) _ _ s;rw [if_neg (show ¬ ((Value.ref src == Value.none)=true) from q0p)]
  show wpAny _ _ (field (.ref it) 1 >>= _) _ _ s;refine wpAny_bind (wpAny_field gob dob (x:=.int k 0) rfl ?_)
  show wpAny _ _ (seqItems? (.ref src) >>= _) _ _ s;refine wpAny_bind (wpAny_seqItems gos dos ?_);simp only [g0j,hv];refine wpAny_bind (wpAny_rule (wpAny_bind (wpAny_setField gob dob (by simp) ?_)))
  show wpAny _ _ (newExc (.type "StopIteration") [] >>= _) _ _ _;refine wpAny_bind ?_;simp only [newExc,newTuple];refine wpAny_bind (wpAny_newObj_type ?_ (by size_fits));refine wpAny_bind (m:=firstArgMember _ _) (wpAny_of_eq (a:=Value.none) (by first | rfl | (simp only [firstArgMember];rfl)) ?_);refine wpAny_newObj_type ?_ (by size_fits)
  simp only [raiseNew];refine wpAny_bind (wpAny_handled ?_);(first | rw [show A.in1.handled=none from hh] | rw [hh]);refine wpAny_bind (wpAny_pure (wpAny_throw ?_));exact hE _ _ (((y0q.update ..).extBut.push _).push _) ⟨_,z0a _ rfl,rfl⟩
section
variable {prog:Program} {w:World} {A:Around} {E:Value->Shared->Prop} {s:Shared}
theorem aR4 {z TI TO i1 i2 a b:Addr} {k:Nat} {xs ys:Array Value} {x y p q:Value} {S1 S2:Nat->Heap->Prop} {Q:Value->Shared->Prop} (D:ZipApart z TI TO i1 i2 a b) (N1:Stp prog w i1 a xs S1) (N2:Stp prog w i2 b ys S2)
  (gz:IsZip s.heap z TI TO .none) (gI:IsPair s.heap TI (.ref i1) (.ref i2)) (gO:IsPair s.heap TO p q) (t1:S1 k s.heap) (t2:S2 k s.heap) (ex:xs[k]? = some x) (ey:ys[k]? = some y) (r1:∃ o,s.heap.get? i1=some o) (r2:∃ o,s.heap.get? i2=some o)
  (hQ:∀ h',IsZip h' z TI TO (rawInt s.heap.objs.size)->IsPair h' TO x y->S1 (k+1) h'->S2 (k+1) h'->IsPair h' s.heap.objs.size x y->h'.objs.size=s.heap.objs.size+1->(∀ c o,c ≠ z->c ≠ TO->c ≠ i1->c ≠ i2->s.heap.get? c=some o->h'.get? c=some o)->Q (.ref s.heap.objs.size) { s with heap:=h' }) :
  wpAny (model prog w) A (Builtin.«zip.__next__» ⟨[.ref z],[]⟩) (λfin s' => ∃ v,fin=.done (.ret v)/\Q v s') E s:=by
 show wpAny _ _ (field (.ref z) 2 >>= _) _ _ _;refine wpAny_bind (wpAny_field gz rfl (x:=.bool false) rfl ?_)
 show wpAny _ _ (field (.ref z) 3 >>= _) _ _ _;refine wpAny_bind (wpAny_field gz rfl (x:=.ref TI) rfl ?_);refine wpAny_bind (wpAny_seqItems gI rfl ?_)
 show wpAny _ _ (Builtin.SmallTypes.ownedTupleIsFree (.ref z) >>= _) _ _ _;refine wpAny_bind ?_;unfold Builtin.SmallTypes.ownedTupleIsFree;refine wpAny_bind (wpAny_field gz rfl (x:=.none) rfl (wpAny_pure ?_));simp only [if_true];refine wpAny_bind (wpAny_rule ?_);refine wpAny_bind (wpAny_field gz rfl (x:=.ref TO) rfl ?_);refine wpAny_bind (wpAny_setField_rec gz (by simp) λh₁ z1 u1=>?_)
 replace z1:IsZip h₁ z TI TO .ellipsis:=z1
 refine wpAny_bind ?_;simp only [List.zipIdx_cons,List.zipIdx_nil,List.forIn_cons,v0z];refine wpAny_bind (wpAny_bind (wpAny_onRaise ?_));show wpAny _ _ (Builtin.SmallTypes.nextOf (.ref i1) >>= _) _ _ _;refine wpAny_bind (N1.item (N1.stay t1 (λo e=>u1.extBut _ _ D.i1z e) λo e=>u1.extBut _ _ D.l1z e) ex λh₂ n1 u2=>wpAny_pure ?_);have O2:IsPair h₂ TO p q:=u2.extBut _ _ D.TOi1 (u1.extBut _ _ D.TOz gO);refine wpAny_bind (wpAny_seqItems O2 rfl ?_);refine wpAny_bind (wpAny_updateSeq_pair O2 λh₃ O3 u3=>?_)
 replace O3:IsPair h₃ TO x q:=O3
 refine wpAny_bind (wpAny_letGo (wpAny_pure ?_));refine wpAny_bind (wpAny_bind (wpAny_onRaise ?_));show wpAny _ _ (Builtin.SmallTypes.nextOf (.ref i2) >>= _) _ _ _;have m2:S2 k h₃:=N2.stay t2 (λo e=>u3.extBut _ _ D.TOi2.symm (u2.extBut _ _ D.i12.symm (u1.extBut _ _ D.i2z e))) λo e=>u3.extBut _ _ D.l2TO (u2.extBut _ _ D.l2i1 (u1.extBut _ _ D.l2z e));refine wpAny_bind (N2.item m2 ey λh₄ n2 u4=>wpAny_pure ?_);have O4:IsPair h₄ TO x q:=u4.extBut _ _ D.TOi2 O3;refine wpAny_bind (wpAny_seqItems O4 rfl ?_);refine wpAny_bind (wpAny_updateSeq_pair O4 λh₅ O5 u5=>?_)
 replace O5:IsPair h₅ TO x y:=O5
 refine wpAny_bind (wpAny_letGo (wpAny_pure (wpAny_pure ?_)));refine wpAny_bind (wpAny_seqItems O5 rfl ?_);refine wpAny_bind (wpAny_newTuple ?_);have sz:h₅.objs.size=s.heap.objs.size:=by rw [u5.1,u4.1,u3.1,u2.1,u1.1]
 have z5:IsZip h₅ z TI TO .ellipsis:=u5.extBut _ _ D.TOz.symm (u4.extBut _ _ D.i2z.symm (u3.extBut _ _ D.TOz.symm (u2.extBut _ _ D.i1z.symm z1)));have k5:∀ c o,c ≠ z->c ≠ TO->c ≠ i1->c ≠ i2->s.heap.get? c=some o->h₅.get? c=some o:=λc o c1 c2 c3 c4 e=>u5.extBut _ _ c2 (u4.extBut _ _ c4 (u3.extBut _ _ c2 (u2.extBut _ _ c3 (u1.extBut _ _ c1 e))));have n15:S1 (k+1) h₅:=N1.stay n1 (λo e=>u5.extBut _ _ D.TOi1.symm (u4.extBut _ _ D.i12 (u3.extBut _ _ D.TOi1.symm e))) λo e=>u5.extBut _ _ D.l1TO (u4.extBut _ _ D.l1i2 (u3.extBut _ _ D.l1TO e));have n25:S2 (k+1) h₅:=N2.stay n2 (λo e=>u5.extBut _ _ D.TOi2.symm e) λo e=>u5.extBut _ _ D.l2TO e;have lz:z<h₅.objs.size:=q0c z5
 show wpAny _ _ (Builtin.SmallTypes.ownedTupleHandOut (.ref z) (.ref h₅.objs.size) >>= _) _ _ _;refine wpAny_bind ?_;unfold Builtin.SmallTypes.ownedTupleHandOut;have z6:IsZip (h₅.push { cls:=.type "tuple",data:=.seq #[x,y] }) z TI TO .ellipsis:=q0e _ z5
 refine wpAny_bind (wpAny_setField_rec z6 (by simp) λh₇ z7 u7=>?_)
 replace z7:IsZip h₇ z TI TO (rawInt h₅.objs.size):=z7
 refine wpAny_setField_rec z7 (by simp) λh₈ z8 u8=>?_
 replace z8:IsZip h₈ z TI TO (rawInt h₅.objs.size):=z8
 have up:∀ c o,c ≠ z->h₅.get? c=some o->h₈.get? c=some o:=λc o c1 e=>u8.extBut _ _ c1 (u7.extBut _ _ c1 (q0e _ e));have T8:IsPair h₈ h₅.objs.size x y:=u8.extBut _ _ (y0e lz) (u7.extBut _ _ (y0e lz) (z0a _ rfl));have s8:h₈.objs.size=h₅.objs.size+1:=by rw [u8.1,u7.1,z0m]
 rw [sz] at z8 T8 s8;refine wpAny_pure ⟨_,rfl,?_⟩
 show Q (.ref h₅.objs.size) _;rw [sz];exact hQ h₈ z8 (up _ _ D.TOz O5) (N1.stay n15 (λo e=>up _ o D.i1z e) λo e=>up _ o D.l1z e) (N2.stay n25 (λo e=>up _ o D.i2z e) λo e=>up _ o D.l2z e) T8 s8 λc o c1 c2 c3 c4 e=>up c o c1 (k5 c o c1 c2 c3 c4 e)
theorem aU7 {z TI TO i1 i2 a b:Addr} {k:Nat} {xs ys:Array Value} {p q:Value} {S1 S2:Nat->Heap->Prop} {Q:Fin->Shared->Prop} (hh:A.handled=none) (D:ZipApart z TI TO i1 i2 a b) (N1:Stp prog w i1 a xs S1) (N2:Stp prog w i2 b ys S2)
  (gz:IsZip s.heap z TI TO .none) (gI:IsPair s.heap TI (.ref i1) (.ref i2)) (gO:IsPair s.heap TO p q) (t1:S1 k s.heap) (t2:S2 k s.heap) (ends:xs[k]? = none \/ ys[k]? = none)
  (hE:∀ h' e,(∀ c o,c ≠ z->c ≠ TO->c ≠ i1->c ≠ i2->s.heap.get? c=some o->h'.get? c=some o)->(∃ o,h'.get? e=some o/\o.cls=.type "StopIteration")->E (.ref e) { s with heap:=h' }):wpAny (model prog w) A (Builtin.«zip.__next__» ⟨[.ref z],[]⟩) Q E s:=by
 show wpAny _ _ (field (.ref z) 2 >>= _) _ _ _;refine wpAny_bind (wpAny_field gz rfl (x:=.bool false) rfl ?_)
 show wpAny _ _ (field (.ref z) 3 >>= _) _ _ _;refine wpAny_bind (wpAny_field gz rfl (x:=.ref TI) rfl ?_);refine wpAny_bind (wpAny_seqItems gI rfl ?_)
 show wpAny _ _ (Builtin.SmallTypes.ownedTupleIsFree (.ref z) >>= _) _ _ _;refine wpAny_bind ?_;unfold Builtin.SmallTypes.ownedTupleIsFree;refine wpAny_bind (wpAny_field gz rfl (x:=.none) rfl (wpAny_pure ?_));simp only [if_true];refine wpAny_bind (wpAny_rule ?_);refine wpAny_bind (wpAny_field gz rfl (x:=.ref TO) rfl ?_);refine wpAny_bind (wpAny_setField_rec gz (by simp) λh₁ z1 u1=>?_)
 replace z1:IsZip h₁ z TI TO .ellipsis:=z1
 refine wpAny_bind ?_;simp only [List.zipIdx_cons,List.zipIdx_nil,List.forIn_cons,v0z];refine wpAny_bind (wpAny_bind (wpAny_onRaise ?_));show wpAny _ _ (Builtin.SmallTypes.nextOf (.ref i1) >>= _) _ _ _;have m1:S1 k h₁:=N1.stay t1 (λo e=>u1.extBut _ _ D.i1z e) λo e=>u1.extBut _ _ D.l1z e
 cases ex:xs[k]? with
 | none =>
  refine wpAny_bind (N1.fin hh m1 ex λh₂ e u2 he=>?_);obtain ⟨oe,goe,coe⟩:=he;have z2:IsZip h₂ z TI TO .ellipsis:=u2 _ _ D.i1z.symm z1;have ez:e ≠ z:=λx=>by subst x;rw [z2] at goe;cases goe;simp at coe
  refine wpAny_setField_rec z2 (by simp) λh₃ _ u3=>hE h₃ e (λc o c1 _ c3 _ x=>u3.extBut _ _ c1 (u2 _ _ c3 (u1.extBut _ _ c1 x))) ⟨oe,u3.extBut _ _ ez goe,coe⟩
 | some x =>
  have ey:ys[k]? = none:=by rcases ends with h | h;rw [ex] at h;cases h;exact h
  refine wpAny_bind (N1.item m1 ex λh₂ n1 u2=>wpAny_pure ?_);have O2:IsPair h₂ TO p q:=u2.extBut _ _ D.TOi1 (u1.extBut _ _ D.TOz gO);refine wpAny_bind (wpAny_seqItems O2 rfl ?_);refine wpAny_bind (wpAny_updateSeq_pair O2 λh₃ O3 u3=>?_);refine wpAny_bind (wpAny_letGo (wpAny_pure ?_));refine wpAny_bind (wpAny_bind (wpAny_onRaise ?_));show wpAny _ _ (Builtin.SmallTypes.nextOf (.ref i2) >>= _) _ _ _;have m2:S2 k h₃:=N2.stay t2 (λo e=>u3.extBut _ _ D.TOi2.symm (u2.extBut _ _ D.i12.symm (u1.extBut _ _ D.i2z e))) λo e=>u3.extBut _ _ D.l2TO (u2.extBut _ _ D.l2i1 (u1.extBut _ _ D.l2z e));refine wpAny_bind (N2.fin hh m2 ey λh₄ e u4 he=>?_);obtain ⟨oe,goe,coe⟩:=he;have z4:IsZip h₄ z TI TO .ellipsis:=u4 _ _ D.i2z.symm (u3.extBut _ _ D.TOz.symm (u2.extBut _ _ D.i1z.symm z1));have ez:e ≠ z:=λx=>by subst x;rw [z4] at goe;cases goe;simp at coe
  refine wpAny_setField_rec z4 (by simp) λh₅ _ u5=>hE h₅ e (λc o c1 c2 c3 c4 x=>u5.extBut _ _ c1 (u4 _ _ c4 (u3.extBut _ _ c2 (u2.extBut _ _ c3 (u1.extBut _ _ c1 x))))) ⟨oe,u5.extBut _ _ ez goe,coe⟩
theorem aR3 {z TI TO i1 i2 a b:Addr} {k:Nat} {xs ys:Array Value} {x y p q:Value} {S1 S2:Nat->Heap->Prop} {Q:Option Value->Shared->Prop} (D:ZipApart z TI TO i1 i2 a b) (N1:Stp prog w i1 a xs S1) (N2:Stp prog w i2 b ys S2)
  (gz:IsZip s.heap z TI TO .none) (gI:IsPair s.heap TI (.ref i1) (.ref i2)) (gO:IsPair s.heap TO p q) (t1:S1 k s.heap) (t2:S2 k s.heap) (ex:xs[k]? = some x) (ey:ys[k]? = some y) (r1:∃ o,s.heap.get? i1=some o) (r2:∃ o,s.heap.get? i2=some o)
  (hQ:∀ h',IsZip h' z TI TO (rawInt s.heap.objs.size)->IsPair h' TO x y->S1 (k+1) h'->S2 (k+1) h'->IsPair h' s.heap.objs.size x y->h'.objs.size=s.heap.objs.size+1->(∀ c o,c ≠ z->c ≠ TO->c ≠ i1->c ≠ i2->s.heap.get? c=some o->h'.get? c=some o)->Q (some (.ref s.heap.objs.size)) { s with heap:=h' }):wpAny (model prog w) A (pyNext (.ref z)) Q E s:=by
 have ty:s.TypeIs (.ref z) "zip" := ⟨_,gz,rfl⟩
 unfold pyNext;exact wpAny_bind (wpAny_attempt (wpAny_callSpecial?_slot (name:=Str.ofString "__next__") ty F.slot_zip_next (wpAny_call_entry F.slot_zip_next ty F.entry_zip_next (aR4 D N1 N2 gz gI gO t1 t2 ex ey r1 r2 λh' a1 a2 a3 a4 a5 a6 a7=>wpAny_pure (hQ h' a1 a2 a3 a4 a5 a6 a7)) (F.args_zip_next_1 _))))
theorem aR2 {z TI TO i1 i2 a b:Addr} {k:Nat} {xs ys:Array Value} {p q:Value} {S1 S2:Nat->Heap->Prop} {Q:Option Value->Shared->Prop} (hh:A.handled=none) (D:ZipApart z TI TO i1 i2 a b) (N1:Stp prog w i1 a xs S1) (N2:Stp prog w i2 b ys S2)
  (gz:IsZip s.heap z TI TO .none) (gI:IsPair s.heap TI (.ref i1) (.ref i2)) (gO:IsPair s.heap TO p q) (t1:S1 k s.heap) (t2:S2 k s.heap) (ends:xs[k]? = none \/ ys[k]? = none)
  (hQ:∀ h',(∀ c o,c ≠ z->c ≠ TO->c ≠ i1->c ≠ i2->s.heap.get? c=some o->h'.get? c=some o)->Q none { s with heap:=h' }):wpAny (model prog w) A (pyNext (.ref z)) Q E s:=by
 have ty:s.TypeIs (.ref z) "zip" := ⟨_,gz,rfl⟩
 unfold pyNext;refine wpAny_bind (wpAny_attempt (wpAny_callSpecial?_slot (name:=Str.ofString "__next__") ty F.slot_zip_next (wpAny_call_entry F.slot_zip_next ty F.entry_zip_next (aU7 hh D N1 N2 gz gI gO t1 t2 ends λh' e hk he=>?_) (F.args_zip_next_1 _))))
 obtain ⟨o,ho,hc⟩:=he;exact wpAny_bind (wpAny_isInstance (T := "StopIteration") (b:=true) ⟨o,ho,hc⟩ isSubtype_stop (wpAny_pure (hQ _ hk)))
abbrev zt1 (h:Heap) (a:Addr):Heap:=h.push { cls:=.type "tuple_iterator",data:=.fields #[.ref a,.int 0 0] }
abbrev zt2 (h:Heap) (a b:Addr):Heap:=(zt1 h a).push { cls:=.type "tuple_iterator",data:=.fields #[.ref b,.int 0 0] }
abbrev zt3 (h:Heap) (a b:Addr):Heap:=(zt2 h a b).push { cls:=.type "tuple",data:=.seq #[.ref h.objs.size,.ref (zt1 h a).objs.size] }
abbrev zt4 (h:Heap) (a b:Addr):Heap:=(zt3 h a b).push { cls:=.type "tuple",data:=.seq #[.none,.none] }
abbrev zt5 (h:Heap) (a b:Addr):Heap:=(zt4 h a b).push { cls:=.type "zip",data:=.fields #[.none,.bool false,.bool false,.ref (zt2 h a b).objs.size,.ref (zt3 h a b).objs.size] }
theorem aM7 (a b:Addr) (xs ys:Array Value):Meets (Builtin.«zip.__new__» ⟨[.type "zip",.ref a,.ref b],[]⟩) (λ_ R s=>s.heap.IsTuple a xs/\s.heap.IsTuple b ys/\R (.ok (.ret (.ref (zt4 s.heap a b).objs.size))) { s with heap:=zt5 s.heap a b }) :=
 .of_wp λprog w A R s h=>by
  obtain ⟨hp,g,d,tk,os⟩:=s;obtain ⟨ha,hb,h⟩:=h;have hsub:=sub_zip;have L1:y0r (Shared.heap ⟨hp,g,d,tk,os⟩) a xs:=ha;have L2:y0r (Shared.heap ⟨hp.push { cls:=.type "tuple_iterator",data:=.fields #[.ref a,.int 0 0] },g,d,tk,os⟩) b ys:=y0r.push hb _
  wp_walk using wpAny_pyIter_tuple L1,wpAny_pyIter_tuple L2
  exact ⟨_,rfl,h⟩
theorem aU2 {a b:Addr} {xs ys:Array Value} {Q:Value->Shared->Prop} (ha:s.heap.IsTuple a xs) (hb:s.heap.IsTuple b ys)
  (h:∀ h',IsZip h' (s.heap.objs.size+4) (s.heap.objs.size+2) (s.heap.objs.size+3) .none->IsPair h' (s.heap.objs.size+2) (.ref s.heap.objs.size) (.ref (s.heap.objs.size+1))->IsPair h' (s.heap.objs.size+3) .none .none->h'.IsTupleIter s.heap.objs.size a 0->h'.IsTupleIter (s.heap.objs.size+1) b 0->h'.objs.size=s.heap.objs.size+5->(∀ c o,s.heap.get? c=some o->h'.get? c=some o)->Q (.ref (s.heap.objs.size+4)) { s with heap:=h' }):wpAny (model prog w) A (call (.type "zip") [.ref a,.ref b]) Q E s:=by
 refine callType_new F.called_zip (by decide) (F.typeCall_zip_2 _ _) (F.newCall_zip_2 _ _) (λobj=>F.args_object_init_3 obj _ _) F.entry_zip_new (aM7 a b xs ys) ⟨ha,hb,?_⟩
 have z1:(zt1 s.heap a).objs.size=s.heap.objs.size+1:=z0m ..;have z2:(zt2 s.heap a b).objs.size=s.heap.objs.size+2:=by rw [z0m,z1]
 have z3:(zt3 s.heap a b).objs.size=s.heap.objs.size+3:=by rw [z0m,z2]
 have z4:(zt4 s.heap a b).objs.size=s.heap.objs.size+4:=by rw [z0m,z3]
 have z5:(zt5 s.heap a b).objs.size=s.heap.objs.size+5:=by rw [z0m,z4]
 have p1:∀ {h:Heap} {c:Addr} {o o':Obj},h.get? c=some o->(h.push o').get? c=some o:=λe=>q0e _ e;have g5:(zt5 s.heap a b).get? (zt4 s.heap a b).objs.size=some _:=z0a _ rfl;have g4:(zt5 s.heap a b).get? (zt3 s.heap a b).objs.size=some _:=p1 (z0a _ rfl);have g3:(zt5 s.heap a b).get? (zt2 s.heap a b).objs.size=some _:=p1 (p1 (z0a _ rfl));have g2:(zt5 s.heap a b).get? (zt1 s.heap a).objs.size=some _:=p1 (p1 (p1 (z0a _ rfl)));have g1:(zt5 s.heap a b).get? s.heap.objs.size=some _:=p1 (p1 (p1 (p1 (z0a _ rfl))))
 show _/\_;rw [z2,z3,z4] at g5;rw [z1,z2] at g3;rw [z3] at g4;rw [z1] at g2;rw [z4];exact ⟨⟨_,g5,rfl⟩,h _ g5 g3 g4 ⟨_,g1,rfl,rfl⟩ ⟨_,g2,rfl,rfl⟩ z5 λc o x=>p1 (p1 (p1 (p1 (p1 x))))⟩
end
def bo0 (K:PySem.W.Frag) (a b:Addr):It :=
  ⟨λi H => ∃ xs ys x y,SqT K H a xs/\SqT K H b ys/\xs[i]? = some x/\ys[i]? = some y,
   λi H v H' => ∀ xs ys,SqT K H a xs->SqT K H b ys->∃ x y p,xs[i]? = some x/\ys[i]? = some y/\H p=none/\v=.ref p/\H'=upd H p (.tup [x,y]),
   λi H => ∃ xs ys,SqT K H a xs/\SqT K H b ys/\(xs.length<=i \/ ys.length<=i)⟩
theorem aR5 {P:Program} {w:World} {K:q0a} {elts:List Expr} {k:Nat} {tpos:Pos} (a b z TI TO i1 i2:Addr) (D:ZipApart z TI TO i1 i2 a b) :
  aO2 P w K (.Tuple elts k tpos) (bo0 K a b) [z,TI,TO,i1,i2] z (λi h=>IsZip h z TI TO .none/\IsPair h TI (.ref i1) (.ref i2)/\(∃ a b,IsPair h TO a b)/\h.IsTupleIter i1 a i/\h.IsTupleIter i2 b i) where
 mem:=by simp
 obj:=λi h st c hc=>by
  obtain ⟨hz,hTI,⟨p,q,hTO⟩,h1,h2⟩:=st;rcases (by simpa using hc:c=z \/ c=TI \/ c=TO \/ c=i1 \/ c=i2) with e | e | e | e | e <;> subst e
  ·exact ⟨_,hz,λv z=>by cases z⟩
  ·exact ⟨_,hTI,λv z=>by cases z⟩
  ·exact ⟨_,hTO,λv z=>by cases z⟩
  ·obtain ⟨o,e,c,d⟩:=h1
   exact ⟨o,e,λv z=>by rw [d] at z;cases z⟩
  ·obtain ⟨o,e,c,d⟩:=h2
   exact ⟨o,e,λv z=>by rw [d] at z;cases z⟩
 keep:=λi h h' st k=>by
  obtain ⟨hz,hTI,⟨p,q,hTO⟩,h1,h2⟩:=st;exact ⟨k z (by simp) _ hz,k TI (by simp) _ hTI,⟨p,q,k TO (by simp) _ hTO⟩,h1.at λo e=>k i1 (by simp) o e,h2.at λo e=>k i2 (by simp) o e⟩
 item:=by
  intro X hP hw hK hc i pins s σ H E I hf st hg;subst hP hw hK;obtain ⟨xs,ys,x,y,hq,hq',hx,hy⟩:=hg;obtain ⟨its,rv,p,hlz⟩:=I.tuple hq;obtain ⟨its',rv',p',hlz'⟩:=I.tuple hq';obtain ⟨u,hu,ru⟩:=rv.get hx;obtain ⟨u',hu',ru'⟩:=rv'.get hy;obtain ⟨hz,hTI,⟨pa,pb,hTO⟩,h1,h2⟩:=st;have zlt:z<s.heap.objs.size:=q0c hz;refine aR3 D (ag3 (ar:=its.toArray) D.l1i1) (ag3 (ar:=its'.toArray) D.l2i2) hz hTI hTO ⟨h1,(show y0r _ a its.toArray from p)⟩ ⟨h2,(show y0r _ b its'.toArray from p')⟩ (x:=u) (y:=u') (by simpa using hu) (by simpa using hu') (by obtain ⟨o,e,_⟩:=h1;exact ⟨o,e⟩) (by obtain ⟨o,e,_⟩:=h2;exact ⟨o,e⟩) λh' a1 a2 a3' a4' a5 a6 kk=>?_
  have a3:=a3'.1;have a4:=a4'.1;refine ⟨_,rfl,?_⟩;refine wpAny_letOwnedTupleGo_zip (s:={ s with heap:=h' }) a1 λh'' hz'' sb=>?_;have up:∀ c o,c ≠ z->h'.get? c=some o->h''.get? c=some o:=λc o n q=>(sb.2 c n).trans q;have hT':h''.get? s.heap.objs.size=some { cls:=.type "tuple",data:=.seq #[u,u'] }:=up _ _ (y0e zlt) a5
  refine ⟨.ref s.heap.objs.size,upd H s.heap.objs.size (.tup [x,y]),I.turnLaid (fp:=[z,TI,TO,i1,i2]) (t':=s.toks) hf (λc v hb q=>?_) (q0h _) ?_,rfl,?_,?_,λc hb=>?_⟩
  ·have n1:c ≠ z:=λe=>hb (by simp [e])
   have n2:c ≠ TO:=λe=>hb (by simp [e])
   have n3:c ≠ i1:=λe=>hb (by simp [e])
   have n4:c ≠ i2:=λe=>hb (by simp [e])
   exact up c v n1 (kk c v n1 n2 n3 n4 q)
  ·exact ⟨(show 2<=sizeLine by decide +kernel),[u,u'],.cons ru (.cons ru' .nil),_,hT',rfl,_,rfl⟩
  ·intro vs ws hv hw
   rw [I.tuple_inj hv hq,I.tuple_inj hw hq'];exact ⟨x,y,_,hx,hy,I.fresh,rfl,rfl⟩
  ·refine ⟨hz'',up _ _ D.TIz (kk _ _ D.TIz D.TITO D.TIi1 D.TIi2 hTI),⟨u,u',up _ _ D.TOz a2⟩,a3.at λo q=>up _ o D.i1z q,a4.at λo q=>up _ o D.i2z q⟩
  ·have hlt:c<s.heap.objs.size:=by
    have l1:i1<s.heap.objs.size:=by obtain ⟨_,e,_⟩:=h1;exact q0c e
    have l2:i2<s.heap.objs.size:=by obtain ⟨_,e,_⟩:=h2;exact q0c e
    rcases (by simpa using hb:c=z \/ c=TI \/ c=TO \/ c=i1 \/ c=i2) with e | e | e | e | e <;> rw [e]
    ·exact zlt
    ·exact q0c hTI
    ·exact q0c hTO
    ·exact l1
    ·exact l2
   rw [d4 (q0m hlt)];exact (hf c hb).1
 done:=by
  intro X hP hw hK hc i pins s σ H E I hf st hg;subst hP hw hK;obtain ⟨xs,ys,hq,hq',hend⟩:=hg;obtain ⟨its,rv,p,hlz⟩:=I.tuple hq;obtain ⟨its',rv',p',hlz'⟩:=I.tuple hq';obtain ⟨hz,hTI,⟨pa,pb,hTO⟩,h1,h2⟩:=st;have l1:=rv.length;have l2:=rv'.length;refine aR2 (I.ok.hd hc) D (ag3 (ar:=its.toArray) D.l1i1) (ag3 (ar:=its'.toArray) D.l2i2) hz hTI hTO ⟨h1,(show y0r _ a its.toArray from p)⟩ ⟨h2,(show y0r _ b its'.toArray from p')⟩ ?_ λh' kk=>⟨rfl,?_⟩
  ·rcases hend with e | e
   ·exact .inl (by simp;omega)
   ·exact .inr (by simp;omega)
  ·have nf:∀ b u,H b=some u->b ∉ [z,TI,TO,i1,i2]:=λb u e q=>by rw [(hf b q).1] at e;cases e
   have k:∀ b u,b ∉ [z,TI,TO,i1,i2]->s.heap.get? b=some u->h'.get? b=some u:=λc o hb q=>kk c o (λe=>hb (by simp [e])) (λe=>hb (by simp [e])) (λe=>hb (by simp [e])) (λe=>hb (by simp [e])) q
   refine I.step (t':=s.toks) (g':=s.gens) (d':=s.drawn) (ch:=[z,TI,TO,i1,i2]) (λb hb=>?_) (λb o _ _ hc e _=>k b o hc e) (λb o _ _ hc e _=>⟨o.slots,k b o hc e⟩) (λb o _ e n=>n)
    (λb o hc e=>⟨o,k b o hc e⟩) (λb xs e=>e) (λb o u e=>e) (λb ps e=>⟨#[],by rw [e];simp⟩) (λm hm=>?_) (λb u e=>?_) I.bare
   ·obtain ⟨_,f1,_,f3,f4,f5⟩:=hf b hb
    exact ⟨f3,f1,f4,f5⟩
   ·obtain ⟨o,es,ep,ho,r⟩:=hm
    exact ⟨o,es,ep,k _ o (λq=>(hf _ q).2.1 rfl) ho,r⟩
   ·refine (I.hok b u e).stay (λc v hc q=>k c v ?_ q) (λc q=>q) λc xs q=>q
    rcases hc with q | q
    ·rw [q];exact nf b u e
    ·exact nf c _ q
 self:=λ_ _ _ _ _ st h=>wpAny_pyIter_zip st.1 h
section
variable {X:Cx}
def aZ6 (K:q0a) (ta:TA):TI:=λσ H R=>ta σ H λvs H1 => ∃ a b,vs=[.ref a,.ref b]/\(∃ xs,SqT K H1 a xs)/\(∃ ys,SqT K H1 b ys)/\R (bo0 K a b) H1
theorem bd8 {elts:List Expr} {k:Nat} {tpos:Pos} {l l':Expr} {ta:TA} {p pos:Pos} (hg:Gl X "zip") (hm:X.mg "zip" = none) (ha:PA X [l,l'] ta) (hs:starEach [l,l'] X.env=[(false,eval l X.env),(false,eval l' X.env)]:=by rfl) (hs2:starEach [l'] X.env=[(false,eval l' X.env)]:=by rfl) :
  PI X (.Tuple elts k tpos) (.Call (.Name "zip" p) [l,l'] [] pos) (aZ6 X.K ta):=by
 intro pins s σ H R I h;refine Call_ (ad7 I hg hm (u:=.type "zip") (by decide +kernel) (PyProof.Rows.callWith_type1 (thn (ha pos pins s σ H _ I h) λus s1 ⟨vs,H1,I1,r1,q1⟩=>?_) (by rw [hs,hs2]) (by rw [hs2];rfl)))
 obtain ⟨a,b,e,⟨xs,hq⟩,⟨ys,hq'⟩,q⟩:=q1;subst e;obtain ⟨u,u',rfl,rx,rx'⟩:=k9.two r1
 cases rx
 cases rx'
 obtain ⟨its,rv,p,hz⟩:=I1.tuple hq;obtain ⟨its',rv',p',hz'⟩:=I1.tuple hq';have a1:a<s1.heap.objs.size:=by obtain ⟨_,e,_⟩:=p;exact q0c e
 have a2:b<s1.heap.objs.size:=by obtain ⟨_,e,_⟩:=p';exact q0c e
 refine aU2 (show y0r _ a its.toArray from p) (show y0r _ b its'.toArray from p') λh' hz hTI hTO hi1 hi2 hsz kk=>?_;refine wpAny_pyIter_zip hz ?_;have I2:Inv X pins σ H1 { s1 with heap:=h' }:=I1.kept (t':=s1.toks) kk;refine ⟨_,_,_,_,H1,rfl,I2,aR5 a b _ _ _ _ _ (zipApart_new a1 a2),⟨hz,hTI,⟨_,_,hTO⟩,hi1,hi2⟩,λc hb=>?_,q⟩
 have hb':s1.heap.objs.size<=c:=by
  rcases (by simpa using hb:c=s1.heap.objs.size+4 \/ c=s1.heap.objs.size+2 \/ c=s1.heap.objs.size+3 \/ c=s1.heap.objs.size \/ c=s1.heap.objs.size+1) with e | e | e | e | e <;> rw [e]
  ·exact y0a _ _
  ·exact y0a _ _
  ·exact y0a _ _
  ·exact q0h _
  ·exact y0a _ _
 obtain ⟨f0,f1,f2,f3,f4,f5⟩:=I1.fpOk (H':=H1) hb' (I1.hok.fresh hb');exact ⟨f0,f1,f2,f3,f4,f5⟩
end
open PySem PyProof.Rows
section
variable {X:Cx} {pos:Pos}
def bo3 (te:TE) (g g':TG):TS:=λD σ H=>te σ H λx H1=>g x σ H1 λσ2 H2=>g' x σ2 H2 D.nx
theorem bd5 {tg tg' e : Expr} {te : TE} {g g' : TG} (he : PE X e te) (hg : PG X tg g) (hg' : PG X tg' g') (hs : swapsWithSole [tg, tg'] e pos.line X.env = pure false := by rfl) (hw : swappedStores [tg, tg'] e X.env = pure none := by rfl)
    (h1:(assignEach [tg,tg'] X.env).map (·.2)=[assign tg X.env,assign tg' X.env]:=by rfl):PS X (.Assign [tg,tg'] e pos) (bo3 te g g'):=by
  intro pins s σ H D I h;refine wpAny_Assign_stores (thn (he pins s σ H _ I h) λv s1 zq=>?_) hs hw;obtain ⟨x,H1,I1,r1,q1⟩:=zq;rw [h1]
  show wpAny (model X.prog X.w) X.A (do holding [v] (assign tg X.env v);assign tg' X.env v) _ _ _
  refine wpAny_bind (wpAny_holding (thn (hg pins s1 σ H1 x v _ I1 r1 q1) λ_ s2 zq=>?_));obtain ⟨σ2,H2,I2,q2⟩:=zq;exact thn (hg' pins s2 σ2 H2 x v _ I2 r1 q2) λ_ s3 q=>q
end
section
variable {X:Cx}
theorem aE0 {elt tg iter cnd:Expr} {scope:Scope} {pos spos py:Pos} {y:Str} {i₀:Nat} {cl:List (Str × Addr)} {Nc:List Str} {caps:List (Option Nat)} {wi:TI} {g:TG} {tt:TT} {te:TE} (hN:X.N.Nodup) (hi₀:X.N[i₀]? = some y) (hx:Loc X.env.scope y) (hc:X.calm=true) (cp:G3 X scope cl Nc caps) (hi:PI X tg iter wi)
  (hg:∀ C s₂ H₂ fp pins,PG (X.block scope cl C Nc s₂ H₂ fp pins) tg g) (ht:∀ C s₂ H₂ fp pins,PT (X.block scope cl C Nc s₂ H₂ fp pins) cnd tt) (he:∀ C s₂ H₂ fp pins,PE (X.block scope cl C Nc s₂ H₂ fp pins) elt te) (hs:∀ x,foldedSetIterable iter X.env x=pure x:=by intro _;rfl) (hsw:swapsWith (.ListComp elt [⟨tg,iter,[cnd],0⟩] scope pos) (some (.Name y py)) spos.line X.env=pure true:=by rfl)
  (hf:X.fn y=true \/ X.env.scope.names.lookup y=some .local:=by first | exact .inl rfl | exact .inr rfl | assumption) :
  PS X (.Assign [.Name y py] (.ListComp elt [⟨tg,iter,[cnd],0⟩] scope pos) spos) (aL2 (aO5 wi caps g tt te) (l9 i₀)):=by
 intro pins s σ H DD I h;rw [exec_Assign_Name_used _ _ _ _ hsw];refine wpAny_bind (wpAny_standAt (wpAny_bind ?_))
 show wpAny _ X.A (do let _ <- comprehension (.ListComp elt [⟨tg,iter,[cnd],0⟩] scope pos) scope X.env _ (newList []) false (eval iter X.env) (some (assign (.Name y py) X.env))) _ _ s
 refine wpAny_bind (wpAny_mono (wpAny_comprehension_free (use:=some (assign (.Name y py) X.env)) (Q:=λ_ s'=>SP X pins DD .next s') rfl hs cp.clos cp.kind cp.names ?_) (λ_ s' hq=>wpAny_pure (wpAny_pure hq)) λ_ _ e=>e);refine thn (hi pins s σ H _ I h) λv s1 h1=>thn h1 λitv s2 h2=>?_;obtain ⟨it,fp,tn,J,H2,e,I2,T,st2,f2,hW⟩:=h2;subst e;refine wpAny_newObj_type ?_ (by show 0<=sizeLine;exact z0n _)
 refine wpAny_newFunctionEnv cp.nocell (by intro y hy;simp at hy) (λh4 hns hsb=>?_) cp.kind
 dsimp only at hns hsb ⊢
 generalize hH3:s2.heap.push { cls:=.type "list",dict:=none,data:=.seq ([]:List Value).toArray }=H3 at hns hsb ⊢
 have hCe:H3.objs.size=s2.heap.objs.size+1:=by rw [<- hH3,z0m]
 have M1:∀ b o,s2.heap.get? b=some o->b ≠ H3.objs.size:=λb o e=>by rw [hCe];exact q0m (y0v (q0c e))
 have old:∀ b o,s2.heap.get? b=some o->h4.get? b=some o:=λb o e=>hsb.extBut b o (M1 b o e) (q0e _ (hH3 ▸ q0e _ e))
 have hD:h4.get? s2.heap.objs.size=some { cls:=.type "list",dict:=none,data:=.seq ([]:List Value).toArray } :=
  hsb.extBut _ _ (by rw [hCe];exact q0m (j0f _)) (q0e _ (hH3 ▸ z0a _ rfl))
 have hDn:H2 s2.heap.objs.size=none:=I2.fresh;have hCn:H2 H3.objs.size=none:=I2.hok.fresh (by rw [hCe];exact j0k _)
 have hCs:s2.heap.objs.size<=H3.objs.size:=by rw [hCe];exact j0k _
 have hDC:s2.heap.objs.size ≠ H3.objs.size:=by rw [hCe];exact q0m (j0f _)
 have fpl:∀ b ∈ fp,∃ o,s2.heap.get? b=some o:=λb hb=>let ⟨o,e,_⟩:=T.obj _ _ st2 b hb;⟨o,e⟩;have fpC:∀ b ∈ fp,b ≠ H3.objs.size:=λb hb=>let ⟨o,e⟩:=fpl b hb;M1 b o e;have fpD:∀ b ∈ fp,b ≠ s2.heap.objs.size:=λb hb=>let ⟨o,e⟩:=fpl b hb;q0m (q0c e);have stkN:∀ b,b ≠ X.env.locals->b ∉ X.fs->b ∉ frs X.stack:=λb h1 h2 z=>(z0d.mp (I2.stkSub b z)).elim h1 h2;obtain ⟨W,⟨m0,w0⟩,turn⟩:=hW s2.heap.objs.size hDn
 have okB:(X.block scope cl H3.objs.size Nc s2 H2 fp pins).Ok:=by
  refine ⟨I2.ok.mod,?_,I2.ok.glob,I2.ok.blt,hCs,λx y c h1 h2=>I2.ok.inj x y c (cp.sub x c h1) (cp.sub y c h2),λx hx=>cp.has x hx,λx c h=>(by cases h),I2.ok.hd,I2.ok.frames,.inl rfl,λb hb=>⟨fpC b hb,λx c h=>(f2 b hb).2.2.2.2.1 x c (cp.sub x c h)⟩,I2.bs,q0q I2.ok.bsz I2.sz,λb o e hb=>?_,λb hb=>stkN b (f2 b hb).2.1 (f2 b hb).2.2.1,I2.stack,I2.stkFree⟩
  ·exact cp.kind
  ·rcases (f2 b hb).2.2.2.1 with z | z
   ·exact I2.ok.noex b o e z
   ·exact absurd (q0b (q0c e) (q0q I2.ok.bsz z)) (j0p _)
 have hokB:HOk X.prog X.w (upd H2 s2.heap.objs.size (.lst [])) h4:=I2.hok.laid old (q0h _) ⟨z0n _,[],_,.nil,hD⟩
 have IB:Inv (X.block scope cl H3.objs.size Nc s2 H2 fp pins) [] (C6 caps σ) (upd H2 s2.heap.objs.size (.lst [])) { s2 with heap:=h4,toks:=s2.toks+([]:List (Str × Value)).length }:=by
  refine ⟨okB,rfl,I2.bare,Un.laid old (q0h _) hDn,⟨_,hns,λi x v e1 e2 e3=>?_⟩,λx c e=>?_,(show upd H2 s2.heap.objs.size (.lst []) H3.objs.size=none by rw [d4 (Ne.symm hDC)];exact hCn),λx c e=>?_,λp hp=>?_,hokB,?_⟩
  ·unfold C6 at e2
   rw [z0c] at e2
   cases hcap:caps[i]? with
   | none=>rw [hcap] at e2;cases e2
   | some o =>
    rw [hcap] at e2
    cases o with
    | none=>cases e2
    | some j =>
     have hj:σ[j]? = some (some v):=by
      have e2':(σ[j]?).join=some v:=Option.some.inj e2
      cases q:σ[j]? with
      | none=>rw [q] at e2';cases e2'
      | some z=>rw [q] at e2';exact congrArg some e2'
     obtain ⟨n1,n2,n3,n4⟩:=cp.cap i j x hcap e1;obtain ⟨m,hm,hl⟩:=I2.loc;obtain ⟨u,r,q⟩:=hl j x v n1 hj n2;rcases q with ⟨k,_⟩ | ⟨k,c,ec,z⟩
     ·exact absurd k n3
     ·obtain ⟨c',ec'⟩:=cp.has x n4
      have:=cp.sub x c' ec';rw [ec] at this;cases this;obtain ⟨oc,ho,hd⟩:=z;exact ⟨u,r,.inr ⟨n4,c,ec',oc,old _ _ ho,hd⟩⟩
  ·obtain ⟨v,oc,ho,hd⟩:=I2.cell x c (cp.sub x c e)
   exact ⟨v,oc,old _ _ ho,hd⟩
  ·obtain ⟨v,oc,ho,hd⟩:=I2.cell x c (cp.sub x c e)
   rw [d4 (q0m (q0c ho))];exact I2.freeC x c (cp.sub x c e)
  ·have hp':p ∈ X.pn ++ pins:=by simpa using hp
   obtain ⟨e1,e2,e3,e4,e5⟩:=I2.pin p hp';exact ⟨old _ _ e1,by rw [d4 (q0m (q0c e1))];exact e2,M1 _ _ e1,stkN _ e3 e4,e5⟩
  ·show (C6 caps σ).length=Nc.length
   unfold C6;rw [q0g];exact cp.len
 have stat:∀ {H':Hp},(∀ b ∈ fp,H' b=none)->∀ b ∈ fp,ab0 (X.block scope cl H3.objs.size Nc s2 H2 fp pins) [] H' b:=λhn b hb =>
  ⟨hn b hb,fpC b hb,stkN b (f2 b hb).2.1 (f2 b hb).2.2.1,.inl hb,λx c h=>(f2 b hb).2.2.2.2.1 x c (cp.sub x c h),λp hp=>(f2 b hb).2.2.2.2.2 p (by simpa using hp)⟩
 have loop:∀ s5:Shared,s5={ s2 with heap:=h4,toks:=s2.toks+([]:List (Str × Value)).length } ->
   codeAny (model X.prog X.w) X.A (.compLoop (.ListComp elt [⟨tg,iter,[cnd],0⟩] scope pos) 0 (.ref it) (.ref s2.heap.objs.size) (compEnvC scope cl H3.objs.size X.env))
    (compPost (model X.prog X.w) X.A X.xe (some (assign (.Name y py) X.env)) (λ_ s'=>SP X pins DD .next s') (.ref s2.heap.objs.size) H3.objs.size) s5:=by
  rintro s5 rfl;refine aK4 (λn s' => ∃ i σ' H',Inv (X.block scope cl H3.objs.size Nc s2 H2 fp pins) [] σ' H' s'/\tn i s'.heap/\(∀ b ∈ fp,H' b=none)/\W i n σ' H') ?_ m0 ⟨0,_,_,IB,T.keep _ _ _ st2 λb hb o e=>old b o e,λb hb=>by rw [d4 (fpD b hb)];exact (f2 b hb).1,w0⟩
  rintro n s6 ⟨i,σ6,H6,I6,st6,fr6,w6⟩;rcases turn i n σ6 H6 w6 with ⟨stop,qn⟩ | ⟨go,step⟩
  ·refine thn (T.done (X.block scope cl H3.objs.size Nc s2 H2 fp pins) rfl rfl rfl hc i [] s6 σ6 H6 _ I6 (stat fr6) st6 stop) λr s7 zq=>?_
   obtain ⟨hr,I7⟩:=zq;subst hr;obtain ⟨m7,hn7,_⟩:=id I7.loc;have Io:Inv X pins σ H6 s7:=I2.sameC (h'':=s7.heap) f2 I7.os I7.bare I7.base I7.hok hCs I7.free ⟨rfl,λ_ _=>rfl⟩;have fC:ab0 X pins H6 H3.objs.size:=I2.fpOk hCs I7.free;have fC':∀ b ∈ [H3.objs.size],ab0 X pins H6 b:=λb hb=>by rw [q0u.mp hb];exact fC
   obtain ⟨oC,esC,epC,hoC,restC⟩:=id hn7
   have obC:∀ b ∈ [H3.objs.size],∃ o,s7.heap.get? b=some o/\∀ v,o.data ≠ .cell v:=λb hb=>by
    rw [q0u.mp hb];exact ⟨oC,hoC,λv z=>an7 hn7 hoC v z⟩
   have Ip:=Io.pinned fC' obC
   show wpAny (model X.prog X.w) X.A (assign (.Name y py) X.env (.ref s2.heap.objs.size)) _ _ s7;refine thn (c9 (pos:=py) hN hi₀ hx hf _ s7 σ H6 (.ref s2.heap.objs.size) (.ref s2.heap.objs.size) DD.nx Ip rfl qn) λ_ s9 zq=>?_;obtain ⟨σ9,H9,I9,q9⟩:=zq;have keepC:=(I9.pin (H3.objs.size,oC) (q0d _ (q0d _ (k6 (by simp) hoC)))).1
   have H9C:=(I9.pin (H3.objs.size,oC) (q0d _ (q0d _ (k6 (by simp) hoC)))).2.1
   refine ⟨m7,hn7.at' λo e=>by rw [hoC] at e;cases e;exact keepC,λh' sb=>?_⟩
   obtain ⟨_,g1,g2,g3,g4,g5⟩:=fC;exact ⟨σ9,H9,I9.unpinned.turned (t':=s9.toks) (λb o hb e=>(sb.2 b hb).trans e) H9C g1 g3 g4 g5,q9⟩
  ·refine thn (T.item (X.block scope cl H3.objs.size Nc s2 H2 fp pins) rfl rfl rfl hc i [] s6 σ6 H6 _ I6 (stat fr6) st6 go) λr s7 zq=>?_
   obtain ⟨u,hr,h7⟩:=zq;subst hr;refine thn h7 λ_ s8 zq=>?_;obtain ⟨x,H8,I8,r8,y8,st8,fr8⟩:=zq;have I8':=I8.pinned (stat fr8) (T.obj _ _ st8);refine thn (hg _ _ _ _ _ _ s8 σ6 H8 x u _ I8' r8 (step x H8 y8)) λ_ s9 zq=>?_;obtain ⟨σ9,H9,I9,q9⟩:=zq;refine thn (ht _ _ _ _ _ _ s9 σ9 H9 _ I9 q9) λbb s9' zq=>?_;obtain ⟨H9',I9',q9'⟩:=zq
   cases bb with
   | false =>
    rw [if_neg (by decide)] at q9' ⊢
    obtain ⟨m',hm',w'⟩:=q9';refine ⟨m',hm',i+1,σ9,H9',I9'.unpinned,T.keep _ _ _ st8 λb hb o e=>(I9'.pin (b,o) (q0d _ (q0d _ (k6 hb e)))).1,λb hb=>?_,w'⟩;obtain ⟨o,e,d⟩:=T.obj _ _ st8 b hb;exact (I9'.pin (b,o) (q0d _ (q0d _ (k6 hb e)))).2.1
   | true =>
    rw [if_pos rfl] at q9' ⊢;refine thn (he _ _ _ _ _ _ s9' σ9 H9' _ I9' q9') λu10 s10 zq=>?_;obtain ⟨v10,H10,I10,r10,ys,hys,hlen,m',hm',w'⟩:=zq;refine thn (N4 _ s10 σ9 H10 (.ref s2.heap.objs.size) [v10] (.ref s2.heap.objs.size) [u10] (λ_ H11=>H11=upd H10 s2.heap.objs.size (.lst (ys ++ [v10]))) I10 rfl (.cons r10 .nil) ⟨_,ys,v10,rfl,rfl,hys,hlen,rfl⟩) λ_ s11 zq=>?_;obtain ⟨_,H11,I11,_,hH11⟩:=zq;subst hH11;refine ⟨m',hm',i+1,σ9,_,I11.unpinned,T.keep _ _ _ st8 λb hb o e=>(I11.pin (b,o) (q0d _ (q0d _ (k6 hb e)))).1,λb hb=>?_,w'⟩;obtain ⟨o,e,d⟩:=T.obj _ _ st8 b hb;exact (I11.pin (b,o) (q0d _ (q0d _ (k6 hb e)))).2.1
 exact codeAny_compStart_list (loop _ rfl) (T.self _ 0 _ _ _ (T.keep _ _ _ st2 λb hb o e=>old b o e) (loop _ rfl))
end
end L2
set_option maxRecDepth 100000
namespace HT
open PySem PyProof.Rows
end HT
namespace L2
open PySem PySem.Spec PyProof.Rows
end L2
set_option maxRecDepth 100000
namespace PySem
open Sem (wp)
open AutoSeq1 (wpAny_loadPart')
end PySem
namespace L2
open PySem PySem.Spec PyProof.Rows
section
variable {X:Cx}
theorem ae8 {elt tg iter:Expr} {scope:Scope} {pos spos py:Pos} {y:Str} {i₀:Nat} {cl:List (Str × Addr)} {Nc:List Str} {caps:List (Option Nat)} {wi:TI} {g:TG} {te:TE} (hN:X.N.Nodup) (hi₀:X.N[i₀]? = some y) (hx:Loc X.env.scope y) (hc:X.calm=true) (cp:ag0 X scope cl Nc caps) (hi:PI X tg iter wi)
  (hg:∀ C s₂ H₂ fp pins,PG (X.blockC scope cl C Nc s₂ H₂ fp pins) tg g) (he:∀ C s₂ H₂ fp pins,PE (X.blockC scope cl C Nc s₂ H₂ fp pins) elt te) (hs:∀ x,foldedSetIterable iter X.env x=pure x:=by intro _;rfl) (hsw:swapsWith (.ListComp elt [⟨tg,iter,[],0⟩] scope pos) (some (.Name y py)) spos.line X.env=pure true:=by rfl)
  (hf:X.fn y=true \/ X.env.scope.names.lookup y=some .local:=by first | exact .inl rfl | exact .inr rfl | assumption) :
  PS X (.Assign [.Name y py] (.ListComp elt [⟨tg,iter,[],0⟩] scope pos) spos) (aL2 (aG8 wi caps g te) (l9 i₀)):=by
 intro pins s σ H DD I h;rw [exec_Assign_Name_used _ _ _ _ hsw];refine wpAny_bind (wpAny_standAt (wpAny_bind ?_))
 show wpAny _ X.A (do let _ <- comprehension (.ListComp elt [⟨tg,iter,[],0⟩] scope pos) scope X.env _ (newList []) false (eval iter X.env) (some (assign (.Name y py) X.env))) _ _ s
 refine wpAny_bind (wpAny_mono (wpAny_comprehension_free (use:=some (assign (.Name y py) X.env)) (Q:=λ_ s'=>SP X pins DD .next s') rfl hs cp.clos cp.kind cp.names ?_) (λ_ s' hq=>wpAny_pure (wpAny_pure hq)) λ_ _ e=>e);refine thn (hi pins s σ H _ I h) λv s1 h1=>thn h1 λitv s2 h2=>?_;obtain ⟨it,fp,tn,J,H2,e,I2,T,st2,f2,hW⟩:=h2;subst e;refine wpAny_newObj_type ?_ (by show 0<=sizeLine;exact z0n _)
 refine N8 ?_
 dsimp only
 generalize hH3:s2.heap.push { cls:=.type "list",dict:=none,data:=.seq ([]:List Value).toArray }=H3
 have hCe:H3.objs.size=s2.heap.objs.size+1:=by rw [<- hH3,z0m]
 have M1:∀ b o,s2.heap.get? b=some o->b ≠ H3.objs.size:=λb o e=>by rw [hCe];exact q0m (y0v (q0c e))
 have hns0:=(Heap.Ns.new H3 (.type "dict")).keeps (pushCells_keeps scope.names _)
 have old0:∀ b o,s2.heap.get? b=some o->(pushCells (H3.push { cls:=.type "dict",data:=.dict #[] }) scope.names).get? b=some o:=λb o e=>pushCells_keeps _ _ b o (q0e _ (hH3 ▸ q0e _ e))
 have hD0:(pushCells (H3.push { cls:=.type "dict",data:=.dict #[] }) scope.names).get? s2.heap.objs.size=some { cls:=.type "list",dict:=none,data:=.seq ([]:List Value).toArray } :=
  pushCells_keeps _ _ _ _ (q0e _ (hH3 ▸ z0a _ rfl))
 have own:=ah2 scope.names (H3.push { cls:=.type "dict",data:=.dict #[] }) cl (λx c e=>by
   obtain ⟨v,o,ho,hd⟩:=I2.cell x c (cp.sub x c e);exact ⟨v,o,q0e _ (hH3 ▸ q0e _ ho),hd⟩) (λx y c h1 h2=>I2.ok.inj x y c (cp.sub x c h1) (cp.sub y c h2))
 rw [z0m] at own;generalize hh4:pushCells (H3.push { cls:=.type "dict",data:=.dict #[] }) scope.names=h4 at own hns0 old0 hD0 ⊢
 have hns:=hns0;have old:=old0;have hD:=hD0;have isOld:∀ x c,(cellsFrom (H3.objs.size+1) scope.names cl).lookup x=some c->X.env.cells.lookup x=some c \/ H3.objs.size+1<=c:=λx c e=>(own.old x c e).imp (cp.sub x c) λz=>by rw [z0m] at z;exact z
 have hDn:H2 s2.heap.objs.size=none:=I2.fresh;have hCn:H2 H3.objs.size=none:=I2.hok.fresh (by rw [hCe];exact j0k _)
 have hCs:s2.heap.objs.size<=H3.objs.size:=by rw [hCe];exact j0k _
 have hDC:s2.heap.objs.size ≠ H3.objs.size:=by rw [hCe];exact q0m (j0f _)
 have fpl:∀ b ∈ fp,∃ o,s2.heap.get? b=some o:=λb hb=>let ⟨o,e,_⟩:=T.obj _ _ st2 b hb;⟨o,e⟩;have fpC:∀ b ∈ fp,b ≠ H3.objs.size:=λb hb=>let ⟨o,e⟩:=fpl b hb;M1 b o e;have fpD:∀ b ∈ fp,b ≠ s2.heap.objs.size:=λb hb=>let ⟨o,e⟩:=fpl b hb;q0m (q0c e);have stkN:∀ b,b ≠ X.env.locals->b ∉ X.fs->b ∉ frs X.stack:=λb h1 h2 z=>(z0d.mp (I2.stkSub b z)).elim h1 h2
 have fpX:∀ b ∈ fp,∀ x c,(cellsFrom (H3.objs.size+1) scope.names cl).lookup x=some c->c ≠ b:=λb hb x c h=>by
  rcases isOld x c h with z | z
  ·exact (f2 b hb).2.2.2.2.1 x c z
  ·obtain ⟨o,e⟩:=fpl b hb
   exact y0e (q0b (q0c e) (q0q (q0q hCs (j0k _)) z))
 obtain ⟨W,⟨m0,w0⟩,turn⟩:=hW s2.heap.objs.size hDn
 have okB:(X.blockC scope cl H3.objs.size Nc s2 H2 fp pins).Ok:=by
  refine ⟨I2.ok.mod,?_,I2.ok.glob,I2.ok.blt,hCs,λx y c h1 h2=>own.inj x y c h1 h2,λx hx=>cp.has _ x hx,λx c h e=>q0q (q0q hCs (j0k _)) (by have z:=own.fresh x (aE2 h) c e;rw [z0m] at z;exact z),I2.ok.hd,I2.ok.frames,.inl rfl,λb hb=>⟨fpC b hb,λx c h=>fpX b hb x c h⟩,I2.bs,q0q I2.ok.bsz I2.sz,λb o e hb=>?_,λb hb=>stkN b (f2 b hb).2.1 (f2 b hb).2.2.1,I2.stack,I2.stkFree⟩
  ·exact cp.kind
  ·rcases (f2 b hb).2.2.2.1 with z | z
   ·exact I2.ok.noex b o e z
   ·exact absurd (q0b (q0c e) (q0q I2.ok.bsz z)) (j0p _)
 have hokB:HOk X.prog X.w (upd H2 s2.heap.objs.size (.lst [])) h4:=I2.hok.laid old (q0h _) ⟨z0n _,[],_,.nil,hD⟩
 have IB:Inv (X.blockC scope cl H3.objs.size Nc s2 H2 fp pins) [] (C6 caps σ) (upd H2 s2.heap.objs.size (.lst [])) { s2 with heap:=h4 }:=by
  refine ⟨okB,rfl,I2.bare,Un.laid old (q0h _) hDn,⟨_,hns,λi x v e1 e2 e3=>?_⟩,λx c e=>?_,(show upd H2 s2.heap.objs.size (.lst []) H3.objs.size=none by rw [d4 (Ne.symm hDC)];exact hCn),λx c e=>?_,λp hp=>?_,hokB,?_⟩
  ·unfold C6 at e2
   rw [z0c] at e2
   cases hcap:caps[i]? with
   | none=>rw [hcap] at e2;cases e2
   | some o =>
    rw [hcap] at e2
    cases o with
    | none=>cases e2
    | some j =>
     have hj:σ[j]? = some (some v):=by
      have e2':(σ[j]?).join=some v:=Option.some.inj e2
      cases q:σ[j]? with
      | none=>rw [q] at e2';cases e2'
      | some z=>rw [q] at e2';exact congrArg some e2'
     obtain ⟨n1,n2,n3,n4,n5,n6⟩:=cp.cap i j x hcap e1;obtain ⟨m,hm,hl⟩:=I2.loc;obtain ⟨u,r,q⟩:=hl j x v n1 hj n2;rcases q with ⟨k,_⟩ | ⟨k,c,ec,z⟩
     ·exact absurd k n3
     ·obtain ⟨c',ec'⟩:=n5
      have:=cp.sub x c' ec';rw [ec] at this;cases this;obtain ⟨oc,ho,hd⟩:=z;exact ⟨u,r,.inr ⟨n4,c,n6 _ _ ec',oc,old _ _ ho,hd⟩⟩
  ·exact own.cell x c e
  ·show upd H2 s2.heap.objs.size (.lst []) c=none
   rcases isOld x c e with z | z
   ·obtain ⟨v,oc,ho,hd⟩:=I2.cell x c z
    rw [d4 (q0m (q0c ho))];exact I2.freeC x c z
   ·have hz:s2.heap.objs.size<c:=q0b (q0s hCs (j0f _)) z
    rw [d4 (y0e hz)];exact I2.hok.fresh (y0d hz)
  ·have hp':p ∈ X.pn ++ pins:=by simpa using hp
   obtain ⟨e1,e2,e3,e4,e5⟩:=I2.pin p hp';exact ⟨old _ _ e1,by rw [d4 (q0m (q0c e1))];exact e2,M1 _ _ e1,stkN _ e3 e4,e5⟩
  ·show (C6 caps σ).length=Nc.length
   unfold C6;rw [q0g];exact cp.len
 have stat:∀ {H':Hp},(∀ b ∈ fp,H' b=none)->∀ b ∈ fp,ab0 (X.blockC scope cl H3.objs.size Nc s2 H2 fp pins) [] H' b:=λhn b hb =>
  ⟨hn b hb,fpC b hb,stkN b (f2 b hb).2.1 (f2 b hb).2.2.1,.inl hb,λx c h=>fpX b hb x c h,λp hp=>(f2 b hb).2.2.2.2.2 p (by simpa using hp)⟩
 have loop:∀ s5:Shared,s5={ s2 with heap:=h4 } ->
   codeAny (model X.prog X.w) X.A (.compLoop (.ListComp elt [⟨tg,iter,[],0⟩] scope pos) 0 (.ref it) (.ref s2.heap.objs.size) (compEnvC scope (cellsFrom (H3.objs.size+1) scope.names cl) H3.objs.size X.env))
    (compPost (model X.prog X.w) X.A X.xe (some (assign (.Name y py) X.env)) (λ_ s'=>SP X pins DD .next s') (.ref s2.heap.objs.size) H3.objs.size) s5:=by
  rintro s5 rfl;refine ah1 (λn s' => ∃ i σ' H',Inv (X.blockC scope cl H3.objs.size Nc s2 H2 fp pins) [] σ' H' s'/\tn i s'.heap/\(∀ b ∈ fp,H' b=none)/\W i n σ' H') ?_ m0 ⟨0,_,_,IB,T.keep _ _ _ st2 λb hb o e=>old b o e,λb hb=>by rw [d4 (fpD b hb)];exact (f2 b hb).1,w0⟩
  rintro n s6 ⟨i,σ6,H6,I6,st6,fr6,w6⟩;rcases turn i n σ6 H6 w6 with ⟨stop,qn⟩ | ⟨go,step⟩
  ·refine thn (T.done (X.blockC scope cl H3.objs.size Nc s2 H2 fp pins) rfl rfl rfl hc i [] s6 σ6 H6 _ I6 (stat fr6) st6 stop) λr s7 zq=>?_
   obtain ⟨hr,I7⟩:=zq;subst hr;obtain ⟨m7,hn7,_⟩:=id I7.loc;have Io:Inv X pins σ H6 s7:=I2.sameC (h'':=s7.heap) f2 I7.os I7.bare I7.base I7.hok hCs I7.free ⟨rfl,λ_ _=>rfl⟩;have fC:ab0 X pins H6 H3.objs.size:=I2.fpOk hCs I7.free;have fC':∀ b ∈ [H3.objs.size],ab0 X pins H6 b:=λb hb=>by rw [q0u.mp hb];exact fC
   obtain ⟨oC,esC,epC,hoC,restC⟩:=id hn7
   have obC:∀ b ∈ [H3.objs.size],∃ o,s7.heap.get? b=some o/\∀ v,o.data ≠ .cell v:=λb hb=>by
    rw [q0u.mp hb];exact ⟨oC,hoC,λv z=>an7 hn7 hoC v z⟩
   have Ip:=Io.pinned fC' obC
   show wpAny (model X.prog X.w) X.A (assign (.Name y py) X.env (.ref s2.heap.objs.size)) _ _ s7;refine thn (c9 (pos:=py) hN hi₀ hx hf _ s7 σ H6 (.ref s2.heap.objs.size) (.ref s2.heap.objs.size) DD.nx Ip rfl qn) λ_ s9 zq=>?_;obtain ⟨σ9,H9,I9,q9⟩:=zq;have keepC:=(I9.pin (H3.objs.size,oC) (q0d _ (q0d _ (k6 (by simp) hoC)))).1
   have H9C:=(I9.pin (H3.objs.size,oC) (q0d _ (q0d _ (k6 (by simp) hoC)))).2.1
   refine ⟨m7,hn7.at' λo e=>by rw [hoC] at e;cases e;exact keepC,λh' sb=>?_⟩
   obtain ⟨_,g1,g2,g3,g4,g5⟩:=fC;exact ⟨σ9,H9,I9.unpinned.turned (t':=s9.toks) (λb o hb e=>(sb.2 b hb).trans e) H9C g1 g3 g4 g5,q9⟩
  ·refine thn (T.item (X.blockC scope cl H3.objs.size Nc s2 H2 fp pins) rfl rfl rfl hc i [] s6 σ6 H6 _ I6 (stat fr6) st6 go) λr s7 zq=>?_
   obtain ⟨u,hr,h7⟩:=zq;subst hr;refine thn h7 λ_ s8 zq=>?_;obtain ⟨x,H8,I8,r8,y8,st8,fr8⟩:=zq;have I8':=I8.pinned (stat fr8) (T.obj _ _ st8);refine thn (hg _ _ _ _ _ _ s8 σ6 H8 x u _ I8' r8 (step x H8 y8)) λ_ s9 zq=>?_;obtain ⟨σ9,H9,I9,q9⟩:=zq;refine thn (he _ _ _ _ _ _ s9 σ9 H9 _ I9 q9) λu10 s10 zq=>?_;obtain ⟨v10,H10,I10,r10,ys,hys,hlen,m',hm',w'⟩:=zq;refine thn (N4 _ s10 σ9 H10 (.ref s2.heap.objs.size) [v10] (.ref s2.heap.objs.size) [u10] (λ_ H11=>H11=upd H10 s2.heap.objs.size (.lst (ys ++ [v10]))) I10 rfl (.cons r10 .nil) ⟨_,ys,v10,rfl,rfl,hys,hlen,rfl⟩) λ_ s11 zq=>?_;obtain ⟨_,H11,I11,_,hH11⟩:=zq;subst hH11;refine ⟨m',hm',i+1,σ9,_,I11.unpinned,T.keep _ _ _ st8 λb hb o e=>(I11.pin (b,o) (q0d _ (q0d _ (k6 hb e)))).1,λb hb=>?_,w'⟩;obtain ⟨o,e,d⟩:=T.obj _ _ st8 b hb;exact (I11.pin (b,o) (q0d _ (q0d _ (k6 hb e)))).2.1
 exact codeAny_compStart_list (loop _ rfl) (T.self _ 0 _ _ _ (T.keep _ _ _ st2 λb hb o e=>old b o e) (loop _ rfl))
end
end L2
set_option maxRecDepth 100000
namespace R
open PySem L2 PyProof.Rows
def top (i:Nat):Stmt:=PySem.Challenge.pw_restward_k34_tables_and_polynomials.main.body.getD i (.Pass ⟨0,0,0,0⟩)
end R
set_option maxRecDepth 100000
local macro_rules | `(tactic| simp! [$ls,*]) => do
  let a <- ("L2.bl8 L2.ipM L2.aL1 L2.aV3 L2.bd1 L2.aL8 ay0 L2.aZ6 L2.aG7 L2.ar9 L2.bf3 L2.bj5 L2.tSl L2.bi6 L2.ak2 L2.V8 L2.ak8 L2.bj6 L2.aD8 L2.aJ1 L2.C6 j0d List.map_nil Option.bind_none Option.bind_some Option.join_some L2.bc4 L2.bi8 L2.bj1 L2.tOr L2.bi7 L2.aO4 L2.tB L2.tOp L2.tUn L2.bi9 L2.tBM L2.G2 L2.tC L2.tCB L2.bc5 L2.aL2 L2.l9 L2.aN0 L2.T6 L2.r6 L2.T9 L2.J1 L2.ae4 L2.bc6 L2.bi5 L2.aR8 L2.tIf L2.aV8 L2.aV4 L2.ar8 L2.aB9 L2.aV6 L2.aV5 L2.aL0 L2.aK9 L2.bj0 L2.rI L2.rI0 L2.rU L2.aD7 L2.ae3 L2.aS4 L2.as5 L2.rEq L2.rNe L2.aM0 L2.aL9 L2.aL7 L2.bj7 L2.aD6 L2.aZ8 L2.aZ7 L2.au6 L2.aq8 L2.cxR L2.cxX L2.Cx.nox L2.Cx.wish L2.Cx.body L2.Cx.suite g0x v0c List.set_cons_zero List.set_cons_succ Option.some.injEq L2.V.int.injEq L2.V.bl.injEq L2.V.ref.injEq L2.V.str.injEq exists_eq_left' exists_eq_left exists_and_left true_and and_true List.cons.injEq reduceCtorEq Bool.false_eq_true if_false if_true exists_const L2.tyV j0v List.length_nil exists_eq u0n List.cons_append List.nil_append decide_eq_true_eq not_true_eq_false not_false_eq_true v0g decide_eq_false_iff_not Bool.not_true Bool.not_false and_assoc false_and false_or or_false".splitOn " ").toArray.mapM λs => `(Lean.Parser.Tactic.simpLemma| $(Lean.mkIdent s.toName):ident)
  let b:=ls.getElems.map λx=>(⟨x.raw⟩:Lean.TSyntax `Lean.Parser.Tactic.simpLemma)
  let c:=a ++ b
  `(tactic| simp only [↓reduceIte,$[$c],*])
local macro_rules | `(tactic| subst_eqs) => `(tactic| simp! [])
local macro_rules | `(tactic| and_intros) => `(tactic| exact ⟨rfl, rfl, rfl, by decide +kernel, rfl, by decide +kernel, by decide +kernel⟩)
namespace R
open PySem L2 PyProof.Rows
section
variable {P:Program} {w:World} {K:q0a} {mg:Str->Option Value} {base:Heap}
def ak5:Sp:=λvs H Q _ => ∃ a b:Int,vs=[.int a,.int b]/\(a.natAbs<2 ^ 6000 \/ b.natAbs<2 ^ 6000)/\Q (.int (q0w a b)) H
abbrev M9:Stmt:=top 25
theorem Y9:i9 ["one","other"] ["one","other"] (c6 M9):=by and_intros
theorem al5 {f:Addr} (d:Df K mg "common_divisor" M9 ["one","other"] f) (c_SHORT:∃ t,mg "SHORT" = some (.int 6000 t)) (n_abs:mg "abs" = none):Def P w K mg base CX0 1 "common_divisor" f ["one","other"] ak5:=by
  obtain ⟨tS,c_SHORT⟩:=c_SHORT;refine d.ok (N:=["one","other"]) Y9 (λvs H Q E ⟨a,b,h,_⟩=>by rw [h];rfl) (λcdv A outer s H vs Q E hr h=>?_)
  obtain ⟨a,b,rfl,hab,q⟩:=h
  refine ⟨_, (b9 (A4 (PW.pt (aD9 (j1 ae2 (aE1 PySem.F.plainAttrs_int PySem.F.slot_int_bit_length PySem.F.type_int_bit_length az6 (pv 1)) (A0 (v := .int 6000) rfl c_SHORT ⟨_, rfl⟩) (i5 _)) (ar0 (j1 ae2 (aE1 PySem.F.plainAttrs_int PySem.F.slot_int_bit_length PySem.F.type_int_bit_length az6 (pv 0)) (A0 (v := .int 6000) rfl c_SHORT ⟨_, rfl⟩) (i5 _))))) (c7 as6) m6)
      (b9 (al0 PassesOwn.never (aW5 (pv 1) (λ_=>rfl)) (c7 (aM2 (i:=0) (j:=1) rfl Y9.nd rfl rfl (by decide) rfl rfl (a8 (pv 1) (a8 (d2 P0 (pv 0) (pv 1)) b6)) rfl)))
      (c7 (i7 (g8 ac3 rfl n_abs (by decide +kernel) (a8 (pv 0) b6)))))),?_⟩
  rw [show start ["one","other"] [.int a,.int b]=[some (.int a),some (.int b)] from rfl]
  have hno:¬ ((6000:Int)<Builtin.Int.intBits b/\(6000:Int)<Builtin.Int.intBits a):=by
    rintro ⟨h1,h2⟩;rcases hab with z | z
    · have:=S9 z;omega
    · have:=S9 z;omega
  have main : ∀ {D : ak1} , (∀ x : Int, ∀ y : Int, y = 0 → Int.gcd x y = Int.gcd a b → D.nx [some (.int x), some (.int y)] H) → aB8 (fun σ H_1 Q => G2 1 σ H_1 fun x H' => ∃ k, bg8 K x H' k ∧ Q k H')
      (bc6 0 1 (J1 (G2 1) (J1 (tOp (rI (λx j=>j ≠ 0) λi j=>V.int (i.fmod j)) (G2 0) (G2 1)) ae4))) D [some (.int a),some (.int b)] H:=by
    intro D hD;refine aG5 (λσ H1=>H1=H/\∃ x y:Int,σ=[some (.int x),some (.int y)]/\Int.gcd x y=Int.gcd a b) (λσ _=>match σ with | [_,some (.int y)]=>y.natAbs | _=>0) ⟨rfl,a,b,rfl,rfl⟩ ?_ ?_
    · rintro σ H1 ⟨rfl,x,y,rfl,hg⟩
      simp! [bg8]
      split
      · rename_i hy
        have hy':y ≠ 0:=by simpa using hy
        exact ⟨hy',by rw [aJ2];exact hg,af2 x hy'⟩
      · rename_i hy
        have hy':y=0:=by simpa using hy
        exact hD x y hy' hg
    · intro σ H1 Q Q' hQ h
      obtain ⟨v,e1,k,e2,e3⟩:=h;exact ⟨v,e1,k,e2,hQ _ _ e3⟩
  have fin:∀ x y:Int,y=0->Int.gcd x y=Int.gcd a b->Q (.int (if x<0 then -x else x)) H:=λx y hy hg=>by
    subst hy
    have e:(if x<0 then -x else x)=(Int.gcd a b:Int):=by
      rw [<- hg,Int.gcd_zero_right]
      split <;> omega
    rw [e];exact q
  have nxt:∀ x y:Int,y=0->Int.gcd x y=Int.gcd a b->(bc5 (tCB (λxs H Q => ∃ i,xs=[V.int i]/\Q (V.int (if i<0 then -i else i)) H) (J1 (G2 0) ae4)) { nx:=λx H'=>Q V.non H',rt:=Q }) [some (.int x),some (.int y)] H:=λx y hy hg=>by
    subst_eqs
    exact fin x y hy hg
  subst_eqs
  split
  · split
    · exact hno ⟨‹_›,‹_›⟩
    · exact main nxt
  · exact main nxt
def ay7 (K:q0a) (op:Rat->Rat->Rat):Sp:=λvs H Q _ => ∃ (x y:V) (p q:Rat),vs=[x,y]/\Num K H x p/\Num K H y q/\Bd6 p/\Bd6 q/\ak0 H Q (op p q)
abbrev aD3:Stmt:=top 27
theorem W4:i9 ["one","other","shared","rest","top","again","one_top","one_bottom","other_top","other_bottom"] ["one","other"] (c6 aD3):=by and_intros
theorem be3 {f fc:Addr} (d:Df K mg "plus" aD3 ["one","other"] f) (G_common_divisor:Def P w K mg base CX0 1 "common_divisor" fc ["one","other"] ak5):Def P w K mg base CX0 2 "plus" f ["one","other"] (ay7 K (· + ·)):=by
  refine d.ok (N:=["one","other","shared","rest","top","again","one_top","one_bottom","other_top","other_bottom"]) W4 (λvs H Q E ⟨x,y,p,q,h,_⟩=>by rw [h];rfl) (λcdv A outer s H vs Q E hr h=>?_)
  obtain ⟨x,y,p,q,rfl,⟨ap,rfl,hp⟩,⟨aq,rfl,hq⟩,bp,bq,k⟩:=h
  refine ⟨_, (b9 (E5 (pv 0) (show PG _ _ (T6 K 2 (r6 (l9 6) (r6 (l9 7) T9))) from by (refine C2 (n := 2) ?_ ?_ ?_ ?_; rfl; (refine i4 ?_ ?_ ?_; (exact (c9 (i := 6) W4.nd rfl (Or.inl rfl))); (refine i4 ?_ ?_ ?_; (exact (c9 (i := 7) W4.nd rfl (Or.inl rfl))); (exact y3); rfl); rfl); rfl; rfl)))
      (b9 (E5 (pv 1) (show PG _ _ (T6 K 2 (r6 (l9 8) (r6 (l9 9) T9))) from by (refine C2 (n:=2) ?_ ?_ ?_ ?_;rfl;(refine i4 ?_ ?_ ?_;(exact (c9 (i:=8) W4.nd rfl (Or.inl rfl)));(refine i4 ?_ ?_ ?_;(exact (c9 (i:=9) W4.nd rfl (Or.inl rfl)));(exact y3);rfl);rfl);rfl;rfl)))
      (b9 (h9 (i:=2) W4.nd rfl (Or.inl rfl) (c8 G_common_divisor hr (a8 (pv 7) (a8 (pv 9) b6)) g9))
      (b9 (h9 (i:=3) W4.nd rfl (Or.inl rfl) (d2 A6 (pv 7) (pv 2)))
      (b9 (h9 (i:=4) W4.nd rfl (Or.inl rfl) (d2 y0 (d2 t3 (pv 6) (d2 A6 (pv 9) (pv 2))) (d2 t3 (pv 8) (pv 3))))
      (b9 (h9 (i:=5) W4.nd rfl (Or.inl rfl) (c8 G_common_divisor hr (a8 (pv 4) (a8 (pv 2) b6)) g9))
      (c7 (i7 (j2 (a8 (d2 A6 (pv 4) (pv 5)) (a8 (d2 t3 (pv 3) (d2 A6 (pv 9) (pv 5))) b6))))))))))),?_⟩
  rw [show start ["one","other","shared","rest","top","again","one_top","one_bottom","other_top","other_bottom"] [.ref ap,.ref aq]=[some (.ref ap),some (.ref aq),none,none,none,none,none,none,none,none] from rfl]
  simp! [ak5]
  refine ⟨_,hp,rfl,?_⟩
  simp! [t4,ak5]
  refine ⟨_,hq,rfl,?_⟩
  simp! [t4,ak5]
  have dp:=p8 p;have dq:=p8 q;have gp:=G9 (t:=(p.den:Int)) (b:=(q.den:Int)) ⋯;have bdp:((p.den:Int)).natAbs<2 ^ 6000:=by rw [Int.natAbs_natCast];exact bp.d
  have bdq:((q.den:Int)).natAbs<2 ^ 6000:=by rw [Int.natAbs_natCast];exact bq.d
  have gl:(((Int.gcd p.den q.den:Nat):Int)).natAbs<2 ^ 6000:=aj7 ⋯ bdq;have gd1:((Int.gcd p.den q.den:Nat):Int) ∣ p.den:=Int.gcd_dvd_left _ _;have gd2:((Int.gcd p.den q.den:Nat):Int) ∣ q.den:=Int.gcd_dvd_right _ _;have f1:=X4 ⋯ gd1;have f2:=X4 ⋯ gd2;have dv1:∀ i,ag1 i ((Int.gcd p.den q.den:Nat):Int):=λi=>aa3 ⋯ (V6 gl);have R:=bd7 (a:=p.num) (b:=p.den) (c:=q.num) (d:=q.den) dp dq (ag5 p) (ag5 q) rfl rfl rfl;obtain ⟨t,ht⟩:∃ t,t=p.num*(q.den:Int).fdiv ((Int.gcd p.den q.den:Nat):Int)+q.num*(p.den:Int).fdiv ((Int.gcd p.den q.den:Nat):Int):=⟨_,rfl⟩;rw [<- ht] at R ⊢;have hp0:=G9 (t:=t) (b:=((Int.gcd p.den q.den:Nat):Int)) ⋯;have hl:=aj7 (a:=t) (b:=((Int.gcd p.den q.den:Nat):Int)) ⋯ gl;have dv2:∀ i,ag1 i ((Int.gcd t ((Int.gcd p.den q.den:Nat):Int):Nat):Int):=λi=>aa3 ⋯ (V6 hl);have hd2:((Int.gcd t ((Int.gcd p.den q.den:Nat):Int):Nat):Int) ∣ q.den:=Int.dvd_trans (Int.gcd_dvd_right _ _) gd2;have f3:=X4 ⋯ hd2;have m1:IntMulOk p.num ((q.den:Int).fdiv ((Int.gcd p.den q.den:Nat):Int)):=Q4 bp.n (Nat.lt_of_le_of_lt f2 bdq);have m2:IntMulOk q.num ((p.den:Int).fdiv ((Int.gcd p.den q.den:Nat):Int)):=Q4 bq.n (Nat.lt_of_le_of_lt f1 bdp);have m3:IntMulOk ((p.den:Int).fdiv ((Int.gcd p.den q.den:Nat):Int)) ((q.den:Int).fdiv ((Int.gcd t ((Int.gcd p.den q.den:Nat):Int):Nat):Int)):=Q4 (Nat.lt_of_le_of_lt f1 bdp) (Nat.lt_of_le_of_lt f3 bdq);refine ⟨.inl (V6 bdp),dv1 _,dv1 _,m1,m2,.inr (V6 gl),dv2 _,dv2 _,m3,t9,λr hr'=>?_⟩;obtain ⟨e1,e2⟩:=N5 R.1 R.2.1 (show (p.den:Int)*q.den ≠ 0 from Int.ne_of_gt (Int.mul_pos dp dq)) R.2.2;rw [<- av8] at e1 e2;exact k r _ (c5.new hr' _) (by rw [b8];unfold t4;rw [e1,e2])
abbrev aD5:Stmt:=top 28
theorem aC7:i9 ["one","other","top","bottom"] ["one","other"] (c6 aD5):=by and_intros
theorem be5 {f fp:Addr} (d:Df K mg "less" aD5 ["one","other"] f) (G_plus:Def P w K mg base CX0 2 "plus" fp ["one","other"] (ay7 K (· + ·))):Def P w K mg base CX0 3 "less" f ["one","other"] (ay7 K (· - ·)):=by
  refine d.ok (N:=["one","other","top","bottom"]) aC7 (λvs H Q E ⟨x,y,p,q,h,_⟩=>by rw [h];rfl) (λcdv A outer s H vs Q E hr h=>?_)
  obtain ⟨x,y,p,q,rfl,⟨ap,rfl,hp⟩,⟨aq,rfl,hq⟩,bp,bq,k⟩:=h
  refine ⟨_, (b9 (E5 (pv 1) (show PG _ _ (T6 K 2 (r6 (l9 2) (r6 (l9 3) T9))) from by (refine C2 (n := 2) ?_ ?_ ?_ ?_; rfl; (refine i4 ?_ ?_ ?_; (exact (c9 (i := 2) aC7.nd rfl (Or.inl rfl))); (refine i4 ?_ ?_ ?_; (exact (c9 (i := 3) aC7.nd rfl (Or.inl rfl))); (exact y3); rfl); rfl); rfl; rfl)))
      (c7 (i7 (c8 G_plus hr (a8 (pv 0) (a8 (j2 (a8 (ae9 Y1 (pv 2)) (a8 (pv 3) b6))) b6)) g9)))),?_⟩
  rw [show start ["one","other","top","bottom"] [.ref ap,.ref aq]=[some (.ref ap),some (.ref aq),none,none] from rfl]
  subst_eqs
  refine ⟨_,hq,rfl,?_⟩
  simp! [t4]
  refine ⟨t9,λr hr'=>?_⟩;refine ⟨.ref ap,.ref r,p,-q,rfl,⟨ap,rfl,(c5.new hr' _).tup hp⟩,⟨r,rfl,SqT.of (by rw [b8];rfl)⟩,bp,⟨by rw [Rat.neg_num,Int.natAbs_neg];exact bq.n,bq.d⟩,λr2 H2 s2 h2=>?_⟩
  have e:p + -q=p-q:=by grind
  have h3:H2 r2=some (.tup (t4 (p-q))):=by rw [<- e];exact h2
  exact k r2 H2 ((c5.new hr' _).trans s2) h3
abbrev aq9:Stmt:=top 29
theorem U8:i9 ["one","other","first","second","top","one_top","one_bottom","other_top","other_bottom"] ["one","other"] (c6 aq9):=by and_intros
theorem aY0 {f fc:Addr} (d:Df K mg "times" aq9 ["one","other"] f) (G_common_divisor:Def P w K mg base CX0 1 "common_divisor" fc ["one","other"] ak5):Def P w K mg base CX0 2 "times" f ["one","other"] (ay7 K (· * ·)):=by
  refine d.ok (N:=["one","other","first","second","top","one_top","one_bottom","other_top","other_bottom"]) U8 (λvs H Q E ⟨x,y,p,q,h,_⟩=>by rw [h];rfl) (λcdv A outer s H vs Q E hr h=>?_)
  obtain ⟨x,y,p,q,rfl,⟨ap,rfl,hp⟩,⟨aq,rfl,hq⟩,bp,bq,k⟩:=h
  refine ⟨_, (b9 (E5 (pv 0) (show PG _ _ (T6 K 2 (r6 (l9 5) (r6 (l9 6) T9))) from by (refine C2 (n := 2) ?_ ?_ ?_ ?_; rfl; (refine i4 ?_ ?_ ?_; (exact (c9 (i := 5) U8.nd rfl (Or.inl rfl))); (refine i4 ?_ ?_ ?_; (exact (c9 (i := 6) U8.nd rfl (Or.inl rfl))); (exact y3); rfl); rfl); rfl; rfl)))
      (b9 (E5 (pv 1) (show PG _ _ (T6 K 2 (r6 (l9 7) (r6 (l9 8) T9))) from by (refine C2 (n:=2) ?_ ?_ ?_ ?_;rfl;(refine i4 ?_ ?_ ?_;(exact (c9 (i:=7) U8.nd rfl (Or.inl rfl)));(refine i4 ?_ ?_ ?_;(exact (c9 (i:=8) U8.nd rfl (Or.inl rfl)));(exact y3);rfl);rfl);rfl;rfl)))
      (b9 (h9 (i:=2) U8.nd rfl (Or.inl rfl) (c8 G_common_divisor hr (a8 (pv 5) (a8 (pv 8) b6)) g9))
      (b9 (h9 (i:=3) U8.nd rfl (Or.inl rfl) (c8 G_common_divisor hr (a8 (pv 7) (a8 (pv 6) b6)) g9))
      (b9 (h9 (i:=4) U8.nd rfl (Or.inl rfl) (d2 t3 (d2 A6 (pv 5) (pv 2)) (d2 A6 (pv 7) (pv 3))))
      (c7 (i7 (j2 (a8 (pv 4) (a8 (d2 t3 (d2 A6 (pv 6) (pv 3)) (d2 A6 (pv 8) (pv 2))) b6)))))))))),?_⟩
  rw [show start ["one","other","first","second","top","one_top","one_bottom","other_top","other_bottom"] [.ref ap,.ref aq]=[some (.ref ap),some (.ref aq),none,none,none,none,none,none,none] from rfl]
  simp! [ak5]
  refine ⟨_,hp,rfl,?_⟩
  simp! [t4,ak5]
  refine ⟨_,hq,rfl,?_⟩
  simp! [t4,ak5]
  have dp:=p8 p;have dq:=p8 q;have bdp:((p.den:Int)).natAbs<2 ^ 6000:=by rw [Int.natAbs_natCast];exact bp.d
  have bdq:((q.den:Int)).natAbs<2 ^ 6000:=by rw [Int.natAbs_natCast];exact bq.d
  have p1:=G9 (t:=p.num) (b:=(q.den:Int)) ⋯;have p2:=G9 (t:=q.num) (b:=(p.den:Int)) ⋯;have l1:((Int.gcd p.num q.den:Nat):Int).natAbs<2 ^ 6000:=aj7 ⋯ bdq;have l2:((Int.gcd q.num p.den:Nat):Int).natAbs<2 ^ 6000:=aj7 ⋯ bdp;have v1:∀ i,ag1 i ((Int.gcd p.num q.den:Nat):Int):=λi=>aa3 ⋯ (V6 l1);have v2:∀ i,ag1 i ((Int.gcd q.num p.den:Nat):Int):=λi=>aa3 ⋯ (V6 l2);have f1:=X4 (a:=p.num) (g:=((Int.gcd p.num q.den:Nat):Int)) ⋯ (Int.gcd_dvd_left _ _);have f2:=X4 (a:=q.num) (g:=((Int.gcd q.num p.den:Nat):Int)) ⋯ (Int.gcd_dvd_left _ _);have f3:=X4 (a:=p.den) (g:=((Int.gcd q.num p.den:Nat):Int)) ⋯ (Int.gcd_dvd_right _ _);have f4:=X4 (a:=q.den) (g:=((Int.gcd p.num q.den:Nat):Int)) ⋯ (Int.gcd_dvd_right _ _);have R:=aV2 (a:=p.num) (b:=p.den) (c:=q.num) (d:=q.den) dp dq (ag5 p) (ag5 q) rfl rfl;refine ⟨.inr (V6 bdq),.inr (V6 bdp),v1 _,v2 _,Q4 (Nat.lt_of_le_of_lt f1 bp.n) (Nat.lt_of_le_of_lt f2 bq.n),v2 _,v1 _,Q4 (Nat.lt_of_le_of_lt f3 bdp) (Nat.lt_of_le_of_lt f4 bdq),t9,λr hr'=>?_⟩;obtain ⟨e1,e2⟩:=N5 R.1 R.2.1 (show (p.den:Int)*q.den ≠ 0 from Int.ne_of_gt (Int.mul_pos dp dq)) R.2.2;rw [<- aj3] at e1 e2;exact k r _ (c5.new hr' _) (by rw [b8];unfold t4;rw [e1,e2])
def as2:Sp:=λvs H Q _ => ∃ t b:Int,vs=[.int t,.int b]/\b.natAbs<2 ^ 6000/\b ≠ 0/\ak0 H Q (z0b t b)
abbrev ac8:Stmt:=top 26
theorem ae5:i9 ["top","bottom","shared"] ["top","bottom"] (c6 ac8):=by and_intros
theorem aH9 {f fc:Addr} (d:Df K mg "fraction" ac8 ["top","bottom"] f) (G_common_divisor:Def P w K mg base CX0 1 "common_divisor" fc ["one","other"] ak5):Def P w K mg base CX0 2 "fraction" f ["top","bottom"] as2:=by
 refine d.ok (N:=["top","bottom","shared"]) ae5 (by rintro vs H Q E ⟨a,b,h,_⟩;rw [h];rfl) (λcdv A outer s H vs Q E hr h=>?_)
 obtain ⟨t,b,rfl,hb,h0,q⟩:=h
 refine ⟨_,(b9 (A4 (j1 R3 (pv 1) b7 (i5 _)) (c7 as6) m6)
   (b9 (h9 (i:=2) ae5.nd rfl (q0z rfl) (c8 G_common_divisor hr (a8 (pv 0) (a8 (pv 1) b6)) g9))
   (b9 (A4 (j1 ab6 (pv 1) b7 (i5 _)) (c7 (h9 (i:=2) ae5.nd rfl (q0z rfl) (ae9 Y1 (pv 2)))) m6)
   (c7 (i7 (j2 (a8 (d2 A6 (pv 0) (pv 2)) (a8 (d2 A6 (pv 1) (pv 2)) b6)))))))),?_⟩
 rw [show start ["top","bottom","shared"] [.int t,.int b]=[some (.int t),some (.int b),none] from rfl]
 simp! [aw2,ak5]
 rw [if_neg h0];refine ⟨.inr hb,?_⟩;have hg:=G9 (t:=t) h0;have hgl:=aj7 (a:=t) h0 hb
 by_cases hs:b<0
 ·rw [if_pos hs]
  obtain ⟨e1,e2⟩:=ao2 (t:=t) (g:=-(q0w t b:Int)) h0 (by rw [if_pos hs])
  have dv:∀ i,ag1 i (-(q0w t b:Int)):=λi=>aa3 ⋯ (by rw [v0k];exact V6 hgl)
  refine ⟨dv _,dv _,t9,λr hr'=>?_⟩;exact q r _ (c5.new hr' _) (by rw [b8];unfold t4;rw [e1,e2])
 ·rw [if_neg hs]
  obtain ⟨e1,e2⟩:=ao2 (t:=t) (g:=(q0w t b:Int)) h0 (by rw [if_neg hs])
  have dv:∀ i,ag1 i ((q0w t b:Int)):=λi=>aa3 ⋯ (V6 hgl);refine ⟨dv _,dv _,t9,λr hr'=>?_⟩;exact q r _ (c5.new hr' _) (by rw [b8];unfold t4;rw [e1,e2])
def aW0 (K:q0a):Sp:=λvs H Q _ => ∃ (x y:V) (p q:Rat),vs=[x,y]/\Num K H x p/\Num K H y q/\Bd6 p/\Bd6 q/\q ≠ 0/\ak0 H Q (p / q)
theorem aA0 (q:Rat) (h:q.num ≠ 0):(q⁻¹).num=(if q.num<0 then -(q.den:Int) else q.den)/\((q⁻¹).den:Int)=(if q.num<0 then -q.num else q.num):=by
 have dq:=p8 q;rw [q1b]
 by_cases hs:q.num<0
 ·rw [if_pos hs,if_pos hs]
  have:=N5 (n:=-(q.den:Int)) (d:=-q.num) (t:=(q.den:Int)) (b:=q.num) ⋯ (by rw [Int.gcd_neg,Int.neg_gcd,g0q];exact ag5 q) h (by rw [Int.neg_mul,u0c])
  exact ⟨this.1.symm,this.2.symm⟩
 ·rw [if_neg hs,if_neg hs]
  have:=N5 (n:=(q.den:Int)) (d:=q.num) (t:=(q.den:Int)) (b:=q.num) ⋯ (by rw [g0q];exact ag5 q) h rfl
  exact ⟨this.1.symm,this.2.symm⟩
theorem aZ5 {q:Rat} (h:q.num ≠ 0) (b:Bd6 q):Bd6 q⁻¹:=by
 obtain ⟨e1,e2⟩:=aA0 q h
 constructor
 ·rw [e1]
  split
  ·rw [v0k,q0y];exact b.d
  ·rw [q0y];exact b.d
 ·have:(q⁻¹).den=q.num.natAbs:=by split at e2 <;> omega
  rw [this];exact b.n
abbrev aD4:Stmt:=top 30
theorem aC6:i9 ["one","other","top","bottom"] ["one","other"] (c6 aD4):=by and_intros
theorem be4 {f ft:Addr} (d:Df K mg "over" aD4 ["one","other"] f) (G_times:Def P w K mg base CX0 2 "times" ft ["one","other"] (ay7 K (· * ·))):Def P w K mg base CX0 3 "over" f ["one","other"] (aW0 K):=by
  refine d.ok (N:=["one","other","top","bottom"]) aC6 (by rintro vs H Q E ⟨x,y,p,q,h,_⟩;rw [h];rfl) (λcdv A outer s H vs Q E hr h=>?_)
  obtain ⟨x,y,p,q,rfl,⟨ap,rfl,hp⟩,⟨aq,rfl,hq⟩,bp,bq,hq0,k⟩:=h
  refine ⟨_, (b9 (E5 (pv 1) (show PG _ _ (T6 K 2 (r6 (l9 2) (r6 (l9 3) T9))) from by (refine C2 (n := 2) ?_ ?_ ?_ ?_; rfl; (refine i4 ?_ ?_ ?_; (exact (c9 (i := 2) aC6.nd rfl (Or.inl rfl))); (refine i4 ?_ ?_ ?_; (exact (c9 (i := 3) aC6.nd rfl (Or.inl rfl))); (exact y3); rfl); rfl); rfl; rfl)))
      (b9 (A4 (j1 R3 (pv 2) b7 (i5 _)) (c7 as6) m6)
      (b9 (A4 (j1 ab6 (pv 2) b7 (i5 _)) (c7 (i7 (c8 G_times hr (a8 (pv 0) (a8 (j2 (a8 (ae9 Y1 (pv 3)) (a8 (ae9 Y1 (pv 2)) b6))) b6)) g9))) m6)
      (c7 (i7 (c8 G_times hr (a8 (pv 0) (a8 (j2 (a8 (pv 3) (a8 (pv 2) b6))) b6)) g9)))))),?_⟩
  rw [show start ["one","other","top","bottom"] [.ref ap,.ref aq]=[some (.ref ap),some (.ref aq),none,none] from rfl]
  simp! [aw2]
  refine ⟨_,hq,rfl,?_⟩
  simp! [t4,aw2]
  have h0:q.num ≠ 0:=λz=>hq0 (ab8.mp z);rw [if_neg h0];obtain ⟨i1,i2⟩:=aA0 q h0;rw [Rat.div_def] at k
  by_cases hs:q.num<0
  · rw [if_pos hs] at i1 i2 ⊢
    refine ⟨t9,λr hr'=>⟨.ref ap,.ref r,p,q⁻¹,rfl,⟨ap,rfl,(c5.new hr' _).tup hp⟩,⟨r,rfl,SqT.of (by rw [b8];unfold t4;rw [i1,i2])⟩,bp,aZ5 h0 bq,λr2 H2 s2 h2=>?_⟩⟩
    exact k r2 H2 ((c5.new hr' _).trans s2) h2
  · rw [if_neg hs] at i1 i2 ⊢
    refine ⟨t9,λr hr'=>⟨.ref ap,.ref r,p,q⁻¹,rfl,⟨ap,rfl,(c5.new hr' _).tup hp⟩,⟨r,rfl,SqT.of (by rw [b8];unfold t4;rw [i1,i2])⟩,bp,aZ5 h0 bq,λr2 H2 s2 h2=>?_⟩⟩
    exact k r2 H2 ((c5.new hr' _).trans s2) h2
instance {K:q0a} {H:Hp} {vs:List V} {qs:List Rat}:Coe (v9 H vs qs) (w4 K H vs qs):=⟨v9.toC⟩
theorem w4.get {K:q0a} {H:Hp}:∀ {vs:List V} {qs:List Rat} {i:Nat} {q:Rat},w4 K H vs qs->qs[i]? = some q->∃ p,vs[i]? = some (.ref p)/\NmC K H p q
 | _,_,_,_,.nil,e=>by simp at e
 | _,_,0,_,.cons h _,e=>by cases e;exact ⟨_,rfl,h⟩
 | _,_,i+1,_,.cons _ t,e=>t.get (i:=i) (by simpa using e)
theorem w4.take {K:q0a} {H:Hp}:∀ {vs:List V} {qs:List Rat} (m:Nat),w4 K H vs qs->w4 K H (vs.take m) (qs.take m)
 | _,_,0,_=>by simp only [List.take_zero];exact .nil
 | _,_,m+1,.nil=>by simp only [List.take_nil];exact .nil
 | _,_,m+1,.cons h t=>by simp only [List.take_succ_cons];exact .cons h (t.take m)
def ay6 (K:q0a):Sp:=λvs H Q _ => ∃ a xs qs,vs=[.ref a]/\SqL K H a xs/\w4 K H xs qs/\(∃ W:Nat,ClN W qs/\W<=6000)/\qs.length<=100 /\
 ∀ r l H',c5 H H'->H l=none->H' r=some (.tup [.ref l,.int (E7 qs)])->H' l=some (.lst ((N9 (E7 qs) qs).map V.int))->Q (.ref r) H'
abbrev ab5:Stmt:=top 32
theorem ac7:i9 ["numbers","bottom","number"] ["numbers"] (c6 ab5):=by and_intros
theorem aM4 {f fc:Addr} (d:Df K mg "cleared" ab5 ["numbers"] f) (G_common_divisor:Def P w K mg base CX0 1 "common_divisor" fc ["one","other"] ak5):Def P w K mg base CX0 2 "cleared" f ["numbers"] (ay6 K):=by
 refine d.ok (N:=["numbers","bottom","number"]) ac7 (by rintro vs H Q E ⟨a,b,c,h,_⟩;rw [h];rfl) (λcdv A outer s H vs Q E hr h=>?_)
 obtain ⟨a,xs,qs,rfl,hS,hN,⟨W,hs,hm⟩,hl,k⟩:=h
 refine ⟨_,(b9 (h9 (i:=1) ac7.nd rfl (j0b rfl) b7)
   (b9 (Y4 PassesOwn.never rfl (z9 (pv 0)) (c9 (i:=2) ac7.nd rfl (q0z rfl)) (c7 (h9 (i:=1) ac7.nd rfl (j0b rfl) (d2 t3 (d2 A6 (pv 1) (c8 G_common_divisor hr (a8 (pv 1) (a8 (i6 k7 (pv 2) b7 (λ_ _=>rfl)) b6)) g9)) (i6 k7 (pv 2) b7 (λ_ _=>rfl))))))
   (c7 (i7 (j2 (a8 (t5 (Nc:=["bottom","top","under"]) (caps:=[some 1,none,none]) rfl (G3.of (osc:=c6 ab5) (N:=["numbers","bottom","number"]) (ks:=["bottom"]) rfl rfl rfl rfl (i8 rfl j8) (by decide +kernel)) (z9 (pv 0)) (λC s₂ H₂ fp pins=>(show PG _ _ (T6 K 2 (r6 (l9 1) (r6 (l9 2) T9))) from by (refine C2 (n:=2) ?_ ?_ ?_ ?_;rfl;(refine i4 ?_ ?_ ?_;(exact (c9 (i:=1) (show z0q (["bottom","top","under"]:List Str) by decide +kernel) rfl (q0z rfl) (j0b rfl)));(refine i4 ?_ ?_ ?_;(exact (c9 (i:=2) (show z0q (["bottom","top","under"]:List Str) by decide +kernel) rfl (q0z rfl) (j0b rfl)));(exact y3);rfl);rfl);rfl;rfl))) (λC s₂ H₂ fp pins=>(d2 t3 (pv 1) (d2 A6 (pv 0) (pv 2))))) (a8 (pv 1) b6))))))),?_⟩
 rw [show start ["numbers","bottom","number"] [.ref a]=[some (.ref a),none,none] from rfl]
 subst_eqs
 have small:∀ q ∈ qs,q.den<2 ^ 6000:=λq hq=>q0b (hs.den hq) (d7 hm)
 have hB:∀ i,0<E7 (qs.take i)/\E7 (qs.take i)<2 ^ 6000:=λi=>by
  exact ⟨Q6 _,q0b (hs.take i) (d7 hm)⟩
 refine ⟨_,rfl,a,rfl,⟨_,hS⟩,aJ3 (xs:=xs) (λi σ H1=>H1=H/\∃ o,σ=[some (.ref a),some (.int (E7 (qs.take i):Nat)),o]) ⟨rfl,_,rfl⟩ (λi σ H1 _ ⟨e,_⟩=>e ▸ hS) ?_ ?_⟩
 ·rintro i x σ H1 hx ⟨rfl,o,rfl⟩
  obtain ⟨p,q,rfl,hq,hp⟩:=hN.getV hx;obtain ⟨b1,b2⟩:=hB i;have hd:=small q (q0v hq);have hd0:=p8 q;have es:qs.take (i+1)=qs.take i ++ [q]:=by rw [u0z,hq];rfl
  have gp:(0:Int)<(q0w (E7 (qs.take i):Int) (q.den:Int):Nat):=by
   have:=G9 (t:=(E7 (qs.take i):Int)) (b:=(q.den:Int)) ⋯;omega
  have el:(E7 (qs.take i):Int).fdiv (q0w (E7 (qs.take i):Int) (q.den:Int):Nat)*(q.den:Int)=(E7 (qs.take (i+1)):Nat):=by
   rw [es,aT2];obtain ⟨e,he⟩:=j0z (E7 (qs.take i):Int) (q.den:Int);have hg:q0w (E7 (qs.take i):Int) (q.den:Int)=Nat.gcd (E7 (qs.take i)) q.den:=by simp [q0w]
   have h1:(E7 (qs.take i):Int).fdiv (q0w (E7 (qs.take i):Int) (q.den:Int):Nat)=e:=by
    conv=>lhs;arg 1;rw [he]
    exact k8 ⋯
   rw [h1];have h2:Nat.gcd (E7 (qs.take i)) q.den*u0g (E7 (qs.take i)) q.den=E7 (qs.take i)*q.den:=Nat.gcd_mul_lcm _ _
   have h3:((Nat.gcd (E7 (qs.take i)) q.den:Nat):Int)*(u0g (E7 (qs.take i)) q.den:Nat)=(E7 (qs.take i):Int)*(q.den:Int):=by
    rw [<- j0m,h2,j0m]
   rw [<- hg] at h3
   have h4:((q0w (E7 (qs.take i):Int) (q.den:Int):Nat):Int)*(e*q.den)=((q0w (E7 (qs.take i):Int) (q.den:Int):Nat):Int)*(u0g (E7 (qs.take i)) q.den:Nat):=by
    rw [h3,<- m0s,<- he]
   exact Int.eq_of_mul_eq_mul_left ⋯ h4
  simp! [ak5]
  have hd9:(q.den:Int).natAbs<2 ^ 6000:=by rw [q0y];exact hd
  exact ⟨_,hp.sqt,_,at1 q,_,rfl,.inr (V6 hd9),aa3 ⋯ (aj7 ⋯ (V6 hd9)),_,hp.sqt,_,at1 q,_,rfl,Q4 (m:=6000) (n:=6000) (q0s (X4 ⋯ (j0z _ _)) (by rw [q0y];exact b2)) hd9,el,_,rfl⟩
 ·rintro σ H1 ⟨rfl,o,rfl⟩
  rw [<- hN.length] at hl;have e1:qs.take xs.length=qs:=by rw [hN.length,v0n]
  rw [e1]
  simp! [ak5]
  refine ⟨⟨_,hS⟩,λD hD=>?_⟩;refine C4 xs (λi σ H2 => ∃ o1 o2,σ=[some (.int (E7 qs)),o1,o2]/\c5 H1 H2/\H2 D=some (.lst ((N9 (E7 qs) (qs.take i)).map V.int))) ⟨_,_,rfl,c5.new hD _,b8⟩ (λi σ H2 _ ⟨_,_,_,s2,_⟩=>s2.seq hS) ?_ ?_
  ·rintro i x σ H2 hx ⟨o1,o2,rfl,s2,e2⟩
   have hi:=(q0f.mp hx).1;obtain ⟨p,q,rfl,hq,hp⟩:=hN.getV hx;have hd:=small q (q0v hq);have hd0:=p8 q;have hd9:(q.den:Int).natAbs<2 ^ 6000:=by rw [q0y];exact hd
   have hn9:=hs.num (q0v hq);have es:qs.take (i+1)=qs.take i ++ [q]:=by rw [u0z,hq];rfl
   subst_eqs
   refine ⟨_,s2.tup hp.sqt,rfl,_,_,rfl,_,_,rfl,rfl,?_⟩;refine ⟨_,rfl,aa3 ⋯ (V6 hd9),_,rfl,Q4 (m:=6000) (n:=6000) (q0b hn9 (d7 ⋯)) (q0s (X4 ⋯ (g0w.mpr (ae0 (q0v hq)))) (by rw [q0y];have:=(hB qs.length).2;rwa [v0n] at this)),?_⟩
   refine m8.mk hi e2 ?_ ⟨_,_,rfl,(s2.trans (c5.refl _)).over hD _,?_⟩
   ·simp only [q0g,N9,z0f]
    exact q0s (show _<=100 by omega) (by decide)
   ·rw [b8,es]
    simp [N9]
  ·rintro σ H2 ⟨o1,o2,rfl,s2,e2⟩
   rw [e1] at e2;refine ⟨t9,λp hp=>k p D _ (s2.trans (c5.new hp _)) hD b8 ?_⟩;rw [d4 (d5 e2 hp)];exact e2
abbrev ae7:Stmt:=top 34
theorem aS1:i9 ["table"] ["table"] (c6 ae7):=by and_intros
end
def hc (a:Nat->Rat) (i j:Nat):Rat:=if (i+j) % 2=1 then a i*a j else 0
def hf (a:Nat->Rat):Nat->Nat->Rat
 | 0,j=>hc a 0 (j+1)
 | i+1,j=>hc a (i+1) (j+1)-hf a i (j+1)
def pw (x:Rat):Nat->Rat
 | 0=>1
 | i+1=>pw x i*x
theorem X7 (c:Rat) (f:Nat->Rat):∀ n,c*j4 f n=j4 (λi=>c*f i) n
 | 0=>by simp [j4]
 | n+1=>by rw [j4,j4,<- X7 c f n];grind
theorem am7 (f g:Nat->Rat):∀ n,j4 f n+j4 g n=j4 (λi=>f i+g i) n
 | 0=>by simp [j4];grind
 | n+1=>by rw [j4,j4,j4,<- am7 f g n];grind
def hR (a:Nat->Rat) (n i:Nat) (y:Rat):Rat:=j4 (λj=>hf a i j*pw y j) n
def hC (a:Nat->Rat) (n i:Nat) (y:Rat):Rat:=j4 (λj=>hc a i j*pw y j) (n+1)
def sg (i:Nat):Rat:=if i % 2=0 then 1 else -1
def OvB (B W:Nat) (q:Rat):Prop:=∃ v:Int,q=z0b v B/\v.natAbs<2 ^ W
theorem OvB.mono {B V W:Nat} {q:Rat} (h:OvB B V q) (l:V<=W):OvB B W q:=let ⟨v,e,b⟩:=h;⟨v,e,q0b b (d7 l)⟩
theorem OvB.zero (B W:Nat):OvB B W 0:=⟨0,by rw [Rat.zero_divInt],m0c _⟩
theorem aX5 {W:Nat} {qs:List Rat} (h:ClN W qs) {q:Rat} (hq:q ∈ qs):OvB (E7 qs) W q :=
 ⟨_,aG3 (Q6 qs) (ae0 hq),h.w _ (j0q.mpr ⟨q,hq,rfl⟩)⟩
theorem OvB.mul {B C V W:Nat} {p q:Rat} (h:OvB B V p) (k:OvB C W q):OvB (B*C) (V+W) (p*q):=by
 obtain ⟨v,rfl,b⟩:=h;obtain ⟨u,rfl,c⟩:=k;refine ⟨v*u,by rw [y0s,j0m],?_⟩
 rw [z0j,z0p];exact z0g b c
theorem OvB.neg {B W:Nat} {q:Rat} (h:OvB B W q):OvB B W (-q):=by
 obtain ⟨v,rfl,b⟩:=h;exact ⟨-v,by rw [Rat.neg_divInt],by rw [v0k];exact b⟩
theorem OvB.add {B W:Nat} (hB:0<B) {p q:Rat} (h:OvB B W p) (k:OvB B W q):OvB B (W+1) (p+q):=by
 obtain ⟨v,rfl,b⟩:=h;obtain ⟨u,rfl,c⟩:=k;refine ⟨v+u,?_,?_⟩
 ·have hz:(B:Int) ≠ 0:=⋯
  rw [m0n _ _ hz hz];refine (y0g (u0u hz hz) hz).mpr ?_
  grind
 ·have:=g0h v u
  rw [m0z];omega
theorem OvB.sub {B W:Nat} (hB:0<B) {p q:Rat} (h:OvB B W p) (k:OvB B W q):OvB B (W+1) (p-q):=by
 rw [show p-q=p + -q by grind]
 exact h.add hB k.neg
theorem OvB.bdN {B W:Nat} (hB:0<B) (hW:B<2 ^ W) {q:Rat} (h:OvB B W q):BdN W q:=by
 obtain ⟨v,rfl,b⟩:=h;have:=U0 (t:=v) (b:=(B:Int)) ⋯;rw [q0y] at this;exact ⟨q0s this.1 b,q0s this.2 hW⟩
def aQ (qs:List Rat) (k:Nat):Rat:=(qs[k]?).getD 0
def aZ (ws:List Int) (k:Nat):Int:=(ws[k]?).getD 0
theorem bn1 (s:Rat) (ws:List Int):aQ (scl s ws)=λk=>s*(aZ ws k:Rat):=by
 funext k
 unfold aQ aZ scl;rw [z0c]
 cases ws[k]? with
 | none=>simp [Rat.intCast_zero]
 | some v=>simp
theorem bq6 {ws:List Int} {W:Nat} (h:∀ v ∈ ws,v0e v<2 ^ W):∀ k,(aZ ws k).natAbs<2 ^ W:=λk=>by
 unfold aZ
 cases q:ws[k]? with
 | none=>exact m0c _
 | some v=>exact h v (q0v q)
def bi4:List D->Bool
 | [.v (.int _),.v (.int _),.v (.int _)]=>true
 | _=>false
mutual
def noW:D->Bool
 | .v _=>true
 | .tup ds=>bk8 ds
 | .lst ds => !bi4 ds && bk8 ds
def bk8:List D->Bool
 | []=>true
 | d :: ds=>noW d && bk8 ds
end
mutual
def smD (m:Nat):D->Prop
 | .v (.int i)=>i.natAbs<2 ^ m
 | .v _=>True
 | .tup ds=>bj3 m ds
 | .lst ds=>bj3 m ds
def bj3 (m:Nat):List D->Prop
 | []=>True
 | d :: ds=>smD m d/\bj3 m ds
end
def M1 (p q:Rat):Bool:=decide (p.num*(q.den:Int)<q.num*(p.den:Int))
structure IsBox (B:List (Rat × Rat)):Prop where
 l2:2<=B.length
 l8:B.length<=8
 le:∀ s ∈ B,s.1<=s.2
 last:∀ s,B[B.length-1]? = some s->0<s.1
def zs (t b a:Int):List Int->List Int
 | []=>[b*a]
 | x :: r=>(b*a+t*x) :: zs t b x r
structure MidN (n:Nat) (R:List Rat):Prop where
 ex:∃ (B:Nat) (ws:List Int),0<B/\B<2 ^ (40*n+1)/\R=scl (z0b 1 B) ws/\∀ v ∈ ws,v0e v<2 ^ (41*n+1)
 len:R.length=n+1
 last:R[n]? = some 1
inductive bb8 (H:Hp):List V->List (Rat × Rat)->Prop where
 | nil:bb8 H [] []
 | cons {p a b:Addr} {s:Rat × Rat} {vs:List V} {B:List (Rat × Rat)} (h:H p=some (.tup [.ref a,.ref b])) (ha:H a=some (.tup (t4 s.1))) (hb:H b=some (.tup (t4 s.2))) (t:bb8 H vs B):bb8 H (.ref p :: vs) (s :: B)
theorem V4 {n k:Nat} (h:k<n):ixN n (k:Int)=some k:=by
 unfold ixN;rw [if_pos ⋯]
 simp;omega
def ac0 (a b:Str):D:=.tup [.v (.str a),.v (.str b)]
theorem aJ9 (a b:Str):eqD (ac0 a b) (ac0 a b)=true:=by simp [ac0,eqD,K9,eqV]
theorem aI3 (a b c d:Str):okD (ac0 a b) (ac0 c d)=true:=by simp [ac0,okD,ab7]
theorem aQ2 (a b:Str):dpD (ac0 a b)<=60:=by simp [ac0,dpD,af5]
theorem am0 {K:q0a} {H:Hp} {p:Addr} {a b:Str} (h:SqT K H p [.str a,.str b]):IsD K H (.ref p) (ac0 a b):=.tup h (.cons (.v rfl) (.cons (.v rfl) .nil))
structure TbX (u:Addr) (H:Hp) (a:Addr) (ts:List Addr) (M:List (List Rat)):Prop where
 au:a ≠ u
 tu:∀ t ∈ ts,t ≠ u
 at':H a=some (.lst (ts.map V.ref))
 rws:Rws H ts M
theorem TbX.samex {u a:Addr} {H H':Hp} {ts:List Addr} {M:List (List Rat)} (t:TbX u H a ts M) (s:j9 u H H') (hu:j7 H u):TbX u H' a ts M:=⟨t.au,t.tu,s _ _ t.at' t.au,t.rws.samex s hu t.tu⟩
theorem TbX.same {u a:Addr} {H H':Hp} {ts:List Addr} {M:List (List Rat)} (t:TbX u H a ts M) (s:c5 H H'):TbX u H' a ts M:=⟨t.au,t.tu,s _ _ t.at',t.rws.same s⟩
theorem TbX.made {u r:Addr} {H H':Hp} {ts:List Addr} {M:List (List Rat)} (hu:j7 H u) (fr:H r=none) (ft:∀ t ∈ ts,H t=none/\t ≠ r) (e:H' r=some (.lst (ts.map V.ref))) (R:Rws H' ts M):TbX u H' r ts M:=⟨w5 hu fr,λt ht=>w5 hu (ft t ht).1,e,R⟩
structure LsX (u:Addr) (H:Hp) (a:Addr) (xs:List V) (qs:List Rat):Prop where
 au:a ≠ u
 at':H a=some (.lst xs)
 nums:v9 H xs qs
theorem LsX.samex {u a:Addr} {H H':Hp} {xs:List V} {qs:List Rat} (t:LsX u H a xs qs) (s:j9 u H H') (hu:j7 H u):LsX u H' a xs qs:=⟨t.au,s _ _ t.at' t.au,t.nums.mono (s.tups hu)⟩
theorem LsX.same {u a:Addr} {H H':Hp} {xs:List V} {qs:List Rat} (t:LsX u H a xs qs) (s:c5 H H'):LsX u H' a xs qs:=⟨t.au,s _ _ t.at',t.nums.mono s.tups⟩
theorem aB3 {α:Type} [Add α]:∀ (f:List α) (k:Nat) (x v:α),v ∈ aa4 f k x->v ∈ f \/ ∃ y ∈ f,v=y+x
 | [],_,_,_,h=>by cases h
 | y :: r,0,x,v,h=>by
  rcases z0d.mp h with z | z
  ·exact .inr ⟨y,q0x,z⟩
  ·exact .inl (q0r _ z)
 | y :: r,k+1,x,v,h=>by
  rcases z0d.mp h with z | z
  ·exact .inl (by rw [z];exact q0x)
  ·rcases aB3 r k x v z with w | ⟨u,hu,e⟩
   ·exact .inl (q0r _ w)
   ·exact .inr ⟨u,q0r _ hu,e⟩
theorem aU5 {B W:Nat} (hB:0<B) {f:List Rat} {k:Nat} {x:Rat} (hf:∀ v ∈ f,OvB B W v) (hx:OvB B W x):∀ v ∈ aa4 f k x,OvB B (W+1) v:=λv hv=>by
 rcases aB3 f k x v hv with h | ⟨y,hy,rfl⟩
 ·exact (hf v h).mono ⋯
 ·exact (hf y hy).add hB hx
def cv (f g:Nat->Rat) (k:Nat):Rat:=j4 (λi=>f i*g (k-i)) (k+1)
theorem bg7 (p q:List Rat) (k:Nat):aQ (K7 p q) k=cv (aQ p) (aQ q) k:=by
 by_cases hp:p=[]
 ·subst hp
  have:K7 [] q=[]:=by unfold K7;rw [if_pos (.inl rfl)]
  rw [this]
  symm
  exact Y2 _ λi _=>by show (0:Rat)*_=0;grind
 by_cases hq:q=[]
 ·subst hq
  have:K7 p []=[]:=by unfold K7;rw [if_pos (.inr rfl)]
  rw [this]
  symm
  exact Y2 _ λi _=>by show _*(0:Rat)=0;grind
 by_cases hk:k<p.length+q.length-1
 ·have:=au2 hp hq hk
  unfold aQ;rw [this];rfl
 ·have h1:aQ (K7 p q) k=0:=by
   unfold aQ;rw [z0x (by rw [al8 hp hq];omega)];rfl
  rw [h1]
  symm
  refine Y2 _ λi hi=>?_
  by_cases h2:i<p.length
  ·have:aQ q (k-i)=0:=by unfold aQ;rw [z0x ⋯];rfl
   rw [this];grind
  ·have:aQ p i=0:=by unfold aQ;rw [z0x ⋯];rfl
   rw [this];grind
theorem V9 (g:Nat->Rat) (t:Nat):∀ n,j4 (λi=>if i=t then g i else 0) n=if t<n then g t else 0
 | 0=>by rw [if_neg ⋯];rfl
 | n+1=>by
  rw [j4,V9 g t n]
  by_cases h:t<n
  ·rw [if_pos h,if_neg ⋯,if_pos ⋯];grind
  ·by_cases h2:n=t
   ·rw [if_neg h,if_pos h2,if_pos ⋯,h2];grind
   ·rw [if_neg h,if_neg h2,if_neg ⋯];grind
structure IsTz (ws:List Int) (m:Nat):Prop where
 le:m<=ws.length
 zero:∀ i v,m<=i->ws[i]? = some v->v=0
 last:m ≠ 0->∀ v,ws[m-1]? = some v->v ≠ 0
theorem OvB.up {B W:Nat} {q:Rat} (h:OvB B W q) (hB:0<B) {C c:Nat} (hC:0<C) (hc:C<2 ^ c):OvB (B*C) (W+c) q:=by
 obtain ⟨v,rfl,b⟩:=h;refine ⟨v*C,?_,?_⟩
 ·rw [j0m]
  refine (y0g ⋯ (u0u ⋯ ⋯)).mpr ?_
  grind
 ·rw [z0j,q0y,z0p]
  exact z0g b hc
theorem ac2 {B W:Nat} (hB:0<B) (hW:B<2 ^ W) {qs:List Rat} (h:∀ x ∈ qs,OvB B W x):ClN W qs:=by
 have:∃ vs:List Int,qs=scl (z0b 1 B) vs/\∀ v ∈ vs,v0e v<2 ^ W:=by
  induction qs with
  | nil=>exact ⟨[],rfl,by simp⟩
  | cons q qs ih =>
   obtain ⟨vs,e,hv⟩:=ih λx hx=>h x (q0r _ hx);obtain ⟨v,e2,b⟩:=h q q0x;refine ⟨v :: vs,?_,λu hu=>?_⟩
   ·rw [e]
    show q :: _=(z0b 1 B*(v:Rat)) :: _;rw [al4,<- e2];rfl
   ·rcases z0d.mp hu with z | z
    ·rw [z];exact b
    ·exact hv u z
 obtain ⟨vs,rfl,hv⟩:=this;exact aU1 hB hW hv
theorem bl2 {qs:List Rat} {x:Rat} (h:x ∈ qs):∃ k,k<qs.length/\x=aQ qs k:=by
 obtain ⟨k,hk⟩:=y0c.mp h;refine ⟨k,(q0f.mp hk).1,?_⟩;unfold aQ;rw [hk];rfl
theorem bb7 {qs:List Rat} {P:Rat->Prop} (h0:P 0) (h:∀ x ∈ qs,P x) (k:Nat):P (aQ qs k):=by
 unfold aQ
 cases e:qs[k]? with
 | none=>exact h0
 | some v=>exact h v (q0v e)
theorem bi3:P3 ([]:List Rat) 0:=⟨q0h _,(λi q _ e=>by simp at e),λh=>absurd rfl h⟩
def br1 (u:Addr) (H:Hp) (v:V) (ps qs:List Rat):Prop:=v=.non \/ ∃ td l1 l2 zs1 zs2 g0 g1,v=.ref td/\td ≠ u/\H td=some (.tup [.ref l1,.ref l2])/\LsX u H l1 zs1 g0/\LsX u H l2 zs2 g1/\P3 g0 g0.length/\P3 g1 g1.length/\g1.length<qs.length/\∀ k,aQ ps k=cv (aQ qs) (aQ g0) k+aQ g1 k
structure PairOk (u:Addr) (H:Hp) (ap aq:Addr) (due:V) (xs ys:List V) (ps qs:List Rat) (S W1 W2:Nat):Prop where
 lp:LsX u H ap xs ps
 lq:LsX u H aq ys qs
 tp:P3 ps ps.length
 tq:P3 qs qs.length
 q0:qs ≠ []
 c1:ClN W1 ps
 c2:ClN W2 qs
 w1:1<=W1
 w2:1<=W2
 w3:W2<=690
 t:W1+S*(W2+1)+W2<=2300
 s:ps.length+1<=qs.length+S
 pl:ps.length<=16
 ql:qs.length<=16
 due:br1 u H due ps qs
def dl:Nat->Rat:=λk=>if k=0 then 1 else 0
theorem aE3 {B W:Nat} (hB:0<B) {f:Nat->Rat} (h:∀ i,OvB B W (f i)):∀ n,OvB B (W+n) (j4 f n)
 | 0=>OvB.zero _ _
 | n+1=>((aE3 hB h n).add hB ((h n).mono ⋯)).mono ⋯
theorem be8 {B C V W:Nat} (hB:0<B) (hC:0<C) {p q:List Rat} (hp:∀ x ∈ p,OvB B V x) (hq:∀ x ∈ q,OvB C W x):∀ x ∈ K7 p q,OvB (B*C) (V+W+q.length) x:=λx hx=>by
 obtain ⟨k,hk,rfl⟩:=bl2 hx;rw [aT0,bg7];unfold cv
 have hf:∀ i,OvB (B*C) (V+W) (aQ q i*aQ p (k-i)):=λi=>by
  have h1:=bb7 (P:=OvB C W) (OvB.zero _ _) hq i;have h2:=bb7 (P:=OvB B V) (OvB.zero _ _) hp (k-i);have:=h1.mul h2;rw [v0u C B,m0w W V] at this;exact this
 by_cases h:q.length<=k+1
 ·rw [ac5 h λi h1 _=>by
   have:aQ q i=0:=by unfold aQ;rw [z0x ⋯];rfl
   rw [this];grind]
  exact aE3 (z0s hB hC) hf _
 ·exact (aE3 (z0s hB hC) hf _).mono ⋯
def Dg (f:Nat->Rat) (n:Nat):Prop:=∀ k,n<=k->f k=0
structure Eu (p q A B:Nat->Rat) (lp lq la lb:Nat):Prop where
 inv:∀ m,m<la->∀ u v,Dg u (lq-m)->Dg v (lp-m)->Dg (λk=>cv u p k+cv v q k) m ->
  ∃ a b,(∀ k,cv u p k+cv v q k=cv a A k+cv b B k)/\Dg a (lb-m)/\Dg b (la-m)/\((∀ k,a k=0)->(∀ k,b k=0)->∀ k,u k=0/\v k=0)
 le:la<=max lp lq
def sgd (i:Nat):Rat:=if i % 2=0 then 1 else -1
theorem aW4 (i:Nat):sgd (i+1)=- sgd i:=by
 unfold sgd;rcases Nat.mod_two_eq_zero_or_one i with h | h
 ·rw [if_pos h,if_neg ⋯]
 ·rw [if_pos (show (i+1) % 2=0 by omega),if_neg (show ¬ i % 2=0 by omega)];grind
abbrev Mt:=Nat->Nat->Rat
def mn (M:Mt) (i:Nat):Mt:=λr c=>M (if r<i then r else r+1) (c+1)
def dt:Nat->Mt->Rat
 | 0,_=>1
 | n+1,M=>j4 (λi=>sgd i*M i 0*dt n (mn M i)) (n+1)
theorem K3 (n:Nat) (M:Mt):dt (n+1) M=j4 (λi=>sgd i*M i 0*dt n (mn M i)) (n+1):=rfl
theorem Y5:∀ {n:Nat} {M N:Mt},(∀ r,r<n->∀ c,c<n->M r c=N r c)->dt n M=dt n N
 | 0,_,_,_=>rfl
 | n+1,M,N,h=>by
  rw [K3,K3];refine y1 λi hi=>?_;rw [h i hi 0 ⋯,Y5 (n:=n) (M:=mn M i) (N:=mn N i) λr hr c hc=>h _ (by split <;> omega) _ ⋯]
def setR (M:Mt) (r:Nat) (v:Nat->Rat):Mt:=λi c=>if i=r then v c else M i c
theorem ag4 (M:Mt) (r:Nat):setR M r (M r)=M:=by
 funext i c
 unfold setR
 split
 ·rename_i h;rw [h]
 ·rfl
theorem af3 (M:Mt) (r:Nat) (v:Nat->Rat):mn (setR M r v) r=mn M r:=by
 funext i c
 unfold mn setR;rw [if_neg (by split <;> omega)]
theorem an8 (M:Mt) {r i:Nat} (v:Nat->Rat) (h:r<i):mn (setR M r v) i=setR (mn M i) r (λc=>v (c+1)):=by
 funext a c
 unfold mn setR
 by_cases z:a=r
 ·rw [if_pos z,if_pos (by rw [z,if_pos h])]
 ·rw [if_neg z,if_neg (by split <;> omega)]
theorem an9 (M:Mt) {r i:Nat} (v:Nat->Rat) (h:i<r):mn (setR M r v) i=setR (mn M i) (r-1) (λc=>v (c+1)):=by
 funext a c
 unfold mn setR
 by_cases z:a=r-1
 ·rw [if_pos z,if_pos (by rw [z,if_neg ⋯];omega)]
 ·rw [if_neg z,if_neg (by split <;> omega)]
theorem av2:∀ {n:Nat} (M:Mt) {r:Nat} (a b:Rat) (v w:Nat->Rat),r<n->dt n (setR M r λc=>a*v c+b*w c)=a*dt n (setR M r v)+b*dt n (setR M r w)
 | 0,_,_,_,_,_,_,h=>⋯
 | n+1,M,r,a,b,v,w,h=>by
  rw [K3,K3,K3,X7,X7,am7];refine y1 λi hi=>?_;rcases Nat.lt_trichotomy r i with z | z | z
  ·rw [an8 M _ z,an8 M _ z,an8 M _ z,av2 (mn M i) a b _ _ ⋯]
   have:∀ u:Nat->Rat,setR M r u i 0=M i 0:=λu=>if_neg ⋯;rw [this,this,this];grind
  ·subst z
   rw [af3,af3,af3];have:∀ u:Nat->Rat,setR M r u r 0=u 0:=λu=>if_pos rfl;rw [this,this,this];grind
  ·rw [an9 M _ z,an9 M _ z,an9 M _ z,av2 (mn M i) a b _ _ ⋯]
   have:∀ u:Nat->Rat,setR M r u i 0=M i 0:=λu=>if_neg ⋯;rw [this,this,this];grind
theorem bc7 {f:Nat->Rat} {n r:Nat} (hr:r+1<n) (h:∀ i,i<n->i ≠ r->i ≠ r+1->f i=0):j4 f n=f r+f (r+1):=by
 have:j4 f n=j4 (λi=>(if i=r then f r else 0)+(if i=r+1 then f (r+1) else 0)) n:=y1 λi hi=>by
  by_cases z:i=r
  ·rw [if_pos z,if_neg ⋯,z];grind
  ·by_cases y:i=r+1
   ·rw [if_neg z,if_pos y,y];grind
   ·rw [if_neg z,if_neg y,h i hi z y];grind
 rw [this,<- am7,V9 (λ_=>f r),V9 (λ_=>f (r+1)),if_pos ⋯,if_pos hr]
theorem aF7:∀ {n:Nat} {M:Mt} {r:Nat},r+1<n->(∀ c,M r c=M (r+1) c)->dt n M=0
 | 0,_,_,h,_=>⋯
 | n+1,M,r,h,e=>by
  rw [K3];rw [bc7 h λi hi h1 h2=>?_]
  ·have:mn M r=mn M (r+1):=by
    funext a c
    unfold mn
    by_cases z:a=r
    ·rw [if_neg ⋯,if_pos ⋯,z,e]
    ·by_cases y:a<r
     ·rw [if_pos y,if_pos ⋯]
     ·rw [if_neg y,if_neg ⋯]
   rw [this,aW4,e 0];grind
  ·have:dt n (mn M i)=0:=by
    by_cases z:i<r
    ·refine aF7 (r:=r-1) ⋯ λc=>?_
     unfold mn;rw [if_neg ⋯,if_neg ⋯,show r-1+1=r by omega];exact e _
    ·refine aF7 (r:=r) ⋯ λc=>?_
     unfold mn;rw [if_pos ⋯,if_pos ⋯];exact e _
   rw [this];grind
def swR (M:Mt) (r s:Nat):Mt:=λi c=>M (if i=r then s else if i=s then r else i) c
theorem set_comm (M:Mt) {r s:Nat} (h:r ≠ s) (v w:Nat->Rat):setR (setR M r v) s w=setR (setR M s w) r v:=by
 funext i c
 unfold setR
 by_cases z:i=s
 ·rw [if_pos z,if_neg ⋯,if_pos z]
 ·rw [if_neg z]
  by_cases y:i=r
  ·rw [if_pos y,if_pos y]
  ·rw [if_neg y,if_neg y,if_neg z]
theorem bb2 {n:Nat} (M:Mt) {r:Nat} (v w:Nat->Rat) (h:r<n):dt n (setR M r λc=>v c+w c)=dt n (setR M r v)+dt n (setR M r w):=by
 have:=av2 M 1 1 v w h;rw [show (λc=>v c+w c)=λc=>1*v c+1*w c by funext c;grind,this];grind
theorem bf6 {n:Nat} {M:Mt} {r:Nat} (h:r+1<n):dt n (swR M r (r+1))=- dt n M:=by
 have e0:∀ v:Nat->Rat,dt n (setR (setR M r v) (r+1) v)=0:=λv=>aF7 h λc=>by
  unfold setR;rw [if_neg ⋯,if_pos rfl,if_pos rfl]
 have e1:=e0 λc=>M r c+M (r+1) c
 have x1:∀ w:Nat->Rat,dt n (setR (setR M r λc=>M r c+M (r+1) c) (r+1) w)=dt n (setR (setR M (r+1) w) r (M r))+dt n (setR (setR M (r+1) w) r (M (r+1))):=λw=>by
  rw [set_comm _ ⋯,bb2 _ _ _ ⋯]
 rw [bb2 _ _ _ h,x1,x1] at e1;rw [show setR (setR M (r+1) (M r)) r (M r)=setR (setR M r (M r)) (r+1) (M r) from set_comm _ ⋯ _ _,e0] at e1;rw [show setR (setR M (r+1) (M (r+1))) r (M (r+1))=setR (setR M r (M (r+1))) (r+1) (M (r+1)) from set_comm _ ⋯ _ _,e0] at e1;have s1:setR (setR M (r+1) (M (r+1))) r (M r)=M:=by rw [ag4,ag4]
 have s2:setR (setR M (r+1) (M r)) r (M (r+1))=swR M r (r+1):=by
  funext i c
  unfold setR swR
  by_cases z:i=r
  ·rw [if_pos z,if_pos z]
  ·rw [if_neg z,if_neg z]
   by_cases y:i=r+1
   ·rw [if_pos y,if_pos y]
   ·rw [if_neg y,if_neg y]
 rw [s1,s2] at e1
 grind
theorem av3 {n:Nat}:∀ (d:Nat) {M:Mt} {r:Nat},r+d+1<n->(∀ c,M r c=M (r+d+1) c)->dt n M=0
 | 0,_,_,h,e=>aF7 h e
 | d+1,M,r,h,e=>by
  have h1:=bf6 (M:=M) (r:=r+d+1) (n:=n) ⋯
  have h2:dt n (swR M (r+d+1) (r+d+1+1))=0:=av3 d (r:=r) ⋯ λc=>by
   unfold swR;rw [if_neg ⋯,if_neg ⋯,if_pos rfl];exact e c
  rw [h2] at h1
  grind
theorem aT9 {n:Nat} {M:Mt} {r s:Nat} (hr:r<n) (hs:s<n) (hn:r ≠ s) (e:∀ c,M r c=M s c):dt n M=0:=by
 rcases g0s r s with z | z
 ·exact av3 (s-r-1) (r:=r) ⋯ λc=>by rw [show r+(s-r-1)+1=s by omega];exact e c
 ·exact av3 (r-s-1) (r:=s) ⋯ λc=>by rw [show s+(r-s-1)+1=r by omega];exact (e c).symm
theorem aF5 {n:Nat} {M:Mt} {r s:Nat} (a b:Rat) (hr:r<n) (hs:s<n) (hn:r ≠ s):dt n (setR M r λc=>a*M r c+b*M s c)=a*dt n M:=by
 rw [av2 M a b (M r) (M s) hr,ag4,aT9 (M:=setR M r (M s)) hr hs hn λc=>by
  unfold setR;rw [if_pos rfl,if_neg ⋯]]
 grind
theorem bb1 {n:Nat} {M:Mt} (h:∀ i,0<i->i<n+1->M i 0=0):dt (n+1) M=M 0 0*dt n (mn M 0):=by
 rw [K3]
 have:j4 (λi=>sgd i*M i 0*dt n (mn M i)) (n+1)=j4 (λi=>if i=0 then M 0 0*dt n (mn M 0) else 0) (n+1):=y1 λi hi=>by
  by_cases z:i=0
  ·rw [if_pos z,z]
   show sgd 0*_*_=_;unfold sgd;rw [if_pos (by decide)];grind
  ·rw [if_neg z,h i ⋯ hi];grind
 rw [this,V9 (λ_=>M 0 0*dt n (mn M 0)),if_pos ⋯]
def IsI (q:Rat):Prop:=∃ z:Int,q=(z:Rat)
def hz (A B:Nat->Rat):Mt:=λi c=>if c<i / 2 then 0 else if i % 2=0 then B (c-i / 2) else A (c-i / 2)
def behind (A B:Nat->Rat):Nat->Rat:=λj=>B 0*A (j+1)-A 0*B (j+1)
def hm (A B:Nat->Rat) (m:Nat):Mt:=λi c=>if i % 2=1/\i<m then B 0*hz A B i c-A 0*hz A B (i-1) c else hz A B i c
theorem aK1 {n:Nat} (M:Mt) (t:Nat->Rat):∀ m,m<=n->dt (n+1) (λr c=>if 0<r/\r<=m then M r c-t r*M 0 c else M r c)=dt (n+1) M
 | 0,_=>Y5 λr _ c _=>by rw [if_neg ⋯]
 | m+1,h=>by
  rw [<- aK1 M t m ⋯]
  have e:(λr c=>if 0<r/\r<=m+1 then M r c-t r*M 0 c else M r c)=setR (λr c=>if 0<r/\r<=m then M r c-t r*M 0 c else M r c) (m+1) λc=>1*(λr c=>if 0<r/\r<=m then M r c-t r*M 0 c else M r c) (m+1) c+(- t (m+1))*(λr c=>if 0<r/\r<=m then M r c-t r*M 0 c else M r c) 0 c:=by
   funext r c
   unfold setR
   by_cases y:r=m+1
   ·rw [if_pos y,y]
    show (if 0<m+1/\m+1<=m+1 then _ else _)=1*(if 0<m+1/\m+1<=m then _ else _) + - t (m+1)*(if 0<0/\0<=m then _ else _);rw [if_pos ⋯,if_neg ⋯,if_neg ⋯];grind
   ·rw [if_neg y]
    show (if 0<r/\r<=m+1 then M r c-t r*M 0 c else M r c)=if 0<r/\r<=m then M r c-t r*M 0 c else M r c
    by_cases x:0<r/\r<=m
    ·rw [if_pos x,if_pos ⋯]
    ·rw [if_neg x,if_neg ⋯]
  rw [e,aF5 1 (- t (m+1)) ⋯ ⋯ ⋯];grind
theorem bf7 {n:Nat} (M:Mt) (t:Nat->Rat):dt (n+1) (λr c=>if r=0 then M 0 c else M r c-t r*M 0 c)=dt (n+1) M:=by
 rw [<- aK1 M t n (q0h _)];refine Y5 λr hr c _=>?_
 by_cases z:r=0
 ·rw [if_pos z,if_neg ⋯,z]
 ·rw [if_neg z,if_pos ⋯]
def red (B:Mt):Mt:=λr c=>B (r+1) (c+1)-B (r+1) 0*(B 0 0)⁻¹*B 0 (c+1)
theorem aF6 {n:Nat} (B:Mt) (h:B 0 0 ≠ 0):dt (n+1) B=B 0 0*dt n (red B):=by
 rw [<- bf7 B λr=>B r 0*(B 0 0)⁻¹,bb1 λi h0 hi=>?_]
 ·rw [if_pos rfl]
  congr 1
 ·rw [if_neg ⋯]
  have:=z0t _ h;generalize (B 0 0)⁻¹=u at *
  grind
def bnd (B:Mt) (k i j:Nat):Mt:=λr c=>B (if r=k then i else r) (if c=k then j else c)
def mi (B:Mt) (k i j:Nat):Rat:=dt (k+1) (bnd B k i j)
theorem ad6 (B:Mt) (i j:Nat):mi B 0 i j=B i j:=by
 unfold mi;rw [K3]
 show (0:Rat)+sgd 0*bnd B 0 i j 0 0*1=_;rw [show sgd 0=1 from if_pos (by decide)]
 show (0:Rat)+1*B (if 0=0 then i else 0) (if 0=0 then j else 0)*1=_;rw [if_pos rfl,if_pos rfl];grind
theorem aP5 (B:Mt) (k:Nat):mi B k k k=dt (k+1) B:=by
 unfold mi
 congr 1
 funext r c
 unfold bnd
 congr 1
 ·split
  ·rename_i h;exact h.symm
  ·rfl
 ·split
  ·rename_i h;exact h.symm
  ·rfl
theorem ao0 (B:Mt) (h:B 0 0 ≠ 0) (k i j:Nat):mi B (k+1) (i+1) (j+1)=B 0 0*mi (red B) k i j:=by
 unfold mi
 have e0:bnd B (k+1) (i+1) (j+1) 0 0=B 0 0:=by
  unfold bnd;rw [if_neg ⋯,if_neg ⋯]
 rw [aF6 _ (by rw [e0];exact h),e0]
 congr 1
 refine Y5 λr hr c hc=>?_;unfold red;rw [e0]
 have a1:bnd B (k+1) (i+1) (j+1) (r+1) (c+1)=B ((if r=k then i else r)+1) ((if c=k then j else c)+1):=by
  unfold bnd
  congr 1
  ·by_cases z:r=k
   ·rw [if_pos z,if_pos ⋯]
   ·rw [if_neg z,if_neg ⋯]
  ·by_cases z:c=k
   ·rw [if_pos z,if_pos ⋯]
   ·rw [if_neg z,if_neg ⋯]
 have a2:bnd B (k+1) (i+1) (j+1) (r+1) 0=B ((if r=k then i else r)+1) 0:=by
  unfold bnd;rw [if_neg (show ¬ 0=k+1 by omega)]
  congr 1
  by_cases z:r=k
  ·rw [if_pos z,if_pos ⋯]
  ·rw [if_neg z,if_neg ⋯]
 have a3:bnd B (k+1) (i+1) (j+1) 0 (c+1)=B 0 ((if c=k then j else c)+1):=by
  unfold bnd;rw [if_neg (show ¬ 0=k+1 by omega)]
  congr 1
  by_cases z:c=k
  ·rw [if_pos z,if_pos ⋯]
  ·rw [if_neg z,if_neg ⋯]
 rw [a1,a2,a3];rfl
theorem aI6 {B:Mt} {k:Nat} (h:∀ m,1<=m->m<=k+1->dt m B ≠ 0):B 0 0 ≠ 0/\∀ m,1<=m->m<=k->dt m (red B) ≠ 0:=by
 have b0:B 0 0 ≠ 0:=by
  have:=h 1 ⋯ ⋯;rw [<- aP5 B 0,ad6] at this;exact this
 refine ⟨b0,λm h1 h2 z=>?_⟩;have:=h (m+1) ⋯ ⋯;rw [aF6 B b0,z] at this;exact this (by grind)
theorem ay1:∀ (k:Nat) (B:Mt),(∀ m,1<=m->m<=k->dt m B ≠ 0)->∀ i j,k<i->k<j->mi B k k k*mi B k i j-mi B k i k*mi B k k j=dt k B*mi B (k+1) i j
 | 0,B,_,i,j,hi,hj=>by
  rw [ad6,ad6,ad6,ad6]
  show _=1*mi B 1 i j;unfold mi;rw [K3]
  have d1:∀ M:Mt,dt 1 M=M 0 0:=λM=>by
   rw [K3]
   show (0:Rat)+sgd 0*M 0 0*1=_;rw [show sgd 0=1 from if_pos (by decide)];grind
  show _=1*((0:Rat)+sgd 0*bnd B 1 i j 0 0*dt 1 (mn (bnd B 1 i j) 0)+sgd 1*bnd B 1 i j 1 0*dt 1 (mn (bnd B 1 i j) 1));rw [d1,d1,show sgd 0=1 from if_pos (by decide),show sgd 1=-1 from if_neg (by decide)]
  show _=1*((0:Rat)+1*B 0 0*B i j + -1*B i 0*B 0 j)
  grind
 | k+1,B,h,i,j,hi,hj=>by
  obtain ⟨b0,hr⟩:=aI6 h;obtain ⟨i',rfl⟩:∃ i',i=i'+1:=⟨i-1,⋯⟩;obtain ⟨j',rfl⟩:∃ j',j=j'+1:=⟨j-1,⋯⟩;have ih:=ay1 k (red B) hr i' j' ⋯ ⋯;rw [ao0 B b0,ao0 B b0,ao0 B b0,ao0 B b0,ao0 B b0,aF6 B b0];generalize B 0 0=b at *;generalize mi (red B) k k k=x1 at *;generalize mi (red B) k i' j'=x2 at *;generalize mi (red B) k i' k=x3 at *;generalize mi (red B) k k j'=x4 at *;generalize mi (red B) (k+1) i' j'=x5 at *;generalize dt k (red B)=x6 at *
  grind
theorem aK0:∀ (k n:Nat) (B:Mt),(∀ m,1<=m->m<=k->dt m B ≠ 0)->k<n->(∀ i,k<=i->i<n->mi B k i k=0)->dt n B=0
 | 0,n,B,_,hk,h=>by
  obtain ⟨m,rfl⟩:∃ m,n=m+1:=⟨n-1,⋯⟩;rw [K3];refine Y2 _ λi hi=>?_;have:=h i ⋯ hi;rw [ad6] at this;rw [this];grind
 | k+1,n,B,hl,hk,h=>by
  obtain ⟨b0,hr⟩:=aI6 hl;obtain ⟨m,rfl⟩:∃ m,n=m+1:=⟨n-1,⋯⟩;rw [aF6 B b0,aK0 k m (red B) hr ⋯ λi h1 h2=>?_]
  ·grind
  ·have:=h (i+1) ⋯ ⋯
   rw [ao0 B b0] at this;rcases u0v.mp this with y | y
   ·exact absurd y b0
   ·exact y
def swN (B:Mt) (r s:Nat):Mt:=λi c=>if i=r then B s c else if i=s then-B r c else B i c
theorem bm3 {n:Nat} {B:Mt} {r s:Nat} (hr:r<n) (hs:s<n) (h:r ≠ s):dt n (swN B r s)=dt n B:=by
 -- row r plus row s;row s less row r;row r plus row s
 have e1:=aF5 (M:=B) (r:=r) (s:=s) 1 1 hr hs h;obtain ⟨B1,h1⟩:∃ B1,B1=setR B r λc=>1*B r c+1*B s c:=⟨_,rfl⟩;rw [<- h1] at e1;have e2:=aF5 (M:=B1) (r:=s) (s:=r) 1 (-1) hs hr (Ne.symm h);obtain ⟨B2,h2⟩:∃ B2,B2=setR B1 s λc=>1*B1 s c+(-1)*B1 r c:=⟨_,rfl⟩;rw [<- h2] at e2;have e3:=aF5 (M:=B2) (r:=r) (s:=s) 1 1 hr hs h
 have e:setR B2 r (λc=>1*B2 r c+1*B2 s c)=swN B r s:=by
  funext i c
  have v1r:∀ c,B1 r c=B r c+B s c:=λc=>by rw [h1];unfold setR;rw [if_pos rfl];grind
  have v1s:∀ c,B1 s c=B s c:=λc=>by rw [h1];unfold setR;rw [if_neg (Ne.symm h)]
  have v2s:∀ c,B2 s c=- B r c:=λc=>by rw [h2];unfold setR;rw [if_pos rfl];show 1*B1 s c + -1*B1 r c=_;rw [v1s,v1r];grind
  have v2r:∀ c,B2 r c=B r c+B s c:=λc=>by rw [h2];unfold setR;rw [if_neg h,v1r]
  unfold setR swN
  by_cases z:i=r
  ·rw [if_pos z,if_pos z]
   show 1*B2 r c+1*B2 s c=_;rw [v2r,v2s];grind
  ·rw [if_neg z,if_neg z]
   by_cases y:i=s
   ·rw [if_pos y,y,v2s]
   ·rw [if_neg y,h2]
    unfold setR;rw [if_neg y,h1];unfold setR;rw [if_neg z]
 rw [<- e,e3,e2,e1];grind
structure Pos (n:Nat) (g:Nat->Nat->Rat):Prop where
 p:∀ i,i<=n->0<g i 0
 s:∀ i,1<=i->i<n->∀ j,g i 0*g (i-1) j=g i 0*g (i+1) (j+1)-g (i+1) 0*g i (j+1)
 l:1<=n->∀ j,g 0 0*g 1 (j+1)-g 1 0*g 0 (j+1)=0
 z:∀ i j,i<=n->i<2*j->g i j=0
theorem ar6 {W:Nat}:∀ {n:Nat} {M:Mt},n<=16->(∀ r c,∃ z:Int,M r c=(z:Rat)/\z.natAbs<2 ^ W)->∃ z:Int,dt n M=(z:Rat)/\z.natAbs<=2 ^ ((W+4)*n)
 | 0,_,_,_=>⟨1,rfl,by simp⟩
 | n+1,M,hn,h=>by
  have key:∀ m,m<=n+1->∃ z:Int,j4 (λi=>sgd i*M i 0*dt n (mn M i)) m=(z:Rat)/\z.natAbs<=m*(2 ^ W*2 ^ ((W+4)*n)):=by
   intro m
   induction m with
   | zero=>intro _;exact ⟨0,rfl,by simp⟩
   | succ m ih =>
    intro hm;obtain ⟨z,e,b⟩:=ih ⋯;obtain ⟨x,ex,bx⟩:=h m 0;obtain ⟨y,ey,by'⟩:=ar6 (n:=n) (M:=mn M m) ⋯ λr c=>h _ _
    obtain ⟨s,es,bs⟩:∃ s:Int,sgd m=(s:Rat)/\s.natAbs=1:=by
     unfold sgd
     split
     ·exact ⟨1,rfl,rfl⟩
     ·exact ⟨-1,by rw [j0c];rfl,rfl⟩
    refine ⟨z+s*x*y,?_,?_⟩
    ·rw [j4,e,ex,ey,es,j0e,z0v,z0v]
    ·have h1:(s*x*y).natAbs<=2 ^ W*2 ^ ((W+4)*n):=by
      rw [z0j,z0j,bs,Nat.one_mul];exact y0w (y0d bx) by'
     have h2:=g0h z (s*x*y);rw [u0q];omega
  obtain ⟨z,e,b⟩:=key (n+1) (q0h _);refine ⟨z,by rw [K3];exact e,q0q b ?_⟩
  have:(n+1)*(2 ^ W*2 ^ ((W+4)*n))<=2 ^ 4*(2 ^ W*2 ^ ((W+4)*n)):=u0w _ ⋯;refine q0q this ?_;rw [<- z0p,<- z0p];exact y0h (by decide) (by rw [y0z];omega)
inductive RwZ (H:Hp):List Addr->List (List Int)->Prop where
 | nil:RwZ H [] []
 | cons {p:Addr} {ps:List Addr} {L:List Int} {Ls:List (List Int)} (h:H p=some (.lst (L.map V.int))) (t:RwZ H ps Ls):RwZ H (p :: ps) (L :: Ls)
theorem RwZ.length {H:Hp}:∀ {ts:List Addr} {M:List (List Int)},RwZ H ts M->ts.length=M.length
 | _,_,.nil=>rfl
 | _,_,.cons _ t=>congrArg (· + 1) t.length
theorem RwZ.same {H H':Hp} (s:c5 H H'):∀ {ts:List Addr} {M:List (List Int)},RwZ H ts M->RwZ H' ts M
 | _,_,.nil=>.nil
 | _,_,.cons h t=>.cons (s _ _ h) (t.same s)
theorem RwZ.get {H:Hp}:∀ {ts:List Addr} {M:List (List Int)} {i:Nat} {p:Addr},RwZ H ts M->ts[i]? = some p->∃ L,M[i]? = some L/\H p=some (.lst (L.map V.int))
 | _,_,_,_,.nil,e=>by simp at e
 | _,_,0,_,.cons h _,e=>by cases e;exact ⟨_,rfl,h⟩
 | _,_,i+1,_,.cons _ t,e=>t.get (i:=i) (by simpa using e)
theorem RwZ.append {H:Hp}:∀ {ts us:List Addr} {M N:List (List Int)},RwZ H ts M->RwZ H us N->RwZ H (ts ++ us) (M ++ N)
 | _,_,_,_,.nil,h=>h
 | _,_,_,_,.cons h t,k=>.cons h (t.append k)
theorem RwZ.over {H:Hp} {l:Addr} {o:HO}:∀ {ts:List Addr} {M:List (List Int)},l ∉ ts->RwZ H ts M->RwZ (upd H l o) ts M
 | _,_,_,.nil=>.nil
 | _,_,n,.cons h t=>.cons (by rw [d4 (λz=>n (by rw [<- z];exact q0x))];exact h) (t.over λz=>n (q0r _ z))
def zz (M:List (List Int)) (i j:Nat):Int:=aZ ((M[i]?).getD []) j
structure Eb (n:Nat) (A B:Mt) (at':Nat) (M:List (List Int)) (dv:Int):Prop where
 len:M.length=n
 row:∀ L ∈ M,L.length=n
 ent:∀ i j,at'<=i->i<n->at'<=j->j<n->((zz M i j:Int):Rat)=mi B at' i j
 zer:∀ i j,at'<=i->i<n->j<at'->zz M i j=0
 int:∀ r c,IsI (B r c)
 det:dt n B=dt n A
 led:∀ m,1<=m->m<=at'->dt m B ≠ 0
 div:((dv:Int):Rat)=dt at' B
def N6 (s:Nat->Rat):Nat->Rat
 | 0=>1
 | n+1=>N6 s n*s n
theorem X3 (s:Nat->Rat):∀ n,N6 s (n+1)=s 0*N6 (λi=>s (i+1)) n
 | 0=>by show 1*s 0=s 0*1;grind
 | n+1=>by
  show N6 s (n+1)*s (n+1)=s 0*(N6 (λi=>s (i+1)) n*s (n+1));rw [X3 s n];grind
theorem ad3 {s t:Nat->Rat}:∀ {n},(∀ i,i<n->s i=t i)->N6 s n=N6 t n
 | 0,_=>rfl
 | n+1,h=>by
  show N6 s n*s n=N6 t n*t n;rw [ad3 λi hi=>h i ⋯,h n ⋯]
theorem ap1 (s:Nat->Rat):∀ (n i:Nat),i<=n->N6 s (n+1)=s i*N6 (λr=>s (if r<i then r else r+1)) n
 | n,0,_=>by
  rw [X3]
  congr 1
 | 0,i+1,h=>⋯
 | n+1,i+1,h=>by
  rw [X3,ap1 (λr=>s (r+1)) n i ⋯];rw [X3 (λr=>s (if r<i+1 then r else r+1)) n,if_pos ⋯]
  rw [ad3 (s:=λr=>s (if r+1<i+1 then r+1 else r+1+1)) (t:=λr=>s ((if r<i then r else r+1)+1)) λr _=>by
   congr 1
   by_cases z:r<i
   ·rw [if_pos z,if_pos ⋯]
   ·rw [if_neg z,if_neg ⋯]]
  grind
theorem av1:∀ (n:Nat) (s:Nat->Rat) (B:Mt),dt n (λr c=>s r*B r c)=N6 s n*dt n B
 | 0,_,_=>by show (1:Rat)=1*1;grind
 | n+1,s,B=>by
  rw [K3,K3,X7];refine y1 λi hi=>?_;have e:mn (λr c=>s r*B r c) i=λr c=>(λr=>s (if r<i then r else r+1)) r*mn B i r c:=rfl;rw [e,av1 n,ap1 s n i ⋯]
  grind
def swU (B:Mt) (r s:Nat):Mt:=λi c=>if i=r then B s c else if i=s then B r c else B i c
theorem bm2 {n:Nat} {B:Mt} {r s:Nat} (hr:r<n) (hs:s<n) (h:r ≠ s):dt n (swU B r s)=- dt n B:=by
 have e:swN B r s=setR (swU B r s) s λc=>(-1)*swU B r s s c+0*swU B r s s c:=by
  funext i c
  show (if i=r then B s c else if i=s then-B r c else B i c)=if i=s then -1*(if s=r then B s c else if s=s then B r c else B s c)+0*(if s=r then B s c else if s=s then B r c else B s c) else (if i=r then B s c else if i=s then B r c else B i c)
  by_cases a:i=r
  ·rw [if_pos a,if_neg ⋯,if_pos a]
  ·rw [if_neg a,if_neg a]
   by_cases b:i=s
   ·rw [if_pos b,if_pos b,if_neg (Ne.symm h),if_pos rfl];grind
   ·rw [if_neg b,if_neg b,if_neg b]
 have k:=bm3 (B:=B) hr hs h;rw [e,av2 _ (-1) 0 _ _ hs,ag4] at k
 grind
theorem bl1 {B:Mt} {k s i j:Nat} (hs:k<s):mi (swU B k s) k i j=if i=k then mi B k s j else if i=s then mi B k k j else mi B k i j:=by
 have top:∀ (x:Nat),(∀ c,swU B k s i c=B x c)->mi (swU B k s) k i j=mi B k x j:=λx h=>by
  unfold mi;refine Y5 λr hr c _=>?_;unfold bnd
  by_cases z:r=k
  ·rw [if_pos z,if_pos z,h]
  ·rw [if_neg z,if_neg z]
   unfold swU;rw [if_neg z,if_neg ⋯]
 by_cases a:i=k
 ·rw [if_pos a,top s λc=>by unfold swU;rw [if_pos a]]
 ·rw [if_neg a]
  by_cases b:i=s
  ·rw [if_pos b,top k λc=>by unfold swU;rw [if_neg a,if_pos b]]
  ·rw [if_neg b,top i λc=>by unfold swU;rw [if_neg a,if_neg b]]
def Sc (W:Nat) (B:Mt):Prop:=∃ b:Nat->Int,∀ r,0<b r/\(b r).natAbs<2 ^ W/\∀ c,∃ z:Int,((b r:Int):Rat)*B r c=(z:Rat)/\z.natAbs<2 ^ W
theorem Sc.swU {W:Nat} {B:Mt} {r s:Nat} (h:Sc W B):Sc W (swU B r s):=by
 obtain ⟨b,hb⟩:=h;refine ⟨λi=>if i=r then b s else if i=s then b r else b i,λi=>?_⟩;unfold R.swU
 by_cases x:i=r
 ·simp only [if_pos x];exact hb s
 ·by_cases y:i=s
  ·simp only [if_neg x,if_pos y];exact hb r
  ·simp only [if_neg x,if_neg y];exact hb i
theorem an3 {x:Rat} {d m:Int} (e:x*((d:Int):Rat)=((m:Int):Rat)) (hd:d ≠ 0):x.num.natAbs<=m.natAbs/\x.den<=d.natAbs:=by
 have d0:((d:Int):Rat) ≠ 0:=λz=>hd (y0t.mp z)
 have:x=z0b m d:=by
  rw [j0h,<- e,Rat.mul_div_cancel d0]
 rw [this];exact U0 hd
theorem as7 {b:Nat->Int} {W:Nat} (h:∀ r,0<b r/\(b r).natAbs<2 ^ W):∀ n,∃ z:Int,N6 (λr=>((b r:Int):Rat)) n=(z:Rat)/\0<z/\z.natAbs<=2 ^ (W*n)
 | 0=>⟨1,rfl,by decide,by simp⟩
 | n+1=>by
  obtain ⟨z,e,p,l⟩:=as7 h n;refine ⟨z*b n,?_,u0d p (h n).1,?_⟩
  ·show N6 _ n*_=_
   rw [e,z0v]
  ·rw [z0j,y0z,z0p]
   exact y0w l (y0d (h n).2)
theorem Sc.minor {W:Nat} {B:Mt} (h:Sc W B) {k i j:Nat} (hk:k<15) (hd:dt k B ≠ 0) {x:Rat} (e:x*dt k B=mi B k i j):x.num.natAbs<=2 ^ ((W+4)*(k+1))/\x.den<=2 ^ (W+(W+4)*k):=by
 obtain ⟨b,hb⟩:=h;have hb':∀ r,0<b r/\(b r).natAbs<2 ^ W:=λr=>⟨(hb r).1,(hb r).2.1⟩;obtain ⟨D,eD,bD⟩:=ar6 (W:=W) (n:=k) (M:=λr c=>((b r:Int):Rat)*B r c) ⋯ λr c=>(hb r).2.2 c;obtain ⟨m,em,bm⟩:=ar6 (W:=W) (n:=k+1) (M:=λr c=>(λr=>((b (if r=k then i else r):Int):Rat)) r*bnd B k i j r c) ⋯ λr c=>(hb _).2.2 _;rw [av1] at eD em;obtain ⟨P,eP,pP,_⟩:=as7 hb' k
 have e1:N6 (λr=>((b (if r=k then i else r):Int):Rat)) (k+1)=(P:Rat)*((b i:Int):Rat):=by
  show N6 _ k*((b (if k=k then i else k):Int):Rat)=_;rw [if_pos rfl,<- eP,ad3 λr hr=>by show ((b (if r=k then i else r):Int):Rat)=((b r:Int):Rat);rw [if_neg ⋯]]
 have D0:D ≠ 0:=λz=>by
  rw [z,eP] at eD;rcases u0v.mp eD with y | y
  ·have:P=0:=y0t.mp y
   omega
  ·exact hd y
 have:=an3 (x:=x) (d:=b i*D) (m:=m) (by
  rw [<- em,e1,z0v,<- eD,eP]
  show _=_*mi B k i j;rw [<- e];grind) (u0u (g0r (hb i).1) D0)
 refine ⟨q0q this.1 bm,q0q this.2 ?_⟩;rw [z0j,z0p];exact y0w (y0d (hb i).2.1) bD
theorem Sc.det {W:Nat} {B:Mt} (h:Sc W B) {k:Nat} (hk:k<15):(dt k B).num.natAbs<=2 ^ ((W+4)*k)/\(dt k B).den<=2 ^ (W*k):=by
 obtain ⟨b,hb⟩:=h;have hb':∀ r,0<b r/\(b r).natAbs<2 ^ W:=λr=>⟨(hb r).1,(hb r).2.1⟩;obtain ⟨D,eD,bD⟩:=ar6 (W:=W) (n:=k) (M:=λr c=>((b r:Int):Rat)*B r c) ⋯ λr c=>(hb r).2.2 c;rw [av1] at eD;obtain ⟨P,eP,pP,bP⟩:=as7 hb' k;have:=an3 (x:=dt k B) (d:=P) (m:=D) (by rw [<- eD,eP];grind) ⋯
 exact ⟨q0q this.1 bD,q0q this.2 bP⟩
def qq (M:List (List Rat)) (i j:Nat):Rat:=aQ ((M[i]?).getD []) j
structure Ld (W n:Nat) (A B:Mt) (sg:Rat) (k:Nat) (M:List (List Rat)) (fd:Rat):Prop where
 len:M.length=n
 row:∀ L ∈ M,L.length=n
 ent:∀ i j,k<=i->i<n->k<=j->j<n->qq M i j*dt k B=mi B k i j
 zer:∀ i j,k<=i->i<n->j<k->qq M i j=0
 sc:Sc W B
 sgn:sg=1 \/ sg=-1
 det:dt n A=sg*dt n B
 led:∀ m,1<=m->m<=k->dt m B ≠ 0
 fnd:fd=sg*dt k B
section
variable {W n:Nat} {A B:Mt} {sg fd:Rat} {k:Nat} {M M':List (List Rat)}
theorem Ld.dk (E:Ld W n A B sg k M fd):dt k B ≠ 0:=by
 rcases g0c k with z | z
 ·rw [z];show (1:Rat) ≠ 0;decide
 ·exact E.led k z (q0h _)
theorem Ld.start (len:M.length=n) (row:∀ L ∈ M,L.length=n) (sc:Sc W (qq M)):Ld W n (qq M) (qq M) 1 0 M 1 :=
 ⟨len,row,λi j _ _ _ _=>by rw [ad6];show _*1=_;grind,λi j _ _ h=>⋯,sc,.inl rfl,by grind,λm h1 h2=>⋯,by show (1:Rat)=1*1;grind⟩
theorem Ld.swap (E:Ld W n A B sg k M fd) {s:Nat} (hk:k<s) (hs:s<n) (len:M'.length=n) (row:∀ L ∈ M',L.length=n) (e:∀ i j,qq M' i j=if i=k then qq M s j else if i=s then qq M k j else qq M i j):Ld W n A (swU B k s) (-sg) k M' (-fd):=by
 have lead:∀ m,m<=k->dt m (swU B k s)=dt m B:=λm hm=>Y5 λr hr c _=>by
  unfold swU;rw [if_neg ⋯,if_neg ⋯]
 refine ⟨len,row,λi j h1 h2 h3 h4=>?_,λi j h1 h2 h3=>?_,E.sc.swU,?_,?_,λm h1 h2=>?_,?_⟩
 ·rw [e,bl1 hk,lead k (q0h _)]
  by_cases a:i=k
  ·rw [if_pos a,if_pos a,E.ent s j ⋯ hs h3 h4]
  ·rw [if_neg a,if_neg a]
   by_cases b:i=s
   ·rw [if_pos b,if_pos b,E.ent k j (q0h _) ⋯ h3 h4]
   ·rw [if_neg b,if_neg b,E.ent i j h1 h2 h3 h4]
 ·rw [e]
  split
  ·exact E.zer s j ⋯ hs h3
  ·split
   ·exact E.zer k j (q0h _) ⋯ h3
   ·exact E.zer i j h1 h2 h3
 ·rcases E.sgn with z | z
  ·right;rw [z]
  ·left;rw [z];decide
 ·rw [bm2 ⋯ hs ⋯,E.det];grind
 ·rw [lead m h2];exact E.led m h1 h2
 ·rw [lead k (q0h _),E.fnd];grind
theorem Ld.step (E:Ld W n A B sg k M fd) (hk:k<n) (h0:qq M k k ≠ 0) (len:M'.length=n) (row:∀ L ∈ M',L.length=n) (e:∀ i j,k<i->i<n->j<n->qq M' i j=qq M i j-qq M i k*(qq M k k)⁻¹*qq M k j):Ld W n A B sg (k+1) M' (fd*qq M k k):=by
 have ekk:=E.ent k k (q0h _) hk (q0h _) hk;have dk:=E.dk;have next:dt (k+1) B=qq M k k*dt k B:=by rw [ekk,aP5]
 have inv:=z0t _ h0;refine ⟨len,row,λi j h1 h2 h3 h4=>?_,λi j h1 h2 h3=>?_,E.sc,E.sgn,E.det,λm h1 h2=>?_,?_⟩
 ·rw [e i j ⋯ h2 h4,next]
  have sy:=ay1 k B E.led i j ⋯ ⋯;rw [<- ekk,<- E.ent i j ⋯ h2 ⋯ h4,<- E.ent i k ⋯ h2 (q0h _) hk,<- E.ent k j (q0h _) hk ⋯ h4] at sy
  have key:dt k B*((qq M i j-qq M i k*(qq M k k)⁻¹*qq M k j)*(qq M k k*dt k B))=dt k B*mi B (k+1) i j:=by
   rw [<- sy];generalize (qq M k k)⁻¹=u at *;generalize qq M k k=a at *;generalize qq M i j=b at *;generalize qq M i k=c at *;generalize qq M k j=d at *;generalize dt k B=f at *
   grind
  have iv:=z0t _ dk;have:=congrArg (λt=>(dt k B)⁻¹*t) key;simp only [<- Rat.mul_assoc] at this;rw [Rat.mul_comm (dt k B)⁻¹,iv,m0f,m0f] at this;rw [<- this];grind
 ·rw [e i j ⋯ h2 ⋯]
  rcases g0s j k with z | z
  ·rw [E.zer i j ⋯ h2 z,E.zer k j (q0h _) hk z];grind
  ·have:j=k:=⋯
   subst this;generalize (qq M j j)⁻¹=u at *
   grind
 ·rcases g0s k m with z | z
  ·have:m=k+1:=⋯
   subst this;rw [next];intro y;rcases u0v.mp y with y | y
   ·exact h0 y
   ·exact dk y
  ·exact E.led m h1 ⋯
 ·rw [next,E.fnd];grind
theorem Ld.stuck (E:Ld W n A B sg k M fd) (hk:k<n) (h:∀ i,k<=i->i<n->qq M i k=0):dt n A=0:=by
 rw [E.det,aK0 k n B E.led hk λi h1 h2=>?_]
 ·grind
 ·rw [<- E.ent i k h1 h2 (q0h _) hk,h i h1 h2];grind
theorem Ld.done (E:Ld W n A B sg n M fd):fd=dt n A:=by rw [E.fnd,E.det]
theorem Ld.bits (E:Ld W n A B sg k M fd) (n15:n<15) {i j:Nat} (h1:k<=i) (h2:i<n) (h4:j<n):(qq M i j).num.natAbs<=2 ^ ((W+4)*(n+1))/\(qq M i j).den<=2 ^ ((W+4)*(n+1)):=by
 rcases g0s j k with z | z
 ·rw [E.zer i j h1 h2 z]
  exact ⟨z0n _,Nat.one_le_two_pow⟩
 ·have:=E.sc.minor ⋯ E.dk (E.ent i j h1 h2 z h4)
  refine ⟨q0q this.1 (y0h (by decide) (y0m _ ⋯)),q0q this.2 (y0h (by decide) ?_)⟩
  have:=y0m (W+4) (show k<=n by omega)
  rw [y0z];omega
theorem Ld.fbits (E:Ld W n A B sg k M fd) (n15:n<15) (hk:k<=n):fd.num.natAbs<=2 ^ ((W+4)*n)/\fd.den<=2 ^ ((W+4)*n):=by
 have:=E.sc.det (k:=k) ⋯
 have e:fd.num.natAbs=(dt k B).num.natAbs/\fd.den=(dt k B).den:=by
  rcases E.sgn with z | z
  ·rw [E.fnd,z,m0f];exact ⟨rfl,rfl⟩
  ·rw [E.fnd,z,show (-1:Rat)*dt k B=- dt k B by grind,u0f,g0a,v0k];exact ⟨rfl,rfl⟩
 rw [e.1,e.2];refine ⟨q0q this.1 (y0h (by decide) (y0m _ hk)),q0q this.2 (y0h (by decide) ?_)⟩
 have:=y0w (show W<=W+4 by omega) hk
 exact this
end
section
variable {P:Program} {w:World} {K:q0a} {mg:Str->Option Value} {base:Heap}
abbrev ad0:Stmt:=top 45
theorem U9:i9 ["_law_top","_law_bottom","_law_one","_law_other_here"] ["_law_top","_law_bottom"] (c6 ad0):=by and_intros
theorem aI1 {f:Addr} (d:Df K mg "_law_low" ad0 ["_law_top","_law_bottom"] f) (n_abs:mg "abs" = none):Def P w K mg base CX0 1 "_law_low" f ["_law_top","_law_bottom"] ap0:=by
  refine d.ok (N:=["_law_top","_law_bottom","_law_one","_law_other_here"]) U9 (λvs H Q E ⟨a,b,h,_⟩=>by rw [h];rfl) (λcdv A outer s H vs Q E hr h=>?_)
  obtain ⟨t,b,rfl,hb0,hb,k⟩:=h
  refine ⟨_, (b9 (h9 (i := 2) U9.nd rfl (Or.inl rfl) (g8 ac3 rfl n_abs (by decide +kernel) (a8 (pv 0) b6)))
      (b9 (h9 (i:=3) U9.nd rfl (Or.inl rfl) (g8 ac3 rfl n_abs (by decide +kernel) (a8 (pv 1) b6)))
      (b9 (al0 PassesOwn.never (j1 ae2 (pv 3) b7 (i5 _)) (c7 (aM2 (i:=2) (j:=3) rfl U9.nd rfl rfl (by decide) rfl rfl (a8 (pv 3) (a8 (d2 P0 (pv 2) (pv 3)) b6)) rfl)))
      (b9 (A4 (j1 ab6 (pv 1) b7 (i5 _)) (c7 (h9 (i:=2) U9.nd rfl (Or.inl rfl) (d2 G8 b7 (pv 2)))) m6)
      (c7 (i7 (j2 (a8 (d2 A6 (pv 0) (pv 2)) (a8 (d2 A6 (pv 1) (pv 2)) b6))))))))),?_⟩
  rw [show start ["_law_top","_law_bottom","_law_one","_law_other_here"] [.int t,.int b]=[some (.int t),some (.int b),none,none] from rfl]
  subst_eqs
  refine aG5 (λσ H1=>H1=H/\∃ x y:Int,σ=[some (.int t),some (.int b),some (.int x),some (.int y)]/\0<=x/\0<=y/\Int.gcd x y=Int.gcd t b) (λσ _=>match σ with | [_,_,_,some (.int y)]=>y.natAbs | _=>0)
    ⟨rfl,_,_,rfl,by split <;> omega,by split <;> omega,?_⟩ ?_ ?_
  · have e1:(if t<0 then -t else t)=(t.natAbs:Int):=by split <;> omega
    have e2:(if b<0 then -b else b)=(b.natAbs:Int):=by split <;> omega
    rw [e1,e2,Int.gcd_eq_natAbs_gcd_natAbs,Int.gcd_eq_natAbs_gcd_natAbs];simp
  · rintro σ H1 ⟨rfl,x,y,rfl,hx,hy,hg⟩
    subst_eqs
    split
    · rename_i hy0
      exact ⟨⋯,hy,Int.fmod_nonneg_of_pos x hy0,by rw [aJ2];exact hg,af2 x ⋯⟩
    · rename_i hy0
      have hy':y=0:=⋯;subst hy'
      have ex:x=(Int.gcd t b:Int):=by
        rw [Int.gcd_zero_right] at hg;omega
      have gp:=G9 (t:=t) hb0;have gl:=aj7 (a:=t) hb0 hb
      by_cases hs:b<0
      · rw [if_pos hs]
        obtain ⟨e1,e2⟩:=ao2 (t:=t) (g:=0-x) hb0 (by rw [if_pos hs,ex];omega)
        have dv:∀ i,ag1 i (0-x):=λi=>aa3 ⋯ (by rw [show 0-x=-x by omega,Int.natAbs_neg,ex];exact V6 gl)
        refine ⟨dv _,dv _,t9,λr hr'=>?_⟩;exact k r _ (c5.new hr' _) (by rw [b8];unfold t4;rw [e1,e2])
      · rw [if_neg hs]
        obtain ⟨e1,e2⟩:=ao2 (t:=t) (g:=x) hb0 (by rw [if_neg hs,ex])
        have dv:∀ i,ag1 i x:=λi=>aa3 ⋯ (by rw [ex];exact V6 gl)
        refine ⟨dv _,dv _,t9,λr hr'=>?_⟩;exact k r _ (c5.new hr' _) (by rw [b8];unfold t4;rw [e1,e2])
  · intro σ H1 Q1 Q2 hQ h
    simp only [bl8,ipM,aL1,aV3,bd1,aL8,ay0,aZ6,aG7,ar9,bf3,bj5,tSl,bi6,ak2,V8,ak8,bj6,aD8,aJ1,C6,List.map_cons,List.map_nil,Option.bind_none,Option.bind_some,Option.join_some,bc4,bi8,bj1,tOr,bi7,aO4,tB,tOp,tUn,bi9,tBM,G2,tC,tCB,bc5,aL2,l9,aN0,T6,r6,T9,J1,ae4,bc6,bi5,aR8,tIf,aV8,aV4,ar8,aB9,aV6,aV5,aL0,aK9,bj0,rI,rI0,rU,aD7,ae3,aS4,as5,rEq,rNe,aM0,aL9,aL7,bj7,aD6,aZ8,aZ7,au6,aq8,cxR,cxX,Cx.nox,Cx.wish,Cx.body,Cx.suite,List.getElem?_cons_zero,List.getElem?_cons_succ,List.set_cons_zero,List.set_cons_succ,Option.some.injEq,V.int.injEq,V.bl.injEq,V.ref.injEq,V.str.injEq,exists_eq_left',exists_eq_left,exists_and_left,true_and,and_true,List.cons.injEq,reduceCtorEq,Bool.false_eq_true,if_false,if_true,exists_const,↓reduceIte,tyV,List.length_cons,List.length_nil,exists_eq,List.append_nil,List.cons_append,List.nil_append,decide_eq_true_eq,not_true_eq_false,not_false_eq_true,Bool.not_eq_true',decide_eq_false_iff_not,Bool.not_true,Bool.not_false,and_assoc,false_and,false_or,or_false] at h ⊢;obtain ⟨v,e1,i,e2,e3⟩:=h;exact ⟨v,e1,i,e2,hQ _ _ e3⟩
abbrev ac9:Stmt:=top 43
theorem P5:i9 ["_law_script","_law_at","_law_cell","_law_prime","_law_great"] ["_law_script","_law_at"] (c6 ac9):=by and_intros
theorem aI0 {f:Addr} (d:Df K mg "_law_urn" ac9 ["_law_script","_law_at"] f) (n_len:mg "len" = none) (n_abs:mg "abs" = none):Def P w K mg base CX0 1 "_law_urn" f ["_law_script","_law_at"] (bh3 K):=by
 refine d.ok (N:=["_law_script","_law_at","_law_cell","_law_prime","_law_great"]) P5 (λvs H Q E ⟨x,y,p,h,_⟩=>by rw [h];rfl) (λcdv A outer s H vs Q E hr h=>?_)
 obtain ⟨a,ns,i,rfl,hS,h0,h64,k⟩:=h
 refine ⟨_,(b9 (h9 (i:=2) P5.nd rfl (q0z rfl) b7)
   (b9 (A4 (j1 ab6 (pv 1) (g8 j5 rfl n_len (by decide +kernel) (a8 (pv 0) b6)) (i5 _)) (c7 (h9 (i:=2) P5.nd rfl (q0z rfl) (i6 j3 (pv 0) (pv 1) (λ_ _=>rfl)))) m6)
   (b9 (h9 (i:=3) P5.nd rfl (q0z rfl) (i6 k7 (j2 (a8 b7 (a8 b7 (a8 b7 (a8 b7 (a8 b7 (a8 b7 (a8 b7 (a8 b7 b6))))))))) (d2 P0 (pv 1) b7) (λ_ _=>rfl)))
   (b9 (h9 (i:=4) P5.nd rfl (q0z rfl) b7)
   (b9 (A4 (j1 bo5 (g8 ac3 rfl n_abs (by decide +kernel) (a8 (pv 2) b6)) (d2 af0 b7 b7) (i5 _)) (c7 (h9 (i:=4) P5.nd rfl (q0z rfl) (g8 ac3 rfl n_abs (by decide +kernel) (a8 (pv 2) b6)))) m6)
   (c7 (i7 (w9 (a8 (pv 4) (a8 (d2 P0 (d2 af0 (d2 y0 (d2 y0 (d2 P0 (pv 2) (pv 3)) (d2 t3 b7 (pv 1))) b7) b7) (pv 3)) (a8 (pv 3) b6))))))))))),?_⟩
 rw [show start ["_law_script","_law_at","_law_cell","_law_prime","_law_great"] [.ref a,.int i]=[some (.ref a),some (.int i),none,none,none] from rfl]
 refine f9 (λσ H1=>H1=H/\σ=[some (.ref a),some (.int i),some (.int 0),none,none]) (λN hN=>?_) ?_
 ·subst_eqs
  exact hN _ _ ⟨rfl,rfl⟩
 rintro σ H1 ⟨rfl,rfl⟩;refine f9 (λσ H2=>H2=H1/\∃ c:Int,σ=[some (.ref a),some (.int i),some (.int c),none,none]) (λN hN=>?_) ?_
 ·subst_eqs
  refine ⟨_,.inl hS,B3 (λhl=>?_) (λ_=>hN _ _ ⟨rfl,_,rfl⟩)⟩;obtain ⟨c,hc⟩:=aU4 (ns:=ns) h0 (by simpa using hl)
  exact ⟨_,hS,_,hc,hN _ _ ⟨rfl,c,rfl⟩⟩
 rintro σ H2 ⟨rfl,c,rfl⟩;obtain ⟨pr,hpr,p1,p2⟩:=aW8 h0;refine f9 (λσ H3=>c5 H2 H3/\σ=[some (.ref a),some (.int i),some (.int c),some (.int pr),none]) (λN hN=>?_) ?_
 ·subst_eqs
  exact ⟨by decide,λp hp=>⟨by decide,_,SqT.of b8,_,hpr,hN _ _ ⟨c5.new hp _,rfl⟩⟩⟩
 rintro σ H3 ⟨s1,rfl⟩;refine f9 (λσ H4=>H4=H3/\σ=[some (.ref a),some (.int i),some (.int c),some (.int pr),some (.int 0)]) (λN hN=>?_) ?_
 ·subst_eqs
  exact hN _ _ ⟨rfl,rfl⟩
 rintro σ H4 ⟨rfl,rfl⟩;refine f9 (λσ H5=>H5=H4/\∃ g:Int,0<=g/\σ=[some (.ref a),some (.int i),some (.int c),some (.int pr),some (.int g)]) (λN hN=>?_) ?_
 ·subst_eqs
  exact ⟨⟨by decide,by decide,by decide⟩,B3 (λ_=>hN _ _ ⟨rfl,_,by split <;> omega,rfl⟩) (λ_=>hN _ _ ⟨rfl,_,Int.le_refl _,rfl⟩)⟩
 rintro σ H5 ⟨rfl,g,hg,rfl⟩
 subst_eqs
 have m0:=y0p c (show 0<pr by omega)
 have m1:=v0d c (show 0<pr by omega)
 refine ⟨⋯,aY6 (by decide),⟨by decide,by decide,⋯⟩,⋯,by decide,λr hr'=>?_⟩
 refine k r _ (s1.trans (c5.new hr' _)) (s1.free hr') ⟨g,_,pr,b8,hg,y0p _ ⋯,?_,⋯,⋯⟩;have:=v0d ((c.fmod pr+65537*i+101) ^ (3:Int).toNat) (show 0<pr by omega)
 omega
abbrev Z5:Stmt:=top 44
theorem ak7:i9 ["_law_urn_here","_law_many","_law_drawn"] ["_law_urn_here","_law_many"] (c6 Z5):=by and_intros
theorem aF1 {f:Addr} (d:Df K mg "_law_draw" Z5 ["_law_urn_here","_law_many"] f):Def P w K mg base CX0 1 "_law_draw" f ["_law_urn_here","_law_many"] C9:=by
  refine d.ok (N:=["_law_urn_here","_law_many","_law_drawn"]) ak7 (λvs H Q E ⟨x,y,h,_⟩=>by rw [h];rfl) (λcdv A outer s H vs Q E hr h=>?_)
  obtain ⟨u,n,rfl,⟨g,m,p,hu,g0,m0,m1,p0,p1⟩,n0,n1,k⟩:=h
  refine ⟨_, (b9 (A4 (j1 ae2 (i6 j3 (pv 0) b7 (fun _ _ => rfl)) b7 (i5 _)) (b9 (h9 (i := 2) ak7.nd rfl (Or.inl rfl) (d2 P0 (i6 j3 (pv 0) b7 (fun _ _ => rfl)) (pv 1)))
      (b9 (E5 (d2 A6 (i6 j3 (pv 0) b7 (λ_ _=>rfl)) (pv 1)) (P2 (pv 0) b7 E1))
      (c7 (i7 (pv 2))))) m6)
      (b9 (E5 (d2 P0 (d2 y0 (d2 t3 (i6 j3 (pv 0) b7 (λ_ _=>rfl)) b7) b7) (i6 j3 (pv 0) b7 (λ_ _=>rfl))) (P2 (pv 0) b7 E1))
      (c7 (i7 (d2 P0 (d2 A6 (d2 P0 (d2 af0 (d2 A6 (i6 j3 (pv 0) b7 (λ_ _=>rfl)) b7) b7) b7) b7) (pv 1)))))),?_⟩
  rw [show start ["_law_urn_here","_law_many","_law_drawn"] [.ref u,.int n]=[some (.ref u),some (.int n),none] from rfl]
  have L1:SqL K H u [.int g,.int m,.int p]:=SqL.of hu;have x0:∀ g m p:Int,atI [V.int g,.int m,.int p] 0=some (.int g):=λ_ _ _=>rfl;have x1:∀ g m p:Int,atI [V.int g,.int m,.int p] 1=some (.int m):=λ_ _ _=>rfl;have x2:∀ g m p:Int,atI [V.int g,.int m,.int p] 2=some (.int p):=λ_ _ _=>rfl
  subst_eqs
  have dn:∀ i,ag1 i n:=λi=>aa3 ⋯ (Nat.lt_of_lt_of_le (show n.natAbs<2 ^ 40 by omega) (d7 (by decide)))
  refine ⟨_,L1,_,x0 g m p,_,rfl,B3 (λhg=>?_) (λhg=>?_)⟩
  · refine ⟨_,L1,_,x0 g m p,_,rfl,⋯,_,L1,_,x0 g m p,_,rfl,dn _,_,hu,0,rfl,?_⟩
    exact k _ _ (Int.fmod_nonneg_of_pos _ n0) (Int.fmod_lt_of_pos _ n0) (j9.upd _ _ _) ⟨g.fdiv n,m,p,b8,Int.fdiv_nonneg g0 ⋯,m0,m1,p0,p1⟩
  · have q0:=Int.fmod_nonneg_of_pos (m*60013+12289) p0
    have q1:=Int.fmod_lt_of_pos (m*60013+12289) p0;have z:SqL K (upd H u (.lst [.int g,.int ((m*60013+12289).fmod p),.int p])) u [.int g,.int ((m*60013+12289).fmod p),.int p]:=SqL.of b8
    have d16:0<=((m*60013+12289).fmod p).fdiv 16/\((m*60013+12289).fmod p).fdiv 16<2 ^ 40:=by
      rw [Int.fdiv_eq_ediv_of_nonneg _ (by decide)]
      omega
    refine ⟨_,L1,_,x1 g m p,_,rfl,az5 (by decide),_,L1,_,x2 g m p,_,rfl,⋯,_,hu,1,rfl,_,z,_,x1 _ _ _,_,rfl,aa3 (by decide) (Nat.lt_of_lt_of_le (show (16:Int).natAbs<2 ^ 40 by decide) (d7 (by decide))),⟨by decide,by decide,⋯⟩,by decide,aa3 (by decide) (Nat.lt_of_lt_of_le (show (8:Int).natAbs<2 ^ 40 by decide) (d7 (by decide))),⋯,?_⟩
    exact k _ _ (Int.fmod_nonneg_of_pos _ n0) (Int.fmod_lt_of_pos _ n0) (j9.upd _ _ _) ⟨g,_,p,b8,g0,q0,⋯,p0,p1⟩
abbrev Z4:Stmt:=top 51
theorem aD2:i9 ["_law_urn_here"] ["_law_urn_here"] (c6 Z4):=by and_intros
theorem aF0 {f fd:Addr} (d:Df K mg "_law_kind" Z4 ["_law_urn_here"] f) (G__law_draw:Def P w K mg base CX0 1 "_law_draw" fd ["_law_urn_here","_law_many"] C9):Def P w K mg base CX0 2 "_law_kind" f ["_law_urn_here"] as1:=by
 refine d.ok (N:=["_law_urn_here"]) aD2 (λvs H Q E ⟨u,h,_⟩=>by rw [h];rfl) (λcdv A outer s H vs Q E hr h=>?_)
 obtain ⟨u,rfl,hu,k⟩:=h;refine ⟨_,(c7 (i7 (i6 j3 (w9 (a8 b7 (a8 b7 (a8 b7 (a8 b7 (a8 b7 (a8 b7 (a8 b7 (a8 b7 b6))))))))) (c8 G__law_draw hr (a8 (pv 0) (a8 b7 b6)) g9) (λ_ _=>rfl)))),?_⟩;rw [show start ["_law_urn_here"] [.ref u]=[some (.ref u)] from rfl]
 simp! [C9]
 refine ⟨by decide,λl hl=>⟨K1 hu hl,by decide,by decide,λr H' r0 r1 sx hu'=>?_⟩⟩
 have e:=sx l _ b8 (w5 hu hl);have sx':j9 u H H':=j9.trans (c5.x (c5.new hl _) u) sx;have h3:r=0 \/ r=1 \/ r=2 \/ r=3 \/ r=4 \/ r=5 \/ r=6 \/ r=7:=⋯;rcases h3 with h | h | h | h | h | h | h | h <;> subst h <;> exact ⟨_,SqL.of e,_,rfl,k _ H' (by decide) sx' hu'⟩
abbrev U3:Stmt:=top 52
theorem ae6:i9 ["_law_urn_here","_law_kind_here","_law_top"] ["_law_urn_here","_law_kind_here"] (c6 U3):=by and_intros
abbrev W7:Stmt:=top 63
theorem aw3:i9 ["_law_thing"] ["_law_thing"] (c6 W7):=by and_intros
theorem aw9 {f:Addr} (d:Df K mg "_law_whole" W7 ["_law_thing"] f) (n_isinstance:mg "isinstance" = none) (n_int:mg "int" = none) (n_bool:mg "bool" = none):Def P w K mg base CX0 1 "_law_whole" f ["_law_thing"] ak3:=by
 refine d.ok (N:=["_law_thing"]) aw3 (λvs H Q E ⟨u,h,_⟩=>by rw [h];rfl) (λcdv A outer s H vs Q E hr h=>?_)
 obtain ⟨i,rfl,k⟩:=h;refine ⟨_,(c7 (i7 (an2 (g8 j6 rfl n_isinstance (by decide +kernel) (a8 (pv 0) (a8 (ad5 (v:=.ty "int") rfl n_int (by decide +kernel) rfl) b6))) (as8 (bk3 (g8 j6 rfl n_isinstance (by decide +kernel) (a8 (pv 0) (a8 (ad5 (v:=.ty "bool") rfl n_bool (by decide +kernel) rfl) b6)))))))),?_⟩
 rw [show start ["_law_thing"] [.int i]=[some (.int i)] from rfl]
 subst_eqs
 exact ⟨trivial,_,.of (.int i),_,aI9,br9 ⟨trivial,_,.of (.int i),_,aF3,k⟩⟩
abbrev N0:Stmt:=top 64
theorem ak6:i9 ["_law_thing"] ["_law_thing"] (c6 N0):=by and_intros
theorem al6 {f fw fl : Addr} (d : Df K mg "_law_is_number" N0 ["_law_thing"] f) (G__law_whole : Def P w K mg base CX0 1 "_law_whole" fw ["_law_thing"] ak3) (G__law_low : Def P w K mg base CX0 1 "_law_low" fl ["_law_top", "_law_bottom"] ap0) (n_isinstance : mg "isinstance" = none) (n_tuple : mg "tuple" = none) (n_len : mg "len" = none) :
    Def P w K mg base CX0 2 "_law_is_number" f ["_law_thing"] (aC2 K):=by
  refine d.ok (N:=["_law_thing"]) ak6 (λvs H Q E ⟨u,q,h,_⟩=>by rw [h];rfl) (λcdv A outer s H vs Q E hr h=>?_)
  obtain ⟨x,q,rfl,⟨ap,rfl,hS⟩,hd,k⟩:=h;have hu:=hr.units
  refine ⟨_, (b9 (A4 (PW.pt (Z7 (P9 (P8 (g8 j6 rfl n_isinstance (by decide +kernel) (a8 (pv 0) (a8 (ad5 (v := .ty "tuple") rfl n_tuple (by decide +kernel) rfl) b6))))) (Z7 (j1 al3 (g8 j5 rfl n_len (by decide +kernel) (a8 (pv 0) b6)) b7 (i5 _)) (Z7 (P9 (P8 (c8 G__law_whole hr (a8 (i6 k7 (pv 0) b7 (fun _ _ => rfl)) b6) g9))) (ad1 (P9 (P8 (c8 G__law_whole hr (a8 (i6 k7 (pv 0) b7 (fun _ _ => rfl)) b6) g9)))))))) (c7 (i7 Z8)) m6)
      (c7 (i7 (an2 (y4 ae2 (i6 k7 (pv 0) b7 (λ_ _=>rfl)) b7 (i5 _)) (as8 (y4 (aa6 hu) (c8 G__law_low hr (a8 (i6 k7 (pv 0) b7 (λ_ _=>rfl)) (a8 (i6 k7 (pv 0) b7 (λ_ _=>rfl)) b6)) g9) (pv 0) (i5 _))))))),?_⟩
  rw [show start ["_law_thing"] [.ref ap]=[some (.ref ap)] from rfl]
  have dq:=p8 q
  simp! [ak3,aw2]
  refine ⟨trivial,_,.sqt hS,_,aI8,?_⟩
  simp! [ak3,aw2]
  refine ⟨_,.inr hS,?_⟩
  simp! [ak3,aw2,t4]
  refine B3 (λhh=>absurd rfl hh) (λ_=>?_);refine ⟨_,hS,_,at0 q,_,rfl,_,hS,_,at1 q,_,rfl,_,hS,_,at1 q,_,rfl,?_⟩;rw [if_pos dq];refine ⟨_,hS,_,at0 q,_,hS,_,at1 q,_,_,rfl,⋯,hd,λr H' sm hr'=>?_⟩;rw [Rat.num_divInt_den] at hr';refine ⟨R0 q,R0 q,rfl,aa1 (SqT.of hr'),aa1 (sm.tup hS),ar2 q q,aN4 q,?_⟩;rw [ar5];exact k H' sm
def spOther:Sp:=λvs H Q _ => ∃ u kd,vs=[.ref u,.int kd]/\j7 H u/\∀ r q H',Sm q->q ≠ 0->j9 u H H'->j7 H' u->H' r=some (.tup (t4 q))->Q (.ref r) H'
abbrev X0:Stmt:=top 53
theorem ai3:i9 ["_law_urn_here","_law_kind_here","_law_found"] ["_law_urn_here","_law_kind_here"] (c6 X0):=by and_intros
def aL4 (K:q0a):Sp:=λvs H Q _ => ∃ a xs qs,vs=[.ref a]/\SqL K H a xs/\v9 H xs qs/\∀ m r H',P3 qs m->c5 H H'->H r=none->H' r=some (.lst (xs.take m))->Q (.ref r) H'
abbrev V1:Stmt:=top 55
theorem W5:i9 ["_law_numbers","_law_found"] ["_law_numbers"] (c6 V1):=by and_intros
theorem aP6 {α:Type} {xs:List α} {x:α} (h:xs[xs.length-1]? = some x):atI xs (-1)=some x:=by
 have hp:xs.length-1<xs.length:=(q0f.mp h).1
 have e:ixN xs.length (-1)=some (xs.length-1):=by
  unfold ixN;rw [if_neg (by decide)]
  rw [if_pos ⋯]
  congr 1
  omega
 unfold atI;rw [e];exact h
theorem aE5 {f:Addr} (d:Df K mg "_law_trim" V1 ["_law_numbers"] f) (n_list:mg "list" = none):Def P w K mg base CX0 1 "_law_trim" f ["_law_numbers"] (aL4 K):=by
  refine d.ok (N:=["_law_numbers","_law_found"]) W5 (λvs H Q E ⟨a,xs,qs,h,_⟩=>by rw [h];rfl) (λcdv A outer s H vs Q E hr h=>?_)
  obtain ⟨a,xs,qs,rfl,hS,hN,k⟩:=h;have hu:=hr.units
  refine ⟨_, (b9 (h9 (i := 1) W5.nd rfl (Or.inl rfl) (p5 C5 rfl n_list (by decide +kernel) (a8 (pv 0) b6)))
      (b9 (al0 PassesOwn.never (PW.pt (aD9 (j1 (af1 hu) (pv 1) (w9 b6) (i5 _)) (ar0 (j1 R3 (i6 k7 (i6 j3 (pv 1) (ae9 Y1 b7) (λ_ _=>rfl)) b7 (λ_ _=>rfl)) b7 (i5 _))))) (c7 (al1 (aE1 PySem.F.plainAttrs_list PySem.F.slot_list_pop PySem.F.type_list_pop aY8 (pv 1)))))
      (c7 (i7 (pv 1))))),?_⟩
  rw [show start ["_law_numbers","_law_found"] [.ref a]=[some (.ref a),none] from rfl]
  subst_eqs
  refine ⟨_,.inl hS,λl hl=>?_⟩
  refine aG4 (λσ H1=>σ=[some (.ref a),some (.ref l)]/\∃ m,m<=qs.length/\(∀ (i:Nat) (q:Rat),m<=i->qs[i]? = some q->q=0)/\c5 H H1/\H1 l=some (.lst (xs.take m))) (λσ H1=>match H1 l with | some (.lst ys)=>ys.length | _=>0)
    ⟨rfl,qs.length,Nat.le_refl _,λi q hi e=>?_,c5.new hl _,?_⟩ ?_
  · rw [List.getElem?_eq_none hi] at e;cases e
  · rw [b8,<- hN.length,List.take_length]
  · rintro σ H1 ⟨rfl,m,hm,hz,sm,e1⟩
    have hml:(xs.take m).length=m:=by rw [List.length_take,hN.length];omega
    subst_eqs
    refine ⟨by decide,λp hp=>?_⟩
    have n1:v9 H1 (xs.take m) (qs.take m):=(hN.mono sm.tups).take m;have pl:p ≠ l:=(d5 e1 hp).symm;have e2:upd H1 p (.lst []) l=some (.lst (xs.take m)):=by rw [d4 pl.symm];exact e1
    have n2:v9 (upd H1 p (.lst [])) (xs.take m) (qs.take m):=n1.mono (V5.new hp);refine ⟨A9 (qs.take m),A9 [],rfl,K8 (SqL.of e2) n2,K8 (SqL.of b8) .nil,O7 _ _,Nat.le_trans (U7 _) (by decide),?_⟩
    rw [L9]
    by_cases h0:m=0
    · subst h0
      simp only [List.take_zero,decide_true,Bool.not_true,Bool.false_eq_true,if_false];refine ⟨false,rfl,B3 (λh=>absurd h (by decide)) λ_=>k 0 l _ ⟨Nat.zero_le _,hz,λh=>absurd rfl h⟩ (sm.trans (c5.new hp _)) hl ?_⟩
      rw [e2]
    · have hlt:m-1<qs.length:=⋯
      have hne:qs.take m ≠ []:=λz=>by
        have:=congrArg List.length z;rw [List.length_take,List.length_nil] at this;omega
      simp only [hne,decide_false,Bool.not_false];obtain ⟨pv,hv,hpv⟩:=n2.get (i:=m-1) (q:=qs[m-1]) (by rw [List.getElem?_take_of_lt ⋯];exact List.getElem?_eq_getElem hlt)
      refine ⟨true,rfl,B3 (λ_=>?_) (λh=>absurd rfl h)⟩;refine ⟨_,SqL.of e2,_,aP6 (by rw [hml];exact hv),_,rfl,_,SqT.of hpv,_,at0 _,rfl,?_⟩
      refine B3 (λhn=>?_) (λhn=>?_)
      · have hn':qs[m-1].num=0:=V.int.inj hn
        refine WhB.mk ?_
        subst_eqs
        refine ⟨.inl ⟨_,SqL.of e2⟩,_,e2,_,by rw [hml];exact hv,WhN.mk ⟨rfl,m-1,⋯,λi q hi e=>?_,(sm.trans (c5.new hp _)).over hl _,?_⟩ ?_⟩
        · by_cases hi':i=m-1
          · subst hi'
            rw [List.getElem?_eq_getElem hlt] at e
            cases e
            exact ab8.mp hn'
          · exact hz i q ⋯ e
        · rw [b8,List.dropLast_eq_take,hml,List.take_take,Nat.min_eq_left ⋯]
        · rw [b8]
          simp only [e1,List.length_dropLast];omega
      · have hn':qs[m-1] ≠ 0:=λz=>hn (by rw [z];rfl)
        exact k m l _ ⟨hm,hz,λ_ q e=>by rw [List.getElem?_eq_getElem hlt] at e;cases e;exact hn'⟩ (sm.trans (c5.new hp _)) hl e2
abbrev F1:Stmt:=top 59
theorem ai9:i9 ["_law_urn_here","_law_kind_here","_law_most"] ["_law_urn_here","_law_kind_here","_law_most"] (c6 F1):=by and_intros
abbrev K6:Stmt:=top 65
theorem aq2:i9 ["_law_thing"] ["_law_thing"] (c6 K6):=by and_intros
structure BtN (k:Nat) (q:Rat):Prop where
 n:q.num.natAbs<2 ^ 20000
 d:q.den<2 ^ k
theorem BtN.d' {n:Nat} {q:Rat} (b:BtN n q):(q.den:Int).natAbs<2 ^ n:=by rw [q0y];exact b.d
theorem BdN.t {n:Nat} {q:Rat} (b:BdN n q) (h:n<=20000):BtN n q:=⟨q0b b.n (d7 h),b.d⟩
theorem v9.set {H:Hp}:∀ {vs:List V} {qs:List Rat} (k:Nat) {p:Addr} {q:Rat},v9 H vs qs->H p=some (.tup (t4 q))->v9 H (vs.set k (.ref p)) (qs.set k q)
 | _,_,_,_,_,.nil,_=>.nil
 | _,_,0,_,_,.cons _ t,h=>.cons h t
 | _,_,k+1,_,_,.cons h' t,h=>.cons h' (t.set k h)
theorem v9.rep {H:Hp} {p:Addr} {q:Rat} (h:H p=some (.tup (t4 q))):∀ n,v9 H (q0t n (.ref p)) (q0t n q)
 | 0=>.nil
 | n+1=>.cons h (v9.rep h n)
def B8 (K:q0a) (op:Rat->Rat->Rat):Sp:=λvs H Q _ => ∃ (x y:V) (p q:Rat) (m n:Nat),vs=[x,y]/\Num K H x p/\Num K H y q/\BtN m p/\BtN n q/\m+n<=6000/\ak0 H Q (op p q)
theorem bm6 {p q:Rat} {m n:Nat} (bp:BtN m p) (bq:BtN n q) (h:m+n<=6000):((p.den:Int)*q.den).natAbs<2 ^ 6000:=by
 rw [z0j];have:=z0g bp.d' bq.d';rw [<- z0p] at this;exact q0b this (d7 h)
theorem aF9 (p q:Rat):(p.den:Int)*q.den ≠ 0:=g0r (u0d (p8 p) (p8 q))
abbrev Z1:Stmt:=top 46
theorem aC9:i9 ["_law_one","_law_other_here"] ["_law_one","_law_other_here"] (c6 Z1):=by and_intros
theorem aE7 {f fl:Addr} (d:Df K mg "_law_plus" Z1 ["_law_one","_law_other_here"] f) (G__law_low:Def P w K mg base CX0 1 "_law_low" fl ["_law_top","_law_bottom"] ap0):Def P w K mg base CX0 2 "_law_plus" f ["_law_one","_law_other_here"] (B8 K (· + ·)):=by
 refine d.ok (N:=["_law_one","_law_other_here"]) aC9 (by rintro vs H Q E ⟨x,y,p,q,m,n,h,_⟩;rw [h];rfl) (λcdv A outer s H vs Q E hr h=>?_)
 obtain ⟨x,y,p,q,m,n,rfl,⟨ap,rfl,hp⟩,⟨aq,rfl,hq⟩,bp,bq,hmn,k⟩:=h;refine ⟨_,(c7 (i7 (c8 G__law_low hr (a8 (d2 y0 (d2 t3 (i6 k7 (pv 0) b7 (λ_ _=>rfl)) (i6 k7 (pv 1) b7 (λ_ _=>rfl))) (d2 t3 (i6 k7 (pv 1) b7 (λ_ _=>rfl)) (i6 k7 (pv 0) b7 (λ_ _=>rfl)))) (a8 (d2 t3 (i6 k7 (pv 0) b7 (λ_ _=>rfl)) (i6 k7 (pv 1) b7 (λ_ _=>rfl))) b6)) g9))),?_⟩;rw [show start ["_law_one","_law_other_here"] [.ref ap,.ref aq]=[some (.ref ap),some (.ref aq)] from rfl]
 subst_eqs
 refine ⟨_,hp,_,at0 p,_,hq,_,at1 q,_,rfl,_,rfl,Q4 bp.n bq.d' ⋯,_,hq,_,at0 q,_,hp,_,at1 p,_,rfl,_,rfl,Q4 bq.n bp.d' ⋯,_,hp,_,at1 p,_,hq,_,at1 q,_,rfl,_,rfl,Q4 bp.d' bq.d' ⋯,?_⟩;refine ⟨_,_,rfl,aF9 p q,bm6 bp bq hmn,?_⟩;rw [<- av8];exact k
abbrev W9:Stmt:=top 48
theorem aw4:i9 ["_law_one","_law_other_here"] ["_law_one","_law_other_here"] (c6 W9):=by and_intros
theorem ax1 {f fl:Addr} (d:Df K mg "_law_times" W9 ["_law_one","_law_other_here"] f) (G__law_low:Def P w K mg base CX0 1 "_law_low" fl ["_law_top","_law_bottom"] ap0):Def P w K mg base CX0 2 "_law_times" f ["_law_one","_law_other_here"] (B8 K (· * ·)):=by
 refine d.ok (N:=["_law_one","_law_other_here"]) aw4 (by rintro vs H Q E ⟨x,y,p,q,m,n,h,_⟩;rw [h];rfl) (λcdv A outer s H vs Q E hr h=>?_)
 obtain ⟨x,y,p,q,m,n,rfl,⟨ap,rfl,hp⟩,⟨aq,rfl,hq⟩,bp,bq,hmn,k⟩:=h;refine ⟨_,(c7 (i7 (c8 G__law_low hr (a8 (d2 t3 (i6 k7 (pv 0) b7 (λ_ _=>rfl)) (i6 k7 (pv 1) b7 (λ_ _=>rfl))) (a8 (d2 t3 (i6 k7 (pv 0) b7 (λ_ _=>rfl)) (i6 k7 (pv 1) b7 (λ_ _=>rfl))) b6)) g9))),?_⟩;rw [show start ["_law_one","_law_other_here"] [.ref ap,.ref aq]=[some (.ref ap),some (.ref aq)] from rfl]
 subst_eqs
 refine ⟨_,hp,_,at0 p,_,hq,_,at0 q,_,rfl,_,rfl,Q4 bp.n bq.n ⋯,_,hp,_,at1 p,_,hq,_,at1 q,_,rfl,_,rfl,Q4 bp.d' bq.d' ⋯,?_⟩;refine ⟨_,_,rfl,aF9 p q,bm6 bp bq hmn,?_⟩;rw [<- aj3];exact k
end
structure M4 (B W:Nat) (M:List (List Rat)):Prop where
 n7:M.length<=7
 B0:0<B
 BW:B<2 ^ W
 row:∀ L ∈ M,L.length=M.length/\∀ q ∈ L,OvB B W q
theorem bk5 {B W:Nat} {q:Rat} (B0:0<B) (BW:B<2 ^ W) (h:OvB B W q):BdN W q:=by
 obtain ⟨v,rfl,b⟩:=h;have x:=U0 (t:=v) (b:=(B:Int)) ⋯;exact ⟨q0s x.1 b,q0s x.2 (by rw [q0y];exact BW)⟩
theorem M4.bd {B W:Nat} {M:List (List Rat)} (h:M4 B W M):∀ L ∈ M,L.length=M.length/\∀ x ∈ L,BdN W x:=λL hL=>⟨(h.row L hL).1,λx hx=>bk5 h.B0 h.BW ((h.row L hL).2 x hx)⟩
end R
set_option maxRecDepth 100000
namespace L2
open PySem PySem.Spec PyProof.Rows
theorem aN8 {D:Addr} {g:TG} {tt:TT} {te:TE} {σ0:St} {H0:Hp} {Q:VK} {lo:Int} {n:Nat} (Pv:Nat->St->Hp->Prop) (h0:Pv 0 σ0 H0)
  (hs:∀ i σ H,i<n->Pv i σ H->g (.int (lo+i)) σ H λσ4 H4=>tt σ4 H4 λb H4'=>if b=true then te σ4 H4' λy H5=>m8 D n Pv i σ4 y H5 else aR1 n Pv i σ4 H4')
  (hd:∀ σ H,Pv n σ H->Q (.ref D) H):bc2 (Itr lo n) D σ0 H0 g tt te Q:=by
 refine ⟨λi m σ H=>m=n-i/\i<=n/\Pv i σ H,⟨_,rfl,z0n _,h0⟩,?_⟩;rintro i m σ H ⟨rfl,hi,p⟩
 by_cases hlt:i<n
 ·refine .inr ⟨hlt,?_⟩
  intro x H3 hy;obtain ⟨rfl,rfl⟩:=hy;exact hs i σ _ hlt p
 ·have e:i=n:=⋯
  subst e;exact .inl ⟨q0h _,hd σ H p⟩
end L2
namespace R
open PySem L2 PyProof.Rows
theorem K4.set {K:q0a} {H:Hp}:∀ {ts:List Addr} {M:List (List Rat)} (k:Nat) {p:Addr} {xs:List V} {L:List Rat},K4 K H ts M->H p=some (.lst xs)->w4 K H xs L->K4 K H (ts.set k p) (M.set k L)
 | _,_,_,_,_,_,.nil,_,_=>.nil
 | _,_,0,_,_,_,.cons _ _ t,e,f=>.cons e f t
 | _,_,k+1,_,_,_,.cons h n t,e,f=>.cons h n (t.set k e f)
theorem aM1 {M:List (List Rat)} {k:Nat} (hk:k<M.length) (L:List Rat) (i j:Nat):qq (M.set k L) i j=if i=k then aQ L j else qq M i j:=by
 unfold qq;rw [List.getElem?_set]
 by_cases z:k=i
 ·rw [if_pos z,if_pos hk,if_pos z.symm];rfl
 ·rw [if_neg z,if_neg (Ne.symm z)]
theorem aS2 {B W:Nat} {M:List (List Rat)} (hB:0<B) (hW:B<2 ^ W) (h:∀ L ∈ M,∀ q ∈ L,OvB B W q):Sc W (qq M):=by
 refine ⟨λ_=>(B:Int),λr=>⟨by show (0:Int)<(B:Int);omega,by simpa using hW,λc=>?_⟩⟩
 have:OvB B W (qq M r c):=by
  unfold qq
  cases e:M[r]? with
  | none=>exact OvB.zero _ _
  | some L =>
   show OvB B W (aQ L c);unfold aQ
   cases e2:L[c]? with
   | none=>exact OvB.zero _ _
   | some q=>exact h L (q0v e) q (q0v e2)
 obtain ⟨v,e,b⟩:=this;refine ⟨v,?_,b⟩
 have b0:((B:Int):Rat) ≠ 0:=λy=>by
  have:(B:Int)=0:=y0t.mp y;omega
 rw [e,j0h,Rat.mul_comm,Rat.div_mul_cancel b0]
theorem BdN.inv {m:Nat} {q:Rat} (h0:q ≠ 0) (h:BdN m q):BdN m q⁻¹:=by
 have hn:q.num ≠ 0:=λz=>h0 (Rat.num_eq_zero.mp z);have e:q⁻¹=z0b q.den q.num:=by rw [q1b]
 have b:=an3 (x:=q⁻¹) (d:=q.num) (m:=(q.den:Int)) (by
  rw [e,j0h];exact Rat.div_mul_cancel λy=>hn (y0t.mp y)) hn
 exact ⟨q0s b.1 (by rw [q0y];exact h.d),q0s b.2 h.n⟩
theorem K4.at {K:q0a} {H:Hp} {ts:List Addr} {M:List (List Rat)} {n m:Nat} (h:K4 K H ts M) (ln:M.length=n) (lm:∀ L ∈ M,L.length=m) {i:Nat} (hi:i<n):∃ (p:Addr) (xs:List V) (L:List Rat),(ts.map V.ref)[i]? = some (.ref p)/\ts[i]? = some p/\M[i]? = some L/\H p=some (.lst xs)/\w4 K H xs L/\L.length=m/\∀ j,qq M i j=aQ L j:=by
 have e:=q0j (l:=ts) (i:=i) (by rw [h.length,ln];exact hi)
 obtain ⟨xs,L,e1,e2,e3⟩:=h.get e;exact ⟨_,xs,L,by rw [z0c,e];rfl,e,e1,e2,e3,lm L (q0v e1),λj=>by unfold qq;rw [e1];rfl⟩
structure Ew (n m:Nat) (A B:Mt) (k:Nat) (M:List (List Int)) (dv:Int):Prop where
 len:M.length=n
 row:∀ L ∈ M,L.length=m
 nm:n<=m
 ent:∀ i j,k<=i->i<n->k<=j->j<m->((zz M i j:Int):Rat)=mi B k i j
 zer:∀ i j,k<=i->i<n->j<k->zz M i j=0
 abv:∀ i j,i<k->k<=j->j<m->((zz M i j:Int):Rat)=mi B k (n+i) j
 dia:∀ i j,i<k->j<k->zz M i j=if i=j then dv else 0
 ext:∀ i c,B (n+i) c=if c=i then -1 else 0
 int:∀ r c,IsI (B r c)
 det:dt n B=dt n A
 led:∀ q,1<=q->q<=k->dt q B ≠ 0
 div:((dv:Int):Rat)=dt k B
def dij (i j:Nat):Rat:=if i=j then 1 else 0
def Rl (n:Nat) (Q:Mt) (M:List (List Int)):Prop:=∀ i j,i<n->j<n->((zz M i j:Int):Rat)=j4 (λt=>((zz M i (n+t):Int):Rat)*Q t j) n
def mm (n:Nat) (A B:Mt):Mt:=λi j=>j4 (λt=>A i t*B t j) n
structure bn3 (n:Nat) (M:List (List Rat)) (f:Mt):Prop where
 len:M.length=n
 row:∀ L ∈ M,L.length=n
 at':∀ i j,i<n->j<n->qq M i j=f i j
theorem bn3.det {n:Nat} {M:List (List Rat)} {f:Mt} (h:bn3 n M f):dt n (qq M)=dt n f:=Y5 λr hr c hc=>h.at' r c hr hc
def N3 (n:Nat) (g:Nat->Int):List Int:=(z0w n).map g
def aq1 (n:Nat) (f:Nat->Nat->Int):List (List Int):=(z0w n).map λi=>N3 n (f i)
theorem O6 {n j:Nat} {g:Nat->Int} (h:j<n):(N3 n g)[j]? = some (g j):=by unfold N3;rw [z0c,Z6 h];rfl
theorem y9 (n:Nat) (g:Nat->Int):(N3 n g).length=n:=by simp [N3]
theorem ab1 {n i:Nat} {f:Nat->Nat->Int} (h:i<n):(aq1 n f)[i]? = some (N3 n (f i)):=by unfold aq1;rw [z0c,Z6 h];rfl
theorem B4 (n:Nat) (f:Nat->Nat->Int):(aq1 n f).length=n:=by simp [aq1]
structure ZT (H:Hp) (a:Addr) (n:Nat) (f:Nat->Nat->Int):Prop where
 ex:∃ ts:List Addr,H a=some (.lst (ts.map V.ref))/\RwZ H ts (aq1 n f)
theorem ZT.same {H H':Hp} {a:Addr} {n:Nat} {f:Nat->Nat->Int} (h:ZT H a n f) (s:c5 H H'):ZT H' a n f:=let ⟨ts,e,r⟩:=h.ex;⟨ts,s _ _ e,r.same s⟩
def bn2 (H:Hp) (Q:VK) (n:Nat) (f:Nat->Nat->Int):Prop:=∀ (r:Addr) (H':Hp),c5 H H'->H r=none->ZT H' r n f->Q (.ref r) H'
structure ZAt (H:Hp) (D:Addr) (Z:List (List Int)) (H2:Hp):Prop where
 same:c5 H H2
 ex:∃ ts:List Addr,H2 D=some (.lst (ts.map V.ref))/\D ∉ ts/\RwZ H2 ts Z
theorem ZAt.start {H:Hp} {D:Addr} (h:H D=none):ZAt H D [] (upd H D (.lst [])):=⟨c5.new h _,[],b8,by simp,.nil⟩
theorem ZAt.add {H H2 H3:Hp} {D D2:Addr} {Z:List (List Int)} {L:List Int} (t:ZAt H D Z H2) (h:H D=none) (s:c5 H2 H3) (h2:H2 D2=none) (e:H3 D2=some (.lst (L.map V.int))) :
  ∃ ys,H3 D=some (.lst ys)/\ys.length=Z.length/\ZAt H D (Z ++ [L]) (upd H3 D (.lst (ys ++ [.ref D2]))):=by
 obtain ⟨s2,ts,e2,nd,r⟩:=t;have eD:=s _ _ e2;have D2D:D2 ≠ D:=(d5 e2 h2).symm
 have nl:D ∉ ts ++ [D2]:=λz=>by
  rcases z0r.mp z with z | z
  ·exact nd z
  ·exact D2D (q0u.mp z).symm
 exact ⟨_,eD,by rw [q0g,r.length],(s2.trans s).over h _,ts ++ [D2],by rw [b8,j0r];rfl,nl,((r.same s).append (.cons e .nil)).over nl⟩
theorem ZAt.done {H H2:Hp} {D:Addr} {n:Nat} {f:Nat->Nat->Int} (t:ZAt H D (aq1 n f) H2):ZT H2 D n f:=let ⟨ts,e,_,r⟩:=t.ex;⟨ts,e,r⟩
structure ah8 (H:Hp) (D:Addr) (L:List Int) (H2:Hp):Prop where
 same:c5 H H2
 at':H2 D=some (.lst (L.map V.int))
theorem ah8.start {H:Hp} {D:Addr} (h:H D=none):ah8 H D [] (upd H D (.lst [])):=⟨c5.new h _,b8⟩
theorem ah8.add {H H2 H3:Hp} {D:Addr} {L:List Int} (v:Int) (t:ah8 H D L H2) (h:H D=none) (s:c5 H2 H3):ah8 H D (L ++ [v]) (upd H3 D (.lst (L.map V.int ++ [.int v]))):=⟨(t.same.trans s).over h _,by rw [b8,j0r];rfl⟩
theorem ZT.row {H:Hp} {ts:List Addr} {n i:Nat} {f:Nat->Nat->Int} {t:Addr} (r:RwZ H ts (aq1 n f)) (h:ts[i]? = some t):i<n/\H t=some (.lst ((N3 n (f i)).map V.int)):=by
 obtain ⟨L,hL,e⟩:=r.get h;have hi:i<n:=by have:=(q0f.mp hL).1;rw [B4] at this;exact this
 rw [ab1 hi] at hL
 cases hL
 exact ⟨hi,e⟩
theorem au5 {n j:Nat} {g:Nat->Int} {x:V} (h:((N3 n g).map V.int)[j]? = some x):j<n/\x=.int (g j):=by
 have hj:j<n:=by have:=(q0f.mp h).1;rw [q0g,y9] at this;exact this
 rw [z0c,O6 hj] at h
 cases h
 exact ⟨hj,rfl⟩
theorem aJ6 {n:Nat}:∀ {M:List (List Rat)} {i j:Nat},(∀ L ∈ M,L.length=n)->i<M.length->j<n->M.flatten[n*i+j]? = some (qq M i j)
 | L :: M,0,j,h,_,hj=>by
  have l:=h L q0x;rw [y0j,Nat.mul_zero,Nat.zero_add,g0m ⋯,q0j ⋯];unfold qq;rw [g0x]
  show _=some (aQ L j);unfold aQ;rw [q0j ⋯];rfl
 | L :: M,i+1,j,h,hi,hj=>by
  have l:=h L q0x;rw [y0j,v0p (by rw [l,y0z];omega),l,show n*(i+1)+j-n=n*i+j by rw [y0z];omega,aJ6 (λx hx=>h x (q0r _ hx)) (by simpa using hi) hj]
  unfold qq;rw [v0c]
theorem bm7 (xs:List V) {a b:Nat} (h:a<=b) (h':b<=xs.length):af7 xs (some (a:Int)) (some (b:Int))=(xs.drop a).take (b-a):=by
 unfold af7
 have e1:HT.sIx xs.length 0 (some (a:Int))=a:=by
  simp only [HT.sIx];rw [if_neg ⋯];omega
 have e2:HT.sIx xs.length xs.length (some (b:Int))=b:=by
  simp only [HT.sIx];rw [if_neg ⋯];omega
 rw [e1,e2]
theorem au7 {n:Nat}:∀ {M:List (List Rat)},(∀ L ∈ M,L.length=n)->M.flatten.length=n*M.length
 | [],_=>rfl
 | L :: M,h=>by
  rw [y0j,j0a,au7 λx hx=>h x (q0r _ hx),h L q0x,j0v,y0z,m0w]
section
variable {P:Program} {w:World} {K:q0a} {mg:Str->Option Value} {base:Heap}
def ay2:Sp:=λvs H Q _ => ∃ (a:Addr) (n:Nat) (f:Nat->Nat->Int),vs=[.ref a]/\ZT H a n f/\n<=8/\bn2 H Q n λi j=>f j i
theorem aM5 {f:Addr} (d:Df K mg "turned" ae7 ["table"] f) (n_range:mg "range" = none) (n_len:mg "len" = none):Def P w K mg base CX0 1 "turned" f ["table"] ay2:=by
 refine d.ok (N:=["table"]) aS1 (by rintro vs H Q E ⟨_,_,_,h,_⟩;rw [h];rfl) (λcdv A outer s H vs Q E hr h=>?_)
 obtain ⟨a,n,f,rfl,hZ,hl,k⟩:=h;obtain ⟨ts,ha,hR⟩:=hZ.ex;refine ⟨_,(c7 (i7 (al2 (Nc:=["table","place"]) (caps:=[some 0,none]) rfl (ag0.of (osc:=c6 ae7) (N:=["table"]) (ks:=["table"]) rfl rfl rfl rfl (i8 rfl j8) (by decide +kernel)) (A8 rfl n_range (a8 (g8 j5 rfl n_len (by decide +kernel) (a8 (pv 0) b6)) b6)) (λC s₂ H₂ fp pins=>(c9 (i:=1) (show z0q (["table","place"]:List Str) by decide +kernel) rfl (j0b rfl) (q0z rfl))) (λC s₂ H₂ fp pins=>(t5 (Nc:=["place","row"]) (caps:=[some 1,none]) rfl (G3.of (osc:=_) (N:=["table","place"]) (ks:=["place"]) rfl rfl rfl rfl (i8 rfl j8) (by kernel_rfl)) (show PI _ _ _ (au6 K _) from by exact (z9 (pv 0))) (λC s₂ H₂ fp pins=>(c9 (i:=1) (show z0q (["place","row"]:List Str) by decide +kernel) rfl (q0z rfl) (j0b rfl))) (λC s₂ H₂ fp pins=>(i6 (by exact j3:IxR _ (ae3 K)) (pv 1) (pv 0) (λ_ _=>rfl)))))))),?_⟩
 rw [show start ["table"] [.ref a]=[some (.ref a)] from rfl]
 subst_eqs
 have hRl:=hR.length;rw [B4] at hRl;refine ⟨_,.inl (SqL.of ha),⋯,by rw [q0g];omega,λD hD=>?_⟩
 refine M0 (λi σ H2 => ∃ o,σ=[some (.ref a),o]/\ZAt H D ((aq1 n λi j=>f j i).take i) H2) ⟨_,rfl,ZAt.start hD⟩ ?_ ?_
 ·rintro i σ H2 hi ⟨o,rfl,T⟩
  subst_eqs
  have ha2:=T.same _ _ ha;have hi':i<n:=by rw [q0g] at hi;omega
  refine ⟨⟨_,SqL.of ha2⟩,λD2 hD2=>?_⟩;refine C4 (ts.map V.ref) (λj σ H3 => ∃ o,σ=[some (.int (0+i)),o]/\ah8 H2 D2 ((N3 n λj=>f j i).take j) H3) ⟨_,rfl,ah8.start hD2⟩ (λj σ H3 _ ⟨_,_,R⟩=>SqL.of (R.same _ _ ha2)) ?_ ?_
  ·rintro j x σ H3 hx ⟨o,rfl,R⟩
   have hj:=(q0f.mp hx).1;obtain ⟨t,ht,rfl⟩:=F2 hx;obtain ⟨jn,et⟩:=ZT.row hR ht
   subst_eqs
   have S:=T.same.trans R.same;refine ⟨_,SqL.of (S _ _ et),.int (f j i),by rw [Int.zero_add,p7];rw [z0c,O6 hi'];rfl,?_⟩
   refine m8.mk hj R.at' (p9 (by rw [q0g,z0f,y9];omega)) ⟨_,rfl,?_⟩
   rw [d6 (O6 (g:=λj=>f j i) jn)];exact R.add _ hD2 (c5.refl _)
  ·rintro σ H3 ⟨o,rfl,R⟩
   rw [n9 (by rw [y9,q0g];omega)] at R
   obtain ⟨ys,eD,yl,T'⟩:=T.add hD R.same hD2 R.at';refine m8.mk hi eD (p9 (by rw [yl,z0f,B4];omega)) ⟨_,rfl,?_⟩
   rw [d6 (ab1 (f:=λi j=>f j i) hi')];exact T'
 ·rintro σ H2 ⟨o,rfl,T⟩
  rw [n9 (by rw [B4,q0g];omega)] at T
  exact k D H2 T.same hD T.done
def aH1:Sp:=λvs H Q _ => ∃ (a b:Addr) (n V' W:Nat) (f g:Nat->Nat->Int),vs=[.ref a,.ref b]/\ZT H a n f/\ZT H b n g/\n<=8/\(∀ i j,i<n->j<n->(f i j).natAbs<2 ^ V'/\(g i j).natAbs<2 ^ W)/\V'+W<=9000/\bn2 H Q n λi j=>smZ (N3 n λt=>f i t*g t j)
abbrev P7:Stmt:=top 38
theorem ai2:i9 ["one","other","columns"] ["one","other"] (c6 P7):=by and_intros
theorem aw7 {f f1:Addr} (d:Df K mg "rows_times" P7 ["one","other"] f) (GD_turned:Def P w K mg base CX0 1 "turned" f1 ["table"] ay2) (n_zip:mg "zip" = none) (n_sum:mg "sum" = none):Def P w K mg base CX0 2 "rows_times" f ["one","other"] aH1:=by
 refine d.ok (N:=["one","other","columns"]) ai2 (by rintro vs H Q E ⟨_,_,_,_,_,_,_,h,_⟩;rw [h];rfl) (λcdv A outer s H vs Q E hr h=>?_)
 obtain ⟨a,b,n,V',W,f,g,rfl,hZ,hY,hl,hB,hVW,k⟩:=h;have G_turned:=GD_turned;obtain ⟨ts,ha,hR⟩:=hZ.ex;have hRl:=hR.length;rw [B4] at hRl
 refine ⟨_,(b9 (h9 (i:=2) ai2.nd rfl (j0b rfl) (c8 G_turned hr (a8 (pv 1) b6) g9))
   (c7 (i7 (al2 (Nc:=["columns","row"]) (caps:=[some 2,none]) rfl (ag0.of (osc:=c6 P7) (N:=["one","other","columns"]) (ks:=["columns"]) rfl rfl rfl rfl (i8 rfl j8) (by decide +kernel)) (z9 (pv 0)) (λC s₂ H₂ fp pins=>(c9 (i:=1) (show z0q (["columns","row"]:List Str) by decide +kernel) rfl (j0b rfl) (q0z rfl))) (λC s₂ H₂ fp pins=>(t5 (Nc:=["row","column"]) (caps:=[some 1,none]) rfl (G3.of (osc:=_) (N:=["columns","row"]) (ks:=["row"]) rfl rfl rfl rfl (i8 rfl j8) (by kernel_rfl)) (show PI _ _ _ (au6 K _) from by exact (z9 (pv 0))) (λC s₂ H₂ fp pins=>(c9 (i:=1) (show z0q (["row","column"]:List Str) by decide +kernel) rfl (q0z rfl) (j0b rfl))) (λC s₂ H₂ fp pins=>(g8 (by exact aK6 rfl:Y6 _ (.builtin "sum") (bd1 K)) rfl n_sum (by decide +kernel) (a8 (t5 (Nc:=["a","b"]) (caps:=[none,none]) rfl (G3.of (osc:=_) (N:=["row","column"]) (ks:=[]) rfl rfl rfl rfl j8 (by kernel_rfl)) (show PI _ _ _ (bf3 K _) from by exact (aM3 rfl n_zip (a8 (pv 0) (a8 (pv 1) b6)))) (λC s₂ H₂ fp pins=>(show PG _ _ (T6 K 2 (r6 (l9 0) (r6 (l9 1) T9))) from by (refine C2 (n:=2) ?_ ?_ ?_ ?_;rfl;(refine i4 ?_ ?_ ?_;(exact (c9 (i:=0) (show z0q (["a","b"]:List Str) by decide +kernel) rfl (q0z rfl) (j0b rfl)));(refine i4 ?_ ?_ ?_;(exact (c9 (i:=1) (show z0q (["a","b"]:List Str) by decide +kernel) rfl (q0z rfl) (j0b rfl)));(exact y3);rfl);rfl);rfl;rfl))) (λC s₂ H₂ fp pins=>(d2 t3 (pv 0) (pv 1)))) b6))))))))),?_⟩
 rw [show start ["one","other","columns"] [.ref a,.ref b]=[some (.ref a),some (.ref b),none] from rfl]
 subst_eqs
 refine ⟨b,n,g,rfl,hY,hl,λc H1 s1 fc hC=>?_⟩;obtain ⟨us,hc,hS⟩:=hC.ex;have hSl:=hS.length;rw [B4] at hSl;have ha1:=s1 _ _ ha;refine ⟨⟨_,SqL.of ha1⟩,λD hD=>?_⟩;refine C4 (ts.map V.ref) (λi σ H2 => ∃ o,σ=[some (.ref c),o]/\ZAt H1 D ((aq1 n λi j=>smZ (N3 n λt=>f i t*g t j)).take i) H2) ⟨_,rfl,ZAt.start hD⟩ (λj σ H3 _ ⟨_,_,R⟩=>SqL.of (R.same _ _ ha1)) ?_ ?_
 ·rintro i x σ H2 hx ⟨o,rfl,T⟩
  have hi:=(q0f.mp hx).1;obtain ⟨t,ht,rfl⟩:=F2 hx;obtain ⟨iN,et⟩:=ZT.row hR ht;have et2:=T.same _ _ (s1 _ _ et);have hc2:=T.same _ _ hc
  subst_eqs
  refine ⟨⟨_,SqL.of hc2⟩,λD2 hD2=>?_⟩;refine C4 (us.map V.ref) (λj σ H3 => ∃ o,σ=[some (.ref t),o]/\ah8 H2 D2 ((N3 n λj=>smZ (N3 n λt=>f i t*g t j)).take j) H3) ⟨_,rfl,ah8.start hD2⟩ (λj σ H3 _ ⟨_,_,R⟩=>SqL.of (R.same _ _ hc2)) ?_ ?_
  ·rintro j x σ H3 hx2 ⟨o,rfl,R⟩
   have hj:=(q0f.mp hx2).1;obtain ⟨u,hu,rfl⟩:=F2 hx2;obtain ⟨jN,eu⟩:=ZT.row hS hu;have et3:=R.same _ _ et2;have eu3:=R.same _ _ (T.same _ _ eu)
   subst_eqs
   refine ⟨⟨_,SqL.of et3⟩,⟨_,SqL.of eu3⟩,λD3 hD3=>?_⟩;refine aN7 ((N3 n (f i)).map V.int) ((N3 n λt=>g t j).map V.int) (λz σ H4 => ∃ o1 o2,σ=[o1,o2]/\ah8 H3 D3 ((N3 n λt=>f i t*g t j).take z) H4) ⟨_,_,rfl,ah8.start hD3⟩ (by rintro z σ H4 ⟨_,_,_,R4⟩;exact ⟨SqL.of (R4.same _ _ et3),SqL.of (R4.same _ _ eu3)⟩) ?_ ?_
   ·rintro z x y σ H4 pt hx3 hy3 ⟨o1,o2,rfl,R4⟩ hpt
    obtain ⟨zn,rfl⟩:=au5 hx3;obtain ⟨_,rfl⟩:=au5 hy3
    subst_eqs
    have st:=c5.new hpt (.tup [.int (f i z),.int (g z j)]);refine ⟨_,SqT.of b8,rfl,_,_,rfl,_,_,rfl,rfl,_,rfl,_,rfl,Q4 (hB i z iN zn).1 (hB z j zn jN).2 ⋯,?_⟩;refine m8.mk (by rw [q0g,q0g,y9,y9];omega) (st _ _ R4.at') (p9 (by rw [q0g,z0f,y9];omega)) ⟨_,_,rfl,?_⟩
    rw [d6 (O6 (g:=λt=>f i t*g t j) zn)];exact R4.add _ hD3 st
   ·rintro σ H4 ⟨o1,o2,rfl,R4⟩
    rw [n9 (by rw [y9,q0g,q0g,y9,y9];omega)] at R4
    refine ⟨D3,rfl,_,SqL.of R4.at',?_⟩;refine m8.mk hj (R4.same _ _ R.at') (p9 (by rw [q0g,z0f,y9];omega)) ⟨_,rfl,?_⟩
    rw [d6 (O6 (g:=λj=>smZ (N3 n λt=>f i t*g t j)) jN)];exact R.add _ hD2 R4.same
  ·rintro σ H3 ⟨o,rfl,R⟩
   rw [n9 (by rw [y9,q0g];omega)] at R
   obtain ⟨ys,eD,yl,T'⟩:=T.add hD R.same hD2 R.at';refine m8.mk hi eD (p9 (by rw [yl,z0f,B4];omega)) ⟨_,rfl,?_⟩
   rw [d6 (ab1 (f:=λi j=>smZ (N3 n λt=>f i t*g t j)) iN)];exact T'
 ·rintro σ H2 ⟨o,rfl,T⟩
  rw [n9 (by rw [B4,q0g];omega)] at T
  exact k D H2 (s1.trans T.same) (s1.free hD) T.done
def aO6:Sp:=λvs H Q _ => ∃ (a:Addr) (n:Nat) (f:Nat->Nat->Int) (c:Int),vs=[.ref a,.int c]/\ZT H a n f/\n<=8/\bn2 H Q n λi j=>if i=j then f i j+c else f i j
abbrev V0:Stmt:=top 39
theorem aC5:i9 ["rows","whole"] ["rows","whole"] (c6 V0):=by and_intros
theorem aE4 {f:Addr} (d:Df K mg "with_unit" V0 ["rows","whole"] f) (n_enumerate:mg "enumerate" = none):Def P w K mg base CX0 1 "with_unit" f ["rows","whole"] aO6:=by
 refine d.ok (N:=["rows","whole"]) aC5 (by rintro vs H Q E ⟨_,_,_,_,h,_⟩;rw [h];rfl) (λcdv A outer s H vs Q E hr h=>?_)
 obtain ⟨a,n,f,c,rfl,hZ,hl,k⟩:=h;obtain ⟨ts,ha,hR⟩:=hZ.ex;have hRl:=hR.length;rw [B4] at hRl;refine ⟨_,(c7 (i7 (al2 (Nc:=["whole","at","row"]) (caps:=[some 1,none,none]) rfl (ag0.of (osc:=c6 V0) (N:=["rows","whole"]) (ks:=["whole"]) rfl rfl rfl rfl (i8 rfl j8) (by decide +kernel)) (ad4 rfl n_enumerate (a8 (pv 0) b6)) (λC s₂ H₂ fp pins=>(show PG _ _ (T6 K 2 (r6 (l9 1) (r6 (l9 2) T9))) from by (refine C2 (n:=2) ?_ ?_ ?_ ?_;rfl;(refine i4 ?_ ?_ ?_;(exact (c9 (i:=1) (show z0q (["whole","at","row"]:List Str) by decide +kernel) rfl (j0b rfl) (q0z rfl)));(refine i4 ?_ ?_ ?_;(exact (c9 (i:=2) (show z0q (["whole","at","row"]:List Str) by decide +kernel) rfl (q0z rfl) (j0b rfl)));(exact y3);rfl);rfl);rfl;rfl))) (λC s₂ H₂ fp pins=>(t5 (Nc:=["whole","at","place","entry"]) (caps:=[some 0,some 1,none,none]) rfl (G3.of (osc:=_) (N:=["whole","at","row"]) (ks:=["whole","at"]) rfl rfl rfl rfl (i8 rfl (i8 rfl j8)) (by kernel_rfl)) (show PI _ _ _ (aJ1 K _) from by exact (ad4 rfl n_enumerate (a8 (pv 2) b6))) (λC s₂ H₂ fp pins=>(show PG _ _ (T6 K 2 (r6 (l9 2) (r6 (l9 3) T9))) from by (refine C2 (n:=2) ?_ ?_ ?_ ?_;rfl;(refine i4 ?_ ?_ ?_;(exact (c9 (i:=2) (show z0q (["whole","at","place","entry"]:List Str) by decide +kernel) rfl (q0z rfl) (j0b rfl)));(refine i4 ?_ ?_ ?_;(exact (c9 (i:=3) (show z0q (["whole","at","place","entry"]:List Str) by decide +kernel) rfl (q0z rfl) (j0b rfl)));(exact y3);rfl);rfl);rfl;rfl))) (λC s₂ H₂ fp pins=>(as9 (j1 R3 (pv 1) (pv 2) (i5 _)) (d2 y0 (pv 3) (pv 0)) (pv 3)))))))),?_⟩
 rw [show start ["rows","whole"] [.ref a,.int c]=[some (.ref a),some (.int c)] from rfl]
 subst_eqs
 refine ⟨⟨_,SqL.of ha⟩,λD hD=>?_⟩;refine am3 (ts.map V.ref) (λi σ H2 => ∃ o1 o2,σ=[some (.int c),o1,o2]/\ZAt H D ((aq1 n λi j=>if i=j then f i j+c else f i j).take i) H2) ⟨_,_,rfl,ZAt.start hD⟩ (λj σ H3 ⟨_,_,_,R⟩=>SqL.of (R.same _ _ ha)) ?_ ?_
 ·rintro i x σ H2 p hx ⟨o1,o2,rfl,T⟩ hp
  have hi:=(q0f.mp hx).1;obtain ⟨t,ht,rfl⟩:=F2 hx;obtain ⟨iN,et⟩:=ZT.row hR ht;have Sp:=c5.new hp (.tup [.int (i:Int),.ref t]);have et2:=Sp _ _ (T.same _ _ et)
  subst_eqs
  refine ⟨_,SqT.of b8,rfl,_,_,rfl,_,_,rfl,rfl,?_⟩;refine ⟨_,rfl,⟨_,SqL.of et2⟩,λD2 hD2=>?_⟩;refine am3 ((N3 n (f i)).map V.int) (λj σ H3 => ∃ o1 o2,σ=[some (.int c),some (.int (i:Int)),o1,o2]/\ah8 (upd H2 p (.tup [.int (i:Int),.ref t])) D2 ((N3 n λj=>if i=j then f i j+c else f i j).take j) H3) ⟨_,_,rfl,ah8.start hD2⟩ (λj σ H3 ⟨_,_,_,R⟩=>SqL.of (R.same _ _ et2)) ?_ ?_
  ·rintro j x σ H3 p2 hx2 ⟨o1,o2,rfl,R⟩ hp2
   have hj:=(q0f.mp hx2).1;obtain ⟨jN,rfl⟩:=au5 hx2;have S3:=c5.new hp2 (.tup [.int (j:Int),.int (f i j)])
   subst_eqs
   refine ⟨_,SqT.of b8,rfl,_,_,rfl,_,_,rfl,rfl,rfl,?_⟩
   have go:∀ v:Int,v=(if i=j then f i j+c else f i j)->m8 D2 ((N3 n (f i)).map V.int).length (λj σ H3 => ∃ o1 o2,σ=[some (.int c),some (.int (i:Int)),o1,o2]/\ah8 (upd H2 p (.tup [.int (i:Int),.ref t])) D2 ((N3 n λj=>if i=j then f i j+c else f i j).take j) H3) j [some (.int c),some (.int (i:Int)),some (.int (j:Int)),some (.int (f i j))] (.int v) (upd H3 p2 (.tup [.int (j:Int),.int (f i j)])):=λv hv=>by
    refine m8.mk hj (S3 _ _ R.at') (p9 (by rw [q0g,z0f,y9];omega)) ⟨_,_,rfl,?_⟩
    rw [d6 (O6 (g:=λj=>if i=j then f i j+c else f i j) jN),<- hv];exact R.add _ hD2 S3
   refine B3 (λh=>?_) (λh=>?_)
   ·have:i=j:=by cases h;rfl
    exact ⟨_,rfl,go _ (by rw [if_pos this])⟩
   ·exact go _ (by rw [if_neg λz=>h (by rw [z])])
  ·rintro σ H3 ⟨o1,o2,rfl,R⟩
   rw [n9 (by rw [y9,q0g,y9];exact q0h _)] at R
   have D2n:H2 D2=none:=Sp.free hD2;obtain ⟨ys,eD,yl,T'⟩:=T.add hD (Sp.trans R.same) D2n R.at';refine m8.mk hi eD (p9 (by rw [yl,z0f,B4];omega)) ⟨_,_,rfl,?_⟩
   rw [d6 (ab1 (f:=λi j=>if i=j then f i j+c else f i j) iN)];exact T'
 ·rintro σ H2 ⟨o1,o2,rfl,T⟩
  rw [n9 (by rw [B4,q0g];omega)] at T
  exact k D H2 T.same hD T.done
def aO7 (K:q0a):Sp:=λvs H Q _ => ∃ (a:Addr) (ts:List Addr) (M:List (List Rat)) (n W:Nat),vs=[.ref a]/\H a=some (.lst (ts.map V.ref))/\Rws H ts M/\M.length=n/\(∀ L ∈ M,L.length=n)/\n<=7/\ClN W M.flatten/\W<=6000 /\
 ∀ r l f (b:Nat) H',c5 H H'->H' r=some (.tup [.ref l,.int (b:Int)])->ZT H' l n f->0<b->b<2 ^ W->(∀ i j,i<n->j<n->(f i j).natAbs<2 ^ W/\(f i j:Rat)=(b:Rat)*qq M i j)->Q (.ref r) H'
abbrev M6:Stmt:=top 37
theorem U1:i9 ["table","n","wholes","bottom"] ["table"] (c6 M6):=by and_intros
theorem aw5 {f f1:Addr} (d:Df K mg "whole_rows" M6 ["table"] f) (G_cleared:Def P w K mg base CX0 2 "cleared" f1 ["numbers"] (ay6 K)) (n_range:mg "range" = none) (n_len:mg "len" = none):Def P w K mg base CX0 3 "whole_rows" f ["table"] (aO7 K):=by
  refine d.ok (N:=["table","n","wholes","bottom"]) U1 (by rintro vs H Q E ⟨_,_,_,_,_,h,_⟩;rw [h];rfl) (λcdv A outer s H vs Q E hr h=>?_)
  obtain ⟨a,ts,M,n,W,rfl,ha,hR,hn,hM,n7,cl,hW,k⟩:=h;have hRl:=hR.length
  refine ⟨_, (b9 (h9 (i := 1) U1.nd rfl (Or.inr rfl) (g8 j5 rfl n_len (by decide +kernel) (a8 (pv 0) b6)))
      (b9 (E5 (c8 G_cleared hr (a8 (aX0 (Nc:=["row","number"]) (caps:=[none,none]) rfl (G3.of (osc:=c6 M6) (N:=["table","n","wholes","bottom"]) (ks:=[]) rfl rfl rfl rfl j8 (by decide +kernel)) (z9 (pv 0)) (λC s₂ H₂ fp pins=>(c9 (i:=0) (show List.Nodup (["row","number"]:List Str) by decide +kernel) rfl (Or.inl rfl) (Or.inr rfl))) (λC s₂ H₂ fp pins=>(show PI _ _ _ (au6 K _) from by exact (z9 (pv 0)))) (λC s₂ H₂ fp pins=>(c9 (i:=1) (show List.Nodup (["row","number"]:List Str) by decide +kernel) rfl (Or.inl rfl) (Or.inr rfl))) (λC s₂ H₂ fp pins=>(pv 1))) b6) g9) (show PG _ _ (T6 K 2 (r6 (l9 2) (r6 (l9 3) T9))) from by (refine C2 (n:=2) ?_ ?_ ?_ ?_;rfl;(refine i4 ?_ ?_ ?_;(exact (c9 (i:=2) U1.nd rfl (Or.inr rfl)));(refine i4 ?_ ?_ ?_;(exact (c9 (i:=3) U1.nd rfl (Or.inl rfl)));(exact y3);rfl);rfl);rfl;rfl)))
      (c7 (i7 (j2 (a8 (t5 (Nc:=["wholes","n","place"]) (caps:=[some 2,some 1,none]) rfl (G3.of (osc:=c6 M6) (N:=["table","n","wholes","bottom"]) (ks:=["wholes","n"]) rfl rfl rfl rfl (i8 rfl (i8 rfl j8)) (by decide +kernel)) (A8 rfl n_range (a8 (pv 1) b6)) (λC s₂ H₂ fp pins=>(c9 (i:=2) (show List.Nodup (["wholes","n","place"]:List Str) by decide +kernel) rfl (Or.inl rfl) (Or.inr rfl))) (λC s₂ H₂ fp pins=>(Q3 (by exact W3:SlR _ (ak8 K)) (pv 0) (Q0 (d2 t3 (pv 1) (pv 2))) (Q0 (d2 y0 (d2 t3 (pv 1) (pv 2)) (pv 1)))))) (a8 (pv 3) b6))))))),?_⟩
  rw [show start ["table","n","wholes","bottom"] [.ref a]=[some (.ref a),none,none,none] from rfl]
  subst_eqs
  refine ⟨_,.inl (SqL.of ha),⟨_,SqL.of ha⟩,λD hD=>?_⟩;refine bb4 (ts.map V.ref) (λi σ H2 => ∃ o1 o2,σ=[o1,o2]/\M5 H D (M.take i).flatten H2) ⟨_,_,rfl,M5.start hD⟩ (λi σ H2 _ ⟨_,_,_,T⟩=>SqL.of (T.same _ _ ha)) ?_ ?_
  · rintro i x σ H2 hx ⟨o1,o2,rfl,T⟩
    have hi:=(List.getElem?_eq_some_iff.mp hx).1;obtain ⟨t,ht,rfl⟩:=F2 hx;obtain ⟨xs,L,hL,et,nt⟩:=hR.get ht;have hLm:=hM L (List.mem_of_getElem? hL);have lx:=nt.length;have et2:=T.same _ _ et
    have fl:∀ j,((M.take i).flatten ++ L.take j).length<=100:=λj=>by
      rw [List.length_append,List.length_take]
      have:(M.take i).flatten.length=n*i:=by
        have hh:∀ L ∈ M.take i,L.length=n:=λL h=>hM L (List.mem_of_mem_take h);have:=au7 (M:=M.take i) hh;rw [this,List.length_take,Nat.min_eq_left (by rw [List.length_map] at hi;omega)]
      have b1:n*i<=7*7:=Nat.mul_le_mul n7 (by rw [List.length_map] at hi;omega)
      omega
    subst_eqs
    refine ⟨⟨_,SqL.of et2⟩,?_⟩;refine bg4 xs (λj σ H3 => ∃ o2,σ=[some (.ref t),o2]/\M5 H D ((M.take i).flatten ++ L.take j) H3) hi ⟨_,rfl,by rw [List.take_zero,List.append_nil];exact T⟩ (λj σ H3 _ ⟨_,_,R⟩=>SqL.of (R.same _ _ et)) ?_ ?_
    · rintro j x σ H3 hx2 ⟨o2,rfl,R⟩
      have hj:=(List.getElem?_eq_some_iff.mp hx2).1;obtain ⟨px,q1,rfl,hq1,hpx⟩:=nt.getV hx2
      subst_eqs
      obtain ⟨zs,eD,yl,R'⟩:=R.add hD (c5.refl _) (R.same.tups _ _ hpx);refine m8.mk hj eD (p9 (by rw [yl];exact fl j)) ⟨_,rfl,?_⟩
      rw [List.append_assoc,<- d6 hq1] at R';exact R'
    · rintro σ H3 ⟨o2,rfl,R⟩
      rw [List.take_of_length_le (l:=L) ⋯] at R;refine ⟨_,_,rfl,?_⟩;rw [d6 hL,List.flatten_append,List.flatten_singleton];exact R
  rintro σ H1 ⟨o1,o2,rfl,T⟩;rw [n9 (by rw [List.length_map];omega)] at T
  obtain ⟨s1,xs,e1,n1⟩:=T;have lfl:=au7 hM;have l49:n*n<=7*7:=Nat.mul_le_mul n7 n7;rw [hn] at lfl;refine ⟨D,xs,M.flatten,rfl,SqL.of e1,n1.toC,⟨W,cl,hW⟩,⋯,λr l H2 s2 f2 e2 el2=>?_⟩;refine ⟨r,rfl,_,SqT.of e2,rfl,_,_,rfl,_,_,rfl,rfl,by rw [List.length_map];omega,by rw [List.length_map];omega,λD2 hD2=>?_⟩
  obtain ⟨b,hb⟩:∃ b,b=E7 M.flatten:=⟨_,rfl⟩;obtain ⟨ws,hws⟩:∃ ws,ws=N9 (E7 M.flatten) M.flatten:=⟨_,rfl⟩;rw [<- hws] at el2;have wl:ws.length=n*n:=by rw [hws];unfold N9;rw [List.length_map,lfl]
  obtain ⟨f,hf⟩:∃ f:Nat->Nat->Int,f=λi j=>aZ ws (n*i+j):=⟨_,rfl⟩;rw [<- hb] at e2 ⊢;have lt:(ts.map V.ref).length=n:=by rw [List.length_map];omega
  rw [lt];refine M0 (λi σ H3 => ∃ o,σ=[some (.ref l),some (.int (n:Int)),o]/\ZAt H2 D2 ((aq1 n f).take i) H3) ⟨_,rfl,ZAt.start hD2⟩ ?_ ?_
  · rintro i σ H3 hi ⟨o,rfl,T⟩
    have hi':i<n:=⋯;have nb:n*(i+1)<=n*n:=Nat.mul_le_mul_left _ ⋯
    subst_eqs
    refine ⟨aY6 ⋯,aY6 ⋯,_,SqL.of (T.same _ _ el2),λp fp=>?_⟩
    have cz:af7 (ws.map V.int) (some ((n:Int)*(0+(i:Int)))) (some ((n:Int)*(0+(i:Int))+(n:Int)))=(N3 n (f i)).map V.int:=by
      rw [Int.zero_add,<- Int.natCast_mul,<- Int.natCast_add,bm7 _ ⋯ (by rw [List.length_map,wl];rw [Nat.mul_succ] at nb;exact nb),Nat.add_sub_cancel_left]
      refine List.ext_getElem? λj=>?_
      by_cases hj:j<n
      · rw [List.getElem?_take_of_lt hj,List.getElem?_drop,List.getElem?_map,List.getElem?_map,O6 hj,hf,List.getElem?_eq_getElem (by rw [wl];rw [Nat.mul_succ] at nb;omega)]
        show some (V.int _)=some (V.int (aZ ws (n*i+j)));unfold aZ;rw [List.getElem?_eq_getElem (by rw [wl];rw [Nat.mul_succ] at nb;omega)];rfl
      · rw [List.getElem?_eq_none (by rw [List.length_take];omega),List.getElem?_eq_none (by rw [List.length_map,y9];omega)]
    rw [cz];obtain ⟨ys,eD,yl,T'⟩:=T.add hD2 (c5.new fp (.lst ((N3 n (f i)).map V.int))) fp b8;refine m8.mk hi eD (p9 (by rw [yl,List.length_take,B4];omega)) ⟨_,rfl,?_⟩
    rw [d6 (ab1 hi')];exact T'
  · rintro σ H3 ⟨o,rfl,T⟩
    rw [n9 (by rw [B4];omega)] at T
    refine ⟨by decide,λp fp=>?_⟩
    have Sp:=c5.new fp (.tup [.ref D2,.int (b:Int)]);refine k p D2 f b _ (s1.trans (s2.trans (T.same.trans Sp))) b8 (T.done.same Sp) (by rw [hb];exact Q6 _) (by rw [hb];exact cl.l) λi j hi hj=>?_
    have nb:n*i+j<n*n:=by
      have:n*(i+1)<=n*n:=Nat.mul_le_mul_left _ ⋯;rw [Nat.mul_succ] at this;omega
    have e1:M.flatten[n*i+j]? = some (qq M i j):=aJ6 hM ⋯ hj;have lt:=bq6 (ws:=ws) (W:=W) (by rw [hws];exact cl.w) (n*i+j)
    refine ⟨by rw [hf];exact lt,?_⟩
    have e2:qq M i j=aQ M.flatten (n*i+j):=by unfold aQ;rw [e1];rfl
    have e3:M.flatten=scl (Rat.divInt 1 (b:Int)) ws:=by rw [hb,hws];exact (bc8 _).symm
    have b0:((b:Nat):Rat) ≠ 0:=λz=>by
      have z2:=Rat.natCast_inj (a:=b) (b:=0) |>.mp z;have:=Q6 M.flatten;omega
    rw [e2,e3,bn1,hf,Rat.divInt_eq_div]
    show _=(b:Rat)*((1 / (b:Rat))*_);rw [<- Rat.mul_assoc,Rat.div_def,Rat.one_mul,Rat.mul_inv_cancel _ b0,Rat.one_mul]
theorem OvB.bt {B W e:Nat} {q:Rat} (h:OvB B W q) (hB:0<B) (hBe:B<2 ^ e) (hW:W<=20000):BtN e q:=by
 obtain ⟨v,rfl,b⟩:=h;have:=U0 (t:=v) (b:=(B:Int)) ⋯;rw [q0y] at this;exact ⟨q0s this.1 (q0b b (d7 hW)),q0s this.2 hBe⟩
def aP1 (K:q0a):Sp:=λvs H Q _ => ∃ (a b:Addr) (xs ys:List V) (ps qs:List Rat) (B C V' W e:Nat),vs=[.ref a,.ref b]/\SqL K H a xs/\SqL K H b ys/\v9 H xs ps/\v9 H ys qs/\(∀ q ∈ ps,OvB B V' q)/\(∀ q ∈ qs,OvB C W q)/\0<B/\0<C/\B*C<2 ^ e/\1<=e/\2*e<=6000/\V'+W<=19000/\ps.length<=20/\qs.length<=20 /\
 ∀ m r zs H',P3 (K7 ps qs) m->(∀ q ∈ K7 ps qs,OvB (B*C) (V'+W+400) q)->c5 H H'->H r=none->H' r=some (.lst zs)->v9 H' zs ((K7 ps qs).take m)->Q (.ref r) H'
abbrev K2:Stmt:=top 57
theorem A7:i9 ["_law_p","_law_q","_law_found","_law_i","_law_one","_law_j","_law_other_here"] ["_law_p","_law_q"] (c6 K2):=by and_intros
theorem aj1 {f fp f1 f2:Addr} (d:Df K mg "_law_poly_times" K2 ["_law_p","_law_q"] f) (G__law_plus:Def P w K mg base CX0 2 "_law_plus" fp ["_law_one","_law_other_here"] (B8 K (· + ·))) (G__law_times:Def P w K mg base CX0 2 "_law_times" f1 ["_law_one","_law_other_here"] (B8 K (· * ·))) (G__law_trim:Def P w K mg base CX0 1 "_law_trim" f2 ["_law_numbers"] (aL4 K)) (n_len:mg "len" = none) (n_enumerate:mg "enumerate" = none):Def P w K mg base CX0 3 "_law_poly_times" f ["_law_p","_law_q"] (aP1 K):=by
 refine d.ok (N:=["_law_p","_law_q","_law_found","_law_i","_law_one","_law_j","_law_other_here"]) A7 (by rintro vs H Q E ⟨_,_,_,_,_,_,_,_,_,_,_,h,_⟩;rw [h];rfl) (λcdv A outer s H vs Q E hr h=>?_)
 obtain ⟨a,b,xs,ys,ps,qs,B,C,V',W,e,rfl,hS,hS',hN,hN',hs,hs',hB,hC,hBC,he1,he,hVW,hl,hl',k⟩:=h;have hBCp:=z0s hB hC;have hBe:B<2 ^ e:=q0s (g0v _ hC) hBC;have hCe:C<2 ^ e:=q0s (v0f _ hB) hBC;have hu:=hr.units
 refine ⟨_,(b9 (A4 (PW.pt (Z7 (j1 (aa6 hu) (pv 0) (w9 b6) (i5 _)) (ad1 (j1 (aa6 hu) (pv 1) (w9 b6) (i5 _))))) (c7 (i7 (w9 b6))) m6)
   (b9 (h9 (i:=2) A7.nd rfl (q0z rfl) (d2 aX8 (w9 (a8 (j2 (a8 b7 (a8 b7 b6))) b6)) (d2 G8 (d2 y0 (g8 j5 rfl n_len (by decide +kernel) (a8 (pv 0) b6)) (g8 j5 rfl n_len (by decide +kernel) (a8 (pv 1) b6))) b7)))
   (b9 (Y4 PassesOwn.never rfl (ad4 rfl n_enumerate (a8 (pv 0) b6)) (show PG _ _ (T6 K 2 (r6 (l9 3) (r6 (l9 4) T9))) from by (refine C2 (n:=2) ?_ ?_ ?_ ?_;rfl;(refine i4 ?_ ?_ ?_;(exact (c9 (i:=3) A7.nd rfl (q0z rfl)));(refine i4 ?_ ?_ ?_;(exact (c9 (i:=4) A7.nd rfl (q0z rfl)));(exact y3);rfl);rfl);rfl;rfl)) (c7 (Y4 PassesOwn.never rfl (ad4 rfl n_enumerate (a8 (pv 1) b6)) (show PG _ _ (T6 K 2 (r6 (l9 5) (r6 (l9 6) T9))) from by (refine C2 (n:=2) ?_ ?_ ?_ ?_;rfl;(refine i4 ?_ ?_ ?_;(exact (c9 (i:=5) A7.nd rfl (q0z rfl)));(refine i4 ?_ ?_ ?_;(exact (c9 (i:=6) A7.nd rfl (q0z rfl)));(exact y3);rfl);rfl);rfl;rfl)) (c7 (E5 (c8 G__law_plus hr (a8 (i6 j3 (pv 2) (d2 y0 (pv 3) (pv 5)) (λ_ _=>rfl)) (a8 (c8 G__law_times hr (a8 (pv 4) (a8 (pv 6) b6)) g9) b6)) g9) (P2 (pv 2) (d2 y0 (pv 3) (pv 5)) E1))))))
   (c7 (i7 (c8 G__law_trim hr (a8 (pv 2) b6) g9)))))),?_⟩
 rw [show start ["_law_p","_law_q","_law_found","_law_i","_law_one","_law_j","_law_other_here"] [.ref a,.ref b]=[some (.ref a),some (.ref b),none,none,none,none,none] from rfl]
 subst_eqs
 have tl0:P3 ([]:List Rat) 0:=⟨q0h _,λi q _ e=>by simp at e,λh=>absurd rfl h⟩
 refine ⟨by decide,λp hp=>?_⟩
 have S1:=c5.new hp (.lst []);refine ⟨A9 ps,A9 [],rfl,K8 (S1.seq hS) (hN.mono S1.tups),K8 (SqL.of b8) .nil,O7 _ _,q0q (U7 _) (by decide),?_⟩
 rw [L9];refine ⟨_,rfl,B3 (λh=>⟨by decide,λr hr'=>?_⟩) (λh=>?_)⟩
 ·have e:K7 ps qs=[]:=by rw [K7,if_pos (.inl (by simpa using h))]
  rw [e] at k;exact k 0 r [] _ tl0 (by simp) (S1.trans (c5.new hr' _)) (S1.free hr') b8 .nil
 have np:ps ≠ []:=λz=>h (by simp [z])
 refine ⟨by decide,λp2 hp2=>?_⟩
 have S2:=S1.trans (c5.new hp2 (.lst []));refine ⟨A9 qs,A9 [],rfl,K8 (S2.seq hS') (hN'.mono S2.tups),K8 (SqL.of b8) .nil,O7 _ _,q0q (U7 _) (by decide),?_⟩
 rw [L9];refine ⟨_,rfl,B3 (λh=>⟨by decide,λr hr'=>?_⟩) (λh=>?_)⟩
 ·have e:K7 ps qs=[]:=by rw [K7,if_pos (.inr (by simpa using h))]
  rw [e] at k;exact k 0 r [] _ tl0 (by simp) (S2.trans (c5.new hr' _)) (S2.free hr') b8 .nil
 have nq:qs ≠ []:=λz=>h (by simp [z])
 have lx:=hN.length;have ly:=hN'.length;have lp:0<ps.length:=v0r.mpr np;have lq:0<qs.length:=v0r.mpr nq;refine ⟨t9,λp3 hp3=>⟨bj2,λp4 hp4=>?_⟩⟩;have S3:=S2.trans (c5.new hp3 (.tup [.int 0,.int 1]));have S4:=S3.trans (c5.new hp4 (.lst [.ref p3]));refine ⟨_,.inl (S4.seq hS),_,.inl (S4.seq hS'),_,b8,⋯,⋯,?_,λl hl0=>?_⟩
 ·simp only [j0v,List.length_nil]
  exact q0q (show _<=40 by omega) (by decide)
 have hz:(q0t ((xs.length:Int)+(ys.length:Int)-1).toNat [V.ref p3]).flatten=q0t (ps.length+qs.length-1) (V.ref p3):=by
  have e:((xs.length:Int)+(ys.length:Int)-1).toNat=ps.length+qs.length-1:=⋯;rw [e,List.flatten_replicate_singleton]
 rw [hz];have S5:=S4.trans (c5.new hl0 (.lst (q0t (ps.length+qs.length-1) (.ref p3))));have hlH:H l=none:=S4.free hl0;have ez:(upd (upd (upd (upd (upd H p (.lst [])) p2 (.lst [])) p3 (.tup [.int 0,.int 1])) p4 (.lst [.ref p3])) l (.lst (q0t (ps.length+qs.length-1) (.ref p3)))) p3=some (.tup (t4 0)):=c5.new hl0 _ _ _ (c5.new hp4 _ _ _ b8)
 refine ⟨_,rfl,a,rfl,⟨_,S5.seq hS⟩,aJ4 xs (λi σ H2 => ∃ o3 o4 o5 o6,σ=[some (.ref a),some (.ref b),some (.ref l),o3,o4,o5,o6]/\c5 H H2/\∃ zs,H2 l=some (.lst zs)/\v9 H2 zs (C3 0 (q0t (ps.length+qs.length-1) (0:Rat)) ps qs i)/\∀ v ∈ C3 0 (q0t (ps.length+qs.length-1) (0:Rat)) ps qs i,OvB (B*C) (V'+W+i*qs.length) v)
  ⟨_,_,_,_,rfl,S5,_,b8,v9.rep ez _,λv hv=>by rw [(List.mem_replicate.mp hv).2];exact OvB.zero _ _⟩ (λi σ H2 ⟨_,_,_,_,_,s2,_⟩=>s2.seq hS) ?_ ?_⟩
 ·rintro i x σ H2 r hx ⟨o3,o4,o5,o6,rfl,s2,zs,e2,n2,b2⟩ hr'
  obtain ⟨px,q,rfl,hq,hpx⟩:=hN.getV hx;have hi:=(q0f.mp hq).1;have sr:=c5.new hr' (.tup [.int i,.ref px]);refine ⟨_,_,rfl,SqT.of b8,rfl,_,_,rfl,_,_,rfl,rfl,?_⟩
  refine ⟨_,rfl,b,rfl,⟨_,(s2.trans sr).seq hS'⟩,aJ4 ys (λj σ H4 => ∃ o5 o6,σ=[some (.ref a),some (.ref b),some (.ref l),some (.int i),some (.ref px),o5,o6]/\c5 H H4/\∃ zs,H4 l=some (.lst zs)/\v9 H4 zs (G0 0 (C3 0 (q0t (ps.length+qs.length-1) (0:Rat)) ps qs i) i q qs j)/\∀ v ∈ G0 0 (C3 0 (q0t (ps.length+qs.length-1) (0:Rat)) ps qs i) i q qs j,OvB (B*C) (V'+W+(i*qs.length+j)) v)
   ⟨_,_,rfl,s2.trans sr,_,sr _ _ e2,n2.mono sr.tups,b2⟩ (λi σ H2 ⟨_,_,_,s2,_⟩=>s2.seq hS') ?_ ?_⟩
  ·rintro j y σ H4 t hy ⟨o5,o6,rfl,s4,zs4,e4,n4,b4⟩ ht
   obtain ⟨py,q',rfl,hq',hpy⟩:=hN'.getV hy;have hj:=(q0f.mp hq').1;have st:=c5.new ht (.tup [.int j,.ref py]);have e5:=st _ _ e4
   have hF:i+j<(G0 0 (C3 0 (q0t (ps.length+qs.length-1) (0:Rat)) ps qs i) i q qs j).length:=by
    rw [ao4,ag7,j0t];omega
   have eg:=q0j hF;obtain ⟨pv,hv,hpv⟩:=(n4.mono st.tups).get eg;have ec:(i:Int)+(j:Int)=((i+j:Nat):Int):=⋯
   have hc:i*qs.length+j<400:=by
    have h1:i*qs.length<=19*qs.length:=u0w _ ⋯;omega
   subst_eqs
   have o1:=hs q (q0v hq);have o2:=hs' q' (q0v hq');have sq:=o1.bt hB hBe ⋯;have sq':=o2.bt hC hCe ⋯;refine ⟨_,SqT.of b8,rfl,_,_,rfl,_,_,rfl,rfl,_,rfl,_,SqL.of e5,_,(by rw [ec];exact p7 hv),?_⟩
   refine ⟨_,_,q,q',e,e,rfl,⟨px,rfl,SqT.of (st _ _ (s4 _ _ hpx))⟩,⟨py,rfl,SqT.of (st _ _ (s4 _ _ hpy))⟩,sq,sq',⋯,λr1 H5 s5 er1=>?_⟩;have bold:=b4 _ (List.getElem_mem hF);refine ⟨_,_,_,_,e,e,rfl,⟨pv,rfl,SqT.of (s5 _ _ hpv)⟩,⟨r1,rfl,SqT.of er1⟩,bold.bt hBCp hBC ⋯,(o1.mul o2).bt hBCp hBC ⋯,⋯,λr2 H6 s6 er2=>?_⟩;have e6:=s6 _ _ (s5 _ _ e5);have lz:zs4.length=(G0 0 (C3 0 (q0t (ps.length+qs.length-1) (0:Rat)) ps qs i) i q qs j).length:=n4.length;have n6:v9 H6 zs4 (G0 0 (C3 0 (q0t (ps.length+qs.length-1) (0:Rat)) ps qs i) i q qs j):=((n4.mono st.tups).mono s5.tups).mono s6.tups
   have estep:G0 0 (C3 0 (q0t (ps.length+qs.length-1) (0:Rat)) ps qs i) i q qs (j+1)=aa4 (G0 0 (C3 0 (q0t (ps.length+qs.length-1) (0:Rat)) ps qs i) i q qs j) (i+j) (q*q'):=by
    rw [G0,hq'];rfl
   refine ⟨_,rfl,_,e6,i+j,?_,(s4.trans (st.trans (s5.trans s6))).over hlH _,_,b8,?_,?_⟩
   ·rw [ec]
    unfold ixN;rw [if_pos ⋯,if_pos (by rw [lz];omega)]
    rfl
   ·rw [estep,<- aB2 _ _ _ _ eg]
    exact (n6.set (i+j) er2).mono (V5.lst e6)
   ·rw [estep]
    intro v hv';exact (aU5 hBCp b4 ((o1.mul o2).mono ⋯) v hv').mono ⋯
  ·rintro σ H4 ⟨o5,o6,rfl,s4,zs4,e4,n4,b4⟩
   refine ⟨_,_,_,_,rfl,s4,zs4,e4,?_,?_⟩
   ·rw [ly] at n4
    rw [C3,hq];exact n4
   ·rw [ly] at b4
    rw [C3,hq];intro v hv;refine (b4 v hv).mono ?_;have e:(i+1)*qs.length=i*qs.length+qs.length:=by grind
    omega
 ·rintro σ H2 ⟨o3,o4,o5,o6,rfl,s2,zs,e2,n2,b2⟩
  rw [lx] at n2 b2;have em:K7 ps qs=C3 0 (q0t (ps.length+qs.length-1) 0) ps qs ps.length:=by rw [K7,if_neg (by simp [np,nq])]
  rw [<- em] at n2 b2;refine ⟨_,rfl,l,zs,_,rfl,SqL.of e2,n2,λm r H3 tl s3 hr' e3=>?_⟩;refine k m r _ _ tl (λv hv=>(b2 v hv).mono ?_) (s2.trans s3) (s2.free hr') e3 ((n2.take m).mono s3.tups);have:ps.length*qs.length<=20*20:=y0w hl hl';omega
theorem BdN.ovb {c:Nat} {r:Rat} (h:BdN c r):OvB r.den c r:=⟨r.num,(z0h r).symm,h.n⟩
theorem ba6 {B W c:Nat} {r:Rat} (hB:0<B) (hc:BdN c r):∀ l:List Rat,(∀ q ∈ l,OvB B W q)->OvB (B*r.den ^ l.length) (W+(c+1)*l.length) (evQ r l)
 | [],_=>OvB.zero _ _
 | q :: l,h=>by
  have ih:=ba6 hB hc l λx hx=>h x (q0r _ hx);have dp:=r.den_pos
  have d1:r.den ^ (l.length+1)<2 ^ (c*(l.length+1)):=by
   rw [q1c];exact Nat.pow_lt_pow_left hc.d ⋯
  have h1:=(h q q0x).up hB (C:=r.den ^ (l.length+1)) (c:=c*(l.length+1)) (m0g dp) d1;have h2:=hc.ovb.mul ih;rw [show r.den*(B*r.den ^ l.length)=B*r.den ^ (l.length+1) by rw [m0z];grind] at h2
  show OvB (B*r.den ^ (l.length+1)) (W+(c+1)*(l.length+1)) (q+r*evQ r l);have e:W+(c+1)*(l.length+1)=(W+(c+1)*l.length+c)+1:=by rw [q1d];omega
  rw [e];refine OvB.add (z0s hB (m0g dp)) (h1.mono ?_) (h2.mono ?_)
  ·rw [q1d,Nat.add_mul];omega
  ·omega
abbrev W6:Stmt:=top 58
theorem U2:i9 ["_law_p","_law_x","_law_found","_law_number_here"] ["_law_p","_law_x"] (c6 W6):=by and_intros
theorem X8 {K:q0a} {H:Hp} {a:Addr} {xs:List V} {qs:List Rat} (h:SqL K H a xs) (n:w4 K H xs qs):IsD K H (.ref a) (A9 qs):=.lst h n.isDs
def aO8 (K:q0a):Sp:=λvs H Q _ => ∃ a xs qs,vs=[.ref a]/\SqL K H a xs/\w4 K H xs qs/\∀ m r H',P3 qs m->c5 H H'->H r=none->H' r=some (.lst (xs.take m))->Q (.ref r) H'
theorem ax2 {f:Addr} (d:Df K mg "_law_trim" V1 ["_law_numbers"] f) (n_list:mg "list" = none):Def P w K mg base CX0 1 "_law_trim" f ["_law_numbers"] (aO8 K):=by
  refine d.ok (N:=["_law_numbers","_law_found"]) W5 (λvs H Q E ⟨a,xs,qs,h,_⟩=>by rw [h];rfl) (λcdv A outer s H vs Q E hr h=>?_)
  obtain ⟨a,xs,qs,rfl,hS,hN,k⟩:=h;have hu:=hr.units
  refine ⟨_, (b9 (h9 (i := 1) W5.nd rfl (Or.inl rfl) (p5 C5 rfl n_list (by decide +kernel) (a8 (pv 0) b6)))
      (b9 (al0 PassesOwn.never (PW.pt (aD9 (j1 (af1 hu) (pv 1) (w9 b6) (i5 _)) (ar0 (j1 R3 (i6 k7 (i6 j3 (pv 1) (ae9 Y1 b7) (λ_ _=>rfl)) b7 (λ_ _=>rfl)) b7 (i5 _))))) (c7 (al1 (aE1 PySem.F.plainAttrs_list PySem.F.slot_list_pop PySem.F.type_list_pop aY8 (pv 1)))))
      (c7 (i7 (pv 1))))),?_⟩
  rw [show start ["_law_numbers","_law_found"] [.ref a]=[some (.ref a),none] from rfl]
  subst_eqs
  refine ⟨_,.inl hS,λl hl=>?_⟩
  refine aG4 (λσ H1=>σ=[some (.ref a),some (.ref l)]/\∃ m,m<=qs.length/\(∀ (i:Nat) (q:Rat),m<=i->qs[i]? = some q->q=0)/\c5 H H1/\H1 l=some (.lst (xs.take m))) (λσ H1=>match H1 l with | some (.lst ys)=>ys.length | _=>0)
    ⟨rfl,qs.length,Nat.le_refl _,λi q hi e=>?_,c5.new hl _,?_⟩ ?_
  · rw [List.getElem?_eq_none hi] at e;cases e
  · rw [b8,<- hN.length,List.take_length]
  · rintro σ H1 ⟨rfl,m,hm,hz,sm,e1⟩
    have hml:(xs.take m).length=m:=by rw [List.length_take,hN.length];omega
    subst_eqs
    refine ⟨by decide,λp hp=>?_⟩
    have n1:w4 K H1 (xs.take m) (qs.take m):=(hN.mono sm.tups).take m;have pl:p ≠ l:=(d5 e1 hp).symm;have e2:upd H1 p (.lst []) l=some (.lst (xs.take m)):=by rw [d4 pl.symm];exact e1
    have n2:w4 K (upd H1 p (.lst [])) (xs.take m) (qs.take m):=n1.mono (V5.new hp);refine ⟨A9 (qs.take m),A9 [],rfl,X8 (SqL.of e2) n2,K8 (SqL.of b8) .nil,O7 _ _,Nat.le_trans (U7 _) (by decide),?_⟩
    rw [L9]
    by_cases h0:m=0
    · subst h0
      simp only [List.take_zero,decide_true,Bool.not_true,Bool.false_eq_true,if_false];refine ⟨false,rfl,B3 (λh=>absurd h (by decide)) λ_=>k 0 l _ ⟨Nat.zero_le _,hz,λh=>absurd rfl h⟩ (sm.trans (c5.new hp _)) hl ?_⟩
      rw [e2]
    · have hlt:m-1<qs.length:=⋯
      have hne:qs.take m ≠ []:=λz=>by
        have:=congrArg List.length z;rw [List.length_take,List.length_nil] at this;omega
      simp only [hne,decide_false,Bool.not_false];obtain ⟨pv,hv,hpv⟩:=n2.get (i:=m-1) (q:=qs[m-1]) (by rw [List.getElem?_take_of_lt ⋯];exact List.getElem?_eq_getElem hlt)
      refine ⟨true,rfl,B3 (λ_=>?_) (λh=>absurd rfl h)⟩;refine ⟨_,SqL.of e2,_,aP6 (by rw [hml];exact hv),_,rfl,_,hpv.sqt,_,at0 _,rfl,?_⟩
      refine B3 (λhn=>?_) (λhn=>?_)
      · have hn':qs[m-1].num=0:=V.int.inj hn
        refine WhB.mk ?_
        subst_eqs
        refine ⟨.inl ⟨_,SqL.of e2⟩,_,e2,_,by rw [hml];exact hv,WhN.mk ⟨rfl,m-1,⋯,λi q hi e=>?_,(sm.trans (c5.new hp _)).over hl _,?_⟩ ?_⟩
        · by_cases hi':i=m-1
          · subst hi'
            rw [List.getElem?_eq_getElem hlt] at e
            cases e
            exact ab8.mp hn'
          · exact hz i q ⋯ e
        · rw [b8,List.dropLast_eq_take,hml,List.take_take,Nat.min_eq_left ⋯]
        · rw [b8]
          simp only [e1,List.length_dropLast];omega
      · have hn':qs[m-1] ≠ 0:=λz=>hn (by rw [z];rfl)
        exact k m l _ ⟨hm,hz,λ_ q e=>by rw [List.getElem?_eq_getElem hlt] at e;cases e;exact hn'⟩ (sm.trans (c5.new hp _)) hl e2
def ay5 (K:q0a):Sp:=λvs H Q _ => ∃ a xs qs,vs=[.ref a]/\H a=some (.lst xs)/\w4 K H xs qs/\(∀ p ∈ qs,p.den<2 ^ 6000)/\xs.length<1000/\P3 qs qs.length/\∀ H',c5 H H'->Q (.bl true) H'
theorem an6 {f fd fn:Addr} (d:Df K mg "_law_is_poly" K6 ["_law_thing"] f) (G__law_is_number:Def P w K mg base CX0 2 "_law_is_number" fd ["_law_thing"] (aC2 K)) (GD__law_trim:Def P w K mg base CX0 1 "_law_trim" fn ["_law_numbers"] (aO8 K))
  (n_isinstance:mg "isinstance" = none) (n_list:mg "list" = none) (n_all:mg "all" = none):Def P w K mg base CX0 3 "_law_is_poly" f ["_law_thing"] (ay5 K):=by
 refine d.ok (N:=["_law_thing"]) aq2 (λvs H Q E ⟨u,kd,mo,h,_⟩=>by rw [h];rfl) (λcdv A outer s H vs Q E hr h=>?_)
 obtain ⟨a,xs,qs,rfl,ha,hN,hs,hl,ht,k⟩:=h;have hu:=hr.units;have G__law_trim:=GD__law_trim;refine ⟨_,(c7 (i7 (an2 (g8 j6 rfl n_isinstance (by decide +kernel) (a8 (pv 0) (a8 (ad5 (v:=.ty "list") rfl n_list (by decide +kernel) rfl) b6))) (an2 (g8 (av6 rfl) rfl n_all (by decide +kernel) (a8 (t5 (Nc:=["_law_one"]) (caps:=[none]) rfl (G3.of (osc:=c6 K6) (N:=["_law_thing"]) (ks:=[]) rfl rfl rfl rfl j8 (by decide +kernel)) (z9 (pv 0)) (λC s₂ H₂ fp pins=>(c9 (i:=0) (show z0q (["_law_one"]:List Str) by decide +kernel) rfl (q0z rfl) (j0b rfl))) (λC s₂ H₂ fp pins=>(c8 G__law_is_number hr (a8 (pv 0) b6) g9))) b6)) (as8 (y4 (aa6 hu) (c8 G__law_trim hr (a8 (pv 0) b6) g9) (pv 0) (i5 _))))))),?_⟩
 rw [show start ["_law_thing"] [.ref a]=[some (.ref a)] from rfl]
 subst_eqs
 refine ⟨trivial,_,.of (.lst ha),_,aa8,B3 (λ_=>?_) (λh=>absurd rfl h)⟩;refine ⟨⟨_,SqL.of ha⟩,λD hD=>?_⟩;have hDa:a ≠ D:=d5 ha hD;refine C4 xs (λi σ H2 => ∃ o,σ=[o]/\c5 H H2/\H2 D=some (.lst ((q0t i true).map V.bl))) ⟨_,rfl,c5.new hD _,b8⟩ (λi σ H2 _ ⟨o,_,s2,_⟩=>SqL.of (s2 _ _ ha)) ?_ ?_
 ·rintro i x σ H2 hx ⟨o,rfl,s2,e2⟩
  have hi:i<xs.length:=(q0f.mp hx).1;obtain ⟨p,q,rfl,hq,hp⟩:=hN.getV hx
  subst_eqs
  have sq:=hs q (q0v hq);refine ⟨_,q,rfl,⟨p,rfl,(hp.mono s2.tups).sqt⟩,?_,λH3 s3=>?_⟩
  ·rw [q0y]
   exact sq
  ·refine m8.mk hi (s3 _ _ e2) (by simp;exact q0b (show i<1000 by omega) (by decide)) ⟨_,rfl,(s2.trans s3).over hD _,?_⟩
   rw [b8,u0x,j0r];rfl
 ·rintro σ H2 ⟨o,rfl,s2,e2⟩
  subst_eqs
  refine ⟨_,SqL.of e2,B3 (λ_=>?_) (λh=>absurd (by simp) h)⟩
  have n2:=hN.mono s2.tups;refine ⟨a,xs,qs,rfl,SqL.of (s2 _ _ ha),n2,λm r H3 tl s3 hr' e3=>?_⟩;have em:=tl.uniq ht;subst em;have et:xs.take qs.length=xs:=by rw [<- hN.length,v0n]
  rw [et] at e3;refine ⟨A9 qs,A9 qs,rfl,X8 (SqL.of e3) (n2.mono s3.tups),X8 (SqL.of (s3 _ _ (s2 _ _ ha))) (n2.mono s3.tups),O7 _ _,q0q (U7 _) (by decide),?_⟩
  rw [L9];simp only [decide_true];exact k H3 (s2.trans s3)
def ay3 (K:q0a):Sp:=λvs H Q _ => ∃ (a:Addr) (x:V) (xs:List V) (qs:List Rat) (r:Rat) (B W c b:Nat),vs=[.ref a,x]/\SqL K H a xs/\w4 K H xs qs/\(∀ q ∈ qs,OvB B W q)/\0<B/\B<2 ^ b/\Num K H x r/\BdN c r/\qs.length<=20/\b+c*(qs.length+1)+c+b<=6000/\W+(c+1)*(qs.length+1)<=20000/\ak0 H Q (evQ r qs)
theorem at8 {f fp ft:Addr} (d:Df K mg "_law_worth" W6 ["_law_p","_law_x"] f) (G__law_plus:Def P w K mg base CX0 2 "_law_plus" fp ["_law_one","_law_other_here"] (B8 K (· + ·))) (G__law_times:Def P w K mg base CX0 2 "_law_times" ft ["_law_one","_law_other_here"] (B8 K (· * ·))) (n_reversed:mg "reversed" = none):Def P w K mg base CX0 3 "_law_worth" f ["_law_p","_law_x"] (ay3 K):=by
 refine d.ok (N:=["_law_p","_law_x","_law_found","_law_number_here"]) U2 (by rintro vs H Q E ⟨_,_,_,_,_,_,_,_,_,h,_⟩;rw [h];rfl) (λcdv A outer s H vs Q E hr h=>?_)
 obtain ⟨a,x,xs,qs,r,B,W,c,b,rfl,hS,hN,hq,hB,hb,⟨ax,rfl,hx⟩,hc,l20,hD,hT,k⟩:=h
 refine ⟨_,(b9 (h9 (i:=2) U2.nd rfl (q0z rfl) (j2 (a8 b7 (a8 b7 b6))))
   (b9 (Y4 PassesOwn.never rfl (bk1 rfl n_reversed (a8 (pv 0) b6)) (c9 (i:=3) U2.nd rfl (q0z rfl)) (c7 (h9 (i:=2) U2.nd rfl (q0z rfl) (c8 G__law_plus hr (a8 (c8 G__law_times hr (a8 (pv 2) (a8 (pv 1) b6)) g9) (a8 (pv 3) b6)) g9))))
   (c7 (i7 (pv 2))))),?_⟩
 rw [show start ["_law_p","_law_x","_law_found","_law_number_here"] [.ref a,.ref ax]=[some (.ref a),some (.ref ax),none,none] from rfl]
 subst_eqs
 have hxl:=hN.length;have dp:=r.den_pos;refine ⟨t9,λp0 hp0=>?_⟩;have S0:=c5.new hp0 (.tup [.int 0,.int 1]);refine ⟨_,rfl,a,_,rfl,S0.seq hS,bf4 (xs:=xs) (λi σ H1 => ∃ p o,σ=[some (.ref a),some (.ref ax),some (.ref p),o]/\c5 H H1/\H1 p=some (.tup (t4 (evQ r (qs.drop (qs.length-i)))))) ⟨p0,_,rfl,S0,by rw [b8,Nat.sub_zero,List.drop_length];rfl⟩ (by rintro i σ H1 _ ⟨_,_,_,s1,_⟩;exact s1.seq hS) ?_ ?_⟩
 ·rintro i y σ H1 hi hy ⟨p,o,rfl,s1,e1⟩
  obtain ⟨py,q,rfl,hqy,hpy⟩:=hN.getV hy;have hqm:=hq q (q0v hqy);rw [hxl] at hqy hi
  have et:qs.drop (qs.length-(i+1))=q :: qs.drop (qs.length-i):=by
   have h1:qs.length-(i+1)<qs.length:=⋯;rw [List.drop_eq_getElem_cons h1,show qs.length-(i+1)+1=qs.length-i by omega]
   congr 1
   have hq':qs[qs.length-(i+1)]? = some q:=by rw [show qs.length-(i+1)=qs.length-1-i by omega];exact hqy
   exact (q0f.mp hq').2
  have ld:(qs.drop (qs.length-i)).length=i:=by rw [v0m];omega
  have o0:=ba6 hB hc (qs.drop (qs.length-i)) λx hx=>hq x (m0p hx);rw [ld] at o0
  have hdi:r.den ^ i<2 ^ (c*qs.length+1):=by
   have h1:r.den ^ i<=(2 ^ c) ^ i:=m0v (y0d hc.d) i;rw [<- q1c] at h1;have h2:c*i<=c*qs.length:=y0m _ ⋯;exact q0s (q0q h1 (d7 h2)) (u0y (by decide) ⋯)
  have hBd:B*r.den ^ i<2 ^ (b+(c*qs.length+1)):=by rw [z0p];exact z0g hb hdi
  have ci:(c+1)*i<=(c+1)*qs.length:=y0m _ ⋯;rw [q1d] at hD hT;have bt0:BtN (b+(c*qs.length+1)) (evQ r (qs.drop (qs.length-i))):=o0.bt (z0s hB (m0g dp)) hBd ⋯;have bt1:BtN (b+(c*qs.length+1)+c) (evQ r (qs.drop (qs.length-i))*r):=(o0.mul hc.ovb).bt (z0s (z0s hB (m0g dp)) dp) (by rw [z0p];exact z0g hBd hc.d) ⋯
  have bq:BtN b q:=hqm.bt hB hb ⋯
  subst_eqs
  have e9:evQ r (qs.drop (qs.length-i))*r+q=evQ r (qs.drop (qs.length-(i+1))):=by rw [et,evQ];grind
  have c1:1<=c:=by
   have:=hc.d;rcases g0c c with z | z
   ·rw [z] at this;omega
   ·exact z
  refine ⟨_,_,_,_,_,c,rfl,⟨p,rfl,SqT.of e1⟩,⟨ax,rfl,s1.tup hx⟩,bt0,hc.t ⋯,⋯,λp1 H2 s2 e2=>?_⟩;refine ⟨_,_,_,_,_,b,rfl,⟨p1,rfl,SqT.of e2⟩,⟨py,rfl,((hpy.mono s1.tups).mono s2.tups).sqt⟩,bt1,bq,⋯,λp2 H3 s3 e3=>?_⟩
  have hres:H3 p2=some (.tup (t4 (evQ r (qs.drop (qs.length-(i+1)))))):=by
   rw [e3]
   show some (HO.tup (t4 (evQ r (qs.drop (qs.length-i))*r+q)))=_;rw [e9]
  first
   | exact ⟨p2,rfl,s1.trans (s2.trans s3),hres⟩
   | exact ⟨s1.trans (s2.trans s3),p2,rfl,hres⟩
   | exact ⟨p2,s1.trans (s2.trans s3),hres⟩
   | exact ⟨_,p2,rfl,s1.trans (s2.trans s3),hres⟩
   | exact ⟨p2,⟨_,rfl⟩,s1.trans (s2.trans s3),hres⟩
 ·rintro σ H1 ⟨p,o,rfl,s1,e1⟩
  rw [hxl,Nat.sub_self,List.drop_zero] at e1
  subst_eqs
  exact k p H1 s1 e1
def pwM (n:Nat) (A:Mt):Nat->Mt
 | 0=>dij
 | k+1=>mm n (pwM n A k) A
def flT (n:Nat) (A:Mt):Nat->Mt
 | 0=>dij
 | k+1=>λi j=>mm n A (flT n A k) i j + -(j4 (λt=>mm n A (flT n A k) t t) n) / ((k:Rat)+1)*dij i j
def flK (n:Nat) (A:Mt) (k:Nat):Rat:=-(j4 (λt=>mm n A (flT n A k) t t) n) / ((k:Rat)+1)
theorem F5 (n:Nat) (A:Mt) (i j:Nat):flT n A 0 i j=dij i j:=rfl
theorem G1 (n:Nat) (A:Mt) (k i j:Nat):flT n A (k+1) i j=mm n A (flT n A k) i j+flK n A k*dij i j:=rfl
def chQ (n:Nat) (A:Mt):Nat->List Rat
 | 0=>[1]
 | k+1=>flK n A k :: chQ n A k
theorem ba5 (A:Mt):flK 1 A 0=-A 0 0:=by
 simp [flK,G1,F5,mm,j4,dij]
 grind
theorem aQ0 (A:Mt):flK 2 A 0=-A 0 0-A 1 1:=by
 simp [flK,G1,F5,mm,j4,dij]
 grind
theorem ba4 (A:Mt):flK 2 A 1=A 0 0*A 1 1-A 0 1*A 1 0:=by
 simp [flK,G1,F5,mm,j4,dij,aQ0]
 grind
theorem aJ8 (A:Mt):flK 3 A 0=-A 0 0-A 1 1-A 2 2:=by
 simp [flK,G1,F5,mm,j4,dij]
 grind
theorem aP9 (A:Mt):flK 3 A 1=A 0 0*A 1 1-A 0 1*A 1 0+A 0 0*A 2 2-A 0 2*A 2 0+A 1 1*A 2 2-A 1 2*A 2 1:=by
 simp [flK,G1,F5,mm,j4,dij,aJ8]
 grind
theorem ba3 (A:Mt):flK 3 A 2=-A 0 0*A 1 1*A 2 2+A 0 0*A 1 2*A 2 1+A 0 1*A 1 0*A 2 2-A 0 1*A 1 2*A 2 0-A 0 2*A 1 0*A 2 1+A 0 2*A 1 1*A 2 0:=by
 simp [flK,G1,F5,mm,j4,dij,aJ8,aP9]
 grind
theorem aA3 (A:Mt):flK 4 A 0=-A 0 0-A 1 1-A 2 2-A 3 3:=by
 simp [flK,G1,F5,mm,j4,dij]
 grind
theorem aJ7 (A:Mt):flK 4 A 1=A 0 0*A 1 1-A 0 1*A 1 0+A 0 0*A 2 2-A 0 2*A 2 0+A 0 0*A 3 3-A 0 3*A 3 0+A 1 1*A 2 2-A 1 2*A 2 1+A 1 1*A 3 3-A 1 3*A 3 1+A 2 2*A 3 3-A 2 3*A 3 2:=by
 simp [flK,G1,F5,mm,j4,dij,aA3]
 grind
theorem aP8 (A:Mt):flK 4 A 2=-A 0 0*A 1 1*A 2 2+A 0 0*A 1 2*A 2 1+A 0 1*A 1 0*A 2 2-A 0 1*A 1 2*A 2 0-A 0 2*A 1 0*A 2 1+A 0 2*A 1 1*A 2 0-A 0 0*A 1 1*A 3 3+A 0 0*A 1 3*A 3 1+A 0 1*A 1 0*A 3 3-A 0 1*A 1 3*A 3 0-A 0 3*A 1 0*A 3 1+A 0 3*A 1 1*A 3 0-A 0 0*A 2 2*A 3 3+A 0 0*A 2 3*A 3 2+A 0 2*A 2 0*A 3 3-A 0 2*A 2 3*A 3 0-A 0 3*A 2 0*A 3 2+A 0 3*A 2 2*A 3 0-A 1 1*A 2 2*A 3 3+A 1 1*A 2 3*A 3 2+A 1 2*A 2 1*A 3 3-A 1 2*A 2 3*A 3 1-A 1 3*A 2 1*A 3 2+A 1 3*A 2 2*A 3 1:=by
 simp [flK,G1,F5,mm,j4,dij,aA3,aJ7]
 grind
theorem ba2 (A:Mt):flK 4 A 3=A 0 0*A 1 1*A 2 2*A 3 3-A 0 0*A 1 1*A 2 3*A 3 2-A 0 0*A 1 2*A 2 1*A 3 3+A 0 0*A 1 2*A 2 3*A 3 1+A 0 0*A 1 3*A 2 1*A 3 2-A 0 0*A 1 3*A 2 2*A 3 1-A 0 1*A 1 0*A 2 2*A 3 3+A 0 1*A 1 0*A 2 3*A 3 2+A 0 1*A 1 2*A 2 0*A 3 3-A 0 1*A 1 2*A 2 3*A 3 0-A 0 1*A 1 3*A 2 0*A 3 2+A 0 1*A 1 3*A 2 2*A 3 0+A 0 2*A 1 0*A 2 1*A 3 3-A 0 2*A 1 0*A 2 3*A 3 1-A 0 2*A 1 1*A 2 0*A 3 3+A 0 2*A 1 1*A 2 3*A 3 0+A 0 2*A 1 3*A 2 0*A 3 1-A 0 2*A 1 3*A 2 1*A 3 0-A 0 3*A 1 0*A 2 1*A 3 2+A 0 3*A 1 0*A 2 2*A 3 1+A 0 3*A 1 1*A 2 0*A 3 2-A 0 3*A 1 1*A 2 2*A 3 0-A 0 3*A 1 2*A 2 0*A 3 1+A 0 3*A 1 2*A 2 1*A 3 0:=by
 simp [flK,G1,F5,mm,j4,dij,aA3,aJ7,aP8]
 grind
theorem aX2 {L W:Nat} (hL:0<L) {p q:Rat} {w:Int} (h:OvB L W p) (hv:q=z0b w (L:Int)) (w0:w ≠ 0):OvB w.natAbs W (-p / q):=by
 obtain ⟨v,rfl,b⟩:=h
 have l0:((L:Int):Rat) ≠ 0:=λz=>by
  have:=y0t.mp (show ((L:Int):Rat)=((0:Int):Rat) from z);omega
 have b0:(w:Rat) ≠ 0:=λz=>w0 (y0t.mp (show (w:Rat)=((0:Int):Rat) from z));have i1:=z0t _ l0;have i2:=z0t _ b0
 have e:-z0b v (L:Int) / q=-((v:Rat)*(w:Rat)⁻¹):=by
  rw [hv,j0h,j0h,z0z,z0z,z0z,Rat.inv_mul_rev,Rat.inv_inv]
  grind
 rw [e];have h2:w=w.natAbs \/ w=-(w.natAbs:Int):=⋯;rcases h2 with z | z
 ·refine ⟨-v,?_,by rw [v0k];exact b⟩
  rw [<- z,j0h,z0z,j0c];grind
 ·refine ⟨v,?_,b⟩
  have z2:((w.natAbs:Int))=-w:=⋯;rw [z2,j0h,z0z,j0c];have n0:-(w:Rat) ≠ 0:=λz=>b0 (by grind)
  have i3:=z0t _ n0
  have:(-(w:Rat))⁻¹=-(w:Rat)⁻¹:=by
   have h:(-(w:Rat))⁻¹*((w:Rat)*(w:Rat)⁻¹)=(-(w:Rat))⁻¹:=by rw [i2,m0h]
   rw [<- h];generalize (w:Rat)⁻¹=a at *;generalize (-(w:Rat))⁻¹=c at *
   grind
  rw [this];grind
theorem aX4 {B W:Nat} (h0:0<B) (hW:B<2 ^ W):OvB B W 1:=by
 have nb:((B:Int):Rat) ≠ 0:=λz=>by
  have:=y0t.mp (show ((B:Int):Rat)=((0:Int):Rat) from z);omega
 exact ⟨(B:Int),by rw [j0h,z0z,z0t _ nb],by rw [q0y];exact hW⟩
def shQ (n:Nat):List (List Rat):=(z0w n).map λi=>(z0w n).map λj=>if j=i+1 then (1:Rat) else 0
theorem aW3 {n i:Nat} (h:i<n):(shQ n)[i]? = some ((z0w n).map λj=>if j=i+1 then (1:Rat) else 0):=by unfold shQ;rw [z0c,Z6 h];rfl
def F6 (qs:List Rat) (n:Nat):List (List Rat):=(shQ n).set (n-1) ((qs.take n).map λq=>-q / (qs[n]?.getD 0))
theorem bg0 {qs:List Rat} {n W:Nat} (cl:ClN W qs) (ln:qs.length=n+1) (l0:qs[n]?.getD 0 ≠ 0):∃ B,0<B/\B<2 ^ W/\∀ L ∈ F6 qs n,L.length=n/\∀ x ∈ L,OvB B W x:=by
 have en:qs[n]? = some (qs[n]?.getD 0):=by rw [q0j ⋯];rfl
 obtain ⟨w,hw,bw⟩:=aX5 cl (q0v en);have Lp:=Q6 qs;have w0:w ≠ 0:=λz=>l0 (by rw [hw,z,Rat.zero_divInt])
 have B0:0<w.natAbs:=⋯;refine ⟨w.natAbs,B0,bw,λL hL=>?_⟩;rcases j0g hL with h | rfl
 ·obtain ⟨i,_,rfl⟩:=j0q.mp h
  refine ⟨by rw [q0g,v0h],λx hx=>?_⟩
  obtain ⟨j,_,rfl⟩:=j0q.mp hx
  by_cases z:j=i+1
  ·rw [if_pos z];exact aX4 B0 bw
  ·rw [if_neg z];exact OvB.zero _ _
 ·refine ⟨by rw [q0g,z0f];omega,λx hx=>?_⟩
  obtain ⟨q,hq,rfl⟩:=j0q.mp hx;exact aX2 Lp (aX5 cl (u0t hq)) hw w0
theorem am5 (qs:List Rat) (n:Nat):(F6 qs n).length=n:=by unfold F6 shQ;rw [y0f,q0g,v0h]
def lsM (x:Rat) (A:Mt):Mt:=λi j=>x*dij i j-A i j
theorem bs3 (x:Rat) (A:Mt):evQ x (chQ 1 A 1)=dt 1 (lsM x A):=by
 simp [chQ,evQ,dt,j4,sgd,mn,lsM,dij,ba5]
 grind
theorem bs2 (x:Rat) (A:Mt):evQ x (chQ 2 A 2)=dt 2 (lsM x A):=by
 simp [chQ,evQ,dt,j4,sgd,mn,lsM,dij,aQ0,ba4]
 grind
theorem bs1 (x:Rat) (A:Mt):evQ x (chQ 3 A 3)=dt 3 (lsM x A):=by
 simp [chQ,evQ,dt,j4,sgd,mn,lsM,dij,aJ8,aP9,ba3]
 grind
theorem bs0 (x:Rat) (A:Mt):evQ x (chQ 4 A 4)=dt 4 (lsM x A):=by
 simp [chQ,evQ,dt,j4,sgd,mn,lsM,dij,aA3,aJ7,aP8,ba2]
 grind
theorem bm5 {n:Nat} (x:Rat) (A:Mt) (n1:1<=n) (n4:n<=4):evQ x (chQ n A n)=dt n (lsM x A):=by
 have h:n=1 \/ n=2 \/ n=3 \/ n=4:=⋯;rcases h with rfl | rfl | rfl | rfl
 ·exact bs3 x A
 ·exact bs2 x A
 ·exact bs1 x A
 ·exact bs0 x A
theorem ba1 {n:Nat} {A Z:Mt} {b:Rat} (h:∀ i j,i<n->j<n->Z i j=b*A i j):∀ k,(∀ i j,i<n->j<n->flT n Z k i j=b ^ k*flT n A k i j)/\flK n Z k=b ^ (k+1)*flK n A k
 | k=>by
  have mmk:∀ k,(∀ i j,i<n->j<n->flT n Z k i j=b ^ k*flT n A k i j)->∀ i j,i<n->j<n->mm n Z (flT n Z k) i j=b ^ (k+1)*mm n A (flT n A k) i j:=λk ih i j hi hj=>by
   unfold mm;rw [X7];refine y1 λt ht=>?_;rw [h i t hi ht,ih t j ht hj,Rat.pow_succ];grind
  have fk:∀ k,(∀ i j,i<n->j<n->flT n Z k i j=b ^ k*flT n A k i j)->flK n Z k=b ^ (k+1)*flK n A k:=λk ih=>by
   unfold flK;rw [y1 (g:=λt=>b ^ (k+1)*mm n A (flT n A k) t t) λt ht=>mmk k ih t t ht ht,<- X7,z0z,z0z];grind
  have base:∀ k,∀ i j,i<n->j<n->flT n Z k i j=b ^ k*flT n A k i j:=λk=>by
   induction k with
   | zero=>intro i j _ _;rw [F5,F5,Rat.pow_zero,m0f]
   | succ k ih =>
    intro i j hi hj;rw [G1,G1,mmk k ih i j hi hj,fk k ih];grind
  exact ⟨base k,fk k (base k)⟩
theorem bs7 (q0 q1:Rat) (h:q1 ≠ 0):chQ 1 (qq (F6 [q0,q1] 1)) 1=[1 / q1*q0,1 / q1*q1]:=by
 have i:=z0t _ h
 simp [chQ,ba5,F6,shQ,qq,aQ,z0z]
 constructor <;> grind
theorem bs6 (q0 q1 q2:Rat) (h:q2 ≠ 0):chQ 2 (qq (F6 [q0,q1,q2] 2)) 2=[1 / q2*q0,1 / q2*q1,1 / q2*q2]:=by
 have i:=z0t _ h
 simp [chQ,aQ0,ba4,F6,shQ,qq,aQ,z0z,v0s]
 refine ⟨?_,?_,?_⟩ <;> grind
theorem bs5 (q0 q1 q2 q3:Rat) (h:q3 ≠ 0):chQ 3 (qq (F6 [q0,q1,q2,q3] 3)) 3=[1 / q3*q0,1 / q3*q1,1 / q3*q2,1 / q3*q3]:=by
 have i:=z0t _ h
 simp [chQ,aJ8,aP9,ba3,F6,shQ,qq,aQ,z0z,v0s]
 refine ⟨?_,?_,?_,?_⟩ <;> grind
theorem bs4 (q0 q1 q2 q3 q4:Rat) (h:q4 ≠ 0):chQ 4 (qq (F6 [q0,q1,q2,q3,q4] 4)) 4=[1 / q4*q0,1 / q4*q1,1 / q4*q2,1 / q4*q3,1 / q4*q4]:=by
 have i:=z0t _ h
 simp [chQ,aA3,aJ7,aP8,ba2,F6,shQ,qq,aQ,z0z,v0s]
 refine ⟨?_,?_,?_,?_,?_⟩ <;> grind
theorem bg1 {qs:List Rat} {n:Nat} (l:qs.length=n+1) (n1:1<=n) (n4:n<=4) {c:Rat} (e:qs[n]? = some c) (c0:c ≠ 0):chQ n (qq (F6 qs n)) n=qs.map λx=>1 / c*x:=by
 have h:n=1 \/ n=2 \/ n=3 \/ n=4:=⋯;rcases h with rfl | rfl | rfl | rfl
 ·match qs,l with
  | [a,b],_=>cases e;exact bs7 a _ c0
 ·match qs,l with
  | [a,b,d],_=>cases e;exact bs6 a b _ c0
 ·match qs,l with
  | [a,b,d,f],_=>cases e;exact bs5 a b d _ c0
 ·match qs,l with
  | [a,b,d,f,g],_=>cases e;exact bs4 a b d f _ c0
theorem bp9 (Z:Nat->Nat->Int):∃ w:Int,(w:Rat)=flK 1 (λi j=>(Z i j:Rat)) 0:=⟨-Z 0 0,by rw [ba5];simp only [j0e,z0v,j0s,j0c]⟩
theorem bp8 (Z:Nat->Nat->Int):∃ w:Int,(w:Rat)=flK 2 (λi j=>(Z i j:Rat)) 0:=⟨-Z 0 0-Z 1 1,by rw [aQ0];simp only [j0e,z0v,j0s,j0c]⟩
theorem bp7 (Z:Nat->Nat->Int):∃ w:Int,(w:Rat)=flK 2 (λi j=>(Z i j:Rat)) 1:=⟨Z 0 0*Z 1 1-Z 0 1*Z 1 0,by rw [ba4];simp only [j0e,z0v,j0s,j0c]⟩
theorem bp6 (Z:Nat->Nat->Int):∃ w:Int,(w:Rat)=flK 3 (λi j=>(Z i j:Rat)) 0:=⟨-Z 0 0-Z 1 1-Z 2 2,by rw [aJ8];simp only [j0e,z0v,j0s,j0c]⟩
theorem bp5 (Z:Nat->Nat->Int):∃ w:Int,(w:Rat)=flK 3 (λi j=>(Z i j:Rat)) 1:=⟨Z 0 0*Z 1 1-Z 0 1*Z 1 0+Z 0 0*Z 2 2-Z 0 2*Z 2 0+Z 1 1*Z 2 2-Z 1 2*Z 2 1,by rw [aP9];simp only [j0e,z0v,j0s,j0c]⟩
theorem bp4 (Z:Nat->Nat->Int):∃ w:Int,(w:Rat)=flK 3 (λi j=>(Z i j:Rat)) 2:=⟨-Z 0 0*Z 1 1*Z 2 2+Z 0 0*Z 1 2*Z 2 1+Z 0 1*Z 1 0*Z 2 2-Z 0 1*Z 1 2*Z 2 0-Z 0 2*Z 1 0*Z 2 1+Z 0 2*Z 1 1*Z 2 0,by rw [ba3];simp only [j0e,z0v,j0s,j0c]⟩
theorem bp3 (Z:Nat->Nat->Int):∃ w:Int,(w:Rat)=flK 4 (λi j=>(Z i j:Rat)) 0:=⟨-Z 0 0-Z 1 1-Z 2 2-Z 3 3,by rw [aA3];simp only [j0e,z0v,j0s,j0c]⟩
theorem bp2 (Z:Nat->Nat->Int):∃ w:Int,(w:Rat)=flK 4 (λi j=>(Z i j:Rat)) 1:=⟨Z 0 0*Z 1 1-Z 0 1*Z 1 0+Z 0 0*Z 2 2-Z 0 2*Z 2 0+Z 0 0*Z 3 3-Z 0 3*Z 3 0+Z 1 1*Z 2 2-Z 1 2*Z 2 1+Z 1 1*Z 3 3-Z 1 3*Z 3 1+Z 2 2*Z 3 3-Z 2 3*Z 3 2,by rw [aJ7];simp only [j0e,z0v,j0s,j0c]⟩
theorem bp1 (Z:Nat->Nat->Int):∃ w:Int,(w:Rat)=flK 4 (λi j=>(Z i j:Rat)) 2:=⟨-Z 0 0*Z 1 1*Z 2 2+Z 0 0*Z 1 2*Z 2 1+Z 0 1*Z 1 0*Z 2 2-Z 0 1*Z 1 2*Z 2 0-Z 0 2*Z 1 0*Z 2 1+Z 0 2*Z 1 1*Z 2 0-Z 0 0*Z 1 1*Z 3 3+Z 0 0*Z 1 3*Z 3 1+Z 0 1*Z 1 0*Z 3 3-Z 0 1*Z 1 3*Z 3 0-Z 0 3*Z 1 0*Z 3 1+Z 0 3*Z 1 1*Z 3 0-Z 0 0*Z 2 2*Z 3 3+Z 0 0*Z 2 3*Z 3 2+Z 0 2*Z 2 0*Z 3 3-Z 0 2*Z 2 3*Z 3 0-Z 0 3*Z 2 0*Z 3 2+Z 0 3*Z 2 2*Z 3 0-Z 1 1*Z 2 2*Z 3 3+Z 1 1*Z 2 3*Z 3 2+Z 1 2*Z 2 1*Z 3 3-Z 1 2*Z 2 3*Z 3 1-Z 1 3*Z 2 1*Z 3 2+Z 1 3*Z 2 2*Z 3 1,by rw [aP8];simp only [j0e,z0v,j0s,j0c]⟩
theorem bp0 (Z:Nat->Nat->Int):∃ w:Int,(w:Rat)=flK 4 (λi j=>(Z i j:Rat)) 3:=⟨Z 0 0*Z 1 1*Z 2 2*Z 3 3-Z 0 0*Z 1 1*Z 2 3*Z 3 2-Z 0 0*Z 1 2*Z 2 1*Z 3 3+Z 0 0*Z 1 2*Z 2 3*Z 3 1+Z 0 0*Z 1 3*Z 2 1*Z 3 2-Z 0 0*Z 1 3*Z 2 2*Z 3 1-Z 0 1*Z 1 0*Z 2 2*Z 3 3+Z 0 1*Z 1 0*Z 2 3*Z 3 2+Z 0 1*Z 1 2*Z 2 0*Z 3 3-Z 0 1*Z 1 2*Z 2 3*Z 3 0-Z 0 1*Z 1 3*Z 2 0*Z 3 2+Z 0 1*Z 1 3*Z 2 2*Z 3 0+Z 0 2*Z 1 0*Z 2 1*Z 3 3-Z 0 2*Z 1 0*Z 2 3*Z 3 1-Z 0 2*Z 1 1*Z 2 0*Z 3 3+Z 0 2*Z 1 1*Z 2 3*Z 3 0+Z 0 2*Z 1 3*Z 2 0*Z 3 1-Z 0 2*Z 1 3*Z 2 1*Z 3 0-Z 0 3*Z 1 0*Z 2 1*Z 3 2+Z 0 3*Z 1 0*Z 2 2*Z 3 1+Z 0 3*Z 1 1*Z 2 0*Z 3 2-Z 0 3*Z 1 1*Z 2 2*Z 3 0-Z 0 3*Z 1 2*Z 2 0*Z 3 1+Z 0 3*Z 1 2*Z 2 1*Z 3 0,by rw [ba2];simp only [j0e,z0v,j0s,j0c]⟩
theorem bf5 {n c:Nat} (Z:Nat->Nat->Int) (n4:n<=4) (hc:c<n):∃ w:Int,(w:Rat)=flK n (λi j=>(Z i j:Rat)) c:=by
 have h:n=1 \/ n=2 \/ n=3 \/ n=4:=⋯;rcases h with rfl | rfl | rfl | rfl
 ·have h:c=0:=⋯
  rcases h with rfl
  ·exact bp9 Z
 ·have h:c=0 \/ c=1:=⋯
  rcases h with rfl | rfl
  ·exact bp8 Z
  ·exact bp7 Z
 ·have h:c=0 \/ c=1 \/ c=2:=⋯
  rcases h with rfl | rfl | rfl
  ·exact bp6 Z
  ·exact bp5 Z
  ·exact bp4 Z
 ·have h:c=0 \/ c=1 \/ c=2 \/ c=3:=⋯
  rcases h with rfl | rfl | rfl | rfl
  ·exact bp3 Z
  ·exact bp2 Z
  ·exact bp1 Z
  ·exact bp0 Z
abbrev Z3:Stmt:=top 47
theorem aD1:i9 ["_law_one","_law_other_here"] ["_law_one","_law_other_here"] (c6 Z3):=by and_intros
theorem aE9 {f fl:Addr} (d:Df K mg "_law_less" Z3 ["_law_one","_law_other_here"] f) (G__law_low:Def P w K mg base CX0 1 "_law_low" fl ["_law_top","_law_bottom"] ap0):Def P w K mg base CX0 2 "_law_less" f ["_law_one","_law_other_here"] (B8 K (· - ·)):=by
 refine d.ok (N:=["_law_one","_law_other_here"]) aD1 (by rintro vs H Q E ⟨x,y,p,q,m,n,h,_⟩;rw [h];rfl) (λcdv A outer s H vs Q E hr h=>?_)
 obtain ⟨x,y,p,q,m,n,rfl,⟨ap,rfl,hp⟩,⟨aq,rfl,hq⟩,bp,bq,hmn,k⟩:=h;refine ⟨_,(c7 (i7 (c8 G__law_low hr (a8 (d2 G8 (d2 t3 (i6 k7 (pv 0) b7 (λ_ _=>rfl)) (i6 k7 (pv 1) b7 (λ_ _=>rfl))) (d2 t3 (i6 k7 (pv 1) b7 (λ_ _=>rfl)) (i6 k7 (pv 0) b7 (λ_ _=>rfl)))) (a8 (d2 t3 (i6 k7 (pv 0) b7 (λ_ _=>rfl)) (i6 k7 (pv 1) b7 (λ_ _=>rfl))) b6)) g9))),?_⟩;rw [show start ["_law_one","_law_other_here"] [.ref ap,.ref aq]=[some (.ref ap),some (.ref aq)] from rfl]
 subst_eqs
 refine ⟨_,hp,_,at0 p,_,hq,_,at1 q,_,rfl,_,rfl,Q4 bp.n bq.d' ⋯,_,hq,_,at0 q,_,hp,_,at1 p,_,rfl,_,rfl,Q4 bq.n bp.d' ⋯,_,hp,_,at1 p,_,hq,_,at1 q,_,rfl,_,rfl,Q4 bp.d' bq.d' ⋯,?_⟩;refine ⟨_,_,rfl,aF9 p q,bm6 bp bq hmn,?_⟩;rw [<- aL3];exact k
def Y8 (K:q0a):Sp:=λvs H Q _ => ∃ (x y:V) (p q:Rat) (m n:Nat),vs=[x,y]/\Num K H x p/\Num K H y q/\BtN m p/\q ≠ 0/\q.num.natAbs<2 ^ n/\q.den<2 ^ 20000/\m+n<=6000/\ak0 H Q (p / q)
abbrev Z2:Stmt:=top 49
theorem aD0:i9 ["_law_one","_law_other_here"] ["_law_one","_law_other_here"] (c6 Z2):=by and_intros
theorem aE8 {f fl:Addr} (d:Df K mg "_law_over" Z2 ["_law_one","_law_other_here"] f) (G__law_low:Def P w K mg base CX0 1 "_law_low" fl ["_law_top","_law_bottom"] ap0):Def P w K mg base CX0 2 "_law_over" f ["_law_one","_law_other_here"] (Y8 K):=by
 refine d.ok (N:=["_law_one","_law_other_here"]) aD0 (by rintro vs H Q E ⟨x,y,p,q,m,n,h,_⟩;rw [h];rfl) (λcdv A outer s H vs Q E hr h=>?_)
 obtain ⟨x,y,p,q,m,n,rfl,⟨ap,rfl,hp⟩,⟨aq,rfl,hq⟩,bp,q0,bq,bd,hmn,k⟩:=h;refine ⟨_,(c7 (i7 (c8 G__law_low hr (a8 (d2 t3 (i6 k7 (pv 0) b7 (λ_ _=>rfl)) (i6 k7 (pv 1) b7 (λ_ _=>rfl))) (a8 (d2 t3 (i6 k7 (pv 0) b7 (λ_ _=>rfl)) (i6 k7 (pv 1) b7 (λ_ _=>rfl))) b6)) g9))),?_⟩;rw [show start ["_law_one","_law_other_here"] [.ref ap,.ref aq]=[some (.ref ap),some (.ref aq)] from rfl]
 have bd':(q.den:Int).natAbs<2 ^ 20000:=by rw [q0y];exact bd
 subst_eqs
 refine ⟨_,hp,_,at0 p,_,hq,_,at1 q,_,rfl,_,rfl,Q4 bp.n bd' ⋯,_,hp,_,at1 p,_,hq,_,at0 q,_,rfl,_,rfl,Q4 bp.d' bq ⋯,?_⟩;refine ⟨_,_,rfl,u0u (g0r (p8 p)) (λz=>q0 (ab8.mp z)),?_,?_⟩
 ·rw [z0j]
  have:=z0g bp.d' bq;rw [<- z0p] at this;exact q0b this (d7 hmn)
 ·rw [<- aN5]
  exact k
theorem Rws.setN {H:Hp}:∀ {ts:List Addr} {M:List (List Rat)} (k:Nat) {p:Addr} {xs:List V} {L:List Rat},Rws H ts M->H p=some (.lst xs)->v9 H xs L->Rws H (ts.set k p) (M.set k L)
 | _,_,_,_,_,_,.nil,_,_=>.nil
 | _,_,0,_,_,_,.cons _ _ t,e,f=>.cons e f t
 | _,_,k+1,_,_,_,.cons h n t,e,f=>.cons h n (t.setN k e f)
theorem aY5 {α:Type} {y:α}:∀ {ts:List α} (k:Nat),ts.Nodup->y ∉ ts->(ts.set k y).Nodup
 | [],_,h,_=>h
 | a :: ts,0,h,n=>j0y.mpr ⟨λz=>n (q0r _ z),(j0y.mp h).2⟩
 | a :: ts,k+1,h,n=>j0y.mpr ⟨λz=>by
   rcases j0g z with z | z
   ·exact (j0y.mp h).1 z
   ·exact n (z ▸ q0x),aY5 k (j0y.mp h).2 λz=>n (q0r _ z)⟩
def aC3 (K:q0a):Sp:=λvs H Q _ => ∃ (a:Addr) (xs:List V) (qs:List Rat) (n W:Nat),vs=[.ref a]/\SqL K H a xs/\v9 H xs qs/\ClN W qs/\W<=2000/\P3 qs qs.length/\qs.length=n+1/\1<=n/\n<=4/\∀ B,M4 B W (F6 qs n)->aG2 H Q (F6 qs n)
abbrev C7:Stmt:=top 70
theorem P6:i9 ["_law_p","_law_n","_law_found"] ["_law_p"] (c6 C7):=by and_intros
theorem al7 {f f1:Addr} (d:Df K mg "_law_companion" C7 ["_law_p"] f) (G__law_over:Def P w K mg base CX0 2 "_law_over" f1 ["_law_one","_law_other_here"] (Y8 K)) (n_len:mg "len" = none) (n_range:mg "range" = none) (n_int:mg "int" = none):Def P w K mg base CX0 3 "_law_companion" f ["_law_p"] (aC3 K):=by
  refine d.ok (N:=["_law_p","_law_n","_law_found"]) P6 (by rintro vs H Q E ⟨_,_,_,_,_,h,_⟩;rw [h];rfl) (λcdv A outer s H vs Q E hr h=>?_)
  obtain ⟨a,xs,qs,n,W,rfl,hS,hN,cl,hW,tl,ln,n1,n4,k⟩:=h
  refine ⟨_, (b9 (h9 (i := 1) P6.nd rfl (Or.inr rfl) (d2 G8 (g8 j5 rfl n_len (by decide +kernel) (a8 (pv 0) b6)) b7))
      (b9 (ae8 (i₀:=2) P6.nd rfl (Or.inl rfl) (Nc:=["_law_n","_law_i"]) (caps:=[some 1,none]) rfl (ag0.of (osc:=c6 C7) (N:=["_law_p","_law_n","_law_found"]) (ks:=["_law_n"]) rfl rfl rfl rfl (i8 rfl j8) (by decide +kernel)) (A8 rfl n_range (a8 (pv 1) b6)) (λC s₂ H₂ fp pins=>(c9 (i:=1) (show List.Nodup (["_law_n","_law_i"]:List Str) by decide +kernel) rfl (Or.inr rfl) (Or.inl rfl))) (λC s₂ H₂ fp pins=>(t5 (Nc:=["_law_i","_law_j"]) (caps:=[some 1,none]) rfl (G3.of (osc:=_) (N:=["_law_n","_law_i"]) (ks:=["_law_i"]) rfl rfl rfl rfl (i8 rfl j8) (by kernel_rfl)) (A8 rfl n_range (a8 (pv 0) b6)) (λC s₂ H₂ fp pins=>(c9 (i:=1) (show List.Nodup (["_law_i","_law_j"]:List Str) by decide +kernel) rfl (Or.inl rfl) (Or.inr rfl))) (λC s₂ H₂ fp pins=>(j2 (a8 (p5 C8 rfl n_int (by decide +kernel) (a8 (y4 R3 (pv 1) (d2 y0 (pv 0) b7) (i5 _)) b6)) (a8 b7 b6)))))))
      (b9 (E5 (t5 (Nc:=["_law_p","_law_n","_law_a"]) (caps:=[some 0,some 1,none]) rfl (G3.of (osc:=c6 C7) (N:=["_law_p","_law_n","_law_found"]) (ks:=["_law_p","_law_n"]) rfl rfl rfl rfl (i8 rfl (i8 rfl j8)) (by decide +kernel)) (z9 (Q3 W3 (pv 0) U5 (Q0 (pv 1)))) (λC s₂ H₂ fp pins=>(c9 (i:=2) (show List.Nodup (["_law_p","_law_n","_law_a"]:List Str) by decide +kernel) rfl (Or.inl rfl) (Or.inr rfl))) (λC s₂ H₂ fp pins=>(c8 G__law_over hr (a8 (j2 (a8 (d2 G8 b7 (i6 (by exact k7:IxR _ (aS4 K)) (pv 2) b7 (λ_ _=>rfl))) (a8 (i6 (by exact k7:IxR _ (aS4 K)) (pv 2) b7 (λ_ _=>rfl)) b6))) (a8 (i6 (by exact j3:IxR _ (ae3 K)) (pv 0) (pv 1) (λ_ _=>rfl)) b6)) g9))) (P2 (pv 2) (d2 G8 (pv 1) b7) E1))
      (c7 (i7 (pv 2)))))),?_⟩
  rw [show start ["_law_p","_law_n","_law_found"] [.ref a]=[some (.ref a),none,none] from rfl]
  subst_eqs
  have hxl:xs.length=n+1:=by rw [hN.length,ln]
  obtain ⟨qn,en⟩:∃ qn,qs[n]? = some qn:=⟨_,List.getElem?_eq_getElem ⋯⟩;have qn0:qn ≠ 0:=tl.last ⋯ _ (by rw [ln];exact en)
  have gd:qs[n]?.getD 0=qn:=by rw [en];rfl
  obtain ⟨B,B0,BW,ov⟩:=bg0 cl ln (by rw [gd];exact qn0)
  have oC:M4 B W (F6 qs n):=⟨by rw [am5];omega,B0,BW,λL hL=>⟨by rw [am5];exact (ov L hL).1,(ov L hL).2⟩⟩
  refine ⟨xs,.inl hS,⋯,⋯,λD hD=>?_⟩;rw [show ((xs.length:Int)-1)=(n:Int) by omega]
  refine M0 (λi σ H2 => ∃ o,σ=[some (.int (n:Int)),o]/\F8 H D ((shQ n).take i) H2) ⟨_,rfl,F8.start hD⟩ ?_ ?_
  · rintro i σ H2 hi ⟨o,rfl,T⟩
    subst_eqs
    have hi':i<n:=⋯;refine ⟨⋯,⋯,λD2 hD2=>?_⟩;refine M0 (λj σ H3 => ∃ o,σ=[some (.int (0+i)),o]/\M5 H2 D2 (((List.range n).map λj=>if j=i+1 then (1:Rat) else 0).take j) H3) ⟨_,rfl,M5.start hD2⟩ ?_ ?_
    · rintro j σ H3 hj ⟨o,rfl,R⟩
      have hj':j<n:=⋯
      subst_eqs
      refine ⟨rfl,t9,λp hp=>?_⟩
      have e:upd H3 p (HO.tup [V.int (if (0:Int) + ↑j=0 + ↑i+1 then 1 else 0),V.int 1]) p=some (.tup (t4 (if j=i+1 then (1:Rat) else 0))):=by
        rw [b8]
        by_cases h:j=i+1
        · rw [if_pos ⋯,if_pos h];rfl
        · rw [if_neg ⋯,if_neg h];rfl
      obtain ⟨ys,eD,yl,R'⟩:=R.add hD2 (c5.new hp _) e;refine m8.mk hj eD (p9 (by rw [yl,List.length_take];omega)) ⟨_,rfl,?_⟩
      rw [d6 (l:=(List.range n).map λj=>if j=i+1 then (1:Rat) else 0) (x:=if j=i+1 then (1:Rat) else 0) (by rw [List.getElem?_map,Z6 hj'];rfl)]
      exact R'
    · rintro σ H3 ⟨o,rfl,R⟩
      rw [n9 (by simp)] at R
      obtain ⟨ys,eD,yl,T'⟩:=T.add hD hD2 R;refine m8.mk hi eD (p9 (by rw [yl,List.length_take];omega)) ⟨_,rfl,?_⟩
      rw [d6 (aW3 hi')];exact T'
  rintro σ H2 ⟨o,rfl,T⟩;rw [n9 (by simp [shQ])] at T
  have S2:=T.same;refine ⟨xs,S2.seq hS,λp fp=>?_⟩;rw [ac1 xs ⋯];have Sp:=c5.new fp (.lst (xs.take n));have nT:=(hN.take n).mono (S2.trans Sp).tups;refine ⟨⟨_,SqL.of b8⟩,λD2 fD2=>?_⟩;refine C4 (xs.take n) (λj σ H3 => ∃ o,σ=[some (.ref a),some (.int (n:Int)),o]/\M5 (upd H2 p (.lst (xs.take n))) D2 (((qs.take n).map λq=>-q / (qs[n]?.getD 0)).take j) H3) ⟨_,rfl,M5.start fD2⟩ (λj σ H3 _ ⟨_,_,R⟩=>SqL.of (R.same _ _ b8)) ?_ ?_
  · rintro j x σ H3 hx ⟨o,rfl,R⟩
    have hj:=(List.getElem?_eq_some_iff.mp hx).1;obtain ⟨px,q1,rfl,hq1,hpx⟩:=nT.getV hx;have m1:=List.mem_of_mem_take (List.mem_of_getElem? hq1);have b1:=cl.bdN m1;have bn:=cl.bdN (List.mem_of_getElem? en);have S3:=(S2.trans Sp).trans R.same;obtain ⟨pn,hpn,epn⟩:=hN.get en
    subst_eqs
    have hp1:SqT K H3 px (t4 q1):=SqT.of (R.same _ _ hpx);have S4:=Sp.trans R.same;have S5:=S2.trans S4;have bm:BdN W (-q1):=⟨by rw [Rat.neg_num,Int.natAbs_neg];exact b1.n,by rw [Rat.neg_den];exact b1.d⟩
    refine ⟨_,hp1,_,at0 q1,_,rfl,_,hp1,_,at1 q1,by decide,λp1 fp1=>?_⟩
    have S6:=c5.new fp1 (.tup [.int (0-q1.num),.int (q1.den:Int)]);have S7:=S5.trans S6;refine ⟨xs,S7.seq hS,_,p7 hpn,?_⟩;refine ⟨.ref p1,.ref pn,-q1,qn,W,W,rfl,⟨p1,rfl,by rw [aY4];exact SqT.of b8⟩,⟨pn,rfl,SqT.of (S7 _ _ epn)⟩,bm.t ⋯,qn0,bn.n,Nat.lt_of_lt_of_le bn.d (d7 ⋯),⋯,λr H6 s6 e6=>?_⟩
    obtain ⟨zs,eD,yl,R'⟩:=R.add fD2 (S6.trans s6) e6;refine m8.mk hj eD (p9 (by rw [yl,List.length_take,List.length_map,List.length_take];omega)) ⟨_,rfl,?_⟩
    rw [d6 (l:=(qs.take n).map λq=>-q / (qs[n]?.getD 0)) (x:=-q1 / qn) (by rw [List.getElem?_map,hq1,gd];rfl)]
    exact R'
  rintro σ H3 ⟨o,rfl,R⟩;rw [List.take_of_length_le (l:=(qs.take n).map λq=>-q / (qs[n]?.getD 0)) (by rw [List.length_map,List.length_take,List.length_take];omega)] at R
  obtain ⟨_,ts,eD,hn,nd,rT⟩:=T;obtain ⟨s3,ys,eD2,nY⟩:=R;have S4:=Sp.trans s3;have eD3:=S4 _ _ eD;have lT:ts.length=n:=by rw [rT.length];simp [shQ]
  have fD2':H2 D2=none:=Sp.free fD2;have DD:D ≠ D2:=d5 eD fD2'
  have nts:∀ t ∈ ts,D2 ≠ t:=λt ht z=>by
    obtain ⟨i,hi⟩:=List.mem_iff_getElem?.mp ht;obtain ⟨_,_,_,e,_⟩:=rT.get hi;rw [<- z,fD2'] at e;cases e
  refine ⟨D,rfl,_,eD3,n-1,by rw [List.length_map,lT,show ((n:Int)-1)=((n-1:Nat):Int) by omega];exact V4 ⋯,?_⟩
  have ms:∀ t ∈ ts.set (n-1) D2,t ∈ ts \/ t=D2:=λt ht=>List.mem_or_eq_of_mem_set ht;refine k B oC D (ts.set (n-1) D2) _ ((S2.trans S4).over hD _) hD (λt ht=>?_) ?_ (by rw [b8,List.map_set]) ?_
  · rcases ms t ht with h | rfl
    · exact hn t h
    · exact ⟨S2.free fD2',DD.symm⟩
  · exact aY5 _ nd λz=>nts D2 z rfl
  · exact ((rT.same S4).setN _ eD2 nY).over eD3 fun z => by
      rcases ms D z with h | h
      · exact (hn D h).2 rfl
      · exact DD h
def bK (kd:Int):Nat:=if kd=2 then 40 else 4
theorem bi0 {t b:Int} (hb:b ≠ 0) (h1:t.natAbs<=9) (h2:b.natAbs<=7):BdN 4 (z0b t b):=by
 have:=U0 (t:=t) hb;exact ⟨q0s this.1 ⋯,q0s this.2 ⋯⟩
def P4:Sp:=λvs H Q _ => ∃ u kd,vs=[.ref u,.int kd]/\j7 H u/\∀ r q H',BdN (bK kd) q->j9 u H H'->j7 H' u->H' r=some (.tup (t4 q))->Q (.ref r) H'
theorem aq6 {f fd fl:Addr} (d:Df K mg "_law_number" U3 ["_law_urn_here","_law_kind_here"] f) (G__law_draw:Def P w K mg base CX0 1 "_law_draw" fd ["_law_urn_here","_law_many"] C9) (G__law_low:Def P w K mg base CX0 1 "_law_low" fl ["_law_top","_law_bottom"] ap0) (n_int:mg "int" = none):Def P w K mg base CX0 2 "_law_number" f ["_law_urn_here","_law_kind_here"] P4:=by
 refine d.ok (N:=["_law_urn_here","_law_kind_here","_law_top"]) ae6 (λvs H Q E ⟨u,kd,h,_⟩=>by rw [h];rfl) (λcdv A outer s H vs Q E hr h=>?_)
 obtain ⟨u,kd,rfl,hu,k⟩:=h
 refine ⟨_,(b9 (A4 (j1 R3 (pv 1) b7 (i5 _)) (b9 (h9 (i:=2) ae6.nd rfl (q0z rfl) (d2 y0 (d2 t3 (c8 G__law_draw hr (a8 (pv 0) (a8 (d2 af0 b7 b7) b6)) g9) (d2 af0 b7 b7)) (c8 G__law_draw hr (a8 (pv 0) (a8 (d2 af0 b7 b7) b6)) g9)))
   (c7 (i7 (c8 G__law_low hr (a8 (d2 t3 (pv 2) (i6 j3 (w9 (a8 b7 (a8 (ae9 Y1 b7) b6))) (c8 G__law_draw hr (a8 (pv 0) (a8 b7 b6)) g9) (λ_ _=>rfl))) (a8 (d2 y0 b7 (d2 t3 (c8 G__law_draw hr (a8 (pv 0) (a8 (d2 af0 b7 b7) b6)) g9) (d2 af0 b7 b7))) b6)) g9)))) m6)
   (c7 (i7 (c8 G__law_low hr (a8 (d2 G8 (c8 G__law_draw hr (a8 (pv 0) (a8 b7 b6)) g9) b7) (a8 (d2 y0 b7 (d2 t3 (c8 G__law_draw hr (a8 (pv 0) (a8 b7 b6)) g9) (p5 C8 rfl n_int (by decide +kernel) (a8 (y4 R3 (pv 1) b7 (i5 _)) b6)))) b6)) g9)))),?_⟩
 rw [show start ["_law_urn_here","_law_kind_here","_law_top"] [.ref u,.int kd]=[some (.ref u),some (.int kd),none] from rfl]
 have e10:(10:Int) ^ u0h 6=1000000:=by decide
 simp! [C9,aw2]
 refine B3 (λhk2=>?_) (λhk2=>?_)
 ·refine ⟨⟨by decide,by decide,by decide⟩,hu,by decide,by decide,λr2 H2 a2 b2 s2 u2=>?_⟩
  refine ⟨⟨by decide,by decide,by decide⟩,az5 (by decide),⟨by decide,by decide,by decide⟩,u2,by decide,by decide,λr3 H3 a3 b3 s3 u3=>?_⟩
  refine ⟨by decide,λl hl=>⟨K1 u3 hl,by decide,by decide,λr4 H4 a4 b4 s4 u4=>?_⟩⟩
  have e:=s4 l _ b8 (w5 u3 hl);have b2':r2<1000000:=b2;have b3':r3<1000000:=b3;have sx:j9 u H H4:=s2.trans (s3.trans (j9.trans (c5.x (c5.new hl _) u) s4))
  have fin:∀ sg:Int,sg=1 \/ sg=-1->(bo1 10 6/\j7 H4 u/\0<(10:Int) ^ u0h 6/\(10:Int) ^ u0h 6<2 ^ 40/\∀ (r:Int) (H':Hp),0<=r->r<10 ^ u0h 6->j9 u H4 H'->j7 H' u ->
    bo1 10 6/\IntMulOk r (10 ^ u0h 6)/\ap0 [V.int ((r2*10 ^ u0h 6+r3)*sg),V.int (1+r*10 ^ u0h 6)] H' Q E0):=by
   intro sg hsg;refine ⟨⟨by decide,by decide,by decide⟩,u4,by decide,by decide,λr5 H5 a5 b5 s5 u5=>⟨⟨by decide,by decide,by decide⟩,az5 (by decide),?_⟩⟩
   rw [e10] at b5 ⊢;refine ⟨_,_,rfl,⋯,q0b (show (1+r5*1000000).natAbs<2 ^ 64 by omega) (d7 (by decide)),λr H' sm hr'=>?_⟩
   refine k r _ H' (by unfold bK;rw [if_pos hk2];refine (bo4 ⋯ ?_ ⋯).bdN;rcases hsg with h | h <;> subst h <;> omega) (sx.trans (s5.trans (c5.x sm u))) (c5.urn sm u5) hr'
  have h3:r4=0 \/ r4=1:=⋯;rcases h3 with h | h <;> subst h
  ·exact ⟨_,SqL.of e,_,rfl,_,rfl,az5 (by decide),fin 1 (.inl rfl)⟩
  ·exact ⟨_,SqL.of e,_,rfl,_,rfl,az5 (by decide),fin (-1) (.inr rfl)⟩
 ·refine ⟨hu,by decide,by decide,λr2 H2 a2 b2 s2 u2=>⟨u2,by decide,by decide,λr3 H3 a3 b3 s3 u3=>⟨aY6 ⋯,?_⟩⟩⟩
  have hz:∃ z:Int,z=r3*(if kd=0 then 1 else 0)/\0<=z/\z<=6:=by
   refine ⟨_,rfl,?_,?_⟩ <;> split <;> omega
  obtain ⟨z,ez,z0,z6⟩:=hz;rw [<- ez];refine ⟨_,_,rfl,⋯,q0b (show (1+z).natAbs<2 ^ 64 by omega) (d7 (by decide)),λr H' sm hr'=>?_⟩
  exact k r _ H' (by unfold bK;rw [if_neg hk2];exact bi0 ⋯ ⋯ ⋯) (s2.trans (s3.trans (c5.x sm u))) (c5.urn sm u3) hr'
def Y3:Sp:=λvs H Q _ => ∃ u kd,vs=[.ref u,.int kd]/\j7 H u/\∀ r q H',BdN (bK kd) q->q ≠ 0->j9 u H H'->j7 H' u->H' r=some (.tup (t4 q))->Q (.ref r) H'
theorem at9 {f fd fl:Addr} (d:Df K mg "_law_other" X0 ["_law_urn_here","_law_kind_here"] f) (G__law_draw:Def P w K mg base CX0 1 "_law_draw" fd ["_law_urn_here","_law_many"] C9) (GD__law_number:Def P w K mg base CX0 2 "_law_number" fl ["_law_urn_here","_law_kind_here"] P4):Def P w K mg base CX0 3 "_law_other" f ["_law_urn_here","_law_kind_here"] Y3:=by
 refine d.ok (N:=["_law_urn_here","_law_kind_here","_law_found"]) ai3 (λvs H Q E ⟨u,kd,h,_⟩=>by rw [h];rfl) (λcdv A outer s H vs Q E hr h=>?_)
 obtain ⟨u,kd,rfl,hu,k⟩:=h;have G__law_number:=GD__law_number
 refine ⟨_,(b9 (h9 (i:=2) ai3.nd rfl (q0z rfl) (c8 G__law_number hr (a8 (pv 0) (a8 (pv 1) b6)) g9))
   (b9 (A4 (j1 R3 (i6 k7 (pv 2) b7 (λ_ _=>rfl)) b7 (i5 _)) (c7 (i7 (j2 (a8 (d2 y0 b7 (c8 G__law_draw hr (a8 (pv 0) (a8 b7 b6)) g9)) (a8 b7 b6))))) m6)
   (c7 (i7 (pv 2))))),?_⟩
 rw [show start ["_law_urn_here","_law_kind_here","_law_found"] [.ref u,.int kd]=[some (.ref u),some (.int kd),none] from rfl]
 simp! [C9]
 refine ⟨u,kd,rfl,hu,λr q H1 sm s1 u1 e1=>?_⟩;refine ⟨r,rfl,_,SqT.of e1,_,at0 q,rfl,B3 (λ_=>?_) (λhn=>?_)⟩
 ·refine ⟨u1,by decide,by decide,λr2 H2 a2 b2 s2 u2=>⟨t9,λl hl=>?_⟩⟩
  have hd:=au1 (n:=1+r2) (d:=1) (by decide) (by simp)
  refine k l (z0b (1+r2) 1) _ ((bi0 (by decide) ⋯ (by decide)).mono (by unfold bK;split <;> decide)) ?_ (s1.trans (s2.trans (c5.x (c5.new hl _) u))) (K1 u2 hl) ?_
  ·intro z
   rw [z] at hd;have:(0:Rat).num=0:=rfl;omega
  ·rw [b8]
   unfold t4;rw [hd.1,hd.2]
 ·refine k r q H1 sm (λz=>hn ?_) s1 u1 e1
  rw [z];rfl
def ak4:Sp:=λvs H Q _ => ∃ u kd most,vs=[.ref u,.int kd,.int most]/\j7 H u/\0<=most/\most<1000/\∀ r xs qs q H',j9 u H H'->j7 H' u->H r=none->H' r=some (.lst xs)->v9 H' xs (qs ++ [q])->(∀ p ∈ qs,BdN (bK kd) p)->BdN (bK kd) q->q ≠ 0->(qs.length:Int)<=most->Q (.ref r) H'
theorem ah7 {f fd fn fo:Addr} (d:Df K mg "_law_drawn_poly" F1 ["_law_urn_here","_law_kind_here","_law_most"] f) (G__law_draw:Def P w K mg base CX0 1 "_law_draw" fd ["_law_urn_here","_law_many"] C9) (GD__law_number:Def P w K mg base CX0 2 "_law_number" fn ["_law_urn_here","_law_kind_here"] P4) (GD__law_other:Def P w K mg base CX0 3 "_law_other" fo ["_law_urn_here","_law_kind_here"] Y3)
  (n_range:mg "range" = none):Def P w K mg base CX0 4 "_law_drawn_poly" f ["_law_urn_here","_law_kind_here","_law_most"] ak4:=by
 refine d.ok (N:=["_law_urn_here","_law_kind_here","_law_most"]) ai9 (λvs H Q E ⟨u,kd,mo,h,_⟩=>by rw [h];rfl) (λcdv A outer s H vs Q E hr h=>?_)
 obtain ⟨u,kd,most,rfl,hu,m0,m1,k⟩:=h;have G__law_number:=GD__law_number;have G__law_other:=GD__law_other;refine ⟨_,(c7 (i7 (d2 aa7 (t5 (Nc:=["_law_urn_here","_law_kind_here","_law_i"]) (caps:=[some 0,some 1,none]) rfl (G3.of (osc:=c6 F1) (N:=["_law_urn_here","_law_kind_here","_law_most"]) (ks:=["_law_urn_here","_law_kind_here"]) rfl rfl rfl rfl (i8 rfl (i8 rfl j8)) (by decide +kernel)) (A8 rfl n_range (a8 (c8 G__law_draw hr (a8 (pv 0) (a8 (d2 y0 (pv 2) b7) b6)) g9) b6)) (λC s₂ H₂ fp pins=>(c9 (i:=2) (show z0q (["_law_urn_here","_law_kind_here","_law_i"]:List Str) by decide +kernel) rfl (q0z rfl) (j0b rfl))) (λC s₂ H₂ fp pins=>(c8 G__law_number hr (a8 (pv 0) (a8 (pv 1) b6)) g9))) (w9 (a8 (c8 G__law_other hr (a8 (pv 0) (a8 (pv 1) b6)) g9) b6))))),?_⟩
 rw [show start ["_law_urn_here","_law_kind_here","_law_most"] [.ref u,.int kd,.int most]=[some (.ref u),some (.int kd),some (.int most)] from rfl]
 simp! [C9]
 refine ⟨hu,⋯,⋯,λr1 H1 a1 b1 s1 u1=>⟨⋯,⋯,λD hD=>?_⟩⟩;have hDu:D ≠ u:=w5 u1 hD
 refine M0 (λi σ H2 => ∃ o,σ=[some (.ref u),some (.int kd),o]/\j9 u H1 H2/\j7 H2 u/\∃ xs qs,H2 D=some (.lst xs)/\v9 H2 xs qs/\qs.length=i/\∀ p ∈ qs,BdN (bK kd) p)
  ⟨_,rfl,c5.x (c5.new hD _) u,K1 u1 hD,[],[],b8,.nil,rfl,by simp⟩ ?_ ?_
 ·rintro i σ H2 hi ⟨o,rfl,s2,u2,xs,qs,e,n,hl,hs⟩
  subst_eqs
  refine ⟨u,kd,rfl,u2,λrn q H3 sq s3 u3 e3=>?_⟩;have e4:=s3 D _ e hDu;refine m8.mk hi e4 (by rw [n.length,hl];exact q0b (show i<1000 by omega) (by decide)) ?_
  refine ⟨_,rfl,(s2.trans s3).over hD _,u3.other hDu,_,b8,qs ++ [q],((n.mono (s3.tups u2)).append (.cons e3 .nil)).mono (V5.lst e4),by simp [hl],λp hp=>?_⟩
  rcases z0r.mp hp with z | z
  ·exact hs p z
  ·rw [q0u.mp z];exact sq
 ·rintro σ H2 ⟨o,rfl,s2,u2,xs,qs,e,n,hl,hs⟩
  subst_eqs
  refine ⟨u,kd,rfl,u2,λro q H3 sq q0 s3 u3 e3=>⟨by decide,λp hp=>?_⟩⟩
  have e4:=s3 D _ e hDu;have pD:D ≠ p:=d5 e4 hp;refine ⟨_,(by rw [d4 pD];exact e4),_,b8,?_,λp2 hp2=>?_⟩
  ·rw [n.length,hl]
   exact q0q (show r1.toNat+1<=1001 by omega) (by decide)
  ·have hp3:=aY3 hp2
   have sx:j9 u H H3:=s1.trans (s2.trans s3);refine k p2 _ qs q _ ((sx.trans (c5.x (c5.new hp _) u)).trans (c5.x (c5.new hp2 _) u)) (K1 (K1 u3 hp) hp2) (sx.free u3 hp3) b8 ?_ hs sq q0 ⋯;exact (((n.mono (s3.tups u2)).append (.cons e3 .nil)).mono (V5.new hp)).mono (V5.new hp2)
theorem aX3 {B W w:Nat} {x q:Rat} (h:OvB B W x) (hq:BdN w q) (q0:q ≠ 0):OvB (B*q.num.natAbs) (W+w) (x / q):=by
 obtain ⟨v,rfl,b⟩:=h;have qn:q.num ≠ 0:=λz=>q0 (ab8.mp z);refine ⟨v*(q.den:Int)*q.num.sign,?_,?_⟩
 ·have e:q=z0b q.num q.den:=(z0h q).symm
  have n1:(q.num.natAbs:Int)=q.num*q.num.sign:=by
   have:=Int.mul_sign_self q.num;rw [this]
  have s0:q.num.sign ≠ 0:=λz=>qn (Int.sign_eq_zero_iff_zero.mp z);rw [j0m,n1]
  conv=>lhs;rw [e,z0z,Rat.inv_divInt,y0s]
  rw [show (B:Int)*(q.num*q.num.sign)=(B:Int)*q.num*q.num.sign by rw [m0s],m0q s0]
 ·rw [z0j,z0j,q0y,Int.natAbs_sign_of_ne_zero qn,Nat.mul_one,z0p]
  exact z0g b hq.d
theorem M4.up {B W C c:Nat} {M:List (List Rat)} (h:M4 B W M) (hC:0<C) (hc:C<2 ^ c):M4 (B*C) (W+c) M:=⟨h.n7,z0s h.B0 hC,by rw [z0p];exact z0g h.BW hc,λL hL=>⟨(h.row L hL).1,λq hq=>((h.row L hL).2 q hq).up h.B0 hC hc⟩⟩
theorem M4.mono {B V' W:Nat} {M:List (List Rat)} (h:M4 B V' M) (l:V'<=W):M4 B W M:=⟨h.n7,h.B0,q0b h.BW (d7 l),λL hL=>⟨(h.row L hL).1,λq hq=>((h.row L hL).2 q hq).mono l⟩⟩
theorem M4.setRM {B V' W:Nat} {M:List (List Rat)} (h:M4 B V' M) {i:Nat} {L':List Rat} (l:L'.length=M.length) (r:∀ q ∈ L',OvB B W q) (hw:V'<=W):M4 B W (M.set i L'):=⟨by rw [y0f];exact h.n7,h.B0,q0b h.BW (d7 hw),λL hL=>by
 rw [y0f];rcases j0g hL with z | rfl
 ·exact ⟨(h.row L z).1,λq hq=>((h.row L z).2 q hq).mono hw⟩
 ·exact ⟨l,r⟩⟩
theorem aI5 {H:Hp} {p:Addr} (o:HO) (h:H p=none):∃ H',H'=upd H p o/\c5 H H'/\H' p=some o:=⟨_,rfl,c5.new h o,b8⟩
theorem M4.setR {B W:Nat} {M:List (List Rat)} (h:M4 B W M) {i:Nat} {L':List Rat} (l:L'.length=M.length) (r:∀ q ∈ L',OvB B W q):M4 B W (M.set i L'):=⟨by rw [y0f];exact h.n7,h.B0,h.BW,λL hL=>by
 rw [y0f];rcases j0g hL with z | rfl
 ·exact h.row L z
 ·exact ⟨l,r⟩⟩
def ak9 (k:Nat) (x:Rat) (L:List Rat):List Rat:=L.take k ++ [x] ++ L.drop (k+1)
theorem bd3 {k:Nat} {x:Rat} {L:List Rat} (h:k<L.length):(ak9 k x L).length=L.length:=by
 unfold ak9;rw [j0a,j0a,z0f,v0m,j0u];omega
theorem bj8 {B W k:Nat} {x:Rat} {L:List Rat} (h:∀ q ∈ L,OvB B W q) (hx:OvB B W x):∀ q ∈ ak9 k x L,OvB B W q:=λq hq=>by
 unfold ak9 at hq;rcases z0r.mp hq with z | z
 ·rcases z0r.mp z with z | z
  ·exact h q (u0t z)
  ·rw [q0u.mp z];exact hx
 ·exact h q (m0p z)
theorem M4.put {B W C V':Nat} {M:List (List Rat)} (h:M4 B W M) {k:Nat} (hk:k<M.length) (f:List Rat->Rat) (B0:0<C) (BV:C<2 ^ V') (hl:∀ L ∈ M,∀ q ∈ L,OvB C V' q) (hf:∀ L ∈ M,OvB C V' (f L)):M4 C V' (M.map λL=>ak9 k (f L) L):=⟨by rw [q0g];exact h.n7,B0,BV,λL hL=>by
 obtain ⟨L0,h0,rfl⟩:=j0q.mp hL;have l:=(h.row L0 h0).1;exact ⟨by rw [bd3 ⋯,q0g,l],bj8 (hl L0 h0) (hf L0 h0)⟩⟩
theorem Q9 {L:List Rat} {k:Nat} (h:k<L.length):aQ L k ∈ L:=by
 have e:=q0j (l:=L) (i:=k) h;unfold aQ;rw [e];exact q0v e
theorem av7 {L:List Rat} {k:Nat} (h:k<L.length):L[k]? = some (aQ L k):=by
 have e:=q0j (l:=L) (i:=k) h;unfold aQ;rw [e];rfl
structure V3 (u:Addr) (H:Hp) (l:Addr) (us:List Addr) (M:List (List Rat)) (H3:Hp):Prop where
 same:j9 u H H3
 urn:j7 H3 u
 fr:H l=none
 lu:l ≠ u
 at':H3 l=some (.lst (us.map V.ref))
 nl:l ∉ us
 nu:∀ t ∈ us,t ≠ u
 nf:∀ t ∈ us,H t=none
 rws:Rws H3 us M
theorem V3.x {u l:Addr} {H H3 H4:Hp} {us:List Addr} {M:List (List Rat)} (d:V3 u H l us M H3) (s:j9 u H3 H4) (hu:j7 H4 u):V3 u H l us M H4:=⟨d.same.trans s,hu,d.fr,d.lu,s _ _ d.at' d.lu,d.nl,d.nu,d.nf,d.rws.samex s d.urn d.nu⟩
theorem V3.s {u l:Addr} {H H3 H4:Hp} {us:List Addr} {M:List (List Rat)} (d:V3 u H l us M H3) (s:c5 H3 H4):V3 u H l us M H4:=d.x (c5.x s u) (c5.urn s d.urn)
theorem V3.put {u l:Addr} {H H3:Hp} {us:List Addr} {M:List (List Rat)} (d:V3 u H l us M H3) (i:Nat) {D:Addr} {zs:List V} {L':List Rat} (eD:H3 D=some (.lst zs)) (nD:v9 H3 zs L') (dl:D ≠ l) (du:D ≠ u) (df:H D=none):V3 u H l (us.set i D) (M.set i L') (upd H3 l (.lst ((us.map V.ref).set i (V.ref D)))):=by
 have nl:l ∉ us.set i D:=λz=>by
  rcases j0g z with z | z
  ·exact d.nl z
  ·exact dl z.symm
 refine ⟨λb o h n=>?_,d.urn.other d.lu,d.fr,d.lu,by rw [b8,List.map_set],nl,λt ht=>?_,λt ht=>?_,(d.rws.setN i eD nD).over d.at' nl⟩
 ·rw [d4 (d5 h d.fr)]
  exact d.same _ _ h n
 ·rcases j0g ht with z | z
  ·exact d.nu t z
  ·rw [z];exact du
 ·rcases j0g ht with z | z
  ·exact d.nf t z
  ·rw [z];exact df
theorem V3.made {u l D:Addr} {H H3 H4:Hp} {us:List Addr} {M N:List (List Rat)} (d:V3 u H l us M H3) (hD:H3 D=none) (t:F8 H3 D N H4):∃ vs,V3 u H D vs N H4:=by
 obtain ⟨s,ts,e,fr,nd,R⟩:=t;exact ⟨ts,d.same.trans (c5.x s u),c5.urn s d.urn,d.same.free d.urn hD,w5 d.urn hD,e,λz=>(fr D z).2 rfl,λt ht=>w5 d.urn (fr t ht).1,λt ht=>d.same.free d.urn (fr t ht).1,R⟩
theorem V3.row {u l:Addr} {H H3:Hp} {us:List Addr} {M:List (List Rat)} (d:V3 u H l us M H3) {i:Nat} (hi:i<M.length):∃ p xs L,us[i]? = some p/\(us.map V.ref)[i]? = some (.ref p)/\M[i]? = some L/\H3 p=some (.lst xs)/\v9 H3 xs L:=by
 obtain ⟨p,hp⟩:∃ p,us[i]? = some p:=⟨_,q0j (by rw [d.rws.length];exact hi)⟩
 obtain ⟨xs,L,a,b,c⟩:=d.rws.get hp;exact ⟨p,xs,L,hp,by rw [z0c,hp];rfl,a,b,c⟩
theorem bq3 {qa D:Addr} {ts:List Addr} {M:List (List Rat)} {H1:Hp} {Q:VK} (hA:H1 qa=some (.lst (ts.map V.ref))) (R:Rws H1 ts M) (hD:H1 D=none) (hl:M.length<=50) (k:∀ H2,F8 H1 D M H2->Q (.ref D) H2):V7 (Itl K qa) D [none] (upd H1 D (.lst [])) (l9 0) (tCB (aL8 K) (J1 (G2 0) ae4)) Q:=by
 refine C4 (ts.map V.ref) (λj σ H3 => ∃ o,σ=[o]/\F8 H1 D (M.take j) H3) ⟨_,rfl,F8.start hD⟩ (λj σ H3 _ ⟨o,_,T⟩=>SqL.of (T.same _ _ hA)) ?_ ?_
 ·rintro j x σ H3 hx ⟨o,rfl,T⟩
  have hj:=(q0f.mp hx).1;obtain ⟨pr,hpr,rfl⟩:=F2 hx;obtain ⟨ys,Lr,hLr,er,nr⟩:=R.get hpr
  subst_eqs
  refine ⟨ys,.inl (SqL.of (T.same _ _ er)),λl hl'=>?_⟩;obtain ⟨ys',eD,yl,T'⟩:=T.add hD hl' ⟨c5.new hl' (.lst ys),ys,b8,(nr.mono T.same.tups).mono (c5.new hl' _).tups⟩;refine m8.mk hj eD (p9 (by rw [yl,z0f];omega)) ⟨_,rfl,?_⟩
  rw [d6 hLr];exact T'
 ·rintro σ H3 ⟨o,rfl,T⟩
  rw [n9 (by rw [q0g,R.length];exact q0h _)] at T
  exact k H3 T
theorem aH7 {t p r:Addr} {xs:List V} {L:List Rat} {j:Nat} {y:Rat} {H1:Hp} {G:V->Hp->Prop} (e1:H1 p=some (.lst (xs.take j))) (et:H1 t=some (.lst xs)) (nt:v9 H1 xs L) (er:H1 r=some (.tup (t4 y))) (hj:j<L.length) (l7:L.length<=7)
  (k:∀ r' zs H5,c5 H1 H5->H1 r'=none->H5 r'=some (.lst zs)->v9 H5 zs (ak9 j y L)->G (.ref r') H5):0+1<=sizeLine/\∀ p1,H1 p1=none->∃ x5,upd H1 p1 (.lst [.ref r]) p=some (.lst x5)/\∃ x6,upd H1 p1 (.lst [.ref r]) p1=some (.lst x6)/\x5.length+x6.length<=sizeLine/\∀ p2,upd H1 p1 (.lst [.ref r]) p2=none->∃ x7,SqL K (upd (upd H1 p1 (.lst [.ref r])) p2 (.lst (x5 ++ x6))) t x7/\∀ p3,upd (upd H1 p1 (.lst [.ref r])) p2 (.lst (x5 ++ x6)) p3=none->∃ x8,upd (upd (upd H1 p1 (.lst [.ref r])) p2 (.lst (x5 ++ x6))) p3 (.lst (af7 x7 (some ((j:Int)+1)) none)) p2=some (.lst x8)/\∃ x9,upd (upd (upd H1 p1 (.lst [.ref r])) p2 (.lst (x5 ++ x6))) p3 (.lst (af7 x7 (some ((j:Int)+1)) none)) p3=some (.lst x9)/\x8.length+x9.length<=sizeLine/\∀ p4,upd (upd (upd H1 p1 (.lst [.ref r])) p2 (.lst (x5 ++ x6))) p3 (.lst (af7 x7 (some ((j:Int)+1)) none)) p4=none->G (.ref p4) (upd (upd (upd (upd H1 p1 (.lst [.ref r])) p2 (.lst (x5 ++ x6))) p3 (.lst (af7 x7 (some ((j:Int)+1)) none))) p4 (.lst (x8 ++ x9))):=by
 have lx:=nt.length;refine ⟨by decide,λp1 f1=>?_⟩
 have S1:=c5.new f1 (.lst [.ref r]);refine ⟨_,S1 _ _ e1,_,b8,q0q (m:=100) (by rw [z0f,j0u];omega) (by decide),λp2 f2=>?_⟩
 have S2:=c5.new f2 (.lst (xs.take j ++ [.ref r]));have S12:=S1.trans S2;refine ⟨xs,SqL.of (S12 _ _ et),λp3 f3=>?_⟩;rw [show ((j:Int)+1)=((j+1:Nat):Int) from rfl,bb5 xs ⋯];have S3:=c5.new f3 (.lst (xs.drop (j+1)));refine ⟨_,S3 _ _ b8,_,b8,q0q (m:=100) (by rw [j0a,z0f,j0u,v0m];omega) (by decide),λp4 f4=>?_⟩
 have S4:=c5.new f4 (.lst (xs.take j ++ [.ref r] ++ xs.drop (j+1)));have S:=S12.trans (S3.trans S4);exact k p4 _ _ S ((S12.trans S3).free f4) b8 ((((nt.take j).append (.cons er .nil)).append (nt.drop (j+1))).mono S.tups)
theorem bg3 {u l po D : Addr} {H H9 : Hp} {us : List Addr} {N : List (List Rat)} {n i j C W : Nat} {q : Rat} {Q : VK} (d : V3 u H l us N H9) (epo : H9 po = some (.tup (t4 q))) (bq : BdN 4 q) (hD : H9 D = none) (lN : N.length = n) (oN : M4 C W N) (hW : W ≤ 1000) (hi : i < n) (hj : j < n) (k : ∀ H', F8 H9 D (N.map fun L => ak9 j (aQ L j - q * aQ L i) L) H' → Q (.ref D) H') : V7 (Itl K l) D [some (.ref po), some (.int (j : Int)), some (.int (i : Int)), none] (upd H9 D (.lst [])) (l9 3)
    (tOp aD6 (tOp aD6 (tSl (ak8 K) (G2 3) V8 (ak2 (G2 1))) (aR8 (J1 (ar8 (B8 K λx1 x2=>x1-x2) E0 (J1 (tOp (ae3 K) (G2 3) (G2 1)) (J1 (ar8 (B8 K λx1 x2=>x1*x2) E0 (J1 (G2 0) (J1 (tOp (ae3 K) (G2 3) (G2 2)) ae4))) ae4))) ae4))) (tSl (ak8 K) (G2 3) (ak2 (tOp (rI0 λi j=>V.int (i+j)) (G2 1) (tC (V.int 1)))) V8)) Q:=by
  have n7:=oN.n7;refine C4 (us.map V.ref) (λy σ H3 => ∃ o,σ=[some (.ref po),some (.int (j:Int)),some (.int (i:Int)),o]/\F8 H9 D ((N.map λL=>ak9 j (aQ L j-q*aQ L i) L).take y) H3) ⟨_,rfl,F8.start hD⟩ (λj σ H3 _ ⟨o,_,T⟩=>SqL.of (T.same _ _ d.at')) ?_ ?_
  · rintro y x σ H3 hx ⟨o,rfl,T⟩
    have hy:=(List.getElem?_eq_some_iff.mp hx).1;obtain ⟨t,ht,rfl⟩:=F2 hx;obtain ⟨xs,L,hL,et,nt⟩:=d.rws.get ht;have hLm:=oN.bd L (List.mem_of_getElem? hL);have lx:=nt.length;have lL:=hLm.1
    subst_eqs
    have S3:=T.same;have bi:=hLm.2 _ (Q9 (L:=L) (k:=i) ⋯);have bj:=hLm.2 _ (Q9 (L:=L) (k:=j) ⋯);obtain ⟨pi,gi,ei⟩:=nt.get (av7 (L:=L) (k:=i) ⋯);obtain ⟨pj,gj,ej⟩:=nt.get (av7 (L:=L) (k:=j) ⋯);refine ⟨xs,SqL.of (S3 _ _ et),λp fp=>?_⟩;rw [ac1 xs ⋯];have Sp:=c5.new fp (.lst (xs.take j));have S4:=S3.trans Sp;refine ⟨_,SqL.of (S4 _ _ et),_,p7 gj,_,SqL.of (S4 _ _ et),_,p7 gi,_,_,q,aQ L i,4,W,rfl,⟨_,rfl,SqT.of (S4 _ _ epo)⟩,⟨_,rfl,SqT.of (S4 _ _ ei)⟩,bq.t (by decide),bi.t ⋯,⋯,λr1 H5 s5 e5=>?_⟩
    have S5:=S4.trans s5;refine ⟨_,_,aQ L j,q*aQ L i,W,4+W,rfl,⟨_,rfl,SqT.of (S5 _ _ ej)⟩,⟨_,rfl,SqT.of e5⟩,bj.t ⋯,(bq.mul bi).t ⋯,⋯,λr2 H6 s6 e6=>?_⟩;have S6:=S5.trans s6;refine aH7 (s6 _ _ (s5 _ _ b8)) (S6 _ _ et) (nt.mono S6.tups) e6 ⋯ ⋯ λr' zs H7 s7 f7 e7 n7'=>?_;obtain ⟨ys',eD,yl,T'⟩:=T.add hD ((Sp.trans (s5.trans s6)).free f7) ⟨Sp.trans (s5.trans (s6.trans s7)),zs,e7,n7'⟩;refine m8.mk hy eD (p9 (by rw [yl,List.length_take,List.length_map];omega)) ⟨_,rfl,?_⟩
    rw [d6 (l:=N.map λL=>ak9 j (aQ L j-q*aQ L i) L) (x:=ak9 j (aQ L j-q*aQ L i) L) (by rw [List.getElem?_map,hL];rfl)]
    exact T'
  · rintro σ H3 ⟨o,rfl,T⟩
    rw [n9 (by rw [List.length_map,List.length_map,d.rws.length];exact Nat.le_refl _)] at T
    exact k H3 T
theorem bg2 {u l po D : Addr} {H H9 : Hp} {us : List Addr} {N : List (List Rat)} {n i C W : Nat} {q : Rat} {Q : VK} (d : V3 u H l us N H9) (epo : H9 po = some (.tup (t4 q))) (bq : BdN 4 q) (q0 : q ≠ 0) (hD : H9 D = none) (lN : N.length = n) (oN : M4 C W N) (hW : W ≤ 1000) (hi : i < n) (k : ∀ H', F8 H9 D (N.map fun L => ak9 i (aQ L i / q) L) H' → Q (.ref D) H') : V7 (Itl K l) D [some (.ref po), some (.int (i : Int)), none] (upd H9 D (.lst [])) (l9 2)
    (tOp aD6 (tOp aD6 (tSl (ak8 K) (G2 2) V8 (ak2 (G2 1))) (aR8 (J1 (ar8 (Y8 K) E0 (J1 (tOp (ae3 K) (G2 2) (G2 1)) (J1 (G2 0) ae4))) ae4))) (tSl (ak8 K) (G2 2) (ak2 (tOp (rI0 λi j=>V.int (i+j)) (G2 1) (tC (V.int 1)))) V8)) Q:=by
  have n7:=oN.n7;refine C4 (us.map V.ref) (λy σ H3 => ∃ o,σ=[some (.ref po),some (.int (i:Int)),o]/\F8 H9 D ((N.map λL=>ak9 i (aQ L i / q) L).take y) H3) ⟨_,rfl,F8.start hD⟩ (λj σ H3 _ ⟨o,_,T⟩=>SqL.of (T.same _ _ d.at')) ?_ ?_
  · rintro y x σ H3 hx ⟨o,rfl,T⟩
    have hy:=(List.getElem?_eq_some_iff.mp hx).1;obtain ⟨t,ht,rfl⟩:=F2 hx;obtain ⟨xs,L,hL,et,nt⟩:=d.rws.get ht;have hLm:=oN.bd L (List.mem_of_getElem? hL);have lx:=nt.length;have lL:=hLm.1
    subst_eqs
    have S3:=T.same;have bi:=hLm.2 _ (Q9 (L:=L) (k:=i) ⋯);obtain ⟨pi,gi,ei⟩:=nt.get (av7 (L:=L) (k:=i) ⋯);refine ⟨xs,SqL.of (S3 _ _ et),λp fp=>?_⟩;rw [ac1 xs ⋯];have Sp:=c5.new fp (.lst (xs.take i));have S4:=S3.trans Sp;refine ⟨_,SqL.of (S4 _ _ et),_,p7 gi,_,_,aQ L i,q,W,4,rfl,⟨_,rfl,SqT.of (S4 _ _ ei)⟩,⟨_,rfl,SqT.of (S4 _ _ epo)⟩,bi.t ⋯,q0,bq.n,Nat.lt_of_lt_of_le bq.d (d7 (by decide)),⋯,λr2 H6 s6 e6=>?_⟩
    have S6:=S4.trans s6;refine aH7 (s6 _ _ b8) (S6 _ _ et) (nt.mono S6.tups) e6 ⋯ ⋯ λr' zs H7 s7 f7 e7 n7'=>?_;obtain ⟨ys',eD,yl,T'⟩:=T.add hD ((Sp.trans s6).free f7) ⟨Sp.trans (s6.trans s7),zs,e7,n7'⟩;refine m8.mk hy eD (p9 (by rw [yl,List.length_take,List.length_map];omega)) ⟨_,rfl,?_⟩
    rw [d6 (l:=N.map λL=>ak9 i (aQ L i / q) L) (x:=ak9 i (aQ L i / q) L) (by rw [List.getElem?_map,hL];rfl)]
    exact T'
  · rintro σ H3 ⟨o,rfl,T⟩
    rw [n9 (by rw [List.length_map,List.length_map,d.rws.length];exact Nat.le_refl _)] at T
    exact k H3 T
def am8 (K:q0a):Sp:=λvs H Q _ => ∃ (u a:Addr) (ts:List Addr) (M:List (List Rat)) (B n:Nat),vs=[.ref u,.int 0,.ref a,.int 4]/\j7 H u/\TbX u H a ts M/\M.length=n/\1<=n/\n<=4/\M4 B 80 M/\∀ r us N C H',V3 u H r us N H'->N.length=n->M4 C 120 N->Q (.ref r) H'
abbrev t6:Stmt:=top 69
theorem n8:i9 ["_law_urn_here","_law_kind_here","_law_table","_law_most","_law_rows","_law_n","_law_step","_law_i","_law_j","_law_way","_law_often","_law_order"] ["_law_urn_here","_law_kind_here","_law_table","_law_most"] (c6 t6):=by and_intros
theorem aq5 {f f1 f2 f3 f4 f5 f6:Addr} (d:Df K mg "_law_likened" t6 ["_law_urn_here","_law_kind_here","_law_table","_law_most"] f) (G__law_draw:Def P w K mg base CX0 1 "_law_draw" f1 ["_law_urn_here","_law_many"] C9) (GD__law_other:Def P w K mg base CX0 3 "_law_other" f2 ["_law_urn_here","_law_kind_here"] Y3) (G__law_plus:Def P w K mg base CX0 2 "_law_plus" f3 ["_law_one","_law_other_here"] (B8 K (· + ·))) (G__law_times:Def P w K mg base CX0 2 "_law_times" f4 ["_law_one","_law_other_here"] (B8 K (· * ·))) (G__law_less:Def P w K mg base CX0 2 "_law_less" f5 ["_law_one","_law_other_here"] (B8 K (· - ·))) (G__law_over:Def P w K mg base CX0 2 "_law_over" f6 ["_law_one","_law_other_here"] (Y8 K)) (n_len:mg "len" = none) (n_range:mg "range" = none) (n_list:mg "list" = none) (n_max:mg "max" = none) (n_zip:mg "zip" = none) (n_int:mg "int" = none):Def P w K mg base CX0 7 "_law_likened" f ["_law_urn_here","_law_kind_here","_law_table","_law_most"] (am8 K):=by
  refine d.ok (N:=["_law_urn_here","_law_kind_here","_law_table","_law_most","_law_rows","_law_n","_law_step","_law_i","_law_j","_law_way","_law_often","_law_order"]) n8 (by rintro vs H Q E ⟨_,_,_,_,_,_,h,_⟩;rw [h];rfl) (λcdv A outer s H vs Q E hr h=>?_)
  obtain ⟨u,a,ts,M,B,n,rfl,hU,T0,lM,n1,n4,oM,k⟩:=h;have G__law_other:=GD__law_other
  refine ⟨_, (b9 (ad2 (i₀ := 4) n8.nd rfl (Or.inl rfl) (Nc := ["_law_row"]) (caps := [none]) rfl (G3.of (osc := c6 t6) (N := ["_law_urn_here", "_law_kind_here", "_law_table", "_law_most", "_law_rows", "_law_n", "_law_step", "_law_i", "_law_j", "_law_way", "_law_often", "_law_order"]) (ks := []) rfl rfl rfl rfl j8 (by decide +kernel)) (z9 (pv 2)) (fun C s₂ H₂ fp pins => (c9 (i := 0) (show List.Nodup (["_law_row"] : List Str) by decide +kernel) rfl (Or.inl rfl) (Or.inr rfl))) (fun C s₂ H₂ fp pins => (p5 (by exact C5 : Y6 _ (.type "list") (aL8 K)) rfl n_list (by decide +kernel) (a8 (pv 0) b6))))
      (b9 (h9 (i:=5) n8.nd rfl (Or.inl rfl) (g8 j5 rfl n_len (by decide +kernel) (a8 (pv 4) b6)))
      (b9 (Y4 PassesOwn.never rfl (A8 rfl n_range (a8 (c8 G__law_draw hr (a8 (pv 0) (a8 (d2 y0 (pv 3) b7) b6)) g9) b6)) (c9 (i:=6) n8.nd rfl (Or.inl rfl)) (b9 (h9 (i:=7) n8.nd rfl (Or.inr rfl) (c8 G__law_draw hr (a8 (pv 0) (a8 (pv 5) b6)) g9))
      (b9 (h9 (i:=8) n8.nd rfl (Or.inr rfl) (d2 P0 (d2 y0 (d2 y0 (pv 7) b7) (c8 G__law_draw hr (a8 (pv 0) (a8 (g8 (aU3 rfl) rfl n_max (by decide +kernel) (a8 b7 (a8 (d2 G8 (pv 5) b7) b6))) b6)) g9)) (pv 5)))
      (b9 (h9 (i:=9) n8.nd rfl (Or.inl rfl) (c8 G__law_draw hr (a8 (pv 0) (a8 b7 b6)) g9))
      (b9 (h9 (i:=10) n8.nd rfl (Or.inr rfl) (c8 G__law_other hr (a8 (pv 0) (a8 (pv 1) b6)) g9))
      (c7 (A4 (PW.pt (aD9 (j1 ab6 (pv 9) b7 (i5 _)) (ar0 (j1 al3 (pv 7) (pv 8) (i5 _))))) (b9 (E5 (t5 (Nc:=["_law_often","_law_a","_law_b"]) (caps:=[some 10,none,none]) rfl (G3.of (osc:=c6 t6) (N:=["_law_urn_here","_law_kind_here","_law_table","_law_most","_law_rows","_law_n","_law_step","_law_i","_law_j","_law_way","_law_often","_law_order"]) (ks:=["_law_often"]) rfl rfl rfl rfl (i8 rfl j8) (by decide +kernel)) (aM3 rfl n_zip (a8 (i6 j3 (pv 4) (pv 7) (λ_ _=>rfl)) (a8 (i6 j3 (pv 4) (pv 8) (λ_ _=>rfl)) b6))) (λC s₂ H₂ fp pins=>(show PG _ _ (T6 K 2 (r6 (l9 1) (r6 (l9 2) T9))) from by (refine C2 (n:=2) ?_ ?_ ?_ ?_;rfl;(refine i4 ?_ ?_ ?_;(exact (c9 (i:=1) (show List.Nodup (["_law_often","_law_a","_law_b"]:List Str) by decide +kernel) rfl (Or.inl rfl) (Or.inr rfl)));(refine i4 ?_ ?_ ?_;(exact (c9 (i:=2) (show List.Nodup (["_law_often","_law_a","_law_b"]:List Str) by decide +kernel) rfl (Or.inl rfl) (Or.inr rfl)));(exact y3);rfl);rfl);rfl;rfl))) (λC s₂ H₂ fp pins=>(c8 G__law_plus hr (a8 (pv 1) (a8 (c8 G__law_times hr (a8 (pv 0) (a8 (pv 2) b6)) g9) b6)) g9))) (P2 (pv 4) (pv 7) E1))
      (c7 (ad2 (i₀:=4) n8.nd rfl (Or.inl rfl) (Nc:=["_law_often","_law_j","_law_i","_law_row"]) (caps:=[some 10,some 8,some 7,none]) rfl (G3.of (osc:=c6 t6) (N:=["_law_urn_here","_law_kind_here","_law_table","_law_most","_law_rows","_law_n","_law_step","_law_i","_law_j","_law_way","_law_often","_law_order"]) (ks:=["_law_often","_law_j","_law_i"]) rfl rfl rfl rfl (i8 rfl (i8 rfl (i8 rfl j8))) (by decide +kernel)) (z9 (pv 4)) (λC s₂ H₂ fp pins=>(c9 (i:=3) (show List.Nodup (["_law_often","_law_j","_law_i","_law_row"]:List Str) by decide +kernel) rfl (Or.inl rfl) (Or.inr rfl))) (λC s₂ H₂ fp pins=>(d2 aa7 (d2 aa7 (Q3 (by exact W3:SlR _ (ak8 K)) (pv 3) U5 (Q0 (pv 1))) (w9 (a8 (c8 G__law_less hr (a8 (i6 (by exact j3:IxR _ (ae3 K)) (pv 3) (pv 1) (λ_ _=>rfl)) (a8 (c8 G__law_times hr (a8 (pv 0) (a8 (i6 (by exact j3:IxR _ (ae3 K)) (pv 3) (pv 2) (λ_ _=>rfl)) b6)) g9) b6)) g9) b6))) (Q3 (by exact W3:SlR _ (ak8 K)) (pv 3) (Q0 (d2 y0 (pv 1) b7)) U5)))))) (c7 (A4 (j1 R3 (pv 9) b7 (i5 _)) (b9 (E5 (j2 (a8 (i6 j3 (pv 4) (pv 8) (λ_ _=>rfl)) (a8 (i6 j3 (pv 4) (pv 7) (λ_ _=>rfl)) b6))) (show PG _ _ (T6 K 2 (r6 (aN0 _ _ as5) (r6 (aN0 _ _ as5) T9))) from by (refine C2 (n:=2) ?_ ?_ ?_ ?_;rfl;(refine i4 ?_ ?_ ?_;(exact (P2 (pv 4) (pv 7) E1));(refine i4 ?_ ?_ ?_;(exact (P2 (pv 4) (pv 8) E1));(exact y3);rfl);rfl);rfl;rfl)))
      (b9 (h9 (i:=11) n8.nd rfl (Or.inr rfl) (t5 (Nc:=["_law_j","_law_i","_law_k"]) (caps:=[some 8,some 7,none]) rfl (G3.of (osc:=c6 t6) (N:=["_law_urn_here","_law_kind_here","_law_table","_law_most","_law_rows","_law_n","_law_step","_law_i","_law_j","_law_way","_law_often","_law_order"]) (ks:=["_law_j","_law_i"]) rfl rfl rfl rfl (i8 rfl (i8 rfl j8)) (by decide +kernel)) (A8 rfl n_range (a8 (pv 5) b6)) (λC s₂ H₂ fp pins=>(c9 (i:=2) (show List.Nodup (["_law_j","_law_i","_law_k"]:List Str) by decide +kernel) rfl (Or.inl rfl) (Or.inr rfl))) (λC s₂ H₂ fp pins=>(i6 (by exact j3:IxR _ (ae3 K)) (w9 (a8 (pv 2) (a8 (pv 0) (a8 (pv 1) b6)))) (d2 y0 (p5 C8 rfl n_int (by decide +kernel) (a8 (y4 R3 (pv 2) (pv 1) (i5 _)) b6)) (d2 t3 b7 (p5 C8 rfl n_int (by decide +kernel) (a8 (an2 (y4 R3 (pv 2) (pv 0) (i5 _)) (as8 (y4 al3 (pv 1) (pv 0) (i5 _)))) b6)))) (λ_ _=>rfl)))))
      (c7 (ae8 (i₀:=4) n8.nd rfl (Or.inl rfl) (Nc:=["_law_order","_law_row"]) (caps:=[some 11,none]) rfl (ag0.of (osc:=c6 t6) (N:=["_law_urn_here","_law_kind_here","_law_table","_law_most","_law_rows","_law_n","_law_step","_law_i","_law_j","_law_way","_law_often","_law_order"]) (ks:=["_law_order"]) rfl rfl rfl rfl (i8 rfl j8) (by decide +kernel)) (z9 (pv 4)) (λC s₂ H₂ fp pins=>(c9 (i:=1) (show List.Nodup (["_law_order","_law_row"]:List Str) by decide +kernel) rfl (Or.inr rfl) (Or.inl rfl))) (λC s₂ H₂ fp pins=>(t5 (Nc:=["_law_row","_law_k"]) (caps:=[some 1,none]) rfl (G3.of (osc:=_) (N:=["_law_order","_law_row"]) (ks:=["_law_row"]) rfl rfl rfl rfl (i8 rfl j8) (by kernel_rfl)) (show PI _ _ _ (au6 K _) from by exact (z9 (pv 0))) (λC s₂ H₂ fp pins=>(c9 (i:=1) (show List.Nodup (["_law_row","_law_k"]:List Str) by decide +kernel) rfl (Or.inl rfl) (Or.inr rfl))) (λC s₂ H₂ fp pins=>(i6 (by exact j3:IxR _ (ae3 K)) (pv 0) (pv 1) (λ_ _=>rfl))))))))) (b9 (E5 (t5 (Nc:=["_law_often","_law_a"]) (caps:=[some 10,none]) rfl (G3.of (osc:=c6 t6) (N:=["_law_urn_here","_law_kind_here","_law_table","_law_most","_law_rows","_law_n","_law_step","_law_i","_law_j","_law_way","_law_often","_law_order"]) (ks:=["_law_often"]) rfl rfl rfl rfl (i8 rfl j8) (by decide +kernel)) (z9 (i6 j3 (pv 4) (pv 7) (λ_ _=>rfl))) (λC s₂ H₂ fp pins=>(c9 (i:=1) (show List.Nodup (["_law_often","_law_a"]:List Str) by decide +kernel) rfl (Or.inl rfl) (Or.inr rfl))) (λC s₂ H₂ fp pins=>(c8 G__law_times hr (a8 (pv 0) (a8 (pv 1) b6)) g9))) (P2 (pv 4) (pv 7) E1))
      (c7 (ad2 (i₀:=4) n8.nd rfl (Or.inl rfl) (Nc:=["_law_often","_law_i","_law_row"]) (caps:=[some 10,some 7,none]) rfl (G3.of (osc:=c6 t6) (N:=["_law_urn_here","_law_kind_here","_law_table","_law_most","_law_rows","_law_n","_law_step","_law_i","_law_j","_law_way","_law_often","_law_order"]) (ks:=["_law_often","_law_i"]) rfl rfl rfl rfl (i8 rfl (i8 rfl j8)) (by decide +kernel)) (z9 (pv 4)) (λC s₂ H₂ fp pins=>(c9 (i:=2) (show List.Nodup (["_law_often","_law_i","_law_row"]:List Str) by decide +kernel) rfl (Or.inl rfl) (Or.inr rfl))) (λC s₂ H₂ fp pins=>(d2 aa7 (d2 aa7 (Q3 (by exact W3:SlR _ (ak8 K)) (pv 2) U5 (Q0 (pv 1))) (w9 (a8 (c8 G__law_over hr (a8 (i6 (by exact j3:IxR _ (ae3 K)) (pv 2) (pv 1) (λ_ _=>rfl)) (a8 (pv 0) b6)) g9) b6))) (Q3 (by exact W3:SlR _ (ak8 K)) (pv 2) (Q0 (d2 y0 (pv 1) b7)) U5)))))))))))))))
      (c7 (i7 (pv 4)))))),?_⟩
  rw [show start ["_law_urn_here","_law_kind_here","_law_table","_law_most","_law_rows","_law_n","_law_step","_law_i","_law_j","_law_way","_law_often","_law_order"] [.ref u,.int 0,.ref a,.int 4]=[some (.ref u),some (.int 0),some (.ref a),some (.int 4),none,none,none,none,none,none,none,none] from rfl]
  refine f9 (λσ H1 => ∃ (l:Addr) (us:List Addr),σ=[some (.ref u),some (.int 0),some (.ref a),some (.int 4),some (.ref l),none,none,none,none,none,none,none]/\V3 u H l us M H1) (λN hN=>?_) ?_
  · subst_eqs
    refine ⟨⟨_,SqL.of T0.at'⟩,λD hD=>bq3 T0.at' T0.rws hD ⋯ λH2 T=>?_⟩;obtain ⟨s2,us,e2,n2,_,R2⟩:=T;exact hN _ _ ⟨D,us,rfl,⟨c5.x s2 u,c5.urn s2 hU,hD,w5 hU hD,e2,λz=>(n2 D z).2 rfl,λt ht=>w5 hU (n2 t ht).1,λt ht=>(n2 t ht).1,R2⟩⟩
  rintro σ H1 ⟨l,us,rfl,D1⟩;refine f9 (λσ H2=>H2=H1/\σ=[some (.ref u),some (.int 0),some (.ref a),some (.int 4),some (.ref l),some (.int (n:Int)),none,none,none,none,none,none]) (λN hN=>?_) ?_
  · subst_eqs
    exact ⟨_,.inl (SqL.of D1.at'),hN _ _ ⟨rfl,by rw [List.length_map,D1.rws.length,lM]⟩⟩
  rintro σ H2 ⟨rfl,rfl⟩;obtain ⟨I,hI⟩:∃ I:Nat->L2.St->Hp->Prop,∀ c σ H4,I c σ H4 ↔ ∃ (l:Addr) (us:List Addr) (N:List (List Rat)) (C:Nat) (o6 o7 o8 o9 o10 o11:Option V),σ=[some (.ref u),some (.int 0),some (.ref a),some (.int 4),some (.ref l),some (.int (n:Int)),o6,o7,o8,o9,o10,o11]/\V3 u H l us N H4/\N.length=n/\M4 C (80+10*c) N:=⟨_,λ_ _ _=>Iff.rfl⟩;refine f9 (λσ H4 => ∃ c,c<=4/\I c σ H4) (λN hN=>?_) ?_
  · refine ⟨_,rfl,_,rfl,_,_,rfl,rfl,u,_,rfl,D1.urn,by decide,by decide,λr H4 r0 r9 s4 u4=>⟨r,rfl,⋯,⋯,Y0 I ((hI _ _ _).mpr ⟨l,us,M,B,_,_,_,_,_,_,rfl,D1.x s4 u4,lM,oM⟩) ?_ (λσ H5 h=>hN _ _ ⟨r.toNat,⋯,h⟩)⟩⟩
    rintro c σ H5 hc h;obtain ⟨l,us,N,C,o6,o7,o8,o9,o10,o11,rfl,D5,lN,oN⟩:=(hI _ _ _).mp h;refine f9 (λσ H6 => ∃ (i:Nat),σ=[some (.ref u),some (.int 0),some (.ref a),some (.int 4),some (.ref l),some (.int (n:Int)),some (.int (0+(c:Int))),some (.int (i:Int)),o8,o9,o10,o11]/\j9 u H5 H6/\j7 H6 u/\i<n) (λN hN=>?_) ?_
    · simp! [C9]
      refine ⟨D5.urn,⋯,⋯,λr H6 r0 r1 s6 u6=>?_⟩;obtain ⟨i,rfl⟩:∃ i:Nat,r=(i:Int):=⟨r.toNat,⋯⟩;exact hN _ _ ⟨i,rfl,s6,u6,⋯⟩
    rintro σ H6 ⟨i,rfl,s6,u6,hi⟩;refine f9 (λσ H7 => ∃ (j:Nat),σ=[some (.ref u),some (.int 0),some (.ref a),some (.int 4),some (.ref l),some (.int (n:Int)),some (.int (0+(c:Int))),some (.int (i:Int)),some (.int (j:Int)),o9,o10,o11]/\j9 u H6 H7/\j7 H7 u/\j<n) (λN hN=>?_) ?_
    · simp! [C9]
      refine ⟨u6,?_,?_,λr H7 r0 r1 s7 u7=>⟨⋯,?_⟩⟩
      · split <;> omega
      · split <;> omega
      · have h1:=Int.fmod_nonneg_of_pos ((i:Int)+1+r) (show (0:Int)<(n:Int) by omega)
        have h2:=Int.fmod_lt_of_pos ((i:Int)+1+r) (show (0:Int)<(n:Int) by omega)
        generalize ((i:Int)+1+r).fmod (n:Int)=z at h1 h2 ⊢;obtain ⟨j,rfl⟩:∃ j:Nat,z=(j:Int):=⟨z.toNat,⋯⟩;exact hN _ _ ⟨j,rfl,s7,u7,⋯⟩
    rintro σ H7 ⟨j,rfl,s7,u7,hj⟩;refine f9 (λσ H8 => ∃ (wy:Int),σ=[some (.ref u),some (.int 0),some (.ref a),some (.int 4),some (.ref l),some (.int (n:Int)),some (.int (0+(c:Int))),some (.int (i:Int)),some (.int (j:Int)),some (.int wy),o10,o11]/\j9 u H7 H8/\j7 H8 u) (λN hN=>?_) ?_
    · simp! [C9]
      exact ⟨u7,by decide,by decide,λr H8 r0 r1 s8 u8=>hN _ _ ⟨r,rfl,s8,u8⟩⟩
    rintro σ H8 ⟨wy,rfl,s8,u8⟩;refine f9 (λσ H9 => ∃ (po:Addr) (q:Rat),σ=[some (.ref u),some (.int 0),some (.ref a),some (.int 4),some (.ref l),some (.int (n:Int)),some (.int (0+(c:Int))),some (.int (i:Int)),some (.int (j:Int)),some (.int wy),some (.ref po),o11]/\j9 u H8 H9/\j7 H9 u/\H9 po=some (.tup (t4 q))/\q ≠ 0/\BdN 4 q) (λN hN=>?_) ?_
    · subst_eqs
      exact ⟨u,0,rfl,u8,λr q H9 nk q0 s9 u9 e9=>hN _ _ ⟨r,q,rfl,s9,u9,e9,q0,nk⟩⟩
    rintro σ H9 ⟨po,q,rfl,s9,u9,epo,q0,bq⟩;have D9:=D5.x (((s6.trans s7).trans s8).trans s9) u9;have lus:=D9.rws.length;have W1:80+10*c<=120:=⋯;obtain ⟨pI,xI,LI,uI,gI,mI,eI,nI⟩:=D9.row (i:=i) ⋯;obtain ⟨pJ,xJ,LJ,uJ,gJ,mJ,eJ,nJ⟩:=D9.row (i:=j) ⋯;have rowI:=oN.row LI (List.mem_of_getElem? mI);have rowJ:=oN.row LJ (List.mem_of_getElem? mJ);have bI:=oN.bd LI (List.mem_of_getElem? mI);have bJ:=oN.bd LJ (List.mem_of_getElem? mJ);have lxI:=nI.length;have lxJ:=nJ.length;have d0:0<q.den:=by have:=q.den_nz;omega
    have n0:0<q.num.natAbs:=by
      have:q.num ≠ 0:=λz=>q0 (ab8.mp z);omega
    have oq:OvB q.den 4 q:=⟨q.num,(Rat.num_divInt_den q).symm,bq.n⟩;have lmap:(us.map V.ref).length=n:=by rw [List.length_map];omega
    have pol:po ≠ l:=λz=>by rw [z,D9.at'] at epo;cases epo
    subst_eqs
    have scale:∃ x,SqL K H9 l x/\∃ x_1,atI x (i:Int)=some x_1/\∃ a_1,x_1=V.ref a_1/\(∃ xs,SqL K H9 a_1 xs)/\∀ (D:Addr),H9 D=none->V7 (Itl K a_1) D [some (V.ref po),none] (upd H9 D (HO.lst [])) (l9 1) (ar8 (B8 K λx1 x2=>x1*x2) E0 (J1 (G2 0) (J1 (G2 1) ae4))) λx H1 => ∃ x_2,H1 l=some (HO.lst x_2)/\∃ x_3,ixN x_2.length (i:Int)=some x_3/\(∃ xs,SqL K (upd H1 l (HO.lst (x_2.set x_3 x))) l xs)/\∀ (D:Addr),upd H1 l (HO.lst (x_2.set x_3 x)) D=none->V7 (Itl K l) D [some (V.ref po),some (V.int (i:Int)),none] (upd (upd H1 l (HO.lst (x_2.set x_3 x))) D (HO.lst [])) (l9 2) (tOp aD6 (tOp aD6 (tSl (ak8 K) (G2 2) V8 (ak2 (G2 1))) (aR8 (J1 (ar8 (Y8 K) E0 (J1 (tOp (ae3 K) (G2 2) (G2 1)) (J1 (G2 0) ae4))) ae4))) (tSl (ak8 K) (G2 2) (ak2 (tOp (rI0 λi j=>V.int (i+j)) (G2 1) (tC (V.int 1)))) V8)) λx H1=>I (c+1) [some (V.ref u),some (V.int 0),some (V.ref a),some (V.int 4),some x,some (V.int (n:Int)),some (V.int (0+(c:Int))),some (V.int (i:Int)),some (V.int (j:Int)),some (V.int wy),some (V.ref po),o11] H1:=by
      obtain ⟨NR,hNR⟩:∃ NR,NR=(List.range n).map λy=>q*aQ LI y:=⟨_,rfl⟩;have nl:NR.length=n:=by rw [hNR,List.length_map,List.length_range]
      have nv:∀ y,y<n->NR[y]? = some (q*aQ LI y):=λy hy=>by rw [hNR,List.getElem?_map,List.getElem?_range hy];rfl
      refine ⟨_,SqL.of D9.at',_,p7 gI,_,rfl,⟨_,SqL.of eI⟩,λD hD=>?_⟩;obtain ⟨Pv,hPv⟩:∃ Pv:Nat->L2.St->Hp->Prop,∀ y σ H10,Pv y σ H10 ↔ ∃ (o1:Option V),σ=[some (.ref po),o1]/\M5 H9 D (NR.take y) H10:=⟨_,λ_ _ _=>Iff.rfl⟩;refine C4 xI Pv ((hPv _ _ _).mpr ⟨_,rfl,M5.start hD⟩) (λy σ H10 _ h=>?_) ?_ ?_
      · obtain ⟨_,_,R⟩:=(hPv _ _ _).mp h
        exact SqL.of (R.same _ _ eI)
      · rintro y vx σ H10 hx h
        obtain ⟨o1,rfl,R⟩:=(hPv _ _ _).mp h;have yn:y<n:=by have:=(List.getElem?_eq_some_iff.mp hx).1;omega
        obtain ⟨pa,ga,ha⟩:=nI.get (av7 (L:=LI) (k:=y) ⋯);rw [ga] at hx
        cases hx
        have ba:=bI.2 _ (Q9 (L:=LI) (k:=y) ⋯)
        subst_eqs
        refine ⟨_,_,q,_,4,_,rfl,⟨_,rfl,SqT.of (R.same _ _ epo)⟩,⟨_,rfl,SqT.of (R.same _ _ ha)⟩,bq.t ⋯,ba.t ⋯,⋯,λr1 H12 s12 e12=>?_⟩;obtain ⟨ys,eD,yl,R'⟩:=R.add hD s12 e12;refine m8.mk ⋯ eD (p9 (by rw [yl,List.length_take];omega)) ((hPv _ _ _).mpr ⟨_,rfl,?_⟩)
        rw [d6 (nv y yn)];exact R'
      · intro σ H10 h
        obtain ⟨o1,rfl,R⟩:=(hPv _ _ _).mp h;rw [n9 ⋯] at R;obtain ⟨s10,ys,eD,nD⟩:=R;have D10:=D9.s s10;have Dl:D ≠ l:=(d5 D9.at' hD).symm;have DP:=D10.put i eD nD Dl (w5 D9.urn hD) (D9.same.free D9.urn hD);have o1:=oN.up d0 bq.d
        have oP:M4 (C*q.den) (80+10*c+5) (N.set i NR):=o1.setRM (i:=i) (L':=NR) ⋯ (λx hx=>by
          rw [hNR] at hx;obtain ⟨y,hy,rfl⟩:=List.mem_map.mp hx;have hy:=List.mem_range.mp hy;have a2:=oq.mul (rowI.2 _ (Q9 (L:=LI) (k:=y) ⋯));rw [Nat.mul_comm q.den C,Nat.add_comm 4] at a2;exact a2.mono ⋯) ⋯
        have oU:=oP.up n0 bq.n;refine ⟨_,D10.at',i,V4 (by rw [lmap];exact hi),⟨_,SqL.of DP.at'⟩,λD2 hD2=>bg2 (n:=n) DP (by rw [d4 pol];exact s10 _ _ epo) bq q0 hD2 (by rw [List.length_set,lN]) oP ⋯ hi λH' T=>?_⟩
        obtain ⟨vs,DM⟩:=DP.made hD2 T;refine (hI _ _ _).mpr ⟨D2,vs,_,C*q.den*q.num.natAbs,_,_,_,_,_,_,rfl,DM,by rw [List.length_map,List.length_set,lN],?_⟩
        refine (oP.put (C:=C*q.den*q.num.natAbs) (V':=80+10*(c+1)) (by rw [List.length_set,lN];exact hi) (λL=>aQ L i / q) oU.B0 (Nat.lt_of_lt_of_le oU.BW (d7 ⋯)) (λL hL x hx=>((oU.row L hL).2 x hx).mono ⋯) λL hL=>?_)
        have lL:L.length=n:=by rw [(oP.row L hL).1,List.length_set,lN]
        exact (aX3 ((oP.row L hL).2 _ (Q9 (L:=L) (k:=i) ⋯)) bq q0).mono ⋯
    refine B3 (λh1=>⟨rfl,B3 (λh2=>?_) (λh2=>⟨rfl,B3 (λh3=>absurd h3 ⋯) (λ_=>scale)⟩)⟩) (λh1=>⟨rfl,B3 (λh3=>?_) (λ_=>scale)⟩)
    · have ij:i ≠ j:=λz=>h2 (by rw [z])
      obtain ⟨NR,hNR⟩:∃ NR,NR=(List.range n).map λy=>aQ LI y+q*aQ LJ y:=⟨_,rfl⟩;have nl:NR.length=n:=by rw [hNR,List.length_map,List.length_range]
      have nv:∀ y,y<n->NR[y]? = some (aQ LI y+q*aQ LJ y):=λy hy=>by rw [hNR,List.getElem?_map,List.getElem?_range hy];rfl
      refine ⟨_,SqL.of D9.at',_,p7 gI,_,SqL.of D9.at',_,p7 gJ,_,rfl,_,rfl,⟨_,SqL.of eI⟩,⟨_,SqL.of eJ⟩,λD hD=>?_⟩;have mn:min xI.length xJ.length=n:=⋯;obtain ⟨Pv,hPv⟩:∃ Pv:Nat->L2.St->Hp->Prop,∀ y σ H10,Pv y σ H10 ↔ ∃ (o1 o2:Option V),σ=[some (.ref po),o1,o2]/\M5 H9 D (NR.take y) H10:=⟨_,λ_ _ _=>Iff.rfl⟩;refine aN7 xI xJ Pv ((hPv _ _ _).mpr ⟨_,_,rfl,M5.start hD⟩) (λy σ H10 h=>?_) ?_ ?_
      · obtain ⟨_,_,_,R⟩:=(hPv _ _ _).mp h
        exact ⟨SqL.of (R.same _ _ eI),SqL.of (R.same _ _ eJ)⟩
      · rintro y vx vy σ H10 pp hx hy h hpp
        obtain ⟨o1,o2,rfl,R⟩:=(hPv _ _ _).mp h;have yn:y<n:=by have:=(List.getElem?_eq_some_iff.mp hx).1;omega
        obtain ⟨pa,ga,ha⟩:=nI.get (av7 (L:=LI) (k:=y) ⋯);obtain ⟨pb,gb,hb⟩:=nJ.get (av7 (L:=LJ) (k:=y) ⋯);rw [ga] at hx;rw [gb] at hy
        cases hx
        cases hy
        obtain ⟨H11,y11,X11,g11⟩:=aI5 (.tup [V.ref pa,V.ref pb]) hpp;rw [<- y11];have S:=R.same.trans X11;have ba:=bI.2 _ (Q9 (L:=LI) (k:=y) ⋯);have bj:=bJ.2 _ (Q9 (L:=LJ) (k:=y) ⋯)
        subst_eqs
        refine ⟨_,SqT.of g11,rfl,_,_,rfl,_,_,rfl,rfl,?_⟩;refine ⟨_,_,q,_,4,_,rfl,⟨_,rfl,SqT.of (S _ _ epo)⟩,⟨_,rfl,SqT.of (S _ _ hb)⟩,bq.t ⋯,bj.t ⋯,⋯,λr1 H12 s12 e12=>?_⟩;refine ⟨_,_,_,_,_,_,rfl,⟨_,rfl,SqT.of (s12 _ _ (S _ _ ha))⟩,⟨_,rfl,SqT.of e12⟩,ba.t ⋯,(bq.mul bj).t ⋯,⋯,λr2 H13 s13 e13=>?_⟩;obtain ⟨ys,eD,yl,R'⟩:=R.add hD ((X11.trans s12).trans s13) e13;refine m8.mk (by rw [mn];exact yn) eD (p9 (by rw [yl,List.length_take];omega)) ((hPv _ _ _).mpr ⟨_,_,rfl,?_⟩)
        rw [d6 (nv y yn)];exact R'
      · intro σ H10 h
        obtain ⟨o1,o2,rfl,R⟩:=(hPv _ _ _).mp h;rw [n9 (by rw [mn,nl];exact Nat.le_refl _)] at R
        obtain ⟨s10,ys,eD,nD⟩:=R;have D10:=D9.s s10;have Dl:D ≠ l:=(d5 D9.at' hD).symm;have DP:=D10.put i eD nD Dl (w5 D9.urn hD) (D9.same.free D9.urn hD);have o1:=oN.up d0 bq.d
        have oP:M4 (C*q.den) (80+10*c+5) (N.set i NR):=(o1.mono (Nat.le_refl _)).setRM (i:=i) (L':=NR) ⋯ (λx hx=>by
          rw [hNR] at hx;obtain ⟨y,hy,rfl⟩:=List.mem_map.mp hx;have hy:=List.mem_range.mp hy;have a1:=(rowI.2 _ (Q9 (L:=LI) (k:=y) ⋯)).up oN.B0 d0 bq.d;have a2:=oq.mul (rowJ.2 _ (Q9 (L:=LJ) (k:=y) ⋯));rw [Nat.mul_comm q.den C,Nat.add_comm 4] at a2;exact (OvB.add (Nat.mul_pos oN.B0 d0) a1 a2).mono ⋯) ⋯
        have Cd:=Nat.mul_pos oN.B0 d0;have oU:=oP.up d0 bq.d;refine ⟨_,D10.at',i,V4 (by rw [lmap];exact hi),⟨_,SqL.of DP.at'⟩,λD2 hD2=>bg3 (n:=n) DP (by rw [d4 pol];exact s10 _ _ epo) bq hD2 (by rw [List.length_set,lN]) oP ⋯ hi hj λH' T=>?_⟩
        obtain ⟨vs,DM⟩:=DP.made hD2 T;refine (hI _ _ _).mpr ⟨D2,vs,_,C*q.den*q.den,_,_,_,_,_,_,rfl,DM,by rw [List.length_map,List.length_set,lN],?_⟩
        refine (oP.put (C:=C*q.den*q.den) (V':=80+10*(c+1)) (by rw [List.length_set,lN];exact hj) (λL=>aQ L j-q*aQ L i) oU.B0 (Nat.lt_of_lt_of_le oU.BW (d7 ⋯)) (λL hL x hx=>((oU.row L hL).2 x hx).mono ⋯) λL hL=>?_)
        have lL:L.length=n:=by rw [(oP.row L hL).1,List.length_set,lN]
        have b1:=(oU.row L hL).2 _ (Q9 (L:=L) (k:=j) ⋯);have b2:=oq.mul ((oP.row L hL).2 _ (Q9 (L:=L) (k:=i) ⋯));rw [Nat.mul_comm q.den,Nat.add_comm 4] at b2;exact (OvB.sub oU.B0 b1 b2).mono ⋯
    · refine ⟨_,SqL.of D9.at',_,p7 gJ,_,SqL.of D9.at',_,p7 gI,by decide,λp hp=>?_⟩
      obtain ⟨H10,y10,X10,g10⟩:=aI5 (.tup [V.ref pJ,V.ref pI]) hp;rw [<- y10];have D10:=D9.s X10;have mI':=List.mem_of_getElem? uI;have mJ':=List.mem_of_getElem? uJ;have DP1:=D10.put i (X10 _ _ eJ) (nJ.mono X10.tups) (λz=>D9.nl (z ▸ mJ')) (D9.nu _ mJ') (D9.nf _ mJ');have lI:pI ≠ l:=λz=>D9.nl (z ▸ mI');have S11:V5 H10 (upd H10 l (.lst ((us.map V.ref).set i (V.ref pJ)))):=V5.lst D10.at';have DP:=DP1.put j (D:=pI) (zs:=xI) (L':=LI) (by rw [d4 lI];exact X10 _ _ eI) ((nI.mono X10.tups).mono S11) lI (D9.nu _ mI') (D9.nf _ mI')
      have oP:=(oN.setR (i:=i) (L':=LJ) rowJ.1 rowJ.2).setR (i:=j) (L':=LI) (by rw [List.length_set];exact rowI.1) rowI.2
      have lP:((N.set i LJ).set j LI).length=n:=by rw [List.length_set,List.length_set,lN]
      refine ⟨_,SqT.of g10,rfl,_,_,rfl,_,D10.at',i,V4 (by rw [lmap];exact hi),_,_,rfl,_,b8,j,V4 (by rw [List.length_set,lmap];exact hj),rfl,⋯,⋯,λD hD=>?_⟩
      rw [<- List.map_set] at hD ⊢;obtain ⟨H12,y12⟩:∃ H12,H12=upd (upd H10 l (HO.lst (List.map V.ref (us.set i pJ)))) l (HO.lst ((List.map V.ref (us.set i pJ)).set j (V.ref pI))):=⟨_,rfl⟩;rw [<- List.map_set] at DP;rw [<- y12] at hD DP ⊢;obtain ⟨Pv,hPv⟩:∃ Pv:Nat->L2.St->Hp->Prop,∀ y σ H13,Pv y σ H13 ↔ ∃ (o:Option V) (os:List Nat),σ=[some (.int (j:Int)),some (.int (i:Int)),o]/\c5 H12 H13/\H13 D=some (.lst (os.map λo:Nat=>V.int (o:Int)))/\os.length=y/\∀ o ∈ os,o<n:=⟨_,λ_ _ _=>Iff.rfl⟩;refine M0 Pv ((hPv _ _ _).mpr ⟨_,[],rfl,c5.new hD _,b8,rfl,by simp⟩) ?_ ?_
      · rintro y σ H13 hy h
        obtain ⟨o,os,rfl,s13,e13,l13,h13⟩:=(hPv _ _ _).mp h;have hy':y<n:=⋯
        subst_eqs
        have put:∀ (o:Nat),o<n->∀ H14,c5 H13 H14->m8 D (n:Int).toNat Pv y [some (V.int (j:Int)),some (V.int (i:Int)),some (V.int (0+(y:Int)))] (.int (o:Int)) H14:=λo ho H14 s14=>by
          refine m8.mk hy (s14 _ _ e13) (p9 (by rw [List.length_map];omega)) ((hPv _ _ _).mpr ⟨_,os ++ [o],rfl,(s13.trans s14).over hD _,by rw [b8,List.map_append];rfl,by rw [List.length_append,l13];rfl,λx hx=>?_⟩)
          rcases List.mem_append.mp hx with z | z
          · exact h13 x z
          · rw [List.mem_singleton.mp z];exact ho
        have fin:∀ (b:Int) (p:Addr),H13 p=none->(b=0 \/ (b=1/\y ≠ i))->IntMulOk 2 b/\∃ x,SqL K (upd H13 p (HO.lst [V.int (0+(y:Int)),V.int (j:Int),V.int (i:Int)])) p x/\∃ x_1,atI x ((if 0+(y:Int)=(i:Int) then 1 else 0)+2*b)=some x_1/\m8 D (n:Int).toNat Pv y [some (V.int (j:Int)),some (V.int (i:Int)),some (V.int (0+(y:Int)))] x_1 (upd H13 p (HO.lst [V.int (0+(y:Int)),V.int (j:Int),V.int (i:Int)])):=λb p fp hb=>by
          have Sp:=c5.new fp (.lst [V.int (0+(y:Int)),V.int (j:Int),V.int (i:Int)]);refine ⟨az5 ⋯,_,SqL.of b8,?_⟩
          by_cases hyi:y=i
          · rw [if_pos ⋯]
            have hb0:b=0:=by rcases hb with h | ⟨_,h⟩;exact h;exact absurd hyi h
            subst hb0;exact ⟨_,rfl,put j hj _ Sp⟩
          · rw [if_neg ⋯]
            rcases hb with rfl | ⟨rfl,_⟩
            · refine ⟨_,rfl,?_⟩
              rw [Int.zero_add];have:=put y hy' _ Sp;rw [Int.zero_add] at this;exact this
            · exact ⟨_,rfl,put i hi _ Sp⟩
        refine ⟨by decide,λp fp=>⟨rfl,rfl,B3 (λhyj=>⟨rfl,fin _ p fp ?_⟩) (λhyj=>fin _ p fp (.inl rfl))⟩⟩
        split
        · exact .inr ⟨rfl,⋯⟩
        · exact .inl rfl
      · intro σ H13 h
        obtain ⟨o,os,rfl,s13,e13,l13,h13⟩:=(hPv _ _ _).mp h;have D13:=DP.s s13;have lo:os.length=n:=⋯;obtain ⟨NN,hNN⟩:∃ NN,NN=(N.set i LJ).set j LI:=⟨_,rfl⟩;rw [<- hNN] at D13 oP lP;obtain ⟨NP,hNP⟩:∃ NP,NP=NN.map λL=>os.map (aQ L):=⟨_,rfl⟩;have lNP:NP.length=n:=by rw [hNP,List.length_map,lP]
        refine ⟨⟨_,SqL.of D13.at'⟩,λD2 hD2=>?_⟩;refine C4 ((us.set i pJ).set j pI |>.map V.ref) (λy σ H3 => ∃ o,σ=[some (.ref D),o]/\F8 H13 D2 (NP.take y) H3) ⟨_,rfl,F8.start hD2⟩ (λj σ H3 _ ⟨o,_,T⟩=>SqL.of (T.same _ _ D13.at')) ?_ ?_
        · rintro y x σ H3 hx ⟨o,rfl,T⟩
          have hy:=(List.getElem?_eq_some_iff.mp hx).1;obtain ⟨t,ht,rfl⟩:=F2 hx;obtain ⟨xs,L,hL,et,nt⟩:=D13.rws.get ht;have lL:=(oP.row L (List.mem_of_getElem? hL)).1
          subst_eqs
          refine ⟨⟨_,SqL.of (T.same _ _ e13)⟩,λD3 hD3=>?_⟩;refine C4 (os.map λo:Nat=>V.int (o:Int)) (λz σ H4 => ∃ o1,σ=[some (.ref t),o1]/\M5 H3 D3 ((os.map (aQ L)).take z) H4) ⟨_,rfl,M5.start hD3⟩ (λz σ H4 _ ⟨_,_,R⟩=>SqL.of (R.same _ _ (T.same _ _ e13))) ?_ ?_
          · rintro z x σ H4 hz ⟨o1,rfl,R⟩
            have hz':=(List.getElem?_eq_some_iff.mp hz).1;rw [List.getElem?_map] at hz
            cases eo:os[z]? with
            | none=>rw [eo] at hz;cases hz
            | some o2 =>
            rw [eo] at hz
            cases hz
            have ho:=h13 o2 (List.mem_of_getElem? eo);obtain ⟨pz,gz,ez⟩:=nt.get (av7 (L:=L) (k:=o2) ⋯);have S4:=T.same.trans R.same
            subst_eqs
            refine ⟨_,SqL.of (S4 _ _ et),_,p7 gz,?_⟩;obtain ⟨ys,eD,yl,R'⟩:=R.add hD3 (c5.refl _) (S4 _ _ ez);refine m8.mk hz' eD (p9 (by rw [yl,List.length_take,List.length_map];omega)) ⟨_,rfl,?_⟩
            rw [d6 (l:=os.map (aQ L)) (x:=aQ L o2) (by rw [List.getElem?_map,eo];rfl)]
            exact R'
          · rintro σ H4 ⟨o1,rfl,R⟩
            rw [n9 (by rw [List.length_map,List.length_map];exact Nat.le_refl _)] at R
            obtain ⟨ys,eD,yl,T'⟩:=T.add hD2 hD3 R;refine m8.mk hy eD (p9 (by rw [yl,List.length_take];omega)) ⟨_,rfl,?_⟩
            rw [d6 (l:=NP) (x:=os.map (aQ L)) (by rw [hNP,List.getElem?_map,hL];rfl)]
            exact T'
        · rintro σ H3 ⟨o,rfl,T⟩
          rw [n9 (by rw [List.length_map,D13.rws.length,lP,lNP];exact Nat.le_refl _)] at T
          obtain ⟨vs,DM⟩:=D13.made hD2 T;refine (hI _ _ _).mpr ⟨D2,vs,_,C,_,_,_,_,_,_,rfl,DM,lNP,⟨by rw [lNP];omega,oN.B0,Nat.lt_of_lt_of_le oN.BW (d7 ⋯),λL hL=>?_⟩⟩
          rw [hNP] at hL;obtain ⟨L0,h0,rfl⟩:=List.mem_map.mp hL;refine ⟨by rw [List.length_map,lo,lNP],λx hx=>?_⟩
          obtain ⟨o3,ho3,rfl⟩:=List.mem_map.mp hx;have r0:=oP.row L0 h0;exact (r0.2 _ (Q9 (L:=L0) (k:=o3) (by have:=h13 o3 ho3;omega))).mono ⋯
  rintro σ H4 ⟨c,hc,h⟩;obtain ⟨l,us,N,C,o6,o7,o8,o9,o10,o11,rfl,D5,lN,oN⟩:=(hI _ _ _).mp h
  subst_eqs
  exact k l us N C H4 D5 lN (oN.mono ⋯)
theorem aP4 {b:Int} {m k:Nat} (h:b.natAbs<2 ^ m):(b ^ k).natAbs<2 ^ (m*k+1):=by
 rw [Int.natAbs_pow];have:b.natAbs ^ k<=(2 ^ m) ^ k:=m0v (y0d h) k;rw [<- q1c] at this;exact q0s this (u0y (by decide) ⋯)
theorem aP3 (n:Nat) (h:Nat->Int):((smZ (N3 n h):Int):Rat)=j4 (λt=>(h t:Rat)) n:=by
 have k2:∀ (l:List Int) (v:Int),smZ (l ++ [v])=smZ l+v:=λl v=>by
  induction l with
  | nil=>show v+0=0+v;omega
  | cons a l ih=>show a+smZ (l ++ [v])=a+smZ l+v;rw [ih];omega
 induction n with
 | zero=>rfl
 | succ n ih =>
  unfold N3 at ih ⊢;rw [v0s,j0r]
  show ((smZ (_ ++ [h n]):Int):Rat)=j4 (λt=>(h t:Rat)) n+_;rw [k2,j0e,ih]
theorem aH5:∀ n:Nat,(q0t n [V.int 0]).flatten=(z0w n).map (V.int ∘ λ_=>(0:Int))
 | 0=>rfl
 | n+1=>by rw [u0x,List.flatten_append,aH5 n,v0s,j0r];rfl
theorem ZT.overL {H:Hp} {a l p:Addr} {n:Nat} {f:Nat->Nat->Int} {xs:List V} {o:HO} (h:ZT H a n f) (hl:H l=some (.lst (.ref p :: xs))) (al:a ≠ l) (n1:1<=n):ZT (upd H l o) a n f:=by
 obtain ⟨ts,e,r⟩:=h.ex;refine ⟨ts,by rw [d4 al];exact e,r.over λz=>?_⟩
 obtain ⟨i,hi⟩:=y0c.mp z;obtain ⟨_,et⟩:=ZT.row r hi;rw [hl] at et;have:=HO.lst.inj (Option.some.inj et);have l1:=congrArg (·[0]?) this
 rw [z0c,O6 n1] at l1
 cases l1
theorem w4.rev {K:q0a} {H:Hp}:∀ {vs:List V} {qs:List Rat},w4 K H vs qs->w4 K H vs.reverse qs.reverse
 | _,_,.nil=>.nil
 | _,_,.cons h t=>by rw [List.reverse_cons,List.reverse_cons];exact (w4.rev t).append (.cons h .nil)
theorem aj8 {n:Nat} {A:Mt}:∀ k,(chQ n A k).length=k+1
 | 0=>rfl
 | k+1=>by show (chQ n A k).length+1=_;rw [aj8 k]
def aC1 (K:q0a):Sp:=λvs H Q _ => ∃ (a:Addr) (ts:List Addr) (M:List (List Rat)) (n W0:Nat),vs=[.ref a]/\H a=some (.lst (ts.map V.ref))/\Rws H ts M/\M.length=n/\(∀ L ∈ M,L.length=n)/\1<=n/\n<=4/\ClN W0 M.flatten/\W0<=400/\∀ r xs H',c5 H H'->H r=none->H' r=some (.lst xs)->w4 K H' xs (chQ n (qq M) n)->Q (.ref r) H'
abbrev M7:Stmt:=top 40
theorem t8:i9 ["table","n","product","whole","power","numbers","many","rows","bottom"] ["table"] (c6 M7):=by and_intros
theorem aw6 {f f1 f2 f3 f4 aN:Addr} (d:Df K mg "table_poly" M7 ["table"] f) (G_whole_rows:Def P w K mg base CX0 3 "whole_rows" f1 ["table"] (aO7 K)) (G_with_unit:Def P w K mg base CX0 1 "with_unit" f2 ["rows","whole"] aO6) (G_rows_times:Def P w K mg base CX0 2 "rows_times" f3 ["one","other"] aH1) (G_fraction:Def P w K mg base CX0 2 "fraction" f4 ["top","bottom"] as2) (c_ONE:mg "ONE" = some (.ref aN)) (tN:∀ H,SqT K H aN (t4 1)) (n_len:mg "len" = none) (n_range:mg "range" = none) (n_sum:mg "sum" = none) (n_enumerate:mg "enumerate" = none):Def P w K mg base CX0 4 "table_poly" f ["table"] (aC1 K):=by
  refine d.ok (N:=["table","n","product","whole","power","numbers","many","rows","bottom"]) t8 (by rintro vs H Q E ⟨_,_,_,_,_,h,_⟩;rw [h];rfl) (λcdv A outer s H vs Q E hr h=>?_)
  obtain ⟨a,ts,M,n,W0,rfl,ha,hR,hn,hM,n1,n4,cM,hW0,k⟩:=h;have hRl:=hR.length
  refine ⟨_, (b9 (h9 (i := 1) t8.nd rfl (Or.inr rfl) (g8 j5 rfl n_len (by decide +kernel) (a8 (pv 0) b6)))
      (b9 (E5 (c8 G_whole_rows hr (a8 (pv 0) b6) g9) (show PG _ _ (T6 K 2 (r6 (l9 7) (r6 (l9 8) T9))) from by (refine C2 (n:=2) ?_ ?_ ?_ ?_;rfl;(refine i4 ?_ ?_ ?_;(exact (c9 (i:=7) t8.nd rfl (Or.inl rfl)));(refine i4 ?_ ?_ ?_;(exact (c9 (i:=8) t8.nd rfl (Or.inl rfl)));(exact y3);rfl);rfl);rfl;rfl)))
      (b9 (ad2 (i₀:=2) t8.nd rfl (Or.inl rfl) (Nc:=["n","row"]) (caps:=[some 1,none]) rfl (G3.of (osc:=c6 M7) (N:=["table","n","product","whole","power","numbers","many","rows","bottom"]) (ks:=["n"]) rfl rfl rfl rfl (i8 rfl j8) (by decide +kernel)) (z9 (pv 7)) (λC s₂ H₂ fp pins=>(c9 (i:=1) (show List.Nodup (["n","row"]:List Str) by decide +kernel) rfl (Or.inl rfl) (Or.inr rfl))) (λC s₂ H₂ fp pins=>(d2 aX8 (w9 (a8 b7 b6)) (pv 0))))
      (b9 (bd5 b7 (c9 (i:=3) t8.nd rfl (Or.inl rfl)) (c9 (i:=4) t8.nd rfl (Or.inl rfl)))
      (b9 (h9 (i:=5) t8.nd rfl (Or.inl rfl) (w9 (a8 (A0 (v:=.ref _) rfl c_ONE rfl) b6)))
      (b9 (Y4 PassesOwn.never rfl (an1 rfl n_range (a8 b7 (a8 (d2 y0 (pv 1) b7) b6))) (c9 (i:=6) t8.nd rfl (Or.inl rfl)) (b9 (h9 (i:=2) t8.nd rfl (Or.inl rfl) (c8 G_rows_times hr (a8 (pv 7) (a8 (c8 G_with_unit hr (a8 (pv 2) (a8 (pv 3) b6)) g9) b6)) g9))
      (b9 (h9 (i:=3) t8.nd rfl (Or.inl rfl) (d2 A6 (ae9 Y1 (g8 (aK6 rfl) rfl n_sum (by decide +kernel) (a8 (t5 (Nc:=["place","row"]) (caps:=[none,none]) rfl (G3.of (osc:=c6 M7) (N:=["table","n","product","whole","power","numbers","many","rows","bottom"]) (ks:=[]) rfl rfl rfl rfl j8 (by decide +kernel)) (ad4 rfl n_enumerate (a8 (pv 2) b6)) (λC s₂ H₂ fp pins=>(show PG _ _ (T6 K 2 (r6 (l9 0) (r6 (l9 1) T9))) from by (refine C2 (n:=2) ?_ ?_ ?_ ?_;rfl;(refine i4 ?_ ?_ ?_;(exact (c9 (i:=0) (show List.Nodup (["place","row"]:List Str) by decide +kernel) rfl (Or.inl rfl) (Or.inr rfl)));(refine i4 ?_ ?_ ?_;(exact (c9 (i:=1) (show List.Nodup (["place","row"]:List Str) by decide +kernel) rfl (Or.inl rfl) (Or.inr rfl)));(exact y3);rfl);rfl);rfl;rfl))) (λC s₂ H₂ fp pins=>(i6 (by exact j3:IxR _ (ae3 K)) (pv 1) (pv 0) (λ_ _=>rfl)))) b6))) (pv 6)))
      (b9 (bj9 (i:=4) t8.nd rfl (Or.inl rfl) (pv 8) bl7)
      (c7 (al1 (az2 PySem.F.plainAttrs_list PySem.F.slot_list_append PySem.F.type_list_append N4 (pv 5) (a8 (c8 G_fraction hr (a8 (pv 3) (a8 (pv 4) b6)) g9) b6))))))))
      (c7 (i7 (aS6 (pv 5) U5 U5 (Q0 (ae9 Y1 b7))))))))))),?_⟩
  rw [show start ["table","n","product","whole","power","numbers","many","rows","bottom"] [.ref a]=[some (.ref a),none,none,none,none,none,none,none,none] from rfl]
  refine f9 (λσ H1=>H1=H/\σ=[some (.ref a),some (.int (n:Int)),none,none,none,none,none,none,none]) (λN hN'=>?_) ?_
  · subst_eqs
    exact ⟨_,.inl (SqL.of ha),hN' _ _ ⟨rfl,by rw [List.length_map,hRl,hn]⟩⟩
  rintro σ H1 ⟨rfl,rfl⟩;refine f9 (λσ H2 => ∃ (l:Addr) (Z:Nat->Nat->Int) (b:Nat),σ=[some (.ref a),some (.int (n:Int)),none,none,none,none,none,some (.ref l),some (.int (b:Int))]/\c5 H1 H2/\ZT H2 l n Z/\0<b/\b<2 ^ W0/\∀ i j,i<n->j<n->(Z i j).natAbs<2 ^ W0/\(Z i j:Rat)=(b:Rat)*qq M i j) (λN hN'=>?_) ?_
  · subst_eqs
    refine ⟨a,ts,M,n,W0,rfl,ha,hR,hn,hM,⋯,cM,⋯,λr l f b H1 s1 e1 z1 b0 bW hf=>?_⟩;exact ⟨r,rfl,_,SqT.of e1,rfl,_,_,rfl,_,_,rfl,rfl,hN' _ _ ⟨l,f,b,rfl,s1,z1,b0,bW,hf⟩⟩
  rintro σ H2 ⟨lr,Z,b,rfl,s2,z2,b0,bW,hf⟩;refine f9 (λσ H3 => ∃ (t:Addr),σ=[some (.ref a),some (.int (n:Int)),some (.ref t),none,none,none,none,some (.ref lr),some (.int (b:Int))]/\c5 H2 H3/\ZT H3 t n λ_ _=>0) (λN hN'=>?_) ?_
  · subst_eqs
    obtain ⟨us,eu,Ru⟩:=z2.ex;have lu:=Ru.length;rw [B4] at lu;refine ⟨⟨_,SqL.of eu⟩,λD hD=>?_⟩;refine C4 (us.map V.ref) (λi σ H3 => ∃ o,σ=[some (.int (n:Int)),o]/\ZAt H2 D ((aq1 n λ_ _=>0).take i) H3) ⟨_,rfl,ZAt.start hD⟩ (λi σ H3 _ ⟨_,_,T⟩=>SqL.of (T.same _ _ eu)) ?_ ?_
    · rintro i x σ H3 hx ⟨o,rfl,T⟩
      have hi:=(List.getElem?_eq_some_iff.mp hx).1;have hi':i<n:=by rw [List.length_map] at hi;omega
      subst_eqs
      refine ⟨by decide,λp1 f1=>?_⟩
      have Sp:=c5.new f1 (.lst [.int 0]);refine ⟨_,b8,⋯,⋯,?_,λp2 f2=>?_⟩
      · rw [Int.toNat_natCast]
        exact Nat.le_trans (show 1*n<=100 by omega) (by decide)
      have ez:(List.replicate (n:Int).toNat [V.int 0]).flatten=(N3 n λ_=>0).map V.int:=by
        rw [Int.toNat_natCast];unfold N3;rw [List.map_map];exact aH5 n
      rw [ez];obtain ⟨ys,eD,yl,T'⟩:=T.add hD (Sp.trans (c5.new f2 (.lst ((N3 n λ_=>0).map V.int)))) (Sp.free f2) b8;refine m8.mk hi eD (p9 (by rw [yl,List.length_take,B4];omega)) ⟨_,rfl,?_⟩
      rw [d6 (ab1 hi')];exact T'
    · rintro σ H3 ⟨o,rfl,T⟩
      rw [n9 (by rw [B4,List.length_map];omega)] at T
      exact hN' _ _ ⟨D,rfl,T.same,T.done⟩
  rintro σ H3 ⟨t0,rfl,s3,z3⟩;refine f9 (λσ H4=>H4=H3/\σ=[some (.ref a),some (.int (n:Int)),some (.ref t0),some (.int 1),some (.int 1),none,none,some (.ref lr),some (.int (b:Int))]) (λN hN'=>?_) ?_
  · subst_eqs
    exact hN' _ _ ⟨rfl,rfl⟩
  rintro σ H4 ⟨rfl,rfl⟩;refine f9 (λσ H5 => ∃ l,σ=[some (.ref a),some (.int (n:Int)),some (.ref t0),some (.int 1),some (.int 1),some (.ref l),none,some (.ref lr),some (.int (b:Int))]/\c5 H4 H5/\H4 l=none/\H5 l=some (.lst [.ref aN])) (λN hN'=>?_) ?_
  · subst_eqs
    exact ⟨by decide,λp fp=>hN' _ _ ⟨p,rfl,c5.new fp _,fp,b8⟩⟩
  rintro σ H5 ⟨l,rfl,s5,fl,el⟩;have z5:=z2.same (s3.trans s5)
  have lrl:lr ≠ l:=λz=>by
    obtain ⟨us,eu,_⟩:=(z2.same s3).ex;rw [z,fl] at eu;cases eu
  obtain ⟨I,hI⟩:∃ I:Nat->L2.St->Hp->Prop,∀ c σ H6,I c σ H6 ↔ ∃ (t:Addr) (f:Nat->Nat->Int) (v:Int) (p:Addr) (xs:List V) (o:Option V),σ=[some (.ref a),some (.int (n:Int)),some (.ref t),some (.int v),some (.int ((b:Int) ^ c)),some (.ref l),o,some (.ref lr),some (.int (b:Int))]/\c5 H1 H6/\ZT H6 t n f/\t ≠ l/\ZT H6 lr n Z/\(∀ i j,i<n->j<n->(f i j:Rat)+(v:Rat)*dij i j=flT n (λi j=>(Z i j:Rat)) c i j)/\(∀ i j,i<n->j<n->(f i j).natAbs<2 ^ (1+c*(W0+9)))/\v.natAbs<2 ^ (1+c*(W0+9))/\H6 l=some (.lst (.ref p :: xs))/\w4 K H6 (.ref p :: xs) (chQ n (qq M) c).reverse:=⟨_,λ_ _ _=>Iff.rfl⟩;refine f9 (λσ H6=>I n σ H6) (λN hN'=>?_) ?_
  · refine ⟨_,rfl,_,_,rfl,rfl,_,_,rfl,⟨⋯,⋯,⋯,⋯⟩,Y0 I ((hI _ _ _).mpr ⟨t0,λ_ _=>0,1,aN,[],_,by rw [Int.pow_zero],s2.trans (s3.trans s5),z3.same s5,λz=>?_,z5,λi j _ _=>?_,λi j _ _=>Nat.two_pow_pos _,by rw [Nat.zero_mul];decide,el,.cons (.inr tN) .nil⟩) ?_ (λσ H6 h=>hN' _ _ (by rw [show ((n:Int)+1-1).toNat=n by omega] at h;exact h))⟩
    · obtain ⟨us,eu,_⟩:=z3.ex
      rw [z,fl] at eu;cases eu
    · rw [F5,Rat.intCast_zero,Rat.intCast_one];grind
    rintro c σ H6 hc h;have hc':c<n:=⋯;obtain ⟨t,f,v,p,xs,o,rfl,s6,z6,tl,zr6,fe,fb,vb,el6,nl6⟩:=(hI _ _ _).mp h;have bV:c*(W0+9)<=3*409:=Nat.mul_le_mul ⋯ ⋯;have sV:(c+1)*(W0+9)=c*(W0+9)+(W0+9):=Nat.succ_mul _ _;obtain ⟨g,hg⟩:∃ g:Nat->Nat->Int,g=λi j=>if i=j then f i j+v else f i j:=⟨_,rfl⟩
    have gT:∀ i j,i<n->j<n->(g i j:Rat)=flT n (λi j=>(Z i j:Rat)) c i j:=λi j hi hj=>by
      rw [<- fe i j hi hj,hg];unfold dij
      dsimp only
      split
      · rw [Rat.intCast_add];grind
      · grind
    have gb:∀ i j,i<n->j<n->(g i j).natAbs<2 ^ (1+c*(W0+9)+1):=λi j hi hj=>by
      have:=fb i j hi hj;rw [hg,Nat.pow_succ]
      dsimp only
      split <;> omega
    obtain ⟨f',hf'⟩:∃ f':Nat->Nat->Int,f'=λi j=>smZ (N3 n λt=>Z i t*g t j):=⟨_,rfl⟩
    have fT:∀ i j,i<n->j<n->(f' i j:Rat)=mm n (λi j=>(Z i j:Rat)) (flT n (λi j=>(Z i j:Rat)) c) i j:=λi j hi hj=>by
      rw [hf',aP3];refine y1 λt ht=>?_;rw [Rat.intCast_mul,gT t j ht hj]
    have fB:∀ i j,i<n->j<n->(f' i j).natAbs<2 ^ (1+c*(W0+9)+W0+5):=λi j hi hj=>by
      have:=aL6 (m:=W0+(1+c*(W0+9)+1)) (N3 n λt=>Z i t*g t j) λx hx=>by
        obtain ⟨t,ht,rfl⟩:=List.mem_map.mp hx;have tn:=List.mem_range.mp ht;rw [Int.natAbs_mul,Nat.pow_add 2 W0];exact Nat.mul_lt_mul'' (hf i t hi tn).1 (gb t j tn hj)
      rw [y9] at this;rw [hf'];exact Nat.lt_of_lt_of_le this (d7 ⋯)
    have zr6':=zr6;refine f9 (λσ H7 => ∃ t,σ=[some (.ref a),some (.int (n:Int)),some (.ref t),some (.int v),some (.int ((b:Int) ^ c)),some (.ref l),some (.int (1+(c:Int))),some (.ref lr),some (.int (b:Int))]/\c5 H6 H7/\ZT H7 t n f'/\t ≠ l) (λN hN'=>?_) ?_
    · subst_eqs
      refine ⟨t,n,f,v,rfl,z6,⋯,λr2 H7 s7 f7 z7=>?_⟩;rw [<- hg] at z7;refine ⟨lr,r2,n,W0,1+c*(W0+9)+1,Z,g,rfl,zr6.same s7,z7,⋯,λi j hi hj=>⟨(hf i j hi hj).1,gb i j hi hj⟩,⋯,λr3 H8 s8 f8 z8=>hN' _ _ ⟨r3,rfl,s7.trans s8,by rw [hf'];exact z8,λz=>?_⟩⟩
      rw [z,s7 _ _ el6] at f8;cases f8
    rintro σ H7 ⟨t7,rfl,s7,z7,tl7⟩;obtain ⟨w',hw'⟩:=bf5 Z n4 hc';obtain ⟨tr,htr⟩:∃ tr,tr=smZ (N3 n λt=>f' t t):=⟨_,rfl⟩
    have trE:tr=-((1+(c:Int))*w'):=by
      have e1:((tr:Int):Rat)=j4 (λt=>mm n (λi j=>(Z i j:Rat)) (flT n (λi j=>(Z i j:Rat)) c) t t) n:=by
        rw [htr,aP3];exact y1 λt ht=>fT t t ht ht
      have c0:((c:Nat):Rat)+1 ≠ 0:=λz=>by
        have:((c+1:Nat):Rat)=((0:Nat):Rat):=by rw [Rat.natCast_add];exact z
        have:=Rat.natCast_inj.mp this;omega
      have e2:(((c:Nat):Rat)+1)*(w':Rat)=-(tr:Rat):=by
        rw [hw',flK,<- e1,Rat.div_def];have:=Rat.mul_inv_cancel _ c0
        grind
      have e3:(((1+(c:Int))*w':Int):Rat)=((-tr:Int):Rat):=by
        rw [Rat.intCast_mul,Rat.intCast_add,Rat.intCast_neg,<- e2,Rat.intCast_one,Rat.intCast_natCast];grind
      have:=Rat.intCast_inj.mp e3;omega
    have trB:tr.natAbs<2 ^ (1+c*(W0+9)+W0+9):=by
      have:=aL6 (m:=1+c*(W0+9)+W0+5) (N3 n λt=>f' t t) λx hx=>by
        obtain ⟨t,ht,rfl⟩:=List.mem_map.mp hx;have tn:=List.mem_range.mp ht;exact fB t t tn tn
      rw [y9] at this;rw [htr];exact Nat.lt_of_lt_of_le this (d7 ⋯)
    have wB:w'.natAbs<2 ^ (1+(c+1)*(W0+9)):=by
      have:w'.natAbs<=tr.natAbs:=by
        rw [trE,Int.natAbs_neg,Int.natAbs_mul];exact Nat.le_mul_of_pos_left _ ⋯
      exact Nat.lt_of_le_of_lt this (Nat.lt_of_lt_of_le trB (d7 ⋯))
    have fdv:(-tr).fdiv (1+(c:Int))=w':=by
      rw [trE,Int.neg_neg];exact Int.mul_fdiv_cancel_left _ ⋯
    refine f9 (λσ H8=>σ=[some (.ref a),some (.int (n:Int)),some (.ref t7),some (.int w'),some (.int ((b:Int) ^ c)),some (.ref l),some (.int (1+(c:Int))),some (.ref lr),some (.int (b:Int))]/\c5 H7 H8) (λN hN'=>?_) ?_
    · obtain ⟨us,eu,Ru⟩:=z7.ex
      have lu:=Ru.length;rw [B4] at lu
      subst_eqs
      refine ⟨⟨_,SqL.of eu⟩,λD hD=>?_⟩;refine am3 (us.map V.ref) (λi σ H8 => ∃ o1 o2,σ=[o1,o2]/\ah8 H7 D ((N3 n λt=>f' t t).take i) H8) ⟨_,_,rfl,ah8.start hD⟩ (λi σ H8 ⟨_,_,_,T⟩=>SqL.of (T.same _ _ eu)) ?_ ?_
      · rintro i x σ H8 p2 hx ⟨o1,o2,rfl,R⟩ hp2
        have hi:=(List.getElem?_eq_some_iff.mp hx).1;obtain ⟨u,hu,rfl⟩:=F2 hx;obtain ⟨iN,et⟩:=ZT.row Ru hu;have S:=c5.new hp2 (.tup [.int (i:Int),.ref u])
        subst_eqs
        refine ⟨_,SqT.of b8,rfl,_,_,rfl,_,_,rfl,rfl,?_⟩;refine ⟨u,rfl,_,(i:Int),rfl,SqL.of (S _ _ (R.same _ _ et)),.int (f' i i),by exact p7 (by rw [List.getElem?_map,O6 iN];rfl),?_⟩
        refine m8.mk hi (S _ _ R.at') (p9 (by rw [List.length_map,List.length_take,y9];omega)) ⟨_,_,rfl,?_⟩
        rw [d6 (O6 (g:=λt=>f' t t) iN)];exact R.add _ hD S
      · rintro σ H8 ⟨o1,o2,rfl,R⟩
        rw [n9 (by rw [y9,List.length_map];omega)] at R
        refine ⟨D,rfl,_,SqL.of R.at',?_⟩;rw [<- htr,fdv];exact ⟨aa3 ⋯ ⋯,hN' _ _ ⟨rfl,R.same⟩⟩
    rintro σ H8 ⟨rfl,s8⟩;refine f9 (λσ H9=>H9=H8/\σ=[some (.ref a),some (.int (n:Int)),some (.ref t7),some (.int w'),some (.int ((b:Int) ^ (c+1))),some (.ref l),some (.int (1+(c:Int))),some (.ref lr),some (.int (b:Int))]) (λN hN'=>?_) ?_
    · subst_eqs
      rw [<- Int.pow_succ];have bb:((b:Nat):Int).natAbs<2 ^ W0:=by rw [Int.natAbs_natCast];exact bW
      have bp:((b:Int) ^ c).natAbs<2 ^ (W0*c+1):=aP4 bb;have b4:W0*c<=400*3:=Nat.mul_le_mul hW0 ⋯;exact ⟨Q4 bp bb ⋯,hN' _ _ ⟨rfl,rfl⟩⟩
    rintro σ H9 ⟨rfl,rfl⟩;have s69:=s7.trans s8;have el9:=s69 _ _ el6;have ne9:=nl6.mono s69.tups;have lxs:=nl6.length;rw [List.length_reverse,aj8] at lxs;have bb:((b:Nat):Int).natAbs<2 ^ W0:=by rw [Int.natAbs_natCast];exact bW
    have bp:((b:Int) ^ (c+1)).natAbs<2 ^ (W0*(c+1)+1):=aP4 bb;have b4:W0*(c+1)<=400*4:=Nat.mul_le_mul hW0 ⋯;have b0':((b:Nat):Int) ≠ 0:=⋯;have bq0:((b:Int):Rat) ≠ 0:=λz=>b0' ((Rat.intCast_inj (a:=(b:Int)) (b:=0)).mp z)
    have kE:Rat.divInt w' ((b:Int) ^ (c+1))=flK n (qq M) c:=by
      have sc:=(ba1 (n:=n) (A:=qq M) (Z:=λi j=>(Z i j:Rat)) (b:=(b:Rat)) (λi j hi hj=>(hf i j hi hj).2) c).2;rw [Rat.divInt_eq_div,hw',sc,Rat.intCast_pow,Rat.div_def,show ((b:Nat):Rat)=((b:Int):Rat) from rfl];have:(((b:Int):Rat) ^ (c+1)) ≠ 0:=by rw [<- Rat.intCast_pow];exact λz=>Int.pow_ne_zero b0' ((Rat.intCast_inj (a:=(b:Int) ^ (c+1)) (b:=0)).mp z)
      have:=Rat.mul_inv_cancel _ this
      grind
    subst_eqs
    refine ⟨.inl ⟨_,SqL.of el9⟩,_,_,rfl,Nat.lt_of_lt_of_le bp (d7 ⋯),Int.pow_ne_zero b0',λr H10 s10 e10=>⟨_,s10 _ _ el9,p9 ⋯,?_⟩⟩;rw [kE] at e10;have el10:=s10 _ _ el9;refine (hI _ _ _).mpr ⟨t7,f',w',p,xs ++ [.ref r],_,rfl,?_,(((z7.same s8).same s10).overL el10 tl7 n1),tl7,(((zr6.same s69).same s10).overL el10 lrl n1),λi j hi hj=>?_,λi j hi hj=>Nat.lt_of_lt_of_le (fB i j hi hj) (d7 ⋯),wB,by rw [b8];rfl,?_⟩
    · intro q o h
      rw [d4 (d5 h ((s2.trans s3).free fl))];exact (s6.trans (s69.trans s10)) _ _ h
    · rw [fT i j hi hj,hw'];rfl
    · show w4 K _ (V.ref p :: xs ++ [.ref r]) (flK n (qq M) c :: chQ n (qq M) c).reverse
      rw [List.reverse_cons];exact ((ne9.mono s10.tups).append (.cons (.inl e10) .nil)).mono (V5.lst el10)
  rintro σ H6 h;obtain ⟨t,f,v,p,xs,o,rfl,s6,z6,tl,zr6,fe,fb,vb,el6,nl6⟩:=(hI _ _ _).mp h
  subst_eqs
  refine ⟨_,SqL.of el6,by decide,λp1 fp=>?_⟩
  rw [aW9];have Sp:=c5.new fp (.lst (V.ref p :: xs).reverse);have nr:=(nl6.mono Sp.tups).rev;rw [List.reverse_reverse] at nr;exact k p1 _ _ (s6.trans Sp) (s6.free fp) b8 nr
def aV9 (K:q0a) (C:Addr):Sp:=λvs H Q E => ∃ (a:Addr) (xs:List V) (qs:List Rat),vs=[.ref a]/\SqL K H a xs/\v9 H xs qs/\(∀ q ∈ qs,BdN 40 q)/\qs.length<=20/\P3 qs qs.length/\((qs.length<2 \/ 5<qs.length)->E (.ref C) none H)/\(∀ n,qs.length=n+1->1<=n->n<=4->aQ9 K H Q (F6 qs n))
abbrev M8:Stmt:=top 41
theorem aa5:i9 ["p","n","rows"] ["p"] (c6 M8):=by and_intros
theorem aw8 {f f1 f2 aN aO C:Addr} (d:Df K mg "poly_table" M8 ["p"] f) (G_over:Def P w K mg base CX0 3 "over" f1 ["one","other"] (aW0 K)) (G_less:Def P w K mg base CX0 3 "less" f2 ["one","other"] (ay7 K (· - ·))) (c_HIGHEST:∃ t,mg "HIGHEST" = some (.int 4 t)) (x_NoPolynomial:ExT K mg "NoPolynomial" C) (n_len:mg "len" = none) (n_range:mg "range" = none) (c_ONE:mg "ONE" = some (.ref aN)) (tN:∀ H,SqT K H aN (t4 1)) (c_NOUGHT:mg "NOUGHT" = some (.ref aO)) (tO:∀ H,SqT K H aO (t4 0)):Def P w K mg base (CXR P w) 4 "poly_table" f ["p"] (aV9 K C):=by
  refine d.okR (N:=["p","n","rows"]) aa5 (by rintro vs H Q E ⟨_,_,_,h,_⟩;rw [h];rfl) (λcdv A outer s H vs Q E hr h=>?_)
  obtain ⟨a,xs,qs,rfl,hS,hN,bq,l20,tl,k0,k1⟩:=h;have lx:=hN.length;obtain ⟨tS,c_HIGHEST⟩:=c_HIGHEST
  refine ⟨_, (b9 (h9 (i := 1) aa5.nd rfl (Or.inr rfl) (d2 G8 (g8 j5 rfl n_len (by decide +kernel) (a8 (pv 0) b6)) b7))
      (b9 (A4 (PW.pt (Z7 (j1 ab6 (pv 1) b7 (i5 _)) (ad1 (j1 ae2 (pv 1) (A0 (v:=.int 4) rfl c_HIGHEST ⟨_,rfl⟩) (i5 _))))) (c7 (aW7 x_NoPolynomial.ox PySem.F.excBase_ValueError rfl rfl x_NoPolynomial.m aS3 (a8 aj0 b6))) m6)
      (b9 (ae8 (i₀:=2) aa5.nd rfl (Or.inl rfl) (Nc:=["n","row"]) (caps:=[some 1,none]) rfl (ag0.of (osc:=c6 M8) (N:=["p","n","rows"]) (ks:=["n"]) rfl rfl rfl rfl (i8 rfl j8) (by decide +kernel)) (A8 rfl n_range (a8 (d2 G8 (pv 1) b7) b6)) (λC s₂ H₂ fp pins=>(c9 (i:=1) (show List.Nodup (["n","row"]:List Str) by decide +kernel) rfl (Or.inr rfl) (Or.inl rfl))) (λC s₂ H₂ fp pins=>(t5 (Nc:=["row","column"]) (caps:=[some 1,none]) rfl (G3.of (osc:=_) (N:=["n","row"]) (ks:=["row"]) rfl rfl rfl rfl (i8 rfl j8) (by kernel_rfl)) (A8 rfl n_range (a8 (pv 0) b6)) (λC s₂ H₂ fp pins=>(c9 (i:=1) (show List.Nodup (["row","column"]:List Str) by decide +kernel) rfl (Or.inl rfl) (Or.inr rfl))) (λC s₂ H₂ fp pins=>(as9 (j1 R3 (pv 1) (d2 y0 (pv 0) b7) (i5 _)) (A0 (v:=.ref _) rfl c_ONE rfl) (A0 (v:=.ref _) rfl c_NOUGHT rfl))))))
      (c7 (i7 (d2 aa7 (pv 2) (w9 (a8 (t5 (Nc:=["p","n","number"]) (caps:=[some 0,some 1,none]) rfl (G3.of (osc:=c6 M8) (N:=["p","n","rows"]) (ks:=["p","n"]) rfl rfl rfl rfl (i8 rfl (i8 rfl j8)) (by decide +kernel)) (z9 (Q3 W3 (pv 0) U5 (Q0 (pv 1)))) (λC s₂ H₂ fp pins=>(c9 (i:=2) (show List.Nodup (["p","n","number"]:List Str) by decide +kernel) rfl (Or.inl rfl) (Or.inr rfl))) (λC s₂ H₂ fp pins=>(c8 G_over hr (a8 (c8 G_less hr (a8 (A0 (v:=.ref _) rfl c_NOUGHT rfl) (a8 (pv 2) b6)) g9) (a8 (i6 (by exact j3:IxR _ (ae3 K)) (pv 0) (pv 1) (λ_ _=>rfl)) b6)) g9))) b6)))))))),?_⟩
  rw [show start ["p","n","rows"] [.ref a]=[some (.ref a),none,none] from rfl]
  subst_eqs
  refine ⟨xs,.inl hS,B3 (λh=>⟨by decide,k0 ⋯⟩) (λh1=>B3 (λh=>⟨by decide,k0 ⋯⟩) (λh2=>?_))⟩
  obtain ⟨m,hm⟩:∃ m:Nat,qs.length=m+1:=⟨qs.length-1,⋯⟩;have m1:1<=m:=⋯;have m4:m<=4:=⋯;rw [show ((xs.length:Int)-1)=(m:Int) by omega,show ((m:Int)-1)=((m-1:Nat):Int) by omega]
  have k1:=k1 m hm m1 m4;obtain ⟨qn,en⟩:∃ qn,qs[m]? = some qn:=⟨_,List.getElem?_eq_getElem ⋯⟩;have gd:qs[m]?.getD 0=qn:=by rw [en];rfl
  have qn0:qn ≠ 0:=tl.last ⋯ _ (by rw [hm];exact en)
  have bn:=bq qn (List.mem_of_getElem? en);have shl:(shQ m).length=m:=by unfold shQ;rw [List.length_map,List.length_range]
  refine ⟨⋯,⋯,λD hD=>?_⟩;rw [Int.toNat_natCast];refine M0 (λi σ H2 => ∃ o,σ=[some (.int (m:Int)),o]/\ax6 K H D ((shQ m).take i) H2) ⟨_,rfl,ax6.start hD⟩ ?_ ?_
  · rintro i σ H2 hi ⟨o,rfl,T⟩
    subst_eqs
    have hi':i<m:=⋯;refine ⟨⋯,⋯,λD2 hD2=>?_⟩;refine M0 (λj σ H3 => ∃ o,σ=[some (.int (0+i)),o]/\ao8 K H2 D2 (((List.range m).map λj=>if j=i+1 then (1:Rat) else 0).take j) H3) ⟨_,rfl,ao8.start hD2⟩ ?_ ?_
    · rintro j σ H3 hj ⟨o,rfl,R⟩
      have hj':j<m:=⋯
      subst_eqs
      have go:∀ (p:Addr) (q:Rat),(∀ H,SqT K H p (t4 q))->q=(if j=i+1 then (1:Rat) else 0)->m8 D2 (m:Int).toNat (λj σ H3 => ∃ o,σ=[some (.int (0+i)),o]/\ao8 K H2 D2 (((List.range m).map λj=>if j=i+1 then (1:Rat) else 0).take j) H3) j [some (.int (0+i)),some (.int (0+j))] (.ref p) H3:=λp q hp hq=>by
        obtain ⟨ys,eD,yl,R'⟩:=R.add hD2 (c5.refl _) (.inr hp:NmC K H3 p q);refine m8.mk hj eD (p9 (by rw [yl,List.length_take];omega)) ⟨_,rfl,?_⟩
        rw [d6 (l:=(List.range m).map λj=>if j=i+1 then (1:Rat) else 0) (x:=q) (by rw [List.getElem?_map,Z6 hj',hq];rfl)]
        exact R'
      refine ⟨rfl,B3 (λh=>go aN 1 tN (by rw [if_pos ⋯])) (λh=>go aO 0 tO (by rw [if_neg ⋯]))⟩
    · rintro σ H3 ⟨o,rfl,R⟩
      rw [n9 (by simp)] at R
      obtain ⟨ys,eD,yl,T'⟩:=T.add hD hD2 R;refine m8.mk hi eD (p9 (by rw [yl,List.length_take];omega)) ⟨_,rfl,?_⟩
      rw [d6 (aW3 hi')];exact T'
  rintro σ H2 ⟨o,rfl,T⟩;have S2:=T.same;refine ⟨xs,S2.seq hS,λp fp=>?_⟩;rw [ac1 xs ⋯];have Sp:=c5.new fp (.lst (xs.take m));have nT:=(hN.take m).mono (S2.trans Sp).tups;refine ⟨⟨_,SqL.of b8⟩,λD2 fD2=>?_⟩;refine C4 (xs.take m) (λj σ H3 => ∃ o,σ=[some (.ref a),some (.int (m:Int)),o]/\ao8 K (upd H2 p (.lst (xs.take m))) D2 (((qs.take m).map λq=>-q / (qs[m]?.getD 0)).take j) H3) ⟨_,rfl,ao8.start fD2⟩ (λj σ H3 _ ⟨_,_,R⟩=>SqL.of (R.same _ _ b8)) ?_ ?_
  · rintro j x σ H3 hx ⟨o,rfl,R⟩
    have hj:=(List.getElem?_eq_some_iff.mp hx).1;obtain ⟨px,q1,rfl,hq1,hpx⟩:=nT.getV hx;have b1:=bq q1 (List.mem_of_mem_take (List.mem_of_getElem? hq1));obtain ⟨pn,hpn,epn⟩:=hN.get en
    subst_eqs
    have S4:=Sp.trans R.same;have S5:=S2.trans S4;have b0:Bd6 (0:Rat):=⟨Nat.two_pow_pos _,by show 1<2 ^ 6000;exact Nat.one_lt_two_pow (by decide)⟩
    refine ⟨_,_,0,q1,rfl,⟨aO,rfl,tO _⟩,⟨px,rfl,SqT.of (R.same _ _ hpx)⟩,b0,b1.bd6 (by decide),λr1 H4 s4 e4=>?_⟩
    replace e4:H4 r1=some (.tup (t4 (-q1))):=by rw [e4];show some (HO.tup (t4 ((0:Rat)-q1)))=_;rw [show (0:Rat)-q1=-q1 by grind]
    have bm:BdN 40 (-q1):=⟨by rw [Rat.neg_num,Int.natAbs_neg];exact b1.n,by rw [Rat.neg_den];exact b1.d⟩
    refine ⟨xs,(S5.trans s4).seq hS,_,p7 hpn,_,_,-q1,qn,rfl,⟨r1,rfl,SqT.of e4⟩,⟨pn,rfl,SqT.of ((S5.trans s4) _ _ epn)⟩,bm.bd6 (by decide),bn.bd6 (by decide),qn0,λr2 H5 s5 e5=>?_⟩
    obtain ⟨zs,eD,yl,R'⟩:=R.add fD2 (s4.trans s5) (.inl e5:NmC K H5 r2 _);refine m8.mk hj eD (p9 (by rw [yl,List.length_take,List.length_map,List.length_take];omega)) ⟨_,rfl,?_⟩
    rw [d6 (l:=(qs.take m).map λq=>-q / (qs[m]?.getD 0)) (x:=-q1 / qn) (by rw [List.getElem?_map,hq1,gd];rfl)]
    exact R'
  rintro σ H3 ⟨o,rfl,R⟩;rw [List.take_of_length_le (l:=(qs.take m).map λq=>-q / (qs[m]?.getD 0)) (by rw [List.length_map,List.length_take,List.length_take];omega)] at R
  obtain ⟨_,ts,eD,hn,nd,rT⟩:=T;obtain ⟨s3,ys,eD2,nY⟩:=R;have S4:=Sp.trans s3;have eD3:=S4 _ _ eD;have fD2':H2 D2=none:=Sp.free fD2;have DD:D ≠ D2:=d5 eD fD2';have lts:=rT.length;have ltk:((shQ m).take (m-1)).length=m-1:=by rw [List.length_take,shl];omega
  refine ⟨by decide,λp1 f1=>⟨D,rfl,_,c5.new f1 _ _ _ eD3,_,b8,Nat.le_trans (m:=100) (by rw [List.length_map,lts,ltk,List.length_singleton];omega) (by decide),λp2 f2=>?_⟩⟩
  have Sf:=(c5.new f1 (.lst [.ref D2])).trans (c5.new f2 (.lst (ts.map V.ref ++ [.ref D2])))
  have eC:F6 qs m=(shQ m).take (m-1) ++ [(qs.take m).map λq=>-q / (qs[m]?.getD 0)]:=by
    unfold F6;rw [List.set_eq_take_append_cons_drop,if_pos ⋯,List.drop_eq_nil_of_le ⋯]
  have fD1:H2 p1=none:=S4.free f1;have fp2:H2 p2=none:=(S4.trans (c5.new f1 (.lst [.ref D2]))).free f2;have p2D2:D2 ≠ p2:=d5 ((c5.new f1 (.lst [.ref D2])) _ _ eD2) f2;refine k1 p2 (ts ++ [D2]) _ (S2.trans (S4.trans Sf)) (S2.free fp2) (λt ht=>?_) ?_ (by rw [b8,List.map_append];rfl) ?_
  · rcases List.mem_append.mp ht with h | h
    · refine ⟨(hn t h).1,λz=>?_⟩
      obtain ⟨i,hi⟩:=List.mem_iff_getElem?.mp h;obtain ⟨_,_,_,e,_⟩:=rT.get hi;rw [z,fp2] at e;cases e
    · rw [List.mem_singleton.mp h];exact ⟨S2.free fD2',p2D2⟩
  · rw [List.nodup_append]
    refine ⟨nd,by simp,λx hx y hy=>?_⟩
    rw [List.mem_singleton.mp hy];rintro rfl;obtain ⟨i,hi⟩:=List.mem_iff_getElem?.mp hx;obtain ⟨_,_,_,e,_⟩:=rT.get hi;rw [fD2'] at e;cases e
  · rw [eC]
    exact ((rT.same S4).append (.cons eD2 nY .nil)).same Sf
theorem ar3 {H:Hp} {a:Addr} (o:HO) (h:H a=none):∃ H',H'=upd H a o/\c5 H H'/\H' a=some o:=⟨_,rfl,c5.new h o,b8⟩
structure Led (M M':List (List Int)) (k n m:Nat):Prop where
 len:M'.length=n
 row:∀ L ∈ M',L.length=m
 top:zz M' k k ≠ 0
 bit:∀ W,(∀ L ∈ M,∀ v ∈ L,v0e v<2 ^ W)->∀ L ∈ M',∀ v ∈ L,v0e v<2 ^ W
 alt:M'=M \/ ∃ s,k<s/\s<n/\∀ i j,zz M' i j=if i=k then zz M s j else if i=s then-zz M k j else zz M i j
structure FinW (n m W:Nat) (M M':List (List Int)) (dv:Int):Prop where
 len:M'.length=n
 row:∀ L ∈ M',L.length=m
 dia:∀ i j,i<n->j<n->zz M' i j=if i=j then dv else 0
 rel:∀ Q,m=n+n->Rl n Q M->Rl n Q M'
 bit:∀ i j,i<n->j<m->(zz M' i j).natAbs<=2 ^ ((W+4)*(n+1))
def aW2 (K:q0a):Sp:=λvs H Q _ => ∃ (a:Addr) (ts:List Addr) (M:List (List Rat)) (n B W:Nat),vs=[.ref a]/\SqL K H a (ts.map V.ref)/\K4 K H ts M/\M.length=n/\(∀ L ∈ M,L.length=n/\∀ q ∈ L,OvB B W q)/\0<B/\B<2 ^ W/\n<=14/\(W+4)*(n+1)<=900 /\
 ∀ r H',c5 H H'->H' r=some (.tup (t4 (dt n (qq M))))->Q (.ref r) H'
theorem az8 {H:Hp}:∀ ks:List Nat,ac4 K H (ks.map λ(k:Nat)=>V.int (k:Int)) (ks.map λ(k:Nat)=>D.v (.int (k:Int)))
 | []=>.nil
 | _ :: ks=>.cons (.v rfl) (az8 ks)
theorem aY1 (ks:List Nat):okD (.lst (ks.map λ(k:Nat)=>D.v (.int (k:Int)))) (.lst [])=true:=by
 cases ks <;> simp [okD,ab7]
theorem ba9 (ks:List Nat):eqD (.lst (ks.map λ(k:Nat)=>D.v (.int (k:Int)))) (.lst [])=ks.isEmpty:=by
 cases ks <;> simp [eqD,K9]
theorem aA6:∀ ks:List Nat,af5 (ks.map λ(k:Nat)=>D.v (.int (k:Int)))<=1
 | []=>by simp [af5]
 | k :: ks=>by
  have:=aA6 ks;rw [j0d,af5,dpD];omega
theorem bf8 (ks:List Nat):dpD (.lst (ks.map λ(k:Nat)=>D.v (.int (k:Int))))<=60:=by
 rw [dpD];have:=aA6 ks;omega
structure aB5 (K:q0a) (H:Hp) (l:Addr) (ts:List Addr) (M:List (List Rat)) (H3:Hp):Prop where
 same:c5 H H3
 fr:H l=none
 at':H3 l=some (.lst (ts.map V.ref))
 nl:l ∉ ts
 rws:K4 K H3 ts M
theorem aB5.next {H H3 H4:Hp} {l:Addr} {ts:List Addr} {M:List (List Rat)} (d:aB5 K H l ts M H3) (s:c5 H3 H4):aB5 K H l ts M H4:=⟨d.same.trans s,d.fr,s _ _ d.at',d.nl,d.rws.same s⟩
theorem bq4 {qa D:Addr} {ts:List Addr} {M:List (List Rat)} {H1:Hp} {Q:VK} (hA:SqL K H1 qa (ts.map V.ref)) (R:K4 K H1 ts M) (hD:H1 D=none) (hl:M.length<=50) (k:∀ H2,ax6 K H1 D M H2->Q (.ref D) H2):V7 (Itl K qa) D [none] (upd H1 D (.lst [])) (l9 0) (tCB (aL8 K) (J1 (G2 0) ae4)) Q:=by
 refine C4 (ts.map V.ref) (λj σ H3 => ∃ o,σ=[o]/\ax6 K H1 D (M.take j) H3) ⟨_,rfl,ax6.start hD⟩ (λj σ H3 _ ⟨o,_,T⟩=>T.same.seq hA) ?_ ?_
 ·rintro j x σ H3 hx ⟨o,rfl,T⟩
  have hj:=(q0f.mp hx).1;obtain ⟨pr,hpr,rfl⟩:=F2 hx;obtain ⟨ys,Lr,hLr,er,nr⟩:=R.get hpr
  subst_eqs
  refine ⟨ys,.inl (SqL.of (T.same _ _ er)),λl hl'=>?_⟩;obtain ⟨ys',eD,yl,T'⟩:=T.add hD hl' ⟨c5.new hl' (.lst ys),ys,b8,(nr.mono T.same.tups).mono (c5.new hl' _).tups⟩;refine m8.mk hj eD (p9 (by rw [yl,z0f];omega)) ⟨_,rfl,?_⟩
  rw [d6 hLr];exact T'
 ·rintro σ H3 ⟨o,rfl,T⟩
  rw [n9 (by rw [q0g,R.length];exact q0h _)] at T
  exact k H3 T
abbrev P1:Stmt:=top 62
theorem E8:i9 ["_law_table","_law_rows","_law_found","_law_i","_law_some","_law_k","_law_often"] ["_law_table"] (c6 P1):=by and_intros
theorem aI2 {f f1 f2 f3:Addr} (d:Df K mg "_law_det" P1 ["_law_table"] f) (G__law_times:Def P w K mg base CX0 2 "_law_times" f1 ["_law_one","_law_other_here"] (B8 K (· * ·))) (G__law_less:Def P w K mg base CX0 2 "_law_less" f2 ["_law_one","_law_other_here"] (B8 K (· - ·))) (G__law_over:Def P w K mg base CX0 2 "_law_over" f3 ["_law_one","_law_other_here"] (Y8 K)) (n_len:mg "len" = none) (n_range:mg "range" = none) (n_list:mg "list" = none) (n_zip:mg "zip" = none):Def P w K mg base CX0 3 "_law_det" f ["_law_table"] (aW2 K):=by
  refine d.ok (N:=["_law_table","_law_rows","_law_found","_law_i","_law_some","_law_k","_law_often"]) E8 (by rintro vs H Q E ⟨_,_,_,_,_,_,h,_⟩;rw [h];rfl) (λcdv A outer s H vs Q E hr h=>?_)
  obtain ⟨a,ts,M,n,B,W,rfl,hA,hR,ln,lm,B0,hBW,n14,hW,kk⟩:=h;have hu:=hr.units
  refine ⟨_, (b9 (h9 (i := 1) E8.nd rfl (Or.inr rfl) (t5 (Nc := ["_law_row"]) (caps := [none]) rfl (G3.of (osc := c6 P1) (N := ["_law_table", "_law_rows", "_law_found", "_law_i", "_law_some", "_law_k", "_law_often"]) (ks := []) rfl rfl rfl rfl j8 (by decide +kernel)) (z9 (pv 0)) (fun C s₂ H₂ fp pins => (c9 (i := 0) (show List.Nodup (["_law_row"] : List Str) by decide +kernel) rfl (Or.inl rfl) (Or.inr rfl))) (fun C s₂ H₂ fp pins => (p5 (by exact C5 : Y6 _ (.type "list") (aL8 K)) rfl n_list (by decide +kernel) (a8 (pv 0) b6)))))
      (b9 (h9 (i:=2) E8.nd rfl (Or.inl rfl) (j2 (a8 b7 (a8 b7 b6))))
      (b9 (Y4 PassesOwn.never rfl (A8 rfl n_range (a8 (g8 j5 rfl n_len (by decide +kernel) (a8 (pv 1) b6)) b6)) (c9 (i:=3) E8.nd rfl (Or.inr rfl)) (b9 (aE0 (i₀:=4) E8.nd rfl (Or.inl rfl) (Nc:=["_law_rows","_law_i","_law_k"]) (caps:=[some 1,some 3,none]) rfl (G3.of (osc:=c6 P1) (N:=["_law_table","_law_rows","_law_found","_law_i","_law_some","_law_k","_law_often"]) (ks:=["_law_rows","_law_i"]) rfl rfl rfl rfl (i8 rfl (i8 rfl j8)) (by decide +kernel)) (an1 rfl n_range (a8 (pv 3) (a8 (g8 j5 rfl n_len (by decide +kernel) (a8 (pv 1) b6)) b6))) (λC s₂ H₂ fp pins=>(c9 (i:=2) (show List.Nodup (["_law_rows","_law_i","_law_k"]:List Str) by decide +kernel) rfl (Or.inl rfl) (Or.inr rfl))) (λC s₂ H₂ fp pins=>(j1 al3 (i6 (by exact k7:IxR _ (aS4 K)) (i6 (by exact j3:IxR _ (ae3 K)) (i6 (by exact j3:IxR _ (ae3 K)) (pv 0) (pv 2) (λ_ _=>rfl)) (pv 1) (λ_ _=>rfl)) b7 (λ_ _=>rfl)) b7 (i5 _))) (λC s₂ H₂ fp pins=>(pv 2)))
      (b9 (A4 (j1 (aa6 hu) (pv 4) (w9 b6) (i5 _)) (c7 (i7 (j2 (a8 b7 (a8 b7 b6))))) m6)
      (b9 (A4 (j1 al3 (i6 j3 (pv 4) b7 (λ_ _=>rfl)) (pv 3) (i5 _)) (b9 (E5 (j2 (a8 (i6 j3 (pv 1) (i6 j3 (pv 4) b7 (λ_ _=>rfl)) (λ_ _=>rfl)) (a8 (i6 j3 (pv 1) (pv 3) (λ_ _=>rfl)) b6))) (show PG _ _ (T6 K 2 (r6 (aN0 _ _ as5) (r6 (aN0 _ _ as5) T9))) from by (refine C2 (n:=2) ?_ ?_ ?_ ?_;rfl;(refine i4 ?_ ?_ ?_;(exact (P2 (pv 1) (pv 3) E1));(refine i4 ?_ ?_ ?_;(exact (P2 (pv 1) (i6 j3 (pv 4) b7 (λ_ _=>rfl)) E1));(exact y3);rfl);rfl);rfl;rfl)))
      (c7 (h9 (i:=2) E8.nd rfl (Or.inl rfl) (j2 (a8 (d2 G8 b7 (i6 k7 (pv 2) b7 (λ_ _=>rfl))) (a8 (i6 k7 (pv 2) b7 (λ_ _=>rfl)) b6)))))) m6)
      (b9 (h9 (i:=2) E8.nd rfl (Or.inl rfl) (c8 G__law_times hr (a8 (pv 2) (a8 (i6 j3 (i6 j3 (pv 1) (pv 3) (λ_ _=>rfl)) (pv 3) (λ_ _=>rfl)) b6)) g9))
      (c7 (Y4 PassesOwn.never rfl (an1 rfl n_range (a8 (d2 y0 (pv 3) b7) (a8 (g8 j5 rfl n_len (by decide +kernel) (a8 (pv 1) b6)) b6))) (c9 (i:=5) E8.nd rfl (Or.inl rfl)) (b9 (h9 (i:=6) E8.nd rfl (Or.inr rfl) (c8 G__law_over hr (a8 (i6 j3 (i6 j3 (pv 1) (pv 5) (λ_ _=>rfl)) (pv 3) (λ_ _=>rfl)) (a8 (i6 j3 (i6 j3 (pv 1) (pv 3) (λ_ _=>rfl)) (pv 3) (λ_ _=>rfl)) b6)) g9))
      (c7 (E5 (t5 (Nc:=["_law_often","_law_a","_law_b"]) (caps:=[some 6,none,none]) rfl (G3.of (osc:=c6 P1) (N:=["_law_table","_law_rows","_law_found","_law_i","_law_some","_law_k","_law_often"]) (ks:=["_law_often"]) rfl rfl rfl rfl (i8 rfl j8) (by decide +kernel)) (aM3 rfl n_zip (a8 (i6 j3 (pv 1) (pv 5) (λ_ _=>rfl)) (a8 (i6 j3 (pv 1) (pv 3) (λ_ _=>rfl)) b6))) (λC s₂ H₂ fp pins=>(show PG _ _ (T6 K 2 (r6 (l9 1) (r6 (l9 2) T9))) from by (refine C2 (n:=2) ?_ ?_ ?_ ?_;rfl;(refine i4 ?_ ?_ ?_;(exact (c9 (i:=1) (show List.Nodup (["_law_often","_law_a","_law_b"]:List Str) by decide +kernel) rfl (Or.inl rfl) (Or.inr rfl)));(refine i4 ?_ ?_ ?_;(exact (c9 (i:=2) (show List.Nodup (["_law_often","_law_a","_law_b"]:List Str) by decide +kernel) rfl (Or.inl rfl) (Or.inr rfl)));(exact y3);rfl);rfl);rfl;rfl))) (λC s₂ H₂ fp pins=>(c8 G__law_less hr (a8 (pv 1) (a8 (c8 G__law_times hr (a8 (pv 0) (a8 (pv 2) b6)) g9) b6)) g9))) (P2 (pv 1) (pv 5) E1)))))))))))
      (c7 (i7 (pv 2)))))),?_⟩
  rw [show start ["_law_table","_law_rows","_law_found","_law_i","_law_some","_law_k","_law_often"] [.ref a]=[some (.ref a),none,none,none,none,none,none] from rfl]
  subst_eqs
  have lm1:∀ L ∈ M,L.length=n:=λL hL=>(lm L hL).1;have sc:Sc W (qq M):=aS2 B0 hBW λL hL=>(lm L hL).2;have bw:∀ k,k<=n->(W+4)*k<=900:=λk hk=>Nat.le_trans (Nat.mul_le_mul_left _ ⋯) hW;refine ⟨⟨_,hA⟩,λl hl=>bq4 hA hR hl ⋯ λH1 T=>⟨by decide,λp hp=>?_⟩⟩
  obtain ⟨S1,ts1,el1,n1,_,R1⟩:=T;obtain ⟨H2,y2,X2,g2⟩:=ar3 (.tup [.int 1,.int 1]) hp;rw [<- y2];obtain ⟨I,hI⟩:∃ I:Nat->L2.St->Hp->Prop,∀ i σ H3,I i σ H3 ↔ ∃ (ts':List Addr) (M':List (List Rat)) (B':Mt) (sg fd:Rat) (pf:Addr) (o3 o4 o5 o6:Option V),σ=[some (.ref a),some (.ref l),some (.ref pf),o3,o4,o5,o6]/\aB5 K H l ts' M' H3/\Ld W n (qq M) B' sg i M' fd/\H3 pf=some (.tup (t4 fd)):=⟨_,λ_ _ _=>Iff.rfl⟩;have lt1:ts1.length=n:=by rw [R1.length,ln]
  refine ⟨_,rfl,l,rfl,_,.inl (SqL.of (X2 _ _ el1)),_,rfl,?_,?_,Y0 I ((hI _ _ _).mpr ⟨ts1,M,qq M,1,1,p,_,_,_,_,rfl,⟨S1.trans X2,hl,X2 _ _ el1,λz=>(n1 l z).2 rfl,R1.same X2⟩,Ld.start ln lm1 sc,g2⟩) ?_ ?_⟩
  · omega
  · rw [List.length_map,lt1];omega
  · rintro i σ H3 hi h
    obtain ⟨ts',M',B',sg,fd,pf,o3,o4,o5,o6,rfl,D3,E3,ef⟩:=(hI _ _ _).mp h;rw [List.length_map,lt1] at hi;rw [Int.zero_add]
    have bit:∀ {k:Nat} {N:List (List Rat)} {B2:Mt} {s2 f2:Rat},Ld W n (qq M) B2 s2 k N f2->∀ x y,k<=x->x<n->y<n->BdN 901 (qq N x y):=λE x y h1 h2 h3=>by
      have b:=E.bits ⋯ h1 h2 h3;have le:2 ^ ((W+4)*(n+1))<2 ^ 901:=Nat.pow_lt_pow_right (by decide) ⋯
      exact ⟨Nat.lt_of_le_of_lt b.1 le,Nat.lt_of_le_of_lt b.2 le⟩
    refine f9 (λσ H4=>c5 H3 H4/\∃ (c:Addr) (ks:List Nat),σ=[some (.ref a),some (.ref l),some (.ref pf),some (.int i),some (.ref c),o5,o6]/\H4 c=some (.lst (ks.map λ(k:Nat)=>V.int (k:Int)))/\(∀ k ∈ ks,i<=k/\k<n/\qq M' k i ≠ 0)/\(ks=[]->∀ x,i<=x->x<n->qq M' x i=0)/\l ≠ c) (λN hN=>?_) ?_
    · subst_eqs
      have lts:=D3.rws.length;refine ⟨_,.inl (SqL.of D3.at'),⋯,⋯,⋯,by rw [List.length_map,lts,E3.len];omega,λD hD=>?_⟩
      rw [List.length_map,lts,E3.len,show ((n:Int)-(i:Int)).toNat=n-i by omega]
      obtain ⟨Pv,hPv⟩:∃ Pv:Nat->L2.St->Hp->Prop,∀ j σ H4,Pv j σ H4 ↔ c5 H3 H4/\∃ (o:Option V) (ks:List Nat),σ=[some (.ref l),some (.int i),o]/\H4 D=some (.lst (ks.map λ(k:Nat)=>V.int (k:Int)))/\(∀ k ∈ ks,i<=k/\k<n/\qq M' k i ≠ 0)/\ks.length<=j/\(ks=[]->∀ x,i<=x->x<i+j->qq M' x i=0):=⟨_,λ_ _ _=>Iff.rfl⟩;refine aN8 Pv ((hPv _ _ _).mpr ⟨c5.new hD _,_,[],rfl,b8,by simp,Nat.le_refl _,λ_ x h1 h2=>⋯⟩) ?_ ?_
      · rintro j σ H4 hj h
        obtain ⟨s4,o,ks,rfl,e4,k4,lk,z4⟩:=(hPv _ _ _).mp h;obtain ⟨q,xs,L,f1,f2,f3,f4,f5,f6,f7⟩:=D3.rws.at E3.len E3.row (i:=i+j) ⋯;have ei:=List.getElem?_eq_getElem (l:=L) (i:=i) ⋯;obtain ⟨pq,g1,g2⟩:=f5.get ei;have vq:qq M' (i+j) i=L[i]'⋯:=by rw [f7];unfold aQ;rw [ei];rfl
        rw [<- vq] at g2;have ij:(i:Int)+(j:Int)=((i+j:Nat):Int):=⋯
        subst_eqs
        refine ⟨_,s4.seq (SqL.of D3.at'),_,by rw [ij];exact p7 f1,q,rfl,xs,SqL.of (s4 _ _ f4),_,p7 g1,pq,rfl,_,(g2.mono s4.tups).sqt,_,at0 _,rfl,?_⟩
        rw [ij];refine B3 (λh1=>?_) (λh1=>?_)
        · have h0:qq M' (i+j) i ≠ 0:=λz=>h1 (by rw [z];rfl)
          refine m8.mk hj e4 (by rw [List.length_map];exact Nat.lt_of_lt_of_le (show _<100 by omega) (by decide)) ((hPv _ _ _).mpr ⟨s4.over hD _,_,ks ++ [i+j],rfl,by rw [b8,List.map_append];rfl,?_,by rw [List.length_append];show _+1<=_;omega,λz=>absurd z (by simp)⟩)
          intro k hk;rcases List.mem_append.mp hk with z | z
          · exact k4 k z
          · rw [List.mem_singleton.mp z];exact ⟨⋯,⋯,h0⟩
        · have h0:qq M' (i+j) i=0:=Classical.byContradiction λz=>h1 λy=>z (Rat.num_eq_zero.mp (V.int.inj y))
          refine aR1.mk hj ((hPv _ _ _).mpr ⟨s4,_,ks,rfl,e4,k4,⋯,λz x h2 h3=>?_⟩)
          by_cases y:x=i+j
          · rw [y];exact h0
          · exact z4 z x h2 ⋯
      · rintro σ H4 h
        obtain ⟨s4,o,ks,rfl,e4,k4,lk,z4⟩:=(hPv _ _ _).mp h;exact hN _ _ ⟨s4,D,ks,rfl,e4,k4,λz x h1 h2=>z4 z x h1 ⋯,d5 D3.at' hD⟩
    rintro σ H4 ⟨s4,c,ks,rfl,ec,k4,z4,lc⟩;have D4:=D3.next s4;have ef4:=s4 _ _ ef;refine f9 (λσ H5=>c5 H4 H5/\σ=[some (.ref a),some (.ref l),some (.ref pf),some (.int i),some (.ref c),o5,o6]/\ks ≠ []) (λN hN=>?_) ?_
    · subst_eqs
      refine ⟨Nat.zero_le _,λq hq=>?_⟩;obtain ⟨H5,y5,X5,g5⟩:=ar3 (.lst []) hq;rw [<- y5];refine ⟨.lst (ks.map λ(k:Nat)=>.v (.int (k:Int))),.lst [],rfl,.lst (SqL.of (X5 _ _ ec)) (az8 ks),.lst (SqL.of g5) .nil,aY1 ks,bf8 ks,_,rfl,?_⟩;rw [ba9];refine B3 (λh1=>⟨by decide,λr hr=>?_⟩) (λh1=>hN _ _ ⟨X5,rfl,λz=>h1 (by rw [z];rfl)⟩)
      have z0:dt n (qq M)=0:=E3.stuck hi (z4 (List.isEmpty_iff.mp h1));refine kk r _ ((D4.same.trans X5).trans (c5.new hr _)) ?_;rw [b8,z0];rfl
    rintro σ H5 ⟨s5,rfl,kn⟩
    obtain ⟨s,ks',rfl⟩:∃ s ks',ks=s :: ks':=by
      cases ks with
      | nil=>exact absurd rfl kn
      | cons s ks'=>exact ⟨s,ks',rfl⟩
    obtain ⟨is,sn,q0⟩:=k4 s List.mem_cons_self;have D5:=D4.next s5;have ec5:=s5 _ _ ec;have ef5:=s5 _ _ ef4;have lts:=D3.rws.length;have a0:atI ((s :: ks').map λ(k:Nat)=>V.int (k:Int)) 0=some (.int (s:Int)):=p7 (j:=0) rfl;refine f9 (λσ H6 => ∃ (ts2:List Addr) (M2:List (List Rat)) (B2:Mt) (sg2 fd2:Rat) (pf2:Addr),σ=[some (.ref a),some (.ref l),some (.ref pf2),some (.int i),some (.ref c),o5,o6]/\aB5 K H l ts2 M2 H6/\Ld W n (qq M) B2 sg2 i M2 fd2/\H6 pf2=some (.tup (t4 fd2))/\qq M2 i i ≠ 0) (λN hN=>?_) ?_
    · subst_eqs
      obtain ⟨q,xs,L,f1,f2,f3,f4,f5,f6,f7⟩:=D5.rws.at E3.len E3.row (i:=i) hi;obtain ⟨q',xs',L',f1',f2',f3',f4',f5',f6',f7'⟩:=D5.rws.at E3.len E3.row (i:=s) sn;refine ⟨_,SqL.of ec5,.int (s:Int),a0,rfl,?_⟩;refine B3 (λh1=>?_) (λh1=>?_)
      · have si:i ≠ s:=λz=>h1 (by rw [z])
        refine ⟨_,SqL.of ec5,.int (s:Int),a0,_,_,rfl,SqL.of D5.at',_,p7 f1',_,SqL.of D5.at',_,p7 f1,by decide,λr hr=>?_⟩
        obtain ⟨H6,y6,X6,g6⟩:=ar3 (.tup [V.ref q',V.ref q]) hr;rw [<- y6];have e6:=X6 _ _ D5.at';have lt':(ts'.map V.ref).length=n:=by rw [List.length_map,lts,E3.len]
        have fl:pf ≠ l:=λz=>by rw [z,D5.at'] at ef5;cases ef5
        have si':i<s:=⋯
        have nl2:l ∉ (ts'.set i q').set s q:=λz=>by
          rcases List.mem_or_eq_of_mem_set z with z | z
          · rcases List.mem_or_eq_of_mem_set z with z | z
            · exact D5.nl z
            · exact D5.nl (z ▸ List.mem_of_getElem? f2')
          · exact D5.nl (z ▸ List.mem_of_getElem? f2)
        have ml:(M'.set i L').length=n:=by rw [List.length_set,E3.len]
        have qe:∀ x y,qq ((M'.set i L').set s L) x y=if x=i then qq M' s y else if x=s then qq M' i y else qq M' x y:=λx y=>by
          rw [aM1 (by rw [ml];exact sn),aM1 (by rw [E3.len];exact hi),f7,f7']
          by_cases z:x=s
          · rw [if_pos z,if_neg ⋯,if_pos z]
          · rw [if_neg z,if_neg z]
        have rl:∀ N ∈ (M'.set i L').set s L,N.length=n:=λN hN=>by
          rcases List.mem_or_eq_of_mem_set hN with z | z
          · rcases List.mem_or_eq_of_mem_set z with z | z
            · exact E3.row N z
            · rw [z];exact f6'
          · rw [z];exact f6
        have pf8:∀ o1 o2,upd (upd H6 l o1) l o2 pf=some (.tup (t4 fd)):=λo1 o2=>by rw [d4 fl,d4 fl];exact X6 _ _ ef5
        refine ⟨_,SqT.of g6,rfl,_,_,rfl,_,e6,i,V4 (by rw [lt'];exact hi),_,_,rfl,_,SqL.of (show _=some (HO.lst ((s :: ks').map λ(k:Nat)=>V.int (k:Int))) by rw [d4 (Ne.symm lc)];exact X6 _ _ ec5),_,a0,_,_,rfl,b8,s,V4 (by rw [List.length_set,lt'];exact sn),rfl,_,SqT.of (pf8 _ _),_,at0 _,_,rfl,_,SqT.of (pf8 _ _),_,at1 _,by decide,λr2 hr2=>?_⟩
        have S8:c5 H _:=((D5.same.trans X6).over D5.fr (.lst ((ts'.map V.ref).set i (V.ref q')))).over D5.fr (.lst (((ts'.map V.ref).set i (V.ref q')).set s (V.ref q)));have em:((ts'.map V.ref).set i (V.ref q')).set s (V.ref q)=((ts'.set i q').set s q).map V.ref:=by rw [List.map_set,List.map_set]
        have R8:=((((D5.rws.same X6).set i (X6 _ _ f4') (f5'.mono X6.tups)).set s (X6 _ _ f4) (f5.mono X6.tups)).over (o:=.lst ((ts'.map V.ref).set i (V.ref q'))) e6 nl2).over (o:=.lst (((ts'.map V.ref).set i (V.ref q')).set s (V.ref q))) b8 nl2;have X9:=c5.new hr2 (.tup [V.int (0-fd.num),V.int (fd.den:Int)]);refine hN _ _ ⟨_,(M'.set i L').set s L,_,_,-fd,r2,rfl,⟨S8.trans X9,D5.fr,?_,nl2,R8.same X9⟩,E3.swap si' sn (by rw [List.length_set,ml]) rl qe,?_,?_⟩
        · refine X9 _ _ ?_
          rw [b8,em]
        · rw [b8]
          unfold t4;rw [Rat.neg_num,Rat.neg_den,Int.zero_sub]
        · rw [qe,if_pos rfl];exact q0
      · have si:s=i:=Classical.byContradiction λz=>h1 λy=>z (by have:=V.int.inj y;omega)
        rw [si] at q0;exact hN _ _ ⟨ts',M',B',sg,fd,pf,rfl,D5,E3,ef5,q0⟩
    rintro σ H6 ⟨ts2,M2,B2,sg2,fd2,pf2,rfl,D6,E6,ef6,q2⟩
    simp! [B8]
    obtain ⟨q,xs,L,f1,f2,f3,f4,f5,f6,f7⟩:=D6.rws.at E6.len E6.row (i:=i) hi;have ei:=List.getElem?_eq_getElem (l:=L) (i:=i) ⋯;obtain ⟨pq,g1,gq⟩:=f5.get ei;have vq:qq M2 i i=L[i]'⋯:=by rw [f7];unfold aQ;rw [ei];rfl
    rw [<- vq] at gq
    have bf:BdN 901 fd2:=by
      have b:=E6.fbits ⋯ ⋯;have le:2 ^ ((W+4)*n)<2 ^ 901:=Nat.pow_lt_pow_right (by decide) (by have:=bw n (Nat.le_refl _);omega)
      exact ⟨Nat.lt_of_le_of_lt b.1 le,Nat.lt_of_le_of_lt b.2 le⟩
    have bii:=bit E6 i i (Nat.le_refl _) hi hi;refine ⟨_,SqL.of D6.at',_,p7 f1,q,rfl,xs,SqL.of f4,_,p7 g1,fd2,⟨_,rfl,SqT.of ef6⟩,qq M2 i i,⟨_,rfl,gq.sqt⟩,901,bf.t ⋯,901,bii.t ⋯,⋯,λr H7 s7 er=>?_⟩;have D7:=D6.next s7;have lt2:(ts2.map V.ref).length=n:=by rw [List.length_map,D6.rws.length,E6.len]
    obtain ⟨J,hJ⟩:∃ J:Nat->L2.St->Hp->Prop,∀ j σ H8,J j σ H8 ↔ ∃ (ts3:List Addr) (M3:List (List Rat)) (o5 o6:Option V),σ=[some (.ref a),some (.ref l),some (.ref r),some (.int i),some (.ref c),o5,o6]/\aB5 K H l ts3 M3 H8/\M3.length=n/\(∀ N ∈ M3,N.length=n)/\H8 r=some (.tup (t4 (fd2*qq M2 i i)))/\∀ x y,y<n->qq M3 x y=if i<x/\x<i+1+j then qq M2 x y-qq M2 x i*(qq M2 i i)⁻¹*qq M2 i y else qq M2 x y:=⟨_,λ_ _ _=>Iff.rfl⟩;refine ⟨_,rfl,_,_,rfl,rfl,_,rfl,l,rfl,_,.inl (SqL.of D7.at'),_,_,rfl,⟨⋯,⋯,⋯,by rw [lt2];omega⟩,Y0 J ((hJ _ _ _).mpr ⟨ts2,M2,_,_,rfl,D7,E6.len,E6.row,er,λx y _=>by rw [if_neg ⋯]⟩) ?_ ?_⟩
    · rintro j σ H8 hj h
      obtain ⟨ts3,M3,o5',o6',rfl,D8,l8,r8,er8,v8⟩:=(hJ _ _ _).mp h;rw [lt2] at hj;have hk:i+1+j<n:=⋯;have ek:(i:Int)+1+(j:Int)=((i+1+j:Nat):Int):=⋯;rw [ek];obtain ⟨k,hkk⟩:∃ k,k=i+1+j:=⟨_,rfl⟩;rw [<- hkk];have lt3:(ts3.map V.ref).length=n:=by rw [List.length_map,D8.rws.length,l8]
      obtain ⟨q,xs,L,f1,f2,f3,f4,f5,f6,f7⟩:=D8.rws.at l8 r8 (i:=i) hi;obtain ⟨q',xs',L',f1',f2',f3',f4',f5',f6',f7'⟩:=D8.rws.at l8 r8 (i:=k) ⋯;have vL:∀ y,y<n->aQ L y=qq M2 i y:=λy hy=>by rw [<- f7,v8 i y hy,if_neg ⋯]
      have vL':∀ y,y<n->aQ L' y=qq M2 k y:=λy hy=>by rw [<- f7',v8 k y hy,if_neg ⋯]
      have at2:∀ {xs:List V} {L:List Rat},w4 K H8 xs L->L.length=n->∀ y,y<n->∃ py,xs[y]? = some (.ref py)/\NmC K H8 py (aQ L y):=λhN hl y hy=>by
        rename_i xs L
        have ey:=List.getElem?_eq_getElem (l:=L) (i:=y) ⋯;obtain ⟨py,g1,g2⟩:=hN.get ey;exact ⟨py,g1,by unfold aQ;rw [ey];exact g2⟩
      obtain ⟨p1,g1,h1⟩:=at2 f5' f6' i hi;obtain ⟨p2,g2,h2⟩:=at2 f5 f6 i hi;rw [vL' i hi] at h1;rw [vL i hi] at h2;have bki:=bit E6 k i ⋯ ⋯ hi
      simp! [Y8]
      refine ⟨_,SqL.of D8.at',_,p7 f1',q',rfl,_,SqL.of f4',_,p7 g1,_,SqL.of D8.at',_,p7 f1,q,rfl,_,SqL.of f4,_,p7 g2,_,⟨_,rfl,h1.sqt⟩,_,⟨_,rfl,h2.sqt⟩,901,bki.t ⋯,q2,901,bii.n,V6 bii.d ⋯,⋯,λro H9 s9 eo=>?_⟩;obtain ⟨tt,htt⟩:∃ tt,tt=qq M2 k i / qq M2 i i:=⟨_,rfl⟩;rw [<- htt] at eo;have bt:BdN 1802 tt:=by rw [htt,Rat.div_def];exact bki.mul (bii.inv q2)
      obtain ⟨NR,hNR⟩:∃ NR,NR=(List.range n).map λy=>qq M2 k y-tt*qq M2 i y:=⟨_,rfl⟩;have nl:NR.length=n:=by rw [hNR,List.length_map,List.length_range]
      have nv:∀ y,y<n->NR[y]? = some (qq M2 k y-tt*qq M2 i y):=λy hy=>by rw [hNR,List.getElem?_map,List.getElem?_range hy];rfl
      have lx':xs'.length=n:=by rw [f5'.length,f6']
      have lx:xs.length=n:=by rw [f5.length,f6]
      refine ⟨_,SqL.of (s9 _ _ D8.at'),_,p7 f1',_,SqL.of (s9 _ _ D8.at'),_,p7 f1,q',rfl,q,rfl,⟨_,SqL.of (s9 _ _ f4')⟩,⟨_,SqL.of (s9 _ _ f4)⟩,λD hD=>?_⟩;have mn:min xs'.length xs.length=n:=⋯;obtain ⟨Pv,hPv⟩:∃ Pv:Nat->L2.St->Hp->Prop,∀ y σ H10,Pv y σ H10 ↔ ∃ (o1 o2:Option V),σ=[some (.ref ro),o1,o2]/\ao8 K H9 D (NR.take y) H10:=⟨_,λ_ _ _=>Iff.rfl⟩;refine aN7 xs' xs Pv ((hPv _ _ _).mpr ⟨_,_,rfl,ao8.start hD⟩) (λy σ H10 h=>?_) ?_ ?_
      · obtain ⟨_,_,_,R⟩:=(hPv _ _ _).mp h
        exact ⟨SqL.of (R.same _ _ (s9 _ _ f4')),SqL.of (R.same _ _ (s9 _ _ f4))⟩
      · rintro y vx vy σ H10 pp hx hy h hpp
        obtain ⟨o1,o2,rfl,R⟩:=(hPv _ _ _).mp h;have yn:y<n:=by have:=(List.getElem?_eq_some_iff.mp hx).1;omega
        obtain ⟨pa,ga,ha⟩:=at2 f5' f6' y yn;obtain ⟨pb,gb,hb⟩:=at2 f5 f6 y yn;rw [vL' y yn] at ha;rw [vL y yn] at hb;rw [ga] at hx;rw [gb] at hy
        cases hx
        cases hy
        obtain ⟨H11,y11,X11,g11⟩:=ar3 (.tup [V.ref pa,V.ref pb]) hpp;rw [<- y11];have S:=(s9.trans R.same).trans X11;have bky:=bit E6 k y ⋯ ⋯ yn;have biy:=bit E6 i y (Nat.le_refl _) hi yn
        simp! [B8]
        refine ⟨_,SqT.of g11,rfl,_,_,rfl,_,_,rfl,rfl,?_⟩;refine ⟨tt,⟨_,rfl,SqT.of ((R.same.trans X11) _ _ eo)⟩,_,⟨_,rfl,(hb.mono S.tups).sqt⟩,1802,bt.t ⋯,901,biy.t ⋯,⋯,λr1 H12 s12 e12=>?_⟩;refine ⟨_,⟨_,rfl,((ha.mono S.tups).mono s12.tups).sqt⟩,_,⟨_,rfl,SqT.of e12⟩,901,bky.t ⋯,2703,(bt.mul biy).t ⋯,⋯,λr2 H13 s13 e13=>?_⟩;obtain ⟨ys,eD,yl,R'⟩:=R.add hD ((X11.trans s12).trans s13) (Or.inl e13);refine m8.mk (by rw [mn];exact yn) eD (p9 (by rw [yl,List.length_take];omega)) ((hPv _ _ _).mpr ⟨_,_,rfl,?_⟩)
        rw [d6 (nv y yn)];exact R'
      · intro σ H10 h
        obtain ⟨o1,o2,rfl,R⟩:=(hPv _ _ _).mp h;rw [n9 (by rw [mn,nl];exact Nat.le_refl _)] at R
        obtain ⟨s10,ys,eD,nD⟩:=R;have S10:=s9.trans s10;have D10:=D8.next S10;have lD:l ≠ D:=d5 (s9 _ _ D8.at') hD;have rl:r ≠ l:=λz=>by rw [z,D8.at'] at er8;cases er8
        have nl2:l ∉ ts3.set k D:=λz=>by
          rcases List.mem_or_eq_of_mem_set z with z | z
          · exact D8.nl z
          · exact lD z
        refine ⟨_,D10.at',k,V4 (by rw [lt3];omega),(hJ _ _ _).mpr ⟨ts3.set k D,M3.set k NR,_,_,rfl,⟨D10.same.over D10.fr _,D10.fr,by rw [b8,List.map_set],nl2,((D10.rws.set k eD nD).over D10.at' nl2)⟩,by rw [List.length_set,l8],λN hN=>?_,by rw [d4 rl];exact S10 _ _ er8,λx y hy=>?_⟩⟩
        · rcases List.mem_or_eq_of_mem_set hN with z | z
          · exact r8 N z
          · rw [z];exact nl
        · rw [aM1 (by rw [l8];omega)]
          by_cases z:x=k
          · rw [if_pos z,z,if_pos ⋯]
            unfold aQ;rw [nv y hy,htt,Rat.div_def];rfl
          · rw [if_neg z,v8 x y hy]
            by_cases w:i<x/\x<i+1+j
            · rw [if_pos w,if_pos ⋯]
            · rw [if_neg w,if_neg ⋯]
    · intro σ H8 h
      obtain ⟨ts3,M3,o5',o6',rfl,D8,l8,r8,er8,v8⟩:=(hJ _ _ _).mp h;rw [lt2] at v8;refine (hI _ _ _).mpr ⟨ts3,M3,B2,sg2,_,r,_,_,_,_,rfl,D8,E6.step hi q2 l8 r8 λx y h1 h2 h3=>?_,er8⟩;rw [v8 x y h3,if_pos ⋯]
  · intro σ H3 h
    obtain ⟨ts',M',B',sg,fd,pf,o3,o4,o5,o6,rfl,D3,E3,ef⟩:=(hI _ _ _).mp h;rw [List.length_map,lt1] at E3
    subst_eqs
    refine kk pf H3 D3.same ?_;rw [ef,E3.done]
def aH4:Sp:=λvs H Q _ => ∃ (a:Addr) (ts:List Addr) (M:List (List Rat)),vs=[.ref a]/\H a=some (.lst (ts.map V.ref))/\Rws H ts M/\M.length<=7/\aG2 H Q M
abbrev O1:Stmt:=top 68
theorem as4:i9 ["_law_table"] ["_law_table"] (c6 O1):=by and_intros
theorem at7 {f:Addr} (d:Df K mg "_law_copied" O1 ["_law_table"] f) (n_list:mg "list" = none):Def P w K mg base CX0 1 "_law_copied" f ["_law_table"] aH4:=by
 refine d.ok (N:=["_law_table"]) as4 (by rintro vs H Q E ⟨_,_,_,h,_⟩;rw [h];rfl) (λcdv A outer s H vs Q E hr h=>?_)
 obtain ⟨a,ts,M,rfl,ha,hR,m7,k1⟩:=h;refine ⟨_,(c7 (i7 (t5 (Nc:=["_law_row"]) (caps:=[none]) rfl (G3.of (osc:=c6 O1) (N:=["_law_table"]) (ks:=[]) rfl rfl rfl rfl j8 (by decide +kernel)) (z9 (pv 0)) (λC s₂ H₂ fp pins=>(c9 (i:=0) (show z0q (["_law_row"]:List Str) by decide +kernel) rfl (q0z rfl) (j0b rfl))) (λC s₂ H₂ fp pins=>(p5 (by exact C5:Y6 _ (.type "list") (aL8 K)) rfl n_list (by decide +kernel) (a8 (pv 0) b6)))))),?_⟩
 rw [show start ["_law_table"] [.ref a]=[some (.ref a)] from rfl]
 subst_eqs
 have hRl:=hR.length;refine ⟨⟨_,SqL.of ha⟩,λD hD=>?_⟩;refine C4 (ts.map V.ref) (λi σ H2 => ∃ o1,σ=[o1]/\F8 H D (M.take i) H2) ⟨_,rfl,F8.start hD⟩ (λi σ H2 _ ⟨_,_,T⟩=>SqL.of (T.same _ _ ha)) ?_ ?_
 ·rintro i x σ H2 hx ⟨o1,rfl,T⟩
  have hi:=(q0f.mp hx).1;obtain ⟨t,ht,rfl⟩:=F2 hx;obtain ⟨xs,L,hL,et,nt⟩:=hR.get ht
  subst_eqs
  refine ⟨xs,.inl (SqL.of (T.same _ _ et)),λl fl=>?_⟩;obtain ⟨zs,eD,yl,T'⟩:=T.add hD fl ⟨c5.new fl _,xs,b8,nt.mono (T.same.trans (c5.new fl _)).tups⟩;refine m8.mk hi eD (p9 (by rw [yl,z0f];omega)) ⟨_,rfl,?_⟩
  rw [d6 hL];exact T'
 ·rintro σ H2 ⟨o1,rfl,T⟩
  rw [n9 (by rw [q0g];omega)] at T
  exact T.res k1 hD
theorem bn0 {q:Rat} {b:Nat} (s:BdN b q) (h:q ≠ 0):∃ q',t4 q'=[.int (if q.num<0 then -q.num else q.num),.int (q.den:Int)]/\BdN b q'/\q' ≠ 0:=by
 by_cases hs:0<=q.num
 ·exact ⟨q,by unfold t4;rw [if_neg ⋯],s,h⟩
 ·refine ⟨-q,by unfold t4;rw [u0f,g0a,if_pos ⋯],⟨by rw [u0f,v0k];exact s.n,by rw [g0a];exact s.d⟩,λz=>h ?_⟩
  grind
abbrev X1:Stmt:=top 54
theorem ai4:i9 ["_law_urn_here","_law_kind_here","_law_found"] ["_law_urn_here","_law_kind_here"] (c6 X1):=by and_intros
theorem au0 {f f1:Addr} (d:Df K mg "_law_above" X1 ["_law_urn_here","_law_kind_here"] f) (GD__law_other:Def P w K mg base CX0 3 "_law_other" f1 ["_law_urn_here","_law_kind_here"] Y3) (n_abs:mg "abs" = none):Def P w K mg base CX0 4 "_law_above" f ["_law_urn_here","_law_kind_here"] Y3:=by
 refine d.ok (N:=["_law_urn_here","_law_kind_here","_law_found"]) ai4 (by rintro vs H Q E ⟨_,_,h,_⟩;rw [h];rfl) (λcdv A outer s H vs Q E hr h=>?_)
 obtain ⟨u,kd,rfl,hu,k⟩:=h;have G__law_other:=GD__law_other
 refine ⟨_,(b9 (h9 (i:=2) ai4.nd rfl (q0z rfl) (c8 G__law_other hr (a8 (pv 0) (a8 (pv 1) b6)) g9))
   (c7 (i7 (j2 (a8 (g8 ac3 rfl n_abs (by decide +kernel) (a8 (i6 k7 (pv 2) b7 (λ_ _=>rfl)) b6)) (a8 (i6 k7 (pv 2) b7 (λ_ _=>rfl)) b6)))))),?_⟩
 rw [show start ["_law_urn_here","_law_kind_here","_law_found"] [.ref u,.int kd]=[some (.ref u),some (.int kd),none] from rfl]
 subst_eqs
 refine ⟨u,kd,rfl,hu,λr q H1 sm q0 s1 u1 e1=>?_⟩;obtain ⟨q',e',b',z'⟩:=bn0 sm q0;refine ⟨r,rfl,_,SqT.of e1,_,at0 q,_,rfl,r,rfl,_,SqT.of e1,_,at1 q,t9,λp hp=>?_⟩;refine k p q' _ b' z' (s1.trans (c5.x (c5.new hp _) u)) (K1 u1 hp) ?_;rw [b8,e']
def aL5 (K:q0a):Sp:=λvs H Q _ => ∃ x q,vs=[x]/\Num K H x q/\∀ i:Int,-1<=i->i<=1->Q (.int i) H
abbrev Z0:Stmt:=top 50
theorem aC8:i9 ["_law_number_here"] ["_law_number_here"] (c6 Z0):=by and_intros
theorem aE6 {f:Addr} (d:Df K mg "_law_sign" Z0 ["_law_number_here"] f) (n_int:mg "int" = none):Def P w K mg base CX0 1 "_law_sign" f ["_law_number_here"] (aL5 K):=by
 refine d.ok (N:=["_law_number_here"]) aC8 (by rintro vs H Q E ⟨_,_,h,_⟩;rw [h];rfl) (λcdv A outer s H vs Q E hr h=>?_)
 obtain ⟨x,q,rfl,⟨a,rfl,ha⟩,k⟩:=h;refine ⟨_,(c7 (i7 (d2 G8 (p5 C8 rfl n_int (by decide +kernel) (a8 (y4 ae2 (i6 k7 (pv 0) b7 (λ_ _=>rfl)) b7 (i5 _)) b6)) (p5 C8 rfl n_int (by decide +kernel) (a8 (y4 ab6 (i6 k7 (pv 0) b7 (λ_ _=>rfl)) b7 (i5 _)) b6))))),?_⟩
 rw [show start ["_law_number_here"] [.ref a]=[some (.ref a)] from rfl]
 subst_eqs
 refine ⟨_,ha,_,at0 q,_,rfl,_,ha,_,at0 q,_,rfl,k _ ?_ ?_⟩
 ·split <;> split <;> omega
 ·split <;> split <;> omega
structure ai6 (u:Addr) (H:Hp) (t l rt:Addr) (xs:List V) (fs:List Rat) (i j m:Int) (C:Nat):Prop where
 tu:t ≠ u
 et:H t=some (.tup [.ref l,.ref rt])
 ls:LsX u H l xs fs
 ru:rt ≠ u
 er:H rt=some (.tup [.int i,.int j,.int m])
 l2:2<=fs.length
 l5:fs.length<=5
 C0:0<C
 C1:C<2 ^ 12
 ov:∀ x ∈ fs,OvB C 14 x
 last:fs[fs.length-1]? = some 1
theorem Z9 {q:Rat} {b:Nat} (h:BdN b q):OvB q.den b q:=⟨q.num,(z0h q).symm,h.n⟩
theorem ar1 {C:Nat} (hC:0<C) {W:Nat} (h:C<2 ^ W):OvB C W 1:=by
 refine ⟨C,?_,by rw [q0y];exact h⟩
 have hz:(C:Int) ≠ 0:=⋯;exact (Rat.divInt_self' hz).symm
theorem be1 {v:Int} {W:Nat} (h:v.natAbs<2 ^ W):OvB 1 W (v:Rat):=by
 refine ⟨v,?_,h⟩;have:=z0h (v:Rat);rw [Rat.num_intCast,Rat.den_intCast] at this;exact this.symm
theorem ab3:(3:Nat)<=sizeLine:=by decide
theorem bo7 {P:Rat->Prop} {a b c:Rat} (ha:P a) (hb:P b) (hc:P c):∀ x ∈ [a,b,c],P x:=λx hx=>by
 simp only [z0d,g0t,or_false] at hx;rcases hx with rfl | rfl | rfl
 ·exact ha
 ·exact hb
 ·exact hc
theorem br5 {P:Rat->Prop} {a b:Rat} (ha:P a) (hb:P b):∀ x ∈ [a,b],P x:=λx hx=>by
 simp only [z0d,g0t,or_false] at hx;rcases hx with rfl | rfl
 ·exact ha
 ·exact hb
theorem den_pos (q:Rat):0<q.den:=by have:=q.den_nz;omega
def aH3 (K:q0a):Sp:=λvs H Q _ => ∃ u kd,vs=[.ref u,.int kd]/\j7 H u/\(kd=0 \/ kd=1)/\∀ t l rt xs fs i j m C H',j9 u H H'->j7 H' u->ai6 u H' t l rt xs fs i j m C->Q (.ref t) H'
abbrev U4:Stmt:=top 60
theorem B6:i9 ["_law_urn_here","_law_kind_here","_law_way","_law_v","_law_root","_law_sign_here","_law_u","_law_found"] ["_law_urn_here","_law_kind_here"] (c6 U4):=by and_intros
theorem at6 {f f1 f3 f4 f5 f6 f7:Addr} (d:Df K mg "_law_factor" U4 ["_law_urn_here","_law_kind_here"] f) (G__law_draw:Def P w K mg base CX0 1 "_law_draw" f1 ["_law_urn_here","_law_many"] C9) (G__law_times:Def P w K mg base CX0 2 "_law_times" f3 ["_law_one","_law_other_here"] (B8 K (· * ·))) (G__law_plus:Def P w K mg base CX0 2 "_law_plus" f4 ["_law_one","_law_other_here"] (B8 K (· + ·))) (GD__law_number:Def P w K mg base CX0 2 "_law_number" f5 ["_law_urn_here","_law_kind_here"] P4) (GD__law_above:Def P w K mg base CX0 4 "_law_above" f6 ["_law_urn_here","_law_kind_here"] Y3) (G__law_sign:Def P w K mg base CX0 1 "_law_sign" f7 ["_law_number_here"] (aL5 K)) (n_int:mg "int" = none):Def P w K mg base CX0 5 "_law_factor" f ["_law_urn_here","_law_kind_here"] (aH3 K):=by
 refine d.ok (N:=["_law_urn_here","_law_kind_here","_law_way","_law_v","_law_root","_law_sign_here","_law_u","_law_found"]) B6 (by rintro vs H Q E ⟨_,_,h,_⟩;rw [h];rfl) (λcdv A outer s H vs Q E hr h=>?_)
 obtain ⟨u,kd,rfl,hU,hk,k⟩:=h;have G__law_number:=GD__law_number;have G__law_above:=GD__law_above;have hb:bK kd=4:=by rcases hk with rfl | rfl <;> rfl
 refine ⟨_,(b9 (h9 (i:=2) B6.nd rfl (q0z rfl) (c8 G__law_draw hr (a8 (pv 0) (a8 b7 b6)) g9))
   (b9 (A4 (j1 ab6 (pv 2) b7 (i5 _)) (b9 (h9 (i:=4) B6.nd rfl (q0z rfl) (c8 G__law_number hr (a8 (pv 0) (a8 (pv 1) b6)) g9))
   (b9 (h9 (i:=5) B6.nd rfl (q0z rfl) (c8 G__law_sign hr (a8 (pv 4) b6) g9))
   (c7 (i7 (j2 (a8 (w9 (a8 (j2 (a8 (d2 G8 b7 (i6 k7 (pv 4) b7 (λ_ _=>rfl))) (a8 (i6 k7 (pv 4) b7 (λ_ _=>rfl)) b6))) (a8 (j2 (a8 b7 (a8 b7 b6))) b6))) (a8 (j2 (a8 (p5 C8 rfl n_int (by decide +kernel) (a8 (y4 ab6 (pv 5) b7 (i5 _)) b6)) (a8 (p5 C8 rfl n_int (by decide +kernel) (a8 (y4 R3 (pv 5) b7 (i5 _)) b6)) (a8 (p5 C8 rfl n_int (by decide +kernel) (a8 (y4 ae2 (pv 5) b7 (i5 _)) b6)) b6)))) b6))))))) m6)
   (b9 (h9 (i:=3) B6.nd rfl (q0z rfl) (c8 G__law_above hr (a8 (pv 0) (a8 (pv 1) b6)) g9))
   (b9 (A4 (j1 ab6 (pv 2) b7 (i5 _)) (b9 (h9 (i:=6) B6.nd rfl (q0z rfl) (as9 (j1 ab6 (pv 2) b7 (i5 _)) (c8 G__law_number hr (a8 (pv 0) (a8 (pv 1) b6)) g9) (j2 (a8 b7 (a8 b7 b6)))))
   (b9 (h9 (i:=5) B6.nd rfl (q0z rfl) (c8 G__law_sign hr (a8 (pv 6) b6) g9))
   (b9 (h9 (i:=7) B6.nd rfl (q0z rfl) (w9 (a8 (c8 G__law_plus hr (a8 (c8 G__law_times hr (a8 (pv 6) (a8 (pv 6) b6)) g9) (a8 (pv 3) b6)) g9) (a8 (c8 G__law_times hr (a8 (j2 (a8 (ae9 Y1 b7) (a8 b7 b6))) (a8 (pv 6) b6)) g9) (a8 (j2 (a8 b7 (a8 b7 b6))) b6)))))
   (c7 (i7 (j2 (a8 (pv 7) (a8 (j2 (a8 (d2 t3 b7 (p5 C8 rfl n_int (by decide +kernel) (a8 (y4 ab6 (pv 5) b7 (i5 _)) b6))) (a8 (d2 t3 b7 (p5 C8 rfl n_int (by decide +kernel) (a8 (y4 R3 (pv 5) b7 (i5 _)) b6))) (a8 (d2 t3 b7 (p5 C8 rfl n_int (by decide +kernel) (a8 (y4 ae2 (pv 5) b7 (i5 _)) b6))) b6)))) b6)))))))) m6)
   (b9 (A4 (j1 R3 (pv 2) b7 (i5 _)) (c7 (i7 (j2 (a8 (w9 (a8 (j2 (a8 (d2 G8 b7 (i6 k7 (pv 3) b7 (λ_ _=>rfl))) (a8 (i6 k7 (pv 3) b7 (λ_ _=>rfl)) b6))) (a8 (j2 (a8 b7 (a8 b7 b6))) (a8 (j2 (a8 b7 (a8 b7 b6))) b6)))) (a8 (j2 (a8 b7 (a8 b7 (a8 b7 b6)))) b6))))) m6)
   (c7 (i7 (j2 (a8 (w9 (a8 (pv 3) (a8 (j2 (a8 b7 (a8 b7 b6))) (a8 (j2 (a8 b7 (a8 b7 b6))) (a8 (j2 (a8 b7 (a8 b7 b6))) (a8 (j2 (a8 b7 (a8 b7 b6))) b6)))))) (a8 (j2 (a8 b7 (a8 b7 (a8 b7 b6)))) b6)))))))))),?_⟩
 rw [show start ["_law_urn_here","_law_kind_here","_law_way","_law_v","_law_root","_law_sign_here","_law_u","_law_found"] [.ref u,.int kd]=[some (.ref u),some (.int kd),none,none,none,none,none,none] from rfl]
 refine f9 (λσ H1 => ∃ wy:Int,σ=[some (.ref u),some (.int kd),some (.int wy),none,none,none,none,none]/\j9 u H H1/\j7 H1 u/\0<=wy/\wy<8) (λN hN=>?_) ?_
 ·simp! [C9]
  exact ⟨hU,by decide,by decide,λr H1 r0 r7 s1 u1=>hN _ _ ⟨r,rfl,s1,u1,r0,r7⟩⟩
 rintro σ H1 ⟨wy,rfl,s1,u1,w0,w8⟩;refine f9 (λσ H2=>σ=[some (.ref u),some (.int kd),some (.int wy),none,none,none,none,none]/\H1=H2) (λN hN=>?_) ?_
 ·subst_eqs
  refine B3 (λhw=>?_) (λhw=>hN _ _ ⟨rfl,rfl⟩);refine ⟨u,kd,rfl,u1,λpr root H3 br s3 u3 e3=>?_⟩;rw [hb] at br;refine ⟨_,root,rfl,⟨pr,rfl,SqT.of e3⟩,λsi _ _=>?_⟩;refine ⟨pr,rfl,_,SqT.of e3,_,at0 root,_,rfl,pr,rfl,_,SqT.of e3,_,at1 root,t9,λq1 h1=>⟨t9,λq2 h2=>⟨t9,λq3 h3=>⟨si,rfl,rfl,si,rfl,ab3,λq4 h4=>⟨t9,λq5 h5=>?_⟩⟩⟩⟩⟩;have S1:=c5.new h1 (.tup [.int (0-root.num),.int root.den]);have S2:=c5.new h2 (.tup [.int 1,.int 1]);have S3:=c5.new h3 (.lst [.ref q1,.ref q2]);have S4:=c5.new h4 (.tup [.int (if si<0 then 1 else 0),.int (if V.int si=V.int 0 then 1 else 0),.int (if 0<si then 1 else 0)]);have S5:=c5.new h5 (.tup [.ref q3,.ref q4]);have T4:=S4.trans S5;have T3:=S3.trans T4;have T2:=S2.trans T3;have T1:=S1.trans T2;have v3:=c5.urn (S1.trans S2) u3;have v4:=c5.urn S3 v3;have v5:=c5.urn S4 v4;have en:(HO.tup [V.int (0-root.num),V.int root.den])=.tup (t4 (-root)):=by unfold t4;rw [u0f,g0a,m0y]
  exact k q5 q3 q4 [.ref q1,.ref q2] [-root,1] _ _ _ root.den _ ((s1.trans s3).trans (c5.x T1 u)) (c5.urn T1 u3) ⟨w5 v5 h5,b8,⟨w5 v3 h3,T4 _ _ b8,.cons (T2 _ _ (by rw [b8,en])) (.cons (T3 _ _ b8) .nil)⟩,w5 v4 h4,S5 _ _ b8,by simp,by simp,den_pos _,q0b br.d (by decide),br5 ((Z9 br).neg.mono (by decide)) (ar1 (den_pos _) (q0b br.d (by decide))),rfl⟩
 rintro σ H2 ⟨rfl,rfl⟩;refine f9 (λσ H2 => ∃ av v,σ=[some (.ref u),some (.int kd),some (.int wy),some (.ref av),none,none,none,none]/\j9 u H H2/\j7 H2 u/\H2 av=some (.tup (t4 v))/\BdN 4 v) (λN hN=>?_) ?_
 ·subst_eqs
  refine ⟨u,kd,rfl,u1,λr v H2 bv v0 s2 u2 e2=>hN _ _ ⟨r,v,rfl,s1.trans s2,u2,e2,by rw [hb] at bv;exact bv⟩⟩
 clear s1 u1;rintro σ H2 ⟨av,v,rfl,s2,u2,ev,bv⟩
 have quad:∀ (pu:Addr) (u0:Rat) (H3:Hp),j9 u H2 H3->j7 H3 u->H3 pu=some (.tup (t4 u0))->BdN 4 u0->aL5 K [V.ref pu] H3 (λx_1 H1=>B8 K (λx1 x2=>x1*x2) [V.ref pu,V.ref pu] H1 (λx_2 H1=>B8 K (λx1 x2=>x1+x2) [x_2,V.ref av] H1 (λx_3 H1=>0+1+1<=sizeLine/\∀ (p:Addr),H1 p=none->B8 K (λx1 x2=>x1*x2) [V.ref p,V.ref pu] (upd H1 p (HO.tup [V.int (-2),V.int 1])) (λx H1=>0+1+1<=sizeLine/\∀ (p:Addr),H1 p=none->0+1+1+1<=sizeLine/\∀ (p_1:Addr),upd H1 p (HO.tup [V.int 1,V.int 1]) p_1=none->∃ i,x_1=V.int i/\IntMulOk 2 (if i<0 then 1 else 0)/\aw2 x_1 (V.int 0)=true/\IntMulOk 2 (if x_1=V.int 0 then 1 else 0)/\∃ i_1,x_1=V.int i_1/\IntMulOk 2 (if 0<i_1 then 1 else 0)/\0+1+1+1<=sizeLine/\∀ (p_2:Addr),upd (upd H1 p (HO.tup [V.int 1,V.int 1])) p_1 (HO.lst [x_3,x,V.ref p]) p_2=none->0+1+1<=sizeLine/\∀ (p_3:Addr),upd (upd (upd H1 p (HO.tup [V.int 1,V.int 1])) p_1 (HO.lst [x_3,x,V.ref p])) p_2 (HO.tup [V.int (2*if i<0 then 1 else 0),V.int (2*if x_1=V.int 0 then 1 else 0),V.int (2*if 0<i_1 then 1 else 0)]) p_3=none->Q (V.ref p_3) (upd (upd (upd (upd H1 p (HO.tup [V.int 1,V.int 1])) p_1 (HO.lst [x_3,x,V.ref p])) p_2 (HO.tup [V.int (2*if i<0 then 1 else 0),V.int (2*if x_1=V.int 0 then 1 else 0),V.int (2*if 0<i_1 then 1 else 0)])) p_3 (HO.tup [V.ref p_1,V.ref p_2]))) E0) E0) E0) E0:=λpu u0 H3 s3 u3 e3 bu=>by
  have ev3:=s3.tups u2 _ _ ev;refine ⟨_,u0,rfl,⟨pu,rfl,SqT.of e3⟩,λsi _ _=>?_⟩;refine ⟨.ref pu,.ref pu,u0,u0,4,4,rfl,⟨pu,rfl,SqT.of e3⟩,⟨pu,rfl,SqT.of e3⟩,bu.t (by decide),bu.t (by decide),by decide,λp4 H4 s4 e4=>?_⟩
  refine ⟨.ref p4,.ref av,_,v,8,4,rfl,⟨p4,rfl,SqT.of e4⟩,⟨av,rfl,SqT.of (s4 _ _ ev3)⟩,(bu.mul bu).t (by decide),bv.t (by decide),by decide,λpf H5 s5 e5=>⟨t9,λq1 h1=>?_⟩⟩
  have S1:=c5.new h1 (.tup [.int (-2),.int 1]);refine ⟨.ref q1,.ref pu,(((-2:Int)):Rat),u0,2,4,rfl,⟨q1,rfl,SqT.of b8⟩,⟨pu,rfl,SqT.of (S1 _ _ (s5 _ _ (s4 _ _ e3)))⟩,(show BdN 2 (((-2:Int)):Rat) from ⟨by decide,by decide⟩).t (by decide),bu.t (by decide),by decide,λp6 H6 s6 e6=>?_⟩
  refine ⟨t9,λq2 h2=>⟨ab3,λq3 h3=>?_⟩⟩;have m2:∀ c:Prop,[Decidable c]->IntMulOk 2 (if c then 1 else 0):=λc _=>by split <;> exact aY6 (by decide)
  refine ⟨si,rfl,m2 _,rfl,m2 _,si,rfl,m2 _,ab3,λq7 h7=>⟨t9,λq8 h8=>?_⟩⟩;have S2:=c5.new h2 (.tup [.int 1,.int 1]);have S3:=c5.new h3 (.lst [.ref pf,.ref p6,.ref q2]);have S7:=c5.new h7 (.tup [V.int (2*if si<0 then 1 else 0),V.int (2*if V.int si=V.int 0 then 1 else 0),V.int (2*if 0<si then 1 else 0)]);have S8:=c5.new h8 (.tup [.ref q3,.ref q7]);have T7:=S7.trans S8;have T3:=S3.trans T7;have T2:=S2.trans T3;have T1:=S1.trans (s6.trans T2);have T:=s4.trans (s5.trans T1);have v2:=c5.urn (((s4.trans s5).trans S1).trans (s6.trans S2)) u3;have v3:=c5.urn S3 v2;have v7:=c5.urn S7 v3;have du:=den_pos u0;have dv:=den_pos v;have C0:0<u0.den*u0.den*v.den:=z0s (z0s du du) dv;have d8:u0.den*u0.den<2 ^ (4+4):=by rw [z0p];exact z0g bu.d bu.d
  have C1:u0.den*u0.den*v.den<2 ^ 12:=by
   have:u0.den*u0.den*v.den<2 ^ (4+4+4):=by rw [z0p 2 (4+4) 4];exact z0g d8 bv.d
   exact this
  have o1:OvB (u0.den*u0.den*v.den) 14 (u0*u0+v):=by
   have a1:=((Z9 bu).mul (Z9 bu)).up (z0s du du) dv bv.d;have a2:=(Z9 bv).up dv (z0s du du) d8;rw [v0u v.den] at a2;exact (a1.add C0 (a2.mono (by decide))).mono (by decide)
  have o2:OvB (u0.den*u0.den*v.den) 14 (((-2:Int):Rat)*u0):=by
   have a1:=(be1 (v:=-2) (W:=2) (by decide)).mul (Z9 bu)
   rw [Nat.one_mul] at a1;have d9:u0.den*v.den<2 ^ (4+4):=by rw [z0p];exact z0g bu.d bv.d
   have a2:=a1.up du (z0s du dv) d9;rw [<- m0t] at a2;exact a2.mono (by decide)
  exact k q8 q3 q7 [.ref pf,.ref p6,.ref q2] [u0*u0+v,((-2:Int):Rat)*u0,1] _ _ _ (u0.den*u0.den*v.den) _ ((s2.trans s3).trans (c5.x T u)) (c5.urn T u3) ⟨w5 v7 h8,b8,⟨w5 v2 h3,T7 _ _ b8,.cons (T1 _ _ e5) (.cons (T2 _ _ e6) (.cons (T3 _ _ b8) .nil))⟩,w5 v3 h7,S8 _ _ b8,by simp,by simp,C0,C1,bo7 o1 o2 (ar1 C0 (q0b C1 (by decide))),rfl⟩
 subst_eqs
 refine B3 (λhw=>B3 (λh5=>?_) (λh5=>?_)) (λhw=>⟨rfl,B3 (λh6=>?_) (λh6=>?_)⟩)
 ·refine ⟨u,kd,rfl,u2,λpu u0 H3 bu s3 u3 e3=>?_⟩
  rw [hb] at bu;exact quad pu u0 H3 s3 u3 e3 bu
 ·refine ⟨t9,λp hp=>quad p 0 _ (c5.x (c5.new hp _) u) (K1 u2 hp) b8 ⟨by decide,by decide⟩⟩
 ·refine ⟨_,SqT.of ev,_,at0 v,_,rfl,_,SqT.of ev,_,at1 v,t9,λq1 h1=>⟨t9,λq2 h2=>⟨t9,λq3 h3=>⟨ab3,λq4 h4=>⟨ab3,λq5 h5=>⟨t9,λq7 h7=>?_⟩⟩⟩⟩⟩⟩
  have en:(HO.tup [V.int (0-v.num),V.int v.den])=.tup (t4 (-v)):=by unfold t4;rw [u0f,g0a,m0y]
  rw [en] at h2 h3 h4 h5 h7 ⊢;have S1:=c5.new h1 (.tup (t4 (-v)));have S2:=c5.new h2 (.tup [.int 0,.int 1]);have S3:=c5.new h3 (.tup [.int 1,.int 1]);have S4:=c5.new h4 (.lst [.ref q1,.ref q2,.ref q3]);have S5:=c5.new h5 (.tup [.int 1,.int 0,.int 1]);have S7:=c5.new h7 (.tup [.ref q4,.ref q5]);have T5:=S5.trans S7;have T4:=S4.trans T5;have T3:=S3.trans T4;have T2:=S2.trans T3;have T1:=S1.trans T2;have v3:=c5.urn (S1.trans (S2.trans S3)) u2;have v4:=c5.urn S4 v3;have v5:=c5.urn S5 v4;exact k q7 q4 q5 [.ref q1,.ref q2,.ref q3] [-v,0,1] _ _ _ v.den _ (s2.trans (c5.x T1 u)) (c5.urn T1 u2) ⟨w5 v5 h7,b8,⟨w5 v3 h4,T5 _ _ b8,.cons (T2 _ _ b8) (.cons (T3 _ _ b8) (.cons (T4 _ _ b8) .nil))⟩,w5 v4 h5,S7 _ _ b8,by simp,by simp,den_pos _,q0b bv.d (by decide),bo7 ((Z9 bv).neg.mono (by decide)) (OvB.zero _ _) (ar1 (den_pos _) (q0b bv.d (by decide))),rfl⟩
 ·refine ⟨t9,λq1 h1=>⟨t9,λq2 h2=>⟨t9,λq3 h3=>⟨t9,λq4 h4=>⟨(by decide:5<=sizeLine),λq5 h5=>⟨ab3,λq6 h6=>⟨t9,λq7 h7=>?_⟩⟩⟩⟩⟩⟩⟩
  have S1:=c5.new h1 (.tup [.int 0,.int 1]);have S2:=c5.new h2 (.tup [.int 0,.int 1]);have S3:=c5.new h3 (.tup [.int 0,.int 1]);have S4:=c5.new h4 (.tup [.int 1,.int 1]);have S5:=c5.new h5 (.lst [.ref av,.ref q1,.ref q2,.ref q3,.ref q4]);have S6:=c5.new h6 (.tup [.int 2,.int 0,.int 2]);have S7:=c5.new h7 (.tup [.ref q5,.ref q6]);have T5:=S6.trans S7;have T4:=S5.trans T5;have T3:=S4.trans T4;have T2:=S3.trans T3;have T1:=S2.trans T2;have T:=S1.trans T1;have v4:=c5.urn (S1.trans (S2.trans (S3.trans S4))) u2;have v5:=c5.urn S5 v4;have v6:=c5.urn S6 v5;refine k q7 q5 q6 [.ref av,.ref q1,.ref q2,.ref q3,.ref q4] [v,0,0,0,1] _ _ _ v.den _ (s2.trans (c5.x T u)) (c5.urn T u2) ⟨w5 v6 h7,b8,⟨w5 v4 h5,T5 _ _ b8,.cons (T _ _ ev) (.cons (T1 _ _ b8) (.cons (T2 _ _ b8) (.cons (T3 _ _ b8) (.cons (T4 _ _ b8) .nil))))⟩,w5 v5 h6,S7 _ _ b8,by simp,by simp,den_pos _,q0b bv.d (by decide),λx hx=>?_,rfl⟩
  simp only [z0d,g0t,or_false] at hx;rcases hx with rfl | rfl | rfl | rfl | rfl
  ·exact (Z9 bv).mono (by decide)
  ·exact OvB.zero _ _
  ·exact OvB.zero _ _
  ·exact OvB.zero _ _
  ·exact ar1 (den_pos _) (q0b bv.d (by decide))
end
end R
set_option maxRecDepth 100000
namespace L2
open PySem PySem.Spec PyProof.Rows
section
variable {K:q0a} {a b D:Addr} {xs ys:List V} {g:TG} {te:TE} {σ0:St} {H0:Hp} {Q:VK}
theorem bf9 (xs ys:List V) (Pv:Nat->St->Hp->Prop) (h0:Pv 0 σ0 H0) (hl:∀ i σ H,Pv i σ H->SqT K H a xs/\SqT K H b ys)
  (hs:∀ i x y σ H p,xs[i]? = some x->ys[i]? = some y->Pv i σ H->H p=none->g (.ref p) σ (upd H p (.tup [x,y])) λσ4 H4=>te σ4 H4 λv H5=>m8 D (min xs.length ys.length) Pv i σ4 v H5)
  (hd:∀ σ H,Pv (min xs.length ys.length) σ H->Q (.ref D) H):V7 (bo0 K a b) D σ0 H0 g te Q:=by
 refine ⟨λi m σ H=>m=min xs.length ys.length-i/\i<=min xs.length ys.length/\Pv i σ H,⟨_,rfl,z0n _,h0⟩,?_⟩;rintro i m σ H ⟨rfl,hi,p⟩;obtain ⟨q,q'⟩:=hl i σ H p
 by_cases hlt:i<min xs.length ys.length
 ·have h1:i<xs.length:=⋯
  have h2:i<ys.length:=⋯;refine .inr ⟨⟨xs,ys,xs[i],ys[i],q,q',q0j h1,q0j h2⟩,?_⟩;intro v H3 hy;obtain ⟨x,y,r,e1,e2,hr,rfl,rfl⟩:=hy xs ys q q';exact hs i x y σ _ r e1 e2 p hr
 ·have e:i=min xs.length ys.length:=⋯
  subst e;exact .inl ⟨⟨xs,ys,q,q',⋯⟩,hd σ H p⟩
end
end L2
set_option maxRecDepth 100000
namespace R
open PySem L2 PyProof.Rows
theorem ai6.same {u:Addr} {H H':Hp} {t l rt:Addr} {xs:List V} {fs:List Rat} {i j m:Int} {C:Nat} (f:ai6 u H t l rt xs fs i j m C) (s:c5 H H'):ai6 u H' t l rt xs fs i j m C:=⟨f.tu,s _ _ f.et,f.ls.same s,f.ru,s _ _ f.er,f.l2,f.l5,f.C0,f.C1,f.ov,f.last⟩
theorem ai6.samex {u:Addr} {H H':Hp} {t l rt:Addr} {xs:List V} {fs:List Rat} {i j m:Int} {C:Nat} (f:ai6 u H t l rt xs fs i j m C) (s:j9 u H H') (hu:j7 H u):ai6 u H' t l rt xs fs i j m C:=⟨f.tu,s _ _ f.et f.tu,f.ls.samex s hu,f.ru,s _ _ f.er f.ru,f.l2,f.l5,f.C0,f.C1,f.ov,f.last⟩
section
variable {P:Program} {w:World} {K:q0a} {mg:Str->Option Value} {base:Heap}
def aH0 (K:q0a):Sp:=λvs H Q _ => ∃ u kd,vs=[.ref u,.int kd,.int 4]/\j7 H u/\(kd=0 \/ kd=1)/\∀ t l rn xs qs H',j9 u H H'->j7 H' u->H' t=some (.tup [.ref l,.ref rn])->LsX u H' l xs qs->H l=none->1<=qs.length->qs.length<=5->P3 qs qs.length->ClN 80 qs->Q (.ref t) H'
abbrev O0:Stmt:=top 61
theorem B5:i9 ["_law_urn_here","_law_kind_here","_law_most","_law_found","_law_numbers","_law_factor_here","_law_turn"] ["_law_urn_here","_law_kind_here","_law_most"] (c6 O0):=by and_intros
theorem at5 {f f1 f2 f3 f4:Addr} (d:Df K mg "_law_rooted" O0 ["_law_urn_here","_law_kind_here","_law_most"] f) (G__law_draw:Def P w K mg base CX0 1 "_law_draw" f1 ["_law_urn_here","_law_many"] C9) (GD__law_other:Def P w K mg base CX0 3 "_law_other" f2 ["_law_urn_here","_law_kind_here"] Y3) (G__law_factor:Def P w K mg base CX0 5 "_law_factor" f3 ["_law_urn_here","_law_kind_here"] (aH3 K)) (G__law_poly_times:Def P w K mg base CX0 3 "_law_poly_times" f4 ["_law_p","_law_q"] (aP1 K)) (n_range:mg "range" = none) (n_len:mg "len" = none) (n_tuple:mg "tuple" = none) (n_zip:mg "zip" = none):Def P w K mg base CX0 6 "_law_rooted" f ["_law_urn_here","_law_kind_here","_law_most"] (aH0 K):=by
 refine d.ok (N:=["_law_urn_here","_law_kind_here","_law_most","_law_found","_law_numbers","_law_factor_here","_law_turn"]) B5 (by rintro vs H Q E ⟨_,_,h,_⟩;rw [h];rfl) (λcdv A outer s H vs Q E hr h=>?_)
 obtain ⟨u,kd,rfl,hU,hk,k⟩:=h;have G__law_other:=GD__law_other;have hb:bK kd=4:=by rcases hk with rfl | rfl <;> rfl
 refine ⟨_,(b9 (h9 (i:=3) B5.nd rfl (q0z rfl) (w9 (a8 (c8 G__law_other hr (a8 (pv 0) (a8 (pv 1) b6)) g9) b6)))
   (b9 (h9 (i:=4) B5.nd rfl (q0z rfl) (j2 (a8 b7 (a8 b7 (a8 b7 b6)))))
   (b9 (h9 (i:=5) B5.nd rfl (q0z rfl) (c8 G__law_factor hr (a8 (pv 0) (a8 (pv 1) b6)) g9))
   (b9 (Y4 PassesOwn.never rfl (A8 rfl n_range (a8 (c8 G__law_draw hr (a8 (pv 0) (a8 (d2 y0 (pv 2) b7) b6)) g9) b6)) (c9 (i:=6) B5.nd rfl (q0z rfl)) (b9 (A4 (j1 ae2 (c8 G__law_draw hr (a8 (pv 0) (a8 b7 b6)) g9) b7 (i5 _)) (c7 (h9 (i:=5) B5.nd rfl (q0z rfl) (c8 G__law_factor hr (a8 (pv 0) (a8 (pv 1) b6)) g9))) m6)
   (c7 (A4 (j1 aX9 (d2 G8 (d2 y0 (g8 j5 rfl n_len (by decide +kernel) (a8 (pv 3) b6)) (g8 j5 rfl n_len (by decide +kernel) (a8 (i6 k7 (pv 5) b7 (λ_ _=>rfl)) b6))) b7) (pv 2) (i5 _)) (b9 (h9 (i:=3) B5.nd rfl (q0z rfl) (c8 G__law_poly_times hr (a8 (pv 3) (a8 (i6 k7 (pv 5) b7 (λ_ _=>rfl)) b6)) g9))
   (c7 (h9 (i:=4) B5.nd rfl (q0z rfl) (p5 ax4 rfl n_tuple (by decide +kernel) (a8 (t5 (Nc:=["_law_a","_law_b"]) (caps:=[none,none]) rfl (G3.of (osc:=c6 O0) (N:=["_law_urn_here","_law_kind_here","_law_most","_law_found","_law_numbers","_law_factor_here","_law_turn"]) (ks:=[]) rfl rfl rfl rfl j8 (by decide +kernel)) (bd8 rfl n_zip (a8 (pv 4) (a8 (i6 k7 (pv 5) b7 (λ_ _=>rfl)) b6))) (λC s₂ H₂ fp pins=>(show PG _ _ (T6 K 2 (r6 (l9 0) (r6 (l9 1) T9))) from by (refine C2 (n:=2) ?_ ?_ ?_ ?_;rfl;(refine i4 ?_ ?_ ?_;(exact (c9 (i:=0) (show z0q (["_law_a","_law_b"]:List Str) by decide +kernel) rfl (q0z rfl) (j0b rfl)));(refine i4 ?_ ?_ ?_;(exact (c9 (i:=1) (show z0q (["_law_a","_law_b"]:List Str) by decide +kernel) rfl (q0z rfl) (j0b rfl)));(exact y3);rfl);rfl);rfl;rfl))) (λC s₂ H₂ fp pins=>(d2 y0 (pv 0) (pv 1)))) b6))))) m6))))
   (c7 (i7 (j2 (a8 (pv 3) (a8 (pv 4) b6))))))))),?_⟩
 rw [show start ["_law_urn_here","_law_kind_here","_law_most","_law_found","_law_numbers","_law_factor_here","_law_turn"] [.ref u,.int kd,.int 4]=[some (.ref u),some (.int kd),some (.int 4),none,none,none,none] from rfl]
 refine f9 (λσ H1 => ∃ l q,σ=[some (.ref u),some (.int kd),some (.int 4),some (.ref l),none,none,none]/\j9 u H H1/\j7 H1 u/\(∃ xs,LsX u H1 l xs [q])/\BdN 4 q/\q ≠ 0/\H l=none) (λN hN=>?_) ?_
 ·subst_eqs
  refine ⟨u,kd,rfl,hU,λr q H1 bq q0 s1 u1 e1=>⟨by decide,λp hp=>hN _ _ ⟨p,q,rfl,s1.trans (c5.x (c5.new hp _) u),K1 u1 hp,⟨_,w5 u1 hp,b8,.cons (c5.new hp _ _ _ e1) .nil⟩,by rw [hb] at bq;exact bq,q0,s1.free u1 hp⟩⟩⟩
 rintro σ H1 ⟨l0,q0,rfl,s1,u1,⟨xs0,L0⟩,bq0,q0n,fl0⟩;refine f9 (λσ H2 => ∃ rn,σ=[some (.ref u),some (.int kd),some (.int 4),some (.ref l0),some (.ref rn),none,none]/\c5 H1 H2/\H2 rn=some (.tup [.int 0,.int 0,.int 0])) (λN hN=>?_) ?_
 ·subst_eqs
  exact ⟨(by decide:3<=sizeLine),λp hp=>hN _ _ ⟨p,rfl,c5.new hp _,b8⟩⟩
 rintro σ H2 ⟨rn0,rfl,s2,e2⟩;have u2:=c5.urn s2 u1;refine f9 (λσ H3 => ∃ tf lf rf fx fs i j m C,σ=[some (.ref u),some (.int kd),some (.int 4),some (.ref l0),some (.ref rn0),some (.ref tf),none]/\j9 u H2 H3/\j7 H3 u/\ai6 u H3 tf lf rf fx fs i j m C) (λN hN=>?_) ?_
 ·subst_eqs
  exact ⟨u,kd,rfl,u2,hk,λt l rt xs fs i j m C H3 s3 u3 F3=>hN _ _ ⟨t,l,rt,xs,fs,i,j,m,C,rfl,s3,u3,F3⟩⟩
 rintro σ H3 ⟨tf0,lf0,rf0,fx0,fs0,i0,j0,m0,C0,rfl,s3,u3,F0⟩
 have rn0u:rn0 ≠ u:=λz=>by
  obtain ⟨g,m,p,hg,_⟩:=u2;rw [z,hg] at e2;cases e2
 have sH3:j9 u H H3:=s1.trans ((c5.x s2 u).trans s3);refine f9 (λσ H4 => ∃ l rn o5 o6 xs qs,σ=[some (.ref u),some (.int kd),some (.int 4),some (.ref l),some (.ref rn),o5,o6]/\j9 u H H4/\j7 H4 u/\LsX u H4 l xs qs/\1<=qs.length/\qs.length<=5/\P3 qs qs.length/\ClN 80 qs/\H l=none) (λN hN=>?_) ?_
 ·obtain ⟨I,hI⟩:∃ I:Nat->L2.St->Hp->Prop,∀ i σ H4,I i σ H4 ↔ ∃ l rn tf lf rf fx fs a b c C o6 xs qs B i' j' m',σ=[some (.ref u),some (.int kd),some (.int 4),some (.ref l),some (.ref rn),some (.ref tf),o6]/\j9 u H H4/\j7 H4 u/\LsX u H4 l xs qs/\ai6 u H4 tf lf rf fx fs a b c C/\rn ≠ u/\H4 rn=some (.tup [.int i',.int j',.int m'])/\1<=qs.length/\qs.length<=5/\P3 qs qs.length/\0<B/\B<2 ^ (4+12*i)/\(∀ x ∈ qs,OvB B (4+19*i) x)/\H l=none:=⟨_,λ_ _ _=>Iff.rfl⟩
  have hfin:∀ i σ H4,i<=4->I i σ H4->N σ H4:=λi σ H4 hi h=>by
   obtain ⟨l,rn,tf,lf,rf,fx,fs,a,b,c,C,o6,xs,qs,B,i',j',m',rfl,s4,u4,L,F,rnu,er,l1,l8,tl,B0,B1,ov,fl⟩:=(hI i σ H4).mp h;refine hN _ _ ⟨l,rn,_,o6,xs,qs,rfl,s4,u4,L,l1,l8,tl,ac2 B0 (q0b B1 (d7 ⋯)) λx hx=>(ov x hx).mono ⋯,fl⟩
  refine ⟨_,rfl,_,rfl,_,_,rfl,rfl,u,_,rfl,u3,by decide,by decide,λr H4 r0 r8 s4 u4=>⟨r,rfl,⋯,⋯,Y0 I ?_ ?_ (λσ H5 h=>hfin _ σ H5 ⋯ h)⟩⟩
  ·refine (hI 0 _ _).mpr ⟨l0,rn0,tf0,lf0,rf0,fx0,fs0,i0,j0,m0,C0,_,xs0,[q0],q0.den,0,0,0,rfl,sH3.trans s4,u4,((L0.same s2).samex s3 u2).samex s4 u3,F0.samex s4 u3,rn0u,s4 _ _ (s3 _ _ e2 rn0u) rn0u,by simp,by simp,aB6 (qs:=[]) q0n,den_pos _,bq0.d,(λx hx=>?_),fl0⟩
   rw [q0u.mp hx];exact Z9 bq0
  rintro n σ H5 hn h;obtain ⟨l,rn,tf,lf,rf,fx,fs,a,b,c,C,o6,xs,qs,B,i',j',m',rfl,s5,u5,L,F,rnu,er,l1,l8,tl,B0,B1,ov,fl⟩:=(hI n σ H5).mp h;have hn7:n<4:=⋯;refine f9 (λσ H6 => ∃ tf lf rf fx fs a b c C,σ=[some (.ref u),some (.int kd),some (.int 4),some (.ref l),some (.ref rn),some (.ref tf),some (.int (0+n))]/\j9 u H H6/\j7 H6 u/\LsX u H6 l xs qs/\ai6 u H6 tf lf rf fx fs a b c C/\H6 rn=some (.tup [.int i',.int j',.int m'])) (λN' hN'=>?_) ?_
  ·simp! [C9]
   refine ⟨u5,by decide,by decide,λr2 H6 _ _ s6 u6=>B3 (λ_=>?_) (λ_=>?_)⟩
   ·refine ⟨u,kd,rfl,u6,hk,λt l' rt xs' fs' i j m C' H7 s7 u7 F7=>hN' _ _ ⟨t,l',rt,xs',fs',i,j,m,C',rfl,s5.trans (s6.trans s7),u7,(L.samex s6 u5).samex s7 u6,F7,s7 _ _ (s6 _ _ er rnu) rnu⟩⟩
   ·exact hN' _ _ ⟨tf,lf,rf,fx,fs,a,b,c,C,rfl,s5.trans s6,u6,L.samex s6 u5,F.samex s6 u5,s6 _ _ er rnu⟩
  rintro σ H6 ⟨tf,lf,rf,fx,fs,a,b,c,C,rfl,s6,u6,L,F,er⟩;have lx:=L.nums.length;have lf':=F.ls.nums.length;have f2:=F.l2;have f5:=F.l5
  subst_eqs
  refine ⟨_,.inl (SqL.of L.at'),_,SqT.of F.et,_,rfl,lf,rfl,_,.inl (SqL.of F.ls.at'),B3 (λhle=>?_) (λhgt=>?_)⟩
  ·have hBC:B*C<2 ^ (4+12*n+12):=by rw [z0p];exact z0g B1 F.C1
   refine ⟨_,SqT.of F.et,_,rfl,l,lf,xs,fx,qs,fs,B,C,4+19*n,14,4+12*n+12,rfl,SqL.of L.at',SqL.of F.ls.at',L.nums,F.ls.nums,ov,F.ov,B0,F.C0,hBC,⋯,⋯,⋯,⋯,⋯,λm1 r1 zs1 H7 tm1 _ s7 f7 e7 n7=>?_⟩;have F7:=F.same s7;have er7:=s7 _ _ er;refine ⟨_,SqT.of F7.et,_,rfl,rf,rfl,⟨_,SqT.of er7⟩,⟨_,SqT.of F7.er⟩,λD hD=>?_⟩;refine bf9 [.int i',.int j',.int m'] [.int a,.int b,.int c] (λj σ H8 => ∃ o1 o2,σ=[o1,o2]/\c5 H7 H8/\∃ ns:List Int,ns.length=j/\H8 D=some (.lst (ns.map V.int))) ⟨_,_,rfl,c5.new hD _,[],rfl,b8⟩ (by rintro j σ H8 ⟨_,_,_,s8,_⟩;exact ⟨SqT.of (s8 _ _ er7),SqT.of (s8 _ _ F7.er)⟩) ?_ ?_
   ·rintro j x y σ H8 pt hx hy ⟨o1,o2,rfl,s8,ns,hns,e8⟩ hpt
    have hj:j<3:=(q0f.mp hx).1;obtain ⟨v1,hv1,rfl⟩:=aJ0 (ws:=[i',j',m']) hx;obtain ⟨v2,hv2,rfl⟩:=aJ0 (ws:=[a,b,c]) hy;have st:=c5.new hpt (.tup [.int v1,.int v2])
    subst_eqs
    refine ⟨_,SqT.of b8,rfl,_,_,rfl,_,_,rfl,rfl,_,rfl,_,rfl,m8.mk hj (st _ _ e8) (p9 (by rw [q0g];omega)) ⟨_,_,rfl,(s8.trans st).over hD _,ns ++ [v1+v2],by simp [hns],?_⟩⟩
    rw [b8,j0r];rfl
   ·rintro σ H8 ⟨o1,o2,rfl,s8,ns,hns,e8⟩
    have hns3:ns.length=3:=hns
    obtain ⟨x1,x2,x3,rfl⟩:∃ x1 x2 x3,ns=[x1,x2,x3]:=by
     match ns,hns3 with
     | [x1,x2,x3],_=>exact ⟨x1,x2,x3,rfl⟩
    refine ⟨D,rfl,_,.inl ⟨SqL.of e8,λq hq=>?_⟩⟩;have S:=s7.trans (s8.trans (c5.new hq (.tup [.int x1,.int x2,.int x3])));have S8:=s8.trans (c5.new hq (.tup [.int x1,.int x2,.int x3]));have ml:(K7 qs fs).length=qs.length+fs.length-1:=al8 (λz=>by rw [z] at l1;simp at l1) (λz=>by rw [z] at f2;simp at f2)
    have hlast:(K7 qs fs)[(K7 qs fs).length-1]? = some (qs[qs.length-1]*1):=aS9 (λz=>by rw [z] at l1;simp at l1) (λz=>by rw [z] at f2;simp at f2) (q0j ⋯) F.last
    have tlf:P3 (K7 qs fs) (K7 qs fs).length:=ai7 λv hv=>by
     rw [hlast] at hv;cases hv;rw [m0h];exact tl.last ⋯ _ (q0j ⋯)
    have hm1:=tm1.uniq tlf;have e9:(K7 qs fs).take m1=K7 qs fs:=by rw [hm1,v0n]
    rw [e9] at n7;refine (hI (n+1) _ _).mpr ⟨r1,q,tf,lf,rf,fx,fs,a,b,c,C,_,zs1,K7 qs fs,B*C,x1,x2,x3,rfl,s6.trans (c5.x S u),c5.urn S u6,⟨w5 u6 f7,S8 _ _ e7,n7.mono S8.tups⟩,F.same S,w5 (c5.urn (s7.trans s8) u6) hq,b8,⋯,⋯,tlf,z0s B0 F.C0,q0b hBC (d7 ⋯),λx hx=>(be8 B0 F.C0 ov F.ov x hx).mono ⋯,s6.free u6 f7⟩
  ·exact (hI (n+1) _ _).mpr ⟨l,rn,tf,lf,rf,fx,fs,a,b,c,C,_,xs,qs,B,i',j',m',rfl,s6,u6,L,F,rnu,er,l1,l8,tl,B0,q0b B1 (d7 ⋯),λx hx=>(ov x hx).mono ⋯,fl⟩
 rintro σ H4 ⟨l,rn,o5,o6,xs,qs,rfl,s4,u4,L,l1,l8,tl,cl,fl⟩
 subst_eqs
 refine ⟨t9,λp hp=>?_⟩;have Sp:=c5.new hp (.tup [.ref l,.ref rn]);exact k p l rn xs qs _ (s4.trans (c5.x Sp u)) (K1 u4 hp) b8 (L.same Sp) fl l1 l8 tl cl
theorem bq2:∀ d:Nat,d<16->0<d->d ∣ 360360:=by decide
theorem bk6 {q:Rat} (h:BdN 4 q):OvB 360360 23 q:=by
 have d0:0<q.den:=by have:=q.den_nz;omega
 obtain ⟨c,hc⟩:=bq2 q.den h.d d0;refine ⟨q.num*(c:Int),?_,?_⟩
 ·have e:((360360:Nat):Int)=(q.den:Int)*(c:Int):=by rw [<- j0m,<- hc]
  have c0:(c:Int) ≠ 0:=λz=>by
   have:c=0:=⋯;rw [this,Nat.mul_zero] at hc;cases hc
  rw [e,m0q c0,z0h]
 ·have cl:c<2 ^ 19:=by
   have:1*c<=q.den*c:=u0w _ d0;rw [<- hc] at this;exact q0s (show c<=360360 by omega) (by decide)
  rw [z0j,q0y,show 23=4+19 from rfl,z0p];exact z0g h.n cl
theorem aX7 {C:Nat} {q:Rat} {m:Nat} (h:BdN m q):OvB q.den m q:=⟨q.num,(z0h q).symm,h.n⟩
def aN6 (L:List Rat):Nat:=(L.map (·.den)).foldr (· * ·) 1
theorem af6:∀ L:List Rat,0<aN6 L
 | []=>Nat.one_pos
 | q :: L=>by
  have d0:0<q.den:=by have:=q.den_nz;omega
  exact z0s d0 (af6 L)
theorem ar7 {m:Nat}:∀ L:List Rat,(∀ q ∈ L,BdN m q)->aN6 L<2 ^ (m*L.length+1)
 | [],_=>by simp [aN6]
 | q :: L,h=>by
  have a:=(h q q0x).d;have b:=ar7 L λx hx=>h x (q0r _ hx)
  show q.den*aN6 L<_;rw [j0v,y0z,show m*L.length+m+1=m+(m*L.length+1) by omega,z0p]
  exact z0g a b
theorem aG0 {m:Nat}:∀ L:List Rat,(∀ q ∈ L,BdN m q)->∀ q ∈ L,OvB (aN6 L) (m*L.length+1) q
 | [],_,_,hq=>absurd hq (by simp)
 | x :: L,h,q,hq=>by
  have d0:0<x.den:=by have:=x.den_nz;omega
  have bx:=h x q0x;have hL:=λy hy=>h y (q0r x hy)
  show OvB (x.den*aN6 L) _ q;rw [j0v,y0z];rcases z0d.mp hq with rfl | hq
  ·exact ((aX7 bx (C:=0)).up d0 (af6 L) (ar7 L hL)).mono ⋯
  ·rw [v0u]
   exact ((aG0 L hL q hq).up (af6 L) d0 bx.d).mono ⋯
def bq9 (N:List (List Rat)):Prop:=(∃ C,M4 C 120 N) \/ (N.length<=2/\∀ L ∈ N,L.length=N.length/\∀ q ∈ L,BdN 40 q)
theorem be9 {N:List (List Rat)} (h2:N.length<=2) (h:∀ L ∈ N,L.length=N.length/\∀ q ∈ L,BdN 40 q):∃ C,M4 C 162 N:=by
 have ln:(N.flatten).length<=4:=by
  rw [List.length_flatten]
  match N,h2,h with
  | [],_,_=>simp
  | [a],_,h=>have:=(h a (by simp)).1;simp at this;simp [this]
  | [a,b],_,h =>
   have h1:=(h a (by simp)).1
   have h2:=(h b (by simp)).1
   simp at h1 h2;simp [h1,h2]
 have bd:∀ q ∈ N.flatten,BdN 40 q:=λq hq=>by
  obtain ⟨L,hL,hq⟩:=g0u.mp hq;exact (h L hL).2 q hq
 refine ⟨aN6 N.flatten,⋯,af6 _,q0b (ar7 _ bd) (d7 ⋯),λL hL=>⟨(h L hL).1,λq hq=>(aG0 _ bd q (g0u.mpr ⟨L,hL,hq⟩)).mono ⋯⟩⟩
theorem V3.to {u l:Addr} {H0 H H':Hp} {us:List Addr} {M:List (List Rat)} (d:V3 u H l us M H') (hU:j7 H u) (s:j9 u H0 H):V3 u H0 l us M H':=⟨s.trans d.same,d.urn,s.free hU d.fr,d.lu,d.at',d.nl,d.nu,λt ht=>s.free hU (d.nf t ht),d.rws⟩
theorem bm4 {u D:Addr} {H:Hp} {kd:Int} {n:Nat} {Q:VK} (hU:j7 H u) (hD:H D=none) (n4:n<=4) (k:∀ us N H',V3 u H D us N H'->N.length=n->(∀ L ∈ N,L.length=n/\∀ q ∈ L,BdN (bK kd) q)->Q (.ref D) H'):V7 (Itr 0 n) D [some (V.ref u),some (V.int (n:Int)),some (V.int kd),none] (upd H D (HO.lst [])) (l9 3) (λσ H Q => ∃ v,σ[1]? = some (some v)/\∃ j,v=V.int j/\-2 ^ 62<=j/\j<2 ^ 62/\∀ (D:Addr),H D=none->V7 (Itr 0 j.toNat) D [σ[0]?.join,σ[2]?.join,none] (upd H D (HO.lst [])) (l9 2) (ar8 P4 E0 (J1 (G2 0) (J1 (G2 1) ae4))) Q) Q:=by
 refine M0 (λi σ H2 => ∃ (o:Option V) (us:List Addr) (N:List (List Rat)),σ=[some (.ref u),some (.int (n:Int)),some (.int kd),o]/\V3 u H D us N H2/\N.length=i/\∀ L ∈ N,L.length=n/\∀ q ∈ L,BdN (bK kd) q) ⟨_,[],[],rfl,⟨c5.x (c5.new hD _) u,K1 hU hD,hD,w5 hU hD,b8,by simp,by simp,by simp,.nil⟩,rfl,by simp⟩ ?_ ?_
 ·rintro i σ H2 hi ⟨o,us,N,rfl,dA,lN,bN⟩
  refine ⟨_,rfl,_,rfl,⋯,⋯,λD2 fD2=>?_⟩;have D2u:D2 ≠ u:=w5 dA.urn fD2;have D2D:D2 ≠ D:=(d5 dA.at' fD2).symm;obtain ⟨Pv,hPv⟩:∃ Pv:Nat->L2.St->Hp->Prop,∀ j σ H3,Pv j σ H3 ↔ ∃ (o:Option V) (xs:List V) (qs:List Rat),σ=[some (.ref u),some (.int kd),o]/\j9 u H2 H3/\j7 H3 u/\H3 D2=some (.lst xs)/\v9 H3 xs qs/\qs.length=j/\∀ q ∈ qs,BdN (bK kd) q:=⟨_,λ_ _ _=>Iff.rfl⟩;refine M0 Pv ((hPv _ _ _).mpr ⟨_,[],[],rfl,c5.x (c5.new fD2 _) u,K1 dA.urn fD2,b8,.nil,rfl,by simp⟩) ?_ ?_
  ·rintro j σ H3 hj h
   obtain ⟨o,xs,qs,rfl,s3,u3,e3,n3,l3,b3⟩:=(hPv _ _ _).mp h
   subst_eqs
   refine ⟨u,kd,rfl,u3,λr q H4 bq s4 u4 e4=>?_⟩;have e5:=s4 _ _ e3 D2u;refine m8.mk hj e5 (p9 (by rw [n3.length,l3];omega)) ((hPv _ _ _).mpr ⟨_,_,qs ++ [q],rfl,(s3.trans s4).over fD2 _,u4.other D2u,b8,((n3.mono (s4.tups u3)).append (.cons e4 .nil)).mono (V5.lst e5),by simp [l3],λx hx=>?_⟩)
   rcases z0r.mp hx with z | z
   ·exact b3 x z
   ·rw [q0u.mp z];exact bq
  ·intro σ H3 h
   obtain ⟨o,xs,qs,rfl,s3,u3,e3,n3,l3,b3⟩:=(hPv _ _ _).mp h;have d3:=dA.x s3 u3
   have nD:D2 ∉ us:=λz=>by
    obtain ⟨i,hi⟩:=y0c.mp z;obtain ⟨_,_,_,e,_⟩:=dA.rws.get hi;rw [fD2] at e;cases e
   have nl:D ∉ us ++ [D2]:=λz=>by
    rcases z0r.mp z with z | z
    ·exact d3.nl z
    ·exact D2D (q0u.mp z).symm
   refine m8.mk hi d3.at' (p9 (by rw [q0g,d3.rws.length,lN];omega)) ⟨_,us ++ [D2],N ++ [qs],rfl,⟨λb o h z=>?_,d3.urn.other d3.lu,d3.fr,d3.lu,by rw [b8,j0r];rfl,nl,λt ht=>?_,λt ht=>?_,(d3.rws.append (.cons e3 n3 .nil)).over d3.at' nl⟩,by simp [lN],λL hL=>?_⟩
   ·rw [d4 (d5 h d3.fr)]
    exact d3.same _ _ h z
   ·rcases z0r.mp ht with z | z
    ·exact d3.nu t z
    ·rw [q0u.mp z];exact D2u
   ·rcases z0r.mp ht with z | z
    ·exact d3.nf t z
    ·rw [q0u.mp z];exact dA.same.free dA.urn fD2
   ·rcases z0r.mp hL with z | z
    ·exact bN L z
    ·rw [q0u.mp z];exact ⟨⋯,b3⟩
 ·rintro σ H2 ⟨o,us,N,rfl,dA,lN,bN⟩
  exact k us N H2 dA lN bN
def aW1:Sp:=λvs H Q _ => ∃ u,vs=[.ref u]/\j7 H u/\∀ r l v us N H',V3 u H l us N H'->1<=N.length->N.length<=4->bq9 N->H' r=some (.tup [.ref l,v])->Q (.ref r) H'
abbrev K5:Stmt:=top 71
theorem A3:i9 ["_law_urn_here","_law_told","_law_kind_here","_law_p","_law_numbers","_law_n"] ["_law_urn_here"] (c6 K5):=by and_intros
theorem aq4 {f f1 f2 f3 f4 f5 f6:Addr} (d:Df K mg "_law_machine" K5 ["_law_urn_here"] f) (G__law_draw:Def P w K mg base CX0 1 "_law_draw" f1 ["_law_urn_here","_law_many"] C9) (G__law_kind:Def P w K mg base CX0 2 "_law_kind" f2 ["_law_urn_here"] as1) (G__law_rooted:Def P w K mg base CX0 6 "_law_rooted" f3 ["_law_urn_here","_law_kind_here","_law_most"] (aH0 K)) (GD__law_number:Def P w K mg base CX0 2 "_law_number" f4 ["_law_urn_here","_law_kind_here"] P4) (G__law_likened:Def P w K mg base CX0 7 "_law_likened" f5 ["_law_urn_here","_law_kind_here","_law_table","_law_most"] (am8 K)) (G__law_companion:Def P w K mg base CX0 3 "_law_companion" f6 ["_law_p"] (aC3 K)) (n_len:mg "len" = none) (n_range:mg "range" = none):Def P w K mg base CX0 8 "_law_machine" f ["_law_urn_here"] aW1:=by
 refine d.ok (N:=["_law_urn_here","_law_told","_law_kind_here","_law_p","_law_numbers","_law_n"]) A3 (by rintro vs H Q E ⟨_,h,_⟩;rw [h];rfl) (λcdv A outer s H vs Q E hr h=>?_)
 obtain ⟨u,rfl,hU,k⟩:=h;have G__law_number:=GD__law_number
 refine ⟨_,(b9 (h9 (i:=1) A3.nd rfl (q0z rfl) (y4 ae2 (c8 G__law_draw hr (a8 (pv 0) (a8 b7 b6)) g9) b7 (i5 _)))
   (b9 (h9 (i:=2) A3.nd rfl (j0b rfl) (c8 G__law_kind hr (a8 (pv 0) b6) g9))
   (b9 (E5 (c8 G__law_rooted hr (a8 (pv 0) (a8 (d2 P0 (pv 2) b7) (a8 b7 b6))) g9) (show PG _ _ (T6 K 2 (r6 (l9 3) (r6 (l9 4) T9))) from by (refine C2 (n:=2) ?_ ?_ ?_ ?_;rfl;(refine i4 ?_ ?_ ?_;(exact (c9 (i:=3) A3.nd rfl (q0z rfl)));(refine i4 ?_ ?_ ?_;(exact (c9 (i:=4) A3.nd rfl (q0z rfl)));(exact y3);rfl);rfl);rfl;rfl)))
   (b9 (A4 (P9 (P8 (pv 1))) (b9 (h9 (i:=5) A3.nd rfl (j0b rfl) (d2 y0 b7 (c8 G__law_draw hr (a8 (pv 0) (a8 b7 b6)) g9)))
   (b9 (A4 (j1 ae2 (pv 5) b7 (i5 _)) (c7 (h9 (i:=2) A3.nd rfl (j0b rfl) (d2 P0 (pv 2) b7))) m6)
   (c7 (i7 (j2 (a8 (t5 (Nc:=["_law_urn_here","_law_n","_law_kind_here","_law_i"]) (caps:=[some 0,some 5,some 2,none]) rfl (G3.of (osc:=c6 K5) (N:=["_law_urn_here","_law_told","_law_kind_here","_law_p","_law_numbers","_law_n"]) (ks:=["_law_urn_here","_law_n","_law_kind_here"]) rfl rfl rfl rfl (i8 rfl (i8 rfl (i8 rfl j8))) (by decide +kernel)) (A8 rfl n_range (a8 (pv 5) b6)) (λC s₂ H₂ fp pins=>(c9 (i:=3) (show z0q (["_law_urn_here","_law_n","_law_kind_here","_law_i"]:List Str) by decide +kernel) rfl (q0z rfl) (j0b rfl))) (λC s₂ H₂ fp pins=>(t5 (Nc:=["_law_urn_here","_law_kind_here","_law_j"]) (caps:=[some 0,some 2,none]) rfl (G3.of (osc:=_) (N:=["_law_urn_here","_law_n","_law_kind_here","_law_i"]) (ks:=["_law_urn_here","_law_kind_here"]) rfl rfl rfl rfl (i8 rfl (i8 rfl j8)) (by kernel_rfl)) (A8 rfl n_range (a8 (pv 1) b6)) (λC s₂ H₂ fp pins=>(c9 (i:=2) (show z0q (["_law_urn_here","_law_kind_here","_law_j"]:List Str) by decide +kernel) rfl (q0z rfl) (j0b rfl))) (λC s₂ H₂ fp pins=>(c8 G__law_number hr (a8 (pv 0) (a8 (pv 1) b6)) g9))))) (a8 bk4 b6))))))) m6)
   (b9 (A4 (j1 ab6 (g8 j5 rfl n_len (by decide +kernel) (a8 (pv 3) b6)) b7 (i5 _)) (c7 (aM2 (i:=3) (j:=4) rfl A3.nd rfl rfl (by decide) rfl rfl (a8 (w9 (a8 (j2 (a8 b7 (a8 b7 b6))) (a8 (j2 (a8 b7 (a8 b7 b6))) b6))) (a8 (j2 (a8 b7 (a8 b7 (a8 b7 b6)))) b6)) rfl)) m6)
   (c7 (i7 (j2 (a8 (c8 G__law_likened hr (a8 (pv 0) (a8 b7 (a8 (c8 G__law_companion hr (a8 (pv 3) b6) g9) (a8 b7 b6)))) g9) (a8 (pv 4) b6)))))))))),?_⟩
 rw [show start ["_law_urn_here","_law_told","_law_kind_here","_law_p","_law_numbers","_law_n"] [.ref u]=[some (.ref u),none,none,none,none,none] from rfl]
 refine f9 (λσ H1 => ∃ b,σ=[some (.ref u),some (.bl b),none,none,none,none]/\j9 u H H1/\j7 H1 u) (λN hN=>?_) ?_
 ·simp! [C9]
  refine ⟨hU,by decide,by decide,λr H1 r0 r1 s1 u1=>hN _ _ ⟨_,rfl,s1,u1⟩⟩
 rintro σ H1 ⟨b,rfl,s1,u1⟩;refine f9 (λσ H2 => ∃ kd:Int,σ=[some (.ref u),some (.bl b),some (.int kd),none,none,none]/\j9 u H H2/\j7 H2 u/\(kd=0 \/ kd=1 \/ kd=2)) (λN hN=>?_) ?_
 ·simp! [as1]
  exact ⟨u1,λr H2 hk s2 u2=>hN _ _ ⟨r,rfl,s1.trans s2,u2,hk⟩⟩
 rintro σ H2 ⟨kd,rfl,s2,u2,hk⟩;refine f9 (λσ H3 => ∃ l rn xs qs,σ=[some (.ref u),some (.bl b),some (.int kd),some (.ref l),some (.ref rn),none]/\j9 u H H3/\j7 H3 u/\LsX u H3 l xs qs/\1<=qs.length/\qs.length<=5/\P3 qs qs.length/\ClN 80 qs) (λN hN=>?_) ?_
 ·subst_eqs
  refine ⟨by decide,u,_,rfl,u2,by rcases hk with rfl | rfl | rfl <;> decide,λt l rn xs qs H3 s3 u3 e3 L3 fl l1 l5 tl cl=>?_⟩
  exact ⟨t,rfl,_,SqT.of e3,rfl,_,_,rfl,_,_,rfl,rfl,hN _ _ ⟨l,rn,xs,qs,rfl,s2.trans s3,u3,L3,l1,l5,tl,cl⟩⟩
 rintro σ H3 ⟨l,rn,xs,qs,rfl,s3,u3,L3,l1,l5,tl,cl⟩
 -- a polynomial's table,and one alike to it
 have aG6:∀ {p v:Addr} {xs:List V} {qs:List Rat} {H4:Hp},j9 u H H4->j7 H4 u->LsX u H4 p xs qs->2<=qs.length->qs.length<=5->P3 qs qs.length->ClN 80 qs->aC3 K [V.ref p] H4 (λx H1=>am8 K [V.ref u,V.int 0,x,V.int 4] H1 (λx H1=>0+1+1<=sizeLine/\∀ (p:Addr),H1 p=none->Q (V.ref p) (upd H1 p (HO.tup [x,V.ref v]))) E0) E0:=fun {p v xs qs H4} s4 u4 L4 l2 l5 tl cl=>by
  have lM:=am5 qs (qs.length-1);refine ⟨p,xs,qs,qs.length-1,80,rfl,SqL.of L4.at',L4.nums,cl,by decide,tl,⋯,⋯,⋯,λB oM r ts H5 s5 f5 g5 nd5 e5 R5=>?_⟩
  have u5:=c5.urn s5 u4;refine ⟨u,r,ts,_,B,_,rfl,u5,TbX.made u4 f5 g5 e5 R5,rfl,⋯,⋯,oM,λr2 us N C H6 dA lN oN=>⟨by decide,λp2 f2=>?_⟩⟩
  have S:=c5.new f2 (.tup [.ref r2,.ref v]);exact k p2 r2 _ us N _ ((dA.to u5 (s4.trans (c5.x s5 u))).s S) ⋯ ⋯ (.inl ⟨C,oN⟩) b8
 simp! [C9]
 refine B3 (λ_=>?_) (λ_=>?_)
 ·refine ⟨u3,by decide,by decide,λr H4 r0 r4 s4 u4=>?_⟩
  obtain ⟨n,hn⟩:∃ n:Nat,1+r=(n:Int):=⟨(1+r).toNat,⋯⟩;rw [hn];have S4:=s3.trans s4
  have drawn:∀ kd':Int,(bK kd'=4 \/ n<=2/\bK kd'<=40)->∀ (D:Addr),H4 D=none->V7 (Itr 0 (n:Int).toNat) D [some (V.ref u),some (V.int (n:Int)),some (V.int kd'),none] (upd H4 D (HO.lst [])) (l9 3) (λσ H Q => ∃ v,σ[1]? = some (some v)/\∃ j,v=V.int j/\-2 ^ 62<=j/\j<2 ^ 62/\∀ (D:Addr),H D=none->V7 (Itr 0 j.toNat) D [σ[0]?.join,σ[2]?.join,none] (upd H D (HO.lst [])) (l9 2) (ar8 P4 E0 (J1 (G2 0) (J1 (G2 1) ae4))) Q) λx H1=>0+1+1<=sizeLine/\∀ (p:Addr),H1 p=none->Q (V.ref p) (upd H1 p (HO.tup [x,V.non])):=λkd' hb D fD=>by
   rw [g0j];refine bm4 u4 fD ⋯ λus N H5 dA lN bN=>⟨by decide,λp fp=>?_⟩
   refine k p D _ us N _ ((dA.to u4 S4).s (c5.new fp _)) ⋯ ⋯ ?_ b8;rcases hb with hb | ⟨h2,hb⟩
   ·rw [hb] at bN
    exact .inl ⟨360360,⋯,by decide,by decide,λL hL=>⟨by rw [(bN L hL).1,lN],λq hq=>(bk6 ((bN L hL).2 q hq)).mono (by decide)⟩⟩
   ·exact .inr ⟨⋯,λL hL=>⟨by rw [(bN L hL).1,lN],λq hq=>((bN L hL).2 q hq).mono hb⟩⟩
  refine B3 (λh2=>⟨by decide,⋯,⋯,drawn _ (.inl ?_)⟩) (λh2=>⟨⋯,⋯,drawn _ ?_⟩)
  ·rcases hk with rfl | rfl | rfl <;> rfl
  ·exact .inr ⟨⋯,by unfold bK;split <;> decide⟩
 ·have ex:=L3.nums.length
  refine ⟨xs,.inl (SqL.of L3.at'),B3 (λ_=>?_) (λ_=>?_)⟩
  ·refine ⟨by decide,λp1 f1=>⟨by decide,λp2 f2=>⟨by decide,λp3 f3=>⟨by decide,λp4 f4=>?_⟩⟩⟩⟩
   have S1:=c5.new f1 (HO.tup [V.int 1,V.int 1]);have S2:=c5.new f2 (HO.tup [V.int 1,V.int 1]);have S3:=c5.new f3 (HO.lst [V.ref p1,V.ref p2]);have S4:=c5.new f4 (HO.tup [V.int 1,V.int 0,V.int 0]);have S:=(S1.trans S2).trans (S3.trans S4);have u4:=c5.urn (S1.trans S2) u3;refine aG6 (s3.trans (c5.x S u)) (c5.urn S u3) (qs:=[1,1]) (xs:=[V.ref p1,V.ref p2]) ⟨w5 u4 f3,S4 _ _ b8,.cons (S4 _ _ (S3 _ _ (S2 _ _ b8))) (.cons (S4 _ _ (S3 _ _ b8)) .nil)⟩ (by decide) (by decide) (aB6 (qs:=[1]) (by decide)) ?_
   exact (ac2 (B:=1) (W:=80) (by decide) (by decide) λx hx=>by
    rcases z0d.mp hx with rfl | hx
    ·exact ⟨1,by decide,by decide⟩
    ·rw [q0u.mp hx];exact ⟨1,by decide,by decide⟩)
  ·exact aG6 s3 u3 L3 ⋯ l5 tl cl
def eC (B:Nat):Nat->Nat
 | 0=>1
 | k+1=>B*eC B k*(k+1)
theorem ao6 {B:Nat} (h:0<B):∀ k,0<eC B k
 | 0=>Nat.one_pos
 | k+1=>z0s (z0s h (ao6 h k)) (Nat.succ_pos k)
theorem bh8 {B W:Nat} (h:B<2 ^ W):∀ k,k<=4->eC B k<2 ^ (k*(W+12)+1)
 | 0,_=>by rw [Nat.zero_mul];show 1<2 ^ 1;decide
 | k+1,hk=>by
  have a:=z0g (z0g h (bh8 h k ⋯)) (show k+1<2 ^ 3 by omega)
  rw [<- z0p,<- z0p] at a;exact q0b a (d7 (by rw [u0q];omega))
theorem at3 {B V:Nat} (hB:0<B) {f:Nat->Rat}:∀ n,(∀ i,i<n->OvB B V (f i))->OvB B (V+n) (j4 f n)
 | 0,_=>OvB.zero _ _
 | n+1,h=>(OvB.add hB (at3 hB n λi hi=>h i ⋯) ((h n ⋯).mono ⋯)).mono ⋯
theorem aX6 {B W k:Nat} {x:Rat} (h:OvB B W x) (hk:k<2 ^ 3) (k0:0<k):OvB (B*k) W (x / (k:Rat)):=by
 obtain ⟨v,rfl,b⟩:=h;refine ⟨v,?_,b⟩;rw [j0h,j0h,j0m,z0v]
 show (v:Rat) / (B:Rat) / (k:Rat)=(v:Rat) / ((B:Rat)*(k:Rat));have e:(k:Rat) ≠ 0:=λz=>by have:=Rat.natCast_inj (a:=k) (b:=0) |>.mp z;omega
 by_cases b0:(B:Rat)=0
 ·rw [b0,Rat.zero_mul,z0z,z0z,Rat.inv_zero];grind
 ·have e1:=z0t _ e
  have e2:=z0t _ b0;have e3:=z0t ((B:Rat)*(k:Rat)) (λz=>by rcases u0v.mp z with h | h;exact b0 h;exact e h)
  rw [z0z,z0z,z0z]
  grind
theorem bq1 {n B W:Nat} {A:Mt} (n4:n<=4) (B0:0<B) (hA:∀ i j,i<n->j<n->OvB B W (A i j)):∀ k,k<=3->(∀ i j,i<n->j<n->OvB (eC B k) (k*(W+12)+1) (flT n A k i j))->OvB (eC B (k+1)) ((k+1)*(W+12)) (flK n A k)/\(∀ i j,i<n->j<n->OvB (eC B (k+1)) ((k+1)*(W+12)+1) (flT n A (k+1) i j)):=λk hk ih=>by
 have E0:=ao6 B0 k;have sW:(k+1)*(W+12)=k*(W+12)+(W+12):=u0q _ _
 have mo:∀ i j,i<n->j<n->OvB (B*eC B k) (W+(k*(W+12)+1)+4) (mm n A (flT n A k) i j):=λi j hi hj =>
  (at3 (z0s B0 E0) n λt ht=>(hA i t hi ht).mul (ih t j ht hj)).mono ⋯
 have ko:OvB (eC B (k+1)) ((k+1)*(W+12)) (flK n A k):=by
  have s:=at3 (z0s B0 E0) n λt ht=>mo t t ht ht;have d:=aX6 (k:=k+1) s.neg ⋯ ⋯;unfold flK;rw [show ((k+1:Nat):Rat)=(k:Rat)+1 by rw [Rat.natCast_add];rfl] at d
  exact d.mono ⋯
 refine ⟨ko,λi j hi hj=>?_⟩;rw [G1];have a:=(mo i j hi hj).up (z0s B0 E0) (C:=k+1) (c:=3) ⋯ ⋯
 have b:OvB (eC B (k+1)) ((k+1)*(W+12)) (flK n A k*dij i j):=by
  unfold dij
  split
  ·rw [m0h];exact ko
  ·rw [Rat.mul_zero];exact OvB.zero _ _
 exact (OvB.add (ao6 B0 (k+1)) (a.mono (show _<=(k+1)*(W+12) by omega)) b).mono ⋯
theorem bh9 {n B W:Nat} {A:Mt} (n4:n<=4) (B0:0<B) (BW:B<2 ^ W) (hA:∀ i j,i<n->j<n->OvB B W (A i j)):∀ k,k<=4->(∀ i j,i<n->j<n->OvB (eC B k) (k*(W+12)+1) (flT n A k i j))/\∀ q ∈ chQ n A k,OvB (eC B k) (k*(W+12)+1) q
 | 0,_=>by
  rw [Nat.zero_mul];refine ⟨λi j _ _=>?_,λq hq=>?_⟩
  ·rw [F5]
   unfold dij
   split
   ·exact ⟨1,by show (1:Rat)=z0b 1 ((1:Nat):Int);decide,by decide⟩
   ·exact OvB.zero _ _
  ·rw [q0u.mp hq];exact ⟨1,by show (1:Rat)=z0b 1 ((1:Nat):Int);decide,by decide⟩
 | k+1,hk=>by
  obtain ⟨a,b⟩:=bh9 n4 B0 BW hA k ⋯;obtain ⟨c,d⟩:=bq1 n4 B0 hA k ⋯ a;refine ⟨d,λq hq=>?_⟩;rcases z0d.mp hq with rfl | hq
  ·exact c.mono ⋯
  ·have:=(b q hq).up (ao6 B0 k) (C:=B*(k+1)) (c:=W+3) (z0s B0 (Nat.succ_pos k)) (by rw [z0p];exact z0g BW (show k+1<2 ^ 3 by omega))
   rw [show eC B k*(B*(k+1))=eC B (k+1) by show _=B*eC B k*(k+1);rw [v0u B (eC B k),m0t]] at this
   exact this.mono (by rw [u0q];omega)
structure SX (X:List Addr) (H H':Hp):Prop where
 s:∀ b o,H b=some o->b ∉ X->H' b=some o
 l:∀ x ∈ X,∃ ys,H' x=some (.lst ys)
 l0:∀ x ∈ X,∃ ys,H x=some (.lst ys)
theorem SX.tups {X:List Addr} {H H':Hp} (h:SX X H H'):V5 H H':=λp xs e=>h.s _ _ e λz=>by
 obtain ⟨ys,e2⟩:=h.l0 p z;rw [e] at e2;cases e2
theorem SX.start {X:List Addr} {H:Hp} (l:∀ x ∈ X,∃ ys,H x=some (.lst ys)):SX X H H:=⟨λ_ _ h _=>h,l,l⟩
theorem SX.same {X:List Addr} {H H' H2:Hp} (h:SX X H H') (s:c5 H' H2):SX X H H2:=⟨λb o e n=>s _ _ (h.s b o e n),λx hx=>let ⟨ys,e⟩:=h.l x hx;⟨ys,s _ _ e⟩,h.l0⟩
theorem SX.upd {X:List Addr} {H H':Hp} (h:SX X H H') {a:Addr} (ha:a ∈ X) (ys:List V):SX X H (upd H' a (.lst ys)):=⟨λb o e n=>by rw [d4 (λz=>n (by rw [z];exact ha))];exact h.s b o e n,λx hx=>by
 by_cases z:x=a
 ·exact ⟨ys,by rw [z,b8]⟩
 ·rw [d4 z];exact h.l x hx,h.l0⟩
theorem Rws.sx {X:List Addr} {H H':Hp} (h:SX X H H'):∀ {ts:List Addr} {M:List (List Rat)},(∀ t ∈ ts,t ∉ X)->Rws H ts M->Rws H' ts M
 | _,_,_,.nil=>.nil
 | _,_,n,.cons e ns t=>.cons (h.s _ _ e (n _ q0x)) (ns.mono h.tups) (Rws.sx h (λt ht=>n t (q0r _ ht)) t)
def ap6 (x:Rat) (M:List (List Rat)) (n i:Nat):List Rat:=(z0w n).map λj=>lsM x (qq M) i j
def lsQ (x:Rat) (M:List (List Rat)) (n:Nat):List (List Rat):=(z0w n).map (ap6 x M n)
theorem aj4 (x:Rat) (M:List (List Rat)) (n:Nat):(lsQ x M n).length=n:=by simp [lsQ]
theorem ao1 (x:Rat) (M:List (List Rat)) (n i:Nat):(ap6 x M n i).length=n:=by simp [ap6]
theorem aZ1 {x:Rat} {M:List (List Rat)} {n i:Nat} (h:i<n):(lsQ x M n)[i]? = some (ap6 x M n i):=by unfold lsQ;rw [z0c,Z6 h];rfl
theorem az7 {x:Rat} {M:List (List Rat)} {n i j:Nat} (h:j<n):(ap6 x M n i)[j]? = some (lsM x (qq M) i j):=by unfold ap6;rw [z0c,Z6 h];rfl
theorem br7 (x:Rat) (M:List (List Rat)) (n:Nat):bn3 n (lsQ x M n) (lsM x (qq M)):=⟨aj4 x M n,λL hL=>by
 obtain ⟨i,_,rfl⟩:=j0q.mp hL;exact ao1 x M n i,λi j hi hj=>by
 unfold qq;rw [aZ1 hi]
 show aQ (ap6 x M n i) j=_;unfold aQ;rw [az7 hj];rfl⟩
theorem bh4 {B W n:Nat} {M:List (List Rat)} (h:M4 B W M) (hn:M.length=n) {i j:Nat} (hi:i<n) (hj:j<n):OvB B W (qq M i j):=by
 have e:=q0j (l:=M) (i:=i) ⋯;have r:=h.row _ (q0v e);unfold qq;rw [e];exact r.2 _ (Q9 (by rw [r.1,hn];exact hj))
theorem br6 {B W n:Nat} {M:List (List Rat)} {x:Rat} (h:M4 B W M) (hn:M.length=n) (bx:BdN 4 x):M4 (x.den*B) (W+5) (lsQ x M n):=by
 have d0:0<x.den:=by have:=x.den_nz;omega
 refine ⟨by rw [aj4,<- hn];exact h.n7,z0s d0 h.B0,?_,λL hL=>?_⟩
 ·have:=z0g bx.d h.BW
  rw [<- z0p] at this;exact q0b this (d7 ⋯)
 ·obtain ⟨i,hi,rfl⟩:=j0q.mp hL
  refine ⟨by rw [ao1,aj4],λq hq=>?_⟩
  obtain ⟨j,hj,rfl⟩:=j0q.mp hq;have a:=(bh4 h hn (v0w.mp hi) (v0w.mp hj)).up h.B0 d0 bx.d;rw [v0u] at a;have ox:OvB x.den 4 x:=⟨x.num,(z0h x).symm,bx.n⟩
  have b:OvB (x.den*B) (4+W) (x*dij i j):=by
   unfold dij
   split
   ·rw [m0h];exact ox.up d0 h.B0 h.BW
   ·rw [Rat.mul_zero];exact OvB.zero _ _
  exact (OvB.sub (z0s d0 h.B0) (b.mono ⋯) a).mono ⋯
theorem aQ6 {n:Nat} {A:Mt}:∀ k,(chQ n A k)[k]? = some 1
 | 0=>rfl
 | k+1=>aQ6 k
theorem bg5 {xs:List V} {v:V} (h:xs[xs.length-1]? = some v):atI xs (-1)=some v:=by
 have l:=(q0f.mp h).1;unfold atI ixN;rw [if_neg (by decide),if_pos ⋯]
 show xs[_]? = _;rw [show ((-1:Int)+(xs.length:Int)).toNat=xs.length-1 by omega]
 exact h
def aO9 (K:q0a):Sp:=λvs H Q _ => ∃ (a:Addr) (v:V) (ts:List Addr) (M:List (List Rat)) (n B W:Nat) (x:Rat),vs=[.ref a,v]/\H a=some (.lst (ts.map V.ref))/\Rws H ts M/\M.length=n/\n<=7/\M4 B W M/\W<=400/\Num K H v x/\BdN 4 x/\aG2 H Q (lsQ x M n)
abbrev J3:Stmt:=top 72
theorem am9:i9 ["_law_table","_law_x"] ["_law_table","_law_x"] (c6 J3):=by and_intros
theorem an4 {f f1 f2:Addr} (d:Df K mg "_law_lessened" J3 ["_law_table","_law_x"] f) (G__law_less:Def P w K mg base CX0 2 "_law_less" f1 ["_law_one","_law_other_here"] (B8 K (· - ·))) (G__law_times:Def P w K mg base CX0 2 "_law_times" f2 ["_law_one","_law_other_here"] (B8 K (· * ·))) (n_enumerate:mg "enumerate" = none) (n_int:mg "int" = none):Def P w K mg base CX0 3 "_law_lessened" f ["_law_table","_law_x"] (aO9 K):=by
 refine d.ok (N:=["_law_table","_law_x"]) am9 (by rintro vs H Q E ⟨_,_,_,_,_,_,_,_,h,_⟩;rw [h];rfl) (λcdv A outer s H vs Q E hr h=>?_)
 obtain ⟨a,v,ts,M,n,B,W,x,rfl,ha,hR,hn,n7,oM,hW,⟨ax,rfl,hx0⟩,bx,k⟩:=h;have hRl:=hR.length;refine ⟨_,(c7 (i7 (al2 (Nc:=["_law_x","_law_i","_law_row"]) (caps:=[some 1,none,none]) rfl (ag0.of (osc:=c6 J3) (N:=["_law_table","_law_x"]) (ks:=["_law_x"]) rfl rfl rfl rfl (i8 rfl j8) (by decide +kernel)) (ad4 rfl n_enumerate (a8 (pv 0) b6)) (λC s₂ H₂ fp pins=>(show PG _ _ (T6 K 2 (r6 (l9 1) (r6 (l9 2) T9))) from by (refine C2 (n:=2) ?_ ?_ ?_ ?_;rfl;(refine i4 ?_ ?_ ?_;(exact (c9 (i:=1) (show z0q (["_law_x","_law_i","_law_row"]:List Str) by decide +kernel) rfl (j0b rfl) (q0z rfl)));(refine i4 ?_ ?_ ?_;(exact (c9 (i:=2) (show z0q (["_law_x","_law_i","_law_row"]:List Str) by decide +kernel) rfl (q0z rfl) (j0b rfl)));(exact y3);rfl);rfl);rfl;rfl))) (λC s₂ H₂ fp pins=>(t5 (Nc:=["_law_x","_law_i","_law_j","_law_a"]) (caps:=[some 0,some 1,none,none]) rfl (G3.of (osc:=_) (N:=["_law_x","_law_i","_law_row"]) (ks:=["_law_x","_law_i"]) rfl rfl rfl rfl (i8 rfl (i8 rfl j8)) (by kernel_rfl)) (show PI _ _ _ (aJ1 K _) from by exact (ad4 rfl n_enumerate (a8 (pv 2) b6))) (λC s₂ H₂ fp pins=>(show PG _ _ (T6 K 2 (r6 (l9 2) (r6 (l9 3) T9))) from by (refine C2 (n:=2) ?_ ?_ ?_ ?_;rfl;(refine i4 ?_ ?_ ?_;(exact (c9 (i:=2) (show z0q (["_law_x","_law_i","_law_j","_law_a"]:List Str) by decide +kernel) rfl (q0z rfl) (j0b rfl)));(refine i4 ?_ ?_ ?_;(exact (c9 (i:=3) (show z0q (["_law_x","_law_i","_law_j","_law_a"]:List Str) by decide +kernel) rfl (q0z rfl) (j0b rfl)));(exact y3);rfl);rfl);rfl;rfl))) (λC s₂ H₂ fp pins=>(c8 G__law_less hr (a8 (c8 G__law_times hr (a8 (pv 0) (a8 (j2 (a8 (p5 C8 rfl n_int (by decide +kernel) (a8 (y4 R3 (pv 1) (pv 2) (i5 _)) b6)) (a8 b7 b6))) b6)) g9) (a8 (pv 3) b6)) g9))))))),?_⟩
 rw [show start ["_law_table","_law_x"] [.ref a,.ref ax]=[some (.ref a),some (.ref ax)] from rfl]
 subst_eqs
 refine ⟨⟨_,SqL.of ha⟩,λD hD=>?_⟩;refine am3 (ts.map V.ref) (λi σ H2 => ∃ o1 o2,σ=[some (.ref ax),o1,o2]/\F8 H D ((lsQ x M n).take i) H2) ⟨_,_,rfl,F8.start hD⟩ (λi σ H2 ⟨_,_,_,T⟩=>SqL.of (T.same _ _ ha)) ?_ ?_
 ·rintro i y σ H2 p hx ⟨o1,o2,rfl,T⟩ hp
  have hi:=(q0f.mp hx).1;obtain ⟨t,ht,rfl⟩:=F2 hx;obtain ⟨xs,L,hL,et,nt⟩:=hR.get ht;have rL:=oM.bd L (q0v hL);have iN:i<n:=by rw [q0g] at hi;omega
  have Sp:=c5.new hp (.tup [.int (i:Int),.ref t]);have et2:=Sp _ _ (T.same _ _ et);have lxs:=nt.length;have l1:=rL.1
  subst_eqs
  refine ⟨_,SqT.of b8,rfl,_,_,rfl,_,_,rfl,rfl,_,rfl,⟨_,SqL.of et2⟩,λD2 hD2=>?_⟩;refine am3 xs (λj σ H3 => ∃ o1 o2,σ=[some (.ref ax),some (.int (i:Int)),o1,o2]/\M5 (upd H2 p (.tup [.int (i:Int),.ref t])) D2 ((ap6 x M n i).take j) H3) ⟨_,_,rfl,M5.start hD2⟩ (λj σ H3 ⟨_,_,_,R⟩=>SqL.of (R.same _ _ et2)) ?_ ?_
  ·rintro j y σ H3 p2 hx2 ⟨o1,o2,rfl,R⟩ hp2
   have hj:=(q0f.mp hx2).1;obtain ⟨px,q1,rfl,hq1,hpx⟩:=nt.getV hx2;have b1:=rL.2 q1 (q0v hq1);have jN:j<n:=⋯;have S3:=c5.new hp2 (.tup [.int (j:Int),.ref px]);have e1:qq M i j=q1:=by unfold qq;rw [hL];show aQ L j=_;unfold aQ;rw [hq1];rfl
   subst_eqs
   refine ⟨_,SqT.of b8,rfl,_,_,rfl,_,_,rfl,rfl,rfl,by decide,λp3 f3=>?_⟩
   have S4:=c5.new f3 (.tup [.int (if V.int (i:Int)=V.int (j:Int) then 1 else 0),.int 1])
   have e34:t4 (dij i j)=[.int (if V.int (i:Int)=V.int (j:Int) then 1 else 0),.int 1]:=by
    unfold dij
    by_cases z:i=j
    ·rw [if_pos z,if_pos (by rw [z])];rfl
    ·rw [if_neg z,if_neg (λy=>z (by have:=V.int.inj y;omega))];rfl
   rw [<- e34] at S4 ⊢;have S04:=(((T.same.trans Sp).trans R.same).trans S3).trans S4
   have bd:BdN 1 (dij i j):=by
    unfold dij
    split <;> exact ⟨by decide,by decide⟩
   refine ⟨_,_,x,dij i j,4,1,rfl,⟨_,rfl,S04.tup hx0⟩,⟨_,rfl,SqT.of b8⟩,bx.t (by decide),bd.t (by decide),by decide,λr1 H5 s5 e5=>?_⟩
   refine ⟨_,_,x*dij i j,q1,4+1,W,rfl,⟨_,rfl,SqT.of e5⟩,⟨_,rfl,SqT.of ((((R.same.trans S3).trans S4).trans s5) _ _ (Sp _ _ (T.same _ _ hpx)))⟩,(bx.mul bd).t (by decide),b1.t ⋯,⋯,λr2 H6 s6 e6=>?_⟩
   obtain ⟨ys,eD,yl,R'⟩:=R.add hD2 (((S3.trans S4).trans s5).trans s6) e6;refine m8.mk hj eD (p9 (by rw [yl,z0f];omega)) ⟨_,_,rfl,?_⟩
   rw [d6 (az7 jN (i:=i)),show lsM x (qq M) i j=x*dij i j-q1 by unfold lsM;rw [e1]]
   exact R'
  ·rintro σ H3 ⟨o1,o2,rfl,R⟩
   rw [n9 (by rw [ao1];omega)] at R
   have D2n:H2 D2=none:=Sp.free hD2;obtain ⟨ys,eD,yl,T'⟩:=(T.to Sp).add hD hD2 R;refine m8.mk hi eD (p9 (by rw [yl,z0f,aj4];omega)) ⟨_,_,rfl,?_⟩
   rw [d6 (aZ1 iN)];exact T'
 ·rintro σ H2 ⟨o1,o2,rfl,T⟩
  rw [n9 (by rw [aj4,q0g];omega)] at T
  exact T.res k hD
def aH2:Sp:=λvs H Q _ => ∃ (u a:Addr) (ts:List Addr) (M:List (List Rat)) (n B W:Nat),vs=[.ref u,.ref a]/\j7 H u/\TbX u H a ts M/\M4 B W M/\M.length=n/\1<=n/\n<=4/\(W+9)*(n+1)<=900/\W<=200/\∀ H',j9 u H H'->j7 H' u->Q (.bl true) H'
abbrev B7:Stmt:=top 73
theorem E4:i9 ["_law_urn_here","_law_table","_law_handed","_law_told","_law_points","_law_before"] ["_law_urn_here","_law_table"] (c6 B7):=by and_intros
theorem aj2 {f f1 f2 f3 f4 f5 f6 f7:Addr} (d:Df K mg "_law_poly_right" B7 ["_law_urn_here","_law_table"] f) (G__law_copied:Def P w K mg base CX0 1 "_law_copied" f1 ["_law_table"] aH4) (G_table_poly:Def P w K mg base CX0 4 "table_poly" f2 ["table"] (aC1 K)) (GD__law_is_poly:Def P w K mg base CX0 3 "_law_is_poly" f3 ["_law_thing"] (ay5 K)) (GD__law_number:Def P w K mg base CX0 2 "_law_number" f4 ["_law_urn_here","_law_kind_here"] P4) (GD__law_worth:Def P w K mg base CX0 3 "_law_worth" f5 ["_law_p","_law_x"] (ay3 K)) (G__law_det:Def P w K mg base CX0 3 "_law_det" f6 ["_law_table"] (aW2 K)) (G__law_lessened:Def P w K mg base CX0 3 "_law_lessened" f7 ["_law_table","_law_x"] (aO9 K)) (n_len:mg "len" = none) (n_list:mg "list" = none) (n_range:mg "range" = none) (n_all:mg "all" = none):Def P w K mg base CX0 5 "_law_poly_right" f ["_law_urn_here","_law_table"] aH2:=by
 refine d.ok (N:=["_law_urn_here","_law_table","_law_handed","_law_told","_law_points","_law_before"]) E4 (by rintro vs H Q E ⟨_,_,_,_,_,_,_,h,_⟩;rw [h];rfl) (λcdv A outer s H vs Q E hr h=>?_)
 obtain ⟨u,a,ts,M,n,B,W,rfl,hU,T0,oM,hn,n1,n4,hWn,hW,k⟩:=h;have hu:=hr.units;have G__law_is_poly:=GD__law_is_poly;have G__law_number:=GD__law_number;have G__law_worth:=GD__law_worth;have lts:=T0.rws.length;have rM:∀ L ∈ M,L.length=n:=λL hL=>by rw [(oM.row L hL).1,hn]
 have cM:ClN W M.flatten:=ac2 oM.B0 oM.BW λq hq=>by
  obtain ⟨L,hL,hq⟩:=g0u.mp hq;exact (oM.row L hL).2 q hq
 have ob:=(bh9 n4 oM.B0 oM.BW (λi j hi hj=>bh4 oM hn hi hj) n n4).2;have nW:n*(W+12)<=4*212:=y0w n4 ⋯;have eL:=bh8 oM.BW n n4
 refine ⟨_,(b9 (h9 (i:=2) E4.nd rfl (q0z rfl) (c8 G__law_copied hr (a8 (pv 1) b6) g9))
   (b9 (h9 (i:=3) E4.nd rfl (j0b rfl) (c8 G_table_poly hr (a8 (pv 2) b6) g9))
   (b9 (A4 (PW.pt (Z7 (P9 (P8 (c8 G__law_is_poly hr (a8 (pv 3) b6) g9))) (Z7 (j1 al3 (g8 j5 rfl n_len (by decide +kernel) (a8 (pv 3) b6)) (d2 y0 (g8 j5 rfl n_len (by decide +kernel) (a8 (pv 1) b6)) b7) (i5 _)) (Z7 (j1 (af1 hu) (i6 j3 (pv 3) (ae9 Y1 b7) (λ_ _=>rfl)) (j2 (a8 b7 (a8 b7 b6))) (i5 _)) (ad1 (j1 (af1 hu) (pv 2) (pv 1) (i5 _))))))) (c7 (i7 Z8)) m6)
   (b9 (h9 (i:=4) E4.nd rfl (q0z rfl) (d2 aa7 (t5 (Nc:=["_law_k"]) (caps:=[none]) rfl (G3.of (osc:=c6 B7) (N:=["_law_urn_here","_law_table","_law_handed","_law_told","_law_points","_law_before"]) (ks:=[]) rfl rfl rfl rfl j8 (by decide +kernel)) (A8 rfl n_range (a8 (d2 y0 (g8 j5 rfl n_len (by decide +kernel) (a8 (pv 1) b6)) b7) b6)) (λC s₂ H₂ fp pins=>(c9 (i:=0) (show z0q (["_law_k"]:List Str) by decide +kernel) rfl (q0z rfl) (j0b rfl))) (λC s₂ H₂ fp pins=>(j2 (a8 (pv 0) (a8 b7 b6))))) (w9 (a8 (c8 G__law_number hr (a8 (pv 0) (a8 b7 b6)) g9) b6))))
   (b9 (A4 (P9 (P8 (g8 (av6 rfl) rfl n_all (by decide +kernel) (a8 (t5 (Nc:=["_law_told","_law_table","_law_x"]) (caps:=[some 3,some 1,none]) rfl (G3.of (osc:=c6 B7) (N:=["_law_urn_here","_law_table","_law_handed","_law_told","_law_points","_law_before"]) (ks:=["_law_told","_law_table"]) rfl rfl rfl rfl (i8 rfl (i8 rfl j8)) (by decide +kernel)) (z9 (pv 4)) (λC s₂ H₂ fp pins=>(c9 (i:=2) (show z0q (["_law_told","_law_table","_law_x"]:List Str) by decide +kernel) rfl (q0z rfl) (j0b rfl))) (λC s₂ H₂ fp pins=>(y4 (by exact aa6 hu:OpR _ _ (bd2 K)) (c8 G__law_worth hr (a8 (pv 0) (a8 (pv 2) b6)) g9) (c8 G__law_det hr (a8 (c8 G__law_lessened hr (a8 (pv 1) (a8 (pv 2) b6)) g9) b6) g9) (i5 _)))) b6)))) (c7 (i7 Z8)) m6)
   (b9 (h9 (i:=5) E4.nd rfl (q0z rfl) (p5 C5 rfl n_list (by decide +kernel) (a8 (pv 3) b6)))
   (b9 (E5 (j2 (a8 b7 (a8 b7 b6))) (P2 (pv 3) b7 E1))
   (b9 (al1 (az2 PySem.F.plainAttrs_list PySem.F.slot_list_append PySem.F.type_list_append N4 (pv 3) (a8 (j2 (a8 b7 (a8 b7 b6))) b6)))
   (b9 (E5 (j2 (a8 b7 (a8 b7 b6))) (P2 (i6 j3 (pv 2) b7 (λ_ _=>rfl)) b7 E1))
   (c7 (i7 (y4 (aa6 hu) (c8 G_table_poly hr (a8 (c8 G__law_copied hr (a8 (pv 1) b6) g9) b6) g9) (pv 5) (i5 _))))))))))))),?_⟩
 rw [show start ["_law_urn_here","_law_table","_law_handed","_law_told","_law_points","_law_before"] [.ref u,.ref a]=[some (.ref u),some (.ref a),none,none,none,none] from rfl]
 refine f9 (λσ H1 => ∃ hd,σ=[some (.ref u),some (.ref a),some (.ref hd),none,none,none]/\F8 H hd M H1/\H hd=none) (λN hN=>?_) ?_
 ·subst_eqs
  exact ⟨a,ts,M,rfl,T0.at',T0.rws,⋯,λr us H1 s1 fr fus nd er rr=>hN _ _ ⟨r,rfl,⟨s1,us,er,fus,nd,rr⟩,fr⟩⟩
 rintro σ H1 ⟨hd,rfl,A1,fhd⟩;obtain ⟨s1,us,ehd,fus,ndu,Rhd⟩:=A1;refine f9 (λσ H2 => ∃ t xs,σ=[some (.ref u),some (.ref a),some (.ref hd),some (.ref t),none,none]/\c5 H1 H2/\H1 t=none/\H2 t=some (.lst xs)/\w4 K H2 xs (chQ n (qq M) n)) (λN hN=>?_) ?_
 ·subst_eqs
  exact ⟨hd,us,M,n,W,rfl,ehd,Rhd,hn,rM,n1,n4,cM,⋯,λr xs H2 s2 fr er nr=>hN _ _ ⟨r,xs,rfl,s2,fr,er,nr⟩⟩
 rintro σ H2 ⟨t,xs,rfl,s2,ft,et,nt⟩;have lxs:=nt.length;rw [aj8] at lxs;refine f9 (λσ H3=>σ=[some (.ref u),some (.ref a),some (.ref hd),some (.ref t),none,none]/\c5 H2 H3) (λN hN=>?_) ?_
 ·subst_eqs
  have el:(chQ n (qq M) n)[n]? = some 1:=aQ6 n;have a2:=s1 _ _ T0.at';have R2:=T0.rws.same (s1.trans s2);refine ⟨t,xs,_,rfl,et,nt,λq hq=>?_,⋯,ai7 λx hx=>?_,λH3 s3=>⟨true,rfl,B3 (λz=>by cases z) λ_=>?_⟩⟩
  ·exact ((ob q hq).bdN (ao6 oM.B0 _) eL).d |> λh=>Nat.lt_trans h (u0y (by decide) ⋯)
  ·rw [aj8,g0d,el] at hx
   cases hx;decide
  have s23:=s2.trans s3;obtain ⟨pl,e1,n1'⟩:=nt.get el;refine ⟨xs,.inl (SqL.of (s3 _ _ et)),_,.inl (SqL.of (s23 _ _ a2)),rfl,B3 (λz=>absurd (by rw [q0g];omega) z) λ_=>?_⟩
  refine ⟨xs,SqL.of (s3 _ _ et),.ref pl,bg5 (by rw [lxs,g0d];exact e1),by decide,λp1 f1=>?_⟩
  have Sp:=c5.new f1 (.tup [.int 1,.int 1]);refine ⟨R0 1,R0 1,rfl,aa1 (n1'.mono (s3.trans Sp).tups).sqt,aa1 (SqT.of b8),ar2 _ _,aN4 _,_,rfl,?_⟩;rw [ar5,if_neg (by decide)]
  refine ⟨N7 M,N7 M,rfl,.lst (SqL.of (Sp _ _ (s23 _ _ ehd))) ((Rhd.same s23).same Sp).isDs,.lst (SqL.of (Sp _ _ (s23 _ _ a2))) ((R2.same s3).same Sp).isDs,ag8 _ _,am2 _,_,rfl,?_⟩;rw [ag9,decide_eq_true rfl,if_neg (by decide)]
  exact hN _ _ ⟨rfl,s3.trans Sp⟩
 rintro σ H3 ⟨rfl,s3⟩;have sH:=(s1.trans s2).trans s3;have hU3:j7 H3 u:=let ⟨g,m,p,e,r⟩:=hU;⟨g,m,p,sH _ _ e,r⟩;refine f9 (λσ H4 => ∃ (pt:Addr) (ys:List V) (qs:List Rat),σ=[some (.ref u),some (.ref a),some (.ref hd),some (.ref t),some (.ref pt),none]/\j9 u H3 H4/\j7 H4 u/\pt ≠ u/\H4 pt=some (.lst ys)/\v9 H4 ys qs/\(∀ q ∈ qs,BdN 4 q)/\qs.length<=6) (λN hN=>?_) ?_
 ·subst_eqs
  have a3:=sH _ _ T0.at';refine ⟨ts.map V.ref,.inl (SqL.of a3),⋯,by rw [q0g];omega,λD hD=>?_⟩
  rw [q0g,lts,hn,show ((n:Int)+1).toNat=n+1 by omega]
  have uD:D ≠ u:=λz=>by
   obtain ⟨_,_,_,e,_⟩:=hU3;rw [<- z,hD] at e;cases e
  refine M0 (λi σ H4 => ∃ o,σ=[o]/\M5 H3 D (((z0w (n+1)).map λk:Nat=>(k:Rat)).take i) H4) ⟨_,rfl,M5.start hD⟩ ?_ ?_
  ·rintro i σ H4 hi ⟨o,rfl,R⟩
   subst_eqs
   refine ⟨by decide,λp fp=>?_⟩
   have e:upd H4 p (HO.tup [V.int (0+(i:Int)),V.int 1]) p=some (.tup (t4 (i:Rat))):=by
    rw [b8,Int.zero_add]
    show _=some (HO.tup [V.int ((i:Rat)).num,V.int (((i:Rat)).den:Int)]);rw [Rat.num_natCast,Rat.den_natCast];rfl
   obtain ⟨zs,eD,yl,R'⟩:=R.add hD (c5.new fp (.tup [V.int (0+(i:Int)),V.int 1])) e;refine m8.mk hi eD (p9 (by rw [yl,z0f];omega)) ⟨_,rfl,?_⟩
   rw [d6 (l:=(z0w (n+1)).map λk:Nat=>(k:Rat)) (x:=(i:Rat)) (by rw [z0c,Z6 ⋯];rfl)]
   exact R'
  rintro σ H4 ⟨o,rfl,R⟩;rw [n9 (by rw [q0g,v0h];exact q0h _)] at R
  obtain ⟨sR,zs,eD,nz⟩:=R;have lz:=nz.length;rw [q0g,v0h] at lz;have hU4:j7 H4 u:=let ⟨g,m,p,e,r⟩:=hU3;⟨g,m,p,sR _ _ e,r⟩;refine ⟨u,0,rfl,hU4,λr q H5 bq sx hU5 er=>⟨by decide,λp fp=>⟨D,rfl,zs,?_,_,b8,q0q (m:=100) (by rw [j0u];omega) (by decide),λp1 f1=>?_⟩⟩⟩
  ·exact c5.new fp (.lst [.ref r]) _ _ (sx _ _ eD uD)
  have Sp:=(c5.new fp (.lst [.ref r])).trans (c5.new f1 (.lst (zs ++ [.ref r])))
  have p1u:p1 ≠ u:=λz=>by
   obtain ⟨_,_,_,e,_⟩:=hU5;rw [z,c5.new fp (.lst [.ref r]) _ _ e] at f1;cases f1
  refine hN _ _ ⟨p1,zs ++ [.ref r],((z0w (n+1)).map λk:Nat=>(k:Rat)) ++ [q],rfl,((c5.x sR u).trans sx).trans (c5.x Sp u),let ⟨g,m,p,e,r⟩:=hU5;⟨g,m,p,Sp _ _ e,r⟩,p1u,b8,(((nz.mono (sx.tups hU4)).append (.cons er .nil)).mono Sp.tups),λq' hq'=>?_,?_⟩
  ·rcases z0r.mp hq' with h | h
   ·obtain ⟨k,hk,rfl⟩:=j0q.mp h
    have:=v0w.mp hk;exact ⟨by rw [Rat.num_natCast,q0y];omega,by rw [Rat.den_natCast];decide⟩
   ·rw [q0u.mp h]
    exact bq
  ·rw [j0a,q0g,v0h,j0u];omega
 rintro σ H4 ⟨pt,ys,qs,rfl,s4,hU4,ptu,ept,nps,bps,l6⟩
 have tu:t ≠ u:=λz=>by
  obtain ⟨_,_,_,e,_⟩:=hU;rw [<- z] at e;rw [s1 _ _ e] at ft;cases ft
 have T4:=(T0.same sH).samex s4 hU3;have et4:=s4 _ _ (s3 _ _ et) tu;have nt4:=(nt.mono s3.tups).mono (s4.tups hU3);refine f9 (λσ H5=>σ=[some (.ref u),some (.ref a),some (.ref hd),some (.ref t),some (.ref pt),none]/\c5 H4 H5) (λN hN=>?_) ?_
 ·subst_eqs
  refine ⟨⟨_,SqL.of ept⟩,λD fD=>?_⟩;refine C4 ys (λj σ H5=>(∃ o,σ=[some (.ref t),some (.ref a),o])/\c5 H4 H5/\H5 D=some (.lst ((q0t j true).map V.bl))) ⟨⟨_,rfl⟩,c5.new fD _,b8⟩ (λj σ H5 _ ⟨_,s5,_⟩=>SqL.of (s5 _ _ ept)) ?_ ?_
  ·rintro j y σ H5 hy ⟨⟨o,rfl⟩,s5,eD⟩
   have hj:=(q0f.mp hy).1;obtain ⟨px,q,rfl,hq,hpx⟩:=nps.getV hy;have bq:=bps q (q0v hq)
   subst_eqs
   refine ⟨t,_,xs,_,q,eC B n,n*(W+12)+1,4,n*(W+12)+1,rfl,SqL.of (s5 _ _ et4),nt4.mono s5.tups,ob,ao6 oM.B0 _,eL,⟨px,rfl,SqT.of (s5 _ _ hpx)⟩,bq,by rw [aj8];omega,by rw [aj8];omega,by rw [aj8];omega,λr1 H6 s6 e6=>?_⟩
   have s56:=s5.trans s6;refine ⟨a,_,ts,M,n,B,W,q,rfl,s56 _ _ T4.at',T4.rws.same s56,hn,⋯,oM,⋯,⟨px,rfl,SqT.of (s56 _ _ hpx)⟩,bq,λr us' H7 s7 fr7 ft7 nd7 e7 R7=>?_⟩;have ol:=br6 oM hn bq;refine ⟨r,us',lsQ q M n,n,q.den*B,W+5,rfl,SqL.of e7,R7.toC,aj4 _ _ _,λL hL=>?_,ol.B0,ol.BW,⋯,by rw [show W+5+4=W+9 by omega];exact hWn,λr2 H8 s8 e8=>?_⟩
   ·have:=ol.row L hL
    rw [aj4] at this;exact this
   refine ⟨R0 _,R0 _,rfl,aa1 (SqT.of (s8 _ _ (s7 _ _ e6))),aa1 (SqT.of e8),ar2 _ _,aN4 _,?_⟩;rw [(br7 q M n).det,bm5 q (qq M) n1 n4,ar5];refine m8.mk hj (((s6.trans s7).trans s8) _ _ eD) (p9 (by rw [q0g,j0t];have:=nps.length;omega)) ⟨⟨_,rfl⟩,((s56.trans s7).trans s8).over fD _,?_⟩
   rw [b8,u0x,j0r];rfl
  ·rintro σ H5 ⟨⟨o,rfl⟩,s5,eD⟩
   refine ⟨D,rfl,_,SqL.of eD,?_⟩;rw [show (q0t ys.length true).all id=true by simp,if_neg (by decide)]
   exact hN _ _ ⟨rfl,s5⟩
 rintro σ H5 ⟨rfl,s5⟩;have T5:=T4.same s5;have et5:=s5 _ _ et4;have nt5:=nt4.mono s5.tups
 have hdu:hd ≠ u:=λz=>by
  obtain ⟨_,_,_,e,_⟩:=hU;rw [z,e] at fhd;cases fhd
 have usu:∀ x ∈ us,x ≠ u:=λx hx z=>by
  obtain ⟨_,_,_,e,_⟩:=hU;have:=(fus x hx).1;rw [z,e] at this;cases this
 have eh3:=s3 _ _ (s2 _ _ ehd);have Rh3:=(Rhd.same s2).same s3;have eh5:=s5 _ _ (s4 _ _ eh3 hdu);have Rh5:=(Rh3.samex s4 hU3 usu).same s5;have lus:=Rhd.length;have tnew:H t=none:=s1.free ft;obtain ⟨D1,h1⟩:∃ D1,us[0]? = some D1:=⟨_,q0j ⋯⟩;have m1:=q0v h1;have D1new:=(fus D1 m1).1;obtain ⟨X,hX⟩:∃ X:List Addr,X=[t,D1]:=⟨_,rfl⟩;have tX:t ∈ X:=by rw [hX];exact q0x
 have D1X:D1 ∈ X:=by rw [hX];exact q0r _ q0x
 have old:∀ x,(∃ o,H x=some o)->x ∉ X:=λx ⟨o,h⟩ hx=>by
  rw [hX] at hx;rcases z0d.mp hx with rfl | hx
  ·rw [h] at tnew;cases tnew
  ·rw [q0u.mp hx,D1new] at h;cases h
 obtain ⟨x1,L1,eL1,ex1,nx1⟩:=Rh5.get h1;have lx1:x1.length=n:=by rw [nx1.length,rM _ (q0v eL1)]
 have SX0:SX X H5 H5:=SX.start λx hx=>by
  rw [hX] at hx;rcases z0d.mp hx with rfl | hx
  ·exact ⟨_,et5⟩
  ·rw [q0u.mp hx];exact ⟨_,ex1⟩
 have tD1:D1 ≠ t:=λz=>by
  obtain ⟨_,_,_,e,_⟩:=Rhd.get h1;rw [z,ft] at e;cases e
 have thd:hd ≠ t:=d5 ehd ft;refine f9 (λσ H6 => ∃ l,σ=[some (.ref u),some (.ref a),some (.ref hd),some (.ref t),some (.ref pt),some (.ref l)]/\c5 H5 H6/\H5 l=none/\H6 l=some (.lst xs)) (λN hN=>?_) ?_
 ·subst_eqs
  exact ⟨xs,.inl (SqL.of et5),λl fl=>hN _ _ ⟨l,rfl,c5.new fl _,fl,b8⟩⟩
 rintro σ H6 ⟨l,rfl,s6,fl,el⟩
 have lX:l ∉ X:=λhx=>by
  rw [hX] at hx;rcases z0d.mp hx with rfl | hx
  ·rw [et5] at fl;cases fl
  ·rw [q0u.mp hx,ex1] at fl;cases fl
 have hdX:hd ∉ X:=λhx=>by
  rw [hX] at hx;rcases z0d.mp hx with h | hx
  ·exact thd h
  ·have:=q0u.mp hx
   exact (fus D1 m1).2 this.symm
 refine f9 (λσ H7=>σ=[some (.ref u),some (.ref a),some (.ref hd),some (.ref t),some (.ref pt),some (.ref l)]/\SX X H6 H7/\H7 D1=some (.lst x1)/\∃ zs,H7 t=some (.lst zs)/\zs.length=n+1) (λN hN=>?_) ?_
 ·subst_eqs
  refine ⟨by decide,λp1 f1=>?_⟩
  have Sp:=c5.new f1 (.tup [.int 77,.int 1]);refine ⟨_,Sp _ _ (s6 _ _ et5),0,by exact V4 (k:=0) ⋯,hN _ _ ⟨rfl,((SX.start λx hx=>?_).same Sp).upd tX _,by rw [d4 tD1];exact Sp _ _ (s6 _ _ ex1),_,b8,by rw [y0f,lxs]⟩⟩
  obtain ⟨ys',e⟩:=SX0.l x hx;exact ⟨ys',s6 _ _ e⟩
 rintro σ H7 ⟨rfl,SX7,ed7,zs,et7,lzs⟩;refine f9 (λσ H8=>σ=[some (.ref u),some (.ref a),some (.ref hd),some (.ref t),some (.ref pt),some (.ref l)]/\SX X H6 H8/\H8 D1=some (.lst x1)) (λN hN=>?_) ?_
 ·subst_eqs
  refine ⟨.inl ⟨_,SqL.of et7⟩,by decide,λp1 f1=>?_⟩
  have Sp:=c5.new f1 (.tup [.int 1,.int 1]);exact ⟨_,Sp _ _ et7,p9 ⋯,hN _ _ ⟨rfl,(SX7.same Sp).upd tX _,by rw [d4 tD1];exact Sp _ _ ed7⟩⟩
 rintro σ H8 ⟨rfl,SX8,ed8⟩;refine f9 (λσ H9=>σ=[some (.ref u),some (.ref a),some (.ref hd),some (.ref t),some (.ref pt),some (.ref l)]/\SX X H6 H9) (λN hN=>?_) ?_
 ·subst_eqs
  refine ⟨by decide,λp1 f1=>?_⟩
  have Sp:=c5.new f1 (.tup [.int 55,.int 1]);have eh8:=SX8.s _ _ (s6 _ _ eh5) hdX;exact ⟨_,SqL.of (Sp _ _ eh8),.ref D1,by exact p7 (j:=0) (by rw [z0c,h1];rfl),D1,rfl,x1,Sp _ _ ed8,0,by exact V4 (k:=0) ⋯,hN _ _ ⟨rfl,(SX8.same Sp).upd D1X _⟩⟩
 rintro σ H9 ⟨rfl,SX9⟩;have a9:=SX9.s _ _ (s6 _ _ T5.at') (old a ⟨_,T0.at'⟩)
 have R9:=Rws.sx SX9 (λx hx=>by
  obtain ⟨i,hi⟩:=y0c.mp hx;obtain ⟨_,_,_,e,_⟩:=T0.rws.get hi;exact old x ⟨_,e⟩) (T5.rws.same s6)
 subst_eqs
 refine ⟨a,ts,M,rfl,a9,R9,⋯,λc us2 Hb sb frb ftb ndb eb Rb=>?_⟩;refine ⟨c,us2,M,n,W,rfl,eb,Rb,hn,rM,n1,n4,cM,⋯,λr xs2 Hc sc frc ec nc=>?_⟩;have sbc:=sb.trans sc;refine ⟨A9 _,A9 _,rfl,X8 (SqL.of ec) nc,X8 (SqL.of (sbc _ _ (SX9.s _ _ el lX))) (((nt5.mono s6.tups).mono SX9.tups).mono sbc.tups),O7 _ _,q0q (U7 _) (by decide),?_⟩
 rw [L9,decide_eq_true rfl];refine k _ (λx o h xu=>sbc _ _ (SX9.s _ _ (s6 _ _ (s5 _ _ (s4 _ _ (sH _ _ h) xu))) (old x ⟨o,h⟩))) ?_;obtain ⟨g,m,p,e,r'⟩:=hU4;obtain ⟨_,_,_,e0,_⟩:=hU;exact ⟨g,m,p,sbc _ _ (SX9.s _ _ (s6 _ _ (s5 _ _ e)) (old u ⟨_,e0⟩)),r'⟩
def ai0 (j i:Nat):List V:=[V.bl (decide (j=i)),V.bl (decide (j=i+1)),V.bl (decide (j=i+2)),V.bl (decide (j=i+3))]
abbrev W8:Stmt:=top 67
theorem K0:i9 ["_law_e","_law_told","_law_names"] ["_law_e"] (c6 W8):=by and_intros
theorem ax0 {a:CAd} {f:Addr} (d:Df K mg "_law_which" W8 ["_law_e"] f) (X:XTx K mg a) (n_isinstance:mg "isinstance" = none) (n_ValueError:mg "ValueError" = none):bh1 P w K mg base 1 "_law_which" f ["_law_e"] (aC0 K a):=by
  obtain ⟨x_NoFraction,x_NoPolynomial,x_NoStretch,x_NoRow,x_NoPair,x_NoBack,x_NoForm,x_NoParts,x_NoDegree,x_NoSteps,x_NoBox,x_NoGain,x_NoText,x_NoLine,x_NoName,x_NoDeed⟩:=X;refine d.okX (N:=["_law_e","_law_told","_law_names"]) K0 (λvs H Q E ⟨u,q,j,h,_⟩=>by rw [h];rfl) (λcdv A outer s H vs Q E hr h=>?_)
  obtain ⟨e,C,j,rfl,kt,hj,he,k⟩:=h
  refine ⟨_, (b9 (h9 (i := 1) K0.nd rfl (Or.inl rfl) (w9 (a8 (g8 j6 rfl n_isinstance (by decide +kernel) (a8 (pv 0) (a8 (A0 (v := .ref _) rfl x_NoFraction.m rfl) b6))) (a8 (g8 j6 rfl n_isinstance (by decide +kernel) (a8 (pv 0) (a8 (A0 (v := .ref _) rfl x_NoPolynomial.m rfl) b6))) (a8 (g8 j6 rfl n_isinstance (by decide +kernel) (a8 (pv 0) (a8 (A0 (v := .ref _) rfl x_NoStretch.m rfl) b6))) (a8 (g8 j6 rfl n_isinstance (by decide +kernel) (a8 (pv 0) (a8 (A0 (v := .ref _) rfl x_NoRow.m rfl) b6))) b6))))))
      (b9 (h9 (i:=1) K0.nd rfl (Or.inl rfl) (d2 aa7 (pv 1) (w9 (a8 (g8 j6 rfl n_isinstance (by decide +kernel) (a8 (pv 0) (a8 (A0 (v:=.ref _) rfl x_NoPair.m rfl) b6))) (a8 (g8 j6 rfl n_isinstance (by decide +kernel) (a8 (pv 0) (a8 (A0 (v:=.ref _) rfl x_NoBack.m rfl) b6))) (a8 (g8 j6 rfl n_isinstance (by decide +kernel) (a8 (pv 0) (a8 (A0 (v:=.ref _) rfl x_NoForm.m rfl) b6))) (a8 (g8 j6 rfl n_isinstance (by decide +kernel) (a8 (pv 0) (a8 (A0 (v:=.ref _) rfl x_NoParts.m rfl) b6))) b6)))))))
      (b9 (h9 (i:=1) K0.nd rfl (Or.inl rfl) (d2 aa7 (pv 1) (w9 (a8 (g8 j6 rfl n_isinstance (by decide +kernel) (a8 (pv 0) (a8 (A0 (v:=.ref _) rfl x_NoDegree.m rfl) b6))) (a8 (g8 j6 rfl n_isinstance (by decide +kernel) (a8 (pv 0) (a8 (A0 (v:=.ref _) rfl x_NoSteps.m rfl) b6))) (a8 (g8 j6 rfl n_isinstance (by decide +kernel) (a8 (pv 0) (a8 (A0 (v:=.ref _) rfl x_NoBox.m rfl) b6))) (a8 (g8 j6 rfl n_isinstance (by decide +kernel) (a8 (pv 0) (a8 (A0 (v:=.ref _) rfl x_NoGain.m rfl) b6))) b6)))))))
      (b9 (h9 (i:=1) K0.nd rfl (Or.inl rfl) (d2 aa7 (pv 1) (w9 (a8 (g8 j6 rfl n_isinstance (by decide +kernel) (a8 (pv 0) (a8 (A0 (v:=.ref _) rfl x_NoText.m rfl) b6))) (a8 (g8 j6 rfl n_isinstance (by decide +kernel) (a8 (pv 0) (a8 (A0 (v:=.ref _) rfl x_NoLine.m rfl) b6))) (a8 (g8 j6 rfl n_isinstance (by decide +kernel) (a8 (pv 0) (a8 (A0 (v:=.ref _) rfl x_NoName.m rfl) b6))) (a8 (g8 j6 rfl n_isinstance (by decide +kernel) (a8 (pv 0) (a8 (A0 (v:=.ref _) rfl x_NoDeed.m rfl) b6))) b6)))))))
      (b9 (h9 (i:=2) K0.nd rfl (Or.inl rfl) aj0)
      (b9 (A4 (PW.pt (Z7 (j1 al3 (az2 PySem.F.plainAttrs_list PySem.F.slot_list_count PySem.F.type_list_count aZ0 (pv 1) (a8 Z8 b6)) b7 (i5 _)) (ad1 (P9 (P8 (g8 j6 rfl n_isinstance (by decide +kernel) (a8 (pv 0) (a8 (ad5 (v:=.ty "ValueError") rfl n_ValueError (by decide +kernel) rfl) b6)))))))) (c7 (i7 aj0)) m6)
      (c7 (i7 (i6 j3 (az2 PySem.F.plainAttrs_str PySem.F.slot_str_split PySem.F.type_str_split aY7 (pv 2) (a8 aj0 b6)) (az2 PySem.F.plainAttrs_list PySem.F.slot_list_index PySem.F.type_list_index aY9 (pv 1) (a8 Z8 b6)) (λ_ _=>rfl)))))))))),?_⟩
  rw [show start ["_law_e","_law_told","_law_names"] [.ref e]=[some (.ref e),none,none] from rfl]
  have ty:∀ {H':Hp},c5 H H'->TyX K H' (.ref e) (.ref C):=λsm=>.exc (sm _ _ he) kt.ec;refine f9 (λσ H1 => ∃ l,σ=[some (.ref e),some (.ref l),none]/\c5 H H1/\H1 l=some (.lst (ai0 j 0))) (λN hN=>?_) ?_
  · subst_eqs
    exact ⟨trivial,_,ty (c5.refl _),_,kt.k_NoFraction,trivial,_,ty (c5.refl _),_,kt.k_NoPolynomial,trivial,_,ty (c5.refl _),_,kt.k_NoStretch,trivial,_,ty (c5.refl _),_,kt.k_NoRow,by decide,λl h=>hN _ _ ⟨l,rfl,c5.new h _,b8⟩⟩
  rintro σ H1 ⟨l1,rfl,sA1,eA1⟩;refine f9 (λσ H2 => ∃ l,σ=[some (.ref e),some (.ref l),none]/\c5 H H2/\H2 l=some (.lst (ai0 j 0 ++ ai0 j 4))) (λN hN=>?_) ?_
  · subst_eqs
    exact ⟨trivial,_,ty sA1,_,kt.k_NoPair,trivial,_,ty sA1,_,kt.k_NoBack,trivial,_,ty sA1,_,kt.k_NoForm,trivial,_,ty sA1,_,kt.k_NoParts,by decide,λp hp=>⟨_,(d4 (d5 eA1 hp)).trans eA1,_,b8,(show (8:Nat)<=sizeLine from by decide),λl h=>hN _ _ ⟨l,rfl,(sA1.trans (c5.new hp _)).trans (c5.new h _),b8⟩⟩⟩
  rintro σ H2 ⟨l2,rfl,sA2,eA2⟩;refine f9 (λσ H2 => ∃ l,σ=[some (.ref e),some (.ref l),none]/\c5 H H2/\H2 l=some (.lst (ai0 j 0 ++ ai0 j 4 ++ ai0 j 8))) (λN hN=>?_) ?_
  · subst_eqs
    exact ⟨trivial,_,ty sA2,_,kt.k_NoDegree,trivial,_,ty sA2,_,kt.k_NoSteps,trivial,_,ty sA2,_,kt.k_NoBox,trivial,_,ty sA2,_,kt.k_NoGain,by decide,λp hp=>⟨_,(d4 (d5 eA2 hp)).trans eA2,_,b8,(show (12:Nat)<=sizeLine from by decide),λl h=>hN _ _ ⟨l,rfl,(sA2.trans (c5.new hp _)).trans (c5.new h _),b8⟩⟩⟩
  rintro σ H3 ⟨l3,rfl,sA3,eA3⟩;refine f9 (λσ H2 => ∃ l,σ=[some (.ref e),some (.ref l),none]/\c5 H H2/\H2 l=some (.lst (ai0 j 0 ++ ai0 j 4 ++ ai0 j 8 ++ ai0 j 12))) (λN hN=>?_) ?_
  · subst_eqs
    exact ⟨trivial,_,ty sA3,_,kt.k_NoText,trivial,_,ty sA3,_,kt.k_NoLine,trivial,_,ty sA3,_,kt.k_NoName,trivial,_,ty sA3,_,kt.k_NoDeed,by decide,λp hp=>⟨_,(d4 (d5 eA3 hp)).trans eA3,_,b8,(show (16:Nat)<=sizeLine from by decide),λl h=>hN _ _ ⟨l,rfl,(sA3.trans (c5.new hp _)).trans (c5.new h _),b8⟩⟩⟩
  rintro σ H4 ⟨l4,rfl,sA4,eA4⟩;have eT:H4 l4=some (.lst (aG6 j)):=eA4;clear eA4
  subst_eqs
  refine ⟨.inl ⟨_,SqL.of eT⟩,_,eT,rfl,ax9 j hj,rfl,?_⟩;rw [aK8 j hj];refine B3 (λhh=>absurd rfl hh) (λ_=>?_);refine ⟨trivial,_,ty sA4,_,kt.kV,?_⟩;refine B3 (λhh=>absurd hh (by decide)) (λ_=>?_)
  refine ⟨by decide +kernel,by decide +kernel,by decide +kernel,by decide +kernel,by rw [ap3];decide,λl hl=>?_⟩
  have eT':(upd H4 l (.lst ((ag6 "fraction polynomial stretch row pair back form parts degree steps box gain text line name deed" " ").map V.str))) l4=some (.lst (aG6 j)):=(d4 (d5 eT hl)).trans eT
  refine ⟨.inl ⟨_,SqL.of eT'⟩,_,eT',rfl,ax9 j hj,_,aV1 j hj,_,SqL.of b8,_,be7 hj,?_⟩;exact k _ (sA4.trans (c5.new hl _))
def ay4 (K:q0a):Sp:=λvs H Q _ => ∃ (x:V) (c:Rat) (a:Addr) (xs:List V) (ps:List Rat) (m1 m2:Nat),vs=[x,.ref a]/\Num K H x c/\SqL K H a xs/\v9 H xs ps/\BtN m1 c/\(∀ q ∈ ps,BtN m2 q)/\m1+m2<=6000/\ps.length<=20 /\
 ∀ m r zs H',P3 (ps.map (c * ·)) m->c5 H H'->H r=none->H' r=some (.lst zs)->v9 H' zs ((ps.map (c * ·)).take m)->Q (.ref r) H'
abbrev E9:Stmt:=top 56
theorem ai8:i9 ["_law_number_here","_law_p"] ["_law_number_here","_law_p"] (c6 E9):=by and_intros
theorem ah6 {f fp f1:Addr} (d:Df K mg "_law_poly_often" E9 ["_law_number_here","_law_p"] f) (G__law_times:Def P w K mg base CX0 2 "_law_times" fp ["_law_one","_law_other_here"] (B8 K (· * ·))) (G__law_trim:Def P w K mg base CX0 1 "_law_trim" f1 ["_law_numbers"] (aL4 K)):Def P w K mg base CX0 3 "_law_poly_often" f ["_law_number_here","_law_p"] (ay4 K):=by
 refine d.ok (N:=["_law_number_here","_law_p"]) ai8 (λvs H Q E ⟨_,_,_,_,_,_,_,h,_⟩=>by rw [h];rfl) (λcdv A outer s H vs Q E hr h=>?_)
 obtain ⟨x,c,a,xs,ps,m1,m2,rfl,hx,hS,hN,bc,hs,hm,hl,k⟩:=h;refine ⟨_,(c7 (i7 (c8 G__law_trim hr (a8 (t5 (Nc:=["_law_number_here","_law_one"]) (caps:=[some 0,none]) rfl (G3.of (osc:=c6 E9) (N:=["_law_number_here","_law_p"]) (ks:=["_law_number_here"]) rfl rfl rfl rfl (i8 rfl j8) (by decide +kernel)) (z9 (pv 1)) (λC s₂ H₂ fp pins=>(c9 (i:=1) (show z0q (["_law_number_here","_law_one"]:List Str) by decide +kernel) rfl (q0z rfl) (j0b rfl))) (λC s₂ H₂ fp pins=>(c8 G__law_times hr (a8 (pv 0) (a8 (pv 1) b6)) g9))) b6) g9))),?_⟩
 rw [show start ["_law_number_here","_law_p"] [x,.ref a]=[some (x),some (.ref a)] from rfl]
 subst_eqs
 have lx:=hN.length;refine ⟨⟨_,hS⟩,λD hD=>?_⟩;refine C4 xs (λi σ H2 => ∃ o,σ=[some x,o]/\c5 H H2/\∃ zs,H2 D=some (.lst zs)/\v9 H2 zs ((ps.map (c * ·)).take i)) ⟨_,rfl,c5.new hD _,[],b8,.nil⟩ (λi σ H2 _ ⟨_,_,s2,_⟩=>s2.seq hS) ?_ ?_
 ·rintro i y σ H2 hy ⟨o,rfl,s2,zs,e2,n2⟩
  have hi:=(q0f.mp hy).1;obtain ⟨py,q,rfl,hq,hpy⟩:=hN.getV hy
  subst_eqs
  refine ⟨_,_,c,q,m1,m2,rfl,hx.same s2,⟨py,rfl,SqT.of (s2 _ _ hpy)⟩,bc,hs q (q0v hq),hm,λr H4 s4 e4=>?_⟩;refine m8.mk hi (s4 _ _ e2) ?_ ⟨_,rfl,(s2.trans s4).over hD _,_,b8,?_⟩
  ·rw [n2.length,z0f,q0g]
   exact q0s (show _<=20 by omega) (by decide)
  ·rw [d6 (show (ps.map (c * ·))[i]? = some (c*q) by rw [z0c,hq];rfl)]
   exact ((n2.mono s4.tups).append (.cons e4 .nil)).mono (V5.lst (s4 _ _ e2))
 ·rintro σ H2 ⟨o,rfl,s2,zs,e2,n2⟩
  have e7:(ps.map (c * ·)).take xs.length=ps.map (c * ·):=by
   rw [u0e (by rw [q0g];omega)]
  rw [e7] at n2;refine ⟨D,zs,_,rfl,SqL.of e2,n2,λm r H3 tl s3 hr e3=>?_⟩;exact k m r _ _ tl (s2.trans s3) (s2.free hr) e3 ((n2.take m).mono s3.tups)
def aP2 (K:q0a):Sp:=λvs H Q _ => ∃ (a:Addr) (ts:List Addr) (M:List (List Rat)),vs=[.ref a,.int M.length]/\H a=some (.lst (ts.map V.ref))/\K4 K H ts M/\M.length<=7/\(∀ L ∈ M,L.length=M.length/\∀ q ∈ L,BdN 6000 q)/\∀ H',c5 H H'->Q (.bl true) H'
abbrev J4:Stmt:=top 66
theorem ab4:i9 ["_law_thing","_law_n","_law_row"] ["_law_thing","_law_n"] (c6 J4):=by and_intros
theorem an5 {f fd:Addr} (d:Df K mg "_law_is_table" J4 ["_law_thing","_law_n"] f) (G__law_is_number:Def P w K mg base CX0 2 "_law_is_number" fd ["_law_thing"] (aC2 K)) (n_isinstance:mg "isinstance" = none) (n_list:mg "list" = none) (n_len:mg "len" = none) (n_all:mg "all" = none):Def P w K mg base CX0 3 "_law_is_table" f ["_law_thing","_law_n"] (aP2 K):=by
  refine d.ok (N:=["_law_thing","_law_n","_law_row"]) ab4 (by rintro vs H Q E ⟨_,_,_,h,_⟩;rw [h];rfl) (λcdv A outer s H vs Q E hr h=>?_)
  obtain ⟨a,ts,M,rfl,ha,hR,hM,hL,k⟩:=h;have hu:=hr.units
  refine ⟨_, (b9 (A4 (PW.pt (Z7 (P9 (P8 (g8 j6 rfl n_isinstance (by decide +kernel) (a8 (pv 0) (a8 (ad5 (v := .ty "list") rfl n_list (by decide +kernel) rfl) b6))))) (ad1 (j1 al3 (g8 j5 rfl n_len (by decide +kernel) (a8 (pv 0) b6)) (pv 1) (i5 _))))) (c7 (i7 Z8)) m6)
      (b9 (Y4 PassesOwn.never rfl (z9 (pv 0)) (c9 (i:=2) ab4.nd rfl (Or.inl rfl)) (c7 (A4 (PW.pt (Z7 (P9 (P8 (g8 j6 rfl n_isinstance (by decide +kernel) (a8 (pv 2) (a8 (ad5 (v:=.ty "list") rfl n_list (by decide +kernel) rfl) b6))))) (Z7 (j1 al3 (g8 j5 rfl n_len (by decide +kernel) (a8 (pv 2) b6)) (pv 1) (i5 _)) (ad1 (P9 (P8 (g8 (av6 rfl) rfl n_all (by decide +kernel) (a8 (t5 (Nc:=["_law_one"]) (caps:=[none]) rfl (G3.of (osc:=c6 J4) (N:=["_law_thing","_law_n","_law_row"]) (ks:=[]) rfl rfl rfl rfl j8 (by decide +kernel)) (z9 (pv 2)) (λC s₂ H₂ fp pins=>(c9 (i:=0) (show List.Nodup (["_law_one"]:List Str) by decide +kernel) rfl (Or.inl rfl) (Or.inr rfl))) (λC s₂ H₂ fp pins=>(c8 G__law_is_number hr (a8 (pv 0) b6) g9))) b6)))))))) (c7 (i7 Z8)) m6)))
      (c7 (i7 Z8)))),?_⟩
  rw [show start ["_law_thing","_law_n","_law_row"] [.ref a,.int M.length]=[some (.ref a),some (.int M.length),none] from rfl]
  subst_eqs
  have hRl:=hR.length;refine ⟨trivial,_,.of (.lst ha),_,aa8,B3 (λz=>by cases z) (λ_=>?_)⟩
  refine ⟨_,.inl (SqL.of ha),rfl,B3 (λz=>absurd (by rw [List.length_map,hRl]) z) (λ_=>?_)⟩
  refine ⟨_,rfl,a,rfl,⟨_,SqL.of ha⟩,aJ3 (xs:=ts.map V.ref) (λi σ H2 => ∃ o,σ=[some (.ref a),some (.int M.length),o]/\c5 H H2) ⟨_,rfl,c5.refl _⟩ (λi σ H2 _ ⟨_,_,s2⟩=>SqL.of (s2 _ _ ha)) ?_ ?_⟩
  · rintro i x σ H2 hx ⟨o,rfl,s2⟩
    obtain ⟨t,ht,rfl⟩:=F2 hx;obtain ⟨xs,L,hL',et,nt⟩:=hR.get ht;have hLm:=hL L (List.mem_of_getElem? hL');have lx:=nt.length;have l7:=hLm.1;have et2:=s2 _ _ et
    subst_eqs
    refine ⟨trivial,_,.of (.lst et2),_,aa8,B3 (λz=>by cases z) (λ_=>?_)⟩
    refine ⟨_,.inl (SqL.of et2),rfl,B3 (λz=>absurd (by rw [lx,l7]) z) (λ_=>?_)⟩
    refine ⟨⟨_,SqL.of et2⟩,λD hD=>?_⟩;refine C4 xs (λj σ H3 => ∃ o,σ=[o]/\c5 H2 H3/\H3 D=some (.lst ((List.replicate j true).map V.bl))) ⟨_,rfl,c5.new hD _,b8⟩ (λj σ H3 _ ⟨o,_,s3,_⟩=>SqL.of (s3 _ _ et2)) ?_ ?_
    · rintro j x σ H3 hx2 ⟨o,rfl,s3,e3⟩
      have hj:j<xs.length:=(List.getElem?_eq_some_iff.mp hx2).1;obtain ⟨p,q,rfl,hq,hp⟩:=nt.getV hx2
      subst_eqs
      have sq:=(hLm.2 q (List.mem_of_getElem? hq)).bd6 (by decide)
      refine ⟨_,q,rfl,⟨p,rfl,(hp.mono (s2.trans s3).tups).sqt⟩,?_,λH4 s4=>?_⟩
      · rw [Int.natAbs_natCast]
        exact sq.d
      · refine m8.mk hj (s4 _ _ e3) (by simp;exact Nat.lt_of_lt_of_le (show j<1000 by omega) (by decide)) ⟨_,rfl,(s3.trans s4).over hD _,?_⟩
        rw [b8,List.replicate_succ',List.map_append];rfl
    · rintro σ H3 ⟨o,rfl,s3,e3⟩
      refine ⟨D,rfl,_,SqL.of e3,B3 (λz=>by simp at z) (λ_=>s2.trans s3)⟩
  · rintro σ H2 ⟨o,rfl,s2⟩
    subst_eqs
    exact k H2 s2
def bt2 (H:Hp) (Q:VK) (x:Str):Prop:=∀ t H',c5 H H'->H t=none->H' t=some (.tup [.str "refused",.str x])->Q (.ref t) H'
def as0 (K:q0a):Sp:=λvs H Q _ => ∃ (a:Addr) (xs:List V) (qs:List Rat),vs=[.ref a]/\SqL K H a xs/\v9 H xs qs/\(∀ q ∈ qs,BdN 40 q)/\qs.length<=20/\P3 qs qs.length/\((qs.length<2 \/ 5<qs.length)->bt2 H Q "polynomial")/\(∀ n,qs.length=n+1->1<=n->n<=4->aQ9 K H Q (F6 qs n))
abbrev G7:Stmt:=top 74
theorem F9:i9 ["_law_p","_law_e","_law_found"] ["_law_p"] (c6 G7):=by and_intros
theorem ah5 {a : CAd} {f fw f1 : Addr} (d : Df K mg "_law_table_asked" G7 ["_law_p"] f) (G_poly_table : Def P w K mg base (CXR P w) 4 "poly_table" f1 ["p"] (aV9 K a.c_NoPolynomial)) (G__law_which : bh1 P w K mg base 1 "_law_which" fw ["_law_e"] (aC0 K a)) (x_RestError : ExT K mg "RestError" a.c_RestError) (kt : bn9 K a a.c_NoPolynomial 1) :
    Def P w K mg base CX0 5 "_law_table_asked" f ["_law_p"] (as0 K):=by
  refine d.ok (N:=["_law_p","_law_e","_law_found"]) F9 (by rintro vs H Q E ⟨_,_,_,h,_⟩;rw [h];rfl) (λcdv A outer s H vs Q E hr h=>?_)
  obtain ⟨al,xs,qs,rfl,hS,hN,bq,l20,tl,k0,k1⟩:=h
  refine ⟨_, (b9 (bd4 (i := 1) (C := a.c_RestError) rfl rfl rfl F9.nd rfl rfl rfl x_RestError.m (fun E xe pn hx => (c7 (h9 (i := 2) F9.nd rfl (Or.inl rfl) (c8 G_poly_table hr (a8 (pv 0) b6) hx)))) (fun b => (c7 (h9 (i := 2) F9.nd rfl (Or.inl rfl) (j2 (a8 aj0 (a8 (bd9 G__law_which (hr.toX.mark _) (a8 (pv 1) b6)) b6)))))))
      (c7 (i7 (pv 2)))),?_⟩
  rw [show start ["_law_p","_law_e","_law_found"] [.ref al]=[some (.ref al),none,none] from rfl]
  simp! [aC0]
  exact ⟨al,xs,qs,rfl,hS,hN,bq,l20,tl,λh0=>⟨kt.ex,λe he=>⟨_,rfl,e,rfl,_,1,kt,by decide,b8,λH2 s2=>⟨t9,λp hp=>⟨_,rfl,k0 h0 p _ ((c5.new he _).trans (s2.trans (c5.new hp _))) (((c5.new he _).trans s2).free hp) b8⟩⟩⟩⟩,k1⟩
def aG9 (K:q0a):Sp:=λvs H Q _ => ∃ (p:Addr) (xs:List V) (qs:List Rat),vs=[.ref p]/\H p=some (.lst xs)/\v9 H xs qs/\(∀ q ∈ qs,BdN 40 q)/\qs.length<=8/\P3 qs qs.length/\∀ H',c5 H H'->Q (.bl true) H'
abbrev G6:Stmt:=top 75
theorem B9:i9 ["_law_p","_law_handed","_law_told","_law_n","_law_due"] ["_law_p"] (c6 G6):=by and_intros
theorem ah4 {f f1 f2 f3 f4 f5 f6:Addr} (d:Df K mg "_law_table_right" G6 ["_law_p"] f) (G__law_table_asked:Def P w K mg base CX0 5 "_law_table_asked" f1 ["_law_p"] (as0 K)) (G__law_companion:Def P w K mg base CX0 3 "_law_companion" f2 ["_law_p"] (aC3 K)) (G__law_is_table:Def P w K mg base CX0 3 "_law_is_table" f3 ["_law_thing","_law_n"] (aP2 K)) (G_table_poly:Def P w K mg base CX0 4 "table_poly" f4 ["table"] (aC1 K)) (GD__law_poly_often:Def P w K mg base CX0 3 "_law_poly_often" f5 ["_law_number_here","_law_p"] (ay4 K)) (G__law_over:Def P w K mg base CX0 2 "_law_over" f6 ["_law_one","_law_other_here"] (Y8 K)) (n_len:mg "len" = none) (n_list:mg "list" = none):Def P w K mg base CX0 6 "_law_table_right" f ["_law_p"] (aG9 K):=by
  refine d.ok (N:=["_law_p","_law_handed","_law_told","_law_n","_law_due"]) B9 (by rintro vs H Q E ⟨_,_,_,h,_⟩;rw [h];rfl) (λcdv A outer s H vs Q E hr h=>?_)
  obtain ⟨p,xs,qs,rfl,hp,hN,bq,l8,tl,k⟩:=h;have G__law_poly_often:=GD__law_poly_often;have hu:=hr.units;have lx:=hN.length
  refine ⟨_, (b9 (h9 (i := 1) B9.nd rfl (Or.inl rfl) (p5 C5 rfl n_list (by decide +kernel) (a8 (pv 0) b6)))
      (b9 (h9 (i:=2) B9.nd rfl (Or.inl rfl) (c8 G__law_table_asked hr (a8 (pv 1) b6) g9))
      (b9 (h9 (i:=3) B9.nd rfl (Or.inl rfl) (d2 G8 (g8 j5 rfl n_len (by decide +kernel) (a8 (pv 0) b6)) b7))
      (b9 (A4 (j1 (af1 hu) (pv 1) (pv 0) (i5 _)) (c7 (i7 Z8)) m6)
      (b9 (A4 (P9 (aW6 aX9 aX9 b7 (pv 3) b7)) (c7 (i7 (an2 (y4 (aa6 hu) (pv 2) (j2 (a8 aj0 (a8 aj0 b6))) (i5 _)) (as8 (y4 (aa6 hu) (c8 G__law_table_asked hr (a8 (p5 C5 rfl n_list (by decide +kernel) (a8 (pv 0) b6)) b6) g9) (pv 2) (i5 _)))))) m6)
      (b9 (h9 (i:=4) B9.nd rfl (Or.inl rfl) (c8 G__law_companion hr (a8 (pv 0) b6) g9))
      (b9 (A4 (PW.pt (Z7 (P9 (P8 (c8 G__law_is_table hr (a8 (pv 2) (a8 (pv 3) b6)) g9))) (ad1 (j1 (af1 hu) (pv 2) (pv 4) (i5 _))))) (c7 (i7 Z8)) m6)
      (b9 (E5 (j2 (a8 b7 (a8 b7 b6))) (P2 (i6 j3 (pv 2) (d2 G8 (pv 3) b7) (λ_ _=>rfl)) b7 E1))
      (b9 (A4 (j1 (af1 hu) (Q3 W3 (pv 2) U5 (Q0 (d2 G8 (pv 3) b7))) (Q3 W3 (pv 4) U5 (Q0 (d2 G8 (pv 3) b7))) (i5 _)) (c7 (i7 Z8)) m6)
      (b9 (al1 (az2 PySem.F.plainAttrs_list PySem.F.slot_list_append PySem.F.type_list_append N4 (pv 2) (a8 (w9 b6) b6)))
      (b9 (E5 (j2 (a8 b7 (a8 b7 b6))) (P2 (pv 1) b7 E1))
      (b9 (A4 (j1 (af1 hu) (c8 G__law_table_asked hr (a8 (p5 C5 rfl n_list (by decide +kernel) (a8 (pv 0) b6)) b6) g9) (pv 4) (i5 _)) (c7 (i7 Z8)) m6)
      (c7 (i7 (y4 (aa6 hu) (c8 G_table_poly hr (a8 (pv 4) b6) g9) (c8 G__law_poly_often hr (a8 (c8 G__law_over hr (a8 (j2 (a8 b7 (a8 b7 b6))) (a8 (i6 j3 (pv 0) (pv 3) (λ_ _=>rfl)) b6)) g9) (a8 (pv 0) b6)) g9) (i5 _)))))))))))))))),?_⟩
  rw [show start ["_law_p","_law_handed","_law_told","_law_n","_law_due"] [.ref p]=[some (.ref p),none,none,none,none] from rfl]
  refine f9 (λσ H1 => ∃ l,σ=[some (.ref p),some (.ref l),none,none,none]/\c5 H H1/\H l=none/\H1 l=some (.lst xs)) (λN hN'=>?_) ?_
  · subst_eqs
    exact ⟨xs,.inl (SqL.of hp),λl fl=>hN' _ _ ⟨l,rfl,c5.new fl _,fl,b8⟩⟩
  rintro σ H1 ⟨l,rfl,s1,fl,el⟩;have hN1:=hN.mono s1.tups;have eqP:∀ {G:Hp},c5 H1 G->G l=some (.lst xs)->IsD K G (.ref l) (A9 qs)/\IsD K G (.ref p) (A9 qs):=fun {G} s e=>⟨K8 (SqL.of e) (hN1.mono s.tups),K8 (SqL.of (s _ _ (s1 _ _ hp))) (hN1.mono s.tups)⟩
  by_cases bad:qs.length<2 \/ 5<qs.length
  · refine f9 (λσ H2 => ∃ t,σ=[some (.ref p),some (.ref l),some (.ref t),none,none]/\c5 H1 H2/\H2 t=some (.tup [.str "refused",.str "polynomial"])) (λN hN'=>?_) ?_
    · subst_eqs
      exact ⟨l,xs,qs,rfl,SqL.of el,hN1,bq,⋯,tl,λ_ t H2 s2 ft et=>hN' _ _ ⟨t,rfl,s2,et⟩,λn hn h1 h4=>absurd bad ⋯⟩
    rintro σ H2 ⟨t,rfl,s2,et⟩;refine f9 (λσ H3=>H3=H2/\σ=[some (.ref p),some (.ref l),some (.ref t),some (.int ((xs.length:Int)-1)),none]) (λN hN'=>?_) ?_
    · subst_eqs
      exact ⟨xs,.inl (SqL.of (s2 _ _ (s1 _ _ hp))),hN' _ _ ⟨rfl,rfl⟩⟩
    rintro σ H3 ⟨rfl,rfl⟩;refine f9 (λσ H4=>H4=H3/\σ=[some (.ref p),some (.ref l),some (.ref t),some (.int ((xs.length:Int)-1)),none]) (λN hN'=>?_) ?_
    · subst_eqs
      obtain ⟨i1,i2⟩:=eqP s2 (s2 _ _ el);refine ⟨_,_,rfl,i1,i2,O7 _ _,Nat.le_trans (U7 _) (by decide),_,rfl,?_⟩
      rw [L9,decide_eq_true rfl,if_neg (by decide)]
      exact hN' _ _ ⟨rfl,rfl⟩
    rintro σ H4 ⟨rfl,rfl⟩;refine f9 (λ_ _=>False) (λN hN'=>?_) (λ_ _ h=>h.elim)
    subst_eqs
    have S2:=s1.trans s2
    have fin:0+1+1<=sizeLine/\∀ p_1:Addr,H4 p_1=none->bd2 K (V.ref t) (V.ref p_1) (upd H4 p_1 (HO.tup [V.str "refused",V.str "polynomial"])) λx H1 => ∃ c,x=V.bl c/\if c=true then ∃ x,(SqL K H1 p x \/ SqT K H1 p x)/\∀ l:Addr,H1 l=none->as0 K [V.ref l] (upd H1 l (HO.lst x)) (λx H1=>bd2 K x (V.ref t) H1 Q) E0 else Q (V.bl false) H1:=by
      refine ⟨by decide,λp1 f1=>?_⟩
      have Sp:=c5.new f1 (.tup [.str "refused",.str "polynomial"])
      refine ⟨ac0 "refused" "polynomial",ac0 "refused" "polynomial",rfl,am0 (SqT.of (Sp _ _ et)),am0 (SqT.of b8),aI3 _ _ _ _,aQ2 _ _,_,rfl,?_⟩
      rw [aJ9,if_pos rfl];refine ⟨xs,.inl (SqL.of ((S2.trans Sp) _ _ hp)),λc fc=>?_⟩;have Sc:=c5.new fc (.lst xs);refine ⟨c,xs,qs,rfl,SqL.of b8,hN.mono ((S2.trans Sp).trans Sc).tups,bq,⋯,tl,λ_ t2 H6 s6 ft2 et2=>?_,λn hn h1 h4=>absurd bad ⋯⟩;refine ⟨ac0 "refused" "polynomial",ac0 "refused" "polynomial",rfl,am0 (SqT.of et2),am0 (SqT.of (s6 _ _ (Sc _ _ (Sp _ _ et)))),aI3 _ _ _ _,aQ2 _ _,?_⟩
      rw [aJ9];exact k _ (((S2.trans Sp).trans Sc).trans s6)
    refine B3 (λh1=>B3 (λh2=>fin) (λh2=>absurd bad ⋯)) (λh1=>fin)
  obtain ⟨n,hn⟩:∃ n,qs.length=n+1:=⟨qs.length-1,⋯⟩;have n1:1<=n:=⋯;have n4:n<=4:=⋯;have bl:40*qs.length<=320:=⋯;have cq:ClN 321 qs:=ac2 (af6 qs) (Nat.lt_of_lt_of_le (ar7 qs bq) (d7 ⋯)) λq hq=>(aG0 qs bq q hq).mono ⋯;have lC:(F6 qs n).length=n:=am5 qs n;refine f9 (λσ H2 => ∃ t us,σ=[some (.ref p),some (.ref l),some (.ref t),none,none]/\c5 H1 H2/\H1 t=none/\(∀ x ∈ us,H1 x=none/\x ≠ t)/\us.Nodup/\H2 t=some (.lst (us.map V.ref))/\K4 K H2 us (F6 qs n)) (λN hN'=>?_) ?_
  · subst_eqs
    refine ⟨l,xs,qs,rfl,SqL.of el,hN1,bq,⋯,tl,λh=>absurd h bad,λm hm h1 h4=>?_⟩;obtain rfl:m=n:=⋯;exact λt us H2 s2 ft fus nd et rt=>hN' _ _ ⟨t,us,rfl,s2,ft,fus,nd,et,rt⟩
  rintro σ H2 ⟨t,us,rfl,s2,ft,fus,ndu,et,Rt⟩;have S2:=s1.trans s2;refine f9 (λσ H3=>H3=H2/\σ=[some (.ref p),some (.ref l),some (.ref t),some (.int (n:Int)),none]) (λN hN'=>?_) ?_
  · subst_eqs
    exact ⟨xs,.inl (SqL.of (S2 _ _ hp)),hN' _ _ ⟨rfl,by rw [show ((xs.length:Int)-1)=(n:Int) by omega]⟩⟩
  rintro σ H3 ⟨rfl,rfl⟩;refine f9 (λσ H4=>H4=H3/\σ=[some (.ref p),some (.ref l),some (.ref t),some (.int (n:Int)),none]) (λN hN'=>?_) ?_
  · subst_eqs
    obtain ⟨i1,i2⟩:=eqP s2 (s2 _ _ el);refine ⟨_,_,rfl,i1,i2,O7 _ _,Nat.le_trans (U7 _) (by decide),_,rfl,?_⟩
    rw [L9,decide_eq_true rfl,if_neg (by decide)]
    exact hN' _ _ ⟨rfl,rfl⟩
  rintro σ H4 ⟨rfl,rfl⟩;refine f9 (λσ H5=>H5=H4/\σ=[some (.ref p),some (.ref l),some (.ref t),some (.int (n:Int)),none]) (λN hN'=>?_) ?_
  · subst_eqs
    refine B3 (λ_=>B3 (λz=>absurd ⋯ z) (λ_=>hN' _ _ ⟨rfl,rfl⟩)) (λz=>absurd ⋯ z)
  rintro σ H5 ⟨rfl,rfl⟩;refine f9 (λσ H6 => ∃ B d ds,M4 B 321 (F6 qs n)/\σ=[some (.ref p),some (.ref l),some (.ref t),some (.int (n:Int)),some (.ref d)]/\c5 H5 H6/\H5 d=none/\(∀ x ∈ ds,H5 x=none/\x ≠ d)/\H6 d=some (.lst (ds.map V.ref))/\Rws H6 ds (F6 qs n)) (λN hN'=>?_) ?_
  · subst_eqs
    exact ⟨p,xs,qs,n,321,rfl,SqL.of (S2 _ _ hp),hN.mono S2.tups,cq,by decide,tl,hn,n1,n4,λB oC d ds H6 s6 fd fds nd ed Rd=>hN' _ _ ⟨B,d,ds,oC,rfl,s6,fd,fds,ed,Rd⟩⟩
  rintro σ H6 ⟨B,d,ds,oC,rfl,s6,fd,fds,ed,Rd⟩;have S6:=S2.trans s6;have et6:=s6 _ _ et;have Rt6:=Rt.same s6;refine f9 (λσ H7=>σ=[some (.ref p),some (.ref l),some (.ref t),some (.int (n:Int)),some (.ref d)]/\c5 H6 H7) (λN hN'=>?_) ?_
  · subst_eqs
    refine ⟨t,us,F6 qs n,by rw [lC],et6,Rt6,⋯,λL hL=>?_,λH7 s7=>⟨true,rfl,B3 (λz=>by cases z) λ_=>?_⟩⟩
    · have:=oC.bd L hL
      exact ⟨this.1,λq hq=>(this.2 q hq).mono ⋯⟩
    refine ⟨N7 _,N7 _,rfl,.lst (SqL.of (s7 _ _ et6)) (Rt6.same s7).isDs,.lst (SqL.of (s7 _ _ ed)) (Rd.same s7).isDs,ag8 _ _,am2 _,_,rfl,?_⟩;rw [ag9,decide_eq_true rfl,if_neg (by decide)]
    exact hN' _ _ ⟨rfl,s7⟩
  rintro σ H7 ⟨rfl,s7⟩;have et7:=s7 _ _ et6;have Rt7:=Rt6.same s7;have ed7:=s7 _ _ ed;have Rd7:=Rd.same s7;have S7:=S6.trans s7;have el7:=s7 _ _ (s6 _ _ (s2 _ _ el));have lus:us.length=n:=by rw [Rt.length,lC]
  have lds:ds.length=n:=by rw [Rd.length,lC]
  obtain ⟨X,hX⟩:∃ X:List Addr,X=t :: l :: us:=⟨_,rfl⟩
  have xX:∀ x ∈ X,(∃ ys,H5 x=some (.lst ys))/\H x=none:=λx hx=>by
    rw [hX] at hx;rcases List.mem_cons.mp hx with rfl | hx
    · exact ⟨⟨_,et⟩,s1.free ft⟩
    rcases List.mem_cons.mp hx with rfl | hx
    · exact ⟨⟨_,s2 _ _ el⟩,fl⟩
    · obtain ⟨i,hi⟩:=List.mem_iff_getElem?.mp hx
      obtain ⟨ys,_,_,e,_⟩:=Rt.get hi;exact ⟨⟨_,e⟩,s1.free (fus x hx).1⟩
  have old:∀ x,(∃ o,H x=some o)->x ∉ X:=λx ⟨o,h⟩ hx=>by
    have:=(xX x hx).2;rw [h] at this;cases this
  have due:∀ x,H5 x=none->x ∉ X:=λx h hx=>by
    obtain ⟨ys,e⟩:=(xX x hx).1;rw [h] at e;cases e
  have SX0:SX X H7 H7:=SX.start λx hx=>let ⟨ys,e⟩:=(xX x hx).1;⟨ys,s7 _ _ (s6 _ _ e)⟩;have keep:∀ {G:Hp},SX X H7 G->G p=some (.lst xs)/\v9 G xs qs/\G d=some (.lst (ds.map V.ref))/\Rws G ds (F6 qs n):=fun {G} sx=>⟨sx.s _ _ (S7 _ _ hp) (old p ⟨_,hp⟩),(hN.mono S7.tups).mono sx.tups,sx.s _ _ ed7 (due d fd),Rws.sx sx (λx hx=>due x (fds x hx).1) Rd7⟩;obtain ⟨D1,h1⟩:∃ D1,us[n-1]? = some D1:=⟨_,List.getElem?_eq_getElem ⋯⟩;have m1:=List.mem_of_getElem? h1;have tX:t ∈ X:=by rw [hX];exact List.mem_cons_self
  have lX:l ∈ X:=by rw [hX];exact List.mem_cons_of_mem _ List.mem_cons_self
  have D1X:D1 ∈ X:=by rw [hX];exact List.mem_cons_of_mem _ (List.mem_cons_of_mem _ m1)
  have nT:D1 ∉ us.take (n-1):=λhx=>by
    have e0:us=us.take (n-1) ++ [D1]:=by rw [<- d6 h1,show n-1+1=n by omega,List.take_of_length_le ⋯]
    rw [e0] at ndu;exact (List.nodup_append.mp ndu).2.2 D1 hx D1 (List.mem_singleton.mpr rfl) rfl
  have d1t:D1 ≠ t:=(fus D1 m1).2
  have d1l:D1 ≠ l:=λz=>by
    have:=(fus D1 m1).1;rw [z,el] at this;cases this
  have tl':t ≠ l:=λz=>by rw [z,el] at ft;cases ft
  refine f9 (λσ H8=>σ=[some (.ref p),some (.ref l),some (.ref t),some (.int (n:Int)),some (.ref d)]/\SX X H7 H8/\H8 t=some (.lst (us.map V.ref))/\K4 K H8 (us.take (n-1)) ((F6 qs n).take (n-1))/\H8 l=some (.lst xs)) (λN hN'=>?_) ?_
  · subst_eqs
    refine ⟨by decide,λp1 f1=>?_⟩
    have Sp:=c5.new f1 (.tup [.int 77,.int 1]);obtain ⟨x1,L1,eL1,ex1,nx1⟩:=(Rt7.same Sp).get h1
    have lx1:x1.length=n:=by
      have:=(oC.row L1 (List.mem_of_getElem? eL1)).1;rw [nx1.length];omega
    exact ⟨_,SqL.of (Sp _ _ et7),.ref D1,by rw [show ((n:Int)-1)=((n-1:Nat):Int) by omega];exact p7 (by rw [List.getElem?_map,h1];rfl),D1,rfl,x1,ex1,0,by exact V4 (k:=0) ⋯,hN' _ _ ⟨rfl,(SX0.same Sp).upd D1X _,by rw [d4 d1t.symm];exact Sp _ _ et7,((Rt7.take (n-1)).same Sp).over ex1 nT,by rw [d4 d1l.symm];exact Sp _ _ el7⟩⟩
  rintro σ H8 ⟨rfl,SX8,et8,Rt8,el8⟩;refine f9 (λσ H9=>σ=[some (.ref p),some (.ref l),some (.ref t),some (.int (n:Int)),some (.ref d)]/\c5 H8 H9) (λN hN'=>?_) ?_
  · obtain ⟨k1,k2,k3,k4⟩:=keep SX8
    subst_eqs
    have c1:af7 (us.map V.ref) none (some ((n:Int)-1))=(us.take (n-1)).map V.ref:=by rw [show ((n:Int)-1)=((n-1:Nat):Int) by omega,ac1 _ (by rw [List.length_map];omega),List.map_take]
    have c2:af7 (ds.map V.ref) none (some ((n:Int)-1))=(ds.take (n-1)).map V.ref:=by rw [show ((n:Int)-1)=((n-1:Nat):Int) by omega,ac1 _ (by rw [List.length_map];omega),List.map_take]
    refine ⟨_,SqL.of et8,λp1 f1=>⟨_,SqL.of (c5.new f1 _ _ _ k3),λp2 f2=>?_⟩⟩;rw [c1] at f2;rw [c1,c2];have Sa:=c5.new f1 (.lst ((us.take (n-1)).map V.ref));have Sb:=c5.new f2 (.lst ((ds.take (n-1)).map V.ref));have Sab:=Sa.trans Sb;refine ⟨N7 _,N7 _,rfl,.lst (SqL.of (Sb _ _ b8)) (Rt8.same Sab).isDs,.lst (SqL.of b8) (((k4.same Sab).toC).take (n-1)).isDs,ag8 _ _,am2 _,_,rfl,?_⟩;rw [ag9,decide_eq_true rfl,if_neg (by decide)]
    exact hN' _ _ ⟨rfl,Sab⟩
  rintro σ H9 ⟨rfl,s9⟩;refine f9 (λσ HA=>σ=[some (.ref p),some (.ref l),some (.ref t),some (.int (n:Int)),some (.ref d)]/\SX X H7 HA/\HA l=some (.lst xs)) (λN hN'=>?_) ?_
  · subst_eqs
    refine ⟨.inl ⟨_,SqL.of (s9 _ _ et8)⟩,by decide,λp1 f1=>?_⟩
    have Sp:=c5.new f1 (.lst []);have S:=s9.trans Sp;exact ⟨_,S _ _ et8,p9 (by rw [List.length_map];omega),hN' _ _ ⟨rfl,(SX8.same S).upd tX _,by rw [d4 tl'.symm];exact S _ _ el8⟩⟩
  rintro σ HA ⟨rfl,SXA,elA⟩;refine f9 (λσ HB=>σ=[some (.ref p),some (.ref l),some (.ref t),some (.int (n:Int)),some (.ref d)]/\SX X H7 HB) (λN hN'=>?_) ?_
  · subst_eqs
    refine ⟨by decide,λp1 f1=>?_⟩
    have Sp:=c5.new f1 (.tup [.int 55,.int 1]);exact ⟨_,Sp _ _ elA,0,by exact V4 (k:=0) ⋯,hN' _ _ ⟨rfl,(SXA.same Sp).upd lX _⟩⟩
  rintro σ HB ⟨rfl,SXB⟩;refine f9 (λσ HC=>σ=[some (.ref p),some (.ref l),some (.ref t),some (.int (n:Int)),some (.ref d)]/\c5 HB HC) (λN hN'=>?_) ?_
  · obtain ⟨k1,k2,k3,k4⟩:=keep SXB
    subst_eqs
    refine ⟨xs,.inl (SqL.of k1),λc fc=>?_⟩;have Sc:=c5.new fc (.lst xs);refine ⟨c,xs,qs,rfl,SqL.of b8,k2.mono Sc.tups,bq,⋯,tl,λh=>absurd h bad,λm hm h1 h4=>?_⟩;obtain rfl:m=n:=⋯;intro t2 us2 HD sd ft2 fus2 nd2 et2 Rt2;have S:=Sc.trans sd;refine ⟨N7 _,N7 _,rfl,.lst (SqL.of et2) Rt2.isDs,.lst (SqL.of (S _ _ k3)) (k4.same S).isDs,ag8 _ _,am2 _,_,rfl,?_⟩;rw [ag9,decide_eq_true rfl,if_neg (by decide)]
    exact hN' _ _ ⟨rfl,S⟩
  rintro σ HC ⟨rfl,sC⟩;obtain ⟨k1,k2,k3,k4⟩:=keep SXB
  subst_eqs
  obtain ⟨c,ec⟩:∃ c,qs[n]? = some c:=⟨_,List.getElem?_eq_getElem ⋯⟩;have c0:c ≠ 0:=tl.last ⋯ _ (by rw [hn];exact ec)
  have bc:=bq c (List.mem_of_getElem? ec);have b1:BdN 1 (1:Rat):=⟨by decide,by decide⟩
  have bi:BdN 41 (1 / c):=by rw [Rat.div_def];exact (b1.mul (bc.inv c0)).mono (by decide)
  have cM:ClN 321 (F6 qs n).flatten:=ac2 oC.B0 oC.BW λq hq=>by
    obtain ⟨L,hL,hq⟩:=List.mem_flatten.mp hq;exact (oC.row L hL).2 q hq
  refine ⟨d,ds,F6 qs n,n,321,rfl,sC _ _ k3,k4.same sC,lC,λL hL=>by rw [(oC.row L hL).1,lC],n1,n4,cM,by decide,λr zs HD sd fr er nr=>⟨by decide,λp1 f1=>?_⟩⟩
  have Sp:=c5.new f1 (.tup [.int 1,.int 1]);have S:=(sC.trans sd).trans Sp;obtain ⟨pc,hpc,epc⟩:=k2.get ec;refine ⟨xs,SqL.of (S _ _ k1),_,p7 hpc,?_⟩;refine ⟨_,_,1,c,1,40,rfl,⟨p1,rfl,SqT.of b8⟩,⟨pc,rfl,SqT.of (S _ _ epc)⟩,b1.t (by decide),c0,bc.n,Nat.lt_of_lt_of_le bc.d (d7 (by decide)),by decide,λr2 HE se ee=>?_⟩
  have S2':=S.trans se;refine ⟨_,1 / c,p,xs,qs,41,40,rfl,⟨r2,rfl,SqT.of ee⟩,SqL.of (S2' _ _ k1),k2.mono S2'.tups,bi.t (by decide),λq hq=>(bq q hq).t (by decide),by decide,⋯,λm r3 ws HF tm sf frf erf nrf=>?_⟩
  have full:P3 (qs.map (1 / c * ·)) (qs.map (1 / c * ·)).length:=ai7 λx hx=>by
    rw [List.length_map,hn,Nat.add_sub_cancel,List.getElem?_map,ec] at hx
    injection hx with hx
    rw [<- hx]
    show 1 / c*c ≠ 0;rw [Rat.div_def,Rat.one_mul,Rat.inv_mul_cancel c c0]
    decide
  have em:=tm.uniq full;rw [em,List.take_length] at nrf;refine ⟨A9 (chQ n (qq (F6 qs n)) n),A9 _,rfl,X8 (SqL.of (sf _ _ (se _ _ (Sp _ _ er)))) (nr.mono ((Sp.trans se).trans sf).tups),K8 (SqL.of erf) nrf,O7 _ _,Nat.le_trans (U7 _) (by decide),?_⟩
  rw [bg1 hn n1 n4 ec c0,L9,decide_eq_true rfl];exact k _ λx o h=>(S2'.trans sf) _ _ (SXB.s _ _ (S7 _ _ h) (old x ⟨o,h⟩))
theorem bl0 {v:Int} (h0:0<=v) (h8:v<8):∃ m:Int,atI [V.int 4,V.int 4,V.int 4,V.int 7,V.int 1,V.int 2,V.int 4,V.int 7] v=some (.int m)/\1<=m/\m<=7:=by
 have:v=0 \/ v=1 \/ v=2 \/ v=3 \/ v=4 \/ v=5 \/ v=6 \/ v=7:=⋯;rcases this with rfl | rfl | rfl | rfl | rfl | rfl | rfl | rfl <;> exact ⟨_,rfl,by decide,by decide⟩
abbrev ay8:Stmt:=top 76
theorem ac6:i9 ["_law_script","_law_at","_law_urn_here","_law_most","_law_bare","_law_p","_law_table","_law_numbers"] ["_law_script"] (c6 ay8):=by and_intros
theorem bk7 {f g1 g2 g3 g4 g5 g6 g7:Addr} {fd:FuncData} (F:Fun K "law" "law" ay8 f fd) (G__law_urn:Def P w K mg base CX0 1 "_law_urn" g1 ["_law_script","_law_at"] (bh3 K)) (G__law_draw:Def P w K mg base CX0 1 "_law_draw" g2 ["_law_urn_here","_law_many"] C9) (G__law_kind:Def P w K mg base CX0 2 "_law_kind" g3 ["_law_urn_here"] as1) (GD__law_drawn_poly:Def P w K mg base CX0 4 "_law_drawn_poly" g4 ["_law_urn_here","_law_kind_here","_law_most"] ak4) (G__law_machine:Def P w K mg base CX0 8 "_law_machine" g5 ["_law_urn_here"] aW1) (G__law_poly_right:Def P w K mg base CX0 5 "_law_poly_right" g6 ["_law_urn_here","_law_table"] aH2) (G__law_table_right:Def P w K mg base CX0 6 "_law_table_right" g7 ["_law_p"] (aG9 K))
  (n_range:mg "range" = none):am6 P w K mg base CX0 9 f fd ["_law_script"] (aP0 K):=by
 refine F.ok (N:=["_law_script","_law_at","_law_urn_here","_law_most","_law_bare","_law_p","_law_table","_law_numbers"]) ac6 (λvs H Q E ⟨x,y,h,_⟩=>by rw [h];rfl) (λcdv A outer s H vs Q E hr h=>?_)
 obtain ⟨as,ns,rfl,hS,h63,k⟩:=h;have hu:=hr.units;have G__law_drawn_poly:=GD__law_drawn_poly
 refine ⟨_,(b9 (Y4 PassesOwn.never rfl (A8 rfl n_range (a8 b7 b6)) (c9 (i:=1) ac6.nd rfl (q0z rfl)) (b9 (h9 (i:=2) ac6.nd rfl (q0z rfl) (c8 G__law_urn hr (a8 (pv 0) (a8 (pv 1) b6)) g9))
   (b9 (h9 (i:=3) ac6.nd rfl (q0z rfl) (i6 j3 (w9 (a8 b7 (a8 b7 (a8 b7 (a8 b7 (a8 b7 (a8 b7 (a8 b7 (a8 b7 b6))))))))) (c8 G__law_draw hr (a8 (pv 2) (a8 b7 b6)) g9) (λ_ _=>rfl)))
   (b9 (h9 (i:=4) ac6.nd rfl (q0z rfl) (y4 R3 (c8 G__law_draw hr (a8 (pv 2) (a8 b7 b6)) g9) b7 (i5 _)))
   (b9 (h9 (i:=5) ac6.nd rfl (q0z rfl) (c8 G__law_drawn_poly hr (a8 (pv 2) (a8 (c8 G__law_kind hr (a8 (pv 2) b6) g9) (a8 (pv 3) b6))) g9))
   (b9 (A4 (P8 (pv 4)) (c7 (h9 (i:=5) ac6.nd rfl (q0z rfl) (w9 b6))) m6)
   (b9 (E5 (c8 G__law_machine hr (a8 (pv 2) b6) g9) (show PG _ _ (T6 K 2 (r6 (l9 6) (r6 (l9 7) T9))) from by (refine C2 (n:=2) ?_ ?_ ?_ ?_;rfl;(refine i4 ?_ ?_ ?_;(exact (c9 (i:=6) ac6.nd rfl (q0z rfl)));(refine i4 ?_ ?_ ?_;(exact (c9 (i:=7) ac6.nd rfl (q0z rfl)));(exact y3);rfl);rfl);rfl;rfl)))
   (c7 (A4 (PW.pt (Z7 (P9 (P8 (c8 G__law_poly_right hr (a8 (pv 2) (a8 (pv 6) b6)) g9))) (ad1 (P9 (P8 (c8 G__law_table_right hr (a8 (pv 5) b6) g9)))))) (c7 (i7 Z8)) m6)))))))))
   (c7 (i7 Z8))),?_⟩
 rw [show start ["_law_script","_law_at","_law_urn_here","_law_most","_law_bare","_law_p","_law_table","_law_numbers"] [.ref as]=[some (.ref as),none,none,none,none,none,none,none] from rfl]
 refine ⟨_,rfl,by decide,by decide,Y0 (λi σ H1 => ∃ o1 o2 o3 o4 o5 o6 o7:Option V,σ=[some (.ref as),o1,o2,o3,o4,o5,o6,o7]/\SqL K H1 as (ns.map V.int)) ⟨_,_,_,_,_,_,_,rfl,hS⟩ ?_ ?_⟩
 ·rintro i σ H1 hi ⟨o1,o2,o3,o4,o5,o6,o7,rfl,hS1⟩
  refine f9 (λσ H2 => ∃ u,σ=[some (.ref as),some (.int (0+(i:Int))),some (.ref u),o3,o4,o5,o6,o7]/\c5 H1 H2/\H1 u=none/\j7 H2 u) (λN hN=>?_) ?_
  ·subst_eqs
   exact ⟨as,ns,_,rfl,hS1,⋯,⋯,λu H2 s2 hu0 hu2=>hN _ _ ⟨u,rfl,s2,hu0,hu2⟩⟩
  rintro σ H2 ⟨u,rfl,s2,fu,u2⟩;have su:∀ {H'},j9 u H2 H'->SqL K H' as (ns.map V.int):=λs=>((c5.x s2 u).trans s).seq fu hS1;refine f9 (λσ H3 => ∃ m:Int,σ=[some (.ref as),some (.int (0+(i:Int))),some (.ref u),some (.int m),o4,o5,o6,o7]/\j9 u H2 H3/\j7 H3 u/\1<=m/\m<=7) (λN hN=>?_) ?_
  ·simp! [C9]
   refine ⟨by decide,λpl fl=>⟨K1 u2 fl,by decide,by decide,λr H3 r0 r8 s3 u3=>?_⟩⟩
   obtain ⟨m,em,m1,m7⟩:=bl0 r0 r8;exact ⟨_,SqL.of (s3 _ _ b8 (w5 u2 fl)),_,em,hN _ _ ⟨m,rfl,(c5.x (c5.new fl _) u).trans s3,u3,m1,m7⟩⟩
  rintro σ H3 ⟨m,rfl,s3,u3,m1,m7⟩;refine f9 (λσ H4 => ∃ b,σ=[some (.ref as),some (.int (0+(i:Int))),some (.ref u),some (.int m),some (.bl b),o5,o6,o7]/\j9 u H2 H4/\j7 H4 u) (λN hN=>?_) ?_
  ·simp! [C9]
   exact ⟨u3,by decide,by decide,λr H4 r0 r1 s4 u4=>⟨rfl,hN _ _ ⟨_,rfl,s3.trans s4,u4⟩⟩⟩
  rintro σ H4 ⟨b,rfl,s4,u4⟩;obtain ⟨PolyOk,hPo⟩:∃ PolyOk:List Rat->Prop,∀ qs,PolyOk qs ↔ (qs.length<=8/\P3 qs qs.length/\∀ q ∈ qs,BdN 40 q):=⟨_,λ_=>Iff.rfl⟩;refine f9 (λσ H5 => ∃ p xs qs,σ=[some (.ref as),some (.int (0+(i:Int))),some (.ref u),some (.int m),some (.bl b),some (.ref p),o6,o7]/\j9 u H2 H5/\j7 H5 u/\LsX u H5 p xs qs/\PolyOk qs) (λN hN=>?_) ?_
  ·simp! [as1]
   refine ⟨u4,λkd H5 hk s5 u5=>?_⟩;refine ⟨u,kd,m,rfl,u5,⋯,⋯,λr xs qs q H6 s6 u6 fr er nr bq bl q0 lq=>?_⟩;have b40:bK kd<=40:=by unfold bK;split <;> decide
   refine hN _ _ ⟨r,xs,qs ++ [q],rfl,s4.trans (s5.trans s6),u6,⟨w5 u5 fr,er,nr⟩,(hPo _).mpr ⟨by rw [j0a];simp;omega,aB6 q0,λx hx=>?_⟩⟩
   rcases z0r.mp hx with z | z
   ·exact (bq x z).mono b40
   ·rw [q0u.mp z];exact bl.mono b40
  rintro σ H5 ⟨p,xs,qs,rfl,s5,u5,L5,po5⟩;refine f9 (λσ H6 => ∃ p xs qs,σ=[some (.ref as),some (.int (0+(i:Int))),some (.ref u),some (.int m),some (.bl b),some (.ref p),o6,o7]/\j9 u H2 H6/\j7 H6 u/\LsX u H6 p xs qs/\PolyOk qs) (λN hN=>?_) ?_
  ·subst_eqs
   refine B3 (λ_=>?_) (λ_=>hN _ _ ⟨p,xs,qs,rfl,s5,u5,L5,po5⟩);refine ⟨by decide,λl fl=>hN _ _ ⟨l,[],[],rfl,s5.trans (c5.x (c5.new fl _) u),K1 u5 fl,⟨w5 u5 fl,b8,.nil⟩,(hPo _).mpr ⟨by decide,bi3,by simp⟩⟩⟩
  clear s5 u5 L5 po5;rintro σ H6 ⟨p,xs,qs,rfl,s6,u6,L6,po6⟩;refine f9 (λσ H7 => ∃ l v us M,σ=[some (.ref as),some (.int (0+(i:Int))),some (.ref u),some (.int m),some (.bl b),some (.ref p),some (.ref l),some v]/\V3 u H6 l us M H7/\1<=M.length/\M.length<=4/\bq9 M) (λN hN=>?_) ?_
  ·subst_eqs
   refine ⟨u,rfl,u6,λr l v us M H7 dA m1 m4 mT e7=>?_⟩;exact ⟨r,rfl,_,SqT.of e7,rfl,_,_,rfl,_,_,rfl,rfl,hN _ _ ⟨l,v,us,M,rfl,dA,m1,m4,mT⟩⟩
  rintro σ H7 ⟨l,v,us,M,rfl,dA,n1,n4,mT⟩;have L7:=L6.samex dA.same u6;obtain ⟨q8,tl,bq⟩:=(hPo _).mp po6
  obtain ⟨C,W,oM,w1,hW⟩:∃ C W,M4 C W M/\1<=W/\W<=162:=by
   rcases mT with ⟨C,h⟩ | ⟨h2,h⟩
   ·exact ⟨C,120,h,by decide,by decide⟩
   ·obtain ⟨C,h⟩:=be9 h2 h
    exact ⟨C,162,h,by decide,by decide⟩
  have hWn:(W+9)*(M.length+1)<=900:=q0q (y0w (show W+9<=171 by omega) (show M.length+1<=5 by omega)) (by decide)
  subst_eqs
  refine ⟨u,l,us,M,M.length,C,W,rfl,dA.urn,⟨dA.lu,dA.nu,dA.at',dA.rws⟩,oM,rfl,n1,n4,hWn,⋯,λH8 s8 u8=>⟨true,rfl,?_⟩⟩;have L8:=L7.samex s8 dA.urn;refine B3 (λz=>by cases z) λ_=>?_
  exact ⟨p,xs,qs,rfl,L8.at',L8.nums,bq,q8,tl,λH9 s9=>⟨true,rfl,B3 (λz=>by cases z) λ_=>su (s6.trans (dA.same.trans (s8.trans (c5.x s9 u))))⟩⟩
 ·rintro σ H1 ⟨o1,o2,o3,o4,o5,o6,o7,rfl,hS1⟩
  exact k H1
end
end R
set_option maxRecDepth 100000
namespace PySem.W.Fast
def tw8080630966068721346:=0
def tw7887141504146938249:=0
def tw8053786578349599368:=0
def tw2282854115567307556:=0
def tw13973473616082111396:=0
def tw9886752640564141630:=0
def tw5814618188721519621:=0
def tw8906573243513726541:=0
def tw12997487897399365438:=0
def tw1775511442629945295:=0
def tw7144105455440647900:=0
def tw14043154395003073393:=0
def tw2154822621845973564:=0
def tw15606966129617467454:=0
def tw17398850912345799217:=0
def tw1589723169822642203:=0
def tw12894040740600169268:=0
def tw11184929994033795993:=0
def tw14936872417128963847:=0
def tw10983099504051346179:=0
def tw16862532295101861149:=0
def tw8420197936210558034:=0
def tw5722445942235578419:=0
def tw4105164593273872448:=0
def tw1652981656507666066:=0
def tw16662287598507817779:=0
def tw9185490535707030555:=0
def tw511426564084095743:=0
def tw8112972577266170306:=0
def tw15019208394593327711:=0
def tw2669756837830666063:=0
def tw5971561531172987149:=0
def tw15572940291915401586:=0
def tw3678334796480492513:=0
def tw4066525906574459518:=0
def tw13228031181728516410:=0
def tw12063645092595161613:=0
def tw3778604953368329683:=0
def tw14885432887457401635:=0
def tw12811915927495129697:=0
def tw25288566046454441:=0
def tw12370735007975293410:=0
def tw16050149064745723659:=0
def tw1047313019558179140:=0
def tw5346136873606387427:=0
def tw17190509942098039352:=0
def tw12864185406526200467:=0
def tw10443850224431111592:=0
def tw9964987789921907782:=0
def tw14737402860886659073:=0
def tw4724263531614043976:=0
def tw7208226270192916859:=0
def tw15560079604527443341:=0
def tw1102250479846232658:=0
def tw11073244944176852906:=0
def tw15790201554588977481:=0
def tw3063310896691631574:=0
def tw8312466237411100027:=0
def tw4406104206409328548:=0
def tw12669126330126758538:=0
def tw16936902307046736661:=0
def tw14120487369019800089:=0
def tw11848947823527691710:=0
def tw6481376858478299509:=0
def tw6771183137117089273:=0
def tw1826354926057275053:=0
def tw14160178403823524346:=0
def tw2098973684067658090:=0
def tw2261362986707682019:=0
def tw7169986804596143345:=0
def tw15249731029374683665:=0
def tw16731117374335462914:=0
def tw14358677259028637137:=0
def tw7030744026865886518:=0
def tw7452629107371484307:=0
def tw9731771669166552064:=0
def tw10349778800453284384:=0
def tw3433809363697030238:=0
def tw10768611156231596298:=0
def tw4526335241720012196:=0
def tw6358964533024837188:=0
def tw522257206843557440:=0
def tw15134591611919203734:=0
def tw7043326954248049881:=0
def tw7604454158722798068:=0
def tw2838946824705934235:=0
def tw9254607851654500298:=0
def tw10244951905285932742:=0
def tw8529210808226088114:=0
def tw16830077842526696054:=0
def tw2462434488205455582:=0
def tw14497358324734454779:=0
def tw6001511372845639295:=0
def tw1551076306532230160:=0
def tw2732113133113475159:=0
def tw14527446500719506156:=0
def tw14888883916115641404:=0
def tw6155210074913889109:=0
def tw12900105051272863946:=0
def tw4343236681992347158:=0
def tw13002447238220258341:=0
def tw13198977232685881460:=0
def tw4656046760973399829:=0
def tw13565377506480866840:=0
def tw11109304982236389600:=0
def tw420232983700135452:=0
def tw9479337599941208432:=0
def tw3871307571727697237:=0
def tw2230842727785263612:=0
def tw11590278956708418038:=0
def tw15383203306705522615:=0
def tw13467631029490955930:=0
def tw12296107963116567276:=0
def tw17505350848983157082:=0
def tw5975942201600755260:=0
def tw5962035595706233716:=0
def tw12452016973689481367:=0
def tw11163138476007535584:=0
def tw13999171107626623165:=0
def tw5515479386245224666:=0
def tw15171529476892081997:=0
def tw14501631246907821145:=0
def tw8783454935742967632:=0
def tw4245660525268664739:=0
def tw1362645736442037765:=0
def tw13299217092227803086:=0
def tw1061921336881837481:=0
def tw11094701248925397901:=0
def tw13389999348697664273:=0
def tw15391378728428841498:=0
def tw12354596534420743237:=0
def tw16004001582004650395:=0
def tw3521082359114339146:=0
def tw520578374627679882:=0
def tw8801304600884038569:=0
def tw13033504686628899843:=0
def tw5509527005407997724:=0
def tw2084267131781728864:=0
def tw9489260938748663671:=0
def tw17411312757305724315:=0
def tw3030309969235571945:=0
def tw7547044041087693420:=0
def tw16942766638980828420:=0
def tw5033222882811474654:=0
def tw6051132257095938026:=0
def tw16861668192320663016:=0
def tw13378888206959524485:=0
def tw14791888087359379401:=0
def tw13856753280025877223:=0
def tw6168638660096349020:=0
def tw6198953049152018117:=0
def tw15462424894684354431:=0
def tw12568095207109720305:=0
def tw15721323177281911132:=0
def tw10935738255280818297:=0
def tw11025400494591340714:=0
def tw2624286864067279746:=0
def tw6024254929522286743:=0
def tw17569954896909302453:=0
def tw16929499192252920611:=0
def tw17145878057189832646:=0
def tw800155917601601974:=0
def tw16639485982240432202:=0
def tw2231147636467246228:=0
def tw17822781471218318879:=0
def tw6711906199061838503:=0
def tw11226433083128870211:=0
def tw2614634089391389196:=0
def tw1091396567070434094:=0
def tw2889504275290278885:=0
def tw12160504951996814778:=0
def tw12038846786991826473:=0
def tw10759570084547699544:=0
def tw10493150457581371750:=0
def tw16562231178022174676:=0
def tw15534999254326445053:=0
def tw14124610570308568063:=0
def tw13370138265346891379:=0
def tw6328892072161178092:=0
def tw10190799933959038835:=0
def tw5053408979665367892:=0
def tw8193144961743199642:=0
def tw8393010051366845244:=0
def tw6528653091249656925:=0
def tw16821144307864317626:=0
def tw16853658868867797771:=0
def tw438521755222264410:=0
def tw18072332832323547283:=0
def tw4570425534248109411:=0
def tw16563767761958289955:=0
def tw12300923098396399893:=0
def tw7776119109953125177:=0
def tw17568083818385178446:=0
def tw8286061078655214493:=0
def tw14575777841886633108:=0
def tw10607698406815580619:=0
def tw15549415715903181642:=0
def tw11174188761171024716:=0
def tw14229271880472502638:=0
def tw17973970900592260954:=0
def tw12213340030812474076:=0
def tw970820486680222783:=0
def tw10623839064245116317:=0
def tw1726880587042736112:=0
def tw11903772171972242632:=0
def tw12516703421944839064:=0
def tw15003446550867221593:=0
def tw13498734806163969496:=0
def tw3402597156674153193:=0
def tw1617328914380093764:=0
def tw4725669869799402311:=0
def tw9005508512252754986:=0
def tw11434342426499773754:=0
def tw11132846258247788905:=0
def tw6159636732080761101:=0
def tw499269474844191636:=0
def tw17563424720859092746:=0
def tw11210713843747940260:=0
def tw5045743487471852302:=0
def tw16470102146077456070:=0
def tw6037642828207173220:=0
def tw16699546487555789652:=0
def tw13721664271564880864:=0
def tw14252736134637194603:=0
def tw7899577053259525848:=0
def tw7310149857514938528:=0
def tw7018909022005029:=0
def tw6229966250234227052:=0
def tw5271172499418381774:=0
def tw9628728996346133128:=0
def tw6560248899448458992:=0
def tw17901288910952032254:=0
def tw16697011383564797071:=0
def tw14488671336344904895:=0
def tw9461031238079715417:=0
def tw12831787300469250590:=0
def tw15180993482813103673:=0
def tw13490942734030537419:=0
def tw1337072158823639691:=0
def tw2236757099188889339:=0
def tw13204563842564410674:=0
def tw3673624536154900463:=0
def tw8313584688052090811:=0
def tw16847175216025083566:=0
def tw5154302440160770409:=0
def tw3967937560786732033:=0
def tw677902077323168224:=0
def tw11714091104355478390:=0
def tw853829819182471200:=0
def tw1486808833231608118:=0
def tw2701150228536153243:=0
def tw16548468279846036987:=0
def tw11749285290322135436:=0
def tw10060905255656580170:=0
def tw2790630259899616438:=0
def tw534823250484460546:=0
def tw235574868141068998:=0
def tw5616490301388281903:=0
def tw17384774119814910950:=0
def tw10164175321408401516:=0
def tw10706799268666304216:=0
def tw12009410183043461702:=0
def tw14868187948508502708:=0
def tw14277035104624774129:=0
def tw12308252757551490034:=0
def tw16279597153437259729:=0
def tw10583831831871770626:=0
def tw1871887438941449498:=0
def tw2964747804306755624:=0
def tw9185284898625476728:=0
def tw14985298927499586108:=0
def tw18336410490990747548:=0
def tw2918869618065349718:=0
def tw16382188449236274701:=0
def tw18276175848097283844:=0
def tw1144957343492209549:=0
def tw5840488048867262207:=0
def tw1109324024169142205:=0
def tw18116205863658242294:=0
def tw17047037931347117798:=0
def tw13293199940818790092:=0
def tw6004475473120815135:=0
def tw8493691427692539126:=0
def tw13859974241288587583:=0
def tw13816534651495250105:=0
def tw1778213468758348887:=0
def tw4064693301032492491:=0
def tw11191717322821026455:=0
def tw13747645682441567158:=0
def tw16567983287098024157:=0
def tw2980735630336842992:=0
def tw5933672182602513761:=0
def tw6084314479591921450:=0
def tw13781631070892653529:=0
def tw5548416383885349671:=0
def tw9647661108278344380:=0
def tw11217092152207959648:=0
def tw842582428826430568:=0
def tw5496419788397329767:=0
def tw8720659690823719201:=0
def tw14696541135104030595:=0
def tw10509293108805839747:=0
def tw16184643102069254964:=0
def tw2572963380104796631:=0
def tw7560375376627534130:=0
def tw9565020959396472569:=0
def tw18109940399067109612:=0
def tw15603618885987823034:=0
def tw4711904180801337071:=0
def tw10700189561383728216:=0
def tw3799059917592078017:=0
def tw316884350374924069:=0
def tw9570593497200221653:=0
def tw1469904719278063898:=0
def tw8421709239267644979:=0
def tw7552798965093413076:=0
def tw4560316447730587546:=0
def tw9039231883160171443:=0
def tw12416467759400262494:=0
def tw6857119702538668070:=0
def tw8629909904335754028:=0
def tw7023410305043619076:=0
def tw14144325548983534315:=0
def tw13701166832805004097:=0
def tw1162467977032891528:=0
def tw1673550208671186947:=0
def tw15949392512623320177:=0
def tw10827168551704830963:=0
def tw6756193515506650925:=0
def tw17761766558924256884:=0
def tw11327199746846697362:=0
def tw9574823732826679407:=0
def tw17466767801872230019:=0
def tw10809027190524098:=0
def tw16708045420088651807:=0
def tw13042548248021113010:=0
def tw10272052886544254746:=0
def tw1662625237452459436:=0
def tw11514177099488690587:=0
def tw6292771251120752180:=0
def tw7072801728363917319:=0
def tw9952570395375008930:=0
def tw4261608061945870409:=0
def tw9946776341831620954:=0
end PySem.W.Fast
namespace R
open PySem L2 PyProof.Rows
section
variable {l:m0a} {w:World} {K:q0a} {h:Heap} {mg:Str->Option Value}
structure Gd (K:q0a) (nm:Str) (st:Stmt) (f:Addr):Prop where
 a:z0u K mainGlobals nm=some (some (.ref f))
 F:∃ fd,Fun K nm nm st f fd
theorem Gd.df {nm:Str} {st:Stmt} {f:Addr} {ps:List Str} (X:K.In h) (G:h.Ns mainGlobals mg) (g:Gd K nm st f) (hb:∀ (kV doc pm:Value) (an:Option Addr) (cdv ct:Value) (us:List Value),us.length=ps.length->bindArgs (y0x nm nm (ah0 st) (Q7 st) (c6 st) .none kV doc pm an cdv ct) ⟨us,[]⟩=pure (ps.zip us)):Df K mg nm st ps f:=by
 obtain ⟨a,_,F⟩:=g;exact ⟨⟨_,F,F.binds hb⟩,y0u X G a⟩
structure Gx (K:q0a) (nm:Str) (C:Addr):Prop where
 m:z0u K mainGlobals nm=some (some (.ref C))
 x:m0r K C [.type "ValueError",.type "Exception",.type "BaseException",.type "object"] "ValueError.__new__" = true
 e:aw0 K C
theorem Gx.t {nm:Str} {C:Addr} (X:K.In h) (G:h.Ns mainGlobals mg) (g:Gx K nm C):ExT K mg nm C:=⟨y0u X G g.m,⟨g.x⟩,g.e⟩
theorem bf1 {us:List Value} {n:Nat} (h:us.length=n+1):∃ a r,us=a :: r/\r.length=n:=by
 cases us with
 | nil=>cases h
 | cons a r=>exact ⟨a,r,rfl,Nat.succ.inj h⟩
theorem bo9 {us:List Value} (h:us.length=0):us=[]:=List.eq_nil_of_length_eq_zero h
theorem Q5 {us:List Value} (h:us.length=1):∃ a0,us=[a0]:=by
 obtain ⟨_,_,rfl,g⟩:=bf1 h;obtain ⟨rfl⟩:=bo9 g;exact ⟨_,rfl⟩
theorem G4 {us:List Value} (h:us.length=2):∃ a0,∃ a1,us=[a0,a1]:=by
 obtain ⟨_,_,rfl,g⟩:=bf1 h;obtain ⟨_,rfl⟩:=Q5 g;exact ⟨_,_,rfl⟩
theorem aZ2 {us:List Value} (h:us.length=3):∃ a0,∃ a1,∃ a2,us=[a0,a1,a2]:=by
 obtain ⟨_,_,rfl,g⟩:=bf1 h;obtain ⟨_,_,rfl⟩:=G4 g;exact ⟨_,_,_,rfl⟩
theorem bo8 {us:List Value} (h:us.length=4):∃ a0,∃ a1,∃ a2,∃ a3,us=[a0,a1,a2,a3]:=by
 obtain ⟨_,_,rfl,g⟩:=bf1 h;obtain ⟨_,_,_,rfl⟩:=aZ2 g;exact ⟨_,_,_,_,rfl⟩
theorem bm9 {fa f_common_divisor f_plus f_less f_times f_fraction f_over f_cleared f_turned f__law_low f__law_urn f__law_draw f__law_kind f__law_number f__law_whole f__law_is_number f__law_other f__law_trim f__law_drawn_poly f__law_is_poly f__law_plus f__law_times f_rows_times f_with_unit f_whole_rows f__law_poly_times f__law_worth f__law_less f__law_over f__law_companion f__law_likened f_table_poly f_poly_table f__law_det f__law_copied f__law_above f__law_sign f__law_factor f__law_rooted f__law_machine f__law_lessened f__law_poly_right f__law_which f__law_poly_often f__law_is_table f__law_table_asked f__law_table_right f_law:Addr} {C_NoFraction C_NoPolynomial C_NoStretch C_NoRow C_NoPair C_NoBack C_NoForm C_NoParts C_NoDegree C_NoSteps C_NoBox C_NoGain C_NoText C_NoLine C_NoName C_NoDeed C_RestError:Addr} {t_SHORT:Tok} {t_HIGHEST:Tok} {A_ONE:Addr} {td_ONE:Option Addr} {ts_ONE:Array (Option Value)} {tn_ONE:Nat} {tt0_ONE tt1_ONE:Tok} {A_NOUGHT:Addr} {td_NOUGHT:Option Addr} {ts_NOUGHT:Array (Option Value)} {tn_NOUGHT:Nat} {tt0_NOUGHT tt1_NOUGHT:Tok}
  (X:K.In h) (G:h.Ns mainGlobals mg) (hfa:mg "law" = some (.ref fa))
  (g_common_divisor:Gd K "common_divisor" M9 f_common_divisor)
  (g_plus:Gd K "plus" aD3 f_plus)
  (g_less:Gd K "less" aD5 f_less)
  (g_times:Gd K "times" aq9 f_times)
  (g_fraction:Gd K "fraction" ac8 f_fraction)
  (g_over:Gd K "over" aD4 f_over)
  (g_cleared:Gd K "cleared" ab5 f_cleared)
  (g_turned:Gd K "turned" ae7 f_turned)
  (g__law_low:Gd K "_law_low" ad0 f__law_low)
  (g__law_urn:Gd K "_law_urn" ac9 f__law_urn)
  (g__law_draw:Gd K "_law_draw" Z5 f__law_draw)
  (g__law_kind:Gd K "_law_kind" Z4 f__law_kind)
  (g__law_number:Gd K "_law_number" U3 f__law_number)
  (g__law_whole:Gd K "_law_whole" W7 f__law_whole)
  (g__law_is_number:Gd K "_law_is_number" N0 f__law_is_number)
  (g__law_other:Gd K "_law_other" X0 f__law_other)
  (g__law_trim:Gd K "_law_trim" V1 f__law_trim)
  (g__law_drawn_poly:Gd K "_law_drawn_poly" F1 f__law_drawn_poly)
  (g__law_is_poly:Gd K "_law_is_poly" K6 f__law_is_poly)
  (g__law_plus:Gd K "_law_plus" Z1 f__law_plus)
  (g__law_times:Gd K "_law_times" W9 f__law_times)
  (g_rows_times:Gd K "rows_times" P7 f_rows_times)
  (g_with_unit:Gd K "with_unit" V0 f_with_unit)
  (g_whole_rows:Gd K "whole_rows" M6 f_whole_rows)
  (g__law_poly_times:Gd K "_law_poly_times" K2 f__law_poly_times)
  (g__law_worth:Gd K "_law_worth" W6 f__law_worth)
  (g__law_less:Gd K "_law_less" Z3 f__law_less)
  (g__law_over:Gd K "_law_over" Z2 f__law_over)
  (g__law_companion:Gd K "_law_companion" C7 f__law_companion)
  (g__law_likened:Gd K "_law_likened" t6 f__law_likened)
  (g_table_poly:Gd K "table_poly" M7 f_table_poly)
  (g_poly_table:Gd K "poly_table" M8 f_poly_table)
  (g__law_det:Gd K "_law_det" P1 f__law_det)
  (g__law_copied:Gd K "_law_copied" O1 f__law_copied)
  (g__law_above:Gd K "_law_above" X1 f__law_above)
  (g__law_sign:Gd K "_law_sign" Z0 f__law_sign)
  (g__law_factor:Gd K "_law_factor" U4 f__law_factor)
  (g__law_rooted:Gd K "_law_rooted" O0 f__law_rooted)
  (g__law_machine:Gd K "_law_machine" K5 f__law_machine)
  (g__law_lessened:Gd K "_law_lessened" J3 f__law_lessened)
  (g__law_poly_right:Gd K "_law_poly_right" B7 f__law_poly_right)
  (g__law_which:Gd K "_law_which" W8 f__law_which)
  (g__law_poly_often:Gd K "_law_poly_often" E9 f__law_poly_often)
  (g__law_is_table:Gd K "_law_is_table" J4 f__law_is_table)
  (g__law_table_asked:Gd K "_law_table_asked" G7 f__law_table_asked)
  (g__law_table_right:Gd K "_law_table_right" G6 f__law_table_right)
  (g_law:Gd K "law" ay8 f_law)
  (z_ValueError:z0u K mainGlobals "ValueError" = some none)
  (z_abs:z0u K mainGlobals "abs" = some none)
  (z_all:z0u K mainGlobals "all" = some none)
  (z_bool:z0u K mainGlobals "bool" = some none)
  (z_enumerate:z0u K mainGlobals "enumerate" = some none)
  (z_int:z0u K mainGlobals "int" = some none)
  (z_isinstance:z0u K mainGlobals "isinstance" = some none)
  (z_len:z0u K mainGlobals "len" = some none)
  (z_list:z0u K mainGlobals "list" = some none)
  (z_max:z0u K mainGlobals "max" = some none)
  (z_range:z0u K mainGlobals "range" = some none)
  (z_reversed:z0u K mainGlobals "reversed" = some none)
  (z_sum:z0u K mainGlobals "sum" = some none)
  (z_tuple:z0u K mainGlobals "tuple" = some none)
  (z_zip:z0u K mainGlobals "zip" = some none)
  (y_SHORT:z0u K mainGlobals "SHORT" = some (some (.int 6000 t_SHORT)))
  (y_HIGHEST:z0u K mainGlobals "HIGHEST" = some (some (.int 4 t_HIGHEST)))
  (y_ONE:z0u K mainGlobals "ONE" = some (some (.ref A_ONE)))
  (u_ONE:K.lookup A_ONE=some ⟨.type "tuple",td_ONE,.seq #[.int 1 tt0_ONE,.int 1 tt1_ONE] tn_ONE,ts_ONE⟩)
  (y_NOUGHT:z0u K mainGlobals "NOUGHT" = some (some (.ref A_NOUGHT)))
  (u_NOUGHT:K.lookup A_NOUGHT=some ⟨.type "tuple",td_NOUGHT,.seq #[.int 0 tt0_NOUGHT,.int 1 tt1_NOUGHT] tn_NOUGHT,ts_NOUGHT⟩)
  (h_NoFraction:Gx K "NoFraction" C_NoFraction)
  (h_NoPolynomial:Gx K "NoPolynomial" C_NoPolynomial)
  (h_NoStretch:Gx K "NoStretch" C_NoStretch)
  (h_NoRow:Gx K "NoRow" C_NoRow)
  (h_NoPair:Gx K "NoPair" C_NoPair)
  (h_NoBack:Gx K "NoBack" C_NoBack)
  (h_NoForm:Gx K "NoForm" C_NoForm)
  (h_NoParts:Gx K "NoParts" C_NoParts)
  (h_NoDegree:Gx K "NoDegree" C_NoDegree)
  (h_NoSteps:Gx K "NoSteps" C_NoSteps)
  (h_NoBox:Gx K "NoBox" C_NoBox)
  (h_NoGain:Gx K "NoGain" C_NoGain)
  (h_NoText:Gx K "NoText" C_NoText)
  (h_NoLine:Gx K "NoLine" C_NoLine)
  (h_NoName:Gx K "NoName" C_NoName)
  (h_NoDeed:Gx K "NoDeed" C_NoDeed)
  (h_RestError:Gx K "RestError" C_RestError)
  (kt_NoPolynomial:bn9 K (⟨C_NoFraction,C_NoPolynomial,C_NoStretch,C_NoRow,C_NoPair,C_NoBack,C_NoForm,C_NoParts,C_NoDegree,C_NoSteps,C_NoBox,C_NoGain,C_NoText,C_NoLine,C_NoName,C_NoDeed,C_RestError⟩:CAd) C_NoPolynomial 1) :
  ∃ fd:FuncData,(∀ (s:Shared) (v:Value),BindsTo s fd ⟨[v],[]⟩ [("_law_script",v)])/\∀ base:Heap,K.In base->base.Ns mainGlobals mg->am6 l.prog w K mg base CX0 9 fa fd ["_law_script"] (aP0 K):=by
 have e:=hfa.symm.trans (y0u X G g_law.a)
 cases e
 obtain ⟨_,F_law⟩:=g_law.F;obtain ⟨oc,od,kV,doc,pm,an,cdv,ct,osl,rfl,_,_⟩:=F_law.ex;have d_common_divisor:Df K mg "common_divisor" M9 ["one","other"] f_common_divisor:=g_common_divisor.df X G λ_ _ _ _ _ _ us hl=>by obtain ⟨_,_,rfl⟩:=G4 hl;rfl
 have d_plus:Df K mg "plus" aD3 ["one","other"] f_plus:=g_plus.df X G λ_ _ _ _ _ _ us hl=>by obtain ⟨_,_,rfl⟩:=G4 hl;rfl
 have d_less:Df K mg "less" aD5 ["one","other"] f_less:=g_less.df X G λ_ _ _ _ _ _ us hl=>by obtain ⟨_,_,rfl⟩:=G4 hl;rfl
 have d_times:Df K mg "times" aq9 ["one","other"] f_times:=g_times.df X G λ_ _ _ _ _ _ us hl=>by obtain ⟨_,_,rfl⟩:=G4 hl;rfl
 have d_fraction:Df K mg "fraction" ac8 ["top","bottom"] f_fraction:=g_fraction.df X G λ_ _ _ _ _ _ us hl=>by obtain ⟨_,_,rfl⟩:=G4 hl;rfl
 have d_over:Df K mg "over" aD4 ["one","other"] f_over:=g_over.df X G λ_ _ _ _ _ _ us hl=>by obtain ⟨_,_,rfl⟩:=G4 hl;rfl
 have d_cleared:Df K mg "cleared" ab5 ["numbers"] f_cleared:=g_cleared.df X G λ_ _ _ _ _ _ us hl=>by obtain ⟨_,rfl⟩:=Q5 hl;rfl
 have d_turned:Df K mg "turned" ae7 ["table"] f_turned:=g_turned.df X G λ_ _ _ _ _ _ us hl=>by obtain ⟨_,rfl⟩:=Q5 hl;rfl
 have d__law_low:Df K mg "_law_low" ad0 ["_law_top","_law_bottom"] f__law_low:=g__law_low.df X G λ_ _ _ _ _ _ us hl=>by obtain ⟨_,_,rfl⟩:=G4 hl;rfl
 have d__law_urn:Df K mg "_law_urn" ac9 ["_law_script","_law_at"] f__law_urn:=g__law_urn.df X G λ_ _ _ _ _ _ us hl=>by obtain ⟨_,_,rfl⟩:=G4 hl;rfl
 have d__law_draw:Df K mg "_law_draw" Z5 ["_law_urn_here","_law_many"] f__law_draw:=g__law_draw.df X G λ_ _ _ _ _ _ us hl=>by obtain ⟨_,_,rfl⟩:=G4 hl;rfl
 have d__law_kind:Df K mg "_law_kind" Z4 ["_law_urn_here"] f__law_kind:=g__law_kind.df X G λ_ _ _ _ _ _ us hl=>by obtain ⟨_,rfl⟩:=Q5 hl;rfl
 have d__law_number:Df K mg "_law_number" U3 ["_law_urn_here","_law_kind_here"] f__law_number:=g__law_number.df X G λ_ _ _ _ _ _ us hl=>by obtain ⟨_,_,rfl⟩:=G4 hl;rfl
 have d__law_whole:Df K mg "_law_whole" W7 ["_law_thing"] f__law_whole:=g__law_whole.df X G λ_ _ _ _ _ _ us hl=>by obtain ⟨_,rfl⟩:=Q5 hl;rfl
 have d__law_is_number:Df K mg "_law_is_number" N0 ["_law_thing"] f__law_is_number:=g__law_is_number.df X G λ_ _ _ _ _ _ us hl=>by obtain ⟨_,rfl⟩:=Q5 hl;rfl
 have d__law_other:Df K mg "_law_other" X0 ["_law_urn_here","_law_kind_here"] f__law_other:=g__law_other.df X G λ_ _ _ _ _ _ us hl=>by obtain ⟨_,_,rfl⟩:=G4 hl;rfl
 have d__law_trim:Df K mg "_law_trim" V1 ["_law_numbers"] f__law_trim:=g__law_trim.df X G λ_ _ _ _ _ _ us hl=>by obtain ⟨_,rfl⟩:=Q5 hl;rfl
 have d__law_drawn_poly:Df K mg "_law_drawn_poly" F1 ["_law_urn_here","_law_kind_here","_law_most"] f__law_drawn_poly:=g__law_drawn_poly.df X G λ_ _ _ _ _ _ us hl=>by obtain ⟨_,_,_,rfl⟩:=aZ2 hl;rfl
 have d__law_is_poly:Df K mg "_law_is_poly" K6 ["_law_thing"] f__law_is_poly:=g__law_is_poly.df X G λ_ _ _ _ _ _ us hl=>by obtain ⟨_,rfl⟩:=Q5 hl;rfl
 have d__law_plus:Df K mg "_law_plus" Z1 ["_law_one","_law_other_here"] f__law_plus:=g__law_plus.df X G λ_ _ _ _ _ _ us hl=>by obtain ⟨_,_,rfl⟩:=G4 hl;rfl
 have d__law_times:Df K mg "_law_times" W9 ["_law_one","_law_other_here"] f__law_times:=g__law_times.df X G λ_ _ _ _ _ _ us hl=>by obtain ⟨_,_,rfl⟩:=G4 hl;rfl
 have d_rows_times:Df K mg "rows_times" P7 ["one","other"] f_rows_times:=g_rows_times.df X G λ_ _ _ _ _ _ us hl=>by obtain ⟨_,_,rfl⟩:=G4 hl;rfl
 have d_with_unit:Df K mg "with_unit" V0 ["rows","whole"] f_with_unit:=g_with_unit.df X G λ_ _ _ _ _ _ us hl=>by obtain ⟨_,_,rfl⟩:=G4 hl;rfl
 have d_whole_rows:Df K mg "whole_rows" M6 ["table"] f_whole_rows:=g_whole_rows.df X G λ_ _ _ _ _ _ us hl=>by obtain ⟨_,rfl⟩:=Q5 hl;rfl
 have d__law_poly_times:Df K mg "_law_poly_times" K2 ["_law_p","_law_q"] f__law_poly_times:=g__law_poly_times.df X G λ_ _ _ _ _ _ us hl=>by obtain ⟨_,_,rfl⟩:=G4 hl;rfl
 have d__law_worth:Df K mg "_law_worth" W6 ["_law_p","_law_x"] f__law_worth:=g__law_worth.df X G λ_ _ _ _ _ _ us hl=>by obtain ⟨_,_,rfl⟩:=G4 hl;rfl
 have d__law_less:Df K mg "_law_less" Z3 ["_law_one","_law_other_here"] f__law_less:=g__law_less.df X G λ_ _ _ _ _ _ us hl=>by obtain ⟨_,_,rfl⟩:=G4 hl;rfl
 have d__law_over:Df K mg "_law_over" Z2 ["_law_one","_law_other_here"] f__law_over:=g__law_over.df X G λ_ _ _ _ _ _ us hl=>by obtain ⟨_,_,rfl⟩:=G4 hl;rfl
 have d__law_companion:Df K mg "_law_companion" C7 ["_law_p"] f__law_companion:=g__law_companion.df X G λ_ _ _ _ _ _ us hl=>by obtain ⟨_,rfl⟩:=Q5 hl;rfl
 have d__law_likened:Df K mg "_law_likened" t6 ["_law_urn_here","_law_kind_here","_law_table","_law_most"] f__law_likened:=g__law_likened.df X G λ_ _ _ _ _ _ us hl=>by obtain ⟨_,_,_,_,rfl⟩:=bo8 hl;rfl
 have d_table_poly:Df K mg "table_poly" M7 ["table"] f_table_poly:=g_table_poly.df X G λ_ _ _ _ _ _ us hl=>by obtain ⟨_,rfl⟩:=Q5 hl;rfl
 have d_poly_table:Df K mg "poly_table" M8 ["p"] f_poly_table:=g_poly_table.df X G λ_ _ _ _ _ _ us hl=>by obtain ⟨_,rfl⟩:=Q5 hl;rfl
 have d__law_det:Df K mg "_law_det" P1 ["_law_table"] f__law_det:=g__law_det.df X G λ_ _ _ _ _ _ us hl=>by obtain ⟨_,rfl⟩:=Q5 hl;rfl
 have d__law_copied:Df K mg "_law_copied" O1 ["_law_table"] f__law_copied:=g__law_copied.df X G λ_ _ _ _ _ _ us hl=>by obtain ⟨_,rfl⟩:=Q5 hl;rfl
 have d__law_above:Df K mg "_law_above" X1 ["_law_urn_here","_law_kind_here"] f__law_above:=g__law_above.df X G λ_ _ _ _ _ _ us hl=>by obtain ⟨_,_,rfl⟩:=G4 hl;rfl
 have d__law_sign:Df K mg "_law_sign" Z0 ["_law_number_here"] f__law_sign:=g__law_sign.df X G λ_ _ _ _ _ _ us hl=>by obtain ⟨_,rfl⟩:=Q5 hl;rfl
 have d__law_factor:Df K mg "_law_factor" U4 ["_law_urn_here","_law_kind_here"] f__law_factor:=g__law_factor.df X G λ_ _ _ _ _ _ us hl=>by obtain ⟨_,_,rfl⟩:=G4 hl;rfl
 have d__law_rooted:Df K mg "_law_rooted" O0 ["_law_urn_here","_law_kind_here","_law_most"] f__law_rooted:=g__law_rooted.df X G λ_ _ _ _ _ _ us hl=>by obtain ⟨_,_,_,rfl⟩:=aZ2 hl;rfl
 have d__law_machine:Df K mg "_law_machine" K5 ["_law_urn_here"] f__law_machine:=g__law_machine.df X G λ_ _ _ _ _ _ us hl=>by obtain ⟨_,rfl⟩:=Q5 hl;rfl
 have d__law_lessened:Df K mg "_law_lessened" J3 ["_law_table","_law_x"] f__law_lessened:=g__law_lessened.df X G λ_ _ _ _ _ _ us hl=>by obtain ⟨_,_,rfl⟩:=G4 hl;rfl
 have d__law_poly_right:Df K mg "_law_poly_right" B7 ["_law_urn_here","_law_table"] f__law_poly_right:=g__law_poly_right.df X G λ_ _ _ _ _ _ us hl=>by obtain ⟨_,_,rfl⟩:=G4 hl;rfl
 have d__law_which:Df K mg "_law_which" W8 ["_law_e"] f__law_which:=g__law_which.df X G λ_ _ _ _ _ _ us hl=>by obtain ⟨_,rfl⟩:=Q5 hl;rfl
 have d__law_poly_often:Df K mg "_law_poly_often" E9 ["_law_number_here","_law_p"] f__law_poly_often:=g__law_poly_often.df X G λ_ _ _ _ _ _ us hl=>by obtain ⟨_,_,rfl⟩:=G4 hl;rfl
 have d__law_is_table:Df K mg "_law_is_table" J4 ["_law_thing","_law_n"] f__law_is_table:=g__law_is_table.df X G λ_ _ _ _ _ _ us hl=>by obtain ⟨_,_,rfl⟩:=G4 hl;rfl
 have d__law_table_asked:Df K mg "_law_table_asked" G7 ["_law_p"] f__law_table_asked:=g__law_table_asked.df X G λ_ _ _ _ _ _ us hl=>by obtain ⟨_,rfl⟩:=Q5 hl;rfl
 have d__law_table_right:Df K mg "_law_table_right" G6 ["_law_p"] f__law_table_right:=g__law_table_right.df X G λ_ _ _ _ _ _ us hl=>by obtain ⟨_,rfl⟩:=Q5 hl;rfl
 have n_ValueError:=z0k X G z_ValueError;have n_abs:=z0k X G z_abs;have n_all:=z0k X G z_all;have n_bool:=z0k X G z_bool;have n_enumerate:=z0k X G z_enumerate;have n_int:=z0k X G z_int;have n_isinstance:=z0k X G z_isinstance;have n_len:=z0k X G z_len;have n_list:=z0k X G z_list;have n_max:=z0k X G z_max;have n_range:=z0k X G z_range;have n_reversed:=z0k X G z_reversed;have n_sum:=z0k X G z_sum;have n_tuple:=z0k X G z_tuple;have n_zip:=z0k X G z_zip;have c_SHORT:=y0u X G y_SHORT;have c_HIGHEST:=y0u X G y_HIGHEST;have c_ONE:=y0u X G y_ONE;have t_ONE:∀ H:Hp,SqT K H A_ONE [.int 1,.int 1]:=λH=>.inr ⟨_,_,_,u_ONE,rfl,rfl,(show 2<=sizeLine by decide),(.cons ⟨_,rfl⟩ (.cons ⟨_,rfl⟩ .nil))⟩
 have c_NOUGHT:=y0u X G y_NOUGHT;have t_NOUGHT:∀ H:Hp,SqT K H A_NOUGHT [.int 0,.int 1]:=λH=>.inr ⟨_,_,_,u_NOUGHT,rfl,rfl,(show 2<=sizeLine by decide),(.cons ⟨_,rfl⟩ (.cons ⟨_,rfl⟩ .nil))⟩
 have X_NoFraction:=h_NoFraction.t X G;have X_NoPolynomial:=h_NoPolynomial.t X G;have X_NoStretch:=h_NoStretch.t X G;have X_NoRow:=h_NoRow.t X G;have X_NoPair:=h_NoPair.t X G;have X_NoBack:=h_NoBack.t X G;have X_NoForm:=h_NoForm.t X G;have X_NoParts:=h_NoParts.t X G;have X_NoDegree:=h_NoDegree.t X G;have X_NoSteps:=h_NoSteps.t X G;have X_NoBox:=h_NoBox.t X G;have X_NoGain:=h_NoGain.t X G;have X_NoText:=h_NoText.t X G;have X_NoLine:=h_NoLine.t X G;have X_NoName:=h_NoName.t X G;have X_NoDeed:=h_NoDeed.t X G;have X_RestError:=h_RestError.t X G;have XX:XTx K mg (⟨C_NoFraction,C_NoPolynomial,C_NoStretch,C_NoRow,C_NoPair,C_NoBack,C_NoForm,C_NoParts,C_NoDegree,C_NoSteps,C_NoBox,C_NoGain,C_NoText,C_NoLine,C_NoName,C_NoDeed,C_RestError⟩:CAd):=⟨X_NoFraction,X_NoPolynomial,X_NoStretch,X_NoRow,X_NoPair,X_NoBack,X_NoForm,X_NoParts,X_NoDegree,X_NoSteps,X_NoBox,X_NoGain,X_NoText,X_NoLine,X_NoName,X_NoDeed⟩;refine ⟨y0x "law" "law" (ah0 ay8) (Q7 ay8) (c6 ay8) .none kV doc pm an cdv ct,λs v=>.of_eq rfl,λbase _ _=>?_⟩
 have G_common_divisor:=al5 (P:=l.prog) (w:=w) (base:=base) d_common_divisor ⟨_,c_SHORT⟩ n_abs;have G_plus:=be3 (P:=l.prog) (w:=w) (base:=base) d_plus G_common_divisor;have G_less:=be5 (P:=l.prog) (w:=w) (base:=base) d_less G_plus;have G_times:=aY0 (P:=l.prog) (w:=w) (base:=base) d_times G_common_divisor;have G_fraction:=aH9 (P:=l.prog) (w:=w) (base:=base) d_fraction G_common_divisor;have G_over:=be4 (P:=l.prog) (w:=w) (base:=base) d_over G_times;have G_cleared:=aM4 (P:=l.prog) (w:=w) (base:=base) d_cleared G_common_divisor;have G__law_low:=aI1 (P:=l.prog) (w:=w) (base:=base) d__law_low n_abs;have G__law_urn:=aI0 (P:=l.prog) (w:=w) (base:=base) d__law_urn n_len n_abs;have G__law_draw:=aF1 (P:=l.prog) (w:=w) (base:=base) d__law_draw;have G__law_kind:=aF0 (P:=l.prog) (w:=w) (base:=base) d__law_kind G__law_draw;have G__law_whole:=aw9 (P:=l.prog) (w:=w) (base:=base) d__law_whole n_isinstance n_int n_bool;have G__law_is_number:=al6 (P:=l.prog) (w:=w) (base:=base) d__law_is_number G__law_whole G__law_low n_isinstance n_tuple n_len;have G__law_trim:=aE5 (P:=l.prog) (w:=w) (base:=base) d__law_trim n_list;have G__law_plus:=aE7 (P:=l.prog) (w:=w) (base:=base) d__law_plus G__law_low;have G__law_times:=ax1 (P:=l.prog) (w:=w) (base:=base) d__law_times G__law_low;have GD_turned:=aM5 (P:=l.prog) (w:=w) (base:=base) d_turned n_range n_len;have G_rows_times:=aw7 (P:=l.prog) (w:=w) (base:=base) d_rows_times GD_turned n_zip n_sum;have G_with_unit:=aE4 (P:=l.prog) (w:=w) (base:=base) d_with_unit n_enumerate;have G_whole_rows:=aw5 (P:=l.prog) (w:=w) (base:=base) d_whole_rows G_cleared n_range n_len;have G__law_poly_times:=aj1 (P:=l.prog) (w:=w) (base:=base) d__law_poly_times G__law_plus G__law_times G__law_trim n_len n_enumerate;have GD__law_trim:=ax2 (P:=l.prog) (w:=w) (base:=base) d__law_trim n_list;have GD__law_is_poly:=an6 (P:=l.prog) (w:=w) (base:=base) d__law_is_poly G__law_is_number GD__law_trim n_isinstance n_list n_all;have GD__law_worth:=at8 (P:=l.prog) (w:=w) (base:=base) d__law_worth G__law_plus G__law_times n_reversed;have G__law_less:=aE9 (P:=l.prog) (w:=w) (base:=base) d__law_less G__law_low;have G__law_over:=aE8 (P:=l.prog) (w:=w) (base:=base) d__law_over G__law_low;have G__law_companion:=al7 (P:=l.prog) (w:=w) (base:=base) d__law_companion G__law_over n_len n_range n_int;have GD__law_number:=aq6 (P:=l.prog) (w:=w) (base:=base) d__law_number G__law_draw G__law_low n_int;have GD__law_other:=at9 (P:=l.prog) (w:=w) (base:=base) d__law_other G__law_draw GD__law_number;have GD__law_drawn_poly:=ah7 (P:=l.prog) (w:=w) (base:=base) d__law_drawn_poly G__law_draw GD__law_number GD__law_other n_range;have G__law_likened:=aq5 (P:=l.prog) (w:=w) (base:=base) d__law_likened G__law_draw GD__law_other G__law_plus G__law_times G__law_less G__law_over n_len n_range n_list n_max n_zip n_int;have G_table_poly:=aw6 (P:=l.prog) (w:=w) (base:=base) d_table_poly G_whole_rows G_with_unit G_rows_times G_fraction c_ONE t_ONE n_len n_range n_sum n_enumerate;have G_poly_table:=aw8 (P:=l.prog) (w:=w) (base:=base) d_poly_table G_over G_less ⟨_,c_HIGHEST⟩ X_NoPolynomial n_len n_range c_ONE t_ONE c_NOUGHT t_NOUGHT
 have G__law_det:=aI2 (P:=l.prog) (w:=w) (base:=base) d__law_det G__law_times G__law_less G__law_over n_len n_range n_list n_zip;have G__law_copied:=at7 (P:=l.prog) (w:=w) (base:=base) d__law_copied n_list;have GD__law_above:=au0 (P:=l.prog) (w:=w) (base:=base) d__law_above GD__law_other n_abs;have G__law_sign:=aE6 (P:=l.prog) (w:=w) (base:=base) d__law_sign n_int;have G__law_factor:=at6 (P:=l.prog) (w:=w) (base:=base) d__law_factor G__law_draw G__law_times G__law_plus GD__law_number GD__law_above G__law_sign n_int;have G__law_rooted:=at5 (P:=l.prog) (w:=w) (base:=base) d__law_rooted G__law_draw GD__law_other G__law_factor G__law_poly_times n_range n_len n_tuple n_zip;have G__law_machine:=aq4 (P:=l.prog) (w:=w) (base:=base) d__law_machine G__law_draw G__law_kind G__law_rooted GD__law_number G__law_likened G__law_companion n_len n_range;have G__law_lessened:=an4 (P:=l.prog) (w:=w) (base:=base) d__law_lessened G__law_less G__law_times n_enumerate n_int;have G__law_poly_right:=aj2 (P:=l.prog) (w:=w) (base:=base) d__law_poly_right G__law_copied G_table_poly GD__law_is_poly GD__law_number GD__law_worth G__law_det G__law_lessened n_len n_list n_range n_all;have G__law_which:=ax0 (P:=l.prog) (w:=w) (base:=base) d__law_which XX n_isinstance n_ValueError;have GD__law_poly_often:=ah6 (P:=l.prog) (w:=w) (base:=base) d__law_poly_often G__law_times G__law_trim;have G__law_is_table:=an5 (P:=l.prog) (w:=w) (base:=base) d__law_is_table G__law_is_number n_isinstance n_list n_len n_all;have G__law_table_asked:=ah5 (P:=l.prog) (w:=w) (base:=base) d__law_table_asked G_poly_table G__law_which X_RestError kt_NoPolynomial;have G__law_table_right:=ah4 (P:=l.prog) (w:=w) (base:=base) d__law_table_right G__law_table_asked G__law_companion G__law_is_table G_table_poly GD__law_poly_often G__law_over n_len n_list;exact bk7 (P:=l.prog) (w:=w) (base:=base) F_law G__law_urn G__law_draw G__law_kind GD__law_drawn_poly G__law_machine G__law_poly_right G__law_table_right n_range
end
theorem br2 {l:m0a} {q:Program} {loose:List Str} {XP:(Str->Option Value)->Heap->Prop} {YP:World->Heap->Prop} {d:DefRec} {K:Params->q0a} (hn:l.most=some 63) (hdf:d.params.defaults=[])
  (hY:∀ (w:World) (h:Heap),YP w h->(K w.params).In h)
  (F:∀ (w:World) (mg:Str->Option Value) (fa:Addr) (h:Heap),(K w.params).In h->h.Ns mainGlobals mg->mg d.name=some (.ref fa) ->
   ∃ fd:FuncData,(∀ (s:Shared) (u:Value),BindsTo s fd ⟨[u],[]⟩ [("_law_script",u)])/\∀ base:Heap,(K w.params).In base->base.Ns mainGlobals mg->am6 l.prog w (K w.params) mg base CX0 9 fa fd ["_law_script"] (aP0 (K w.params))) :
  PySem.W.WalkO q loose XP YP l.row.toRowW d [] (λf vs=>PySem.call f vs) :=
 L2.aO3 (n:=63) (k:=9) (x := "_law_script") (CX:=λ_=>CX0) (sp:=λw=>aP0 (K w.params)) hn (by decide) hdf ⟨rfl,by decide,by decide⟩ hY F (λ_ _ a ns hl _ hS=>⟨a,ns,rfl,hS,hl,λ_=>rfl⟩) λ_ _ _ _ _ z=>z
end R
local macro_rules | `(tactic|left) => `(tactic|exact ⟨by k_is, _, L2.bm0 (by k_is) (by k_is) (by k_is)⟩)
local macro_rules | `(tactic|right) => `(tactic|exact ⟨by k_is, by k_exc, by (refine ⟨?_, ?_, ?_, ?_, ?_, ?_⟩ <;> first | k_is | kernel_rfl)⟩)
open PySem PySem.W PyProof.Rows
set_option maxRecDepth 100000 in
theorem PySem.Challenge.cw_restward_k34_tables_and_polynomials_holds : PySem.Challenge.rw_restward_k34_tables_and_polynomials.Holds := by
  w_on;o_law;k_head;(case hw=>w_witness2)
  k_fill
  refine R.br2 (l:=PySem.Challenge.rw_restward_k34_tables_and_polynomials) rfl rfl (λw h Y=>PySem.W.kIn_of Y) ?F
  case F =>
    intro w mg fa h KX G hmg
    refine' R.bm9 KX G hmg ?g_common_divisor ?g_plus ?g_less ?g_times ?g_fraction ?g_over ?g_cleared ?g_turned ?g__law_low ?g__law_urn ?g__law_draw ?g__law_kind ?g__law_number ?g__law_whole ?g__law_is_number ?g__law_other ?g__law_trim ?g__law_drawn_poly ?g__law_is_poly ?g__law_plus ?g__law_times ?g_rows_times ?g_with_unit ?g_whole_rows ?g__law_poly_times ?g__law_worth ?g__law_less ?g__law_over ?g__law_companion ?g__law_likened ?g_table_poly ?g_poly_table ?g__law_det ?g__law_copied ?g__law_above ?g__law_sign ?g__law_factor ?g__law_rooted ?g__law_machine ?g__law_lessened ?g__law_poly_right ?g__law_which ?g__law_poly_often ?g__law_is_table ?g__law_table_asked ?g__law_table_right ?g_law ?z_ValueError ?z_abs ?z_all ?z_bool ?z_enumerate ?z_int ?z_isinstance ?z_len ?z_list ?z_max ?z_range ?z_reversed ?z_sum ?z_tuple ?z_zip ?y_SHORT ?y_HIGHEST ?y_ONE ?u_ONE ?y_NOUGHT ?u_NOUGHT ?h_NoFraction ?h_NoPolynomial ?h_NoStretch ?h_NoRow ?h_NoPair ?h_NoBack ?h_NoForm ?h_NoParts ?h_NoDegree ?h_NoSteps ?h_NoBox ?h_NoGain ?h_NoText ?h_NoLine ?h_NoName ?h_NoDeed ?h_RestError ?kt_NoPolynomial
    (case g_common_divisor=>left)
    (case g_plus=>left)
    (case g_less=>left)
    (case g_times=>left)
    (case g_fraction=>left)
    (case g_over=>left)
    (case g_cleared=>left)
    (case g_turned=>left)
    (case g__law_low=>left)
    (case g__law_urn=>left)
    (case g__law_draw=>left)
    (case g__law_kind=>left)
    (case g__law_number=>left)
    (case g__law_whole=>left)
    (case g__law_is_number=>left)
    (case g__law_other=>left)
    (case g__law_trim=>left)
    (case g__law_drawn_poly=>left)
    (case g__law_is_poly=>left)
    (case g__law_plus=>left)
    (case g__law_times=>left)
    (case g_rows_times=>left)
    (case g_with_unit=>left)
    (case g_whole_rows=>left)
    (case g__law_poly_times=>left)
    (case g__law_worth=>left)
    (case g__law_less=>left)
    (case g__law_over=>left)
    (case g__law_companion=>left)
    (case g__law_likened=>left)
    (case g_table_poly=>left)
    (case g_poly_table=>left)
    (case g__law_det=>left)
    (case g__law_copied=>left)
    (case g__law_above=>left)
    (case g__law_sign=>left)
    (case g__law_factor=>left)
    (case g__law_rooted=>left)
    (case g__law_machine=>left)
    (case g__law_lessened=>left)
    (case g__law_poly_right=>left)
    (case g__law_which=>left)
    (case g__law_poly_often=>left)
    (case g__law_is_table=>left)
    (case g__law_table_asked=>left)
    (case g__law_table_right=>left)
    (case g_law=>left)
    (case z_ValueError=>k_is)
    (case z_abs=>k_is)
    (case z_all=>k_is)
    (case z_bool=>k_is)
    (case z_enumerate=>k_is)
    (case z_int=>k_is)
    (case z_isinstance=>k_is)
    (case z_len=>k_is)
    (case z_list=>k_is)
    (case z_max=>k_is)
    (case z_range=>k_is)
    (case z_reversed=>k_is)
    (case z_sum=>k_is)
    (case z_tuple=>k_is)
    (case z_zip=>k_is)
    (case y_SHORT=>k_is)
    (case y_HIGHEST=>k_is)
    (case y_ONE=>k_is);(case u_ONE=>k_is)
    (case y_NOUGHT=>k_is);(case u_NOUGHT=>k_is)
    (case h_NoFraction=>right)
    (case h_NoPolynomial=>right)
    (case h_NoStretch=>right)
    (case h_NoRow=>right)
    (case h_NoPair=>right)
    (case h_NoBack=>right)
    (case h_NoForm=>right)
    (case h_NoParts=>right)
    (case h_NoDegree=>right)
    (case h_NoSteps=>right)
    (case h_NoBox=>right)
    (case h_NoGain=>right)
    (case h_NoText=>right)
    (case h_NoLine=>right)
    (case h_NoName=>right)
    (case h_NoDeed=>right)
    (case h_RestError=>right)
    (case kt_NoPolynomial=>(refine ⟨?_,?_,?_,?_,?_,?_,?_,?_,?_,?_,?_,?_,?_,?_,?_,?_,?_,?_,?_⟩ <;> first | kernel_rfl | (refine ⟨?_,?_,?_,?_,?_,?_⟩ <;> first | k_is | kernel_rfl)))
