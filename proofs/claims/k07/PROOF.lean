import PyProof.Rows.All
import Wide.All
import OpenK.AllK
import Wide.FinOn
import PyProof.EqAt
import PyProof.EqKinds
import PyProof.TupleCall
import KE.KTryMore
import KE.KIsNot
import PyProof.MeetsStr
import PyProof.Rows.RuleM_int
import PyProof.CompFree
import PyProof.WalksEnum
import PyProof.EnumMake
import PyProof.NeKinds
import PyProof.ConsumeWalk
import PyProof.CompMap
import PyProof.Rows.EqBoolInt
import KE.IntBitsLaws
import PyProof.ZipIter
import PyProof.Rows.ZipGen
import PyProof.MinMaxWalk
import PyProof.WalkInts
import PyProof.Rows.CallKwBuiltin
import PyProof.CompUse
import KE.KRevIter
import PyProof.Rows.Range3
import PyProof.NsDelKeeps
import PyProof.SumAny
import PyProof.TupleIter
import PyProof.WalksMore
import PyProof.ListRange
import PyProof.CollectStr
import PyProof.TupleOfStr
import PySem.Challenge.RW_restward_k07_parts_of_any
open PySem.W renaming Frag→q0a,kitOne→z0e,mg_none_of→z0q,nsIn→j0a,kia_one→j0k,keepIn→y0e,fnOf→y0s,mg_of→v0p,findIn→u0d,methodObj→g0k,instObj→m0b,OpenLaw→m0e,cellsFrom_some→m0j,lookIn→m0k,codeIn→m0m
open Nat renaming lt_of_lt_of_le→q0b,lt_of_le_of_lt→q0e,le_refl→q0t,mul_le_mul_right→z0b,le_trans→z0f,ne_of_lt→z0g,mul_le_mul_left→z0j,zero_le→z0m,add_sub_cancel→z0u,lt_or_ge→z0z,mul_le_mul→j0c,mul_lt_mul''→j0g,le_mul_of_pos_left→j0p,mul_pos→j0q,pow_add→j0v,lt_irrefl→j0w,le_of_lt→y0c,eq_zero_or_pos→y0j,two_pow_pos→y0k,le_of_dvd→y0p,eq_of_mul_eq_mul_left→y0q,dvd_zero→y0u,zero_add→y0v,le_mul_of_pos_right→y0z,mul_assoc→v0a,eq_or_lt_of_le→v0d,Coprime→v0e,mul_add→v0g,pow_succ→v0k,lt_succ_self→v0m,pow_le_pow_right→v0n,le_succ→v0r,one_mul→v0s,dvd_one→v0t,strongRecOn→v0z,one_lt_two_pow→u0c,mul_one→u0h,add_mul→u0j,le_add_right→u0n,lcm→u0s,mul_comm→u0x,pow_le_pow_left→g0d,dvd_trans→g0j,lt_succ_of_lt→g0m,lt_trichotomy→g0p,add_comm→g0s,add_sub_cancel_left→g0z,eq_zero_of_zero_dvd→m0a,ne_of_gt→m0u,dvd_refl→m0x,sub_zero→m0y,zero_mul→m0z,sub_self→q1a,pow_pos→q1c
open List renaming getElem?_eq_getElem→q0c,getElem?_eq_none→q0d,mem_cons_of_mem→q0f,mem_cons_self→q0h,length_map→q0m,size_toArray→q0p,getElem?_map→q0q,getElem?_eq_some_iff→q0s,replicate→q0z,mem_of_getElem?→z0c,mem_append_right→z0d,mem_cons→z0t,mem_map→z0y,length_take→j0b,getElem?_range→j0d,length_range→j0e,range→j0f,getElem_of_mem→j0r,length_pos_iff→j0s,map_cons→j0x,take_length→j0y,length_append→j0z,take_succ→y0f,mem_singleton→y0h,Nodup→y0r,length_cons→y0t,getElem_mem→y0w,replicate_succ→y0x,getElem?_cons_succ→y0y,set_cons_succ→v0c,take_of_length_le→v0f,mem_range→v0h,mem_append→v0u,append_nil→v0v,set_cons_zero→u0b,flatten_cons→u0f,ext_getElem?→u0g,all_eq_true→u0m,length_replicate→u0p,length_singleton→u0r,nodup_cons→u0v,foldl_cons→u0w,mem_of_mem_take→u0y,eq_nil_of_length_eq_zero→g0b,filterMap_cons→g0c,getElem?_take→g0g,getElem?_append_right→g0h,getElem?_take_of_lt→g0r,lookup_cons→g0t,cons_append→g0u,getElem?_replicate→g0x,getElem?_cons_zero→g0y,of_mem_zip→m0c,nil_append→m0d,length_nil→m0g,getElem?_set_self→m0h,take_append_drop→m0p,mem_append_left→m0q,getElem?_set_ne→m0r,getElem?_mapIdx→m0s,map_nil→m0v
open PySem.Heap renaming lt_size→q0g,get?_push_of_some→q0u,get?_push_size→z0x,get?_update_other→j0n,size_push→u0e,get?_update_self→u0q,SameBut→g0q
open Rat renaming mul_inv_cancel→q0j,intCast_zero→q0k,intCast_mul→q0n,intCast_inj→q0y,divInt→z0a,num_divInt_den→z0h,divInt_eq_divInt_iff→z0n,divInt_eq_div→j0j,mul_eq_zero→j0t,intCast_natCast→j0u,divInt_mul_divInt→y0a,div_def→y0b,intCast_pos→y0n,num_intCast→v0w,den_intCast→v0x,natCast_inj→v0y,natCast_add→u0z,intCast_add→m0f,divInt_add_divInt→m0n,mul_pos→q1d
open Int renaming natAbs_natCast→q0r,gcd→q0w,natAbs_mul→q0x,mul_comm→z0k,natAbs→z0p,natCast_mul→z0s,natAbs_dvd_natAbs→z0v,natCast_dvd_natCast→z0w,gcd_dvd_right→j0h,gcd_dvd_left→j0m,dvd_trans→y0d,fmod_nonneg_of_pos→y0g,mul_ne_zero→y0m,fmod_lt_of_pos→v0b,gcd_eq_natAbs_gcd_natAbs→v0j,toNat→u0t,mul_zero→g0a,dvd_gcd→g0e,zero_mul→g0v,zero_dvd→g0w,gcd_comm→m0w,dvd_zero→q1b
open Bool renaming false_ne_true→q0v,and_eq_true→u0k,eq_iff_iff→u0u,false_eq_true→g0f,not_eq_true'→g0n
open Or renaming inl→z0r,inr→v0q
open Option renaming isSome_iff_exists→u0a
open Array renaming length_toList→m0t
set_option Elab.async false
set_option linter.all false
local macro_rules | `(def $i:declId $s:optDeclSig $v:declVal) => `(noncomputable def $i:declId $s:optDeclSig $v:declVal)
local macro_rules | `(abbrev $i:declId $s:optDeclSig $v:declVal) => `(noncomputable abbrev $i:declId $s:optDeclSig $v:declVal)
local macro_rules | `(⋯) => `(by omega)
set_option maxHeartbeats 0
noncomputable section
-- CHANGE: your row's module here,as the last of these rows
set_option maxRecDepth 100000
namespace L2
open PySem PySem.Spec PyProof.Rows
abbrev Key:=Sum Int Str
def bf9:Key->Value->Bool
 | .inl k,v=>Value.isInt k v
 | .inr x,v=>Value.isStrOf x v
def bp8 (w:World):Key->Int
 | .inl k=>hashInt k
 | .inr x=>hashStr w x
theorem w9:∀ {k:Key} {v:Value},bf9 k v=true->(∃ i t,k=Sum.inl i/\v=Value.int i t) \/ (∃ x t,k=Sum.inr x/\v=Value.str x t)
 | .inl i,v,h=>by
  obtain ⟨t,e⟩:=Value.isInt_shape (k:=i) (v:=v) h;exact .inl ⟨i,t,rfl,e⟩
 | .inr x,v,h=>by
  obtain ⟨t,e⟩:=Value.isStrOf_shape (x:=x) (v:=v) h;exact .inr ⟨x,t,rfl,e⟩
theorem bj8 (a b:Int):decide ((Sum.inl a:Key)=Sum.inl b)=(a == b):=by
 by_cases e:a=b
 ·subst e;simp
 ·have h:¬ (Sum.inl a:Key)=Sum.inl b:=λq=>e (Sum.inl.inj q)
  rw [decide_eq_false h];exact (beq_eq_false_iff_ne.mpr e).symm
theorem bj5 (a b:Str):decide ((Sum.inr a:Key)=Sum.inr b)=decide (a=b):=by
 by_cases e:a=b
 ·subst e;simp
 ·have h:¬ (Sum.inr a:Key)=Sum.inr b:=λq=>e (Sum.inr.inj q)
  rw [decide_eq_false h,decide_eq_false e]
theorem bj7 (a:Int) (b:Str):decide ((Sum.inl a:Key)=Sum.inr b)=false:=decide_eq_false (λq=>nomatch q)
theorem bj6 (a:Str) (b:Int):decide ((Sum.inr a:Key)=Sum.inl b)=false:=decide_eq_false (λq=>nomatch q)
def ay2 (prog:Program) (w:World):PySem.KeyKind prog w Key where
 is:=bf9
 hash:=bp8 w
 inj:=λv a b ha hb=>by
  rcases w9 ha with ⟨i,t,rfl,rfl⟩ | ⟨x,t,rfl,rfl⟩
  ·rcases w9 hb with ⟨j,u,rfl,e⟩ | ⟨y,u,rfl,e⟩
   ·injection e with e1 _;rw [e1]
   ·exact nomatch e
  ·rcases w9 hb with ⟨j,u,rfl,e⟩ | ⟨y,u,rfl,e⟩
   ·exact nomatch e
   ·injection e with e1 _;rw [e1]
 byValue:=λk v h=>by
  rcases w9 h with ⟨i,t,rfl,rfl⟩ | ⟨x,t,rfl,rfl⟩ <;> rfl
 pyHash:=λhv h=>by
  rcases w9 hv with ⟨i,t,rfl,rfl⟩ | ⟨x,t,rfl,rfl⟩
  ·exact wpAny_pyHash_int h
  ·exact wpAny_pyHash_str h
 eqBool:=λhu hv h=>by
  rcases w9 hu with ⟨i,t,rfl,rfl⟩ | ⟨x,t,rfl,rfl⟩
  ·rcases w9 hv with ⟨j,u,rfl,rfl⟩ | ⟨y,u,rfl,rfl⟩
   ·rw [bj8] at h;exact wpAny_eqBool_int h
   ·rw [bj7] at h;exact SeqAt.EqAt.int_str i t y u _ _ _ _ h
  ·rcases w9 hv with ⟨j,u,rfl,rfl⟩ | ⟨y,u,rfl,rfl⟩
   ·rw [bj6] at h;exact SeqAt.EqAt.str_int x t j u _ _ _ _ h
   ·rw [bj5] at h;exact wpAny_eqBool_str h
 «strs» := λk x t v h=>by
  rcases w9 h with ⟨i,u,rfl,e⟩ | ⟨y,u,rfl,e⟩
  ·exact nomatch e
  ·injection e with e1 _
   subst e1
   cases v <;> rfl
inductive V where
 | non | bl (b:Bool) | int (i:Int) | str (x:Str) | byt (b:Array UInt8) | flt (b:UInt64) | ref (a:Addr) | ty (n:String)
 deriving DecidableEq
def t5:V->Value->Prop
 | .non,u=>u=Value.none
 | .bl b,u=>u=Value.bool b
 | .int i,u => ∃ t,u=Value.int i t
 | .str x,u => ∃ t,u=Value.str x t
 | .byt b,u => ∃ t,u=Value.bytes b t
 | .flt b,u => ∃ t,u=Value.float b t
 | .ref a,u=>u=Value.ref a
 | .ty n,u=>u=Value.type n
abbrev k8:List V->List Value->Prop:=Paired t5
theorem k8.length {xs:List V} {us:List Value} (r:k8 xs us):xs.length=us.length:=Paired.length r
theorem k8.get:∀ {xs:List V} {us:List Value} {i:Nat} {x:V},k8 xs us->xs[i]? = some x->∃ u,us[i]? = some u/\t5 x u
 | _,_,_,_,.nil,e=>by simp at e
 | _,_,0,_,.cons r _,e=>by simp at e;subst e;exact ⟨_,rfl,r⟩
 | _,_,i+1,x,.cons _ t,e=>by
  obtain ⟨u,h1,h2⟩:=k8.get (i:=i) (x:=x) t (by simpa using e)
  exact ⟨u,by simpa using h1,h2⟩
theorem k8.set {x:V} {u:Value} (r:t5 x u):∀ {xs:List V} {us:List Value} (i:Nat),k8 xs us->k8 (xs.set i x) (us.set i u)
 | _,_,_,.nil=>.nil
 | _,_,0,.cons _ t=>.cons r t
 | _,_,i+1,.cons q t=>.cons q (k8.set r i t)
theorem k8.append:∀ {xs ys:List V} {us ws:List Value},k8 xs us->k8 ys ws->k8 (xs ++ ys) (us ++ ws)
 | _,_,_,_,.nil,s=>s
 | _,_,_,_,.cons r t,s=>.cons r (k8.append t s)
theorem k8.take:∀ {xs:List V} {us:List Value} (n:Nat),k8 xs us->k8 (xs.take n) (us.take n)
 | _,_,0,_=>.nil
 | _,_,_+1,.nil=>.nil
 | _,_,n+1,.cons r t=>.cons r (k8.take n t)
theorem k8.drop:∀ {xs:List V} {us:List Value} (n:Nat),k8 xs us->k8 (xs.drop n) (us.drop n)
 | _,_,0,r=>r
 | _,_,_+1,.nil=>.nil
 | _,_,n+1,.cons _ t=>k8.drop n t
def bl8:Option V->Option Value->Prop
 | some v,some u=>t5 v u
 | none,none=>True
 | _,_=>False
def KV {κ:Type}:List (κ × V)->List (κ × Value)->Prop:=Paired λ(p:κ × V) (q:κ × Value)=>p.1=q.1/\t5 p.2 q.2
def kV:Key->V
 | .inl i=>.int i
 | .inr x=>.str x
inductive HO where
  | lst (xs:List V)
  | tup (xs:List V)
  | dK (kvs:List (Key × V)) | dT (kvs:List (List Key × V))
  | set (S:Int->Bool) (n:Nat)
  | ins (C dx:Addr) (fs:List (Str × V))
  | own (x:Addr)
  | xd (fs:List (Str × V))
  | met (f x:Addr)
  | rng (lo hi:Int)
  | frz (o:Obj) (u:HO)
  | tbl (ps:Array Value)
  | ext (φ:Heap->Prop)
abbrev Hp:=Addr->Option HO
def upd (H:Hp) (a:Addr) (o:HO):Hp:=λb=>if b=a then some o else H b
theorem c8 {H:Hp} {a:Addr} {o:HO}:upd H a o a=some o:=by unfold upd;rw [if_pos rfl]
theorem i7 {H:Hp} {a b:Addr} {o:HO} (h:b ≠ a):upd H a o b=H b:=by unfold upd;rw [if_neg h]
theorem bf3 {H:Hp} {a b:Addr} {o u:HO} (h:H a=some o) (h':H b=some u) (d:o ≠ u):a ≠ b:=by
 intro e;subst e;rw [h] at h';exact d (Option.some.inj h')
theorem e8 {H:Hp} {a b:Addr} {o:HO} (h:H a=some o) (h':H b=none):a ≠ b:=by
 intro e;subst e;rw [h] at h';cases h'
section
variable (P:Program) (w:World)
def D3 (H:Hp) (h:Heap) (a:Addr):HO->Prop
 | .lst xs=>xs.length<=sizeLine/\∃ (its:List Value) (n:Nat),k8 xs its/\h.get? a=some { cls:=.type "list",data:=.seq its.toArray n }
 | .tup xs=>xs.length<=sizeLine/\∃ its:List Value,k8 xs its/\IsTup h a its.toArray
 | .dK kvs=>kvs.length<=sizeLine/\(a == sysModules)=false/\∃ vs,KV kvs vs/\h.DictOf (ay2 P w) a vs
 | .dT kvs=>kvs.length<=sizeLine/\(a == sysModules)=false/\∃ xs:List (List Key × Addr × Value),
   Paired (λ(p:List Key × V) (q:List Key × Addr × Value)=>p.1=q.1/\H q.2.1=some (.tup (p.1.map kV))/\t5 p.2 q.2.2) kvs xs /\
   ∃ o es ep,h.get? a=some o/\o.ExactDict/\o.data=.dict es ep/\es.toList=xs.map (entryOfKey (tupleKind (ay2 P w)))/\(xs.map (·.1)).Nodup
 | .set S n=>h.SetOf (intKind P w) a S n
 | .ins C dx fs=>H dx=some (.own a)/\fs.length<=1000/\dx ≠ a/\h.get? a=some (m0b C dx) /\
   ∃ mA,h.Ns1 dx mA/\(∀ f,bl8 (fs.lookup f) (mA f))/\PySem.Within mA (fs.map (·.1))
 | .own _ => ∃ o,h.get? a=some o
 | .xd fs => ∃ mA,h.Ns1 a mA/\∀ f,bl8 (fs.lookup f) (mA f)
 | .rng lo hi => ∃ t u v,h.get? a=some { cls:=.type "range",data:=.fields #[.int lo t,.int hi u,.int 1 v] }
 | .frz o u=>h.get? a=some o/\D3 H h a u
 | .tbl ps=>h.get? a=some { cls:=.none,data:=.fields ps }
 | .met f x=>h.get? a=some (g0k (.ref f) (.ref x))
 | .ext φ=>φ h/\(∃ o,h.get? a=some o)/\∀ h1 h2:Heap,φ h1->(∀ o,h1.get? a=some o->h2.get? a=some o)->φ h2
def HOk (H:Hp) (h:Heap):Prop:=∀ a o,H a=some o->D3 P w H h a o
end
section
variable {P:Program} {w:World} {H H':Hp} {h h':Heap} {a:Addr} {o:HO}
theorem D3.lt (x:D3 P w H h a o):a<h.objs.size:=by
 cases o with
 | lst xs=>obtain ⟨_,_,_,_,e⟩:=x;exact q0g e
 | tup xs=>obtain ⟨_,_,_,p⟩:=x;exact p.lt
 | dK kvs=>obtain ⟨_,_,_,_,o,_,_,e,_⟩:=x;exact q0g e
 | dT kvs=>obtain ⟨_,_,_,_,o,_,_,e,_⟩:=x;exact q0g e
 | set S n=>obtain ⟨o,_,_,_,e,_⟩:=x;exact q0g e
 | ins C dx fs=>obtain ⟨_,_,_,e,_⟩:=x;exact q0g e
 | own y=>obtain ⟨_,e⟩:=x;exact q0g e
 | xd fs=>obtain ⟨_,⟨_,_,_,e,_⟩,_⟩:=x;exact q0g e
 | rng lo hi=>obtain ⟨_,_,_,e⟩:=x;exact q0g e
 | frz ob u=>obtain ⟨e,_⟩:=x;exact q0g e
 | tbl ps=>exact q0g (show h.get? a=some _ from x)
 | met f y=>exact q0g (show h.get? a=some _ from x)
 | ext φ=>obtain ⟨_,⟨_,e⟩,_⟩:=x;exact q0g e
theorem Paired.mapP {α β:Type} {F G:α->β->Prop}:∀ {l₁:List α} {l₂:List β},Paired F l₁ l₂->(∀ a b,F a b->G a b)->Paired G l₁ l₂
 | _,_,.nil,_=>.nil
 | _,_,.cons r t,f=>.cons (f _ _ r) (Paired.mapP t f)
theorem D3.stay (x:D3 P w H h a o) (k:∀ b u,(b=a \/ H b=some (.own a))->h.get? b=some u->h'.get? b=some u)
  (ho:∀ b,H b=some (.own a)->H' b=some (.own a)) (ht:∀ b xs,H b=some (.tup xs)->H' b=some (.tup xs)):D3 P w H' h' a o:=by
 induction o with
 | lst xs=>obtain ⟨z,its,n,r,e⟩:=x;exact ⟨z,its,n,r,k _ _ (.inl rfl) e⟩
 | tup xs=>obtain ⟨z,its,r,ob,e,c⟩:=x;exact ⟨z,its,r,ob,k _ _ (.inl rfl) e,c⟩
 | dK kvs=>obtain ⟨z,y,vs,r,ob,es,ep,e,c⟩:=x;exact ⟨z,y,vs,r,ob,es,ep,k _ _ (.inl rfl) e,c⟩
 | dT kvs =>
  obtain ⟨z,y,xs,r,ob,es,ep,e,c⟩:=x;exact ⟨z,y,xs,Paired.mapP r λp q z=>⟨z.1,ht _ _ z.2.1,z.2.2⟩,ob,es,ep,k _ _ (.inl rfl) e,c⟩
 | set S n=>obtain ⟨ob,es,ep,t,e,c⟩:=x;exact ⟨ob,es,ep,t,k _ _ (.inl rfl) e,c⟩
 | ins C dx fs =>
  obtain ⟨d,z,ne,e,mA,⟨od,es,ep,e2,c⟩,r⟩:=x;exact ⟨ho _ d,z,ne,k _ _ (.inl rfl) e,mA,⟨od,es,ep,k _ _ (.inr d) e2,c⟩,r⟩
 | own y=>obtain ⟨ob,e⟩:=x;exact ⟨ob,k _ _ (.inl rfl) e⟩
 | xd fs=>obtain ⟨mA,⟨od,es,ep,e,c⟩,r⟩:=x;exact ⟨mA,⟨od,es,ep,k _ _ (.inl rfl) e,c⟩,r⟩
 | rng lo hi=>obtain ⟨t,u,v,e⟩:=x;exact ⟨t,u,v,k _ _ (.inl rfl) e⟩
 | frz ob u ih=>obtain ⟨e,q⟩:=x;exact ⟨k _ _ (.inl rfl) e,ih q⟩
 | tbl ps =>
  have e:h.get? a=some { cls:=.none,data:=.fields ps }:=x
  show h'.get? a=some { cls:=.none,data:=.fields ps };exact k a _ (.inl rfl) e
 | met f y =>
  have e:h.get? a=some (g0k (.ref f) (.ref y)):=x
  show h'.get? a=some (g0k (.ref f) (.ref y));exact k a _ (.inl rfl) e
 | ext φ=>obtain ⟨p,⟨o,e⟩,st⟩:=x;exact ⟨st _ _ p λo q=>k _ _ (.inl rfl) q,⟨o,k _ _ (.inl rfl) e⟩,st⟩
theorem HOk.lt (x:HOk P w H h) (e:H a=some o):a<h.objs.size:=(x a o e).lt
theorem HOk.fresh (x:HOk P w H h) (e:h.objs.size<=a):H a=none:=by
 cases q:H a with
 | none=>rfl
 | some u=>exact absurd (q0b (x.lt q) e) (j0w _)
theorem HOk.kept (x:HOk P w H h) (k:∀ b u,h.get? b=some u->h'.get? b=some u):HOk P w H h':=λa o e =>
 (x a o e).stay (λb u _ q=>k b u q) (λ_ q=>q) λ_ _ q=>q
theorem HOk.laid (x:HOk P w H h) (k:∀ b u,h.get? b=some u->h'.get? b=some u) (hp:h.objs.size<=a) (new:D3 P w (upd H a o) h' a o):HOk P w (upd H a o) h':=λb u e=>by
 have hn:=x.fresh hp
 by_cases hb:b=a
 ·subst hb;rw [c8] at e;cases e;exact new
 ·rw [i7 hb] at e
  exact (x b u e).stay (λc v _ q=>k c v q) (λc q=>by rw [i7 (e8 q hn)];exact q) λc xs q=>by rw [i7 (e8 q hn)];exact q
end
def Rd (H:Hp) (a:Addr) (u:HO):Prop:=H a=some u \/ ∃ o,H a=some (.frz o u)
theorem Rd.ok {P:Program} {w:World} {H:Hp} {h:Heap} {a:Addr} {u:HO} (r:Rd H a u) (x:HOk P w H h):D3 P w H h a u:=by
 rcases r with r | ⟨o,r⟩
 ·exact x a u r
 ·obtain ⟨_,q⟩:=x a _ r
  exact q
def Mut:Option HO->Prop
 | some (.lst _)=>True
 | some (.dK _)=>True
 | some (.dT _)=>True
 | some (.set _ _)=>True
 | some (.ins _ _ _)=>True
 | some (.ext _)=>True
 | _=>False
section
variable {P:Program} {w:World} {H:Hp} {h h':Heap} {x e:Addr} {o':HO}
theorem HOk.write (ok:HOk P w H h) (mu:Mut (H x)) (he:e=x \/ H e=some (.own x)) (k:∀ b u,b ≠ e->h.get? b=some u->h'.get? b=some u) (heo:∃ u,h'.get? e=some u)
  (new:D3 P w (upd H x o') h' x o'):HOk P w (upd H x o') h':=λb u q=>by
 have nown:∀ c y,H c=some (.own y)->c ≠ x:=λc y r z=>by subst z;rw [r] at mu;exact mu
 have ntup:∀ c xs,H c=some (.tup xs)->c ≠ x:=λc xs r z=>by subst z;rw [r] at mu;exact mu
 by_cases hb:b=x
 ·subst hb;rw [c8] at q;cases q;exact new
 ·rw [i7 hb] at q
  by_cases hbe:b=e
  ·have q':H b=some (.own x):=by
    rcases he with z | z
    ·exact absurd (hbe.trans z) hb
    ·rw [hbe];exact z
   rw [q] at q';cases q';obtain ⟨v,hv⟩:=heo;exact ⟨v,by rw [hbe];exact hv⟩
  ·refine (ok b u q).stay (λc v hc r=>k c v ?_ r) (λc r=>by rw [i7 (nown c b r)];exact r) λc xs r=>by rw [i7 (ntup c xs r)];exact r
   rcases hc with rfl | hc
   ·exact hbe
   ·rintro rfl
    rcases he with z | z
    ·exact nown c b hc z
    ·rw [hc] at z;cases z;exact hb rfl
end
structure Un (fs ex:List Addr) (H H':Hp) (h h':Heap):Prop where
 keep:∀ b o,h.get? b=some o->H b=none->b ∉ fs->b ∉ ex->h'.get? b=some o
 slot:∀ b o,h.get? b=some o->H b=none->b ∈ fs->b ∉ ex->∃ sl,h'.get? b=some { o with slots:=sl }
 free:∀ b o,h.get? b=some o->H b=none->b ∉ ex->H' b=none
 there:∀ b o,h.get? b=some o->b ∉ ex->∃ o',h'.get? b=some o'
 tups:∀ b xs,H b=some (.tup xs)->H' b=some (.tup xs)
 frzs:∀ b o u,H b=some (.frz o u)->H' b=some (.frz o u)
 tbls:∀ b ps,H b=some (.tbl ps)->∃ more,H' b=some (.tbl (ps ++ more))
section
variable {fs fs' ex ex':List Addr} {H H1 H2:Hp} {h h1 h2 h':Heap} {a x e:Addr} {o:HO}
theorem Un.any (u:Un fs ex H H1 h h1) {b:Addr} {ob:Obj} (q:h.get? b=some ob) (n:H b=none) (hx:b ∉ ex):∃ sl,h1.get? b=some { ob with slots:=sl }:=by
 by_cases hb:b ∈ fs
 ·exact u.slot b ob q n hb hx
 ·exact ⟨ob.slots,u.keep b ob q n hb hx⟩
theorem Un.kept (k:∀ b u,h.get? b=some u->h'.get? b=some u):Un fs ex H H h h' :=
 ⟨λb ob q _ _ _=>k b ob q,λb ob q _ _ _=>⟨ob.slots,k b ob q⟩,λ_ _ _ n _=>n,λb ob q _=>⟨ob,k b ob q⟩,λ_ _ q=>q,λ_ _ _ q=>q,λ_ ps q=>⟨#[],by rw [q];simp⟩⟩
theorem Un.refl:Un fs ex H H h h:=Un.kept λ_ _ q=>q
theorem Un.laid (k:∀ b u,h.get? b=some u->h'.get? b=some u) (hp:h.objs.size<=a) (hn:H a=none):Un fs ex H (upd H a o) h h' where
 keep:=λb u q _ _ _=>k b u q
 slot:=λb u q _ _ _=>⟨u.slots,k b u q⟩
 free:=λb u q n _=>by rw [i7 (z0g (q0b (q0g q) hp))];exact n
 there:=λb u q _=>⟨u,k b u q⟩
 tups:=λb xs q=>by rw [i7 (e8 q hn)];exact q
 frzs:=λb u xs q=>by rw [i7 (e8 q hn)];exact q
 tbls:=λb ps q=>⟨#[],by rw [i7 (e8 q hn),q];simp⟩
theorem Un.write (mu:Mut (H x)) (he:e=x \/ H e=some (.own x)) (k:∀ b u,b ≠ e->h.get? b=some u->h'.get? b=some u) (heo:∃ u,h'.get? e=some u):Un fs ex H (upd H x o) h h':=by
 have hx:∀ b,H b=none->b ≠ x:=λb n z=>by subst z;rw [n] at mu;exact mu
 have hb:∀ b,H b=none->b ≠ e:=λb n z=>by
  subst z;rcases he with r | r
  ·exact hx b n r
  ·rw [n] at r;cases r
 have hm:∀ b u,H b=some u->¬ Mut (some u)->b ≠ x:=λb u q nm z=>by subst z;rw [q] at mu;exact nm mu
 refine ⟨λb u q n _ _=>k b u (hb b n) q,λb u q n _ _=>⟨u.slots,k b u (hb b n) q⟩,λb u q n _=>by rw [i7 (hx b n)];exact n,λb u q _=>?_,
  λb xs q=>by rw [i7 (hm b _ q λz=>z)];exact q,λb u xs q=>by rw [i7 (hm b _ q λz=>z)];exact q,λb ps q=>⟨#[],by rw [i7 (hm b _ q λz=>z),q];simp⟩⟩
 by_cases hbe:b=e
 ·subst hbe;exact heo
 ·exact ⟨u,k b u hbe q⟩
end
def trk (h:Heap) (H:Hp):List Addr:=(j0f h.objs.size).filter λa=>(H a).isSome
def ay7 (h:Heap) (H:Hp):Heap:=PySem.W.hideAll h (trk h H)
theorem aP6 (h:Heap) (H:Hp):(ay7 h H).objs.size=h.objs.size:=PySem.W.hideAll_size _ _
theorem aW6 {h:Heap} {H:Hp} {b:Addr} {o:Obj} (e:h.get? b=some o) (n:H b=none):(ay7 h H).get? b=some o :=
 PySem.W.hideAll_get _ e λhm=>by
  have q:(H b).isSome=true:=(List.mem_filter.mp hm).2;rw [n] at q;simp at q
theorem bb5 {h:Heap} {H:Hp} {b:Addr} {o:Obj} (e:(ay7 h H).get? b=some o):h.get? b=some o/\H b=none:=by
 have e':h.get? b=some o:=PySem.W.of_hideAll (trk h H) e;refine ⟨e',?_⟩
 cases q:H b with
 | none=>rfl
 | some x =>
  have hm:b ∈ trk h H:=List.mem_filter.mpr ⟨v0h.mpr (q0g e'),by simp [q]⟩
  have z:(ay7 h H).get? b=none:=PySem.W.hideAll_none (trk h H) hm;rw [z] at e;cases e
def be0 (g h:Heap) (L:Addr):List (Addr × Obj):=(j0f h.objs.size).filterMap λa=>if a=L \/ (g.get? a).isSome=true then none else (h.get? a).map λo=>(a,o)
def aj4 (g h:Heap) (L d:Addr):List (Addr × Obj):=(be0 g h L).filter λp=>decide (p.1 ≠ d)
structure Mod (K:q0a) (mg:Str->Option Value) (base:Heap):Prop where
 kin:K.In base
 glob:base.Ns mainGlobals mg
 blt:∃ mb,base.Ns builtinsNs mb/\∀ x:Str,x ≠ "__name__"->mb x=bootBuiltins x
 nolimit:base.NoLimit
structure Cx where
 prog:Program
 w:World
 K:q0a
 mg:Str->Option Value
 base:Heap
 A:Around
 N:List Str
 s₀:Shared
 H₀:Hp
 env:Env
 outer:List Env
 stack:List Env
 ex:List Addr
 fn:Str->Bool
 calm:Bool
 pn:List (Addr × Obj)
 xe:Value->Shared->Prop
def frs (l:List Env):List Addr:=l.filterMap (·.frame)
abbrev Cx.fs (X:Cx):List Addr:=frs X.outer
def Vis (sc:Scope) (x:Str):Prop:=sc.names.lookup x=some .local \/ sc.names.lookup x=some .cell \/ sc.names.lookup x=some .free
def Loc (sc:Scope) (x:Str):Prop:=sc.names.lookup x=some .local \/ sc.names.lookup x=some .cell
def bq7 (env:Env) (h:Heap) (m:Str->Option Value) (x:Str) (u:Value):Prop :=
 (env.kindOf x=some .local/\m x=some u) \/ ((env.kindOf x=some .cell \/ env.kindOf x=some .free)/\∃ c,env.cells.lookup x=some c/\h.IsCell c (some u))
structure Cx.Ok (X:Cx):Prop where
 mod:Mod X.K X.mg X.base
 kind:X.env.scope.kind=.function
 glob:X.env.globals=mainGlobals
 blt:X.env.builtins=builtinsNs
 above:X.s₀.heap.objs.size<=X.env.locals
 inj:∀ x y c,X.env.cells.lookup x=some c->X.env.cells.lookup y=some c->x=y
 has:∀ x,(X.env.kindOf x=some .cell \/ X.env.kindOf x=some .free)->∃ c,X.env.cells.lookup x=some c
 cab:∀ x c,X.fn x=true->X.env.cells.lookup x=some c->X.s₀.heap.objs.size<=c
 hd:X.calm=true->X.A.handled=none
 frames:X.A.frames=some X.stack
 stk:X.stack=X.outer \/ (X.stack=X.env :: X.outer/\X.env.frame=some X.env.locals)
 exf:∀ b ∈ X.ex,b ≠ X.env.locals/\∀ x c,X.env.cells.lookup x=some c->c ≠ b
 bs:∀ b o,X.base.get? b=some o->X.s₀.heap.get? b=some o/\X.H₀ b=none
 bsz:X.base.objs.size<=X.s₀.heap.objs.size
 noex:∀ b o,X.base.get? b=some o->b ∉ X.ex
 exfs:∀ b ∈ X.ex,b ∉ X.fs
 funs:X.s₀.heap.FunFrames X.base X.outer
 frf:∀ b ∈ X.fs,X.H₀ b=none
structure Inv (X:Cx) (pins:List (Addr × Obj)) (σ:List (Option V)) (H:Hp) (s:Shared):Prop where
 ok:X.Ok
 os:s.os=X.s₀.os
 bare:AllBare s.gens
 base:Un X.fs X.ex X.H₀ H X.s₀.heap s.heap
 loc:∃ m,s.heap.Ns X.env.locals m/\∀ (i:Nat) (x:Str) (v:V),X.N[i]? = some x->σ[i]? = some (some v)->Vis X.env.scope x->∃ u,t5 v u/\bq7 X.env s.heap m x u
 cell:∀ x c,X.env.cells.lookup x=some c->∃ v,s.heap.IsCell c v
 free:H X.env.locals=none
 freeC:∀ x c,X.env.cells.lookup x=some c->H c=none
 pin:∀ p ∈ X.pn ++ pins,s.heap.get? p.1=some p.2/\H p.1=none/\p.1 ≠ X.env.locals/\p.1 ∉ X.fs/\∀ v,p.2.data ≠ .cell v
 hok:HOk X.prog X.w H s.heap
 len:σ.length=X.N.length
section
variable {X:Cx} {pins:List (Addr × Obj)} {σ:List (Option V)} {H H':Hp} {s:Shared} {h':Heap}
theorem Cx.Ok.nofr (ok:X.Ok) {b:Addr} {o:Obj} (e:X.base.get? b=some o):b ∉ X.fs:=λhb=>by
 have:=(ok.funs.mem hb).1;rw [e] at this;cases this
theorem Inv.bs (I:Inv X pins σ H s):∀ b o,X.base.get? b=some o->s.heap.get? b=some o/\H b=none:=λb o e =>
 ⟨I.base.keep b o (I.ok.bs b o e).1 (I.ok.bs b o e).2 (I.ok.nofr e) (I.ok.noex b o e),I.base.free b o (I.ok.bs b o e).1 (I.ok.bs b o e).2 (I.ok.noex b o e)⟩
theorem Inv.bk (I:Inv X pins σ H s):∀ b o,X.base.get? b=some o->s.heap.get? b=some o:=λb o e=>(I.bs b o e).1
theorem Inv.mod (I:Inv X pins σ H s):Mod X.K X.mg X.base:=I.ok.mod
theorem Inv.kIn (I:Inv X pins σ H s):X.K.In s.heap:=I.ok.mod.kin.keeps I.bk
theorem Inv.lt (I:Inv X pins σ H s):X.env.locals<s.heap.objs.size:=let ⟨_,hn,_⟩:=I.loc;hn.lt
theorem Inv.sz (I:Inv X pins σ H s):X.s₀.heap.objs.size<=s.heap.objs.size:=z0f I.ok.above (y0c I.lt)
theorem Inv.nofs (I:Inv X pins σ H s) {a:Addr} (h:s.heap.objs.size<=a):a ∉ X.fs:=λhb=>by
 obtain ⟨_,o,ho,_⟩:=I.ok.funs.mem hb;exact absurd (q0b (q0g ho) (z0f I.sz h)) (j0w _)
theorem Inv.cne (I:Inv X pins σ H s):∀ x c,X.env.cells.lookup x=some c->c ≠ X.env.locals:=λx c e z=>by
 obtain ⟨v,o,ho,hd⟩:=I.cell x c e;obtain ⟨m,⟨o',es,ep,ho',hd',_⟩,_⟩:=I.loc;rw [z,ho'] at ho;cases ho;rw [hd'] at hd;cases hd
theorem Inv.funs (I:Inv X pins σ H s):s.heap.FunFrames X.base X.outer:=by
 have all:∀ (l:List Env),(∀ b ∈ frs l,b ∈ X.fs)->X.s₀.heap.FunFrames X.base l->s.heap.FunFrames X.base l:=by
  intro l
  induction l with
  | nil=>intro _ _;trivial
  | cons env r ih =>
   intro hs hl;obtain ⟨hk,⟨L,o,hf,hn,ho,hd⟩,hr⟩:=hl;have hL:L ∈ X.fs:=hs L (by unfold frs;rw [g0c,hf];exact q0h)
   obtain ⟨sl,e⟩:=I.base.slot L o ho (I.ok.frf L hL) hL λz=>I.ok.exfs L z hL;exact ⟨hk,⟨L,_,hf,hn,e,hd⟩,ih (λb hb=>hs b (by unfold frs;rw [g0c,hf];exact q0f _ hb)) hr⟩
 exact all X.outer (λ_ hb=>hb) I.ok.funs
theorem Inv.stack (I:Inv X pins σ H s):s.heap.FunFrames X.base X.stack:=by
 rcases I.ok.stk with e | ⟨e,hf⟩
 ·rw [e];exact I.funs
 ·rw [e]
  obtain ⟨m,hn,_⟩:=I.loc;refine .cons (by rw [I.ok.kind];decide) hf hn ?_ I.funs
  exact Heap.get?_none_of_le (z0f I.ok.bsz I.ok.above)
theorem Inv.stkSub (I:Inv X pins σ H s):∀ b ∈ frs X.stack,b ∈ X.env.locals :: X.fs:=λb hb=>by
 rcases I.ok.stk with e | ⟨e,hf⟩
 ·rw [e] at hb;exact q0f _ hb
 ·rw [e] at hb
  unfold frs at hb;rw [g0c,hf] at hb;exact hb
theorem Inv.stkFree (I:Inv X pins σ H s):∀ b ∈ frs X.stack,H b=none:=λb hb=>by
 rcases z0t.mp (I.stkSub b hb) with e | hb
 ·rw [e];exact I.free
 ·obtain ⟨_,o,ho,_⟩:=I.ok.funs.mem hb
  exact I.base.free b o ho (I.ok.frf b hb) λz=>I.ok.exfs b z hb
theorem Inv.step {g':Array GenState} {t':Nat} {d':Drawn} {ch:List Addr} (I:Inv X pins σ H s)
  (hch:∀ b ∈ ch,(b ∈ X.ex \/ X.s₀.heap.objs.size<=b)/\b ≠ X.env.locals/\(∀ x c,X.env.cells.lookup x=some c->c ≠ b)/\∀ p ∈ X.pn ++ pins,p.1 ≠ b)
  (keep:∀ b o,b ≠ X.env.locals->b ∉ X.fs->b ∉ ch->s.heap.get? b=some o->H b=none->h'.get? b=some o)
  (slot:∀ b o,b ≠ X.env.locals->b ∈ X.fs->b ∉ ch->s.heap.get? b=some o->H b=none->∃ sl,h'.get? b=some { o with slots:=sl }) (free:∀ b o,b ∉ ch->s.heap.get? b=some o->H b=none->H' b=none)
  (there:∀ b o,b ∉ ch->s.heap.get? b=some o->∃ o',h'.get? b=some o')
  (tups:∀ b xs,H b=some (.tup xs)->H' b=some (.tup xs)) (frzs:∀ b o u,H b=some (.frz o u)->H' b=some (.frz o u)) (tbls:∀ b ps,H b=some (.tbl ps)->∃ more,H' b=some (.tbl (ps ++ more)))
  (ns:∀ m,s.heap.Ns X.env.locals m->h'.Ns X.env.locals m) (hok:HOk X.prog X.w H' h') (hg:AllBare g') :
  Inv X pins σ H' { s with heap:=h',gens:=g',drawn:=d',toks:=t' }:=by
 have neL:∀ b o,X.s₀.heap.get? b=some o->b ≠ X.env.locals:=λb o e=>z0g (q0b (q0g e) I.ok.above)
 have neC:∀ b o,X.s₀.heap.get? b=some o->b ∉ X.ex->b ∉ ch:=λb o e hx hb=>by
  rcases (hch b hb).1 with z | z
  ·exact hx z
  ·exact absurd (q0b (q0g e) z) (j0w _)
 have cellK:∀ x c,X.env.cells.lookup x=some c->∀ v,s.heap.IsCell c v->h'.IsCell c v:=λx c e v ⟨o,ho,hd⟩=>by
  have nch:c ∉ ch:=λz=>(hch c z).2.2.1 x c e rfl
  by_cases hc:c ∈ X.fs
  ·obtain ⟨sl,q⟩:=slot c o (I.cne x c e) hc nch ho (I.freeC x c e)
   exact ⟨_,q,hd⟩
  ·exact ⟨o,keep c o (I.cne x c e) hc nch ho (I.freeC x c e),hd⟩
 refine ⟨I.ok,I.os,hg,⟨λb o e n hb hx=>?_,λb o e n hb hx=>?_,λb o e n hx=>?_,λb o e hx=>?_,λb xs e=>tups b xs (I.base.tups b xs e),λb o xs e=>frzs b o xs (I.base.frzs b o xs e),λb ps e=>?_⟩,?_,λx c e=>?_,?_,λx c e=>?_,λp hp=>?_,hok,I.len⟩
 ·exact keep b o (neL b o e) hb (neC b o e hx) (I.base.keep b o e n hb hx) (I.base.free b o e n hx)
 ·obtain ⟨sl,e1⟩:=I.base.slot b o e n hb hx
  obtain ⟨sl',e2⟩:=slot b _ (neL b o e) hb (neC b o e hx) e1 (I.base.free b o e n hx);exact ⟨sl',e2⟩
 ·obtain ⟨o',e1⟩:=I.base.there b o e hx
  exact free b o' (neC b o e hx) e1 (I.base.free b o e n hx)
 ·obtain ⟨o',e1⟩:=I.base.there b o e hx
  exact there b o' (neC b o e hx) e1
 ·obtain ⟨m1,e1⟩:=I.base.tbls b ps e
  obtain ⟨m2,e2⟩:=tbls b _ e1;exact ⟨m1 ++ m2,by rw [e2,Array.append_assoc]⟩
 ·obtain ⟨m,hn,hl⟩:=I.loc
  refine ⟨m,ns m hn,λi x v e1 e2 e3=>?_⟩;obtain ⟨u,r,l⟩:=hl i x v e1 e2 e3;refine ⟨u,r,?_⟩;rcases l with l | ⟨k,c,e,z⟩
  ·exact .inl l
  ·exact .inr ⟨k,c,e,cellK x c e _ z⟩
 ·obtain ⟨v,z⟩:=I.cell x c e
  exact ⟨v,cellK x c e v z⟩
 ·obtain ⟨m,⟨o,_,_,ho,_⟩,_⟩:=I.loc
  exact free _ o (λz=>(hch _ z).2.1 rfl) ho I.free
 ·obtain ⟨v,o,ho,hd⟩:=I.cell x c e
  exact free c o (λz=>(hch c z).2.2.1 x c e rfl) ho (I.freeC x c e)
 ·obtain ⟨e,n,ne,nf,d⟩:=I.pin p hp
  have nch:p.1 ∉ ch:=λz=>(hch p.1 z).2.2.2 p hp rfl;exact ⟨keep p.1 p.2 ne nf nch e n,free p.1 p.2 nch e n,ne,nf,d⟩
theorem Inv.un {t':Nat} (I:Inv X pins σ H s) (u:Un X.fs [] H H' s.heap h') (hok:HOk X.prog X.w H' h'):Inv X pins σ H' { s with heap:=h',toks:=t' }:=by
 obtain ⟨m,⟨o,es,ep,ho,r⟩,_⟩:=id I.loc;obtain ⟨sl,hL⟩:=u.any ho I.free (by simp)
 exact I.step (g':=s.gens) (d':=s.drawn) (ch:=[]) (λ_ z=>nomatch z) (λb o _ hb _ e n=>u.keep b o e n hb (by simp)) (λb o _ hb _ e n=>u.slot b o e n hb (by simp)) (λb o _ e n=>u.free b o e n (by simp)) (λb o _ e=>u.there b o e (by simp)) u.tups u.frzs u.tbls (λm' hm=>by
  obtain ⟨o',es',ep',ho',r'⟩:=hm;rw [ho] at ho';cases ho';exact ⟨_,es',ep',hL,r'⟩) hok I.bare
theorem Inv.call {g':Array GenState} {t':Nat} {d':Drawn} {ch:List Addr} (I:Inv X pins σ H s) (u:Un (frs X.stack) ch H H' s.heap h') (hok:HOk X.prog X.w H' h') (hg:AllBare g')
  (hch:∀ b ∈ ch,(b ∈ X.ex \/ X.s₀.heap.objs.size<=b)/\b ≠ X.env.locals/\(∀ x c,X.env.cells.lookup x=some c->c ≠ b)/\∀ p ∈ X.pn ++ pins,p.1 ≠ b) :
  Inv X pins σ H' { s with heap:=h',gens:=g',drawn:=d',toks:=t' }:=by
 obtain ⟨m,⟨o,es,ep,ho,r⟩,_⟩:=id I.loc;obtain ⟨sl,hL⟩:=u.any ho I.free λz=>(hch _ z).2.1 rfl
 exact I.step (ch:=ch) hch (λb o hL hb hc e n=>u.keep b o e n (λz=>(z0t.mp (I.stkSub b z)).elim hL hb) hc) (λb o _ _ hc e n=>u.any e n hc) (λb o hc e n=>u.free b o e n hc) (λb o hc e=>u.there b o e hc) u.tups u.frzs u.tbls (λm' hm=>by
  obtain ⟨o',es',ep',ho',r'⟩:=hm;rw [ho] at ho';cases ho';exact ⟨_,es',ep',hL,r'⟩) hok hg
theorem Inv.turned {t':Nat} {it:Addr} (I:Inv X pins σ H s) (k:∀ b o,b ≠ it->s.heap.get? b=some o->h'.get? b=some o) (hn:H it=none) (hL:it ≠ X.env.locals)
  (h1:it ∈ X.ex \/ X.s₀.heap.objs.size<=it) (h2:∀ x c,X.env.cells.lookup x=some c->c ≠ it) (h3:∀ p ∈ X.pn ++ pins,p.1 ≠ it):Inv X pins σ H { s with heap:=h',toks:=t' }:=by
 have nit:∀ b u,H b=some u->b ≠ it:=λb u e z=>by rw [z,hn] at e;cases e
 refine I.step (g':=s.gens) (d':=s.drawn) (ch:=[it]) (λb hb=>?_) (λb o _ _ hc e _=>k b o (λz=>hc (by simp [z])) e) (λb o _ _ hc e _=>⟨o.slots,k b o (λz=>hc (by simp [z])) e⟩) (λ_ _ _ _ n=>n)
  (λb o hc e=>⟨o,k b o (λz=>hc (by simp [z])) e⟩) (λ_ _ e=>e) (λ_ _ _ e=>e) (λb ps e=>⟨#[],by rw [e];simp⟩) (λm hm=>?_) (λb u e=>?_) I.bare
 ·have e:b=it:=by simpa using hb
  subst e;exact ⟨h1,hL,h2,h3⟩
 ·obtain ⟨o,es,ep,ho,r⟩:=hm
  exact ⟨o,es,ep,k _ o (Ne.symm hL) ho,r⟩
 ·refine (I.hok b u e).stay (λc v hc q=>k c v ?_ q) (λ_ q=>q) λ_ _ q=>q
  rcases hc with z | z
  ·rw [z];exact nit b u e
  ·exact nit c _ z
theorem Inv.tok (I:Inv X pins σ H s) (t:Nat):Inv X pins σ H { s with toks:=t }:=I.un (h':=s.heap) (t':=t) Un.refl I.hok
theorem Inv.kept {t':Nat} (I:Inv X pins σ H s) (k:∀ b u,s.heap.get? b=some u->h'.get? b=some u):Inv X pins σ H { s with heap:=h',toks:=t' }:=I.un (Un.kept k) (I.hok.kept k)
theorem Inv.laid {a:Addr} {o:HO} {t':Nat} (I:Inv X pins σ H s) (k:∀ b u,s.heap.get? b=some u->h'.get? b=some u) (hp:s.heap.objs.size<=a) (new:D3 X.prog X.w (upd H a o) h' a o) :
  Inv X pins σ (upd H a o) { s with heap:=h',toks:=t' }:=I.un (Un.laid k hp (I.hok.fresh hp)) (I.hok.laid k hp new)
theorem Inv.write {x e:Addr} {o:HO} {t':Nat} (I:Inv X pins σ H s) (mu:Mut (H x)) (he:e=x \/ H e=some (.own x)) (k:∀ b u,b ≠ e->s.heap.get? b=some u->h'.get? b=some u) (heo:∃ u,h'.get? e=some u)
  (new:D3 X.prog X.w (upd H x o) h' x o):Inv X pins σ (upd H x o) { s with heap:=h',toks:=t' }:=I.un (Un.write mu he k heo) (I.hok.write mu he k heo new)
theorem Inv.pins_of {pins':List (Addr × Obj)} (I:Inv X pins σ H s) (h:∀ p ∈ pins',s.heap.get? p.1=some p.2/\H p.1=none/\p.1 ≠ X.env.locals/\p.1 ∉ X.fs/\∀ v,p.2.data ≠ .cell v):Inv X pins' σ H s :=
 ⟨I.ok,I.os,I.bare,I.base,I.loc,I.cell,I.free,I.freeC,λp hp=>(v0u.mp hp).elim (λz=>I.pin p (m0q _ z)) (h p),I.hok,I.len⟩
theorem aD7 {N:List Str} (hN:N.Nodup) {i j:Nat} {x:Str} (a:N[i]? = some x) (b:N[j]? = some x):i=j:=by
 obtain ⟨h1,e1⟩:=q0s.mp a;obtain ⟨h2,e2⟩:=q0s.mp b;exact (List.getElem_inj hN).mp (e1.trans e2.symm)
theorem aN9 {M:Model} {A:Around} {E:Value->Shared->Prop} {i:Nat} {x:Str} {v:V} {u:Value} {Q:Unit->Shared->Prop} (I:Inv X pins σ H s) (hN:X.N.Nodup) (hi:X.N[i]? = some x) (hx:Loc X.env.scope x) (r:t5 v u)
  (h:∀ s',Inv X pins (σ.set i (some v)) H s'->(∃ a,g0q a s.heap s'.heap/\(a=X.env.locals \/ X.env.cells.lookup x=some a))->Q () s') (hf:X.fn x=true \/ X.env.scope.names.lookup x=some .local:=by first | exact .inl rfl | exact .inr rfl | assumption):wpAny M A (storeName X.env x u) Q E s:=by
 obtain ⟨m,hn,hl⟩:=id I.loc;have hcls:(X.env.scope.kind == .class || (X.env.scope.kind == .module && X.env.locals != X.env.globals))=false:=by rw [I.ok.kind];rfl
 have hiσ:i<σ.length:=by rw [I.len];exact (q0s.mp hi).1
 have cne:=I.cne
 have tracked:∀ {a:Addr} {h':Heap},(∃ o,s.heap.get? a=some o/\H a=none)->g0q a s.heap h'->HOk X.prog X.w H h':=fun {a h'} ha hs b ob e=>by
  obtain ⟨_,_,hfree⟩:=ha;refine (I.hok b ob e).stay (λc w' hc q=>(hs.2 c ?_).trans q) (λ_ q=>q) λ_ _ q=>q;rintro rfl;rcases hc with rfl | hc
  ·rw [hfree] at e;cases e
  ·rw [hfree] at hc;cases hc
 rcases hx with hk | hk
 ·refine wpAny_storeName_local hk hn (λh' hn' hs=>?_) hcls
  obtain ⟨oL,_,_,hoL,_⟩:=id hn;refine h _ ⟨I.ok,I.os,I.bare,⟨λb o e n hb hx=>?_,λb o e n hb hx=>?_,I.base.free,λb o e hx=>?_,I.base.tups,I.base.frzs,I.base.tbls⟩,⟨_,hn',λj y v' e1 e2 e3=>?_⟩,λy c e=>?_,I.free,I.freeC,λp hp=>?_,tracked ⟨oL,hoL,I.free⟩ hs,by simpa using I.len⟩ ⟨_,hs,.inl rfl⟩
  ·exact (hs.2 b (z0g (q0b (q0g e) I.ok.above))).trans (I.base.keep b o e n hb hx)
  ·obtain ⟨sl,e1⟩:=I.base.slot b o e n hb hx
   exact ⟨sl,(hs.2 b (z0g (q0b (q0g e) I.ok.above))).trans e1⟩
  ·obtain ⟨o',e1⟩:=I.base.there b o e hx
   exact ⟨o',(hs.2 b (z0g (q0b (q0g e) I.ok.above))).trans e1⟩
  ·by_cases hj:j=i
   ·subst hj
    rw [hi] at e1;cases e1;rw [m0h hiσ] at e2
    cases e2
    exact ⟨u,r,.inl ⟨hk,by simp⟩⟩
   ·rw [m0r (Ne.symm hj)] at e2
    obtain ⟨u',r',q⟩:=hl j y v' e1 e2 e3;refine ⟨u',r',?_⟩;rcases q with ⟨k,e⟩ | ⟨k,c,e,z⟩
    ·refine .inl ⟨k,?_⟩
     have:y ≠ x:=λe=>hj (aD7 hN e1 (e ▸ hi))
     simp [this,e]
    ·exact .inr ⟨k,c,e,z.sameBut hs (cne y c e)⟩
  ·obtain ⟨w',z⟩:=I.cell y c e
   exact ⟨w',z.sameBut hs (cne y c e)⟩
  ·obtain ⟨e,n,ne,nf,d⟩:=I.pin p hp
   exact ⟨(hs.2 p.1 ne).trans e,n,ne,nf,d⟩
 ·have hfn:X.fn x=true:=by
   rcases hf with z | z
   ·exact z
   ·rw [z] at hk;cases hk
  obtain ⟨c,hc⟩:=I.ok.has x (.inl hk);obtain ⟨w',z⟩:=I.cell x c hc;refine wpAny_storeName_cell I.ok.kind hk hc z (λh' hc' hs=>?_);obtain ⟨oc,hoc,hocd⟩:=id z;refine h { s with heap:=h' } ⟨I.ok,I.os,I.bare,⟨λb o e n hb hx=>?_,λb o e n hb hx=>?_,I.base.free,λb o e hx=>?_,I.base.tups,I.base.frzs,I.base.tbls⟩,⟨m,hn.sameBut hs (Ne.symm (cne x c hc)),λj y v' e1 e2 e3=>?_⟩,λy c' e=>?_,I.free,I.freeC,λp hp=>?_,tracked ⟨oc,hoc,I.freeC x c hc⟩ hs,by simpa using I.len⟩ ⟨c,hs,.inr hc⟩
  ·exact (hs.2 b (z0g (q0b (q0g e) (I.ok.cab x c hfn hc)))).trans (I.base.keep b o e n hb hx)
  ·obtain ⟨sl,e1⟩:=I.base.slot b o e n hb hx
   exact ⟨sl,(hs.2 b (z0g (q0b (q0g e) (I.ok.cab x c hfn hc)))).trans e1⟩
  ·obtain ⟨o',e1⟩:=I.base.there b o e hx
   exact ⟨o',(hs.2 b (z0g (q0b (q0g e) (I.ok.cab x c hfn hc)))).trans e1⟩
  ·by_cases hj:j=i
   ·subst hj
    rw [hi] at e1;cases e1;rw [m0h hiσ] at e2
    cases e2
    exact ⟨u,r,.inr ⟨.inl hk,c,hc,hc'⟩⟩
   ·rw [m0r (Ne.symm hj)] at e2
    obtain ⟨u',r',q⟩:=hl j y v' e1 e2 e3;refine ⟨u',r',?_⟩;rcases q with q | ⟨k,c',e,z'⟩
    ·exact .inl q
    ·refine .inr ⟨k,c',e,z'.sameBut hs ?_⟩
     rintro rfl;exact hj (aD7 hN e1 (I.ok.inj _ _ _ e hc ▸ hi))
  ·by_cases hcc:c'=c
   ·subst hcc;exact ⟨_,hc'⟩
   ·obtain ⟨w2,z2⟩:=I.cell y c' e
    exact ⟨w2,z2.sameBut hs hcc⟩
  ·obtain ⟨e,n,ne,nf,d⟩:=I.pin p hp
   refine ⟨(hs.2 p.1 ?_).trans e,n,ne,nf,d⟩;intro q;rw [q,hoc] at e;have q':oc=p.2:=Option.some.inj e;exact d w' (by rw [<- q'];exact hocd)
theorem U3 {M:Model} {A:Around} {E:Value->Shared->Prop} {i:Nat} {x:Str} {v:V} {u:Value} {Q:Unit->Shared->Prop} (I:Inv X pins σ H s) (hN:X.N.Nodup) (hi:X.N[i]? = some x) (hx:Loc X.env.scope x) (r:t5 v u)
  (h:∀ s',Inv X pins (σ.set i (some v)) H s'->Q () s') (hf:X.fn x=true \/ X.env.scope.names.lookup x=some .local:=by first | exact .inl rfl | exact .inr rfl | assumption):wpAny M A (storeName X.env x u) Q E s :=
 aN9 I hN hi hx r (λs' I' _=>h s' I') hf
theorem Inv.call' {s':Shared} {ch:List Addr} (I:Inv X pins σ H s) (ho:s'.os=s.os) (u:Un (frs X.stack) ch H H' s.heap s'.heap) (hok:HOk X.prog X.w H' s'.heap) (hg:AllBare s'.gens)
  (hch:∀ b ∈ ch,(b ∈ X.ex \/ X.s₀.heap.objs.size<=b)/\b ≠ X.env.locals/\(∀ x c,X.env.cells.lookup x=some c->c ≠ b)/\∀ p ∈ X.pn ++ pins,p.1 ≠ b):Inv X pins σ H' s':=by
 obtain ⟨h',g',d',t',o'⟩:=s';have e:o'=s.os:=ho;subst e;exact I.call (g':=g') (t':=t') (d':=d') u hok hg hch
end
abbrev XK:=Value->Option Addr->Hp->Prop
abbrev St:=List (Option V)
abbrev VK:=V->Hp->Prop
abbrev TE:=St->Hp->VK->Prop
abbrev TT:=St->Hp->(Bool->Hp->Prop)->Prop
abbrev TA:=St->Hp->(List V->Hp->Prop)->Prop
structure V9 where
 nx:St->Hp->Prop
 rt:VK
 bk:St->Hp->Prop:=λ_ _=>False
 ct:St->Hp->Prop:=λ_ _=>False
abbrev TS:=V9->St->Hp->Prop
def EP (X:Cx) (pins:List (Addr × Obj)) (σ:St) (Q:VK) (u:Value) (s':Shared):Prop:=∃ v H',Inv X pins σ H' s'/\t5 v u/\Q v H'
def TP (X:Cx) (pins:List (Addr × Obj)) (σ:St) (Q:Bool->Hp->Prop) (b:Bool) (s':Shared):Prop:=∃ H',Inv X pins σ H' s'/\Q b H'
def AP (X:Cx) (pins:List (Addr × Obj)) (σ:St) (Q:List V->Hp->Prop) (us:List Value) (s':Shared):Prop:=∃ vs H',Inv X pins σ H' s'/\k8 vs us/\Q vs H'
def SP (X:Cx) (pins:List (Addr × Obj)) (D:V9) (f:Flow) (s':Shared):Prop :=
 match f with
 | .next => ∃ σ' H',Inv X pins σ' H' s'/\D.nx σ' H'
 | .brk => ∃ σ' H',Inv X pins σ' H' s'/\D.bk σ' H'
 | .cont => ∃ σ' H',Inv X pins σ' H' s'/\D.ct σ' H'
 | .ret u => ∃ v σ' H',Inv X pins σ' H' s'/\t5 v u/\D.rt v H'
def PE (X:Cx) (e:Expr) (t:TE):Prop :=
 ∀ (pins:List (Addr × Obj)) (s:Shared) (σ:St) (H:Hp) (Q:VK),Inv X pins σ H s->t σ H Q->wpAny (model X.prog X.w) X.A (eval e X.env) (EP X pins σ Q) X.xe s
def PT (X:Cx) (e:Expr) (t:TT):Prop :=
 ∀ (pins:List (Addr × Obj)) (s:Shared) (σ:St) (H:Hp) (Q:Bool->Hp->Prop),Inv X pins σ H s->t σ H Q->wpAny (model X.prog X.w) X.A (isTrue e X.env (eval e X.env)) (TP X pins σ Q) X.xe s
def PW (X:Cx) (e:Expr) (t:TT):Prop :=
 ∀ (whole:Sem Value) (pins:List (Addr × Obj)) (s:Shared) (σ:St) (H:Hp) (Q:Bool->Hp->Prop),Inv X pins σ H s->t σ H Q->wpAny (model X.prog X.w) X.A (isTrue e X.env whole) (TP X pins σ Q) X.xe s
theorem PW.pt {X:Cx} {e:Expr} {t:TT} (h:PW X e t):PT X e t:=h _
def PA (X:Cx) (es:List Expr) (t:TA):Prop :=
 ∀ (pos:Pos) (pins:List (Addr × Obj)) (s:Shared) (σ:St) (H:Hp) (Q:List V->Hp->Prop),Inv X pins σ H s->t σ H Q->wpAny (model X.prog X.w) X.A (spliced (backTo pos (starEach es X.env))) (AP X pins σ Q) X.xe s
def PS (X:Cx) (st:Stmt) (t:TS):Prop :=
 ∀ (pins:List (Addr × Obj)) (s:Shared) (σ:St) (H:Hp) (D:V9),Inv X pins σ H s->t D σ H->wpAny (model X.prog X.w) X.A (exec st X.env) (SP X pins D) X.xe s
def PSs (X:Cx) (st:List Stmt) (t:TS):Prop :=
 ∀ (pins:List (Addr × Obj)) (s:Shared) (σ:St) (H:Hp) (D:V9),Inv X pins σ H s->t D σ H->wpAny (model X.prog X.w) X.A (execs st X.env) (SP X pins D) X.xe s
theorem thn {α:Type} {t:Sem α} {Q Q':α->Shared->Prop} {M:Model} {A:Around} {E:Value->Shared->Prop} {s:Shared} (h:wpAny M A t Q E s) (hQ:∀ a s,Q a s->Q' a s):wpAny M A t Q' E s:=wpAny_mono h hQ λ_ _ x=>x
section
variable {X:Cx}
def K1 (i:Nat):TE:=λσ H Q => ∃ v,σ[i]? = some (some v)/\Q v H
def tC (v:V):TE:=λ_ H Q=>Q v H
theorem bi1 {i:Nat} {x:Str} {pos:Pos} (hN:X.N[i]? = some x) (hv:Vis X.env.scope x) (hd:(x == ("__debug__" : Str))=false:=by decide) (hcd:(x == ("__classdict__" : Str))=false:=by decide):PE X (.Name x pos) (K1 i):=by
 intro pins s σ H Q I h;obtain ⟨v,e,h⟩:=h;obtain ⟨m,hn,hl⟩:=I.loc;obtain ⟨u,r,l⟩:=hl i x v hN e hv;have fin:EP X pins σ Q u s:=⟨v,H,I,r,h⟩;rcases l with ⟨hk,hm⟩ | ⟨hk,c,hc,hcell⟩
 ·exact wpAny_Name (wpAny_loadName_local I.ok.kind hk hn hm fin) hd
 ·rcases hk with hk | hk
  ·exact wpAny_Name (wpAny_loadName_cell I.ok.kind hk hc hcell fin) hd
  ·exact wpAny_Name (wpAny_loadName_free I.ok.kind hk hc hcell fin hcd) hd
theorem c6 {i j pos}:PE X (.Constant (.int i) j pos) (tC (.int i)):=λ_ _ _ H _ I h=>wpAny_Constant_int ⟨.int i,H,I.tok _,⟨_,rfl⟩,h⟩
theorem U5 {b j pos}:PE X (.Constant (.bool b) j pos) (tC (.bl b)):=λ_ _ _ H _ I h=>Constant_bool ⟨.bl b,H,I,rfl,h⟩
theorem bi3 {j pos}:PE X (.Constant .none j pos) (tC .non):=λ_ _ _ H _ I h=>Constant_none ⟨.non,H,I,rfl,h⟩
def Gl (X:Cx) (x:Str):Prop:=X.env.kindOf x=some .globalImplicit
theorem aM0 {E:Value->Shared->Prop} {pins:List (Addr × Obj)} {s:Shared} {σ:St} {H:Hp} {x:Str} {u:Value} {pos:Pos} {Q:Value->Shared->Prop} (I:Inv X pins σ H s) (hg:Gl X x) (hm:X.mg x=some u) (h:Q u s)
  (hd:(x == ("__debug__" : Str))=false:=by decide):wpAny (model X.prog X.w) X.A (eval (.Name x pos) X.env) Q E s :=
 Calls.Name_function_global I.ok.kind hg (Calls.loadGlobal_global (by rw [I.ok.glob];exact I.mod.glob.keeps I.bk) hm h) hd
theorem V1 {E:Value->Shared->Prop} {pins:List (Addr × Obj)} {s:Shared} {σ:St} {H:Hp} {x:Str} {u:Value} {pos:Pos} {Q:Value->Shared->Prop} (I:Inv X pins σ H s) (hg:Gl X x) (hm:X.mg x=none) (hv:bootBuiltins x=some u) (h:Q u s)
  (hn:x ≠ "__name__" := by decide) (hd:(x == ("__debug__" : Str))=false:=by decide):wpAny (model X.prog X.w) X.A (eval (.Name x pos) X.env) Q E s:=by
 obtain ⟨mb,h1,h2⟩:=I.mod.blt;exact Calls.Name_function_global I.ok.kind hg (Calls.loadGlobal_builtin (by rw [I.ok.glob];exact I.mod.glob.keeps I.bk) hm (by rw [I.ok.blt];exact h1.keeps I.bk) ((h2 x hn).trans hv) h) hd
theorem ak9 {x:Str} {v:V} {u:Value} {pos:Pos} (hg:Gl X x) (hm:X.mg x=some u) (r:t5 v u) (hd:(x == ("__debug__" : Str))=false:=by decide):PE X (.Name x pos) (tC v) :=
 λ_ _ _ H _ I h=>aM0 I hg hm ⟨v,H,I,r,h⟩ hd
theorem X3 {x:Str} {v:V} {u:Value} {pos:Pos} (hg:Gl X x) (hm:X.mg x=none) (hv:bootBuiltins x=some u) (r:t5 v u) (hn:x ≠ "__name__" := by decide) (hd:(x == ("__debug__" : Str))=false:=by decide):PE X (.Name x pos) (tC v) :=
 λ_ _ _ H _ I h=>V1 I hg hm hv ⟨v,H,I,r,h⟩ hn hd
variable {a b:Expr} {ta tb:TE} {pos:Pos}
def PC (X:Cx) (op:CmpOp) (a b:Expr) (t:TE):Prop :=
 ∀ (pins:List (Addr × Obj)) (s:Shared) (σ:St) (H:Hp) (Q:VK),Inv X pins σ H s->t σ H Q ->
  wpAny (model X.prog X.w) X.A (eval a X.env) (λv s₁=>wpAny (model X.prog X.w) X.A (eval b X.env) (λu s₂=>wpAny (model X.prog X.w) X.A (compareOp op v u) (EP X pins σ Q) X.xe s₂) X.xe s₁) X.xe s
def tB (t:TE):TT:=λσ H Q=>t σ H λx H1 => ∃ c,x=.bl c/\Q c H1
theorem R6 {e:Expr} {t:TE} (h:PE X e t) (he:∀ whole,isTrue e X.env whole=(do let v <- whole;standAt e.pos;holding [v] (truthy v)):=by intro _;rfl):PT X e (tB t):=by
 intro pins s σ H Q I hw;refine isTrue_plain (thn (h pins s σ H _ I hw) λv s1 zq=>?_) (he _);obtain ⟨x,H1,I1,r1,q1⟩:=zq;obtain ⟨d,rfl,q⟩:=q1
 cases r1
 exact wpAny_truthy_bool ⟨H1,I1,q⟩
variable {tA tB':TT} {aj4:List Expr}
def aB1 (t u:TT):TT:=λσ H Q=>t σ H λc H1=>if c=true then u σ H1 Q else Q false H1
def tOr (t u:TT):TT:=λσ H Q=>t σ H λc H1=>if c=true then Q true H1 else u σ H1 Q
def aA7 (t:TT):TT:=λσ H Q=>t σ H λc H1=>Q (!c) H1
theorem ak8 (ha:PT X a tA):PW X (.BoolOp .And [a] pos) tA:=by
 intro wh pins s σ H Q I h;refine isTrue_and (thn (ha pins s σ H Q I h) λc s1 e=>?_)
 cases c with
 | true=>exact isTrue_and_nil e
 | false=>exact e
theorem af2 (ha:PT X a tA):PW X (.BoolOp .Or [a] pos) tA:=by
 intro wh pins s σ H Q I h;refine isTrue_or (thn (ha pins s σ H Q I h) λc s1 e=>?_)
 cases c with
 | false=>exact isTrue_or_nil e
 | true=>exact e
theorem aw1 (ha:PT X a tA) (hb:PW X (.BoolOp .And (b :: aj4) pos) tB'):PW X (.BoolOp .And (a :: b :: aj4) pos) (aB1 tA tB'):=by
 intro wh pins s σ H Q I h;refine isTrue_and (thn (ha pins s σ H _ I h) λc s1 zq=>?_);obtain ⟨H1,I1,q1⟩:=zq
 cases c with
 | true=>exact hb wh pins s1 σ H1 Q I1 q1
 | false=>exact ⟨H1,I1,q1⟩
theorem Q3 (ha:PT X a tA) (hb:PW X (.BoolOp .Or (b :: aj4) pos) tB'):PW X (.BoolOp .Or (a :: b :: aj4) pos) (tOr tA tB'):=by
 intro wh pins s σ H Q I h;refine isTrue_or (thn (ha pins s σ H _ I h) λc s1 zq=>?_);obtain ⟨H1,I1,q1⟩:=zq
 cases c with
 | true=>exact ⟨H1,I1,q1⟩
 | false=>exact hb wh pins s1 σ H1 Q I1 q1
theorem N0 (ha:PT X a tA):PT X (.UnaryOp .Not a pos) (aA7 tA):=by
 intro pins s σ H Q I h;exact isTrue_not (ha pins s σ H (λc H1=>Q (!c) H1) I h)
def ah4 (ta tb:TE):TE:=λσ H Q=>ta σ H λx H1 => ∃ c,x=.bl c/\if c=true then tb σ H1 Q else Q (.bl false) H1
def ag9 (ta:TE):TE:=λσ H Q=>ta σ H λx H1 => ∃ c,x=.bl c/\Q (.bl (!c)) H1
theorem aH6 {op} {t:TE} (h:PE X a t):PE X (.BoolOp op [a] pos) t:=λpins s σ H Q I hw=>BoolOp_one (h pins s σ H Q I hw)
theorem aw8 (ha:PE X a ta) (hb:PE X (.BoolOp .And (b :: aj4) pos) tb):PE X (.BoolOp .And (a :: b :: aj4) pos) (ah4 ta tb):=by
 intro pins s σ H Q I h;refine BoolOp_and (thn (ha pins s σ H _ I h) λv s1 zq=>?_);obtain ⟨x,H1,I1,r1,q1⟩:=zq;obtain ⟨c,rfl,q1⟩:=q1
 cases r1
 refine wpAny_truthy_bool ?_
 cases c with
 | true=>exact hb pins s1 σ H1 Q I1 q1
 | false=>exact ⟨.bl false,H1,I1,rfl,q1⟩
theorem bi2 (ha:PE X a ta):PE X (.UnaryOp .Not a pos) (ag9 ta):=by
 intro pins s σ H Q I h;refine UnaryOp_ (thn (ha pins s σ H _ I h) λv s1 zq=>?_);obtain ⟨x,H1,I1,r1,q1⟩:=zq;obtain ⟨c,rfl,q1⟩:=q1
 cases r1
 exact not_of (wpAny_truthy_bool ⟨.bl (!c),H1,I1,rfl,q1⟩)
def tIf (t:TT) (ta tb:TE):TE:=λσ H Q=>t σ H λc H1=>if c=true then ta σ H1 Q else tb σ H1 Q
theorem aD1 {c:Expr} (hc:PT X c tA) (ha:PE X a ta) (hb:PE X b tb):PE X (.IfExp c a b pos) (tIf tA ta tb):=by
 intro pins s σ H Q I h;refine wpAny_IfExp (thn (hc pins s σ H _ I h) λd s1 zq=>?_);obtain ⟨H1,I1,q1⟩:=zq
 cases d with
 | true=>exact ha pins s1 σ H1 Q I1 q1
 | false=>exact hb pins s1 σ H1 Q I1 q1
end
def SqL (K:q0a) (H:Hp) (a:Addr) (xs:List V):Prop :=
 Rd H a (.lst xs) \/
  ∃ (o:Obj) (its:Array Value) (n:Nat),K.lookup a=some o/\o.cls=.type "list"/\o.dict=none/\o.data=.seq its n/\its.size<=sizeLine/\k8 xs its.toList
def SqT (K:q0a) (H:Hp) (a:Addr) (xs:List V):Prop :=
 Rd H a (.tup xs) \/
  ∃ (o:Obj) (its:Array Value) (n:Nat),K.lookup a=some o/\o.cls=.type "tuple"/\o.data=.seq its n/\its.size<=sizeLine/\k8 xs its.toList
def bq4:Value->Option V
 | .none=>some .non
 | .bool b=>some (.bl b)
 | .int i _=>some (.int i)
 | .str x _=>some (.str x)
 | .bytes b _=>some (.byt b)
 | .float b _=>some (.flt b)
 | .ref a=>some (.ref a)
 | .type n=>some (.ty n)
 | _=>none
theorem t5.abs {x:V} {u:Value} (r:t5 x u):bq4 u=some x:=by
 cases x with
 | non=>cases r;rfl
 | bl _=>cases r;rfl
 | int _=>obtain ⟨t,rfl⟩:=r;rfl
 | str _=>obtain ⟨t,rfl⟩:=r;rfl
 | byt _=>obtain ⟨t,rfl⟩:=r;rfl
 | flt _=>obtain ⟨t,rfl⟩:=r;rfl
 | ref _=>cases r;rfl
 | ty _=>cases r;rfl
theorem t5.inj {x y:V} {u:Value} (r:t5 x u) (q:t5 y u):x=y:=Option.some.inj (r.abs.symm.trans q.abs)
theorem k8.inj:∀ {xs ys:List V} {us:List Value},k8 xs us->k8 ys us->xs=ys
 | _,_,_,.nil,.nil=>rfl
 | _,_,_,.cons r t,.cons r' t'=>by rw [r.inj r',k8.inj t t']
section
variable {X:Cx} {pins:List (Addr × Obj)} {σ:St} {H:Hp} {s:Shared} {a:Addr} {xs ys:List V}
theorem SqL.of {K:q0a} (h:H a=some (.lst xs)):SqL K H a xs:=.inl (.inl h)
theorem SqT.of {K:q0a} (h:H a=some (.tup xs)):SqT K H a xs:=.inl (.inl h)
theorem Inv.list (I:Inv X pins σ H s) (h:SqL X.K H a xs):∃ its:List Value,k8 xs its/\PlainL s.heap a its.toArray/\xs.length<=sizeLine:=by
 rcases h with h | ⟨o,its,n,hk,hc,hd,hs,hz,r⟩
 ·obtain ⟨z,its,n,r,e⟩:=h.ok I.hok
  exact ⟨its,r,⟨_,n,e,rfl,rfl,rfl⟩,z⟩
 ·refine ⟨its.toList,r,⟨o,n,I.kIn a o hk,hc,hd,by simpa using hs⟩,?_⟩
  have e:=r.length;simp only [m0t] at e;omega
theorem Inv.tuple (I:Inv X pins σ H s) (h:SqT X.K H a xs):∃ its:List Value,k8 xs its/\IsTup s.heap a its.toArray/\xs.length<=sizeLine:=by
 rcases h with h | ⟨o,its,n,hk,hc,hs,hz,r⟩
 ·obtain ⟨z,its,r,p⟩:=h.ok I.hok
  exact ⟨its,r,p,z⟩
 ·refine ⟨its.toList,r,⟨o,I.kIn a o hk,hc,n,by simpa using hs⟩,?_⟩
  have e:=r.length;simp only [m0t] at e;omega
theorem Inv.list_inj (I:Inv X pins σ H s) (h:SqL X.K H a xs) (h':SqL X.K H a ys):xs=ys:=by
 obtain ⟨its,r,⟨o,n,e,_,_,d⟩,_⟩:=I.list h;obtain ⟨its',r',⟨o',n',e',_,_,d'⟩,_⟩:=I.list h';rw [e] at e';cases e';rw [d] at d'
 injection d' with d1 _
 have:its=its':=by simpa using congrArg Array.toList d1
 subst this;exact r.inj r'
theorem Inv.tuple_inj (I:Inv X pins σ H s) (h:SqT X.K H a xs) (h':SqT X.K H a ys):xs=ys:=by
 obtain ⟨its,r,⟨o,e,_,n,d⟩,_⟩:=I.tuple h;obtain ⟨its',r',⟨o',e',_,n',d'⟩,_⟩:=I.tuple h';rw [e] at e';cases e';rw [d] at d'
 injection d' with d1 _
 have:its=its':=by simpa using congrArg Array.toList d1
 subst this;exact r.inj r'
end
abbrev Cx.wish (X:Cx) (E:Value->Shared->Prop):Cx:={ X with xe:=E }
abbrev Cx.nox (X:Cx):Cx:=X.wish λ_ _=>False
theorem Cx.Ok.wish {X:Cx} (ok:X.Ok) (E:Value->Shared->Prop):(X.wish E).Ok :=
 ⟨ok.mod,ok.kind,ok.glob,ok.blt,ok.above,ok.inj,ok.has,ok.cab,ok.hd,ok.frames,ok.stk,ok.exf,ok.bs,ok.bsz,ok.noex,ok.exfs,ok.funs,ok.frf⟩
theorem Cx.Ok.unwish {X:Cx} {E:Value->Shared->Prop} (ok:(X.wish E).Ok):X.Ok :=
 ⟨ok.mod,ok.kind,ok.glob,ok.blt,ok.above,ok.inj,ok.has,ok.cab,ok.hd,ok.frames,ok.stk,ok.exf,ok.bs,ok.bsz,ok.noex,ok.exfs,ok.funs,ok.frf⟩
section
variable {X:Cx} {pins:List (Addr × Obj)} {σ:St} {H:Hp} {s:Shared} {E:Value->Shared->Prop}
theorem Inv.wish (I:Inv X pins σ H s) (E:Value->Shared->Prop):Inv (X.wish E) pins σ H s:=⟨I.ok.wish E,I.os,I.bare,I.base,I.loc,I.cell,I.free,I.freeC,I.pin,I.hok,I.len⟩
theorem Inv.unwish (I:Inv (X.wish E) pins σ H s):Inv X pins σ H s:=⟨I.ok.unwish,I.os,I.bare,I.base,I.loc,I.cell,I.free,I.freeC,I.pin,I.hok,I.len⟩
theorem SP.unwish {D:V9} {f:Flow} {s':Shared} (h:SP (X.wish E) pins D f s'):SP X pins D f s':=by
 cases f with
 | next=>obtain ⟨σ',H',I,q⟩:=h;exact ⟨σ',H',I.unwish,q⟩
 | brk=>obtain ⟨σ',H',I,q⟩:=h;exact ⟨σ',H',I.unwish,q⟩
 | cont=>obtain ⟨σ',H',I,q⟩:=h;exact ⟨σ',H',I.unwish,q⟩
 | ret u=>obtain ⟨v,σ',H',I,r,q⟩:=h;exact ⟨v,σ',H',I.unwish,r,q⟩
theorem PSs.nox {st:List Stmt} {t:TS} (h:PSs X.nox st t):PSs X st t:=λpins s σ H D I hw =>
 wpAny_mono (h pins s σ H D (I.wish _) hw) (λ_ _ q=>q.unwish) λ_ _ z=>False.elim z
end
section
variable {X:Cx} {st:Stmt} {aj4:List Stmt} {t u:TS} {e:Expr} {te:TE} {pos:Pos}
def ah0:TS:=λD σ H=>D.nx σ H
def au4 (t u:TS):TS:=λD σ H=>t { D with nx:=u D } σ H
theorem m6:PSs X [] ah0:=λ_ _ σ H _ I h=>wpAny_execs_nil ⟨σ,H,I,h⟩
theorem c7 (h1:PS X st t) (h2:PSs X aj4 u):PSs X (st :: aj4) (au4 t u):=by
 intro pins s σ H D I h;refine wpAny_execs_cons (thn (h1 pins s σ H { D with nx:=u D } I h) λf s1 q=>?_)
 cases f with
 | next =>
  obtain ⟨σ',H',I',q⟩:=q;exact h2 pins s1 σ' H' D I' q
 | ret v=>exact q
 | brk=>exact q
 | cont=>exact q
theorem c9 (h1:PS X st t):PSs X [st] t:=by
 intro pins s σ H D I h;refine wpAny_execs_cons (thn (h1 pins s σ H D I h) λf s1 q=>?_)
 cases f with
 | next=>exact wpAny_execs_nil q
 | ret v=>exact q
 | brk=>exact q
 | cont=>exact q
theorem Inv.quiet {pins:List (Addr × Obj)} {σ:St} {H:Hp} {s:Shared} (I:Inv X pins σ H s):interactive X.env=false:=by simp [interactive,I.ok.kind]
def ah2 (te:TE):TS:=λD σ H=>te σ H λ_ H1=>D.nx σ H1
theorem ac6 (he:PE X e te) (hs:swapsWith e none pos.line X.env=pure false:=by rfl):PS X (.Expr e pos) (ah2 te):=by
 intro pins s σ H D I h;exact wpAny_Expr_any (thn (he pins s σ H _ I h) λv s1 ⟨x,H1,I1,r1,q1⟩=>⟨σ,H1,I1,q1⟩) I.quiet hs
def au5 (te:TE):TS:=λD σ H=>te σ H D.rt
theorem i5 (he:PE X e te):PS X (.Return (some e) pos) (au5 te):=by
 intro pins s σ H D I h;exact wpAny_Return_some (thn (he pins s σ H _ I h) λv s1 ⟨x,H1,I1,r1,q1⟩=>⟨x,σ,H1,I1,r1,q1⟩)
def aA9 (c:TT) (t u:TS):TS:=λD σ H=>c σ H λb H1=>if b=true then t D σ H1 else u D σ H1
theorem w8 {c:Expr} {a b:List Stmt} {tc:TT} (hc:PT X c tc) (ha:PSs X a t) (hb:PSs X b u):PS X (.If c a b pos) (aA9 tc t u):=by
 intro pins s σ H D I h;refine wpAny_If (thn (hc pins s σ H _ I h) λd s1 zq=>?_);obtain ⟨H1,I1,q1⟩:=zq
 cases d with
 | true=>exact ha pins s1 σ H1 D I1 q1
 | false=>exact hb pins s1 σ H1 D I1 q1
def U1:TS:=λ_ _ _=>False
theorem aC9:PS X st U1:=λ_ _ _ _ _ _ h=>h.elim
end
abbrev TG:=V->St->Hp->(St->Hp->Prop)->Prop
abbrev TGs:=List V->St->Hp->(St->Hp->Prop)->Prop
def PG (X:Cx) (target:Expr) (t:TG):Prop :=
 ∀ (pins:List (Addr × Obj)) (s:Shared) (σ:St) (H:Hp) (v:V) (u:Value) (Q:St->Hp->Prop),Inv X pins σ H s->t5 v u->t v σ H Q ->
  wpAny (model X.prog X.w) X.A (assign target X.env u) (λ_ s' => ∃ σ' H',Inv X pins σ' H' s'/\Q σ' H') X.xe s
def PGs (X:Cx) (ts:List Expr) (t:TGs):Prop :=
 ∀ (pins:List (Addr × Obj)) (s:Shared) (σ:St) (H:Hp) (vs:List V) (us:List Value) (Q:St->Hp->Prop),Inv X pins σ H s->k8 vs us->t vs σ H Q ->
  wpAny (model X.prog X.w) X.A (assignInOrder ((assignEach ts X.env).map (·.2)) us) (λ_ s' => ∃ σ' H',Inv X pins σ' H' s'/\Q σ' H') X.xe s
abbrev aZ7:=V->V->V->Hp->(Hp->Prop)->Prop
def bm0 (X:Cx) (t:aZ7):Prop :=
 ∀ (pins:List (Addr × Obj)) (s:Shared) (σ:St) (H:Hp) (o i v:V) (ov iv u:Value) (Q:Hp->Prop),Inv X pins σ H s->t5 o ov->t5 i iv->t5 v u->t o i v H Q ->
  wpAny (model X.prog X.w) X.A (setItem ov iv u) (λ_ s' => ∃ H',Inv X pins σ H' s'/\Q H') X.xe s
abbrev TIp:=V->V->Hp->VK->Prop
def PIp (X:Cx) (op:Operator) (t:TIp):Prop :=
 ∀ (pins:List (Addr × Obj)) (s:Shared) (σ:St) (H:Hp) (x y:V) (v u:Value) (Q:VK),Inv X pins σ H s->t5 x v->t5 y u->t x y H Q ->
  wpAny (model X.prog X.w) X.A (inplaceOp op v u) (EP X pins σ Q) X.xe s
section
variable {X:Cx} {pos:Pos}
def m9 (i:Nat):TG:=λv σ H Q=>Q (σ.set i (some v)) H
theorem i3 {i:Nat} {x:Str} (hN:X.N.Nodup) (hi:X.N[i]? = some x) (hx:Loc X.env.scope x) (hf:X.fn x=true \/ X.env.scope.names.lookup x=some .local:=by first | exact .inl rfl | exact .inr rfl | assumption):PG X (.Name x pos) (m9 i):=by
 intro pins s σ H v u Q I r h;exact wpAny_assign_Name (U3 I hN hi hx r (λs' I'=>⟨_,H,I',h⟩) hf)
def N4:TGs:=λvs σ H Q=>vs=[]/\Q σ H
def p9 (t:TG) (u:TGs):TGs:=λvs σ H Q => ∃ v r,vs=v :: r/\t v σ H λσ' H'=>u r σ' H' Q
theorem y6:PGs X [] N4:=by
 intro pins s σ H vs us Q I r h;obtain ⟨e,h⟩:=h;subst e
 cases r
 exact assignInOrder_nil ⟨σ,H,I,h⟩
theorem j9 {e:Expr} {es:List Expr} {t:TG} {u:TGs} (h1:PG X e t) (h2:PGs X es u)
  (hs:(assignEach (e :: es) X.env).map (·.2)=assign e X.env :: (assignEach es X.env).map (·.2):=by rfl):PGs X (e :: es) (p9 t u):=by
 intro pins s σ H vs us Q I r h;obtain ⟨v,vr,e1,h⟩:=h;subst e1
 cases r with
 | cons r rr =>
  rw [hs];refine assignInOrder_cons (thn (h1 pins s σ H _ _ _ I r h) λ_ s1 zq=>?_);obtain ⟨σ1,H1,I1,q1⟩:=zq;exact h2 pins s1 σ1 H1 _ _ Q I1 rr q1
def N3 (K:q0a) (n:Nat) (t:TGs):TG:=λv σ H Q => ∃ a xs,v=.ref a/\SqT K H a xs/\xs.length=n/\t xs σ H Q
theorem E2 {es:List Expr} {k:Nat} {t:TGs} {n:Nat} (hc:X.calm=true) (h:PGs X es t)
  (hn:(assignEach es X.env).length=n:=by rfl) (hst:(assignEach es X.env).findIdx? (·.1)=none:=by rfl):PG X (.Tuple es k pos) (N3 X.K n t):=by
 intro pins s σ H v u Q I r hw;obtain ⟨a,xs,e1,hq,hl,hw⟩:=hw;subst e1
 cases r
 obtain ⟨its,rv,ht,hz⟩:=I.tuple hq;refine assign_Tuple_tuple (I.ok.hd hc) ht (by simp [hn,<- hl,rv.length]) hst λh' hx=>?_
 have I1:Inv X pins σ H { s with heap:=h' }:=I.kept (t':=s.toks) λb o e=>hx b o (z0g (q0g e)) e;exact h pins _ σ H xs _ Q I1 (by simpa using rv) hw
def aF5 (to ti:TE) (t:aZ7):TG:=λv σ H Q=>to σ H λo H1=>ti σ H1 λi H2=>t o i v H2 λH3=>Q σ H3
theorem aw6 {o i:Expr} {to ti:TE} {t:aZ7} (ho:PE X o to) (hi:PE X i ti) (hs:bm0 X t)
  (ha:∀ v,assign (.Subscript o i pos) X.env v=(do
   let ov <- holding [v] (eval o X.env)
   let iv <- holding [v,ov] (eval i X.env)
   standAt pos
   holding [v,ov,iv] (setItem ov iv v)
   release [v,ov,iv] []):=by intro _;rfl):PG X (.Subscript o i pos) (aF5 to ti t):=by
 intro pins s σ H v u Q I r h;rw [ha];refine wpAny_bind (wpAny_holding (thn (ho pins s σ H _ I h) λov s1 zq=>?_));obtain ⟨x,H1,I1,r1,q1⟩:=zq;refine wpAny_bind (wpAny_holding (thn (hi pins s1 σ H1 _ I1 q1) λiv s2 zq=>?_));obtain ⟨y,H2,I2,r2,q2⟩:=zq;refine wpAny_bind (wpAny_standAt (wpAny_bind (wpAny_holding (thn (hs pins s2 σ H2 x y v ov iv u _ I2 r1 r2 r q2) λ_ s3 zq=>?_))));obtain ⟨H3,I3,q3⟩:=zq;exact wpAny_release ⟨σ,H3,I3,q3⟩
def ap5 (te:TE) (g:TG):TS:=λD σ H=>te σ H λx H1=>g x σ H1 D.nx
theorem af3 {tg e : Expr} {te : TE} {g : TG} (he : PE X e te) (hg : PG X tg g) (hs : swapsWithSole [tg] e pos.line X.env = pure false := by rfl) (hw : swappedStores [tg] e X.env = pure none := by rfl)
    (h1:(assignEach [tg] X.env).map (·.2)=[assign tg X.env]:=by rfl):PS X (.Assign [tg] e pos) (ap5 te g):=by
  intro pins s σ H D I h;refine wpAny_Assign_stores (thn (he pins s σ H _ I h) λv s1 zq=>?_) hs hw;obtain ⟨x,H1,I1,r1,q1⟩:=zq;rw [h1];exact thn (hg pins s1 σ H1 x v _ I1 r1 q1) λ_ s2 q=>q
theorem d9 {i:Nat} {x:Str} {e:Expr} {te:TE} {pos':Pos} (hN:X.N.Nodup) (hi:X.N[i]? = some x) (hx:Loc X.env.scope x) (he:PE X e te) (hs:swapsWith e (some (.Name x pos')) pos.line X.env=pure false:=by rfl) (hf:X.fn x=true \/ X.env.scope.names.lookup x=some .local:=by first | exact .inl rfl | exact .inr rfl | assumption) :
  PS X (.Assign [.Name x pos'] e pos) (ap5 te (m9 i)):=by
 intro pins s σ H D I h;refine wpAny_Assign_Name (thn (he pins s σ H _ I h) λv s1 zq=>?_) hs;obtain ⟨y,H1,I1,r1,q1⟩:=zq;exact U3 I1 hN hi hx r1 (λs2 I2=>⟨_,H1,I2,q1⟩) hf
def au6 (i j:Nat) (ta:TA):TS:=λD σ H=>ta σ H λvs H1 => ∃ v w,vs=[v,w]/\D.nx ((σ.set i (some v)).set j (some w)) H1
theorem aa5 {i j:Nat} {x y:Str} {a b:Expr} {ta:TA} {px py pt:Pos} {kt k2 pt2} (hc:X.calm=true) (hN:X.N.Nodup) (hi:X.N[i]? = some x) (hj:X.N[j]? = some y) (hij:i ≠ j)
  (hx:X.env.scope.names.lookup x=some .local) (hy:X.env.scope.names.lookup y=some .local) (ha:PA X [a,b] ta)
  (hw:swappedStores [.Tuple [.Name x px,.Name y py] kt pt] (.Tuple [a,b] k2 pt2) X.env=pure (some [x,y]))
  (hs:swapsWithSole [.Tuple [.Name x px,.Name y py] kt pt] (.Tuple [a,b] k2 pt2) pos.line X.env=pure false:=by rfl) :
  PS X (.Assign [.Tuple [.Name x px,.Name y py] kt pt] (.Tuple [a,b] k2 pt2) pos) (au6 i j ta):=by
 intro pins s σ H D I h;rw [exec_Assign_arm];refine wpAny_bind (wpAny_standAt ?_);rw [hs];refine wpAny_bind (wpAny_pure ?_);rw [if_neg (by decide)]
 refine wpAny_bind (Tuple_ (thn (ha _ pins s σ H _ I h) λus s1 zq=>?_));obtain ⟨vs,H1,I1,r1,q1⟩:=zq;obtain ⟨v,w,e1,q1⟩:=q1;subst e1
 obtain ⟨u1,u2,rfl,rv,rw'⟩:∃ u1 u2,us=[u1,u2]/\t5 v u1/\t5 w u2:=by
  cases r1 with
  | cons p q =>
   cases q with
   | cons p' q' =>
    cases q'
    exact ⟨_,_,rfl,p,p'⟩
 refine wpAny_newObj_type ?_ (by show 2<=sizeLine;decide)
 have I2:Inv X pins σ H1 { s1 with heap:=s1.heap.push { cls:=.type "tuple",data:=.seq [u1,u2].toArray } }:=I1.kept (t':=s1.toks) λb o e=>q0u _ e
 rw [hw];refine wpAny_bind (wpAny_pure ?_)
 show wpAny (model X.prog X.w) X.A (do rule "assign.swapped-stores";let items <- unpackItems (.ref s1.heap.objs.size) 2 none;assignInOrder [λv=>bindName X.env y v,λv=>bindName X.env x v] items.reverse;pure Flow.next) _ _ _
 refine wpAny_bind (wpAny_rule (wpAny_bind (unpackItems_tuple (items:=#[u1,u2]) (I.ok.hd hc) (IsTup.new s1.heap _) λh' hx'=>?_)));have I3:=I2.kept (h':=h') (t':=s1.toks) λb o e=>hx' b o (z0g (q0g e)) e
 show wpAny _ _ (assignInOrder [λv=>bindName X.env y v,λv=>bindName X.env x v] [u2,u1] >>= λ_=>pure Flow.next) _ _ _;refine wpAny_bind (assignInOrder_cons (wpAny_bindName (U3 I3 hN hj (.inl hy) rw' (λs2 I4=>?_) (.inr hy))));refine assignInOrder_cons (wpAny_bindName (U3 I4 hN hi (.inl hx) rv (λs3 I5=>assignInOrder_nil (wpAny_pure ?_)) (.inr hx)));rw [List.set_comm _ _ (Ne.symm hij)] at I5;exact ⟨_,H1,I5,q1⟩
def aB0 (i:Nat) (te:TE) (ti:TIp):TS:=λD σ H => ∃ x,σ[i]? = some (some x)/\te σ H λy H1=>ti x y H1 λz H2=>D.nx (σ.set i (some z)) H2
theorem aH5 {i:Nat} {x:Str} {e:Expr} {te:TE} {op:Operator} {ti:TIp} {pos':Pos} (hN:X.N.Nodup) (hi:X.N[i]? = some x) (hx:Loc X.env.scope x) (he:PE X e te) (ho:PIp X op ti) (hf:X.fn x=true \/ X.env.scope.names.lookup x=some .local:=by first | exact .inl rfl | exact .inr rfl | assumption) :
  PS X (.AugAssign (.Name x pos') op e pos) (aB0 i te ti):=by
 intro pins s σ H D I h;obtain ⟨v,e1,h⟩:=h;obtain ⟨m,hn,hl⟩:=I.loc;have vis:Vis X.env.scope x:=by rcases hx with k | k;exact .inl k;exact .inr (.inl k)
 obtain ⟨u,r,l⟩:=hl i x v hi e1 vis;refine wpAny_AugAssign_Name ?_
 have go:wpAny (model X.prog X.w) X.A (eval e X.env) (λw s₂=>wpAny (model X.prog X.w) X.A (inplaceOp op u w) (λr s₃=>wpAny (model X.prog X.w) X.A (storeName X.env x r) (λ_=>SP X pins D .next) X.xe s₃) X.xe s₂) X.xe s:=by
  refine thn (he pins s σ H _ I h) λw s1 zq=>?_;obtain ⟨y,H1,I1,r1,q1⟩:=zq;refine thn (ho pins s1 σ H1 v y u w _ I1 r r1 q1) λz s2 zq=>?_;obtain ⟨zv,H2,I2,r2,q2⟩:=zq;exact U3 I2 hN hi hx r2 (λs3 I3=>⟨_,H2,I3,q2⟩) hf
 rcases l with ⟨hk,hm⟩ | ⟨hk,c,hc,hcell⟩
 ·exact wpAny_loadName_local I.ok.kind hk hn hm go
 ·rcases hk with hk | hk
  ·exact wpAny_loadName_cell I.ok.kind hk hc hcell go
  ·rcases hx with k | k
   ·have:X.env.scope.names.lookup x=some .free:=hk
    rw [k] at this;cases this
   ·have:X.env.scope.names.lookup x=some .free:=hk
    rw [k] at this;cases this
def ah3 (to ti te:TE) (tget:V->V->Hp->VK->Prop) (tip:TIp) (tset:aZ7):TS:=λD σ H=>to σ H λo H1=>ti σ H1 λi H2=>tget o i H2 λx H3=>te σ H3 λy H4=>tip x y H4 λz H5=>tset o i z H5 λH6=>D.nx σ H6
def bo9 (X:Cx) (t:V->V->Hp->VK->Prop):Prop :=
 ∀ (pins:List (Addr × Obj)) (s:Shared) (σ:St) (H:Hp) (o i:V) (ov iv:Value) (Q:VK),Inv X pins σ H s->t5 o ov->t5 i iv->t o i H Q ->
  wpAny (model X.prog X.w) X.A (getItem ov iv) (EP X pins σ Q) X.xe s
theorem aL5 {o i e:Expr} {to ti te:TE} {tget:V->V->Hp->VK->Prop} {tip:TIp} {tset:aZ7} {op:Operator} {tpos:Pos} (ho:PE X o to) (hi:PE X i ti) (hg:bo9 X tget) (he:PE X e te) (hp:PIp X op tip) (hs:bm0 X tset)
  (ha:∀ ov iv new,augStore i ov iv new=(do holding [new,ov,iv] (setItem ov iv new);release [new,ov,iv] [];pure .next):=by intros;rfl):PS X (.AugAssign (.Subscript o i tpos) op e pos) (ah3 to ti te tget tip tset):=by
 intro pins s σ H D I h;refine wpAny_AugAssign_SubscriptAny (thn (ho pins s σ H _ I h) λov s1 zq=>?_) ha;obtain ⟨x1,H1,I1,r1,q1⟩:=zq;refine thn (hi pins s1 σ H1 _ I1 q1) λiv s2 zq=>?_;obtain ⟨x2,H2,I2,r2,q2⟩:=zq;refine thn (hg pins s2 σ H2 x1 x2 ov iv _ I2 r1 r2 q2) λold s3 zq=>?_;obtain ⟨x3,H3,I3,r3,q3⟩:=zq;refine thn (he pins s3 σ H3 _ I3 q3) λv s4 zq=>?_;obtain ⟨x4,H4,I4,r4,q4⟩:=zq;refine thn (hp pins s4 σ H4 x3 x4 old v _ I4 r3 r4 q4) λnew s5 zq=>?_;obtain ⟨x5,H5,I5,r5,q5⟩:=zq;refine thn (hs pins s5 σ H5 x1 x2 x5 ov iv new _ I5 r1 r2 r5 q5) λ_ s6 zq=>?_;obtain ⟨H6,I6,q6⟩:=zq;exact ⟨σ,H6,I6,q6⟩
def ipI (f:Int->Int->Int):TIp:=λx y H Q => ∃ i j,x=.int i/\y=.int j/\Q (.int (f i j)) H
theorem aW5:PIp X .Add (ipI λi j=>i+j):=by
 intro pins s σ H x y v u Q I r1 r2 h;obtain ⟨i,j,e1,e2,q⟩:=h;subst e1;subst e2;obtain ⟨t,rfl⟩:=r1;obtain ⟨t',rfl⟩:=r2;exact iadd_int ⟨.int _,H,I.tok _,⟨_,rfl⟩,q⟩
theorem aW4:PIp X .Sub (ipI λi j=>i-j):=by
 intro pins s σ H x y v u Q I r1 r2 h;obtain ⟨i,j,e1,e2,q⟩:=h;subst e1;subst e2;obtain ⟨t,rfl⟩:=r1;obtain ⟨t',rfl⟩:=r2;exact isub_int ⟨.int _,H,I.tok _,⟨_,rfl⟩,q⟩
def aa1 (c:TT) (tb:TS):TS:=λD σ H => ∃ W:Nat->St->Hp->Prop,(∃ m,W m σ H)/\∀ m σ H,W m σ H ->
 c σ H λb H1=>if b=true then ∃ N:St->Hp->Prop,(∀ σ' H',N σ' H'->∃ m',m'<m/\W m' σ' H')/\tb { D with nx:=N,ct:=N,bk:=D.nx } σ H1 else D.nx σ H1
theorem F7 {c:Expr} {body:List Stmt} {tc:TT} {tb:TS} (hp:PassesOwn (model X.prog X.w) X.A X.env X.xe) (hc:PT X c tc) (hb:PSs X body tb):PS X (.While c body [] pos) (aa1 tc tb):=by
 intro pins s σ H D I h;obtain ⟨W,⟨m0,w0⟩,turn⟩:=h;refine wpAny_While (codeAny_whileLoop (λn s' => ∃ σ' H',Inv X pins σ' H' s'/\W n σ' H') ?_ m0 ⟨σ,H,I,w0⟩);rintro n s1 ⟨σ1,H1,I1,w1⟩;refine wpAny_passesOwn hp (thn (hc pins s1 σ1 H1 _ I1 (turn n σ1 H1 w1)) λb s2 zq=>?_);obtain ⟨H2,I2,q2⟩:=zq
 cases b with
 | true =>
  obtain ⟨N,hN,q2⟩:=q2;rw [if_pos rfl];refine wpAny_passesOwn hp (thn (hb pins s2 σ1 H2 _ I2 q2) λf s3 q3=>?_)
  cases f with
  | next =>
   obtain ⟨σ3,H3,I3,n3⟩:=q3;obtain ⟨m',hm,w3⟩:=hN σ3 H3 n3;exact ⟨m',hm,σ3,H3,I3,w3⟩
  | cont =>
   obtain ⟨σ3,H3,I3,n3⟩:=q3;obtain ⟨m',hm,w3⟩:=hN σ3 H3 n3;exact ⟨m',hm,σ3,H3,I3,w3⟩
  | brk=>exact q3
  | ret v=>exact q3
 | false =>
  rw [if_neg q0v];exact wpAny_execs_nil ⟨σ1,H2,I2,q2⟩
end
structure It where
 go:Nat->Hp->Prop
 yld:Nat->Hp->V->Hp->Prop
 stop:Nat->Hp->Prop
def ak3 (X:Cx) (pins:List (Addr × Obj)) (H:Hp) (b:Addr):Prop :=
 H b=none/\b ≠ X.env.locals/\b ∉ X.fs/\(b ∈ X.ex \/ X.s₀.heap.objs.size<=b)/\(∀ x c,X.env.cells.lookup x=some c->c ≠ b)/\∀ p ∈ X.pn ++ pins,p.1 ≠ b
theorem Inv.fpOk {X:Cx} {pins:List (Addr × Obj)} {σ:St} {H H':Hp} {s:Shared} {b:Addr} (I:Inv X pins σ H s) (hb:s.heap.objs.size<=b) (hn:H' b=none):ak3 X pins H' b:=by
 refine ⟨hn,m0u (q0b I.lt hb),I.nofs hb,.inr (z0f I.sz hb),λx c e z=>?_,λp hp z=>?_⟩
 ·obtain ⟨v,q⟩:=I.cell x c e
  exact absurd (q0b q.lt (by rw [z];exact hb)) (j0w _)
 ·exact absurd (q0b (q0g (I.pin p hp).1) (by rw [z];exact hb)) (j0w _)
structure aZ6 (P:Program) (w:World) (K:q0a) (tg:Expr) (J:It) (fp:List Addr) (it:Addr) (tn:Nat->Heap->Prop):Prop where
 mem:it ∈ fp
 obj:∀ i h,tn i h->∀ b ∈ fp,∃ o,h.get? b=some o/\∀ v,o.data ≠ .cell v
 keep:∀ i h h',tn i h->(∀ b ∈ fp,∀ o,h.get? b=some o->h'.get? b=some o)->tn i h'
 item:∀ (X:Cx),X.prog=P->X.w=w->X.K=K->X.calm=true->∀ (i:Nat) (pins:List (Addr × Obj)) (s:Shared) (σ:St) (H:Hp) (E:Value->Shared->Prop),Inv X pins σ H s->(∀ b ∈ fp,ak3 X pins H b)->tn i s.heap->J.go i H ->
  wpAny (model P w) X.A (pyNext (.ref it)) (λr s1 => ∃ u,r=some u /\
   wpAny (model P w) X.A (letOwnedTupleGo tg (.ref it) u) (λ_ s2 => ∃ x H',Inv X pins σ H' s2/\t5 x u/\J.yld i H x H'/\tn (i+1) s2.heap/\∀ b ∈ fp,H' b=none) E s1) E s
 done:∀ (X:Cx),X.prog=P->X.w=w->X.K=K->X.calm=true->∀ (i:Nat) (pins:List (Addr × Obj)) (s:Shared) (σ:St) (H:Hp) (E:Value->Shared->Prop),Inv X pins σ H s->(∀ b ∈ fp,ak3 X pins H b)->tn i s.heap->J.stop i H ->
  wpAny (model P w) X.A (pyNext (.ref it)) (λr s1=>r=none/\Inv X pins σ H s1) E s
 self:∀ (A:Around) (i:Nat) (s:Shared) (Q:Value->Shared->Prop) (E:Value->Shared->Prop),tn i s.heap->Q (.ref it) s->wpAny (model P w) A (pyIter (.ref it)) Q E s
abbrev TI:=St->Hp->(It->Hp->Prop)->Prop
def PIE (X:Cx) (pins:List (Addr × Obj)) (σ:St) (tg:Expr) (R:It->Hp->Prop) (itv:Value) (s2:Shared):Prop :=
 ∃ (it:Addr) (fp:List Addr) (tn:Nat->Heap->Prop) (J:It) (H':Hp),itv=.ref it/\Inv X pins σ H' s2/\aZ6 X.prog X.w X.K tg J fp it tn/\tn 0 s2.heap/\(∀ b ∈ fp,ak3 X pins H' b)/\R J H'
def PI (X:Cx) (tg iter:Expr) (wi:TI):Prop :=
 ∀ (pins:List (Addr × Obj)) (s:Shared) (σ:St) (H:Hp) (R:It->Hp->Prop),Inv X pins σ H s->wi σ H R ->
  wpAny (model X.prog X.w) X.A (eval iter X.env) (λv s1=>wpAny (model X.prog X.w) X.A (pyIter v) (PIE X pins σ tg R) X.xe s1) X.xe s
theorem bg0 {M : Model} {A : Around} {E : Value → Shared → Prop} {s : Shared} {tg : Expr} {it : Addr} {u : Value} {o : Obj} {n : String} {vs : Array Value} {Q : Unit → Shared → Prop} (ho : s.heap.get? it = some o) (hc : o.cls = .type n) (hd : o.data = .fields vs)
    (hn:["enumerate","zip","dict_itemiterator","dict_reverseitemiterator","odict_iterator","itertools.zip_longest","itertools.pairwise"].contains n=false) (hQ:Q () s):wpAny M A (letOwnedTupleGo tg (.ref it) u) Q E s:=by
  unfold letOwnedTupleGo
  cases tg <;> first
    | exact wpAny_pure hQ
    | (cases u <;> first
        | exact wpAny_pure hQ
        | (refine wpAny_bind (wpAny_load ho ?_)
           rw [hc,hd]
           show wpAny M A (if (["enumerate","zip","dict_itemiterator","dict_reverseitemiterator","odict_iterator","itertools.zip_longest","itertools.pairwise"].contains n && vs[0]? == some (rawInt _))=true then _ else _) Q E s
           rw [if_neg (by intro h;rw [hn,Bool.false_and] at h;cases h)]
           exact wpAny_pure hQ))
def Itl (K:q0a) (a:Addr):It :=
 ⟨λi H => ∃ xs x,SqL K H a xs/\xs[i]? = some x,λi H x H'=>H'=H/\∀ xs,SqL K H a xs->xs[i]? = some x,λi H => ∃ xs,SqL K H a xs/\xs.length<=i⟩
def Itr (lo:Int) (n:Nat):It:=⟨λi _=>i<n,λi H x H'=>H'=H/\x=.int (lo+i),λi _=>n<=i⟩
theorem aN6 {P:Program} {w:World} {K:q0a} {tg:Expr} (a it:Addr):aZ6 P w K tg (Itl K a) [it] it (λi h=>h.IsListIter it a i) where
 mem:=by simp
 obj:=λi h st b hb=>by
  have e:b=it:=by simpa using hb
  subst e;obtain ⟨o,e,c,d⟩:=st;exact ⟨o,e,λv z=>by rw [d] at z;cases z⟩
 keep:=λi h h' st k=>st.at λo e=>k it (by simp) o e
 item:=by
  intro X hP hw hK hc i pins s σ H E I hf st hg;subst hP hw hK;obtain ⟨xs,x,hq,hx⟩:=hg;obtain ⟨its,rv,p,hz⟩:=I.list hq;obtain ⟨u,hu,ru⟩:=rv.get hx;obtain ⟨f0,f1,f2,f3,f4,f5⟩:=hf it (by simp)
  refine wpAny_pyNext_list_item st p.isList (x:=u) (by simpa using hu) λh' st' sb=>?_
  have I1:Inv X pins σ H { s with heap:=h' }:=I.turned (t':=s.toks) (λb o hb e=>(sb.2 b hb).trans e) f0 f1 f3 f4 f5;obtain ⟨o,e,c,d⟩:=id st';exact ⟨u,rfl,bg0 (s:={ s with heap:=h' }) e c d (by decide) ⟨x,H,I1,ru,⟨rfl,λys hy=>by rw [I.list_inj hy hq];exact hx⟩,st',λb hb=>(hf b hb).1⟩⟩
 done:=by
  intro X hP hw hK hc i pins s σ H E I hf st hg;subst hP hw hK;obtain ⟨xs,hq,hx⟩:=hg;obtain ⟨its,rv,p,hz⟩:=I.list hq;obtain ⟨f0,f1,f2,f3,f4,f5⟩:=hf it (by simp)
  have hl:=rv.length;exact wpAny_pyNext_list_end (I.ok.hd hc) st p.isList (by simp;omega) λh' eb=>⟨rfl,I.turned (t':=s.toks) (λb o hb e=>eb b o hb e) f0 f1 f3 f4 f5⟩
 self:=λ_ _ _ _ _ st h=>wpAny_pyIter_listiter st h
theorem aH2 {P:Program} {w:World} {K:q0a} {tg:Expr} (it:Addr) (lo:Int) (n:Nat):aZ6 P w K tg (Itr lo n) [it] it (λi h=>IsRangeIter h it (lo+(i:Nat)*1) ((n:Int)-(i:Nat)) 1) where
 mem:=by simp
 obj:=λi h st b hb=>by
  have e:b=it:=by simpa using hb
  subst e
  exact ⟨_,st,λv z=>by
   have z':Data.fields _=Data.cell v:=z
   cases z'⟩
 keep:=λi h h' st k=>k it (by simp) _ st
 item:=by
  intro X hP hw hK hc i pins s σ H E I hf st hg;subst hP hw hK;obtain ⟨f0,f1,f2,f3,f4,f5⟩:=hf it (by simp)
  have W:=Walks.range (prog:=X.prog) (w:=X.w) (I.ok.hd hc) it lo 1 n;refine W.item i s _ _ hg st λv h' tk hv st' kk=>?_;obtain ⟨t,rfl⟩:=hv;have I1:Inv X pins σ H { s with heap:=h',toks:=tk }:=I.turned (λb o hb e=>kk b o (by simpa using hb) e) f0 f1 f3 f4 f5
  refine ⟨_,rfl,bg0 (s:={ s with heap:=h',toks:=tk }) (n := "range_iterator") st' rfl rfl (by decide) ⟨.int (lo+i),H,I1,⟨t,?_⟩,⟨rfl,rfl⟩,st',λb hb=>(hf b hb).1⟩⟩
  rw [Int.mul_one]
 done:=by
  intro X hP hw hK hc i pins s σ H E I hf st hg;subst hP hw hK;obtain ⟨f0,f1,f2,f3,f4,f5⟩:=hf it (by simp)
  exact wpAny_pyNext_range_end (I.ok.hd hc) st (by have:n<=i:=hg;omega) λh' eb=>⟨rfl,I.turned (t':=s.toks) (λb o hb e=>eb b o hb e) f0 f1 f3 f4 f5⟩
 self:=λ_ _ _ _ _ st h=>wpAny_pyIter_rangeiter st h
section
variable {X:Cx} {tg:Expr}
def ai2 (K:q0a) (tl:TE):TI:=λσ H R=>tl σ H λx H1 => ∃ a,x=.ref a/\(∃ xs,SqL K H1 a xs)/\R (Itl K a) H1
theorem v6 {l:Expr} {tl:TE} (hl:PE X l tl):PI X tg l (ai2 X.K tl):=by
 intro pins s σ H R I h;refine thn (hl pins s σ H _ I h) λv s1 zq=>?_;obtain ⟨x,H1,I1,r1,q1⟩:=zq;obtain ⟨a,e,⟨xs,hq⟩,q⟩:=q1;subst e
 cases r1
 obtain ⟨its,rv,p,hz⟩:=I1.list hq;refine wpAny_pyIter_list p.isList ?_;refine ⟨s1.heap.objs.size,[s1.heap.objs.size],_,_,H1,rfl,I1.kept (t':=s1.toks) λb o e=>q0u _ e,aN6 a _,⟨_,z0x _ rfl,rfl,rfl⟩,λb hb=>?_,q⟩;have e:b=s1.heap.objs.size:=by simpa using hb
 subst e;exact I1.fpOk (q0t _) (I1.hok.fresh (q0t _))
theorem aC0 {pins:List (Addr × Obj)} {σ:St} {H:Hp} {s:Shared} {R:It->Hp->Prop} {E:Value->Shared->Prop} {lo hi:Int} {t u v:Tok} {tk:Nat} (I:Inv X pins σ H s) (h1:-(2 ^ 62)<=lo) (h2:lo<2 ^ 62) (h3:-(2 ^ 62)<=hi) (h4:hi<2 ^ 62)
  (q:R (Itr lo (hi-lo).toNat) H):wpAny (model X.prog X.w) X.A (pyIter (.ref s.heap.objs.size)) (PIE X pins σ tg R) E { s with heap:=s.heap.push { cls:=.type "range",data:=.fields #[.int lo t,.int hi u,.int 1 v] },toks:=tk }:=by
 refine wpAny_pyIter_range (IsRange.new ..) (small_one h1 h2 h3 h4) ?_;have I1:Inv X pins σ H { s with heap:=s.heap.push { cls:=.type "range",data:=.fields #[.int lo t,.int hi u,.int 1 v] },toks:=tk }:=I.kept λb o e=>q0u _ e
 refine ⟨(s.heap.push { cls:=.type "range",data:=.fields #[.int lo t,.int hi u,.int 1 v] }).objs.size,[(s.heap.push { cls:=.type "range",data:=.fields #[.int lo t,.int hi u,.int 1 v] }).objs.size],_,_,H,rfl,
  I1.kept (t':=tk) λb o e=>q0u _ e,aH2 _ lo (hi-lo).toNat,?_,λb hb=>?_,q⟩
 ·have e1:lo+((0:Nat):Int)*1=lo:=by simp
  have e2:(((hi-lo).toNat:Nat):Int)-((0:Nat):Int)=Builtin.Range.rangeSize lo hi 1:=by rw [rangeSize_one];split <;> omega
  show IsRangeIter _ _ (lo+((0:Nat):Int)*1) ((((hi-lo).toNat:Nat):Int)-((0:Nat):Int)) 1;rw [e1,e2];exact z0x _ rfl
 ·have e:b=(s.heap.push { cls:=.type "range",data:=.fields #[.int lo t,.int hi u,.int 1 v] }).objs.size:=by simpa using hb
  subst e;exact I1.fpOk (q0t _) (I1.hok.fresh (q0t _))
def ai1 (ta:TA):TI:=λσ H R=>ta σ H λvs H1 => ∃ j:Int,vs=[.int j]/\-(2 ^ 62)<=j/\j<2 ^ 62/\R (Itr 0 j.toNat) H1
def ai0 (ta:TA):TI:=λσ H R=>ta σ H λvs H1 => ∃ i j:Int,vs=[.int i,.int j]/\(-(2 ^ 62)<=i/\i<2 ^ 62/\-(2 ^ 62)<=j/\j<2 ^ 62)/\R (Itr i (j-i).toNat) H1
theorem W9 {a:Expr} {ta:TA} {p pos:Pos} (hg:Gl X "range") (hm:X.mg "range" = none) (ha:PA X [a] ta) (hs:starEach [a] X.env=[(false,eval a X.env)]:=by rfl):PI X tg (.Call (.Name "range" p) [a] [] pos) (ai1 ta):=by
 intro pins s σ H R I h;refine Call_ (V1 I hg hm boot_range (PyProof.Rows.callWith_type1 (thn (ha pos pins s σ H _ I h) λus s1 zq=>?_) hs rfl));obtain ⟨vs,H1,I1,r1,q1⟩:=zq;obtain ⟨j,e,q1,q2,q⟩:=q1;subst e
 cases r1 with
 | cons r rr =>
  cases rr
  obtain ⟨t,rfl⟩:=r;exact call_range_1 (aC0 I1 ⋯ ⋯ q1 q2 (by simpa using q))
theorem aO7 {a b:Expr} {ta:TA} {p pos:Pos} (hg:Gl X "range") (hm:X.mg "range" = none) (ha:PA X [a,b] ta) (hs:starEach [a,b] X.env=[(false,eval a X.env),(false,eval b X.env)]:=by rfl) (hs2:starEach [b] X.env=[(false,eval b X.env)]:=by rfl) :
  PI X tg (.Call (.Name "range" p) [a,b] [] pos) (ai0 ta):=by
 intro pins s σ H R I h;refine Call_ (V1 I hg hm boot_range (PyProof.Rows.callWith_type1 (thn (ha pos pins s σ H _ I h) λus s1 zq=>?_) (by rw [hs,hs2]) (by rw [hs2];rfl)))
 obtain ⟨vs,H1,I1,r1,q1⟩:=zq;obtain ⟨i,j,e,⟨q1,q2,q3,q4⟩,q⟩:=q1;subst e
 cases r1 with
 | cons r rr =>
  cases rr with
  | cons r' rr =>
   cases rr
   obtain ⟨t,rfl⟩:=r;obtain ⟨t',rfl⟩:=r';exact call_range_2 (aC0 I1 q1 q2 q3 q4 q)
def bp3 (wi:TI) (g:TG) (tb:TS):TS:=λD σ H=>wi σ H λJ H1 => ∃ W:Nat->Nat->St->Hp->Prop,(∃ m,W 0 m σ H1)/\∀ i m σ H,W i m σ H ->
 (J.stop i H/\D.nx σ H) \/ (J.go i H/\∃ N:St->Hp->Prop,(∀ σ' H',N σ' H'->∃ m',m'<m/\W (i+1) m' σ' H')/\∀ x H',J.yld i H x H'->g x σ H' λσ2 H2=>tb { D with nx:=N,ct:=N,bk:=D.nx } σ2 H2)
def aw5 (fp:List Addr) (h:Heap):List (Addr × Obj):=fp.filterMap λb=>(h.get? b).map λo=>(b,o)
theorem B6 {fp:List Addr} {h:Heap} {b:Addr} {o:Obj} (hb:b ∈ fp) (e:h.get? b=some o):(b,o) ∈ aw5 fp h:=List.mem_filterMap.mpr ⟨b,hb,by rw [e];rfl⟩
theorem aO9 {fp:List Addr} {h:Heap} {p:Addr × Obj} (hp:p ∈ aw5 fp h):p.1 ∈ fp/\h.get? p.1=some p.2:=by
 obtain ⟨b,hb,e⟩:=List.mem_filterMap.mp hp
 cases q:h.get? b with
 | none=>rw [q] at e;cases e
 | some o =>
  rw [q] at e;have e':(b,o)=p:=Option.some.inj e;subst e';exact ⟨hb,q⟩
theorem Inv.pinned {pins:List (Addr × Obj)} {σ:St} {H:Hp} {s:Shared} {fp:List Addr} (I:Inv X pins σ H s) (hf:∀ b ∈ fp,ak3 X pins H b) (ho:∀ b ∈ fp,∃ o,s.heap.get? b=some o/\∀ v,o.data ≠ .cell v):Inv X (pins ++ aw5 fp s.heap) σ H s :=
 I.pins_of λp hp=>(v0u.mp hp).elim (λz=>I.pin p (z0d _ z)) λz=>by
  obtain ⟨hb,e⟩:=aO9 z;obtain ⟨f0,f1,f2,_⟩:=hf p.1 hb;obtain ⟨o,e',d⟩:=ho p.1 hb;rw [e] at e';cases e';exact ⟨e,f0,f1,f2,d⟩
theorem Inv.unpinned {pins pl:List (Addr × Obj)} {σ:St} {H:Hp} {s:Shared} (I:Inv X (pins ++ pl) σ H s):Inv X pins σ H s:=I.pins_of λp hp=>I.pin p (z0d _ (m0q _ hp))
theorem C2 {iter:Expr} {body:List Stmt} {wi:TI} {g:TG} {tb:TS} {pos:Pos} (hp:PassesOwn (model X.prog X.w) X.A X.env X.xe) (hc:X.calm=true) (hi:PI X tg iter wi) (hg:PG X tg g) (hb:PSs X body tb)
  (hs:∀ x,foldedSetIterable iter X.env x=pure x:=by intro _;rfl):PS X (.For tg iter body [] pos) (bp3 wi g tb):=by
 intro pins s σ H D I h;refine wpAny_For (thn (hi pins s σ H _ I h) λv s1 h1=>thn h1 λitv s2 h2=>?_) hs;obtain ⟨it,fp,tn,J,H2,e,I2,T,st2,f2,W,⟨m0,w0⟩,turn⟩:=h2;subst e
 -- what stays true of the iterator's objects through the loop
 have stat:∀ {H':Hp},(∀ b ∈ fp,H' b=none)->∀ b ∈ fp,ak3 X pins H' b:=λhn b hb=>⟨hn b hb,(f2 b hb).2⟩;refine codeAny_forLoop_any (λn s' => ∃ i σ' H',Inv X pins σ' H' s'/\tn i s'.heap/\(∀ b ∈ fp,H' b=none)/\W i n σ' H') ?_ m0 ⟨0,σ,H2,I2,st2,λb hb=>(f2 b hb).1,w0⟩;rintro n s3 ⟨i,σ3,H3,I3,st3,fr3,w3⟩;rcases turn i n σ3 H3 w3 with ⟨stop,qn⟩ | ⟨go,N,hN,step⟩
 ·refine wpAny_passesOwn hp (thn (T.done X rfl rfl rfl hc i pins s3 σ3 H3 X.xe I3 (stat fr3) st3 stop) λr s4 zq=>?_)
  obtain ⟨hr,I4⟩:=zq;subst hr;exact wpAny_execs_nil ⟨σ3,H3,I4,qn⟩
 ·refine wpAny_passesOwn hp (thn (T.item X rfl rfl rfl hc i pins s3 σ3 H3 X.xe I3 (stat fr3) st3 go) λr s4 zq=>?_)
  obtain ⟨u,hr,h4⟩:=zq;subst hr;refine wpAny_passesOwn hp (thn h4 λ_ s5 zq=>?_);obtain ⟨x,H5,I5,r5,y5,st5,fr5⟩:=zq;have I5':=I5.pinned (stat fr5) (T.obj _ _ st5);refine wpAny_passesOwn hp (thn (hg _ s5 σ3 H5 x u _ I5' r5 (step x H5 y5)) λ_ s6 zq=>?_);obtain ⟨σ6,H6,I6,q6⟩:=zq;refine wpAny_passesOwn hp (thn (hb _ s6 σ6 H6 _ I6 q6) λf s7 q7=>?_)
  have again:∀ {σ7:St} {H7:Hp},Inv X (pins ++ aw5 fp s5.heap) σ7 H7 s7->N σ7 H7->∃ m,m<n/\∃ i σ' H',Inv X pins σ' H' s7/\tn i s7.heap/\(∀ b ∈ fp,H' b=none)/\W i m σ' H':=fun {σ7 H7} I7 n7=>by
   obtain ⟨m',hm,w7⟩:=hN σ7 H7 n7;refine ⟨m',hm,i+1,σ7,H7,I7.unpinned,T.keep _ _ _ st5 λb hb o e=>(I7.pin (b,o) (z0d _ (z0d _ (B6 hb e)))).1,λb hb=>?_,w7⟩;obtain ⟨o,e,d⟩:=T.obj _ _ st5 b hb;exact (I7.pin (b,o) (z0d _ (z0d _ (B6 hb e)))).2.1
  cases f with
  | next=>obtain ⟨σ7,H7,I7,n7⟩:=q7;exact again I7 n7
  | cont=>obtain ⟨σ7,H7,I7,n7⟩:=q7;exact again I7 n7
  | brk=>obtain ⟨σ7,H7,I7,q7⟩:=q7;exact ⟨σ7,H7,I7.unpinned,q7⟩
  | ret v=>obtain ⟨x7,σ7,H7,I7,r7,q7⟩:=q7;exact ⟨x7,σ7,H7,I7.unpinned,r7,q7⟩
end
theorem J4 {K:q0a} {a:Addr} {xs:List V} {g:TG} {tb:TS} {D:V9} {σ:St} {H:Hp} (Pv:Nat->St->Hp->Prop) (h0:Pv 0 σ H) (hl:∀ i σ H,i<=xs.length->Pv i σ H->SqL K H a xs)
  (hs:∀ i x σ H,xs[i]? = some x->Pv i σ H->g x σ H λσ2 H2=>tb { D with nx:=Pv (i+1),ct:=Pv (i+1),bk:=D.nx } σ2 H2) (hd:∀ σ H,Pv xs.length σ H->D.nx σ H) :
  ∃ W:Nat->Nat->St->Hp->Prop,(∃ m,W 0 m σ H)/\∀ i m σ H,W i m σ H ->
   ((Itl K a).stop i H/\D.nx σ H) \/ ((Itl K a).go i H/\∃ N:St->Hp->Prop,(∀ σ' H',N σ' H'->∃ m',m'<m/\W (i+1) m' σ' H')/\∀ x H',(Itl K a).yld i H x H'->g x σ H' λσ2 H2=>tb { D with nx:=N,ct:=N,bk:=D.nx } σ2 H2):=by
 refine ⟨λi m σ H=>m=xs.length-i/\i<=xs.length/\Pv i σ H,⟨xs.length,by simp,z0m _,h0⟩,?_⟩
 rintro i m σ H ⟨rfl,hi,p⟩;have q:=hl i σ H hi p
 by_cases hlt:i<xs.length
 ·refine .inr ⟨⟨xs,xs[i],q,by simp [hlt]⟩,Pv (i+1),λσ' H' p'=>⟨xs.length-(i+1),⋯,rfl,hlt,p'⟩,λx H' y=>?_⟩
  obtain ⟨e,y⟩:=y;subst e;exact hs i x σ _ (y xs q) p
 ·have e:i=xs.length:=⋯
  subst e;exact .inl ⟨⟨xs,q,q0t _⟩,hd σ H p⟩
theorem ag2 {lo:Int} {n:Nat} {g:TG} {tb:TS} {D:V9} {σ:St} {H:Hp} (Pv:Nat->St->Hp->Prop) (h0:Pv 0 σ H)
  (hs:∀ i σ H,i<n->Pv i σ H->g (.int (lo+i)) σ H λσ2 H2=>tb { D with nx:=Pv (i+1),ct:=Pv (i+1),bk:=D.nx } σ2 H2) (hd:∀ σ H,Pv n σ H->D.nx σ H) :
  ∃ W:Nat->Nat->St->Hp->Prop,(∃ m,W 0 m σ H)/\∀ i m σ H,W i m σ H ->
   ((Itr lo n).stop i H/\D.nx σ H) \/ ((Itr lo n).go i H/\∃ N:St->Hp->Prop,(∀ σ' H',N σ' H'->∃ m',m'<m/\W (i+1) m' σ' H')/\∀ x H',(Itr lo n).yld i H x H'->g x σ H' λσ2 H2=>tb { D with nx:=N,ct:=N,bk:=D.nx } σ2 H2):=by
 refine ⟨λi m σ H=>m=n-i/\i<=n/\Pv i σ H,⟨n,by simp,z0m _,h0⟩,?_⟩
 rintro i m σ H ⟨rfl,hi,p⟩
 by_cases hlt:i<n
 ·refine .inr ⟨hlt,Pv (i+1),λσ' H' p'=>⟨n-(i+1),⋯,rfl,hlt,p'⟩,λx H' y=>?_⟩
  obtain ⟨e,y⟩:=y;subst e y;exact hs i σ _ hlt p
 ·have e:i=n:=⋯
  subst e;exact .inl ⟨q0t _,hd σ H p⟩
theorem aA5 {c:TT} {tb:TS} {D:V9} {σ:St} {H:Hp} (Pv:St->Hp->Prop) (μ:St->Hp->Nat) (h0:Pv σ H)
  (hs:∀ σ H,Pv σ H->c σ H λb H1=>if b=true then tb { D with nx:=λσ' H'=>Pv σ' H'/\μ σ' H'<μ σ H,ct:=λσ' H'=>Pv σ' H'/\μ σ' H'<μ σ H,bk:=D.nx } σ H1 else D.nx σ H1)
  (mono:∀ σ H Q Q',(∀ b H1,Q b H1->Q' b H1)->c σ H Q->c σ H Q'):aa1 c tb D σ H:=by
 refine ⟨λm σ H=>m=μ σ H/\Pv σ H,⟨_,rfl,h0⟩,?_⟩;rintro m σ H ⟨rfl,p⟩;refine mono σ H _ _ (λb H1 q=>?_) (hs σ H p)
 cases b with
 | true=>exact ⟨_,λσ' H' ⟨p',l⟩=>⟨_,l,rfl,p'⟩,q⟩
 | false=>exact q
abbrev R2:=V->V->Hp->VK->Prop
def OpR (X:Cx) (f:Value->Value->Sem Value) (r:R2):Prop :=
 ∀ (pins:List (Addr × Obj)) (s:Shared) (σ:St) (H:Hp) (x y:V) (v u:Value) (Q:VK),Inv X pins σ H s->t5 x v->t5 y u->r x y H Q ->
  wpAny (model X.prog X.w) X.A (f v u) (EP X pins σ Q) X.xe s
def UnR (X:Cx) (f:Value->Sem Value) (r:V->Hp->VK->Prop):Prop :=
 ∀ (pins:List (Addr × Obj)) (s:Shared) (σ:St) (H:Hp) (x:V) (v:Value) (Q:VK),Inv X pins σ H s->t5 x v->r x H Q ->
  wpAny (model X.prog X.w) X.A (f v) (EP X pins σ Q) X.xe s
def T7 (X:Cx) (f:Value) (r:List V->Hp->VK->Prop):Prop :=
 ∀ (pins:List (Addr × Obj)) (s:Shared) (σ:St) (H:Hp) (xs:List V) (us:List Value) (Q:VK),Inv X pins σ H s->k8 xs us->r xs H Q ->
  wpAny (model X.prog X.w) X.A (call f us) (EP X pins σ Q) X.xe s
def bq5 (X:Cx) (r:V->Hp->(Bool->Hp->Prop)->Prop):Prop :=
 ∀ (pins:List (Addr × Obj)) (s:Shared) (σ:St) (H:Hp) (x:V) (v:Value) (Q:Bool->Hp->Prop),Inv X pins σ H s->t5 x v->r x H Q ->
  wpAny (model X.prog X.w) X.A (truthy v) (TP X pins σ Q) X.xe s
def tOp (r:R2) (ta tb:TE):TE:=λσ H Q=>ta σ H λx H1=>tb σ H1 λy H2=>r x y H2 Q
def tUn (r:V->Hp->VK->Prop) (ta:TE):TE:=λσ H Q=>ta σ H λx H1=>r x H1 Q
def rI (C:Int->Int->Prop) (g:Int->Int->V):R2:=λx y H Q => ∃ i j,x=.int i/\y=.int j/\C i j/\Q (g i j) H
def rI0 (g:Int->Int->V):R2:=λx y H Q => ∃ i j,x=.int i/\y=.int j/\Q (g i j) H
def rU (g:Int->V):V->Hp->VK->Prop:=λx H Q => ∃ i,x=.int i/\Q (g i) H
section
variable {X:Cx} {a b c:Expr} {ta tb tc:TE} {pos:Pos}
theorem bl6 (ha:PE X a ta) (hb:PE X b tb) {pins:List (Addr × Obj)} {s:Shared} {σ:St} {H:Hp} {R:V->V->Hp->Prop} (I:Inv X pins σ H s)
  (h:ta σ H λx H1=>tb σ H1 λy H2=>R x y H2) {Q:Value->Shared->Prop} {f:Value->Value->Sem Value}
  (hf:∀ v u s2 x y H2,Inv X pins σ H2 s2->t5 x v->t5 y u->R x y H2->wpAny (model X.prog X.w) X.A (f v u) Q X.xe s2) :
  wpAny (model X.prog X.w) X.A (eval a X.env) (λv s₁=>wpAny (model X.prog X.w) X.A (eval b X.env) (λu s₂=>wpAny (model X.prog X.w) X.A (f v u) Q X.xe s₂) X.xe s₁) X.xe s:=by
 refine thn (ha pins s σ H _ I h) λv s1 zq=>?_;obtain ⟨x,H1,I1,r1,q1⟩:=zq;refine thn (hb pins s1 σ H1 _ I1 q1) λu s2 zq=>?_;obtain ⟨y,H2,I2,r2,q2⟩:=zq;exact hf v u s2 x y H2 I2 r1 r2 q2
theorem f8 {op:Operator} {r:R2} (ho:OpR X (binaryOp op) r) (ha:PE X a ta) (hb:PE X b tb):PE X (.BinOp a op b pos) (tOp r ta tb):=by
 intro pins s σ H Q I h;exact wpAny_BinOp (bl6 ha hb I h λv u s2 x y H2 I2 rx ry q=>ho pins s2 σ H2 x y v u Q I2 rx ry q)
theorem O8 {op:UnaryOp} {r:V->Hp->VK->Prop} (ho:UnR X (unaryOp op) r) (ha:PE X a ta):PE X (.UnaryOp op a pos) (tUn r ta):=by
 intro pins s σ H Q I h;exact UnaryOp_ (thn (ha pins s σ H _ I h) λv s1 ⟨x,H1,I1,r1,q1⟩=>ho pins s1 σ H1 x v Q I1 r1 q1)
theorem opI {f:Value->Value->Sem Value} {C:Int->Int->Prop} {g:Int->Int->Int}
  (rule:∀ (i j:Int) (t u:Tok) (s:Shared) (Q:Value->Shared->Prop) (E:Value->Shared->Prop),C i j->Q (.int (g i j) s.toks) { s with toks:=s.toks+1 }->wpAny (model X.prog X.w) X.A (f (.int i t) (.int j u)) Q E s) :
  OpR X f (rI C λi j=>.int (g i j)):=by
 intro pins s σ H x y v u Q I rx ry h;obtain ⟨i,j,rfl,rfl,hc,q⟩:=h;obtain ⟨t,rfl⟩:=rx;obtain ⟨t',rfl⟩:=ry;exact rule i j t t' s _ _ hc ⟨.int (g i j),H,I.tok _,⟨_,rfl⟩,q⟩
theorem bn2 {f:Value->Value->Sem Value} {g:Int->Int->Int}
  (rule:∀ (i j:Int) (t u:Tok) (s:Shared) (Q:Value->Shared->Prop) (E:Value->Shared->Prop),Q (.int (g i j) s.toks) { s with toks:=s.toks+1 }->wpAny (model X.prog X.w) X.A (f (.int i t) (.int j u)) Q E s) :
  OpR X f (rI0 λi j=>.int (g i j)):=by
 intro pins s σ H x y v u Q I rx ry h;obtain ⟨i,j,rfl,rfl,q⟩:=h;obtain ⟨t,rfl⟩:=rx;obtain ⟨t',rfl⟩:=ry;exact rule i j t t' s _ _ ⟨.int (g i j),H,I.tok _,⟨_,rfl⟩,q⟩
theorem bb4 {f:Value->Value->Sem Value} {g:Int->Int->Bool}
  (rule:∀ (i j:Int) (t u:Tok) (s:Shared) (Q:Value->Shared->Prop) (E:Value->Shared->Prop),Q (.bool (g i j)) s->wpAny (model X.prog X.w) X.A (f (.int i t) (.int j u)) Q E s) :
  OpR X f (rI0 λi j=>.bl (g i j)):=by
 intro pins s σ H x y v u Q I rx ry h;obtain ⟨i,j,rfl,rfl,q⟩:=h;obtain ⟨t,rfl⟩:=rx;obtain ⟨t',rfl⟩:=ry;exact rule i j t t' s _ _ ⟨.bl (g i j),H,I,rfl,q⟩
def bm4 (i j:Int):Prop:=0<=j/\j<=1000000/\i.natAbs<2 ^ 64
theorem F8:OpR X (binaryOp .Add) (rI0 λi j=>.int (i+j)):=bn2 λ_ _ _ _ _ _ _ q=>add_int q
theorem R7:OpR X (binaryOp .Sub) (rI0 λi j=>.int (i-j)):=bn2 λ_ _ _ _ _ _ _ q=>sub_int q
theorem D7:OpR X (binaryOp .Mod) (rI (λ_ j=>j ≠ 0) λi j=>.int (i.fmod j)):=opI λ_ _ _ _ _ _ _ hc q=>mod_int' hc q
theorem U6:OpR X (binaryOp .Pow) (rI bm4 λi j=>.int (i ^ j.toNat)):=opI λ_ _ _ _ _ _ _ hc q=>pow_int_small hc.1 hc.2.1 hc.2.2 q
theorem unI {f:Value->Sem Value} {g:Int->Int}
  (rule:∀ (i:Int) (t:Tok) (s:Shared) (Q:Value->Shared->Prop) (E:Value->Shared->Prop),Q (.int (g i) s.toks) { s with toks:=s.toks+1 }->wpAny (model X.prog X.w) X.A (f (.int i t)) Q E s) :
  UnR X f (rU λi=>.int (g i)):=by
 intro pins s σ H x v Q I rx h;obtain ⟨i,rfl,q⟩:=h;obtain ⟨t,rfl⟩:=rx;exact rule i t s _ _ ⟨.int (g i),H,I.tok _,⟨_,rfl⟩,q⟩
theorem E9:UnR X (unaryOp .USub) (rU λi=>.int (-i)):=unI λ_ _ _ _ _ q=>neg_int q
def aO3:V->V->Bool
 | .non,.non=>true | .non,.int _=>true | .int _,.non=>true | .non,.bl _=>true | .bl _,.non=>true | .non,.str _=>true | .str _,.non=>true
 | .int _,.int _=>true | .bl _,.bl _=>true | .str _,.str _=>true | .byt _,.byt _=>true
 | .int _,.str _=>true | .str _,.int _=>true | .bl _,.str _=>true | .str _,.bl _=>true
 | _,_=>false
def rEq:R2:=λx y H Q=>aO3 x y=true/\Q (.bl (decide (x=y))) H
def rNe:R2:=λx y H Q=>aO3 x y=true/\Q (.bl (!decide (x=y))) H
theorem aN1 {i j:Int}:decide (V.int i=V.int j)=(i == j):=by
 rw [u0u]
 simp
theorem aY4 {i j:Bool}:decide (V.bl i=V.bl j)=(i == j):=by
 rw [u0u]
 simp
theorem aN0 {i j:Str}:decide (V.str i=V.str j)=(i == j):=by
 rw [u0u]
 simp
theorem aN2 {i j:Array UInt8}:decide (V.byt i=V.byt j)=(i.toList == j.toList):=by
 rw [u0u]
 cases i
 cases j
 simp
theorem o0 {pins:List (Addr × Obj)} {σ:St} {H:Hp} {s:Shared} {Q:VK} {k k':Bool} (I:Inv X pins σ H s) (q:Q (.bl k) H) (e:k=k'):EP X pins σ Q (.bool k') s:=by
 subst e;exact ⟨.bl k,H,I,rfl,q⟩
theorem ac8:OpR X (compareOp .Eq) rEq:=by
 intro pins s σ H x y v u Q I rx ry h;obtain ⟨hs,q⟩:=h
 cases x with
 | non =>
  cases rx
  cases y with
  | non=>cases ry;exact PySem.EqNone.eq_none_none (o0 I q (by simp))
  | bl j=>cases ry;exact PySem.EqNone.eq_none_bool (o0 I q (by simp))
  | int j=>obtain ⟨t',rfl⟩:=ry;exact PySem.EqNone.eq_none_int (o0 I q (by simp))
  | str j=>obtain ⟨t',rfl⟩:=ry;exact PySem.EqNone.eq_none_str (o0 I q (by simp))
  | _=>exact absurd (show false=true from hs) q0v
 | bl i =>
  cases rx
  cases y with
  | non=>cases ry;exact PySem.EqNone.eq_bool_none (o0 I q (by simp))
  | bl j=>cases ry;exact eq_bool (o0 I q aY4)
  | str j=>obtain ⟨t',rfl⟩:=ry;exact PySem.EqMixed.eq_bool_str (o0 I q (by simp))
  | _=>exact absurd (show false=true from hs) q0v
 | int i =>
  obtain ⟨t,rfl⟩:=rx
  cases y with
  | non=>cases ry;exact PySem.EqNone.eq_int_none (o0 I q (by simp))
  | int j=>obtain ⟨t',rfl⟩:=ry;exact eq_int (o0 I q aN1)
  | str j=>obtain ⟨t',rfl⟩:=ry;exact PySem.EqMixed.eq_int_str (o0 I q (by simp))
  | _=>exact absurd (show false=true from hs) q0v
 | str i =>
  obtain ⟨t,rfl⟩:=rx
  cases y with
  | non=>cases ry;exact PySem.EqNone.eq_str_none (o0 I q (by simp))
  | bl j=>cases ry;exact PySem.EqMixed.eq_str_bool (o0 I q (by simp))
  | int j=>obtain ⟨t',rfl⟩:=ry;exact PySem.EqMixed.eq_str_int (o0 I q (by simp))
  | str j=>obtain ⟨t',rfl⟩:=ry;exact eq_str (o0 I q aN0)
  | _=>exact absurd (show false=true from hs) q0v
 | byt i =>
  obtain ⟨t,rfl⟩:=rx
  cases y with
  | byt j=>obtain ⟨t',rfl⟩:=ry;exact PySem.W.eq_bytes (o0 I q aN2)
  | _=>exact absurd (show false=true from hs) q0v
 | _=>cases y <;> exact absurd (show false=true from hs) q0v
theorem bf1:OpR X (compareOp .NotEq) rNe:=by
 intro pins s σ H x y v u Q I rx ry h;obtain ⟨hs,q⟩:=h
 cases x with
 | non =>
  cases rx
  cases y with
  | non=>cases ry;exact PySem.EqNone.ne_none_none (o0 I q (by simp))
  | bl j=>cases ry;exact PySem.EqNone.ne_none_bool (o0 I q (by simp))
  | int j=>obtain ⟨t',rfl⟩:=ry;exact PySem.EqNone.ne_none_int (o0 I q (by simp))
  | str j=>obtain ⟨t',rfl⟩:=ry;exact PySem.EqNone.ne_none_str (o0 I q (by simp))
  | _=>exact absurd (show false=true from hs) q0v
 | bl i =>
  cases rx
  cases y with
  | non=>cases ry;exact PySem.EqNone.ne_bool_none (o0 I q (by simp))
  | bl j=>cases ry;exact ne_bool (o0 I q (congrArg not aY4))
  | str j=>obtain ⟨t',rfl⟩:=ry;exact PySem.EqMixed.ne_bool_str (o0 I q (by simp))
  | _=>exact absurd (show false=true from hs) q0v
 | int i =>
  obtain ⟨t,rfl⟩:=rx
  cases y with
  | non=>cases ry;exact PySem.EqNone.ne_int_none (o0 I q (by simp))
  | int j=>obtain ⟨t',rfl⟩:=ry;exact ne_int (o0 I q (congrArg not aN1))
  | str j=>obtain ⟨t',rfl⟩:=ry;exact PySem.EqMixed.ne_int_str (o0 I q (by simp))
  | _=>exact absurd (show false=true from hs) q0v
 | str i =>
  obtain ⟨t,rfl⟩:=rx
  cases y with
  | non=>cases ry;exact PySem.EqNone.ne_str_none (o0 I q (by simp))
  | bl j=>cases ry;exact PySem.EqMixed.ne_str_bool (o0 I q (by simp))
  | int j=>obtain ⟨t',rfl⟩:=ry;exact PySem.EqMixed.ne_str_int (o0 I q (by simp))
  | str j=>obtain ⟨t',rfl⟩:=ry;exact ne_str (o0 I q (congrArg not aN0))
  | _=>exact absurd (show false=true from hs) q0v
 | byt i =>
  obtain ⟨t,rfl⟩:=rx
  cases y with
  | byt j=>obtain ⟨t',rfl⟩:=ry;exact PySem.W.ne_bytes (o0 I q (congrArg not aN2))
  | _=>exact absurd (show false=true from hs) q0v
 | _=>cases y <;> exact absurd (show false=true from hs) q0v
theorem am8:OpR X (compareOp .Lt) (rI0 λi j=>.bl (decide (i<j))):=bb4 λ_ _ _ _ _ _ _ q=>lt_int q
theorem bn1:OpR X (compareOp .LtE) (rI0 λi j=>.bl (decide (i<=j))):=bb4 λ_ _ _ _ _ _ _ q=>le_int q
theorem Z6:OpR X (compareOp .Gt) (rI0 λi j=>.bl (decide (j<i))):=bb4 λ_ _ _ _ _ _ _ q=>gt_int q
theorem aU8:OpR X (compareOp .GtE) (rI0 λi j=>.bl (decide (j<=i))):=bb4 λ_ _ _ _ _ _ _ q=>ge_int q
theorem k4 (b:Expr) {op:CmpOp} (h:op ≠ .In:=by decide) (h2:op ≠ .NotIn:=by decide):behindInMarks op b=false:=by
 have e1:(op == CmpOp.In)=false:=by cases op <;> first | rfl | exact absurd rfl h
 have e2:(op == CmpOp.NotIn)=false:=by cases op <;> first | rfl | exact absurd rfl h2
 cases b <;> simp [behindInMarks,e1,e2]
theorem al0 {op:CmpOp} {r:R2} (ho:OpR X (compareOp op) r) (ha:PE X a ta) (hb:PE X b tb) (hm:behindInMarks op b=false):PE X (.Compare a [op] [b] pos) (tOp r ta tb):=by
 intro pins s σ H Q I h;exact wpAny_Compare1 (bl6 ha hb I h λv u s2 x y H2 I2 rx ry q=>ho pins s2 σ H2 x y v u Q I2 rx ry q) hm
def Y9 (t:TE):TT:=λσ H Q=>t σ H λx H' => ∃ k,x=.bl k/\Q k H'
theorem i9 {op:CmpOp} {r:R2} (ho:OpR X (compareOp op) r) (ha:PE X a ta) (hb:PE X b tb) (hm:behindInMarks op b=false):PT X (.Compare a [op] [b] pos) (Y9 (tOp r ta tb)):=by
 intro pins s σ H Q I h
 refine wpAny_isTrue_Compare1 (thn (ha pins s σ H _ I h) λv s1 ⟨x,H1,I1,r1,q1⟩=>thn (hb pins s1 σ H1 _ I1 q1) λu s2 ⟨y,H2,I2,r2,q2⟩ =>
  thn (ho pins s2 σ H2 x y v u _ I2 r1 r2 q2) λc s3 ⟨z,H3,I3,r3,k,e,q3⟩=>?_) hm
 subst e
 cases r3
 exact wpAny_truthy_bool ⟨H3,I3,q3⟩
def ap3 (K:q0a) (x:V) (H:Hp) (k:Bool):Prop :=
 match x with
 | .non=>k=false
 | .bl b=>k=b
 | .int i=>k=(i != 0)
 | .str y=>y.length<=sizeLine/\k=((y.length:Int) != 0)
 | .byt y=>y.size<=sizeLine/\k=((y.size:Int) != 0)
 | .ref p=>(∃ xs,SqL K H p xs/\k = !xs.isEmpty) \/ (∃ xs,SqT K H p xs/\k = !xs.isEmpty) \/ ∃ kvs,H p=some (.dK kvs)/\k = !kvs.isEmpty
 | _=>False
theorem aJ2 {κ:Type} {kvs:List (κ × V)} {vs:List (κ × Value)} (r:KV kvs vs):(!vs.isEmpty) = !kvs.isEmpty:=by
 cases r <;> rfl
theorem an8 {xs:List V} {its:List Value} (r:k8 xs its):(!its.toArray.isEmpty) = !xs.isEmpty:=by
 cases r <;> simp
theorem ag0:(sizeLine:Nat)<2 ^ 63:=by rw [sizeLine_eq];decide
theorem bg5:bq5 X (λx H Q => ∃ k,ap3 X.K x H k/\Q k H):=by
 intro pins s σ H x v Q I rx h;obtain ⟨k,e,q⟩:=h;have hl:=ag0;have hs:sizeLine=16777216:=sizeLine_eq
 cases x with
 | non =>
  cases rx
  have e':k=false:=e;subst e';exact truthy_none ⟨H,I,q⟩
 | bl b =>
  cases rx
  have e':k=b:=e;subst e';exact wpAny_truthy_bool ⟨H,I,q⟩
 | int i =>
  obtain ⟨t,rfl⟩:=rx;have e':k=(i != 0):=e;subst e';exact PySem.P.truthy_int ⟨H,I,q⟩
 | str y =>
  obtain ⟨t,rfl⟩:=rx;obtain ⟨hy,e'⟩:y.length<=sizeLine/\k=((y.length:Int) != 0):=e;subst e';exact PySem.P.truthy_str ⋯ ⟨H,I.tok _,q⟩
 | byt y =>
  obtain ⟨t,rfl⟩:=rx;obtain ⟨hy,e'⟩:y.size<=sizeLine/\k=((y.size:Int) != 0):=e;subst e';exact PySem.W.truthy_bytes ⋯ ⟨H,I.tok _,q⟩
 | ref p =>
  cases rx
  have e':(∃ xs,SqL X.K H p xs/\k = !xs.isEmpty) \/ (∃ xs,SqT X.K H p xs/\k = !xs.isEmpty) \/ ∃ kvs,H p=some (.dK kvs)/\k = !kvs.isEmpty:=e;rcases e' with ⟨xs,hx,e'⟩ | ⟨xs,hx,e'⟩ | ⟨kvs,hx,e'⟩
  ·subst e'
   obtain ⟨its,r,pl,hz⟩:=I.list hx;have hlen:=r.length;exact wpAny_truthy_list pl.isList (by simp only [q0p];omega) ⟨H,I.tok _,by rw [an8 r];exact q⟩
  ·subst e'
   obtain ⟨its,r,pl,hz⟩:=I.tuple hx;have hlen:=r.length;exact truthy_tuple pl (by simp only [q0p];omega) ⟨H,I.tok _,by rw [an8 r];exact q⟩
  ·subst e'
   obtain ⟨hz,hS,vs,r,m⟩:kvs.length<=sizeLine/\(p == sysModules)=false/\∃ vs,KV kvs vs/\s.heap.DictOf (ay2 X.prog X.w) p vs:=I.hok p _ hx;have hlen:kvs.length=vs.length:=Paired.length r;exact wpAny_truthy_dict hS m ⋯ ⟨H,I.tok _,by rw [aJ2 r];exact q⟩
 | _=>exact (show False from e).elim
theorem J2 (ha:PE X a ta) (he:∀ whole,isTrue a X.env whole=(do let v <- whole;standAt a.pos;holding [v] (truthy v))) :
  PT X a (λσ H Q=>ta σ H λx H' => ∃ k,ap3 X.K x H' k/\Q k H'):=by
 intro pins s σ H Q I h;exact isTrue_plain (thn (ha pins s σ H _ I h) λv s1 ⟨x,H1,I1,r1,q1⟩=>bg5 pins s1 σ H1 x v Q I1 r1 q1) (he _)
theorem ab9 {x:V} {us:List Value} (r:k8 [x] us):∃ u,us=[u]/\t5 x u:=by
 cases r with
 | cons r1 r2=>cases r2;exact ⟨_,rfl,r1⟩
theorem be6 {x y:V} {us:List Value} (r:k8 [x,y] us):∃ u w',us=[u,w']/\t5 x u/\t5 y w':=by
 cases r with
 | cons r1 r2 =>
  cases r2 with
  | cons r3 r4=>cases r4;exact ⟨_,_,rfl,r1,r3⟩
theorem Q8:T7 X (.builtin "abs") (λxs H Q => ∃ i,xs=[.int i]/\Q (.int (if i<0 then -i else i)) H):=by
 intro pins s σ H xs us Q I r h;obtain ⟨i,rfl,q⟩:=h;obtain ⟨u,rfl,t,rfl⟩:=ab9 r;exact call_abs_int λu tk=>⟨.int (if i<0 then -i else i),H,I.tok _,⟨_,rfl⟩,q⟩
theorem at4 (hc:X.calm=true):T7 X (.builtin "max") (λxs H Q => ∃ i j,xs=[.int i,.int j]/\Q (.int (if j > i then j else i)) H):=by
 intro pins s σ H xs us Q I r h;obtain ⟨i,j,rfl,q⟩:=h;obtain ⟨u,w',rfl,⟨t,rfl⟩,⟨t',rfl⟩⟩:=be6 r;refine max_two_ints (I.ok.hd hc) λh' tk k=>⟨_,H,I.kept k,?_,q⟩
 by_cases hj:j > i
 ·rw [if_pos hj,if_pos hj];exact ⟨_,rfl⟩
 ·rw [if_neg hj,if_neg hj];exact ⟨_,rfl⟩
theorem aQ5 (hc:X.calm=true):T7 X (.builtin "min") (λxs H Q => ∃ i j,xs=[.int i,.int j]/\Q (.int (if j<i then j else i)) H):=by
 intro pins s σ H xs us Q I r h;obtain ⟨i,j,rfl,q⟩:=h;obtain ⟨u,w',rfl,⟨t,rfl⟩,⟨t',rfl⟩⟩:=be6 r;refine min_two_ints (I.ok.hd hc) λh' tk k=>⟨_,H,I.kept k,?_,q⟩
 by_cases hj:j<i
 ·rw [if_pos hj,if_pos hj];exact ⟨_,rfl⟩
 ·rw [if_neg hj,if_neg hj];exact ⟨_,rfl⟩
theorem aQ7:T7 X (.type "int") (λxs H Q=>(∃ i,xs=[.int i]/\Q (.int i) H) \/ ∃ k,xs=[.bl k]/\Q (.int (if k then 1 else 0)) H):=by
 intro pins s σ H xs us Q I r h;rcases h with ⟨i,rfl,q⟩ | ⟨k,rfl,q⟩
 ·obtain ⟨u,rfl,t,rfl⟩:=ab9 r
  exact call_int_int ⟨.int i,H,I,⟨_,rfl⟩,q⟩
 ·obtain ⟨u,rfl,r1⟩:=ab9 r
  cases r1
  exact call_int_bool ⟨.int (if k then 1 else 0),H,I.tok _,⟨_,rfl⟩,q⟩
end
structure bm2 (h:Heap) (x dx C:Addr) (mA:Str->Option Value):Prop where
 obj:h.get? x=some (m0b C dx)
 ns:h.Ns1 dx mA
 ne:dx ≠ x
theorem aP2 {h:Heap} {dx:Addr} {mA:Str->Option Value} (n:h.Ns1 dx mA):∃ od,h.get? dx=some od/\∀ name,m0k name od=some (mA name):=by
 obtain ⟨o,es,ep,ho,hd,hk,_,hm⟩:=n;refine ⟨o,ho,λname=>?_⟩;have e:=hm name;unfold nsFind findBy at e;rw [<- Array.find?_toList] at e;unfold m0k;rw [hd]
 dsimp only
 split
 ·rename_i y q
  rw [q] at e;exact congrArg some e
 ·rename_i q
  rw [q] at e
  have a:es.toList.any (·.refKey)=false:=by
   rw [List.any_eq_false];intro y hy;obtain ⟨z,t,hkey⟩:=hk y (Array.mem_toList_iff.mp hy)
   simp [DictEntry.refKey,hkey]
  have a':¬ es.toList.any (·.refKey)=true:=by rw [a];exact q0v
  rw [if_neg a'];exact congrArg some e
theorem bm2.look {h:Heap} {x dx C:Addr} {mA:Str->Option Value} (I:bm2 h x dx C mA):∃ od,PySem.W.InstAt h x (m0b C dx) C (some od)/\∀ name,m0k name od=some (mA name) :=
 let ⟨od,ho,hl⟩:=aP2 I.ns
 ⟨od,⟨I.obj,rfl,rfl,ho⟩,hl⟩
section
variable {P:Program} {w:World} {H H':Hp} {h h':Heap} {a C dx:Addr} {fs fs':List (Str × V)}
theorem bc4 (hok:HOk P w H h) (e:H a=some (.ins C dx fs)):∃ mA,bm2 h a dx C mA/\(∀ f,bl8 (fs.lookup f) (mA f))/\PySem.Within mA (fs.map (·.1))/\fs.length<=1000/\H dx=some (.own a):=by
 obtain ⟨d,z,ne,ob,mA,n,r,q⟩:=(show D3 P w H h a (.ins C dx fs) from hok a _ e);exact ⟨mA,⟨ob,n,ne⟩,r,q,z,d⟩
end
structure Cls (K:q0a) (C:Addr):Prop where
 pg:PySem.W.plainGet K C Str.empty=true
 hd:PySem.W.hasDictIn K C=true
 po:PySem.W.plainOver K C=true
 sa:u0d K (.ref C) "__setattr__" = some (some (.builtin "object.__setattr__"))
theorem Cls.get {K:q0a} {C:Addr} (c:Cls K C) (f:Str):PySem.W.plainGet K C f=true:=c.pg
structure Con (K:q0a) (C:Addr) (f:Str) (v:V) (u:Value):Prop where
 at_:u0d K (.ref C) f=some (some u)
 rel:t5 v u
 get:PySem.W.specialIn K u "__get__" = some none
 cp:PySem.W.copiedNames.contains f=false
structure Meth (K:q0a) (C:Addr) (m:Str) (f:Addr):Prop where
 at_:u0d K (.ref C) m=some (some (.ref f))
 fn:PySem.W.isFn K (.ref f)=true
 kp:y0e K (.ref f)=true
section
variable {X:Cx} {pins:List (Addr × Obj)} {σ:St} {H:Hp} {s:Shared} {A:Around} {E:Value->Shared->Prop} {Q:Value->Shared->Prop} {c:Value} {b:Bool}
inductive ag7 (K:q0a) (H:Hp):V->Value->Prop where
 | non:ag7 K H .non (.type "NoneType")
 | bl (x:Bool):ag7 K H (.bl x) (.type "bool")
 | int (i:Int):ag7 K H (.int i) (.type "int")
 | str (x:Str):ag7 K H (.str x) (.type "str")
 | flt (x:UInt64):ag7 K H (.flt x) (.type "float")
 | lst {a:Addr} {xs:List V} (e:H a=some (.lst xs)):ag7 K H (.ref a) (.type "list")
 | frz {a:Addr} {o:Obj} {xs:List V} (e:H a=some (.frz o (.lst xs))):ag7 K H (.ref a) (.type "list")
 | tup {a:Addr} {xs:List V} (e:H a=some (.tup xs)):ag7 K H (.ref a) (.type "tuple")
 | dK {a:Addr} {kvs:List (Key × V)} (e:H a=some (.dK kvs)):ag7 K H (.ref a) (.type "dict")
 | dT {a:Addr} {kvs:List (List Key × V)} (e:H a=some (.dT kvs)):ag7 K H (.ref a) (.type "dict")
 | ins {a C dx:Addr} {fs:List (Str × V)} (e:H a=some (.ins C dx fs)) (cl:Cls K C) (ha:u0d K (.ref C) "__class__" = some (some (.builtin "object.__class__")))
   (hn:PySem.W.specialIn K (.builtin "object.__class__") "__get__" = some (some (.builtin "getset_descriptor.__get__"))) (htk:PySem.W.takesIn K (.builtin "object.__class__")=some true)
   (hm:PySem.W.mroIn K C (.type "object")=some true):ag7 K H (.ref a) (.ref C)
theorem aP4 {x:V} {u t:Value} (I:Inv X pins σ H s) (rx:t5 x u) (ty:ag7 X.K H x t) (e:z0e X.K t c=some b) (h:∀ tk,Q (.bool b) { s with toks:=tk }) :
  wpAny (model X.prog X.w) A (call (.builtin "isinstance") [u,c]) Q E s:=by
 cases ty with
 | non=>cases (show u=Value.none from rx);exact j0k PySem.W.kitx_none I.kIn True.intro e (λz=>nomatch z) h
 | bl y=>cases (show u=Value.bool y from rx);exact j0k PySem.W.kitx_bool I.kIn True.intro e (λz=>nomatch z) h
 | int i=>obtain ⟨t,q⟩:=(show ∃ t,u=Value.int i t from rx);cases q;exact j0k PySem.W.kitx_int I.kIn True.intro e (λz=>nomatch z) h
 | str y=>obtain ⟨t,q⟩:=(show ∃ t,u=Value.str y t from rx);cases q;exact j0k PySem.W.kitx_str I.kIn True.intro e (λz=>nomatch z) h
 | flt y=>obtain ⟨t,q⟩:=(show ∃ t,u=Value.float y t from rx);cases q;exact j0k PySem.W.kitx_float I.kIn True.intro e (λz=>nomatch z) h
 | @lst a xs ea =>
  cases (show u=Value.ref a from rx)
  obtain ⟨_,_,n,_,h1⟩:=(show D3 X.prog X.w H s.heap a (.lst xs) from I.hok a _ ea);exact j0k PySem.W.kitx_list I.kIn ⟨_,h1,rfl⟩ e (λz=>nomatch z) h
 | @frz a ob xs ea =>
  cases (show u=Value.ref a from rx)
  obtain ⟨_,_,_,n,_,h1⟩:=(show D3 X.prog X.w H s.heap a (.frz ob (.lst xs)) from I.hok a _ ea);exact j0k PySem.W.kitx_list I.kIn ⟨_,h1,rfl⟩ e (λz=>nomatch z) h
 | @tup a xs ea =>
  cases (show u=Value.ref a from rx)
  obtain ⟨_,_,_,p⟩:=(show D3 X.prog X.w H s.heap a (.tup xs) from I.hok a _ ea);obtain ⟨o,h1,h2,_⟩:=p;exact j0k PySem.W.kitx_tuple I.kIn ⟨o,h1,h2⟩ e (λz=>nomatch z) h
 | @dK a kvs ea =>
  cases (show u=Value.ref a from rx)
  obtain ⟨_,_,vs,_,p⟩:=(show D3 X.prog X.w H s.heap a (.dK kvs) from I.hok a _ ea);obtain ⟨o,es,ep,h1,h2,_⟩:=p;exact j0k PySem.W.kitx_dict I.kIn ⟨o,h1,h2.1⟩ e (λz=>nomatch z) h
 | @dT a kvs ea =>
  cases (show u=Value.ref a from rx)
  obtain ⟨_,_,xs,_,o,es,ep,h1,h2,_⟩:=(show D3 X.prog X.w H s.heap a (.dT kvs) from I.hok a _ ea);exact j0k PySem.W.kitx_dict I.kIn ⟨o,h1,h2.1⟩ e (λz=>nomatch z) h
 | @ins a C dx fs ea cl ha hn htk hm =>
  cases (show u=Value.ref a from rx)
  obtain ⟨mA,O,_⟩:=bc4 I.hok ea;obtain ⟨od,J,_⟩:=O.look;exact j0k (PySem.W.kitx_own (cl.get _) cl.hd ha hn htk hm) I.kIn J e (λz=>nomatch z) h
end
structure Q9 (k:Nat) (A:Around):Prop where
 hd:A.handled=none
 dp:A.depth+3*k+5<recursionLimit
 un:A.units+16*k+200<cLine
theorem Q9.mono {j k:Nat} {A:Around} (r:Q9 k A) (h:j<=k):Q9 j A:=⟨r.hd,by have:=r.dp;omega,by have:=r.un;omega⟩
theorem Q9.deeper {k:Nat} {A:Around} (r:Q9 (k+1) A) (env:Env):Q9 k (A.deeper env) :=
 ⟨r.hd,by have:=r.dp;show A.depth+1+3*k+5<_;omega,by have:=r.un;show A.units+3+16*k+200<_;omega⟩
theorem Q9.depth {k:Nat} {A:Around} (r:Q9 k A):A.depth<recursionLimit:=by have:=r.dp;omega
theorem Q9.units {k:Nat} {A:Around} (r:Q9 k A):A.units+64<cLine:=by have:=r.un;omega
def aj0:TA:=λ_ H Q=>Q [] H
def P6 (ta:TE) (tr:TA):TA:=λσ H Q=>ta σ H λx H1=>tr σ H1 λxs H2=>Q (x :: xs) H2
section
variable {X:Cx} {e:Expr} {es:List Expr} {te:TE} {t:TA} {pos:Pos}
theorem b9:PA X [] aj0:=λ_ _ _ _ H Q I h=>Calls.spliced_nil ⟨[],H,I,.nil,h⟩
theorem b8 (ha:PE X e te) (hr:PA X es t) (hs:starEach (e :: es) X.env=(false,eval e X.env) :: starEach es X.env:=by rfl):PA X (e :: es) (P6 te t):=by
 intro pos pins s σ H Q I h;rw [hs]
 show wpAny _ _ (spliced ((false,eval e X.env) :: backTo pos (starEach es X.env))) _ _ s;refine Calls.spliced_cons (thn (ha pins s σ H _ I h) λu s1 zq=>?_);obtain ⟨x,H1,I1,r1,q1⟩:=zq;refine thn (hr pos pins s1 σ H1 _ I1 q1) λus s2 zq=>?_;obtain ⟨xs,H2,I2,r2,q2⟩:=zq;exact ⟨x :: xs,H2,I2,.cons r1 r2,q2⟩
def aA6 (t:TA):TE:=λσ H Q=>t σ H λxs H1=>xs.length<=sizeLine/\∀ p,H1 p=none->Q (.ref p) (upd H1 p (.tup xs))
def aA8 (t:TA):TE:=λσ H Q=>t σ H λxs H1=>xs.length<=sizeLine/\∀ p,H1 p=none->Q (.ref p) (upd H1 p (.lst xs))
theorem y7 {x1} (h:PA X es t):PE X (.Tuple es x1 pos) (aA6 t):=by
 intro pins s σ H Q I hq;refine wpAny_Tuple_spliced (thn (h pos pins s σ H _ I hq) λus s1 ⟨xs,H1,I1,r,z,q⟩=>⟨by rw [<- r.length];exact z,?_⟩)
 have hf:H1 s1.heap.objs.size=none:=I1.hok.fresh (q0t _);refine ⟨.ref s1.heap.objs.size,upd H1 s1.heap.objs.size (.tup xs),I1.laid (t':=s1.toks) (λb u e=>q0u _ e) (q0t _) ?_,rfl,q _ hf⟩;exact ⟨z,us,r,⟨_,z0x _ rfl,rfl,_,rfl⟩⟩
theorem z7 (h:PA X es t):PE X (.List es pos) (aA8 t):=by
 intro pins s σ H Q I hq;refine wpAny_List_spliced (thn (h pos pins s σ H _ I hq) λus s1 ⟨xs,H1,I1,r,z,q⟩=>⟨by rw [<- r.length];exact z,?_⟩)
 have hf:H1 s1.heap.objs.size=none:=I1.hok.fresh (q0t _);refine ⟨.ref s1.heap.objs.size,upd H1 s1.heap.objs.size (.lst xs),I1.laid (t':=s1.toks) (λb u e=>q0u _ e) (q0t _) ?_,rfl,q _ hf⟩;exact ⟨z,us,0,r,z0x _ rfl⟩
end
abbrev Sp:=List V->Hp->VK->XK->Prop
abbrev CXT:=List Env->Hp->Shared->XK->Value->Shared->Prop
structure ba0 (P:Program) (w:World) (K:q0a) (mg:Str->Option Value) (base:Heap) (A:Around) (outer:List Env) (s:Shared) (H:Hp):Prop where
 frames:A.frames=some outer
 mod:Mod K mg base
 bs:∀ b o,base.get? b=some o->s.heap.get? b=some o/\H b=none
 bsz:base.objs.size<=s.heap.objs.size
 funs:s.heap.FunFrames base outer
 frf:∀ b ∈ frs outer,H b=none
 hok:HOk P w H s.heap
 bare:AllBare s.gens
def CE (outer:List Env) (P:Program) (w:World) (H:Hp) (s:Shared) (Q:VK) (u:Value) (s':Shared):Prop :=
 ∃ v H',s'.os=s.os/\AllBare s'.gens/\Un (frs outer) [] H H' s.heap s'.heap/\HOk P w H' s'.heap/\t5 v u/\Q v H'
def CR (CX:CXT) (outer:List Env) (P:Program) (w:World) (H:Hp) (s:Shared) (Q:VK) (E:XK) (r:Result) (s':Shared):Prop :=
 match r with
 | .ok (.ret u)=>CE outer P w H s Q u s'
 | .ok _=>False
 | .error e=>CX outer H s E e s'
structure V8 (P:Program) (w:World) (K:q0a) (mg:Str->Option Value) (base:Heap) (CX:CXT) (k:Nat) (f:Addr) (fd:FuncData) (ps:List Str) (sp:Sp):Prop where
 len:∀ vs H Q E,sp vs H Q E->vs.length=ps.length
 run:∀ (A:Around) (outer:List Env) (s:Shared) (H:Hp) (args:Args) (us:List Value) (vs:List V) (Q:VK) (E:XK),Q9 k A->ba0 P w K mg base A outer s H->BindsTo s fd args (ps.zip us)->k8 vs us->sp vs H Q E ->
  codeAny (model P w) A (.call (.ref f) args) (CR CX outer P w H s Q E) s
theorem V8.mono {P:Program} {w:World} {K:q0a} {mg:Str->Option Value} {base:Heap} {CX:CXT} {j k:Nat} {f:Addr} {fd:FuncData} {ps:List Str} {sp:Sp} (F:V8 P w K mg base CX j f fd ps sp) (h:j<=k) :
  V8 P w K mg base CX k f fd ps sp:=⟨F.len,λA outer s H args us vs Q E hr=>F.run A outer s H args us vs Q E (hr.mono h)⟩
theorem V8.imp {P:Program} {w:World} {K:q0a} {mg:Str->Option Value} {base:Heap} {CX:CXT} {k:Nat} {f:Addr} {fd:FuncData} {ps:List Str} {sp sp':Sp} (F:V8 P w K mg base CX k f fd ps sp)
  (h:∀ vs H Q E,sp' vs H Q E->sp vs H Q E):V8 P w K mg base CX k f fd ps sp' :=
 ⟨λvs H Q E q=>F.len vs H Q E (h _ _ _ _ q),λA outer s H args us vs Q E hr he hb hv hs=>F.run A outer s H args us vs Q E hr he hb hv (h _ _ _ _ hs)⟩
section
variable {X:Cx} {pins:List (Addr × Obj)} {σ:St} {H:Hp} {s s':Shared}
theorem Inv.env0 (I:Inv X pins σ H s):ba0 X.prog X.w X.K X.mg X.base X.A X.stack s H :=
 ⟨I.ok.frames,I.ok.mod,I.bs,z0f I.ok.bsz I.sz,I.stack,I.stkFree,I.hok,I.bare⟩
theorem Inv.after {Q:VK} {u:Value} (I:Inv X pins σ H s) (h:CE X.stack X.prog X.w H s Q u s'):EP X pins σ Q u s':=by
 obtain ⟨v,H',os,bare,un,hok,r,q⟩:=h;obtain ⟨hh,g,d,t,os'⟩:=s';obtain rfl:os'=s.os:=os;exact ⟨v,H',I.call (h':=hh) (g':=g) (d':=d) (t':=t) (ch:=[]) un hok bare (λb z=>absurd z (by simp)),r,q⟩
end
def be7 (sp:Sp) (dvs:List V) (E:XK) (t:TA):TE:=λσ H Q=>t σ H λvs H1=>sp (vs ++ dvs) H1 Q E
def ae4 (K:q0a) (fd:FuncData) (ps:List Str) (ds:List Value):Prop :=
 ∀ (s:Shared) (us:List Value),K.In s.heap->(us ++ ds).length=ps.length->BindsTo s fd ⟨us,[]⟩ (ps.zip (us ++ ds))
theorem ae4.all {K:q0a} {fd:FuncData} {ps:List Str} (h:∀ us:List Value,us.length=ps.length->bindArgs fd ⟨us,[]⟩=pure (ps.zip us)):ae4 K fd ps []:=λs us _ hl=>by
 rw [v0v] at hl ⊢;exact .of_eq (h us hl)
def aA3 (CX:CXT) (X:Cx) (E:XK):Prop:=∀ (pins:List (Addr × Obj)) (σ:St) (H:Hp) (s:Shared) (e:Value) (s':Shared),Inv X pins σ H s->CX X.stack H s E e s'->X.xe e s'
section
variable {X:Cx} {CX:CXT} {k:Nat} {f C:Addr} {fd:FuncData} {ps:List Str} {sp:Sp} {dvs:List V} {ds:List Value} {E:XK} {x m:Str} {p pos apos:Pos} {e o:Expr} {es:List Expr} {ta:TE} {t:TA}
theorem bh2 {pins:List (Addr × Obj)} {σ:St} {H:Hp} {s:Shared} {Q:VK} {us:List Value} {vs:List V} (F:V8 X.prog X.w X.K X.mg X.base CX k f fd ps sp) (hr:Q9 k X.A) (hb:ae4 X.K fd ps ds) (hd:k8 dvs ds) (hx:aA3 CX X E)
  (I:Inv X pins σ H s) (r:k8 vs us) (h:sp (vs ++ dvs) H Q E):wpAny (model X.prog X.w) X.A (call (.ref f) us) (EP X pins σ Q) X.xe s:=by
 have r2:k8 (vs ++ dvs) (us ++ ds):=r.append hd;have hl:(us ++ ds).length=ps.length:=by rw [<- r2.length];exact F.len _ _ _ _ h
 refine wpAny_call (codeAny_mono (F.run X.A X.stack s H ⟨us,[]⟩ (us ++ ds) (vs ++ dvs) Q E hr I.env0 (hb s us I.kIn hl) r2 h) λr s' hq=>?_)
 cases r with
 | error e=>exact hx pins σ H s e s' I hq
 | ok fl =>
  cases fl with
  | ret u=>exact I.after hq
  | next=>exact False.elim hq
  | brk=>exact False.elim hq
  | cont=>exact False.elim hq
theorem bb3 (F:V8 X.prog X.w X.K X.mg X.base CX k f fd ps sp) (hr:Q9 k X.A) (hg:Gl X x) (hm:X.mg x=some (.ref f)) (hk:y0e X.K (.ref f)=true) (hb:ae4 X.K fd ps ds) (hd:k8 dvs ds) (hx:aA3 CX X E)
  (ha:PA X (e :: es) t) (hdb:(x == ("__debug__" : Str))=false:=by decide) (he:starEach (e :: es) X.env=(false,eval e X.env) :: starEach es X.env:=by rfl) (hpl:(backTo pos (starEach es X.env)).any (·.1)=false:=by rfl) :
  PE X (.Call (.Name x p) (e :: es) [] pos) (be7 sp dvs E t):=by
 intro pins s σ H Q I h;refine wpAny_Call_Name_kw (aM0 I hg hm ?_ hdb);refine PySem.W.callWith_K (h₀:=X.base) I.ok.mod.kin hk (thn (ha pos pins s σ H _ I h) λus s1 ⟨vs,H1,I1,r,q⟩=>⟨I1.kIn,?_⟩) he hpl;exact bh2 F hr hb hd hx I1 r q
structure Mk (K:q0a) (C f:Addr):Prop where
 makes:PySem.W.makesIn K C=true
 init:u0d K (.ref C) "__init__" = some (some (.ref f))
 fn:PySem.W.isFn K (.ref f)=true
 kp:y0e K (.ref C)=true
end
section
variable {X:Cx} {CX:CXT} {k:Nat} {f C:Addr} {fd:FuncData} {ps ks:List Str} {sp:Sp} {E:XK} {x m:Str} {p pos apos kpos:Pos} {e o:Expr} {es:List Expr} {kws:List Keyword} {te ta:TE} {t tk:TA} {nm:Option Str}
structure KBinds (K:q0a) (fd:FuncData) (ps ks:List Str) (g:List Value->List Value->List Value) (gV:List V->List V->List V):Prop where
 to:∀ (s:Shared) (us ws:List Value),K.In s.heap->(g us ws).length=ps.length->BindsTo s fd ⟨us,ks.zip ws⟩ (ps.zip (g us ws))
 rel:∀ {vs:List V} {us:List Value} {zs:List V} {ws:List Value},k8 vs us->k8 zs ws->k8 (gV vs zs) (g us ws)
variable {g:List Value->List Value->List Value} {gV:List V->List V->List V}
end
structure i8 (N P:List Str) (sc:Scope):Prop where
 kind:sc.kind=.function
 co:sc.isCoroutine=false
 gen:sc.isGenerator=false
 nd:N.Nodup
 pre:N.take P.length=P
 par:∀ x ∈ P,sc.names.lookup x=some .local \/ sc.names.lookup x=some .cell
 nofree:∀ y ∈ sc.names,y.2 ≠ .free
theorem at5 {kindOf:Str->Option NameKind} {x:Str}:∀ {binds:List (Str × Value)} {m:Str->Option Value},(∀ v,(x,v) ∉ binds)->bindL kindOf binds m x=m x
 | [],_,_=>rfl
 | (n,v) :: r,m,h=>by
  unfold bindL;rw [at5 λw hw=>h w (q0f _ hw)]
  split
  ·have:x ≠ n:=by rintro rfl;exact h v q0h
   simp [this]
  ·rfl
theorem at7 {kindOf:Str->Option NameKind} {x:Str}:∀ {binds:List (Str × Value)} {m:Str->Option Value},(∀ v,(x,v) ∉ binds)->bindC kindOf binds m x=m x
 | [],_,_=>rfl
 | (n,v) :: r,m,h=>by
  unfold bindC;rw [at7 λw hw=>h w (q0f _ hw)]
  split
  ·rfl
  ·have:x ≠ n:=by rintro rfl;exact h v q0h
   simp [this]
theorem at6 {kindOf:Str->Option NameKind} {x:Str} {v:Value}:∀ {P:List Str} {vs:List Value} {i:Nat} {m:Str->Option Value},P.Nodup->P[i]? = some x->vs[i]? = some v->kindOf x=some .local ->
  bindL kindOf (P.zip vs) m x=some v
 | [],_,_,_,_,h,_,_=>by simp at h
 | _ :: _,[],_,_,_,_,h,_=>by simp at h
 | p :: P,w :: vs,0,m,nd,h1,h2,hk=>by
  simp at h1 h2;subst h1;subst h2
  show bindL kindOf ((p,w) :: P.zip vs) m p=_;unfold bindL;rw [at5 λv hv=>(u0v.mp nd).1 (m0c hv).1,if_pos hk]
  simp
 | p :: P,w :: vs,i+1,m,nd,h1,h2,hk=>by
  show bindL kindOf ((p,w) :: P.zip vs) m x=_;unfold bindL;exact at6 (i:=i) (u0v.mp nd).2 (by simpa using h1) (by simpa using h2) hk
theorem at8 {kindOf:Str->Option NameKind} {x:Str} {v:Value}:∀ {P:List Str} {vs:List Value} {i:Nat} {m:Str->Option Value},P.Nodup->P[i]? = some x->vs[i]? = some v->kindOf x ≠ some .local ->
  bindC kindOf (P.zip vs) m x=some v
 | [],_,_,_,_,h,_,_=>by simp at h
 | _ :: _,[],_,_,_,_,h,_=>by simp at h
 | p :: P,w :: vs,0,m,nd,h1,h2,hk=>by
  simp at h1 h2;subst h1;subst h2
  show bindC kindOf ((p,w) :: P.zip vs) m p=_;unfold bindC;rw [at7 λv hv=>(u0v.mp nd).1 (m0c hv).1,if_neg hk]
  simp
 | p :: P,w :: vs,i+1,m,nd,h1,h2,hk=>by
  show bindC kindOf ((p,w) :: P.zip vs) m x=_;unfold bindC;exact at8 (i:=i) (u0v.mp nd).2 (by simpa using h1) (by simpa using h2) hk
def start (N:List Str) (vs:List V):St:=vs.map some ++ q0z (N.length-vs.length) none
def ab5 (CX:CXT) (P:Program) (w:World) (K:q0a) (mg:Str->Option Value) (base:Heap) (N:List Str) (qual:Str) (scope:Scope) (f:Addr) (cd:Value) (A:Around) (outer:List Env) (s:Shared) (H:Hp) (E:XK):Cx where
 prog:=P
 w:=w
 K:=K
 mg:=mg
 base:=base
 A:=A.deeper (envOfC qual scope s.heap.objs.size f cd)
 N:=N
 s₀:=s
 H₀:=H
 env:=envOfC qual scope s.heap.objs.size f cd
 outer:=outer
 stack:=envOfC qual scope s.heap.objs.size f cd :: outer
 ex:=[]
 calm:=true
 fn:=λ_=>true
 pn:=[]
 xe:=λe s'=>wpAny (model P w) (A.deeper (envOfC qual scope s.heap.objs.size f cd)) (leaving (envOfC qual scope s.heap.objs.size f cd) e) (λ_ s''=>CX outer H s E e s'') (λe' s''=>CX outer H s E e' s'') s'
theorem aG6 {sc:Scope} {n:Nat} {x:Str} (h:sc.names.lookup x=some .cell):∃ c,(cellsFrom n sc.names []).lookup x=some c:=by
 have q:=m0j sc.names n [] (.inl h);exact u0a.mp q
theorem aP5 {CX:CXT} {P:Program} {w:World} {K:q0a} {mg:Str->Option Value} {base:Heap} {N ps:List Str} {qual:Str} {scope:Scope} {f:Addr} {cd:Value} {A:Around} {outer:List Env} {s s1:Shared} {H:Hp} {E:XK} {us:List Value} {vs:List V}
  (S:i8 N ps scope) (hd:A.handled=none) (e0:ba0 P w K mg base A outer s H) (hl:vs.length=ps.length) (r:k8 vs us)
  (x:InCallC s s.heap.objs.size (bindL (envOfC qual scope s.heap.objs.size f cd).kindOf (ps.zip us) λ_=>none) (cellsFrom (s.heap.objs.size+1) scope.names []) (bindC (envOfC qual scope s.heap.objs.size f cd).kindOf (ps.zip us) λ_=>none) s1) :
  Inv (ab5 CX P w K mg base N qual scope f cd A outer s H E) [] (start N vs) H s1:=by
 have hpl:ps.length<=N.length:=by have:=congrArg List.length S.pre;rw [j0b] at this;omega
 obtain ⟨h1,tk,rfl,hk⟩:=x.done;have noA:∀ b:Addr,b ∉ (ab5 CX P w K mg base N qual scope f cd A outer s H E).ex:=λb z=>absurd (show b ∈ ([]:List Addr) from z) (by simp)
 refine ⟨⟨e0.mod,S.kind,rfl,rfl,q0t _,λy z c h1 h2=>?_,λy hy=>?_,λy c _ h=>?_,λ_=>hd,Around.frames_deeper e0.frames,.inr ⟨rfl,rfl⟩,λb z=>absurd z (noA b),e0.bs,e0.bsz,λb _ _=>noA b,λb z=>absurd z (noA b),e0.funs,e0.frf⟩,
  rfl,e0.bare,Un.kept hk,⟨_,x.toInCall.ns,λi y v h1 h2 h3=>?_⟩,λy c h=>⟨_,x.cell y c h⟩,e0.hok.fresh (q0t _),λy c h=>?_,λp hp=>absurd (show p ∈ ([]:List (Addr × Obj)) from hp) (by simp),e0.hok.kept hk,?_⟩
 ·exact name_of_addr x.apart (PySem.mem_of_lookup h1) (PySem.mem_of_lookup h2)
 ·have hy:scope.names.lookup y=some .cell \/ scope.names.lookup y=some .free:=hy
  rcases hy with hy | hy
  ·exact aG6 hy
  ·exact absurd rfl (S.nofree _ (PySem.mem_of_lookup hy))
 ·exact y0c (x.above y c (PySem.mem_of_lookup h))
 ·have hi:i<vs.length:=by
   unfold start at h2
   by_cases hi:i<vs.length
   ·exact hi
   ·rw [g0h (by simpa using hi)] at h2
    rw [g0x] at h2
    split at h2 <;> cases h2
  have ha:vs[i]? = some v:=by
   unfold start at h2;rw [List.getElem?_append_left (by simpa using hi),q0q] at h2
   cases e:vs[i]? with
   | none=>rw [e] at h2;cases h2
   | some a=>rw [e] at h2;cases h2;rfl
  obtain ⟨u,hu,rv⟩:=r.get ha
  have hp:ps[i]? = some y:=by
   rw [<- S.pre,g0r ⋯];exact h1
  have ndP:ps.Nodup:=by rw [<- S.pre];exact S.nd.sublist (List.take_sublist _ _)
  refine ⟨u,rv,?_⟩;rcases S.par y (z0c hp) with k | k
  ·exact .inl ⟨k,at6 ndP hp hu k⟩
  ·obtain ⟨c,e⟩:=aG6 (n:=s.heap.objs.size+1) k
   refine .inr ⟨.inl k,c,e,?_⟩;have q:=x.cell y c e;rw [at8 ndP hp hu (by show scope.names.lookup y ≠ _;rw [k];decide)] at q
   exact q
 ·exact e0.hok.fresh (y0c (x.above y c (PySem.mem_of_lookup h)))
 ·unfold start
  show _=N.length;rw [j0z,q0m,u0p];omega
theorem bn9 {CX:CXT} {P:Program} {w:World} {K:q0a} {mg:Str->Option Value} {base:Heap} {k:Nat} {f:Addr} {name qual:Str} {params:Arguments} {body:List Stmt} {scope:Scope} {dV kV doc pm cdv ct oc:Value} {an od:Option Addr}
  {osl:Array (Option Value)} {N ps:List Str} {sp:Sp} (lk:K.lookup f=some ⟨oc,od,.func (y0s name qual params body scope dV kV doc pm an cdv ct),osl⟩) (hcd:m0m K cdv qual=true) (S:i8 N ps scope)
  (len:∀ vs H Q E,sp vs H Q E->vs.length=ps.length)
  (hbody:∀ (A:Around) (outer:List Env) (s:Shared) (H:Hp) (vs:List V) (Q:VK) (E:XK),Q9 k (A.deeper (envOfC qual scope s.heap.objs.size f cdv))->sp vs H Q E ->
   ∃ t,PSs (ab5 CX P w K mg base N qual scope f cdv A outer s H E) body t/\t { nx:=λ_ H'=>Q .non H',rt:=Q } (start N vs) H) :
  V8 P w K mg base CX (k+1) f (y0s name qual params body scope dV kV doc pm an cdv ct) ps sp:=by
 refine ⟨len,λA outer s H args us vs Q E hr e0 hb r hsp=>?_⟩;have hl:=len _ _ _ _ hsp;have KX:K.In s.heap:=e0.mod.kin.keeps λb o e=>(e0.bs b o e).1;have lim:s.heap.NoLimit:=e0.mod.nolimit.keeps λb o e=>(e0.bs b o e).1
 have hkind:∀ y ∈ ps.zip us,scope.names.lookup y.1=some .local \/ (scope.names.lookup y.1=some .cell/\((cellsFrom (s.heap.objs.size+1) scope.names []).lookup y.1).isSome=true):=λ⟨n,v⟩ hy=>by
  rcases S.par n (m0c hy).1 with q | q
  ·exact .inl q
  ·exact .inr ⟨q,m0j _ _ _ (.inl q)⟩
 refine codeAny_call_function hr.depth (KX _ _ lk) rfl S.co S.gen rfl (PySem.W.codeRec_of KX hcd) (hb _ _ _ _ ?_);refine wpAny_newFunctionEnv_cells S.kind hkind λenv he s1 x=>?_;subst he;refine ⟨lim.keeps x.toInCall.keep,codeAny_func ?_⟩;obtain ⟨t,ht,hq⟩:=hbody A outer s H vs Q E (hr.deeper _) hsp;have I:Inv (ab5 CX P w K mg base N qual scope f cdv A outer s H E) [] (start N vs) H s1:=aP5 S hr.hd e0 hl r x;refine wpAny_mono (ht [] s1 (start N vs) H _ I hq) (λfl s' hs=>?_) λe s' hs=>hs
 have fin:∀ {σ':St} {H':Hp} {v:V} {u:Value},Inv (ab5 CX P w K mg base N qual scope f cdv A outer s H E) [] σ' H' s'->t5 v u->Q v H'->CE outer P w H s Q u s' :=
  fun {σ' H' v u} J rv q=>⟨v,H',J.os,J.bare,J.base,J.hok,rv,q⟩
 cases fl with
 | ret u =>
  obtain ⟨v,σ',H',J,rv,q⟩:=hs;exact fin J rv q
 | next =>
  obtain ⟨σ',H',J,q⟩:=hs;exact fin (v:=V.non) (u:=Value.none) J rfl q
 | brk =>
  obtain ⟨_,_,_,q⟩:=hs;exact False.elim q
 | cont =>
  obtain ⟨_,_,_,q⟩:=hs;exact False.elim q
section
variable {X:Cx} {x:Str} {p pos:Pos} {e:Expr} {es:List Expr} {t:TA} {id T:String} {r:List V->Hp->VK->Prop}
def tCB (r:List V->Hp->VK->Prop) (t:TA):TE:=λσ H Q=>t σ H λvs H1=>r vs H1 Q
theorem f9 (hc : T7 X (.builtin id) r) (hg : Gl X x) (hm : X.mg x = none) (hv : bootBuiltins x = some (.builtin id)) (ha : PA X (e :: es) t) (hn : x ≠ "__name__" := by decide) (hdb : (x == ("__debug__" : Str)) = false := by decide)
    (he:starEach (e :: es) X.env=(false,eval e X.env) :: starEach es X.env:=by rfl) (hpl:(backTo pos (starEach es X.env)).any (·.1)=false:=by rfl):PE X (.Call (.Name x p) (e :: es) [] pos) (tCB r t):=by
  intro pins s σ H Q I h;refine wpAny_Call_Name_kw (V1 I hg hm hv ?_ hn hdb);exact PyProof.Rows.callWith_builtin1 (thn (ha pos pins s σ H _ I h) λus s1 ⟨vs,H1,I1,r1,q1⟩=>hc pins s1 σ H1 vs us Q I1 r1 q1) he hpl
theorem C1 (hc : T7 X (.type T) r) (hg : Gl X x) (hm : X.mg x = none) (hv : bootBuiltins x = some (.type T)) (ha : PA X (e :: es) t) (hn : x ≠ "__name__" := by decide) (hdb : (x == ("__debug__" : Str)) = false := by decide)
    (he:starEach (e :: es) X.env=(false,eval e X.env) :: starEach es X.env:=by rfl) (hpl:(backTo pos (starEach es X.env)).any (·.1)=false:=by rfl):PE X (.Call (.Name x p) (e :: es) [] pos) (tCB r t):=by
  intro pins s σ H Q I h;refine wpAny_Call_Name_kw (V1 I hg hm hv ?_ hn hdb);exact PyProof.Rows.callWith_type1 (thn (ha pos pins s σ H _ I h) λus s1 ⟨vs,H1,I1,r1,q1⟩=>hc pins s1 σ H1 vs us Q I1 r1 q1) he hpl
end
end L2
namespace HT
open PySem PyProof.Rows
section
open PySem.SeqAt
open PySem.AutoSeq1 (wpAny_loadPart')
open PySem.MeetsSeq PySem.MeetsSeq2 PySem.MeetsSeq3
end
section
variable {prog:Program} {w:World} {A:Around} {E:Value->Shared->Prop} {s:Shared}
def sIx (n d:Nat):Option Int->Nat
 | none=>d
 | some v=>if v<0 then (v+(n:Int)).toNat else min v.toNat n
end
end HT
namespace L2
open PySem PySem.Spec PyProof.Rows
abbrev TO:=St->Hp->(Option Int->Hp->Prop)->Prop
def PO (X:Cx) (e:Option Expr) (t:TO):Prop :=
 ∀ (pins:List (Addr × Obj)) (s:Shared) (σ:St) (H:Hp) (Q:Option Int->Hp->Prop),Inv X pins σ H s->t σ H Q ->
  wpAny (model X.prog X.w) X.A (evalPart e X.env) (λu s' => ∃ o H',Inv X pins σ H' s'/\IsPart u o/\Q o H') X.xe s
def N6:TO:=λ_ H Q=>Q none H
def ag8 (t:TE):TO:=λσ H Q=>t σ H λx H1 => ∃ i,x=.int i/\Q (some i) H1
section
variable {X:Cx} {e:Expr} {te:TE} {lo hi:Option Expr} {tl th:TO} {pos p2:Pos}
theorem aw4:PO X none N6:=by
 intro pins s σ H Q I h;rw [evalPart_none];exact wpAny_pure ⟨none,H,I,.none,h⟩
theorem aw3 (h:PE X e te):PO X (some e) (ag8 te):=by
 intro pins s σ H Q I hw;rw [evalPart_some];refine thn (h pins s σ H _ I hw) λu s1 zq=>?_;obtain ⟨x,H1,I1,r1,q1⟩:=zq;obtain ⟨i,rfl,q⟩:=q1;obtain ⟨t,rfl⟩:=r1;exact ⟨some i,H1,I1,.int i t,q⟩
def SlR (X:Cx) (r:V->Option Int->Option Int->Hp->VK->Prop):Prop :=
 ∀ (pins:List (Addr × Obj)) (s:Shared) (σ:St) (H:Hp) (x:V) (v vl vu:Value) (lo hi:Option Int) (sl:Addr) (Q:VK),Inv X pins σ H s->t5 x v->s.heap.IsSliceOf sl vl vu .none->IsPart vl lo->IsPart vu hi->r x lo hi H Q ->
  ∃ T id,typeLookup (.type T) "__getitem__" = pure (some (.builtin id))/\s.TypeIs v T/\wpAny (model X.prog X.w) X.A (getItem v (.ref sl)) (EP X pins σ Q) X.xe s
def tSl (r:V->Option Int->Option Int->Hp->VK->Prop) (te:TE) (tl th:TO):TE:=λσ H Q=>te σ H λx H1=>tl σ H1 λl H2=>th σ H2 λu H3=>r x l u H3 Q
theorem am6 {r:V->Option Int->Option Int->Hp->VK->Prop} (hr:SlR X r) (he:PE X e te) (hl:PO X lo tl) (hu:PO X hi th):PE X (.Subscript e (.Slice lo hi none p2) pos) (tSl r te tl th):=by
 intro pins s σ H Q I h;refine Subscript_ (thn (he pins s σ H _ I h) λv s1 zq=>?_);obtain ⟨x,H1,I1,r1,q1⟩:=zq;refine wpAny_Slice (thn (hl pins s1 σ H1 _ I1 q1) λvl s2 ⟨l,H2,I2,pl,q2⟩=>thn (hu pins s2 σ H2 _ I2 q2) λvu s3 zq=>?_);obtain ⟨u,H3,I3,pu,q3⟩:=zq;rw [evalPart_none];refine wpAny_pure ?_;have I4:Inv X pins σ H3 { s3 with heap:=s3.heap.push { cls:=.type "slice",data:=.fields #[vl,vu,.none] } }:=I3.kept (t':=s3.toks) λb ob q=>q0u _ q
 obtain ⟨T,id,hT,ht,hg⟩:=hr pins { s3 with heap:=s3.heap.push { cls:=.type "slice",data:=.fields #[vl,vu,.none] } } σ H3 x v vl vu l u s3.heap.objs.size Q I4 r1 (Heap.IsSliceOf.new ..) pl pu q3
 show wpAny (model X.prog X.w) X.A (subscriptTail e (.Slice lo hi none p2) v (.ref s3.heap.objs.size)) (EP X pins σ Q) X.xe { s3 with heap:=s3.heap.push { cls:=.type "slice",data:=.fields #[vl,vu,.none] } }
 exact tail_any (ops:=[.ref s3.heap.objs.size,v]) ht hT hg (by with_unfolding_all rfl)
def az6 (xs:List V) (lo hi:Option Int):List V:=(xs.drop (HT.sIx xs.length 0 lo)).take (HT.sIx xs.length xs.length hi-HT.sIx xs.length 0 lo)
theorem ai9 (xs:List V) (lo hi:Option Int):(az6 xs lo hi).length<=xs.length:=by
 unfold az6;rw [j0b,List.length_drop];omega
end
def ixN (n:Nat) (i:Int):Option Nat:=if 0<=i then (if i<n then some i.toNat else none) else if -(n:Int)<=i then some (i+n).toNat else none
def atI {α:Type} (xs:List α) (i:Int):Option α:=(ixN xs.length i).bind λj=>xs[j]?
theorem aM3 {n:Nat} {i:Int} {j:Nat} (h:ixN n i=some j):seqIndex? i n=some j/\j<n/\-(n:Int)<=i/\i<n:=by
 unfold ixN at h
 by_cases h0:0<=i
 ·rw [if_pos h0] at h
  by_cases h1:i<n
  ·rw [if_pos h1] at h
   have e:i.toNat=j:=Option.some.inj h;exact ⟨by rw [seqIndex_of h0 h1,e],⋯,⋯,h1⟩
  ·rw [if_neg h1] at h;cases h
 ·rw [if_neg h0] at h
  by_cases h1:-(n:Int)<=i
  ·rw [if_pos h1] at h
   have e:(i+n).toNat=j:=Option.some.inj h;exact ⟨by rw [seqIndex_neg ⋯ h1,e],⋯,h1,⋯⟩
  ·rw [if_neg h1] at h;cases h
theorem aA1 {α:Type} {xs:List α} {i:Int} {v:α} (h:atI xs i=some v):∃ j,seqIndex? i xs.length=some j/\xs[j]? = some v/\j<xs.length/\-(xs.length:Int)<=i/\i<xs.length:=by
 unfold atI at h
 cases e:ixN xs.length i with
 | none=>rw [e] at h;cases h
 | some j =>
  rw [e] at h;obtain ⟨h1,h2,h3,h4⟩:=aM3 e;exact ⟨j,h1,h,h2,h3,h4⟩
theorem X8 {α:Type} {xs:List α} {j:Nat} {v:α} (h:xs[j]? = some v):atI xs (j:Int)=some v:=by
 have hj:j<xs.length:=(q0s.mp h).1
 have e:ixN xs.length (j:Int)=some j:=by
  unfold ixN;rw [if_pos ⋯,if_pos ⋯];simp
 unfold atI;rw [e];exact h
def be4 (b:Expr):Prop:=∀ o i,subscripted b false o i=operate [o,i] (getItem o i)
def IxR (X:Cx) (r:R2):Prop :=
 ∀ (value slice:Expr) (pins:List (Addr × Obj)) (s:Shared) (σ:St) (H:Hp) (x y:V) (v u:Value) (Q:VK),Inv X pins σ H s->t5 x v->t5 y u->r x y H Q ->
  subscripted slice false v u=operate [v,u] (getItem v u)->wpAny (model X.prog X.w) X.A (subscriptTail value slice v u) (EP X pins σ Q) X.xe s
def MtR (X:Cx) (id:String) (r:V->List V->Hp->VK->Prop):Prop :=
 ∀ (pins:List (Addr × Obj)) (s:Shared) (σ:St) (H:Hp) (x:V) (xs:List V) (v:Value) (us:List Value) (Q:VK),Inv X pins σ H s->t5 x v->k8 xs us->r x xs H Q ->
  wpAny (model X.prog X.w) X.A (call (.builtin id) (v :: us)) (EP X pins σ Q) X.xe s
section
variable {X:Cx} {a b:Expr} {ta tb:TE} {pos:Pos}
theorem k3 {r:R2} (hr:IxR X r) (ha:PE X a ta) (hb:PE X b tb) (hs:be4 b):PE X (.Subscript a b pos) (tOp r ta tb):=by
 intro pins s σ H Q I h;exact Subscript_ (bl6 ha hb I h λv u s2 x y H2 I2 rx ry q=>hr a b pins s2 σ H2 x y v u Q I2 rx ry q (hs _ _))
def aq2 (K:q0a):R2:=λx y H Q => ∃ p xs i v,x=.ref p/\y=.int i/\SqL K H p xs/\atI xs i=some v/\Q v H
def aC6 (K:q0a):R2:=λx y H Q => ∃ p xs i v,x=.ref p/\y=.int i/\SqT K H p xs/\atI xs i=some v/\Q v H
theorem r6:IxR X (aq2 X.K):=by
 intro value slice pins s σ H x y v u Q I rx ry h hs;obtain ⟨p,xs,i,z,rfl,rfl,hq,he,q⟩:=h
 cases rx
 obtain ⟨t,rfl⟩:=ry;obtain ⟨its,r,pl,hz⟩:=I.list hq;obtain ⟨j,h1,h2,h3,h4,h5⟩:=aA1 he;obtain ⟨w,ew,rw'⟩:=r.get h2;have hl:=r.length;have hn:=ag0;have fin:EP X pins σ Q w s:=⟨z,H,I,rw',q⟩
 by_cases h0:0<=i
 ·have hj:i.toNat=j:=by
   rw [seqIndex_of h0 h5] at h1;exact Option.some.inj h1
  exact item_listR pl.isList h0 ⋯ (by rw [hj];simpa using ew) fin hs
 ·have hj:(i+(its.toArray.size:Int)).toNat=j:=by
   rw [seqIndex_neg ⋯ h4] at h1;rw [q0p,<- hl];exact Option.some.inj h1
  exact subscriptTail_builtinR (x:=w) pl.isList.typeIs slot_list_getitem.lookup
   (wpAny_getItem_list_neg (Q:=λr s'=>r=w/\EP X pins σ Q r s') pl.isList ⋯ (by rw [q0p] <;> omega) ⋯ (by rw [hj];simpa using ew) ⟨rfl,fin⟩) hs
theorem k9:IxR X (aC6 X.K):=by
 intro value slice pins s σ H x y v u Q I rx ry h hs;obtain ⟨p,xs,i,z,rfl,rfl,hq,he,q⟩:=h
 cases rx
 obtain ⟨t,rfl⟩:=ry;obtain ⟨its,r,pl,hz⟩:=I.tuple hq;obtain ⟨j,h1,h2,h3,h4,h5⟩:=aA1 he;obtain ⟨w,ew,rw'⟩:=r.get h2;have hl:=r.length;have hn:=ag0;have fin:EP X pins σ Q w s:=⟨z,H,I,rw',q⟩
 exact subscriptTail_builtinR (x:=w) pl.typeIs slot_tuple_getitem.lookup
  (getItem_tuple (j:=j) (Q:=λr s'=>r=w/\EP X pins σ Q r s') pl ⋯ ⋯ (by rw [q0p,<- hl];exact h1) (by simpa using ew) ⟨rfl,fin⟩) hs
theorem aI8 (its:List Value) (n j:Nat) (u:Value):Obj.mapSeq (·.setIfInBounds j u) { cls:=.type "list",data:=.seq its.toArray n }={ cls:=.type "list",data:=.seq (its.set j u).toArray n }:=by
 simp [Obj.mapSeq]
theorem Inv.lst {pins:List (Addr × Obj)} {σ:St} {H:Hp} {s:Shared} {p:Addr} {xs:List V} (I:Inv X pins σ H s) (h:H p=some (.lst xs)) :
  ∃ (its:List Value) (n:Nat),k8 xs its/\s.heap.get? p=some { cls:=.type "list",data:=.seq its.toArray n }/\xs.length<=sizeLine:=by
 obtain ⟨z,its,n,r,e⟩:=I.hok p _ h;exact ⟨its,n,r,e,z⟩
theorem Inv.lstUpd {pins:List (Addr × Obj)} {σ:St} {H:Hp} {s:Shared} {p:Addr} {xs ys:List V} {its its':List Value} {n n':Nat} {f:Obj->Obj} (I:Inv X pins σ H s) (h:H p=some (.lst xs))
  (ho:s.heap.get? p=some { cls:=.type "list",data:=.seq its.toArray n }) (hf:f { cls:=.type "list",data:=.seq its.toArray n }={ cls:=.type "list",data:=.seq its'.toArray n' }) (r:k8 ys its') (hz:ys.length<=sizeLine) (t:Nat) :
  Inv X pins σ (upd H p (.lst ys)) { s with heap:=s.heap.update p f,toks:=t }:=by
 have e:(s.heap.update p f).get? p=some { cls:=.type "list",data:=.seq its'.toArray n' }:=by
  rw [u0q f ho (by rw [hf] <;> rfl),hf]
 refine I.write (x:=p) (e:=p) (by rw [h];trivial) (.inl rfl) (λb u hb q=>(j0n _ _ (Ne.symm hb)).trans q) ⟨_,e⟩ ?_
 exact ⟨hz,its',n',r,e⟩
def ah6:V->V->V->Hp->(Hp->Prop)->Prop:=λo i v H Q => ∃ p xs k j,o=.ref p/\i=.int k/\H p=some (.lst xs)/\ixN xs.length k=some j/\Q (upd H p (.lst (xs.set j v)))
theorem P7:bm0 X ah6:=by
 intro pins s σ H o i v ov iv u Q I ro ri rv h;obtain ⟨p,xs,k,j,rfl,rfl,hp,hj,q⟩:=h
 cases ro
 obtain ⟨t,rfl⟩:=ri;obtain ⟨its,n,r,ho,hz⟩:=I.lst hp;obtain ⟨h1,h2,h3,h4⟩:=aM3 hj;have hl:=r.length;have hn:=ag0
 have I':Inv X pins σ (upd H p (.lst (xs.set j v))) { s with heap:=s.heap.update p (Obj.mapSeq (·.setIfInBounds j u)) } :=
  I.lstUpd hp ho (aI8 its n j u) (r.set rv j) (by rw [List.length_set];exact hz) s.toks
 by_cases h0:0<=k
 ·have hk:k.toNat=j:=by
   rw [seqIndex_of h0 h4] at h1;exact Option.some.inj h1
  exact PySem.W.ki_setAt ho h0 ⋯ (by rw [q0p,<- hl];exact h4) (by rw [hk];exact ⟨_,I',q⟩)
 ·have hk:(k+(its.toArray.size:Int)).toNat=j:=by
   rw [seqIndex_neg ⋯ h3] at h1;rw [q0p,<- hl];exact Option.some.inj h1
  exact PySem.W.ki_setBack ho ⋯ (by rw [q0p,<- hl];exact h3) ⋯ (by rw [hk];exact ⟨_,I',q⟩)
theorem av2 (lo hi:Option Int) (n:Nat):(sliceBounds lo hi none n).1=((HT.sIx n 0 lo:Nat):Int)/\(sliceBounds lo hi none n).2.1=((HT.sIx n n hi:Nat):Int)/\(sliceBounds lo hi none n).2.2=1:=by
 refine ⟨?_,?_,rfl⟩
 ·cases lo with
  | none=>simp [sliceBounds,HT.sIx]
  | some i =>
   simp only [sliceBounds,HT.sIx,Option.getD_none,show (1:Int) > 0 by decide,if_true]
   by_cases h:i<0
   ·simp only [h,if_true] <;> omega
   ·simp only [h,if_false] <;> omega
 ·cases hi with
  | none=>simp [sliceBounds,HT.sIx]
  | some i =>
   simp only [sliceBounds,HT.sIx,Option.getD_none,show (1:Int) > 0 by decide,if_true]
   by_cases h:i<0
   ·simp only [h,if_true] <;> omega
   ·simp only [h,if_false] <;> omega
theorem ap7 (its:List Value) (lo hi:Option Int):slicePick its.toArray lo hi none=((its.drop (HT.sIx its.length 0 lo)).take (HT.sIx its.length its.length hi-HT.sIx its.length 0 lo)).toArray:=by
 obtain ⟨h1,h2,h3⟩:=av2 lo hi its.toArray.size;unfold slicePick;rw [h1,h2,h3];simp only [sliceRange_one,pick_run,q0p] <;> rfl
def aC2 (K:q0a):V->Option Int->Option Int->Hp->VK->Prop:=λx lo hi H Q => ∃ a xs,x=.ref a/\SqL K H a xs/\∀ p,H p=none->Q (.ref p) (upd H p (.lst (az6 xs lo hi)))
theorem av3:SlR X (aC2 X.K):=by
 intro pins s σ H x v vl vu lo hi sl Q I rx hs pl pu h;obtain ⟨a,xs,rfl,hx,q⟩:=h
 cases rx
 obtain ⟨its,r,ht,hz⟩:=I.list hx;have hlen:=r.length;refine ⟨"list",_,slot_list_getitem.lookup,ht.isList.typeIs,?_⟩
 refine wpAny_getItem_list_slice ht.isList hs pl pu .none (by simp) ?_ (by rw [q0p] <;> omega)
 rw [ap7,<- hlen];refine ⟨.ref s.heap.objs.size,_,I.laid (t':=s.toks) (o:=.lst (az6 xs lo hi)) (λb ob q=>q0u _ q) (q0t _) ?_,rfl,q _ (I.hok.fresh (q0t _))⟩;exact ⟨z0f (ai9 xs lo hi) hz,_,0,(r.drop (HT.sIx xs.length 0 lo)).take (HT.sIx xs.length xs.length hi-HT.sIx xs.length 0 lo),z0x _ rfl⟩
def aF6:V->Bool
 | .non=>true
 | .bl _=>true
 | .int _=>true
 | .str _=>true
 | _=>false
def eqV:V->V->Bool
 | .non,.non=>true
 | .bl a,.bl b=>a == b
 | .bl a,.int b=>(if a then 1 else 0) == b
 | .int a,.bl b=>a == (if b then 1 else 0)
 | .int a,.int b=>a == b
 | .str a,.str b=>a == b
 | _,_=>false
theorem bk6 {A:Around} {s:Shared} {y x:V} {u v:Value} (ry:t5 y u) (rx:t5 x v) (fy:aF6 y=true) (fx:aF6 x=true):SeqAt.EqAt A s u v (eqV y x):=by
 cases y with
 | non =>
  cases ry
  cases x with
  | non=>cases rx;exact SeqAt.EqAt.same _
  | bl b=>cases rx;exact SeqAt.EqAt.none_bool b
  | int b=>obtain ⟨t,rfl⟩:=rx;exact SeqAt.EqAt.none_int b t
  | str b=>obtain ⟨t,rfl⟩:=rx;exact SeqAt.EqAt.none_str b t
  | _=>exact absurd (show false=true from fx) q0v
 | bl a =>
  cases ry
  cases x with
  | non=>cases rx;exact SeqAt.EqAt.bool_none a
  | bl b=>cases rx;exact SeqAt.EqAt.bool_bool a b
  | int b=>obtain ⟨t,rfl⟩:=rx;exact SeqAt.EqAt.bool_int a b t
  | str b=>obtain ⟨t,rfl⟩:=rx;exact SeqAt.EqAt.bool_str a b t
  | _=>exact absurd (show false=true from fx) q0v
 | int a =>
  obtain ⟨t',rfl⟩:=ry
  cases x with
  | non=>cases rx;exact SeqAt.EqAt.int_none a t'
  | bl b=>cases rx;exact SeqAt.EqAt.int_bool a t' b
  | int b=>obtain ⟨t,rfl⟩:=rx;exact SeqAt.EqAt.int_int a t' b t
  | str b=>obtain ⟨t,rfl⟩:=rx;exact SeqAt.EqAt.int_str a t' b t
  | _=>exact absurd (show false=true from fx) q0v
 | str a =>
  obtain ⟨t',rfl⟩:=ry
  cases x with
  | non=>cases rx;exact SeqAt.EqAt.str_none a t'
  | bl b=>cases rx;exact SeqAt.EqAt.str_bool a t' b
  | int b=>obtain ⟨t,rfl⟩:=rx;exact SeqAt.EqAt.str_int a t' b t
  | str b=>obtain ⟨t,rfl⟩:=rx;exact SeqAt.EqAt.str_str a t' b t
  | _=>exact absurd (show false=true from fx) q0v
 | _=>exact absurd (show false=true from fy) q0v
theorem h9:T7 X (.builtin "len") (λxs H Q => ∃ p ys,xs=[.ref p]/\(SqL X.K H p ys \/ SqT X.K H p ys)/\Q (.int ys.length) H):=by
 intro pins s σ H xs us Q I r h;obtain ⟨p,ys,rfl,hq,q⟩:=h;obtain ⟨u,rfl,rx⟩:=ab9 r
 cases rx
 have hn:=ag0;rcases hq with hq | hq
 ·obtain ⟨its,r',pl,hz⟩:=I.list hq
  have hlen:=r'.length;exact Calls.call_len_list pl.isList (by simp only [q0p] <;> omega) ⟨.int ys.length,H,I.tok _,⟨s.toks+1,by rw [q0p,hlen]⟩,q⟩
 ·obtain ⟨its,r',pl,hz⟩:=I.tuple hq
  have hlen:=r'.length;exact len_tuple pl (by simp only [q0p] <;> omega) ⟨.int ys.length,H,I.tok _,⟨s.toks+1,by rw [q0p,hlen]⟩,q⟩
theorem x8:T7 X (.type "list") (λxs H Q => ∃ p ys,xs=[.ref p]/\(SqL X.K H p ys \/ SqT X.K H p ys)/\∀ l,H l=none->Q (.ref l) (upd H l (.lst ys))):=by
 intro pins s σ H xs us Q I r h;obtain ⟨p,ys,rfl,hq,q⟩:=h;obtain ⟨u,rfl,rx⟩:=ab9 r
 cases rx
 have fin:∀ (its:List Value),k8 ys its->ys.length<=sizeLine->∀ (h':Heap) (c':Nat),(∀ b o',s.heap.get? b=some o'->h'.get? b=some o') ->
   h'.get? s.heap.objs.size=some { cls:=.type "list",dict:=none,data:=.seq its.toArray c',slots:=#[] }->EP X pins σ Q (.ref s.heap.objs.size) { s with heap:=h' }:=λits r' hz h' c' kp e =>
  ⟨.ref s.heap.objs.size,_,I.laid (t':=s.toks) kp (q0t _) (show D3 X.prog X.w _ h' _ (.lst ys) from ⟨hz,its,c',r',e⟩),rfl,q _ (I.hok.fresh (q0t _))⟩
 rcases hq with hq | hq
 ·obtain ⟨its,r',pl,hz⟩:=I.list hq
  have hlen:=r'.length;obtain ⟨o,ho,hc,n,hd⟩:=pl.isList;exact call_list_seq p (.inl rfl) ho hc hd (λh' c' kp e=>fin its r' hz h' c' kp e) (by simp only [q0p] <;> omega)
 ·obtain ⟨its,r',pl,hz⟩:=I.tuple hq
  have hlen:=r'.length;obtain ⟨o,ho,hc,n,hd⟩:=pl;exact call_list_seq p (.inr rfl) ho hc hd (λh' c' kp e=>fin its r' hz h' c' kp e) (by simp only [q0p] <;> omega)
def tyV (K:PySem.W.Frag) (T:String) (x:V) (H:Hp):Prop:=match x with
  | .str _=>T = "str"
  | .int _=>T = "int"
  | .ref p => (T = "list" ∧ ∃ xs, SqL K H p xs) ∨ (T = "tuple" ∧ ∃ o, K.lookup p = some o ∧ o.cls = .type "tuple" ∧ o.dict = none) ∨
      (T = "dict"/\((∃ kvs,H p=some (.dK kvs)) \/ ∃ kvs,H p=some (.dT kvs))) \/ (T = "set"/\∃ S n,H p=some (.set S n))
  | _=>False
theorem aS4 {pins:List (Addr × Obj)} {σ:St} {H:Hp} {s:Shared} {T:String} {x:V} {v:Value} (I:Inv X pins σ H s) (r:t5 x v) (ty:tyV X.K T x H) :
  s.TypeIs v T/\∀ a,v=.ref a->∃ ob,s.heap.get? a=some ob/\ob.dict=none:=by
 cases x with
 | str z =>
  obtain ⟨t,rfl⟩:=r
  cases (show T = "str" from ty)
  exact ⟨typeIs_str s z t,λ_ e=>nomatch e⟩
 | int i =>
  obtain ⟨t,rfl⟩:=r
  cases (show T = "int" from ty)
  exact ⟨typeIs_int s i t,λ_ e=>nomatch e⟩
 | ref p =>
  cases r
  rcases ty with ⟨rfl,xs,hq⟩ | ⟨rfl,o,hk,hc,hd⟩ | ⟨rfl,hk⟩ | ⟨rfl,S,n,hk⟩
  ·obtain ⟨its,_,pl,_⟩:=I.list hq
   refine ⟨pl.isList.typeIs,λa e=>?_⟩
   cases e
   obtain ⟨o,n,e,c,hd,_⟩:=pl;exact ⟨o,e,hd⟩
  ·refine ⟨⟨o,I.kIn p o hk,hc⟩,λa e=>?_⟩
   cases e
   exact ⟨o,I.kIn _ o hk,hd⟩
  ·have z:∃ o,s.heap.get? p=some o/\o.ExactDict:=by
    rcases hk with ⟨kvs,hk⟩ | ⟨kvs,hk⟩
    ·obtain ⟨_,_,_,_,o,_,_,e,ex,_⟩:=I.hok p _ hk
     exact ⟨o,e,ex⟩
    ·obtain ⟨_,_,_,_,o,_,_,e,ex,_⟩:=I.hok p _ hk
     exact ⟨o,e,ex⟩
   obtain ⟨o,e,ex⟩:=z;refine ⟨⟨o,e,ex.1⟩,λa e2=>?_⟩
   cases e2
   exact ⟨o,e,ex.2.1⟩
  ·obtain ⟨o,_,_,_,e,ex,_⟩:=I.hok p _ hk
   refine ⟨⟨o,e,ex.1⟩,λa e2=>?_⟩
   cases e2
   exact ⟨o,e,ex.2.1⟩
 | _=>exact False.elim ty
def au8 (K:q0a) (T:String) (r:V->List V->Hp->VK->Prop) (to:TE):TE:=λσ H Q=>to σ H λx H1=>tyV K T x H1/\r x [] H1 Q
def tBM (K:q0a) (T:String) (r:V->List V->Hp->VK->Prop) (to:TE) (t:TA):TE:=λσ H Q=>to σ H λx H1=>tyV K T x H1/\t σ H1 λxs H2=>r x xs H2 Q
variable {o e:Expr} {es:List Expr} {to:TE} {t:TA} {name:Str} {apos cpos:Pos} {T id:String} {r:V->List V->Hp->VK->Prop}
theorem aa7 (pa:PlainAttrs T) (slot:Slot T name id) (hty:typeOf (.builtin id)=pure (.type "method_descriptor")) (hm:MtR X id r) (ho:PE X o to)
  (hbase:attributeBase o name X.env (eval o X.env)=eval o X.env:=by rfl) (hline:(apos.endLine == cpos.line)=true:=by rfl):PE X (.Call (.Attribute o name apos) [] [] cpos) (au8 X.K T r to):=by
 intro pins s σ H Q I h;refine wpAny_Call_method0_late hbase hline (thn (ho pins s σ H _ I h) λv s1 zq=>?_);obtain ⟨x,H1,I1,r1,ty,q1⟩:=zq;obtain ⟨h1,h2⟩:=aS4 I1 r1 ty;exact ⟨T,id,pa,slot,hty,h1,h2,Calls.callWith_builtin rfl (PySem.evalArgs_none (hm pins s1 σ H1 x [] v [] Q I1 r1 .nil q1))⟩
theorem aU7 (pa:PlainAttrs T) (slot:Slot T name id) (hty:typeOf (.builtin id)=pure (.type "method_descriptor")) (hm:MtR X id r) (ho:PE X o to) (ha:PA X (e :: es) t)
  (hbase:attributeBase o name X.env (eval o X.env)=eval o X.env:=by rfl)
  (hfew:((backTo cpos (starEach (e :: es) X.env)).all (λx => !x.1) && (backToKw cpos (keywordEach [] X.env)).all (λx=>x.1.isSome)
   && decide ((e :: es).length+([]:List Keyword).length+(if ([]:List Keyword).isEmpty then 0 else 1)<30))=true:=by rfl)
  (hline:(apos.endLine == cpos.line)=true:=by rfl) (hs:starEach (e :: es) X.env=(false,eval e X.env) :: starEach es X.env:=by rfl) (hplain:(backTo cpos (starEach es X.env)).any (·.1)=false:=by rfl) :
  PE X (.Call (.Attribute o name apos) (e :: es) [] cpos) (tBM X.K T r to t):=by
 intro pins s σ H Q I h;refine wpAny_Call_method_late hbase hfew hline rfl (thn (ho pins s σ H _ I h) λv s1 zq=>?_);obtain ⟨x,H1,I1,r1,ty,q1⟩:=zq;obtain ⟨h1,h2⟩:=aS4 I1 r1 ty;refine ⟨T,id,pa,slot,hty,h1,h2,?_⟩;have hA:=ha cpos pins s1 σ H1 _ I1 q1;rw [hs] at hA ⊢;refine Calls.callWith_builtin (by show (false || (backTo cpos (starEach es X.env)).any (·.1))=false;rw [hplain] <;> rfl) (Calls.evalArgs_plain ?_)
 refine thn hA λus s2 zq=>?_;obtain ⟨vs,H2,I2,r2,q2⟩:=zq;exact hm pins s2 σ H2 x vs v us Q I2 r1 r2 q2
end
def MtM (X:Cx) (id:String) (r:V->List V->Hp->VK->Prop):Prop :=
 ∀ (pins:List (Addr × Obj)) (s:Shared) (σ:St) (H:Hp) (x:V) (xs:List V) (v:Value) (us:List Value) (Q:VK),Inv X pins σ H s->t5 x v->k8 xs us->r x xs H Q ->
  wpAny (model X.prog X.w) X.A (call (.builtin id) (v :: us)) (EP X pins σ Q) X.xe s
theorem k8.one:∀ {x:V} {us:List Value},k8 [x] us->∃ u,us=[u]/\t5 x u
 | _,_,.cons r .nil=>⟨_,rfl,r⟩
theorem k8.two:∀ {x y:V} {us:List Value},k8 [x,y] us->∃ u v,us=[u,v]/\t5 x u/\t5 y v
 | _,_,_,.cons r (.cons q .nil)=>⟨_,_,rfl,r,q⟩
theorem k8.zero:∀ {us:List Value},k8 [] us->us=[]
 | _,.nil=>rfl
theorem k8.dropLast {xs:List V} {us:List Value} (h:k8 xs us):k8 xs.dropLast us.dropLast:=by
 induction h with
 | nil=>exact .nil
 | cons r t ih =>
  cases t with
  | nil=>exact .nil
  | cons q t'=>exact .cons r ih
theorem k8.rep {xs:List V} {us:List Value} (h:k8 xs us):∀ k:Nat,k8 (q0z k xs).flatten (q0z k us).flatten
 | 0=>.nil
 | k+1=>by
  rw [y0x,y0x,u0f,u0f];exact k8.append h (k8.rep h k)
theorem aJ6 {α:Type} (l:List α):l.eraseIdx (l.length-1)=l.dropLast:=by
 induction l with
 | nil=>rfl
 | cons a r ih =>
  cases r with
  | nil=>rfl
  | cons b r =>
   have e:(a :: b :: r).length-1=((b :: r).length-1)+1:=by
    have h1:(a :: b :: r).length=r.length+2:=rfl;have h2:(b :: r).length=r.length+1:=rfl;omega
   rw [e,List.eraseIdx_cons_succ,ih]
   all_goals rfl
theorem as5 (its:List Value):∀ (k:Nat) (acc:List Value),
  List.foldl (λx1 x2=>x1 ++ x2) acc.toArray (q0z k its.toArray)=(acc ++ (q0z k its).flatten).toArray
 | 0,acc=>by simp
 | k+1,acc=>by
  have e:acc.toArray ++ its.toArray=(acc ++ its).toArray:=by simp
  have e2:(acc ++ its) ++ (q0z k its).flatten=acc ++ (q0z (k+1) its).flatten:=by
   rw [y0x,u0f,List.append_assoc]
  rw [<- e2,<- as5 its k (acc ++ its),<- e,y0x,u0w]
section
variable {X:Cx} {pins:List (Addr × Obj)} {σ:St} {H:Hp} {s:Shared} {l b:Addr} {xs ys zs:List V}
theorem Inv.lset {its its':List Value} {n:Nat} {f:Array Value->Array Value} {t':Nat} (I:Inv X pins σ H s) (hH:H l=some (.lst xs))
  (e:s.heap.get? l=some { cls:=.type "list",data:=.seq its.toArray n }) (hf:f its.toArray=its'.toArray) (hv:k8 ys its') (hz:ys.length<=sizeLine) :
  Inv X pins σ (upd H l (.lst ys)) { s with heap:=s.heap.update l (Obj.mapSeq f),toks:=t' }:=by
 have q:=PySem.IsL.update e f;rw [hf] at q;refine I.write (x:=l) (e:=l) (by rw [hH];exact trivial) (.inl rfl) (λb' u hb hu=>(j0n s.heap (Obj.mapSeq f) (Ne.symm hb)).trans hu) ⟨_,q⟩ ?_
 exact ⟨hz,its',_,hv,q⟩
theorem Inv.lnew {its:List Value} {t':Nat} (I:Inv X pins σ H s) (hv:k8 ys its) (hz:ys.length<=sizeLine) :
  Inv X pins σ (upd H s.heap.objs.size (.lst ys)) { s with heap:=s.heap.push { cls:=.type "list",data:=.seq its.toArray },toks:=t' } :=
 I.laid (λ_ _ q=>q0u _ q) (q0t _) ⟨hz,its,0,hv,z0x _ rfl⟩
theorem Inv.fresh (I:Inv X pins σ H s):H s.heap.objs.size=none:=I.hok.fresh (q0t _)
theorem Inv.lstM (I:Inv X pins σ H s) (hH:H l=some (.lst xs)):xs.length<=sizeLine/\∃ (its:List Value) (n:Nat),k8 xs its/\xs.length=its.length/\s.heap.get? l=some { cls:=.type "list",data:=.seq its.toArray n }:=by
 obtain ⟨z,its,n,r,e⟩:=I.hok l _ hH;exact ⟨z,its,n,r,r.length,e⟩
theorem aV0 {n:Nat} (h:n<=sizeLine):Builtin.List.listTooLong n=false:=by
 unfold Builtin.List.listTooLong;exact decide_eq_false ⋯
end
section
variable {X:Cx}
def O7:V->List V->Hp->VK->Prop:=λx vs H Q => ∃ l xs y,x=.ref l/\vs=[y]/\H l=some (.lst xs)/\xs.length<sizeLine/\Q .non (upd H l (.lst (xs ++ [y])))
theorem Q6:MtM X "list.append" O7:=by
 intro pins s σ H x vs v us Q I rx rv h;obtain ⟨l,xs,y,rfl,rfl,hH,hz,q⟩:=h
 cases rx
 obtain ⟨u,rfl,ru⟩:=rv.one;obtain ⟨z,its,n,r,hl,e⟩:=I.lstM hH;refine call_meets F.slot_list_append ⟨_,e,rfl⟩ F.entry_list_append (F.args_list_append_2 _ _) (PySem.list_append l its.toArray n u (by rw [q0p];omega)) ⟨e,?_⟩
 refine ⟨.non,_,I.lset (its':=its ++ [u]) hH e (by simp) (r.append (.cons ru .nil)) ?_,rfl,q⟩
 rw [j0z,u0r];omega
def rExtend:V->List V->Hp->VK->Prop:=λx vs H Q => ∃ l b xs zs,x=.ref l/\vs=[.ref b]/\H l=some (.lst xs)/\H b=some (.lst zs)/\xs.length+zs.length<=sizeLine/\Q .non (upd H l (.lst (xs ++ zs)))
def aC4:V->List V->Hp->VK->Prop:=λx vs H Q => ∃ l xs y,x=.ref l/\vs=[]/\H l=some (.lst xs)/\xs[xs.length-1]? = some y/\Q y (upd H l (.lst xs.dropLast))
theorem bi9:MtM X "list.pop" aC4:=by
 intro pins s σ H x vs v us Q I rx rv h;obtain ⟨l,xs,y,rfl,rfl,hH,hy,q⟩:=h
 cases rx
 have hus:=rv.zero;subst hus;obtain ⟨z,its,n,r,hl,e⟩:=I.lstM hH;obtain ⟨u,hu,ru⟩:=r.get hy
 have hy':its.toArray[its.toArray.size-1]? = some u:=by
  show its.toArray[its.length-1]? = some u;rw [<- Array.getElem?_toList,<- hl];exact hu
 refine call_meets F.slot_list_pop ⟨_,e,rfl⟩ F.entry_list_pop (F.args_list_pop_1 _) (MeetsSeq.list_pop_last l its.toArray n u hy' (by rw [q0p];omega)) ⟨e,?_⟩
 refine ⟨y,_,I.lset (its':=its.dropLast) hH e ?_ r.dropLast ?_,ru,q⟩
 ·show its.toArray.eraseIdxIfInBounds (its.toArray.size-1)=its.dropLast.toArray
  rw [q0p,List.eraseIdxIfInBounds_toArray,aJ6]
 ·rw [List.length_dropLast]
  omega
def bh3:V->List V->Hp->VK->Prop:=λx vs H Q => ∃ l xs,x=.ref l/\vs=[]/\H l=some (.lst xs)/\Q .non (upd H l (.lst []))
theorem aV8:MtM X "list.clear" bh3:=by
 intro pins s σ H x vs v us Q I rx rv h;obtain ⟨l,xs,rfl,rfl,hH,q⟩:=h
 cases rx
 have hus:=rv.zero;subst hus;obtain ⟨z,its,n,r,hl,e⟩:=I.lstM hH;refine call_meets F.slot_list_clear ⟨_,e,rfl⟩ F.entry_list_clear (F.args_list_clear_1 _) (AutoSeq1.list_clear_list_0 l its.toArray n (by rw [q0p];omega)) ⟨e,?_⟩
 exact ⟨.non,_,I.lset (its':=[]) (ys:=[]) hH e rfl .nil (z0m _),rfl,q⟩
def aC8:R2:=λx y H Q => ∃ l b xs zs,x=.ref l/\y=.ref b/\H l=some (.lst xs)/\H b=some (.lst zs)/\xs.length+zs.length<=sizeLine/\∀ p,H p=none->Q (.ref p) (upd H p (.lst (xs ++ zs)))
theorem aU9:OpR X (binaryOp .Add) aC8:=by
 intro pins s σ H x y v u Q I rx ry h;obtain ⟨l,b,xs,zs,rfl,rfl,hH,hB,hz,q⟩:=h
 cases rx
 cases ry
 obtain ⟨z,its,n,r,hl,e⟩:=I.lstM hH;obtain ⟨z2,its2,n2,r2,hl2,e2⟩:=I.lstM hB;refine PySem.P.add_list e e2 ?_ (by rw [q0p,q0p];omega)
 have ea:its.toArray ++ its2.toArray=(its ++ its2).toArray:=by simp
 rw [ea];exact ⟨.ref _,_,I.lnew (t':=s.toks) (r.append r2) (by rw [j0z];omega),rfl,q _ I.fresh⟩
def aC3:R2:=λx y H Q => ∃ l k xs,x=.ref l/\y=.int k/\H l=some (.lst xs)/\-(2 ^ 63)<=k/\k<2 ^ 63/\xs.length*k.toNat<=sizeLine /\
 ∀ p,H p=none->Q (.ref p) (upd H p (.lst (q0z k.toNat xs).flatten))
theorem bc1 {α:Type} (xs:List α) (k:Nat):(q0z k xs).flatten.length=k*xs.length:=by
 induction k with
 | zero=>simp
 | succ k ih=>rw [y0x,u0f,j0z,ih,Nat.succ_mul,g0s]
theorem aI0:OpR X (binaryOp .Mult) aC3:=by
 intro pins s σ H x y v u Q I rx ry h;obtain ⟨l,k,xs,rfl,rfl,hH,h1,h2,hz,q⟩:=h
 cases rx
 obtain ⟨t,rfl⟩:=ry;obtain ⟨z,its,n,r,hl,e⟩:=I.lstM hH;have hlen:its.toArray.size*k.toNat<=sizeLine:=by rw [q0p,<- hl];exact hz
 have hcap:¬ its.toArray.size*k.toNat > (2 ^ 63-1) / 8:=by
  have:(sizeLine:Nat)<=(2 ^ 63-1) / 8:=by decide
  omega
 have hfit:¬ (!Builtin.List.listFitsIndex k)=true:=by
  rw [fitsIndex_both h1 h2];exact q0v
 have hlong:¬ Builtin.List.listTooLong (its.toArray.size*k.toNat)=true:=by
  rw [aV0 hlen];exact q0v
 have hnew:List.foldl (λx1 x2=>x1 ++ x2) #[] (q0z (if its.toArray.isEmpty=true then 0 else k.toNat) its.toArray)=(q0z k.toNat its).flatten.toArray:=by
  have f0:∀ m:Nat,List.foldl (λx1 x2=>x1 ++ x2) #[] (q0z m its.toArray)=(q0z m its).flatten.toArray:=λm=>by
   have:=as5 its m [];rw [m0d] at this;exact this
  rw [f0]
  cases its with
  | nil=>simp
  | cons a r'=>rw [if_neg (by simp)]
 refine wpAny_binaryOp_repeat_ref (T := "list") (U := "int") (by decide) ⟨_,e,rfl⟩ (λs'=>typeIs_int s' k t) noFill_list_mul F.fills_int_mul F.slot_int_rmul repeat_list F.slot_int_index.lookup
  (call_meets F.slot_int_rmul (typeIs_int s k t) F.entry_int_rmul (F.args_int_rmul_2 _ _) (int___rmul___int_list k t l its.toArray n)
   ⟨e,rfl,⟨_,e,rfl⟩,call_meets F.slot_list_mul ⟨_,e,rfl⟩ F.entry_list_mul (F.args_list_mul_2 _ _) (AutoListH.list___mul___list_int_3 l its.toArray n k t hfit hcap hlong) ⟨e,?_⟩⟩)
 rw [hnew];exact ⟨.ref _,_,I.lnew (t':=s.toks) (r.rep k.toNat) (by rw [bc1,u0x];exact hz),rfl,q _ I.fresh⟩
end
end L2
namespace Att
open PySem PySem.W PySem.Calls PyProof.Rows
theorem ak1 {P:Params} {h:Heap}:∀ (ns:List Int) (vs:List Value),WellAll P h vs (ns.map WData.int)->IntsAre vs ns:=by
 intro ns
 induction ns with
 | nil =>
  intro vs w;rw [m0v] at w
  cases w
  exact .nil
 | cons n ns ih =>
  intro vs w;rw [j0x] at w
  cases w with
  | cons a b =>
   cases a
   exact .cons _ _ (ih _ b)
theorem aO1 {l:OpenLaw} {n:Nat} (hn:l.most=some n) {P:Params} {h:Heap} {args:List WData} {vals:List Value}
  (hpre:l.row.toRowW.claim.pre args=true) (hwl:WellAll P h vals args) :
  ∃ a vs ns,vals=[Value.ref a]/\args=[WData.list (ns.map WData.int)]/\h.get? a=some { cls:=.type "list",data:=.seq vs.toArray }/\IntsAre vs ns/\ns.length<=n:=by
 have hsh:WShape.hasAll [] args [.list .int]=true:=(pre_splitW hpre).1;have hc:l.pre.holds [] { args:=args }=true:=(pre_splitW hpre).2;obtain ⟨d,r,rfl,h1,h2⟩:=hasAllW_cons hsh;obtain rfl:=hasAllW_nil h2;obtain ⟨xs,rfl,h3⟩:=hasW_list h1;obtain ⟨ns,rfl⟩:=items_int h3
 have hlen:ns.length<=n:=by
  unfold OpenLaw.pre at hc
  have h4:(WTm.not (.lt (.lit (.int (n:Int))) (.len (.arg 0)))).holds [] { args:=[.list (ns.map .int)] }=true:=by
   have h4:=(holds_andW hc).1;rw [hn] at h4;exact h4
  have h5:=condW_of h4 (w_not (w_lt w_lit (w_len_list (w_arg rfl))));rw [q0m] at h5;refine Nat.le_of_not_lt λq=>?_;have q':(n:Int)<((ns.length:Nat):Int):=⋯
  first
   | (rw [decide_eq_true q'] at h5;exact absurd h5 (by decide))
   | (simp at h5;omega)
 cases hwl with
 | cons w1 w2 =>
  cases w2
  cases w1 with
  | list ho hall=>exact ⟨_,_,ns,rfl,rfl,ho,ak1 ns _ hall,hlen⟩
theorem aO6 (l:OpenLaw) (args:List WData):l.row.toRowW.claim.post args (.bool true) args=true :=
 postW_of (r:=l.row.toRowW) (X:=(true == true))
  (show WShape.has [] (.bool true) .bool=true by first | rfl | decide | simp [WShape.has,WShape.arms,WShape.armsAll])
  (show (WTm.eq .res (.lit (.bool true))).value [] { args:=args,res:=some (.bool true),after:=args }=some (.bool (true == true)) from w_eq_bool (w_res rfl) w_lit) rfl
theorem attach_call {l:OpenLaw} {n:Nat} {q:Program} {loose:List Str} {XP:(Str->Option Value)->Heap->Prop} {YP:World->Heap->Prop} {d:DefRec}
  (hn:l.most=some n) (hdf:d.params.defaults=[])
  (call:∀ (w:World) (s₀ s₁:Shared) (mg mb:Str->Option Value) (fa:Addr) (o:Obj) (pm cd doc:Value) (a:Addr) (vs:List Value) (ns:List Int),
   Ground q loose [] XP w s₀ mg mb s₁.heap->YP w s₁.heap ->
   s₁.heap.get? fa=some o->o.data=.func (docDef d.name d.params d.body d.scope pm cd doc)->s₁.heap.CodeRec cd d.name->mg d.name=some (.ref fa) ->
   s₁.heap.get? a=some { cls:=.type "list",data:=.seq vs.toArray }->IntsAre vs ns->ns.length<=n->s₁.gens = #[] ->
   codeAny (model l.prog w) callerA (.call (.ref fa) ⟨[.ref a],[]⟩) (λr s'=>r=.ok (.ret (.bool true))/\OldK s₁.heap s'.heap/\s'.os=s₁.os/\AllBare s'.gens) s₁) :
  WalkO q loose XP YP l.row.toRowW d [] (λf vs=>PySem.call f vs):=by
 intro w s₀ s₁ mg mb G Y fa o pm cd doc dV kV ho hd hcd hD hmg hg args vals as hpre hlay hrd hwl hlo;obtain rfl:dV=.none:=Dflts.none hD hdf;obtain rfl:kV=.none:=Dflts.noKw hD;obtain ⟨a,vs,ns,rfl,rfl,hobj,hints,hlen⟩:=aO1 hn hpre hwl;refine enter_call (codeAny_mono (call w s₀ s₁ mg mb fa o pm cd doc a vs ns G Y ho (fd_plain hd) hcd hmg hobj hints hlen hg) λr s' hq=>?_);obtain ⟨rfl,h2,h3,h4⟩:=hq;exact ⟨.inl ⟨.bool true,.bool true,[],rfl,λ_=>rfl,.bool true,aO6 l _,λ_=>⟨List.Pairwise.nil,λ_ hm=>(nomatch hm)⟩⟩,h2,h3,h4⟩
end Att
namespace L2
open PySem PySem.Spec PyProof.Rows
theorem ar2:∀ {vs:List Value} {ns:List Int},IntsAre vs ns->k8 (ns.map V.int) vs
 | _,_,.nil=>.nil
 | _,_,.cons n t h=>.cons ⟨t,rfl⟩ (ar2 h)
def bm1 (H:Hp):Prop:=∀ b,H b=none \/ ∃ o xs,H b=some (.frz o (.lst xs))
theorem aW1 {P:Program} {w:World} {K:q0a} {mg mb:Str->Option Value} {CX:CXT} {k:Nat} {fa a:Addr} {fd:FuncData} {x:Str} {sp:Sp} {s₁:Shared} {vs:List Value} {ns:List Int}
  (KX:K.In s₁.heap) (hns:s₁.heap.Ns mainGlobals mg) (hb:s₁.heap.Ns builtinsNs mb) (hbb:∀ x:Str,x ≠ "__name__"->mb x=bootBuiltins x) (hlim:s₁.heap.NoLimit) (hg:s₁.gens = #[])
  (ha:s₁.heap.get? a=some { cls:=.type "list",data:=.seq vs.toArray }) (hi:IntsAre vs ns) (hl:ns.length<=sizeLine) (hr:Q9 k callerA)
  (F:∀ base:Heap,K.In base->base.Ns mainGlobals mg->V8 P w K mg base CX k fa fd [x] sp) (hbind:∀ (s:Shared) (u:Value),BindsTo s fd ⟨[u],[]⟩ [(x,u)])
  (hsp:∀ H:Hp,bm1 H->SqL K H a (ns.map V.int)->sp [.ref a] H (λv _=>v=.bl true) λ_ _ _=>False)
  (hCX:∀ H e s',CX [] H s₁ (λ_ _ _=>False) e s'->False) :
  codeAny (model P w) callerA (.call (.ref fa) ⟨[.ref a],[]⟩) (λr s'=>r=.ok (.ret (.bool true))/\OldK s₁.heap s'.heap/\s'.os=s₁.os/\AllBare s'.gens) s₁:=by
 have rv:=ar2 hi;have lenV:=hi.length
 -- from an abstract heap in which nothing but the script may be tracked
 have core:∀ H:Hp,bm1 H->SqL K H a (ns.map V.int)->HOk P w H s₁.heap->(∀ b,H b ≠ none->b=a)->(H a ≠ none->K.lookup a=none) ->
   codeAny (model P w) callerA (.call (.ref fa) ⟨[.ref a],[]⟩) (λr s'=>r=.ok (.ret (.bool true))/\OldK s₁.heap s'.heap/\s'.os=s₁.os/\AllBare s'.gens) s₁:=by
  intro H hO hS hok hA hK;have base_of:∀ {b:Addr} {o:Obj},s₁.heap.get? b=some o->H b=none->(ay7 s₁.heap H).get? b=some o:=λe n=>aW6 e n
  have noA:∀ {b:Addr} {o:Obj} {es:Array DictEntry} {ep:Nat},s₁.heap.get? b=some o->o.data=.dict es ep->H b=none:=fun {b o es ep} e d=>by
   cases q:H b with
   | none=>rfl
   | some u =>
    have e':b=a:=hA b (by rw [q];simp)
    subst e';rw [ha] at e;cases e;have d':Data.seq vs.toArray _=Data.dict es ep:=d
    cases d'
  have nsK:∀ {b:Addr} {m:Str->Option Value},s₁.heap.Ns b m->(ay7 s₁.heap H).Ns b m:=fun {b m} ⟨o,es,ep,e,d,r⟩=>⟨o,es,ep,base_of e (noA e d),d,r⟩
  have hKb:K.In (ay7 s₁.heap H):=λb o e=>base_of (KX b o e) (by
   cases q:H b with
   | none=>rfl
   | some u =>
    have e':b=a:=hA b (by rw [q];simp)
    subst e';rw [hK (by rw [q];simp)] at e;cases e)
  have hM:Mod K mg (ay7 s₁.heap H):=⟨hKb,nsK hns,⟨mb,nsK hb,hbb⟩,let ⟨mc,h1,h2⟩:=hlim;⟨mc,nsK h1,h2⟩⟩;have e0:ba0 P w K mg (ay7 s₁.heap H) callerA [] s₁ H:=⟨rfl,hM,λb o e=>bb5 e,Nat.le_of_eq (aP6 _ _),trivial,λb hb=>absurd (show b ∈ ([]:List Addr) from hb) (by simp),hok,.of_eq hg⟩
  refine codeAny_mono ((F _ hKb (nsK hns)).run callerA [] s₁ H ⟨[.ref a],[]⟩ [.ref a] [.ref a] _ _ hr e0 (hbind s₁ (.ref a)) (.cons rfl .nil) (hsp H hO hS)) λr s' h=>?_
  cases r with
  | error e=>exact (hCX H e s' h).elim
  | ok fl =>
   cases fl with
   | next=>exact False.elim h
   | brk=>exact False.elim h
   | cont=>exact False.elim h
   | ret u =>
    obtain ⟨v,H',os,bare,un,hok',r',q⟩:=h;have q':v=.bl true:=q;subst q';obtain rfl:u=Value.bool true:=r';refine ⟨rfl,OldK.of_keep λb o e=>?_,os,bare⟩
    cases q:H b with
    | none=>exact un.keep b o e q (by intro z;exact absurd (show b ∈ ([]:List Addr) from z) (by simp)) (by simp)
    | some u =>
     rcases hO b with z | ⟨ob,xs,z⟩
     ·rw [q] at z;cases z
     ·have z2:=un.frzs b ob _ z
      obtain ⟨e1,_⟩:=hok b _ z;obtain ⟨e2,_⟩:=hok' b _ z2;rw [e] at e1;cases e1;exact e2
 cases hk:K.lookup a with
 | some o =>
  -- the script is one of the module's own objects
  have e:=KX a o hk;rw [ha] at e
  cases e
  refine core (λ_=>none) (λ_=>.inl rfl) (.inr ⟨_,vs.toArray,_,hk,rfl,rfl,rfl,by rw [q0p,lenV];exact hl,by simpa using rv⟩) (λb u z=>by have z':(none:Option HO)=some u:=z;cases z') (λb z=>absurd rfl z) λz=>absurd rfl z
 | none =>
  refine core (λb=>if b=a then some (.frz { cls:=.type "list",data:=.seq vs.toArray } (.lst (ns.map V.int))) else none) (λb=>?_) (.inl (.inr ⟨{ cls:=.type "list",data:=.seq vs.toArray },if_pos rfl⟩)) (λb u z=>?_) (λb z=>?_) λ_=>hk
  ·by_cases hb:b=a
   ·exact .inr ⟨_,_,if_pos hb⟩
   ·exact .inl (if_neg hb)
  ·by_cases hb:b=a
   ·have z':=(if_pos hb).symm.trans z
    cases z'
    subst hb;exact ⟨ha,by rw [q0m];exact hl,vs,_,rv,ha⟩
   ·have z':=(if_neg hb).symm.trans z
    cases z'
  ·by_cases hb:b=a
   ·exact hb
   ·exact absurd (if_neg hb) z
abbrev KOf {K:q0a} {h:Heap} (_:K.In h):q0a:=K
theorem aK5 {l:m0e} {n k:Nat} {q:Program} {loose:List Str} {XP:(Str->Option Value)->Heap->Prop} {YP:World->Heap->Prop} {d:DefRec} {K:Params->q0a} {CX:World->CXT} {sp:World->Sp} {x:Str}
  (hn:l.most=some n) (hn2:n<=sizeLine) (hdf:d.params.defaults=[]) (hr:Q9 k callerA)
  (hY:∀ (w:World) (h:Heap),YP w h->(K w.params).In h)
  (F:∀ (w:World) (mg:Str->Option Value) (fa:Addr) (h:Heap),(K w.params).In h->h.Ns mainGlobals mg->mg d.name=some (.ref fa) ->
   ∃ fd:FuncData,(∀ (s:Shared) (u:Value),BindsTo s fd ⟨[u],[]⟩ [(x,u)]) /\
    ∀ base:Heap,(K w.params).In base->base.Ns mainGlobals mg->V8 l.prog w (K w.params) mg base (CX w) k fa fd [x] (sp w))
  (hsp:∀ (w:World) (H:Hp) (a:Addr) (ns:List Int),ns.length<=n->bm1 H->SqL (K w.params) H a (ns.map V.int)->sp w [.ref a] H (λv _=>v=.bl true) λ_ _ _=>False)
  (hCX:∀ (w:World) (H:Hp) (s:Shared) (e:Value) (s':Shared),CX w [] H s (λ_ _ _=>False) e s'->False) :
  PySem.W.WalkO q loose XP YP l.row.toRowW d [] (λf vs=>PySem.call f vs):=by
 refine Att.attach_call hn hdf λw s₀ s₁ mg mb fa o pm cd doc a vs ns G Y ho hd hcd hmg hobj hints hlen hg=>?_;have KX:=hY w _ Y;obtain ⟨fd,hb,hF⟩:=F w mg fa _ KX G.T.g hmg;exact aW1 KX G.T.g G.T.b G.T.builtins G.T.nolimit hg hobj hints (z0f hlen hn2) hr hF hb (λH hO hS=>hsp w H a ns hlen hO hS) λH e s'=>hCX w H s₁ e s'
end L2
namespace L2
open PySem PySem.Spec PyProof.Rows
def X4 (s:Stmt):Arguments:=match s with
 | .FunctionDef _ a _ _ _ _ _ _ _ _=>a
 | _=>{ posonlyargs:=[],args:=[],vararg:=none,kwonlyargs:=[],kw_defaults:=[],kwarg:=none,defaults:=[] }
def L8 (s:Stmt):List Stmt:=match s with
 | .FunctionDef _ _ b _ _ _ _ _ _ _=>b
 | _=>[]
def d6 (s:Stmt):Scope:=match s with
 | .FunctionDef _ _ _ _ _ _ sc _ _ _=>sc
 | _=>{ kind:=.function,names:=[],isGenerator:=false,isCoroutine:=false }
abbrev CX0:CXT:=λ_ _ _ _ _ _=>False
abbrev E0:XK:=λ_ _ _=>False
theorem e9 {X:Cx}:aA3 CX0 X E0:=λ_ _ _ _ _ _ _ h=>h.elim
structure Fun (K:q0a) (x qual:Str) (st:Stmt) (f:Addr) (fd:FuncData):Prop where
 ex:∃ (oc:Value) (od:Option Addr) (kV doc pm:Value) (an:Option Addr) (cdv ct:Value) (osl:Array (Option Value)),
  fd=y0s x qual (X4 st) (L8 st) (d6 st) .none kV doc pm an cdv ct/\K.lookup f=some ⟨oc,od,.func fd,osl⟩/\m0m K cdv qual=true
 kp:y0e K (.ref f)=true
section
variable {P:Program} {w:World} {K:q0a} {mg:Str->Option Value} {base:Heap}
theorem Fun.ok {x qual:Str} {st:Stmt} {f:Addr} {fd:FuncData} {N ps:List Str} {k:Nat} {sp:Sp} (F:Fun K x qual st f fd) (S:i8 N ps (d6 st)) (len:∀ vs H Q E,sp vs H Q E->vs.length=ps.length)
  (hbody:∀ (cdv:Value) (A:Around) (outer:List Env) (s:Shared) (H:Hp) (vs:List V) (Q:VK) (E:XK),Q9 k (A.deeper (envOfC qual (d6 st) s.heap.objs.size f cdv))->sp vs H Q E ->
   ∃ t,PSs (ab5 CX0 P w K mg base N qual (d6 st) f cdv A outer s H E).nox (L8 st) t/\t { nx:=λ_ H'=>Q .non H',rt:=Q } (start N vs) H):V8 P w K mg base CX0 (k+1) f fd ps sp:=by
 obtain ⟨oc,od,kV,doc,pm,an,cdv,ct,osl,rfl,lk,hcd⟩:=F.ex;refine bn9 lk hcd S len λA outer s H vs Q E hr hsp=>?_;obtain ⟨t,h,q⟩:=hbody cdv A outer s H vs Q E hr hsp;exact ⟨t,h.nox,q⟩
theorem Fun.binds {x qual:Str} {st:Stmt} {f:Addr} {fd:FuncData} {ps:List Str} (F:Fun K x qual st f fd)
  (h:∀ (kV doc pm:Value) (an:Option Addr) (cdv ct:Value) (us:List Value),us.length=ps.length->bindArgs (y0s x qual (X4 st) (L8 st) (d6 st) .none kV doc pm an cdv ct) ⟨us,[]⟩=pure (ps.zip us)):ae4 K fd ps []:=by
 obtain ⟨oc,od,kV,doc,pm,an,cdv,ct,osl,rfl,lk,hcd⟩:=F.ex;exact .all (h kV doc pm an cdv ct)
theorem bk4 {x qual:Str} {st:Stmt} {f:Addr} {oc:Value} {od an:Option Addr} {osl:Array (Option Value)} {kV doc pm cdv ct:Value} (l:K.lookup f=some ⟨oc,od,.func (y0s x qual (X4 st) (L8 st) (d6 st) .none kV doc pm an cdv ct),osl⟩)
  (c:m0m K cdv qual=true) (k:y0e K (.ref f)=true):Fun K x qual st f (y0s x qual (X4 st) (L8 st) (d6 st) .none kV doc pm an cdv ct):=⟨⟨oc,od,kV,doc,pm,an,cdv,ct,osl,rfl,l,c⟩,k⟩
end
section
variable {X:Cx}
theorem pv (i : Nat) {x : Str} {pos : Pos} (hN : X.N[i]? = some x := by rfl) (hv : Vis X.env.scope x := by first | exact Or.inl rfl | exact Or.inr (Or.inl rfl) | exact Or.inr (Or.inr rfl)) (hd : (x == ("__debug__" : Str)) = false := by decide)
    (hcd:(x == ("__classdict__" : Str))=false:=by decide):PE X (.Name x pos) (K1 i):=bi1 hN hv hd hcd
end
theorem bp9 {A B:Prop} (h:A):if true=true then A else B:=by
 rw [if_pos rfl];exact h
theorem t7 {c A B:Prop} [Decidable c] (h1:c->A) (h2:¬ c->B):if c then A else B:=by
 by_cases h:c
 ·rw [if_pos h]
  exact h1 h
 ·rw [if_neg h]
  exact h2 h
def d4 (H H':Hp):Prop:=∀ b o,H b=some o->H' b=some o
theorem d4.refl (H:Hp):d4 H H:=λ_ _ h=>h
theorem d4.trans {H H1 H2:Hp} (a:d4 H H1) (b:d4 H1 H2):d4 H H2:=λc o h=>b c o (a c o h)
theorem d4.free {H H':Hp} (e:d4 H H') {l:Addr} (h:H' l=Option.none):H l=Option.none:=by
 cases q:H l with
 | none=>rfl
 | some o =>
  rw [e l o q] at h
  cases h
theorem d4.seq {K:q0a} {H H':Hp} {a:Addr} {xs:List V} (e:d4 H H') (h:SqL K H a xs):SqL K H' a xs:=by
 rcases h with (h | ⟨o,h⟩) | h
 ·exact .inl (.inl (e _ _ h))
 ·exact .inl (.inr ⟨o,e _ _ h⟩)
 ·exact .inr h
def CXR (P:Program) (w:World):CXT:=λouter H s E e s' => ∃ (a:Addr) (cls a0:Value) (H':Hp) (B:Heap),e=.ref a/\s'.os=s.os/\AllBare s'.gens /\
 Heap.FlyingW B outer a cls a0 s'.heap/\(∀ b o,s.heap.get? b=some o->H b=none->b ∉ frs outer->B.get? b=some o)/\(∀ b o,s.heap.get? b=some o->b ∉ frs outer->∃ o',B.get? b=some o') /\
 HOk P w H' B/\Un (frs outer) [] H H' s.heap s'.heap/\H' a=none/\E cls none H'
structure bq6 (K:q0a) (C:Addr) (bm:List Value) (newId:String):Prop where
 ok:PySem.W.excIn K C bm newId=true
section
variable {X:Cx} {pins:List (Addr × Obj)} {σ:St} {H H':Hp} {s s':Shared}
def Exc (cls:Value) (a:Addr):HO:=.ext λh => ∃ o vs,h.get? a=some o/\o.cls=cls/\o.data=.fields vs
end
abbrev Cx.body (X:Cx) (xe:Value->Shared->Prop) (pn:List (Addr × Obj)):Cx:={ X with xe:=xe,pn:=pn }
abbrev Cx.suite (X:Cx) (a:Addr):Cx:={ X with A:=X.A.mark (some (.ref a)),calm:=false,xe:=λ_ _=>False }
structure bo7 (k:Nat) (A:Around):Prop where
 dp:A.depth+3*k+5<recursionLimit
 un:A.units+16*k+200<cLine
structure bp0 (P:Program) (w:World) (K:q0a) (mg:Str->Option Value) (base:Heap) (k:Nat) (f:Addr) (fd:FuncData) (ps:List Str) (sp:Sp):Prop where
 len:∀ vs H Q E,sp vs H Q E->vs.length=ps.length
 run:∀ (A:Around) (outer:List Env) (s:Shared) (H:Hp) (args:Args) (us:List Value) (vs:List V) (Q:VK) (E:XK),bo7 k A->ba0 P w K mg base A outer s H->BindsTo s fd args (ps.zip us)->k8 vs us->sp vs H Q E ->
  codeAny (model P w) A (.call (.ref f) args) (CR CX0 outer P w H s Q E) s
section
variable {X:Cx} {CX:CXT} {k:Nat} {f:Addr} {fd:FuncData} {ps:List Str} {sp:Sp} {E:XK} {x:Str} {p pos:Pos} {e:Expr} {es:List Expr} {t:TA}
structure FnV (P:Program) (w:World) (K:q0a) (mg:Str->Option Value) (base:Heap) (k:Nat) (f:Addr) (sp:Sp):Prop where
 ex:∃ fd ps,V8 P w K mg base (CXR P w) k f fd ps sp/\ae4 K fd ps []
 kp:y0e K (.ref f)=true
end
end L2
-- the class of an exception,isinstance,great numbers
set_option maxRecDepth 100000
namespace L2
open PySem PySem.W PySem.Spec PyProof.Rows Builtin Builtin.ObjectAttr Builtin.Getset_descriptor
section
variable {prog:Program} {w:World} {A:Around} {E:Value->Shared->Prop} {s:Shared} {K:Frag} {a C:Addr} {o:Obj}
theorem aq9 {R:Result->Shared->Prop} {tp:Value} (X:K.In s.heap) (hx:s.heap.get? a=some o) (hc:o.cls=.ref C) (hm:mroIn K C (.type "object")=some true)
  (h:R (.ok (.ret (.ref C))) s):codeAny (model prog w) A (.call (.builtin "getset_descriptor.__get__") ⟨[.builtin "object.__class__",.ref a,tp],[]⟩) R s:=by
 obtain ⟨hh,g,dr,t,os⟩:=s;have L0:Looks (model prog w) hh (typeOf (.ref a)) (.ref C):=hc ▸ (Looks.ld hx).andThen .now;have L1:=looks_mroIn (M:=model prog w) X hm;refine codeAny_call_builtin KF.slot_gs.plain KF.entry_gs (KF.slot_gs.check _ _ _ _ _ _ _ _ KF.type_class (KF.args_gs _ _ _) ?_);unfold Builtin.«getset_descriptor.__get__» descrGet;rw [dga_obj];refine wpAny_bind (wpAny_pure ?_);unfold descrGetter descrCheckInstance descrNameAndClass isInstance;simp only [KF.owner_class]
 repeat lk
 refine ⟨Code.quiet_builtin _ (by decide +kernel),codeAny_builtin KF.entry_class ?_⟩
 unfold Builtin.«object.__class__» shownTypeOf
 repeat lk
 exact h
theorem aP9 {tk:Tok} {Q:Fin->Shared->Prop} (X:K.In s.heap) (hx:s.heap.get? a=some o) (hc:o.cls=.ref C) (g3:findIn K (.ref C) "__class__" = some (some (.builtin "object.__class__"))) (hm:mroIn K C (.type "object")=some true)
  (hq:Q (.done (.ret (.ref C))) s):wpAny (model prog w) A (Builtin.«object.__getattribute__» ⟨[.ref a,.str "__class__" tk],[]⟩) Q E s:=by
 obtain ⟨hh,g,dr,t,os⟩:=s;have L0:Looks (model prog w) hh (typeOf (.ref a)) (.ref C):=hc ▸ (Looks.ld hx).andThen .now;have L1:=looks_findIn (M:=model prog w) X g3;have f5:typeOf (.builtin "object.__class__")=pure (.type "getset_descriptor"):=KF.type_class
 have f6:=F.slot_gs_get.lookup;have f7:=F.slot_gs_set.lookup
 repeat (any_goals (first | assumption | (with_reducible refine wpAny_loadPart_at hx ?_;rw [hc]) | with_reducible refine L1.at ?_ | wp_step))
 refine aq9 X hx hc hm ?_
 repeat (any_goals (first | assumption | wp_step))
theorem aQ1 {M:Model} {nameV:Value} {Q:Unit->Shared->Prop} (X:K.In s.heap) (hx:s.heap.get? a=some o) (hc:o.cls=.ref C) (hmB:mroIn K C (.type "BaseException")=some true) (hq:Q () s) :
  wpAny M A (checkBuiltinCall "BaseException.__getattribute__" ⟨[.ref a,nameV],[]⟩) Q E s:=by
 obtain ⟨hh,g,d,t,os⟩:=s;have L3:=looks_mroIn (M:=M) X hmB;have hk:builtinKind "BaseException.__getattribute__" = some .slot:=by decide +kernel
 have hsplit:splitId "BaseException.__getattribute__" = some ("BaseException","__getattribute__"):=by decide +kernel
 have ha:=F.args_bexc_ga (.ref a) nameV;simp only [checkBuiltinCall,hk,hsplit];refine wpAny_bind ?_
 ·unfold isInstance
  repeat (first | (with_reducible refine wpAny_loadPart_at hx ?_;rw [hc]) | with_reducible refine L3.at ?_ | wp_step)
  exact hq
theorem aQ0 {Q:Option Value->Shared->Prop} (X:K.In s.heap) (hx:s.heap.get? a=some o) (hc:o.cls=.ref C) (g1:findIn K (.ref C) "__getattribute__" = some (some (.builtin "BaseException.__getattribute__"))) (g2:findIn K (.ref C) "__getattr__" = some none)
  (g3:findIn K (.ref C) "__class__" = some (some (.builtin "object.__class__"))) (hm:mroIn K C (.type "object")=some true) (hmB:mroIn K C (.type "BaseException")=some true) 
  (h:Q (some (.ref C)) { s with toks:=s.toks+1 }):wpAny (model prog w) A (getAttr? (.ref a) "__class__") Q E s:=by
 obtain ⟨hh,g,d,t,os⟩:=s;have L0:Looks (model prog w) hh (typeOf (.ref a)) (.ref C):=hc ▸ (Looks.ld hx).andThen .now;have L1:=looks_findIn (M:=model prog w) X g1;have L2:=looks_findIn (M:=model prog w) X g2;have L3:=looks_mroIn (M:=model prog w) X hmB;unfold getAttr? getAttrBy? getAttrBy;refine wpAny_bind (wpAny_mkText (wpAny_bind (wpAny_attempt (wpAny_holding (wpAny_bind (L0.at (wpAny_bind (L1.at ?_))))))));have hx2:(Value.builtin "BaseException.__getattribute__" == Value.builtin "object.__getattribute__")=false:=by decide +kernel
 have hx1:(onTheHeap (Value.ref C) && Value.builtin "BaseException.__getattribute__" == Value.builtin "object.__getattribute__")=false:=by rw [hx2];rfl
 show wpAny _ _ (if (onTheHeap (Value.ref C) && Value.builtin "BaseException.__getattribute__" == Value.builtin "object.__getattribute__")=true then _ else _) _ _ _
 rw [if_neg (by rw [hx1];decide)]
 have f3:=PySem.F.attr_ValueError.ga.bind (.ref a);have hx0:(false && onTheHeap (Value.builtin "BaseException.__getattribute__"))=false:=rfl
 unfold getAttrByItsOwn hookBefore
 repeat (any_goals (first | assumption | (with_reducible refine wpAny_loadPart_at hx ?_;rw [hc]) | with_reducible refine L1.at ?_ | with_reducible refine L2.at ?_ | wp_step))
 refine codeAny_call_builtin PySem.F.attr_ValueError.ga.plain F.entry_bexc_ga (aQ1 X hx hc hmB (aP9 X hx hc g3 hm ?_))
 dsimp only
 unfold handedOut;exact wpAny_pure (wpAny_pure h)
structure aA4 (K:Frag) (C:Addr):Prop where
 cl:(clsIn K C).isSome=true
 g1:findIn K (.ref C) "__getattribute__" = some (some (.builtin "BaseException.__getattribute__"))
 g2:findIn K (.ref C) "__getattr__" = some none
 g3:findIn K (.ref C) "__class__" = some (some (.builtin "object.__class__"))
 hm:mroIn K C (.type "object")=some true
 hB:mroIn K C (.type "BaseException")=some true
theorem aW3 (c:aA4 K C):KitX K (.ref a) (.ref C) (λh => ∃ o,h.get? a=some o/\o.cls=.ref C) where
 ty:=λ_ _ _ ⟨o,hx,hc⟩=>hc ▸ (Looks.ld hx).andThen .now
 it:=λ_ _ X _=>by
  obtain ⟨cdD,hcD⟩:=u0a.mp c.cl;unfold clsIn at hcD
  split at hcD
  ·rename_i c' d' cd' sl' ho
   intro A' Q' E' s' k q;unfold isType loadHead;exact wpAny_bind (wpAny_loadPart (k _ _ (X _ _ ho)) (wpAny_pure q))
  ·cases hcD
 ne:=λh tp dd its n sl X htp=>by
  obtain ⟨cdD,hcD⟩:=u0a.mp c.cl;refine Bool.eq_false_iff.mpr λq=>?_;have e:C=tp:=Value.ref.inj (beq_iff_eq.mp q);subst e;unfold clsIn at hcD
  split at hcD
  ·rename_i c' d' cd' sl' ho
   have z:=(X _ _ ho).symm.trans htp
   cases z
  ·cases hcD
 ca:=λX ⟨o,hx,hc⟩ k=>aQ0 X hx hc c.g1 c.g2 c.g3 c.hm c.hB k
end
section
variable {X:Cx}
def bo4:V->Value
 | .ty n=>.type n
 | .ref a=>.ref a
 | _=>.none
def isC:V->Prop
 | .ty _=>True
 | .ref _=>True
 | _=>False
inductive TyX (K:Frag) (H:Hp):V->Value->Prop where
 | of {x:V} {t:Value} (h:ag7 K H x t):TyX K H x t
 | exc {a C:Addr} (e:H a=some (Exc (.ref C) a)) (c:aA4 K C):TyX K H (.ref a) (.ref C)
 | sqt {a:Addr} {xs:List V} (h:SqT K H a xs):TyX K H (.ref a) (.type "tuple")
 | sql {a:Addr} {xs:List V} (h:SqL K H a xs):TyX K H (.ref a) (.type "list")
def aC7 (K:Frag):List V->Hp->VK->Prop:=λxs H Q => ∃ x c t b,xs=[x,c]/\isC c/\TyX K H x t/\kitOne K t (bo4 c)=some b/\Q (.bl b) H
theorem E6:T7 X (.builtin "isinstance") (aC7 X.K):=by
 intro pins s σ H us vs Q I r h;obtain ⟨x,c,t,b,rfl,ic,ty,e,q⟩:=h;obtain ⟨u,cu,rfl,rx,rc⟩:=k8.two r
 have ec:cu=bo4 c:=by
  cases c with
  | ty n=>exact rc
  | ref a=>exact rc
  | _=>exact False.elim ic
 subst ec;have fin:∀ tk,EP X pins σ Q (.bool b) { s with toks:=tk }:=λtk=>⟨.bl b,H,I.tok tk,rfl,q⟩
 cases ty with
 | of ty=>exact aP4 I rx ty e fin
 | @exc a C ea cl =>
  cases (show u=Value.ref a from rx)
  obtain ⟨⟨o,_,h1,h2,_⟩,_⟩:=(show D3 X.prog X.w H s.heap a (Exc (.ref C) a) from I.hok a _ ea);exact kia_one (aW3 cl) I.kIn ⟨o,h1,h2⟩ e (λz=>nomatch z) fin
 | @sqt a xs h =>
  cases (show u=Value.ref a from rx)
  obtain ⟨_,_,⟨o,h1,h2,_⟩,_⟩:=I.tuple h;exact kia_one kitx_tuple I.kIn ⟨o,h1,h2⟩ e (λz=>nomatch z) fin
 | @sql a xs h =>
  cases (show u=Value.ref a from rx)
  obtain ⟨_,_,⟨o,n,h1,h2,_⟩,_⟩:=I.list h;exact kia_one kitx_list I.kIn ⟨o,h1,h2⟩ e (λz=>nomatch z) fin
theorem m8:OpR X (binaryOp .Mult) (rI IntMulOk λi j=>.int (i*j)):=opI λ_ _ _ _ _ _ _ hc q=>mul_int q hc
def au2 (_ j:Int):Prop:=j ≠ 0/\j.natAbs.log2<9000
theorem z5:OpR X (binaryOp .FloorDiv) (rI au2 λi j=>.int (i.fdiv j)):=opI λ_ _ _ _ _ _ _ hc q=>floordiv_int hc.1 q (.inl (PyProof.noPylong_of_log2 hc.2))
end
open PySem PySem.Spec PyProof.Rows
inductive D where
 | v (x:V)
 | tup (ds:List D)
 | lst (ds:List D)
mutual
def eqD:D->D->Bool
 | .v x,.v y=>eqV x y
 | .tup a,.tup b=>E4 a b
 | .lst a,.lst b=>E4 a b
 | _,_=>false
def E4:List D->List D->Bool
 | [],[]=>true
 | x :: xs,y :: ys=>eqD x y && E4 xs ys
 | _,_=>false
end
mutual
def okD:D->D->Bool
 | .v _,.v _=>true
 | .tup a,.tup b=>Y5 a b
 | .lst a,.lst b=>Y5 a b
 | _,_=>false
def Y5:List D->List D->Bool
 | x :: xs,y :: ys=>okD x y && Y5 xs ys
 | _,_=>true
end
mutual
def dpD:D->Nat
 | .v _=>0
 | .tup a=>Y8 a+1
 | .lst a=>Y8 a+1
def Y8:List D->Nat
 | []=>0
 | x :: xs=>max (dpD x) (Y8 xs)
end
mutual
inductive IsD (K:q0a) (H:Hp):V->D->Prop where
 | v {x:V} (f:aF6 x=true):IsD K H x (.v x)
 | tup {p:Addr} {xs:List V} {ds:List D} (h:SqT K H p xs) (t:V7 K H xs ds):IsD K H (.ref p) (.tup ds)
 | lst {p:Addr} {xs:List V} {ds:List D} (h:SqL K H p xs) (t:V7 K H xs ds):IsD K H (.ref p) (.lst ds)
inductive V7 (K:q0a) (H:Hp):List V->List D->Prop where
 | nil:V7 K H [] []
 | cons {x:V} {xs:List V} {d:D} {ds:List D} (h:IsD K H x d) (t:V7 K H xs ds):V7 K H (x :: xs) (d :: ds)
end
theorem V7.length {K:q0a} {H:Hp}:∀ {xs:List V} {ds:List D},V7 K H xs ds->xs.length=ds.length
 | _,_,.nil=>rfl
 | _,_,.cons _ t=>congrArg (· + 1) t.length
theorem aX5:∀ {x:V},aF6 x=true->eqV x x=true
 | .non,_=>rfl
 | .bl a,_=>by simp [eqV]
 | .int a,_=>by simp [eqV]
 | .str a,_=>by simp [eqV]
 | .byt _,h=>absurd (show false=true from h) q0v
 | .flt _,h=>absurd (show false=true from h) q0v
 | .ref _,h=>absurd (show false=true from h) q0v
 | .ty _,h=>absurd (show false=true from h) q0v
section
variable {X:Cx} {pins:List (Addr × Obj)} {σ:St} {H:Hp} {s:Shared}
mutual
theorem ao5 (I:Inv X pins σ H s):∀ {x:V} {d d':D},IsD X.K H x d->IsD X.K H x d'->okD d d'=true->eqD d d'=true
 | _,_,_,.v f,b,_=>by
  cases b with
  | v _=>rw [eqD];exact aX5 f
  | tup _ _=>exact absurd (show false=true from f) q0v
  | lst _ _=>exact absurd (show false=true from f) q0v
 | _,_,_,.tup h t,b,ok=>by
  cases b with
  | v f=>exact absurd (show false=true from f) q0v
  | tup h' t' =>
   have e:=I.tuple_inj h h';subst e;rw [eqD];rw [okD] at ok;exact ag3 I t t' ok
  | lst _ _=>simp [okD] at ok
 | _,_,_,.lst h t,b,ok=>by
  cases b with
  | v f=>exact absurd (show false=true from f) q0v
  | tup _ _=>simp [okD] at ok
  | lst h' t' =>
   have e:=I.list_inj h h';subst e;rw [eqD];rw [okD] at ok;exact ag3 I t t' ok
theorem ag3 (I:Inv X pins σ H s):∀ {xs:List V} {ds ds':List D},V7 X.K H xs ds->V7 X.K H xs ds'->Y5 ds ds'=true->E4 ds ds'=true
 | _,_,_,.nil,b,_=>by cases b;rw [E4]
 | _,_,_,.cons h t,b,ok=>by
  cases b with
  | cons h' t' =>
   rw [Y5,u0k] at ok;rw [E4,ao5 I h h' ok.1,ag3 I t t' ok.2];rfl
end
def V3 (ds ds':List D) (j:Nat):Bool:=match ds[j]?,ds'[j]? with
 | some d,some d'=>eqD d d'
 | _,_=>true
theorem V5 (n:Nat) (e:Nat->Bool):(j0f (n+1)).all e=(e 0 && (j0f n).all λj=>e (j+1)):=by
 rw [List.range_succ_eq_map,List.all_cons,List.all_map];rfl
theorem X9:∀ (ds ds':List D),((j0f (min ds.length ds'.length)).all (V3 ds ds') && ds.length == ds'.length)=E4 ds ds'
 | [],[]=>by rw [E4];rfl
 | [],_ :: _=>by simp [E4]
 | _ :: _,[]=>by simp [E4]
 | x :: xs,y :: ys=>by
  have ih:=X9 xs ys;rw [E4,<- ih];have e1:min (x :: xs).length (y :: ys).length=min xs.length ys.length+1:=by simp only [y0t];omega
  rw [e1,V5]
  have e2:((x :: xs).length == (y :: ys).length)=(xs.length == ys.length):=by
   by_cases h:xs.length=ys.length <;> simp [h]
  rw [e2,Bool.and_assoc];rfl
theorem aa0 (ds ds':List D) (h:ds.length=ds'.length):(j0f ds.length).all (V3 ds ds')=E4 ds ds':=by
 rw [<- X9,<- h,Nat.min_self];simp
theorem ao4:∀ (ds ds':List D),ds.length ≠ ds'.length->E4 ds ds'=false
 | [],[],h=>absurd rfl h
 | [],_ :: _,_=>by simp [E4]
 | _ :: _,[],_=>by simp [E4]
 | x :: xs,y :: ys,h=>by
  rw [E4,ao4 xs ys (λe=>h (by simp [e]))];simp
theorem ar9 (I:Inv X pins σ H s) {p p':Addr} {xs ys:List V} {ds ds':List D} {A:Around} (h:SqT X.K H p xs) (t:V7 X.K H xs ds) (h':SqT X.K H p' ys) (t':V7 X.K H ys ds') (hu:A.units<cLine)
  (q:∀ {us vs:List Value},k8 xs us->k8 ys vs->∀ (j:Nat) (h1:j<us.length) (h2:j<vs.length),SeqAt.EqAt A.in1 s us[j] vs[j] (V3 ds ds' j)):SeqAt.RcAt A s (.ref p) (.ref p') (E4 ds ds'):=by
  obtain ⟨its,r1,i1,_⟩:=I.tuple h;obtain ⟨its',r2,i2,_⟩:=I.tuple h';have z:=SeqAt.RcAt.tuples (A:=A) (items:=its.toArray) (items2:=its'.toArray) (e:=V3 ds ds') i1 i2 hu (λj h1 h2=>q r1 r2 j (by simpa using h1) (by simpa using h2))
  have e1:its.toArray.size=ds.length:=by rw [q0p,<- r1.length,t.length]
  have e2:its'.toArray.size=ds'.length:=by rw [q0p,<- r2.length,t'.length]
  rw [e1,e2,X9] at z;exact z
theorem as0 (I:Inv X pins σ H s) {p p':Addr} {xs ys:List V} {ds ds':List D} {A:Around} (h:SqL X.K H p xs) (t:V7 X.K H xs ds) (h':SqL X.K H p' ys) (t':V7 X.K H ys ds') (hu:A.units<cLine)
  (q:∀ {us vs:List Value},k8 xs us->k8 ys vs->∀ (j:Nat) (h1:j<us.length) (h2:j<vs.length),SeqAt.EqAt A.in1 s us[j] vs[j] (V3 ds ds' j)):SeqAt.RcAt A s (.ref p) (.ref p') (E4 ds ds'):=by
  obtain ⟨its,r1,i1,_⟩:=I.list h;obtain ⟨its',r2,i2,_⟩:=I.list h';have e1:its.toArray.size=ds.length:=by rw [q0p,<- r1.length,t.length]
  have e2:its'.toArray.size=ds'.length:=by rw [q0p,<- r2.length,t'.length]
  by_cases hl:ds.length=ds'.length
  ·have z:=SeqAt.RcAt.lists (A:=A) (items:=its.toArray) (items2:=its'.toArray) (e:=V3 ds ds') i1.isList i2.isList (by rw [e1,e2,hl]) hu (λj h1 h2=>q r1 r2 j (by simpa using h1) (by simpa using h2))
   rw [e1,aa0 ds ds' hl] at z;exact z
  ·rw [ao4 ds ds' hl]
   exact SeqAt.RcAt.lists_lengths i1.isList i2.isList (by rw [e1,e2];simpa using hl) hu
mutual
theorem bk7 (I:Inv X pins σ H s):∀ {x y:V} {d d':D} {u v:Value} {A:Around},IsD X.K H x d->IsD X.K H y d'->okD d d'=true->t5 x u->t5 y v->A.units+dpD d<cLine->SeqAt.EqAt A s u v (eqD d d')
 | _,_,_,_,_,_,_,.v f,b,ok,r,r',_=>by
  cases b with
  | v f'=>rw [eqD];exact bk6 r r' f f'
  | tup _ _=>simp [okD] at ok
  | lst _ _=>simp [okD] at ok
 | _,_,_,_,u,v,A,.tup (p:=p) h t,b,ok,r,r',hu=>by
  cases b with
  | v _=>simp [okD] at ok
  | @tup p' _ _ h' t' =>
   cases (show u=Value.ref p from r)
   cases (show v=Value.ref p' from r')
   by_cases hp:p=p'
   ·subst hp
    rw [ao5 I (.tup h t) (.tup h' t') ok];exact SeqAt.EqAt.same _
   ·rw [okD] at ok
    rw [dpD] at hu;rw [eqD];exact SeqAt.EqAt.of_refs hp (ar9 I h t h' t' ⋯ λr1 r2 j h1 h2=>T0 (A:=A.in1) I t t' ok r1 r2 (by show A.units+1+_<_;omega) j h1 h2)
  | lst _ _=>simp [okD] at ok
 | _,_,_,_,u,v,A,.lst (p:=p) h t,b,ok,r,r',hu=>by
  cases b with
  | v _=>simp [okD] at ok
  | tup _ _=>simp [okD] at ok
  | @lst p' _ _ h' t' =>
   cases (show u=Value.ref p from r)
   cases (show v=Value.ref p' from r')
   by_cases hp:p=p'
   ·subst hp
    rw [ao5 I (.lst h t) (.lst h' t') ok];exact SeqAt.EqAt.same _
   ·rw [okD] at ok
    rw [dpD] at hu;rw [eqD];exact SeqAt.EqAt.of_refs hp (as0 I h t h' t' ⋯ λr1 r2 j h1 h2=>T0 (A:=A.in1) I t t' ok r1 r2 (by show A.units+1+_<_;omega) j h1 h2)
theorem T0 (I:Inv X pins σ H s):∀ {xs ys:List V} {ds ds':List D} {us vs:List Value} {A:Around},V7 X.K H xs ds->V7 X.K H ys ds'->Y5 ds ds'=true->k8 xs us->k8 ys vs->A.units+Y8 ds<cLine ->
  ∀ (j:Nat) (h1:j<us.length) (h2:j<vs.length),SeqAt.EqAt A s us[j] vs[j] (V3 ds ds' j)
 | _,_,_,_,_,_,_,.nil,_,_,r,_,_=>λj h1 _=>by cases r;exact absurd h1 (Nat.not_lt_zero _)
 | _,_,_,_,_,_,A,.cons h t,b,ok,r,r',hu=>λj h1 h2=>by
  cases b with
  | nil=>cases r';exact absurd h2 (Nat.not_lt_zero _)
  | cons h' t' =>
   cases r with
   | cons r rs =>
    cases r' with
    | cons r' rs' =>
     rw [Y5,u0k] at ok;rw [Y8] at hu
     cases j with
     | zero=>exact bk7 I h h' ok.1 r r' ⋯
     | succ j=>exact T0 I t t' ok.2 rs rs' ⋯ j (by simpa using h1) (by simpa using h2)
end
def D.isV:D->Bool
 | .v _=>true
 | _=>false
def bp6 (K:q0a):R2:=λx y H Q => ∃ d d',d.isV=false/\IsD K H x d/\IsD K H y d'/\okD d d'=true/\dpD d<=60/\Q (.bl (eqD d d')) H
theorem ax0 (hu:X.A.units+64<cLine):OpR X (compareOp .Eq) (bp6 X.K):=by
 intro pins s σ H x y v u Q I rx ry h;obtain ⟨d,d',nf,h1,h2,ok,dp,q⟩:=h;have fin:EP X pins σ Q (.bool (eqD d d')) s:=⟨.bl _,H,I,rfl,q⟩
 cases h1 with
 | v f =>
  cases h2 with
  | v f'=>exact absurd (show true=false from nf) (by decide)
  | tup _ _=>simp [okD] at ok
  | lst _ _=>simp [okD] at ok
 | @tup p xs ds h t =>
  cases h2 with
  | v f'=>simp [okD] at ok
  | @tup p' ys ds' h' t' =>
   cases (show v=Value.ref p from rx)
   cases (show u=Value.ref p' from ry)
   rw [okD] at ok;rw [dpD] at dp;rw [eqD] at fin;exact ar9 I h t h' t' ⋯ (λr1 r2 j h1 h2=>T0 (A:=X.A.in1) I t t' ok r1 r2 (by show X.A.units+1+_<_;omega) j h1 h2) X.prog X.w X.xe _ fin
  | lst _ _=>simp [okD] at ok
 | @lst p xs ds h t =>
  cases h2 with
  | v f'=>simp [okD] at ok
  | tup _ _=>simp [okD] at ok
  | @lst p' ys ds' h' t' =>
   cases (show v=Value.ref p from rx)
   cases (show u=Value.ref p' from ry)
   rw [okD] at ok;rw [dpD] at dp;rw [eqD] at fin;exact as0 I h t h' t' ⋯ (λr1 r2 j h1 h2=>T0 (A:=X.A.in1) I t t' ok r1 r2 (by show X.A.units+1+_<_;omega) j h1 h2) X.prog X.w X.xe _ fin
end
open PySem PySem.Spec PyProof.Rows
section
variable {X:Cx}
def O6:V->List V->Hp->VK->Prop:=λx vs H Q => ∃ i,x=.int i/\vs=[]/\Q (.int (Builtin.Int.intBits i)) H
theorem Q5:MtM X "int.bit_length" O6:=by
 intro pins s σ H x vs v us Q I rx rv h;obtain ⟨i,rfl,rfl,q⟩:=h;obtain ⟨t,rfl⟩:=rx
 cases k8.zero rv
 exact call_int_bit_length ⟨.int _,H,I.tok _,⟨_,rfl⟩,q⟩
end
open PySem PySem.Spec PyProof.Rows
structure Df (K:q0a) (mg:Str->Option Value) (x:Str) (st:Stmt) (ps:List Str) (f:Addr):Prop where
 ex:∃ fd,Fun K x x st f fd/\ae4 K fd ps []
 m:mg x=some (.ref f)
structure Def (P:Program) (w:World) (K:q0a) (mg:Str->Option Value) (base:Heap) (CX:CXT) (k:Nat) (x:Str) (f:Addr) (ps:List Str) (sp:Sp):Prop where
 ex:∃ fd,V8 P w K mg base CX k f fd ps sp/\ae4 K fd ps []
 m:mg x=some (.ref f)
 kp:y0e K (.ref f)=true
structure DefX (P:Program) (w:World) (K:q0a) (mg:Str->Option Value) (base:Heap) (k:Nat) (x:Str) (f:Addr) (ps:List Str) (sp:Sp):Prop where
 ex:∃ fd,bp0 P w K mg base k f fd ps sp/\ae4 K fd ps []
 m:mg x=some (.ref f)
 kp:y0e K (.ref f)=true
section
variable {P:Program} {w:World} {K:q0a} {mg:Str->Option Value} {base:Heap} {k:Nat} {x:Str} {f:Addr} {ps N:List Str} {sp:Sp} {st:Stmt} {CX:CXT}
theorem Df.ok (d:Df K mg x st ps f) (S:i8 N ps (d6 st)) (len:∀ vs H Q E,sp vs H Q E->vs.length=ps.length)
  (hbody:∀ (cdv:Value) (A:Around) (outer:List Env) (s:Shared) (H:Hp) (vs:List V) (Q:VK) (E:XK),Q9 k (A.deeper (envOfC x (d6 st) s.heap.objs.size f cdv))->sp vs H Q E ->
   ∃ t,PSs (ab5 CX0 P w K mg base N x (d6 st) f cdv A outer s H E).nox (L8 st) t/\t { nx:=λ_ H'=>Q .non H',rt:=Q } (start N vs) H):Def P w K mg base CX0 (k+1) x f ps sp:=by
 obtain ⟨fd,F,b⟩:=d.ex;exact ⟨⟨fd,F.ok S len hbody,b⟩,d.m,F.kp⟩
theorem Def.imp {sp':Sp} (d:Def P w K mg base CX k x f ps sp) (h:∀ vs H Q E,sp' vs H Q E->sp vs H Q E):Def P w K mg base CX k x f ps sp' :=
 let ⟨fd,F,b⟩:=d.ex
 ⟨⟨fd,F.imp h,b⟩,d.m,d.kp⟩
end
section
variable {X:Cx} {CX:CXT} {k j:Nat} {f:Addr} {ps:List Str} {sp:Sp} {E:XK} {x:Str} {p pos:Pos} {e:Expr} {es:List Expr} {t:TA}
def au7 (sp:Sp) (E:XK) (t:TA):TE:=λσ H Q=>t σ H λvs H1=>sp vs H1 Q E
theorem d7 (d : Def X.prog X.w X.K X.mg X.base CX j x f ps sp) (hr : Q9 k X.A) (ha : PA X (e :: es) t) (hx : aA3 CX X E) (hj : j ≤ k := by decide) (hg : Gl X x := by rfl)
    (hdb:(x == ("__debug__" : Str))=false:=by decide) (he:starEach (e :: es) X.env=(false,eval e X.env) :: starEach es X.env:=by rfl) (hpl:(backTo pos (starEach es X.env)).any (·.1)=false:=by rfl) :
    PE X (.Call (.Name x p) (e :: es) [] pos) (au7 sp E t):=by
  obtain ⟨fd,F,b⟩:=d.ex;have z:=bb3 (E:=E) (es:=es) (e:=e) (p:=p) (pos:=pos) (F.mono hj) hr hg d.m d.kp b .nil hx ha hdb he hpl;intro pins s σ H Q I h;refine z pins s σ H Q I ?_;unfold be7
  simpa only [List.append_nil,au7] using h
end
theorem d4.new {H:Hp} {p:Addr} (h:H p=none) (o:HO):d4 H (upd H p o):=λb u q=>by rw [i7 (e8 q h)];exact q
theorem d4.tup {K:q0a} {H H':Hp} {a:Addr} {xs:List V} (e:d4 H H') (h:SqT K H a xs):SqT K H' a xs:=by
 rcases h with h | h
 ·rcases h with h | ⟨o,h⟩
  ·exact .inl (.inl (e _ _ h))
  ·exact .inl (.inr ⟨o,e _ _ h⟩)
 ·exact .inr h
open PySem PySem.Spec PyProof.Rows
section
variable {prog:Program} {w:World} {A:Around} {R:Result->Shared->Prop} {s:Shared}
theorem at2 {elt target iter:Expr} {scope:Scope} {pos:Pos} {it acc:Value} {env:Env} (I:Nat->Shared->Prop)
  (turn:∀ n s,I n s->wpAny (model prog w) A (pyNext it) (λr s₁=>match r with
   | none=>R (.ok .next) s₁
   | some v=>wpAny (model prog w) A (letOwnedTupleGo target it v) (λ_ s₁'=>wpAny (model prog w) A (assign target env v) (λ_ s₂=>wpAny (model prog w) A (eval elt env) (λx s₃ =>
     wpAny (model prog w) A (call (.builtin "list.append") [acc,x]) (λ_ s₄ => ∃ m,m<n/\I m s₄) (λ_ _=>False) s₃)
     (λ_ _=>False) s₂) (λ_ _=>False) s₁') (λ_ _=>False) s₁) (λ_ _=>False) s)
  (n:Nat) (h:I n s) :
  codeAny (model prog w) A (.compLoop (.ListComp elt [⟨target,iter,[],0⟩] scope pos) 0 it acc env) R s:=by
 refine codeAny_loop rfl I (λn s hI=>?_) n h
 show wpAny _ _ ((compTurn (.ListComp elt [⟨target,iter,[],0⟩] scope pos) 0 it acc env).onRaise (λx=>do noteFrame x env;theTreesLotGoes x)) _ _ s
 refine wpAny_noted ?_;rw [compTurn_list1];have no:∀ {P:Value->Shared->Prop} (e:Value) (s:Shared),False->P e s:=λ_ _ h=>h.elim;refine wpAny_bind (wpAny_standAt (wpAny_bind (wpAny_mono (turn n s hI) (λr s₁ h₁=>?_) no)))
 cases r with
 | none=>exact wpAny_pure h₁
 | some v =>
  refine wpAny_bind (wpAny_mono h₁ (λ_ s₁' h₁'=>?_) no)
  exact wpAny_bind (wpAny_mono h₁' (λ_ s₂ h₂=>wpAny_bind (wpAny_bind (wpAny_mono h₂ (λx s₃ h₃=>wpAny_bind (wpAny_mono h₃
   (λ_ s₄ h₄=>wpAny_pure (wpAny_pure ⟨rfl,h₄⟩)) no)) no))) no)
end
abbrev Cx.block (X:Cx) (scope:Scope) (cl:List (Str × Addr)) (C:Addr) (Nc:List Str) (s₂:Shared) (H₂:Hp) (fp:List Addr) (pins:List (Addr × Obj)):Cx :=
 { X with N:=Nc,s₀:=s₂,H₀:=H₂,env:=compEnvC scope cl C X.env,outer:=X.stack,ex:=fp,fn:=λ_=>false,pn:=X.pn ++ pins,xe:=λ_ _=>False }
def G0 (caps:List (Option Nat)) (σ:St):St:=caps.map λo=>o.bind λj=>(σ[j]?).join
def aS6 (wi:TI) (caps:List (Option Nat)) (g:TG) (te:TE):TE:=λσ H Q=>wi σ H λJ H1 => ∀ D,H1 D=none->∃ W:Nat->Nat->St->Hp->Prop,(∃ m,W 0 m (G0 caps σ) (upd H1 D (.lst []))) /\
 ∀ i m σc H2,W i m σc H2->(J.stop i H2/\Q (.ref D) H2) \/
  (J.go i H2/\∀ x H3,J.yld i H2 x H3->g x σc H3 λσ4 H4=>te σ4 H4 λy H5 => ∃ ys,H5 D=some (.lst ys)/\ys.length<sizeLine/\∃ m',m'<m/\W (i+1) m' σ4 (upd H5 D (.lst (ys ++ [y]))))
section
variable {X:Cx}
structure T9 (X:Cx) (scope:Scope) (cl:List (Str × Addr)) (Nc:List Str) (caps:List (Option Nat)):Prop where
 clos:closureFor scope X.env=pure cl
 sub:∀ x c,cl.lookup x=some c->X.env.cells.lookup x=some c
 has:∀ x,(relabel scope X.env).names.lookup x=some .cell \/ (relabel scope X.env).names.lookup x=some .free->∃ c,cl.lookup x=some c
 nocell:∀ x ∈ scope.names,x.2 ≠ .cell
 kind:scope.kind=.function
 names:∀ x ∈ scope.names,x.2=.local->scope.names.lookup x.1=some .local
 len:caps.length=Nc.length
 cap:∀ (i j:Nat) (x:Str),caps[i]? = some (some j)->Nc[i]? = some x->X.N[j]? = some x/\Vis X.env.scope x/\X.env.kindOf x ≠ some .local/\((relabel scope X.env).names.lookup x=some .cell \/ (relabel scope X.env).names.lookup x=some .free)
theorem Inv.sameC {pins:List (Addr × Obj)} {σ:St} {H H':Hp} {s s':Shared} {h'':Heap} {fp:List Addr} {C:Addr} (I:Inv X pins σ H s) (hf:∀ b ∈ fp,ak3 X pins H b) (os:s'.os=s.os) (bare:AllBare s'.gens)
  (un:Un (frs X.stack) fp H H' s.heap s'.heap) (hok:HOk X.prog X.w H' s'.heap) (hC:s.heap.objs.size<=C) (hCn:H' C=none) (sb:g0q C s'.heap h''):Inv X pins σ H' { s' with heap:=h'' }:=by
 have ne:∀ b o,s.heap.get? b=some o->b ≠ C:=λb o e=>z0g (q0b (q0g e) hC);refine I.call' (s':={ s' with heap:=h'' }) (ch:=fp) os ⟨λb o e n h1 h2=>(sb.2 b (ne b o e)).trans (un.keep b o e n h1 h2),λb o e n h1 h2=>?_,un.free,λb o e h2=>?_,un.tups,un.frzs,un.tbls⟩ (λb u e=>?_) bare (λb hb=>?_)
 ·obtain ⟨sl,z⟩:=un.slot b o e n h1 h2
  exact ⟨sl,(sb.2 b (ne b o e)).trans z⟩
 ·obtain ⟨o',z⟩:=un.there b o e h2
  exact ⟨o',(sb.2 b (ne b o e)).trans z⟩
 ·refine (hok b u e).stay (λc v hc q=>(sb.2 c ?_).trans q) (λ_ q=>q) λ_ _ q=>q
  rintro rfl;rcases hc with rfl | hc
  ·rw [hCn] at e;cases e
  ·rw [hCn] at hc;cases hc
 ·obtain ⟨_,f1,_,f3,f4,f5⟩:=hf b hb
  exact ⟨f3,f1,f4,f5⟩
theorem D6 {elt tg iter:Expr} {scope:Scope} {pos:Pos} {cl:List (Str × Addr)} {Nc:List Str} {caps:List (Option Nat)} {wi:TI} {g:TG} {te:TE} (hc:X.calm=true) (cp:T9 X scope cl Nc caps) (hi:PI X tg iter wi)
  (hg:∀ C s₂ H₂ fp pins,PG (X.block scope cl C Nc s₂ H₂ fp pins) tg g) (he:∀ C s₂ H₂ fp pins,PE (X.block scope cl C Nc s₂ H₂ fp pins) elt te) (hs:∀ x,foldedSetIterable iter X.env x=pure x:=by intro _;rfl) :
  PE X (.ListComp elt [⟨tg,iter,[],0⟩] scope pos) (aS6 wi caps g te):=by
 intro pins s σ H Q I h;rw [eval_ListComp];refine wpAny_comprehension_free (use:=none) rfl hs cp.clos cp.kind cp.names ?_;refine thn (hi pins s σ H _ I h) λv s1 h1=>thn h1 λitv s2 h2=>?_;obtain ⟨it,fp,tn,J,H2,e,I2,T,st2,f2,hW⟩:=h2;subst e;refine wpAny_newObj_type ?_ (by show 0<=sizeLine;exact z0m _)
 refine wpAny_newFunctionEnv cp.nocell (by intro y hy;simp at hy) (λh4 hns hsb=>?_) cp.kind
 dsimp only at hns hsb ⊢
 generalize hH3:s2.heap.push { cls:=.type "list",dict:=none,data:=.seq ([]:List Value).toArray }=H3 at hns hsb ⊢
 have hCe:H3.objs.size=s2.heap.objs.size+1:=by rw [<- hH3,u0e]
 have ae1:∀ b o,s2.heap.get? b=some o->b ≠ H3.objs.size:=λb o e=>by rw [hCe];exact z0g (g0m (q0g e))
 have old:∀ b o,s2.heap.get? b=some o->h4.get? b=some o:=λb o e=>hsb.extBut b o (ae1 b o e) (q0u _ (hH3 ▸ q0u _ e))
 have hD:h4.get? s2.heap.objs.size=some { cls:=.type "list",dict:=none,data:=.seq ([]:List Value).toArray } :=
  hsb.extBut _ _ (by rw [hCe];exact z0g (v0m _)) (q0u _ (hH3 ▸ z0x _ rfl))
 have hDn:H2 s2.heap.objs.size=none:=I2.fresh;have hCn:H2 H3.objs.size=none:=I2.hok.fresh (by rw [hCe];exact v0r _)
 have hCs:s2.heap.objs.size<=H3.objs.size:=by rw [hCe];exact v0r _
 have hDC:s2.heap.objs.size ≠ H3.objs.size:=by rw [hCe];exact z0g (v0m _)
 have fpl:∀ b ∈ fp,∃ o,s2.heap.get? b=some o:=λb hb=>let ⟨o,e,_⟩:=T.obj _ _ st2 b hb;⟨o,e⟩;have fpC:∀ b ∈ fp,b ≠ H3.objs.size:=λb hb=>let ⟨o,e⟩:=fpl b hb;ae1 b o e;have fpD:∀ b ∈ fp,b ≠ s2.heap.objs.size:=λb hb=>let ⟨o,e⟩:=fpl b hb;z0g (q0g e);have stkN:∀ b,b ≠ X.env.locals->b ∉ X.fs->b ∉ frs X.stack:=λb h1 h2 z=>(z0t.mp (I2.stkSub b z)).elim h1 h2;obtain ⟨W,⟨m0,w0⟩,turn⟩:=hW s2.heap.objs.size hDn
 have okB:(X.block scope cl H3.objs.size Nc s2 H2 fp pins).Ok:=by
  refine ⟨I2.ok.mod,?_,I2.ok.glob,I2.ok.blt,hCs,λx y c h1 h2=>I2.ok.inj x y c (cp.sub x c h1) (cp.sub y c h2),λx hx=>cp.has x hx,λx c h=>(by cases h),I2.ok.hd,I2.ok.frames,.inl rfl,λb hb=>⟨fpC b hb,λx c h=>(f2 b hb).2.2.2.2.1 x c (cp.sub x c h)⟩,I2.bs,z0f I2.ok.bsz I2.sz,λb o e hb=>?_,λb hb=>stkN b (f2 b hb).2.1 (f2 b hb).2.2.1,I2.stack,I2.stkFree⟩
  ·exact cp.kind
  ·rcases (f2 b hb).2.2.2.1 with z | z
   ·exact I2.ok.noex b o e z
   ·exact absurd (q0b (q0g e) (z0f I2.ok.bsz z)) (j0w _)
 have hokB:HOk X.prog X.w (upd H2 s2.heap.objs.size (.lst [])) h4:=I2.hok.laid old (q0t _) ⟨z0m _,[],_,.nil,hD⟩
 have IB:Inv (X.block scope cl H3.objs.size Nc s2 H2 fp pins) [] (G0 caps σ) (upd H2 s2.heap.objs.size (.lst [])) { s2 with heap:=h4,toks:=s2.toks+([]:List (Str × Value)).length }:=by
  refine ⟨okB,rfl,I2.bare,Un.laid old (q0t _) hDn,⟨_,hns,λi x v e1 e2 e3=>?_⟩,λx c e=>?_,(show upd H2 s2.heap.objs.size (.lst []) H3.objs.size=none by rw [i7 (Ne.symm hDC)];exact hCn),λx c e=>?_,λp hp=>?_,hokB,?_⟩
  ·unfold G0 at e2
   rw [q0q] at e2
   cases hcap:caps[i]? with
   | none=>rw [hcap] at e2;cases e2
   | some o =>
    rw [hcap] at e2
    cases o with
    | none=>cases e2
    | some j =>
     have hj:σ[j]? = some (some v):=by
      have e2':(σ[j]?).join=some v:=Option.some.inj e2
      cases q:σ[j]? with
      | none=>rw [q] at e2';cases e2'
      | some z=>rw [q] at e2';exact congrArg some e2'
     obtain ⟨n1,n2,n3,n4⟩:=cp.cap i j x hcap e1;obtain ⟨m,hm,hl⟩:=I2.loc;obtain ⟨u,r,q⟩:=hl j x v n1 hj n2;rcases q with ⟨k,_⟩ | ⟨k,c,ec,z⟩
     ·exact absurd k n3
     ·obtain ⟨c',ec'⟩:=cp.has x n4
      have:=cp.sub x c' ec';rw [ec] at this;cases this;obtain ⟨oc,ho,hd⟩:=z;exact ⟨u,r,.inr ⟨n4,c,ec',oc,old _ _ ho,hd⟩⟩
  ·obtain ⟨v,oc,ho,hd⟩:=I2.cell x c (cp.sub x c e)
   exact ⟨v,oc,old _ _ ho,hd⟩
  ·obtain ⟨v,oc,ho,hd⟩:=I2.cell x c (cp.sub x c e)
   rw [i7 (z0g (q0g ho))];exact I2.freeC x c (cp.sub x c e)
  ·have hp':p ∈ X.pn ++ pins:=by simpa using hp
   obtain ⟨e1,e2,e3,e4,e5⟩:=I2.pin p hp';exact ⟨old _ _ e1,by rw [i7 (z0g (q0g e1))];exact e2,ae1 _ _ e1,stkN _ e3 e4,e5⟩
  ·show (G0 caps σ).length=Nc.length
   unfold G0;rw [q0m];exact cp.len
 have stat:∀ {H':Hp},(∀ b ∈ fp,H' b=none)->∀ b ∈ fp,ak3 (X.block scope cl H3.objs.size Nc s2 H2 fp pins) [] H' b:=λhn b hb =>
  ⟨hn b hb,fpC b hb,stkN b (f2 b hb).2.1 (f2 b hb).2.2.1,.inl hb,λx c h=>(f2 b hb).2.2.2.2.1 x c (cp.sub x c h),λp hp=>(f2 b hb).2.2.2.2.2 p (by simpa using hp)⟩
 have loop:∀ s5:Shared,s5={ s2 with heap:=h4,toks:=s2.toks+([]:List (Str × Value)).length } ->
   codeAny (model X.prog X.w) X.A (.compLoop (.ListComp elt [⟨tg,iter,[],0⟩] scope pos) 0 (.ref it) (.ref s2.heap.objs.size) (compEnvC scope cl H3.objs.size X.env))
    (compPost (model X.prog X.w) X.A X.xe none (EP X pins σ Q) (.ref s2.heap.objs.size) H3.objs.size) s5:=by
  rintro s5 rfl;refine at2 (λn s' => ∃ i σ' H',Inv (X.block scope cl H3.objs.size Nc s2 H2 fp pins) [] σ' H' s'/\tn i s'.heap/\(∀ b ∈ fp,H' b=none)/\W i n σ' H') ?_ m0 ⟨0,_,_,IB,T.keep _ _ _ st2 λb hb o e=>old b o e,λb hb=>by rw [i7 (fpD b hb)];exact (f2 b hb).1,w0⟩
  rintro n s6 ⟨i,σ6,H6,I6,st6,fr6,w6⟩;rcases turn i n σ6 H6 w6 with ⟨stop,qn⟩ | ⟨go,step⟩
  ·refine thn (T.done (X.block scope cl H3.objs.size Nc s2 H2 fp pins) rfl rfl rfl hc i [] s6 σ6 H6 _ I6 (stat fr6) st6 stop) λr s7 zq=>?_
   obtain ⟨hr,I7⟩:=zq;subst hr;obtain ⟨m7,hn7,_⟩:=id I7.loc;exact ⟨m7,hn7,λh' sb=>⟨.ref s2.heap.objs.size,H6,I2.sameC f2 I7.os I7.bare I7.base I7.hok hCs I7.free sb,rfl,qn⟩⟩
  ·refine thn (T.item (X.block scope cl H3.objs.size Nc s2 H2 fp pins) rfl rfl rfl hc i [] s6 σ6 H6 _ I6 (stat fr6) st6 go) λr s7 zq=>?_
   obtain ⟨u,hr,h7⟩:=zq;subst hr;refine thn h7 λ_ s8 zq=>?_;obtain ⟨x,H8,I8,r8,y8,st8,fr8⟩:=zq;have I8':=I8.pinned (stat fr8) (T.obj _ _ st8);refine thn (hg _ _ _ _ _ _ s8 σ6 H8 x u _ I8' r8 (step x H8 y8)) λ_ s9 zq=>?_;obtain ⟨σ9,H9,I9,q9⟩:=zq;refine thn (he _ _ _ _ _ _ s9 σ9 H9 _ I9 q9) λu10 s10 zq=>?_;obtain ⟨v10,H10,I10,r10,ys,hys,hlen,m',hm',w'⟩:=zq;refine thn (Q6 _ s10 σ9 H10 (.ref s2.heap.objs.size) [v10] (.ref s2.heap.objs.size) [u10] (λ_ H11=>H11=upd H10 s2.heap.objs.size (.lst (ys ++ [v10]))) I10 rfl (.cons r10 .nil) ⟨_,ys,v10,rfl,rfl,hys,hlen,rfl⟩) λ_ s11 zq=>?_;obtain ⟨_,H11,I11,_,hH11⟩:=zq;subst hH11;refine ⟨m',hm',i+1,σ9,_,I11.unpinned,T.keep _ _ _ st8 λb hb o e=>(I11.pin (b,o) (z0d _ (z0d _ (B6 hb e)))).1,λb hb=>?_,w'⟩;obtain ⟨o,e,d⟩:=T.obj _ _ st8 b hb;exact (I11.pin (b,o) (z0d _ (z0d _ (B6 hb e)))).2.1
 exact codeAny_compStart_list (loop _ rfl) (T.self _ 0 _ _ _ (T.keep _ _ _ st2 λb hb o e=>old b o e) (loop _ rfl))
end
open PySem PySem.Spec PyProof.Rows
def ac5 (scope osc:Scope):List (Str × NameKind):=scope.names.map λ(n,k)=>if (k == .free && osc.kind == .function && osc.names.lookup n == some .cell) then (n,.cell) else (n,k)
def bc3 (o:Option NameKind):Bool:=o == some .cell || o == some .free
def aZ1 (scope osc:Scope) (N ks Nc:List Str) (caps:List (Option Nat)):Bool :=
 ((ac5 scope osc).all λy => !(y.2 == .cell || y.2 == .free) || ks.contains y.1) && (scope.names.all λy=>y.2 != .cell) && scope.kind == .function &&
 (scope.names.all λy=>y.2 != .local || scope.names.lookup y.1 == some .local) && caps.length == Nc.length &&
 ((caps.zip Nc).all λp=>match p.1 with
  | none=>true
  | some j=>N[j]? == some p.2 && bc3 (osc.names.lookup p.2) && bc3 ((ac5 scope osc).lookup p.2))
theorem an6 {α β:Type} [BEq α] [LawfulBEq α]:∀ {l:List (α × β)} {x:α} {v:β},l.lookup x=some v->(x,v) ∈ l
 | [],_,_,h=>by simp at h
 | (a,b) :: r,x,v,h=>by
  rw [g0t] at h
  split at h
  ·rename_i e
   have:=eq_of_beq e;subst this
   cases h
   exact q0h
  ·exact q0f _ (an6 h)
theorem Z7 {β:Type}:∀ {l:List (Str × β)} {x:Str},x ∈ l.map (·.1)->∃ c,l.lookup x=some c
 | [],_,h=>by simp at h
 | (a,b) :: r,x,h=>by
  rw [g0t]
  by_cases e:x=a
  ·subst e;exact ⟨b,by simp⟩
  ·have:(x == a)=false:=by simpa using e
   rw [this];rcases z0t.mp h with z | z
   ·exact absurd z e
   ·exact Z7 z
theorem aM4 {o:Option NameKind} (h:bc3 o=true):o=some .cell \/ o=some .free:=by
 unfold bc3 at h;simp only [Bool.or_eq_true,beq_iff_eq] at h;exact h
theorem T9.of {X:Cx} {scope osc:Scope} {cl:List (Str × Addr)} {N ks Nc:List Str} {caps:List (Option Nat)} (clos:closureFor scope X.env=pure cl) (hN:X.N=N) (hosc:X.env.scope=osc) (hks:cl.map (·.1)=ks)
  (sub:∀ x c,cl.lookup x=some c->X.env.cells.lookup x=some c) (ok:aZ1 scope osc N ks Nc caps=true):T9 X scope cl Nc caps:=by
 unfold aZ1 at ok;simp only [u0k,u0m,beq_iff_eq,Bool.or_eq_true,g0n,bne_iff_ne,ne_eq] at ok;obtain ⟨⟨⟨⟨⟨o1,o2⟩,o3⟩,o4⟩,o5⟩,o6⟩:=ok;have er:(relabel scope X.env).names=ac5 scope osc:=by subst hosc;rfl
 have kof:∀ x,X.env.kindOf x=osc.names.lookup x:=λx=>by subst hosc;rfl
 refine ⟨clos,sub,λx h=>?_,λx hx=>o2 x hx,o3,λx hx hl=>?_,o5,λi j x h1 h2=>?_⟩
 ·rw [er] at h
  refine Z7 ?_;rw [hks]
  have key:∀ k,(ac5 scope osc).lookup x=some k->(k=.cell \/ k=.free)->x ∈ ks:=λk hk hcf=>by
   rcases o1 (x,k) (an6 hk) with z | z
   ·rcases hcf with rfl | rfl <;> simp at z
   ·simpa using z
  rcases h with h | h
  ·exact key _ h (.inl rfl)
  ·exact key _ h (.inr rfl)
 ·rcases o4 x hx with z | z
  ·exact absurd hl z
  ·exact z
 ·have hm:(some j,x) ∈ caps.zip Nc:=by
   have:(caps.zip Nc)[i]? = some (some j,x):=by
    rw [List.getElem?_zip_eq_some];exact ⟨h1,h2⟩
   exact z0c this
  have z:=o6 _ hm;simp only [u0k,beq_iff_eq] at z;obtain ⟨⟨z1,z2⟩,z3⟩:=z;have c2:=aM4 z2;have c3:=aM4 z3;refine ⟨by rw [hN];exact z1,?_,?_,?_⟩
  ·rw [hosc]
   rcases c2 with c | c
   ·exact .inr (.inl c)
   ·exact .inr (.inr c)
  ·rw [kof]
   rcases c2 with c | c <;> rw [c] <;> decide
  ·rw [er];exact c3
open PySem PySem.Spec PyProof.Rows
section
variable {X:Cx} {pins:List (Addr × Obj)} {σ:St} {H:Hp} {s:Shared}
theorem Inv.turnLaid {h':Heap} {t':Nat} {fp:List Addr} {a:Addr} {o:HO} (I:Inv X pins σ H s) (hf:∀ b ∈ fp,ak3 X pins H b)
  (k:∀ b u,b ∉ fp->s.heap.get? b=some u->h'.get? b=some u) (hp:s.heap.objs.size<=a) (new:D3 X.prog X.w (upd H a o) h' a o):Inv X pins σ (upd H a o) { s with heap:=h',toks:=t' }:=by
 have hn:H a=none:=I.hok.fresh hp;have nf:∀ b u,H b=some u->b ∉ fp:=λb u e z=>by rw [(hf b z).1] at e;cases e
 have ne:∀ b u,s.heap.get? b=some u->b ≠ a:=λb u e=>z0g (q0b (q0g e) hp)
 refine I.step (g':=s.gens) (d':=s.drawn) (ch:=fp) (λb hb=>?_) (λb o _ _ hc e _=>k b o hc e) (λb o _ _ hc e _=>⟨o.slots,k b o hc e⟩) (λb o _ e n=>by rw [i7 (ne b o e)];exact n)
  (λb o hc e=>⟨o,k b o hc e⟩) (λb xs e=>by rw [i7 (e8 e hn)];exact e) (λb o u e=>by rw [i7 (e8 e hn)];exact e) (λb ps e=>⟨#[],by rw [i7 (e8 e hn),e];simp⟩) (λm hm=>?_) (λb u e=>?_) I.bare
 ·obtain ⟨_,f1,_,f3,f4,f5⟩:=hf b hb
  exact ⟨f3,f1,f4,f5⟩
 ·obtain ⟨o,es,ep,ho,r⟩:=hm
  exact ⟨o,es,ep,k _ o (λz=>(hf _ z).2.1 rfl) ho,r⟩
 ·by_cases hb:b=a
  ·subst hb;rw [c8] at e;cases e;exact new
  ·rw [i7 hb] at e
   refine (I.hok b u e).stay (λc v hc q=>k c v ?_ q) (λc q=>by rw [i7 (e8 q hn)];exact q) λc xs q=>by rw [i7 (e8 q hn)];exact q
   rcases hc with z | z
   ·rw [z];exact nf b u e
   ·exact nf c _ z
end
def Ite (K:q0a) (a:Addr):It :=
 ⟨λi H => ∃ xs x,SqL K H a xs/\xs[i]? = some x,λi H y H' => ∀ xs,SqL K H a xs->∃ x p,xs[i]? = some x/\H p=none/\y=.ref p/\H'=upd H p (.tup [.int i,x]),λi H => ∃ xs,SqL K H a xs/\xs.length<=i⟩
theorem aN7 {P:Program} {w:World} {K:q0a} {elts:List Expr} {k:Nat} {tpos:Pos} (a e it:Addr) (hei:e ≠ it) :
  aZ6 P w K (.Tuple elts k tpos) (Ite K a) [e,it] e (λi h=>(∃ old,IsEnum h e it ((i:Nat):Int) old)/\h.IsListIter it a i) where
 mem:=by simp
 obj:=λi h st b hb=>by
  obtain ⟨⟨old,he⟩,hit⟩:=st;rcases (by simpa using hb:b=e \/ b=it) with z | z
  ·subst z
   exact ⟨_,he,λv z=>by cases z⟩
  ·subst z
   obtain ⟨o,e,c,d⟩:=hit;exact ⟨o,e,λv z=>by rw [d] at z;cases z⟩
 keep:=λi h h' st k=>⟨let ⟨old,he⟩:=st.1;⟨old,k e (by simp) _ he⟩,st.2.at λo e=>k it (by simp) o e⟩
 item:=by
  intro X hP hw hK hc i pins s σ H E I hf st hg;subst hP hw hK;obtain ⟨xs,x,hq,hx⟩:=hg;obtain ⟨its,rv,p,hz⟩:=I.list hq;obtain ⟨u,hu,ru⟩:=rv.get hx;obtain ⟨⟨old,he⟩,hit⟩:=st;have helt:e<s.heap.objs.size:=q0g he;have hilt:it<s.heap.objs.size:=by obtain ⟨_,x,_⟩:=id hit;exact q0g x
  refine wpAny_pyNext_enum_item he hit p.isList (x:=u) (by simpa using hu) hei λh' ho hit' hT hsz kk=>?_
  refine ⟨_,rfl,?_⟩;refine wpAny_letOwnedTupleGo_enum (s:={ s with heap:=h',toks:=s.toks+1 }) ho λh'' he' sb=>?_;have hT':h''.get? s.heap.objs.size=some { cls:=.type "tuple",data:=.seq #[.int i s.toks,u] }:=(sb.2 _ (m0u helt)).trans hT
  refine ⟨.ref s.heap.objs.size,upd H s.heap.objs.size (.tup [.int i,x]),I.turnLaid (fp:=[e,it]) (t':=s.toks+1) hf (λb v hb q=>?_) (q0t _) ?_,rfl,?_,?_,λb hb=>?_⟩
  ·have h1:b ≠ e:=λz=>hb (by simp [z])
   have h2:b ≠ it:=λz=>hb (by simp [z])
   exact (sb.2 b h1).trans (kk b v h1 h2 q)
  ·exact ⟨(show 2<=sizeLine by decide +kernel),[.int i s.toks,u],.cons ⟨_,rfl⟩ (.cons ru .nil),_,hT',rfl,_,rfl⟩
  ·intro ys hy
   rw [I.list_inj hy hq];exact ⟨x,_,hx,I.fresh,rfl,rfl⟩
  ·refine ⟨⟨u,by have:=he';simpa using this⟩,hit'.at λo q=>(sb.2 it hei.symm).trans q⟩
  ·have hlt:b<s.heap.objs.size:=by
    rcases (by simpa using hb:b=e \/ b=it) with z | z
    ·rw [z];exact helt
    ·rw [z];exact hilt
   rw [i7 (z0g hlt)];exact (hf b hb).1
 done:=by
  intro X hP hw hK hc i pins s σ H E I hf st hg;subst hP hw hK;obtain ⟨xs,hq,hx⟩:=hg;obtain ⟨its,rv,p,hz⟩:=I.list hq;obtain ⟨⟨old,he⟩,hit⟩:=st;obtain ⟨f0,f1,f2,f3,f4,f5⟩:=hf it (by simp)
  have hl:=rv.length;exact wpAny_pyNext_enum_end (I.ok.hd hc) he hit p.isList (by simp;omega) λh' eb=>⟨rfl,I.turned (t':=s.toks) (λb o hb e=>eb b o hb e) f0 f1 f3 f4 f5⟩
 self:=λ_ _ _ _ _ st h=>by
  obtain ⟨⟨old,he⟩,_⟩:=st;exact wpAny_pyIter_enum he h
section
variable {X:Cx}
def ai3 (K:q0a) (ta:TA):TI:=λσ H R=>ta σ H λvs H1 => ∃ a,vs=[.ref a]/\(∃ xs,SqL K H1 a xs)/\R (Ite K a) H1
theorem X0 {elts:List Expr} {k:Nat} {tpos:Pos} {l:Expr} {ta:TA} {p pos:Pos} (hg:Gl X "enumerate") (hm:X.mg "enumerate" = none) (ha:PA X [l] ta) (hs:starEach [l] X.env=[(false,eval l X.env)]:=by rfl) :
  PI X (.Tuple elts k tpos) (.Call (.Name "enumerate" p) [l] [] pos) (ai3 X.K ta):=by
 intro pins s σ H R I h;refine Call_ (V1 I hg hm (u:=.type "enumerate") (by decide +kernel) (PyProof.Rows.callWith_type1 (thn (ha pos pins s σ H _ I h) λus s1 ⟨vs,H1,I1,r1,q1⟩=>?_) hs rfl))
 obtain ⟨a,e,⟨xs,hq⟩,q⟩:=q1;subst e;obtain ⟨u,rfl,rx⟩:=ab9 r1
 cases rx
 obtain ⟨its,rv,p,hz⟩:=I1.list hq;refine call_enumerate_list p.isList λh' he hit hsz kk=>?_;refine wpAny_pyIter_enum he ?_;have I2:Inv X pins σ H1 { s1 with heap:=h' }:=I1.kept (t':=s1.toks) kk;refine ⟨s1.heap.objs.size+1,[s1.heap.objs.size+1,s1.heap.objs.size],_,_,H1,rfl,I2,aN7 a _ _ (Nat.succ_ne_self _),⟨⟨_,he⟩,hit⟩,λb hb=>?_,q⟩
 have hb':s1.heap.objs.size<=b:=by
  rcases (by simpa using hb:b=s1.heap.objs.size+1 \/ b=s1.heap.objs.size) with z | z
  ·rw [z];exact v0r _
  ·rw [z];exact q0t _
 obtain ⟨f0,f1,f2,f3,f4,f5⟩:=I1.fpOk (H':=H1) hb' (I1.hok.fresh hb');exact ⟨f0,f1,f2,f3,f4,f5⟩
def ba3 (wi:TI) (caps:List (Option Nat)) (g:TG) (tt:TT) (te:TE):TE:=λσ H Q=>wi σ H λJ H1 => ∀ D,H1 D=none->∃ W:Nat->Nat->St->Hp->Prop,(∃ m,W 0 m (G0 caps σ) (upd H1 D (.lst []))) /\
 ∀ i m σc H2,W i m σc H2->(J.stop i H2/\Q (.ref D) H2) \/
  (J.go i H2/\∀ x H3,J.yld i H2 x H3->g x σc H3 λσ4 H4=>tt σ4 H4 λb H4'=>if b=true then te σ4 H4' λy H5 => ∃ ys,H5 D=some (.lst ys)/\ys.length<sizeLine/\∃ m',m'<m/\W (i+1) m' σ4 (upd H5 D (.lst (ys ++ [y])))
   else ∃ m',m'<m/\W (i+1) m' σ4 H4')
open PySem PySem.Spec PyProof.Rows
theorem ar1 (bs:List Bool):(j0f bs.length).all (λi=>(bs[i]?).getD true)=bs.all id:=by
 induction bs with
 | nil=>rfl
 | cons b bs ih =>
  rw [y0t,V5,List.all_cons,<- ih];rfl
theorem aZ4 (hc:X.calm=true):T7 X (.builtin "all") (λxs H Q => ∃ (p:Addr) (bs:List Bool),xs=[.ref p]/\SqL X.K H p (bs.map V.bl)/\Q (.bl (bs.all id)) H):=by
 intro pins s σ H xs us Q I r h;obtain ⟨p,bs,rfl,hq,q⟩:=h;obtain ⟨u,rfl,rx⟩:=ab9 r
 cases rx
 obtain ⟨its,r',pl,hz⟩:=I.list hq;have hlen:its.length=bs.length:=by rw [<- r'.length,q0m]
 have hp:p ≠ s.heap.objs.size:=by
  obtain ⟨o,ho,_⟩:=pl.isList;exact z0g (q0g ho)
 refine call_all_walk (wpAny_pyIter_list pl.isList ?_);refine ⟨s.heap.objs.size,_,_,_,_,_,λi=>(bs[i]?).getD true,rfl,Walks.list (A:=X.A.in1) (I.ok.hd hc) _ p hp its.toArray,⟨⟨_,z0x _ rfl,rfl,rfl⟩,pl.isList.at λo e=>q0u _ e⟩,?_,?_⟩
 ·intro i v s' Q' E' hv hQ
  have hv':its[i]? = some v:=by simpa using hv
  have hi:i<bs.length:=by rw [<- hlen];exact (q0s.mp hv').1
  obtain ⟨u,hu,ru⟩:=r'.get (i:=i) (x:=.bl bs[i]) (by rw [q0q,q0c hi];rfl)
  rw [hv'] at hu
  cases hu
  cases ru
  simp only [q0c hi] at hQ;exact wpAny_truthy_bool hQ
 ·intro h' tk kk
  have e:(j0f its.toArray.size).all (λi=>(bs[i]?).getD true)=bs.all id:=by rw [q0p,hlen,ar1]
  rw [e];refine ⟨.bl _,H,I.kept (t':=tk) λb o e=>kk b o ?_ (q0u _ e),rfl,q⟩;intro z;have:b=s.heap.objs.size:=by simpa using z
  exact absurd (q0g e) (by rw [this];exact j0w _)
def bp5 (K:q0a):R2:=λx y H Q => ∃ d d',d.isV=false/\IsD K H x d/\IsD K H y d'/\okD d d'=true/\dpD d<=60/\Q (.bl (!eqD d d')) H
theorem U7 (hu:X.A.units+64<cLine):OpR X (compareOp .NotEq) (bp5 X.K):=by
 intro pins s σ H x y v u Q I rx ry h;obtain ⟨d,d',nf,h1,h2,ok,dp,q⟩:=h;have fin:EP X pins σ Q (.bool (!eqD d d')) s:=⟨.bl _,H,I,rfl,q⟩
 cases h1 with
 | v f =>
  cases h2 with
  | v f'=>exact absurd (show true=false from nf) (by decide)
  | tup _ _=>simp [okD] at ok
  | lst _ _=>simp [okD] at ok
 | @tup p xs ds h t =>
  cases h2 with
  | v f'=>simp [okD] at ok
  | @tup p' ys ds' h' t' =>
   cases (show v=Value.ref p from rx)
   cases (show u=Value.ref p' from ry)
   rw [okD] at ok;rw [dpD] at dp;rw [eqD] at fin;obtain ⟨its,r1,i1,_⟩:=I.tuple h;obtain ⟨its',r2,i2,_⟩:=I.tuple h';have q':∀ (j:Nat) (h1:j<its.length) (h2:j<its'.length),SeqAt.EqAt X.A.in1 s its[j] its'[j] (V3 ds ds' j):=λj h1 h2=>T0 (A:=X.A.in1) I t t' ok r1 r2 (by show X.A.units+1+_<_;omega) j h1 h2
   have z:=SeqAt.RcNeAt.tuples (A:=X.A) (items:=its.toArray) (items2:=its'.toArray) (e:=V3 ds ds') i1 i2 ⋯ (λj h1 h2=>q' j (by simpa using h1) (by simpa using h2))
   have e1:its.toArray.size=ds.length:=by rw [q0p,<- r1.length,t.length]
   have e2:its'.toArray.size=ds'.length:=by rw [q0p,<- r2.length,t'.length]
   rw [e1,e2,X9] at z;exact PySem.EqBoolInt.of_rcne z fin
  | lst _ _=>simp [okD] at ok
 | @lst p xs ds h t =>
  cases h2 with
  | v f'=>simp [okD] at ok
  | tup _ _=>simp [okD] at ok
  | @lst p' ys ds' h' t' =>
   cases (show v=Value.ref p from rx)
   cases (show u=Value.ref p' from ry)
   rw [okD] at ok;rw [dpD] at dp;rw [eqD] at fin;obtain ⟨its,r1,i1,_⟩:=I.list h;obtain ⟨its',r2,i2,_⟩:=I.list h';have q':∀ (j:Nat) (h1:j<its.length) (h2:j<its'.length),SeqAt.EqAt X.A.in1 s its[j] its'[j] (V3 ds ds' j):=λj h1 h2=>T0 (A:=X.A.in1) I t t' ok r1 r2 (by show X.A.units+1+_<_;omega) j h1 h2
   have e1:its.toArray.size=ds.length:=by rw [q0p,<- r1.length,t.length]
   have e2:its'.toArray.size=ds'.length:=by rw [q0p,<- r2.length,t'.length]
   by_cases hl:ds.length=ds'.length
   ·have z:=SeqAt.RcNeAt.lists (A:=X.A) (items:=its.toArray) (items2:=its'.toArray) (e:=V3 ds ds') i1.isList i2.isList (by rw [e1,e2,hl]) ⋯ (λj h1 h2=>q' j (by simpa using h1) (by simpa using h2))
    rw [e1,aa0 ds ds' hl] at z;exact PySem.EqBoolInt.of_rcne z fin
   ·rw [ao4 ds ds' hl] at fin
    exact PySem.EqBoolInt.of_rcne (SeqAt.RcNeAt.lists_lengths (A:=X.A) i1.isList i2.isList (by rw [e1,e2];simpa using hl) ⋯) fin
end
def D4 (D:Addr) (n:Nat) (Pv:Nat->St->Hp->Prop) (i:Nat) (σ4:St) (y:V) (H5:Hp):Prop :=
 ∃ ys,H5 D=some (.lst ys)/\ys.length<sizeLine/\∃ m',m'<n-i/\(m'=n-(i+1)/\i+1<=n/\Pv (i+1) σ4 (upd H5 D (.lst (ys ++ [y]))))
theorem D4.mk {D:Addr} {n:Nat} {Pv:Nat->St->Hp->Prop} {i:Nat} {σ4:St} {y:V} {H5:Hp} {ys:List V} (hi:i<n) (h:H5 D=some (.lst ys)) (hl:ys.length<sizeLine) (p:Pv (i+1) σ4 (upd H5 D (.lst (ys ++ [y])))):D4 D n Pv i σ4 y H5 :=
 ⟨ys,h,hl,_,⋯,rfl,hi,p⟩
section
variable {K:q0a} {a D:Addr} {xs:List V} {g:TG} {te:TE} {σ0:St} {H0:Hp} {Q:VK}
theorem aQ3 (Pv:Nat->St->Hp->Prop) (h0:Pv 0 σ0 H0) (hl:∀ i σ H,i<=xs.length->Pv i σ H->SqL K H a xs)
  (hs:∀ i x σ H,xs[i]? = some x->Pv i σ H->g x σ H λσ4 H4=>te σ4 H4 λy H5=>D4 D xs.length Pv i σ4 y H5) (hd:∀ σ H,Pv xs.length σ H->Q (.ref D) H) :
  ∃ W:Nat->Nat->St->Hp->Prop,(∃ m,W 0 m σ0 H0)/\∀ i m σc H2,W i m σc H2->((Itl K a).stop i H2/\Q (.ref D) H2) \/
   ((Itl K a).go i H2/\∀ x H3,(Itl K a).yld i H2 x H3->g x σc H3 λσ4 H4=>te σ4 H4 λy H5 => ∃ ys,H5 D=some (.lst ys)/\ys.length<sizeLine/\∃ m',m'<m/\W (i+1) m' σ4 (upd H5 D (.lst (ys ++ [y])))):=by
 refine ⟨λi m σ H=>m=xs.length-i/\i<=xs.length/\Pv i σ H,⟨xs.length,by simp,z0m _,h0⟩,?_⟩
 rintro i m σ H ⟨rfl,hi,p⟩;have q:=hl i σ H hi p
 by_cases hlt:i<xs.length
 ·refine .inr ⟨⟨xs,xs[i],q,q0c hlt⟩,?_⟩
  rintro x H3 ⟨rfl,hx⟩;exact hs i x σ _ (hx xs q) p
 ·have e:i=xs.length:=⋯
  subst e;exact .inl ⟨⟨xs,q,q0t _⟩,hd σ H p⟩
theorem aK1 {lo:Int} {n:Nat} (Pv:Nat->St->Hp->Prop) (h0:Pv 0 σ0 H0)
  (hs:∀ i σ H,i<n->Pv i σ H->g (.int (lo+i)) σ H λσ4 H4=>te σ4 H4 λy H5=>D4 D n Pv i σ4 y H5) (hd:∀ σ H,Pv n σ H->Q (.ref D) H) :
  ∃ W:Nat->Nat->St->Hp->Prop,(∃ m,W 0 m σ0 H0)/\∀ i m σc H2,W i m σc H2->((Itr lo n).stop i H2/\Q (.ref D) H2) \/
   ((Itr lo n).go i H2/\∀ x H3,(Itr lo n).yld i H2 x H3->g x σc H3 λσ4 H4=>te σ4 H4 λy H5 => ∃ ys,H5 D=some (.lst ys)/\ys.length<sizeLine/\∃ m',m'<m/\W (i+1) m' σ4 (upd H5 D (.lst (ys ++ [y])))):=by
 refine ⟨λi m σ H=>m=n-i/\i<=n/\Pv i σ H,⟨n,by simp,z0m _,h0⟩,?_⟩
 rintro i m σ H ⟨rfl,hi,p⟩
 by_cases hlt:i<n
 ·refine .inr ⟨hlt,?_⟩
  rintro x H3 ⟨rfl,rfl⟩;exact hs i σ _ hlt p
 ·have e:i=n:=⋯
  subst e;exact .inl ⟨q0t _,hd σ H p⟩
end
end L2
namespace R
theorem ab0 {n d:Int} (hd:0<d) (hc:q0w n d=1):(z0a n d).num=n/\((z0a n d).den:Int)=d:=by
 obtain ⟨k,rfl⟩:∃ k:Nat,d=k:=⟨d.toNat,⋯⟩;have hk:k ≠ 0:=⋯
 have hc':n.natAbs.Coprime k:=by
  rw [v0j] at hc
  simpa [v0e] using hc
 have e:(⟨n,k,hk,hc'⟩:Rat)=z0a n k:=Rat.mk_eq_divInt;rw [<- e];exact ⟨rfl,rfl⟩
theorem S0 {n d t b:Int} (hd:0<d) (hc:q0w n d=1) (hb:b ≠ 0) (h:n*b=t*d):n=(z0a t b).num/\d=((z0a t b).den:Int):=by
 have e:z0a n d=z0a t b:=(z0n ⋯ hb).mpr h;obtain ⟨h1,h2⟩:=ab0 hd hc;rw [e] at h1 h2;exact ⟨h1.symm,h2.symm⟩
theorem j8 {g n:Int} (hg:g ≠ 0):(g*n).fdiv g=n:=by
 rw [z0k];exact Int.mul_fdiv_cancel n hg
theorem L4 {t b:Int} (hb:b ≠ 0):0<q0w t b:=Int.gcd_pos_of_ne_zero_right t hb
theorem Z9 {t b n d:Int} (hb:b ≠ 0) (h1:t=(q0w t b:Int)*n) (h2:b=(q0w t b:Int)*d):q0w n d=1:=by
 have hg:=L4 (t:=t) hb
 have e:q0w ((q0w t b:Int)*n) ((q0w t b:Int)*d)=q0w t b*q0w n d:=by
  rw [Int.gcd_mul_left];simp
 rw [<- h1,<- h2] at e;exact y0q hg (by rw [<- e,u0h])
theorem ay3 {t b g:Int} (hb:b ≠ 0) (hg:g=if b<0 then -(Int.gcd t b:Int) else (Int.gcd t b:Int)):t.fdiv g=(Rat.divInt t b).num/\b.fdiv g=((Rat.divInt t b).den:Int):=by
  have hp:(0:Int)<Int.gcd t b:=by have:=L4 (t:=t) hb;omega
  obtain ⟨n,hn⟩:=Int.gcd_dvd_left t b;obtain ⟨d,hd⟩:=Int.gcd_dvd_right t b;have hc:=Z9 hb hn hd
  by_cases hs:b<0
  · rw [if_pos hs] at hg
    subst hg;have hg0:(-(Int.gcd t b:Int)) ≠ 0:=⋯;have e1:t=-(Int.gcd t b:Int)*(-n):=by rw [Int.neg_mul_neg];exact hn
    have e2:b=-(Int.gcd t b:Int)*(-d):=by rw [Int.neg_mul_neg];exact hd
    have f1 : t.fdiv (-(Int.gcd t b : Int)) = -n := by conv => lhs; arg 1; rw [e1]
                                                       exact j8 hg0
    have f2 : b.fdiv (-(Int.gcd t b : Int)) = -d := by conv => lhs; arg 1; rw [e2]
                                                       exact j8 hg0
    rw [f1,f2]
    have hd0:0 < -d:=by
      rcases Int.lt_or_le d 0 with z | z
      · omega
      · have:=Int.mul_nonneg (Int.le_of_lt hp) z;omega
    refine S0 hd0 (by rw [Int.gcd_neg,Int.neg_gcd];exact hc) hb ?_
    conv=>lhs;rw [hd]
    conv=>rhs;rw [hn]
    generalize (Int.gcd t b:Int)=g
    grind
  · rw [if_neg hs] at hg
    subst hg;have hg0:((Int.gcd t b:Int)) ≠ 0:=⋯
    have f1 : t.fdiv (Int.gcd t b : Int) = n := by conv => lhs; arg 1; rw [hn]
                                                   exact j8 hg0
    have f2 : b.fdiv (Int.gcd t b : Int) = d := by conv => lhs; arg 1; rw [hd]
                                                   exact j8 hg0
    rw [f1,f2]
    have hd0:0<d:=by
      rcases Int.lt_or_le 0 d with z | z
      · exact z
      · have:=Int.mul_nonneg (Int.le_of_lt hp) (show 0<=-d by omega);rw [Int.mul_neg] at this;omega
    refine S0 hd0 hc hb ?_
    conv=>lhs;rw [hd]
    conv=>rhs;rw [hn]
    generalize (Int.gcd t b:Int)=g
    grind
theorem aD3 {x y:Int} (h:∀ k:Int,k ∣ x->k ∣ y->k ∣ 1):q0w x y=1:=by
 have:=h (q0w x y:Int) (j0m x y) (j0h x y);have h2:=z0v.mpr this
 simpa using h2
theorem aJ8 {x y k:Int} (h:q0w x y=1) (h1:k ∣ x) (h2:k ∣ y):k ∣ 1:=by
 have:=Int.dvd_coe_gcd h1 h2;rw [h] at this
 simpa using this
theorem ar0 {k m n:Int} (h1:q0w k m=1) (h2:q0w k n=1):q0w k (m*n)=1:=by
 rw [v0j] at *;rw [q0x];exact v0e.mul_right h1 h2
theorem aG4 {k m:Int} (h1:q0w k m=1):q0w m k=1:=by rw [m0w];exact h1
theorem bd6 {k m n:Int} (h1:q0w k m=1) (h:n ∣ m):q0w k n=1:=aD3 λj a b=>aJ8 h1 a (y0d b h)
theorem ba8 (q:Rat):q0w q.num q.den=1:=by
 rw [v0j]
 simpa using q.reduced
theorem n8 (q:Rat):(0:Int)<q.den:=by have:=q.den_nz;omega
theorem aK2 (p q:Rat):p+q=z0a (p.num*q.den+q.num*p.den) (p.den*q.den):=by
 have h1:=n8 p;have h2:=n8 q
 conv=>lhs;rw [<- z0h p,<- z0h q]
 exact m0n _ _ ⋯ ⋯
theorem aH4 (p q:Rat):p-q=z0a (p.num*q.den-q.num*p.den) (p.den*q.den):=by
 have h1:=n8 p;have h2:=n8 q
 conv=>lhs;rw [<- z0h p,<- z0h q]
 exact Rat.divInt_sub_divInt _ _ ⋯ ⋯
theorem aI6 (p q:Rat):p*q=z0a (p.num*q.num) (p.den*q.den):=by
 conv=>lhs;rw [<- z0h p,<- z0h q]
 exact y0a _ _
theorem ab3 (p q:Rat):p / q=z0a (p.num*q.den) (p.den*q.num):=by
 rw [y0b,Rat.inv_def]
 conv=>lhs;lhs;rw [<- z0h p]
 exact y0a _ _
theorem aF4 (a b:Int):q0w b (a.fmod b)=q0w a b:=by
 have e:=Int.mul_fdiv_add_fmod a b;rw [m0w a b]
 conv=>rhs;rw [<- e]
 rw [show b*a.fdiv b+a.fmod b=a.fmod b+a.fdiv b*b by rw [z0k,Int.add_comm]]
 simp
theorem U8 (a:Int) {b:Int} (hb:b ≠ 0):(a.fmod b).natAbs<b.natAbs:=by
 rcases Int.lt_or_le b 0 with h | h
 ·have e:=Int.neg_fmod_neg a b
  have h1:=y0g (-a) (show 0 < -b by omega)
  have h2:=v0b (-a) (show 0 < -b by omega)
  omega
 ·have h1:=y0g a (show 0<b by omega)
  have h2:=v0b a (show 0<b by omega)
  omega
open PySem L2 PyProof.Rows
section
variable {P:Program} {w:World} {K:q0a} {mg:Str->Option Value} {base:Heap}
theorem G4 {a:Int} {m:Nat} (h:a.natAbs<2 ^ m):Builtin.Int.intBits a<=m:=by
 unfold Builtin.Int.intBits
 split
 ·exact z0m _
 ·rename_i hz
  have h0:a.natAbs ≠ 0:=by
   intro z;have:a=0:=⋯
   simp [this] at hz
  have:=(Nat.log2_lt h0).mpr h;omega
theorem C6 {a b:Int} {m n:Nat} (ha:a.natAbs<2 ^ m) (hb:b.natAbs<2 ^ n) (h:m+n<=134217728:=by decide):IntMulOk a b:=IntMulOk.of_le (G4 ha) (G4 hb) h
theorem P3 {j:Int} (h0:j ≠ 0) (h:j.natAbs<2 ^ 9000):au2 i j:=⟨h0,(Nat.log2_lt ⋯).mpr h⟩
theorem c5 {m n:Nat} (h:m<=n):2 ^ m<=2 ^ n:=v0n (by decide) h
theorem O9 {a:Nat} {m n:Nat} (h:a<2 ^ m) (hm:m<=n:=by decide):a<2 ^ n:=q0b h (c5 hm)
def v7 (q:Rat):List V:=[.int q.num,.int (q.den:Int)]
structure Bd (q:Rat):Prop where
 n:q.num.natAbs<2 ^ 3000
 d:q.den<2 ^ 3000
def Num (K:q0a) (H:Hp) (v:V) (q:Rat):Prop:=∃ p,v=.ref p/\SqT K H p (v7 q)
def aK3 (H:Hp) (Q:VK) (q:Rat):Prop:=∀ r H',d4 H H'->H' r=some (.tup (v7 q))->Q (.ref r) H'
theorem Num.same {K:q0a} {H H':Hp} {v:V} {q:Rat} (n:Num K H v q) (e:d4 H H'):Num K H' v q:=let ⟨p,h1,h2⟩:=n;⟨p,h1,e.tup h2⟩
theorem y3:(2:Nat)<=sizeLine:=by decide
theorem av1:(1:Nat)<=sizeLine:=by decide
theorem aJ3 {a b:Int} {n:Nat} (hb:b ≠ 0) (h:b.natAbs<n):((q0w a b:Nat):Int).natAbs<n:=by
 have h1:q0w a b ∣ b.natAbs:=by
  have:=z0v.mpr (j0h a b)
  simpa using this
 have h2:=y0p ⋯ h1;simp only [q0r];omega
theorem aF3 {a b:Int} {n:Nat} (hb:a ≠ 0) (h:a.natAbs<n):((q0w a b:Nat):Int).natAbs<n:=by
 rw [m0w];exact aJ3 hb h
theorem ay9 {a g:Int} (hg:0<g) (hd:g ∣ a):(a.fdiv g).natAbs<=a.natAbs:=by
 obtain ⟨n,rfl⟩:=hd;rw [j8 ⋯,q0x];exact j0p _ ⋯
theorem Q4 {q:Rat}:q.num=0 ↔ q=0:=by
 constructor
 ·intro h;exact Rat.num_eq_zero.mp h
 ·intro h;rw [h];rfl
theorem at0 (q:Rat):atI (v7 q) 0=some (.int q.num):=rfl
theorem at1 (q:Rat):atI (v7 q) 1=some (.int (q.den:Int)):=rfl
theorem bi8 {a b:Int} (h:a.natAbs<2 ^ 64):IntMulOk a b:=IntMulOk.of_left (G4 h)
theorem aE1 {a b:Int} (h:b.natAbs<2 ^ 64):IntMulOk a b:=IntMulOk.of_right (G4 h)
def ah5:Sp:=λvs H Q _ => ∃ t b:Int,vs=[.int t,.int b]/\b ≠ 0/\b.natAbs<2 ^ 6000/\aK3 H Q (z0a t b)
def t6 (H:Hp) (u:Addr):Prop:=∃ g m p:Int,H u=some (.lst [.int g,.int m,.int p])/\0<=g/\0<=m/\m<2 ^ 40/\0<p/\p<2 ^ 40
def q8 (u:Addr) (H H':Hp):Prop:=∀ b o,H b=some o->b ≠ u->H' b=some o
theorem d4.x {H H':Hp} (s:d4 H H') (u:Addr):q8 u H H':=λb o h _=>s b o h
theorem q8.trans {u:Addr} {H H1 H2:Hp} (a:q8 u H H1) (b:q8 u H1 H2):q8 u H H2:=λc o h n=>b c o (a c o h n) n
theorem q8.upd (u:Addr) (H:Hp) (o:HO):q8 u H (upd H u o):=λb p h n=>by rw [i7 n];exact h
theorem d4.urn {H H':Hp} {u:Addr} (s:d4 H H') (h:t6 H u):t6 H' u:=let ⟨g,m,p,h1,r⟩:=h;⟨g,m,p,s _ _ h1,r⟩
def be8 (K:q0a):Sp:=λvs H Q _ => ∃ (a:Addr) (ns:List Int) (k:Int),vs=[.ref a,.int k]/\SqL K H a (ns.map V.int)/\0<=k/\k<64/\∀ r H',d4 H H'->H r=none->t6 H' r->Q (.ref r) H'
def bh8:List V:=[.int 1899999979,.int 1899998977,.int 1899997949,.int 1899996929,.int 1899995927,.int 1899994903,.int 1899993877,.int 1899992839]
theorem aU4 {k:Int} (h0:0<=k):∃ p:Int,atI bh8 (k.fmod 8)=some (.int p)/\1899992839<=p/\p<=1899999979:=by
 have h1:=y0g k (show (0:Int)<8 by decide)
 have h2:=v0b k (show (0:Int)<8 by decide)
 have h3:k.fmod 8=0 \/ k.fmod 8=1 \/ k.fmod 8=2 \/ k.fmod 8=3 \/ k.fmod 8=4 \/ k.fmod 8=5 \/ k.fmod 8=6 \/ k.fmod 8=7:=⋯;rcases h3 with h | h | h | h | h | h | h | h <;> rw [h] <;> exact ⟨_,rfl,by decide,by decide⟩
theorem aR0 {ns:List Int} {k:Int} (h0:0<=k) (h:k<(ns.length:Int)):∃ v:Int,atI (ns.map V.int) k=some (.int v):=by
 have hk:k.toNat<ns.length:=⋯;have ek:k=((k.toNat:Nat):Int):=⋯;have q:atI (ns.map V.int) ((k.toNat:Nat):Int)=some (.int ns[k.toNat]):=X8 (by rw [q0q,q0c hk] <;> rfl)
 rw [<- ek] at q;exact ⟨_,q⟩
def M8:Sp:=λvs H Q _ => ∃ (u:Addr) (n:Int),vs=[.ref u,.int n]/\t6 H u/\0<n/\n<2 ^ 40/\∀ r H',0<=r->r<n->q8 u H H'->t6 H' u->Q (.int r) H'
structure Sm (q:Rat):Prop where
 n:q.num.natAbs<=10 ^ 12
 d:q.den<=10 ^ 12
theorem G5 {t b:Int} (hb:b ≠ 0):(z0a t b).num.natAbs<=t.natAbs/\(z0a t b).den<=b.natAbs:=by
 have hp:=L4 (t:=t) hb;obtain ⟨e1,e2⟩:=ay3 (t:=t) (b:=b) (g:=if b<0 then -(q0w t b:Int) else (q0w t b:Int)) hb rfl
 have key:∀ x:Int,(q0w t b:Int) ∣ x->(x.fdiv (if b<0 then -(q0w t b:Int) else (q0w t b:Int))).natAbs<=x.natAbs:=by
  rintro x ⟨n,hn⟩
  split
  ·have:x=-(q0w t b:Int)*(-n):=by rw [Int.neg_mul_neg];exact hn
   rw [this,j8 ⋯,q0x];exact j0p _ ⋯
  ·rw [hn,j8 ⋯,q0x]
   exact j0p _ ⋯
 have k1:=key t (j0m t b);have k2:=key b (j0h t b);rw [e1] at k1;rw [e2] at k2;exact ⟨k1,⋯⟩
theorem bm6 {t b:Int} (hb:b ≠ 0) (h1:t.natAbs<=10 ^ 12) (h2:b.natAbs<=10 ^ 12):Sm (z0a t b):=by
 obtain ⟨e1,e2⟩:=G5 (t:=t) hb;exact ⟨⋯,⋯⟩
def aT2:Sp:=λvs H Q _ => ∃ u,vs=[.ref u]/\t6 H u/\∀ r H',r=0 \/ r=1 \/ r=2->q8 u H H'->t6 H' u->Q (.int r) H'
theorem al5 {H:Hp} {u l:Addr} (hu:t6 H u) (hl:H l=none):l ≠ u:=by
 obtain ⟨g,m,p,h,r⟩:=hu;exact (e8 h hl).symm
theorem W0 {H:Hp} {u l:Addr} {o:HO} (hu:t6 H u) (hl:H l=none):t6 (upd H l o) u:=by
 obtain ⟨g,m,p,h,r⟩:=hu;exact ⟨g,m,p,by rw [i7 (e8 h hl)];exact h,r⟩
def spNumber:Sp:=λvs H Q _ => ∃ u kd,vs=[.ref u,.int kd]/\t6 H u/\∀ r q H',Sm q->q8 u H H'->t6 H' u->H' r=some (.tup (v7 q))->Q (.ref r) H'
def W4:Sp:=λvs H Q _ => ∃ i:Int,vs=[.int i]/\Q (.bl true) H
theorem aE8:z0e K (.type "int") (.type "int")=some true:=by unfold z0e;rw [if_pos (by decide)]
theorem ay5:z0e K (.type "int") (.type "bool")=some false:=by kernel_rfl
theorem aE7:z0e K (.type "tuple") (.type "tuple")=some true:=by unfold z0e;rw [if_pos (by decide)]
def J9 (q:Rat):D:=.tup [.v (.int q.num),.v (.int (q.den:Int))]
theorem ad4 {H:Hp} {a:Addr} {q:Rat} (h:SqT K H a (v7 q)):IsD K H (.ref a) (J9 q):=.tup h (.cons (.v rfl) (.cons (.v rfl) .nil))
theorem az1 (q:Rat):eqD (J9 q) (J9 q)=true:=by simp [J9,eqD,E4,eqV]
theorem ay0 (p q:Rat):okD (J9 p) (J9 q)=true:=by simp [J9,okD,Y5]
theorem aY1 (q:Rat):dpD (J9 q)<=60:=by simp [J9,dpD,Y8]
def aL0 (K:q0a):Sp:=λvs H Q _ => ∃ x q,vs=[x]/\(∃ p,x=.ref p/\SqT K H p (v7 q))/\(q.den:Int).natAbs<2 ^ 6000/\∀ H',d4 H H'->Q (.bl true) H'
end
open PySem L2 PyProof.Rows
inductive k5 (H:Hp):List V->List Rat->Prop where
 | nil:k5 H [] []
 | cons {p:Addr} {q:Rat} {vs:List V} {qs:List Rat} (h:H p=some (.tup (v7 q))) (t:k5 H vs qs):k5 H (.ref p :: vs) (q :: qs)
def C9 (H H':Hp):Prop:=∀ b xs,H b=some (.tup xs)->H' b=some (.tup xs)
theorem C9.refl (H:Hp):C9 H H:=λ_ _ h=>h
theorem C9.trans {H H1 H2:Hp} (a:C9 H H1) (b:C9 H1 H2):C9 H H2:=λc xs h=>b c xs (a c xs h)
theorem _root_.L2.d4.tups {H H':Hp} (s:d4 H H'):C9 H H':=λb xs h=>s b _ h
theorem q8.tups {u:Addr} {H H':Hp} (s:q8 u H H') (hu:t6 H u):C9 H H':=λb xs h=>by
 obtain ⟨g,m,p,e,_⟩:=hu;exact s b _ h (bf3 h e (by intro z;cases z))
theorem C9.lst {H:Hp} {a:Addr} {xs:List V} {o:HO} (h:H a=some (.lst xs)):C9 H (upd H a o):=λb ys e=>by
 rw [i7 (bf3 e h (by intro z;cases z))];exact e
theorem C9.new {H:Hp} {a:Addr} {o:HO} (h:H a=none):C9 H (upd H a o):=(d4.new h o).tups
theorem k5.mono {H H':Hp} (e:C9 H H'):∀ {vs:List V} {qs:List Rat},k5 H vs qs->k5 H' vs qs
 | _,_,.nil=>.nil
 | _,_,.cons h t=>.cons (e _ _ h) (t.mono e)
theorem k5.length {H:Hp}:∀ {vs:List V} {qs:List Rat},k5 H vs qs->vs.length=qs.length
 | _,_,.nil=>rfl
 | _,_,.cons _ t=>congrArg (· + 1) t.length
theorem k5.take {H:Hp}:∀ {vs:List V} {qs:List Rat} (m:Nat),k5 H vs qs->k5 H (vs.take m) (qs.take m)
 | _,_,0,_=>by simp;exact .nil
 | _,_,_+1,.nil=>.nil
 | _,_,m+1,.cons h t=>.cons h (t.take m)
theorem k5.drop {H:Hp}:∀ {vs:List V} {qs:List Rat} (m:Nat),k5 H vs qs->k5 H (vs.drop m) (qs.drop m)
 | _,_,0,h=>h
 | _,_,_+1,.nil=>.nil
 | _,_,m+1,.cons h t=>t.drop m
theorem k5.append {H:Hp}:∀ {vs ws:List V} {qs rs:List Rat},k5 H vs qs->k5 H ws rs->k5 H (vs ++ ws) (qs ++ rs)
 | _,_,_,_,.nil,b=>b
 | _,_,_,_,.cons h t,b=>.cons h (t.append b)
theorem k5.get {H:Hp}:∀ {vs:List V} {qs:List Rat} {i:Nat} {q:Rat},k5 H vs qs->qs[i]? = some q->∃ p,vs[i]? = some (.ref p)/\H p=some (.tup (v7 q))
 | _,_,_,_,.nil,e=>by simp at e
 | _,_,0,_,.cons h t,e=>by
  have:=Option.some.inj e;subst this;exact ⟨_,rfl,h⟩
 | _,_,i+1,_,.cons h t,e=>by
  obtain ⟨p,e1,e2⟩:=t.get (i:=i) (by simpa using e)
  exact ⟨p,by simpa using e1,e2⟩
theorem k5.getV {H:Hp}:∀ {vs:List V} {qs:List Rat} {i:Nat} {v:V},k5 H vs qs->vs[i]? = some v->∃ p q,v=.ref p/\qs[i]? = some q/\H p=some (.tup (v7 q))
 | _,_,_,_,.nil,e=>by simp at e
 | _,_,0,_,.cons h t,e=>by
  have:=Option.some.inj e;subst this;exact ⟨_,_,rfl,rfl,h⟩
 | _,_,i+1,_,.cons h t,e=>by
  obtain ⟨p,q,e0,e1,e2⟩:=t.getV (i:=i) (by simpa using e)
  exact ⟨p,q,e0,by simpa using e1,e2⟩
theorem k5.isDs {K:q0a} {H:Hp}:∀ {vs:List V} {qs:List Rat},k5 H vs qs->V7 K H vs (qs.map J9)
 | _,_,.nil=>.nil
 | _,_,.cons h t=>.cons (ad4 (SqT.of h)) t.isDs
theorem ba9 {p q:Rat} (h1:p.num=q.num) (h2:p.den=q.den):p=q:=by
 cases p;cases q;simp at h1 h2;subst h1 h2;rfl
theorem aX6 (p q:Rat):eqD (J9 p) (J9 q)=decide (p=q):=by
 by_cases h:p=q
 ·subst h;rw [az1];simp
 ·rw [decide_eq_false h]
  simp only [J9,eqD,E4,eqV,Bool.and_true]
  by_cases h1:p.num=q.num
  ·have h2:p.den ≠ q.den:=λz=>h (ba9 h1 z)
   have:((p.den:Int) == (q.den:Int))=false:=by
    rw [beq_eq_false_iff_ne];intro z;exact h2 ⋯
   rw [this,Bool.and_false]
  ·have:(p.num == q.num)=false:=by rw [beq_eq_false_iff_ne];exact h1
   rw [this,Bool.false_and]
theorem as7:∀ ps qs:List Rat,E4 (ps.map J9) (qs.map J9)=decide (ps=qs)
 | [],[]=>by simp [E4]
 | [],_ :: _=>by simp [E4]
 | _ :: _,[]=>by simp [E4]
 | p :: ps,q :: qs=>by
  rw [j0x,j0x,E4,aX6,as7 ps qs]
  by_cases h1:p=q <;> by_cases h2:ps=qs <;> simp [h1,h2]
theorem as2:∀ ps qs:List Rat,Y5 (ps.map J9) (qs.map J9)=true
 | [],[]=>by simp [Y5]
 | [],_ :: _=>by simp [Y5]
 | _ :: _,[]=>by simp [Y5]
 | p :: ps,q :: qs=>by rw [j0x,j0x,Y5,ay0,as2 ps qs];rfl
theorem as9:∀ qs:List Rat,Y8 (qs.map J9)<=1
 | []=>by simp [Y8]
 | q :: qs=>by
  have h1:dpD (J9 q)<=1:=by simp [J9,dpD,Y8]
  have h2:=as9 qs;rw [j0x,Y8];omega
def x6 (qs:List Rat):D:=.lst (qs.map J9)
theorem p7 {K:q0a} {H:Hp} {a:Addr} {vs:List V} {qs:List Rat} (h:SqL K H a vs) (n:k5 H vs qs):IsD K H (.ref a) (x6 qs):=.lst h n.isDs
theorem C7 (ps qs:List Rat):eqD (x6 ps) (x6 qs)=decide (ps=qs):=by unfold x6;rw [eqD,as7]
theorem F9 (ps qs:List Rat):okD (x6 ps) (x6 qs)=true:=by unfold x6;rw [okD,as2]
theorem G9 (qs:List Rat):dpD (x6 qs)<=2:=by unfold x6;rw [dpD];have:=as9 qs;omega
structure x9 (qs:List Rat) (m:Nat):Prop where
 le:m<=qs.length
 zero:∀ (i:Nat) (q:Rat),m<=i->qs[i]? = some q->q=0
 last:m ≠ 0->∀ q,qs[m-1]? = some q->q ≠ 0
theorem x9.uniq {qs:List Rat} {m n:Nat} (a:x9 qs m) (b:x9 qs n):m=n:=by
 have key:∀ {m n:Nat},x9 qs m->x9 qs n->¬ m<n:=by
  intro m n a b h;have hn:n-1<qs.length:=by have:=b.le;omega
  exact b.last ⋯ _ (q0c hn) (a.zero (n-1) _ ⋯ (q0c hn))
 have:=key a b;have:=key b a;omega
theorem x9.self {qs:List Rat} {m:Nat} (a:x9 qs m):x9 (qs.take m) m:=by
 have hl:(qs.take m).length=m:=by rw [j0b];have:=a.le;omega
 refine ⟨⋯,λi q hi e=>?_,λh q e=>?_⟩
 ·rw [q0d ⋯] at e;cases e
 ·rw [g0r ⋯] at e
  exact a.last h q e
def evs {α:Type}:List α->List α
 | []=>[]
 | [x]=>[x]
 | x :: _ :: r=>x :: evs r
def ods {α:Type} (xs:List α):List α:=evs xs.tail
theorem aG3 (vs:List V) {m:Nat} (h:m<=vs.length):az6 vs none (some (m:Int))=vs.take m:=by
 unfold az6;have e1:HT.sIx vs.length 0 none=0:=by simp [HT.sIx]
 have e2:HT.sIx vs.length vs.length (some (m:Int))=m:=by
  simp only [HT.sIx]
  split <;> omega
 rw [e1,e2];simp
end R
set_option maxRecDepth 100000
namespace L2
open PySem PySem.Spec PyProof.Rows
def WhN (Pv:St->Hp->Prop) (μ:St->Hp->Nat) (m:Nat):St->Hp->Prop:=λσ' H' => ∃ m',m'<m/\(m'=μ σ' H'/\Pv σ' H')
theorem WhN.mk {Pv:St->Hp->Prop} {μ:St->Hp->Nat} {m:Nat} {σ':St} {H':Hp} (h:Pv σ' H') (l:μ σ' H'<m):WhN Pv μ m σ' H':=⟨_,l,rfl,h⟩
def WhB (tb:TS) (D:V9) (Pv:St->Hp->Prop) (μ:St->Hp->Nat) (m:Nat) (σ:St) (H1:Hp):Prop :=
 ∃ N:St->Hp->Prop,(∀ σ' H',N σ' H'->∃ m',m'<m/\(m'=μ σ' H'/\Pv σ' H'))/\tb { D with nx:=N,ct:=N,bk:=D.nx } σ H1
theorem WhB.mk {tb:TS} {D:V9} {Pv:St->Hp->Prop} {μ:St->Hp->Nat} {m:Nat} {σ:St} {H1:Hp} (h:tb { D with nx:=WhN Pv μ m,ct:=WhN Pv μ m,bk:=D.nx } σ H1):WhB tb D Pv μ m σ H1:=⟨_,λ_ _ n=>n,h⟩
theorem U0 {c:TT} {tb:TS} {D:V9} {σ:St} {H:Hp} (Pv:St->Hp->Prop) (μ:St->Hp->Nat) (h0:Pv σ H)
  (hs:∀ σ H,Pv σ H->c σ H λb H1=>if b=true then WhB tb D Pv μ (μ σ H) σ H1 else D.nx σ H1):aa1 c tb D σ H:=by
 refine ⟨λm σ H=>m=μ σ H/\Pv σ H,⟨_,rfl,h0⟩,?_⟩;rintro m σ H ⟨rfl,p⟩;exact hs σ H p
theorem d4.over {H H1:Hp} {l:Addr} (s:d4 H H1) (hl:H l=none) (o:HO):d4 H (upd H1 l o):=λb u h=>by
 rw [i7 (e8 h hl)];exact s b u h
def ae3 (J:It) (D:Addr) (σ0:St) (H0:Hp) (g:TG) (te:TE) (Q:VK):Prop:=∃ W:Nat->Nat->St->Hp->Prop,(∃ m,W 0 m σ0 H0) /\
 ∀ i m σc H2,W i m σc H2->(J.stop i H2/\Q (.ref D) H2) \/
  (J.go i H2/\∀ x H3,J.yld i H2 x H3->g x σc H3 λσ4 H4=>te σ4 H4 λy H5 => ∃ ys,H5 D=some (.lst ys)/\ys.length<sizeLine/\∃ m',m'<m/\W (i+1) m' σ4 (upd H5 D (.lst (ys ++ [y]))))
theorem M0 (wi:TI) (caps:List (Option Nat)) (g:TG) (te:TE):aS6 wi caps g te=λσ H Q=>wi σ H λJ H1 => ∀ D,H1 D=none->ae3 J D (G0 caps σ) (upd H1 D (.lst [])) g te Q:=rfl
def bm3 (J:It) (D:Addr) (σ0:St) (H0:Hp) (g:TG) (tt:TT) (te:TE) (Q:VK):Prop:=∃ W:Nat->Nat->St->Hp->Prop,(∃ m,W 0 m σ0 H0) /\
 ∀ i m σc H2,W i m σc H2->(J.stop i H2/\Q (.ref D) H2) \/
  (J.go i H2/\∀ x H3,J.yld i H2 x H3->g x σc H3 λσ4 H4=>tt σ4 H4 λb H4'=>if b=true then te σ4 H4' λy H5 => ∃ ys,H5 D=some (.lst ys)/\ys.length<sizeLine/\∃ m',m'<m/\W (i+1) m' σ4 (upd H5 D (.lst (ys ++ [y])))
   else ∃ m',m'<m/\W (i+1) m' σ4 H4')
theorem D8 (wi:TI) (caps:List (Option Nat)) (g:TG) (tt:TT) (te:TE):ba3 wi caps g tt te=λσ H Q=>wi σ H λJ H1 => ∀ D,H1 D=none->bm3 J D (G0 caps σ) (upd H1 D (.lst [])) g tt te Q:=rfl
section
variable {K:q0a} {a D:Addr} {xs:List V} {g:TG} {te:TE} {σ0:St} {H0:Hp} {Q:VK}
theorem L9 (xs:List V) (Pv:Nat->St->Hp->Prop) (h0:Pv 0 σ0 H0) (hl:∀ i σ H,i<=xs.length->Pv i σ H->SqL K H a xs)
  (hs:∀ i x σ H,xs[i]? = some x->Pv i σ H->g x σ H λσ4 H4=>te σ4 H4 λy H5=>D4 D xs.length Pv i σ4 y H5) (hd:∀ σ H,Pv xs.length σ H->Q (.ref D) H):ae3 (Itl K a) D σ0 H0 g te Q:=aQ3 Pv h0 hl hs hd
theorem aG2 {lo:Int} {n:Nat} (Pv:Nat->St->Hp->Prop) (h0:Pv 0 σ0 H0)
  (hs:∀ i σ H,i<n->Pv i σ H->g (.int (lo+i)) σ H λσ4 H4=>te σ4 H4 λy H5=>D4 D n Pv i σ4 y H5) (hd:∀ σ H,Pv n σ H->Q (.ref D) H):ae3 (Itr lo n) D σ0 H0 g te Q:=aK1 Pv h0 hs hd
end
theorem A3 {cells:List (Str × Addr)}:∀ (x:Str) (c:Addr),([]:List (Str × Addr)).lookup x=some c->cells.lookup x=some c:=λx c h=>by cases h
theorem A7 {cells cl:List (Str × Addr)} {k:Str} {a:Addr} (h:cells.lookup k=some a) (r:∀ (x:Str) (c:Addr),cl.lookup x=some c->cells.lookup x=some c):∀ (x:Str) (c:Addr),((k,a) :: cl).lookup x=some c->cells.lookup x=some c:=λx c e=>by
 rw [g0t] at e
 split at e
 ·rename_i q
  have:=eq_of_beq q;subst this
  cases e
  exact h
 ·exact r x c e
end L2
namespace R
open PySem L2 PyProof.Rows
theorem q8.over {u:Addr} {H H1:Hp} {l:Addr} (s:q8 u H H1) (hl:H l=none) (o:HO):q8 u H (L2.upd H1 l o):=λb x h n=>by
 rw [i7 (e8 h hl)];exact s b x h n
theorem q8.free {u:Addr} {H H':Hp} {l:Addr} (s:q8 u H H') (hu:t6 H' u) (h:H' l=none):H l=none:=by
 cases e:H l with
 | none=>rfl
 | some o =>
  by_cases q:l=u
  ·subst q
   obtain ⟨_,_,_,z,_⟩:=hu;rw [z] at h;cases h
  ·rw [s l o e q] at h;cases h
theorem t6.other {H:Hp} {u l:Addr} {o:HO} (h:t6 H u) (ne:l ≠ u):t6 (upd H l o) u:=by
 obtain ⟨g,m,p,e,r⟩:=h;exact ⟨g,m,p,by rw [i7 ne.symm];exact e,r⟩
theorem aD8 {H:Hp} {p l:Addr} {o:HO} (h:upd H p o l=none):H l=none:=by
 by_cases q:l=p
 ·subst q;rw [c8] at h;cases h
 ·rw [i7 q] at h;exact h
theorem bi7 {H:Hp} {p l:Addr} {o:HO} (h:upd H p o l=none):l ≠ p:=λq=>by
 subst q;rw [c8] at h;cases h
theorem aq8 {K:q0a}:z0e K (.type "list") (.type "list")=some true:=by unfold z0e;rw [if_pos (by decide)]
end R
set_option maxRecDepth 100000
namespace L2
open PySem PySem.Spec PyProof.Rows
def Itz (K:PySem.W.Frag) (a b:Addr):It :=
  ⟨λi H => ∃ xs ys x y,SqL K H a xs/\SqL K H b ys/\xs[i]? = some x/\ys[i]? = some y,
   λi H v H' => ∀ xs ys,SqL K H a xs->SqL K H b ys->∃ x y p,xs[i]? = some x/\ys[i]? = some y/\H p=none/\v=.ref p/\H'=upd H p (.tup [x,y]),
   λi H => ∃ xs ys,SqL K H a xs/\SqL K H b ys/\(xs.length<=i \/ ys.length<=i)⟩
theorem aS5 {P:Program} {w:World} {K:q0a} {elts:List Expr} {k:Nat} {tpos:Pos} (a b z TI TO i1 i2:Addr) (D:ZipApart z TI TO i1 i2 a b) :
  aZ6 P w K (.Tuple elts k tpos) (Itz K a b) [z,TI,TO,i1,i2] z (λi h=>IsZip h z TI TO .none/\IsPair h TI (.ref i1) (.ref i2)/\(∃ a b,IsPair h TO a b)/\h.IsListIter i1 a i/\h.IsListIter i2 b i) where
 mem:=by simp
 obj:=λi h st c hc=>by
  obtain ⟨hz,hTI,⟨p,q,hTO⟩,h1,h2⟩:=st;rcases (by simpa using hc:c=z \/ c=TI \/ c=TO \/ c=i1 \/ c=i2) with e | e | e | e | e <;> subst e
  ·exact ⟨_,hz,λv z=>by cases z⟩
  ·exact ⟨_,hTI,λv z=>by cases z⟩
  ·exact ⟨_,hTO,λv z=>by cases z⟩
  ·obtain ⟨o,e,c,d⟩:=h1
   exact ⟨o,e,λv z=>by rw [d] at z;cases z⟩
  ·obtain ⟨o,e,c,d⟩:=h2
   exact ⟨o,e,λv z=>by rw [d] at z;cases z⟩
 keep:=λi h h' st k=>by
  obtain ⟨hz,hTI,⟨p,q,hTO⟩,h1,h2⟩:=st;exact ⟨k z (by simp) _ hz,k TI (by simp) _ hTI,⟨p,q,k TO (by simp) _ hTO⟩,h1.at λo e=>k i1 (by simp) o e,h2.at λo e=>k i2 (by simp) o e⟩
 item:=by
  intro X hP hw hK hc i pins s σ H E I hf st hg;subst hP hw hK;obtain ⟨xs,ys,x,y,hq,hq',hx,hy⟩:=hg;obtain ⟨its,rv,p,hlz⟩:=I.list hq;obtain ⟨its',rv',p',hlz'⟩:=I.list hq';obtain ⟨u,hu,ru⟩:=rv.get hx;obtain ⟨u',hu',ru'⟩:=rv'.get hy;obtain ⟨hz,hTI,⟨pa,pb,hTO⟩,h1,h2⟩:=st;have zlt:z<s.heap.objs.size:=q0g hz;refine wpAny_pyNext_zip_item D hz hTI hTO h1 h2 p.isList p'.isList (x:=u) (y:=u') (by simpa using hu) (by simpa using hu') λh' a1 a2 a3 a4 a5 a6 kk=>?_
  refine ⟨_,rfl,?_⟩;refine wpAny_letOwnedTupleGo_zip (s:={ s with heap:=h' }) a1 λh'' hz'' sb=>?_;have up:∀ c o,c ≠ z->h'.get? c=some o->h''.get? c=some o:=λc o n q=>(sb.2 c n).trans q;have hT':h''.get? s.heap.objs.size=some { cls:=.type "tuple",data:=.seq #[u,u'] }:=up _ _ (m0u zlt) a5
  refine ⟨.ref s.heap.objs.size,upd H s.heap.objs.size (.tup [x,y]),I.turnLaid (fp:=[z,TI,TO,i1,i2]) (t':=s.toks) hf (λc v hb q=>?_) (q0t _) ?_,rfl,?_,?_,λc hb=>?_⟩
  ·have n1:c ≠ z:=λe=>hb (by simp [e])
   have n2:c ≠ TO:=λe=>hb (by simp [e])
   have n3:c ≠ i1:=λe=>hb (by simp [e])
   have n4:c ≠ i2:=λe=>hb (by simp [e])
   exact up c v n1 (kk c v n1 n2 n3 n4 q)
  ·exact ⟨(show 2<=sizeLine by decide +kernel),[u,u'],.cons ru (.cons ru' .nil),_,hT',rfl,_,rfl⟩
  ·intro vs ws hv hw
   rw [I.list_inj hv hq,I.list_inj hw hq'];exact ⟨x,y,_,hx,hy,I.fresh,rfl,rfl⟩
  ·refine ⟨hz'',up _ _ D.TIz (kk _ _ D.TIz D.TITO D.TIi1 D.TIi2 hTI),⟨u,u',up _ _ D.TOz a2⟩,a3.at λo q=>up _ o D.i1z q,a4.at λo q=>up _ o D.i2z q⟩
  ·have hlt:c<s.heap.objs.size:=by
    have l1:i1<s.heap.objs.size:=by obtain ⟨_,e,_⟩:=h1;exact q0g e
    have l2:i2<s.heap.objs.size:=by obtain ⟨_,e,_⟩:=h2;exact q0g e
    rcases (by simpa using hb:c=z \/ c=TI \/ c=TO \/ c=i1 \/ c=i2) with e | e | e | e | e <;> rw [e]
    ·exact zlt
    ·exact q0g hTI
    ·exact q0g hTO
    ·exact l1
    ·exact l2
   rw [i7 (z0g hlt)];exact (hf c hb).1
 done:=by
  intro X hP hw hK hc i pins s σ H E I hf st hg;subst hP hw hK;obtain ⟨xs,ys,hq,hq',hend⟩:=hg;obtain ⟨its,rv,p,hlz⟩:=I.list hq;obtain ⟨its',rv',p',hlz'⟩:=I.list hq';obtain ⟨hz,hTI,⟨pa,pb,hTO⟩,h1,h2⟩:=st;have l1:=rv.length;have l2:=rv'.length;refine wpAny_pyNext_zip_end (I.ok.hd hc) D hz hTI hTO h1 h2 p.isList p'.isList ?_ λh' kk=>⟨rfl,?_⟩
  ·rcases hend with e | e
   ·exact .inl (by simp;omega)
   ·exact .inr (by simp;omega)
  ·have nf:∀ b u,H b=some u->b ∉ [z,TI,TO,i1,i2]:=λb u e q=>by rw [(hf b q).1] at e;cases e
   have k:∀ b u,b ∉ [z,TI,TO,i1,i2]->s.heap.get? b=some u->h'.get? b=some u:=λc o hb q=>kk c o (λe=>hb (by simp [e])) (λe=>hb (by simp [e])) (λe=>hb (by simp [e])) (λe=>hb (by simp [e])) q
   refine I.step (t':=s.toks) (g':=s.gens) (d':=s.drawn) (ch:=[z,TI,TO,i1,i2]) (λb hb=>?_) (λb o _ _ hc e _=>k b o hc e) (λb o _ _ hc e _=>⟨o.slots,k b o hc e⟩) (λb o _ e n=>n)
    (λb o hc e=>⟨o,k b o hc e⟩) (λb xs e=>e) (λb o u e=>e) (λb ps e=>⟨#[],by rw [e];simp⟩) (λm hm=>?_) (λb u e=>?_) I.bare
   ·obtain ⟨_,f1,_,f3,f4,f5⟩:=hf b hb
    exact ⟨f3,f1,f4,f5⟩
   ·obtain ⟨o,es,ep,ho,r⟩:=hm
    exact ⟨o,es,ep,k _ o (λq=>(hf _ q).2.1 rfl) ho,r⟩
   ·refine (I.hok b u e).stay (λc v hc q=>k c v ?_ q) (λc q=>q) λc xs q=>q
    rcases hc with q | q
    ·rw [q];exact nf b u e
    ·exact nf c _ q
 self:=λ_ _ _ _ _ st h=>wpAny_pyIter_zip st.1 h
section
variable {X:Cx}
def aF1 (K:q0a) (ta:TA):TI:=λσ H R=>ta σ H λvs H1 => ∃ a b,vs=[.ref a,.ref b]/\(∃ xs,SqL K H1 a xs)/\(∃ ys,SqL K H1 b ys)/\R (Itz K a b) H1
theorem bi0 {elts:List Expr} {k:Nat} {tpos:Pos} {l l':Expr} {ta:TA} {p pos:Pos} (hg:Gl X "zip") (hm:X.mg "zip" = none) (ha:PA X [l,l'] ta) (hs:starEach [l,l'] X.env=[(false,eval l X.env),(false,eval l' X.env)]:=by rfl) (hs2:starEach [l'] X.env=[(false,eval l' X.env)]:=by rfl) :
  PI X (.Tuple elts k tpos) (.Call (.Name "zip" p) [l,l'] [] pos) (aF1 X.K ta):=by
 intro pins s σ H R I h;refine Call_ (V1 I hg hm (u:=.type "zip") (by decide +kernel) (PyProof.Rows.callWith_type1 (thn (ha pos pins s σ H _ I h) λus s1 ⟨vs,H1,I1,r1,q1⟩=>?_) (by rw [hs,hs2]) (by rw [hs2];rfl)))
 obtain ⟨a,b,e,⟨xs,hq⟩,⟨ys,hq'⟩,q⟩:=q1;subst e;obtain ⟨u,u',rfl,rx,rx'⟩:=k8.two r1
 cases rx
 cases rx'
 obtain ⟨its,rv,p,hz⟩:=I1.list hq;obtain ⟨its',rv',p',hz'⟩:=I1.list hq';have a1:a<s1.heap.objs.size:=by obtain ⟨_,e,_⟩:=p.isList;exact q0g e
 have a2:b<s1.heap.objs.size:=by obtain ⟨_,e,_⟩:=p'.isList;exact q0g e
 refine call_zip_2 p.isList p'.isList λh' hz hTI hTO hi1 hi2 hsz kk=>?_;refine wpAny_pyIter_zip hz ?_;have I2:Inv X pins σ H1 { s1 with heap:=h' }:=I1.kept (t':=s1.toks) kk;refine ⟨_,_,_,_,H1,rfl,I2,aS5 a b _ _ _ _ _ (zipApart_new a1 a2),⟨hz,hTI,⟨_,_,hTO⟩,hi1,hi2⟩,λc hb=>?_,q⟩
 have hb':s1.heap.objs.size<=c:=by
  rcases (by simpa using hb:c=s1.heap.objs.size+4 \/ c=s1.heap.objs.size+2 \/ c=s1.heap.objs.size+3 \/ c=s1.heap.objs.size \/ c=s1.heap.objs.size+1) with e | e | e | e | e <;> rw [e]
  ·exact u0n _ _
  ·exact u0n _ _
  ·exact u0n _ _
  ·exact q0t _
  ·exact u0n _ _
 obtain ⟨f0,f1,f2,f3,f4,f5⟩:=I1.fpOk (H':=H1) hb' (I1.hok.fresh hb');exact ⟨f0,f1,f2,f3,f4,f5⟩
end
section
variable {prog:Program} {w:World} {A:Around} {E:Value->Shared->Prop} {s:Shared}
theorem bc5 {a b:Int} {t u:Tok} {Q:Value->Shared->Prop} (h:Q (.bool (decide (a > b))) s):wpAny (model prog w) A (richCompare .Gt (.int a t) (.int b u)) Q E s :=
 richCompare_gives (op:=.Gt) (typeIs_int s _ t) (typeIs_int s _ u) F.slot_int_gt F.entry_int_gt (F.args_int_gt_2 _ _) (gives_int_gt _ _ t u) (λx=>nomatch x) h
theorem az9 {id:String} {b:Builtin} {args:List Value} {kw:List (Str × Value)} {Q:Value->Shared->Prop} (hk:builtinKind id=none) (hp:plainId id=true)
  (hb:entryFor table id=some b) (ha:argsOk id ⟨args,kw⟩)
  (hc:wpAny (model prog w) A.in1 (b ⟨args,kw⟩) (λfin s'=>match fin with
   | .done f=>(match (Except.ok f:Result) with | .ok (.ret v)=>Q v s' | .ok _=>False | .error e=>E e s')
   | .again c'=>c'.quiet=true/\codeAny (model prog w) A c' (λr s'=>match r with | .ok (.ret v)=>Q v s' | .ok _=>False | .error e=>E e s') s') E s) :
  wpAny (model prog w) A (call (.builtin id) args kw) Q E s:=by
 refine wpAny_call (codeAny_call_builtin hp hb ?_);simp only [checkBuiltinCall,hk]
 cases hsig:Manifest.signature? id with
 | none=>exact wpAny_pure hc
 | some sig =>
  have ha':Bind.checkArgs id sig ⟨args,kw⟩=pure ():=by simpa only [argsOk,hsig] using ha
  simp only [ha'];exact wpAny_pure hc
variable {R:Result->Shared->Prop} {I:Addr} {fp wr:List Addr} {n:Nat} {P:Nat->Value->Prop} {St:Nat->Heap->Prop}
theorem aP1 (W:Walks prog w A.in1 I fp wr n P St) (hint:∀ i v,P i v->∃ x t,v=.int x t) (S:Addr) (hSf:S ∉ fp) (d:Value) :
  ∀ (k j:Nat) (s:Shared) (x0:Int) (t0:Tok) (c:Nat),n-(j+1)=k->j+1<=n->St (j+1) s.heap ->
  s.heap.get? S=some { cls:=.type "list",dict:=none,data:=.seq #[.int x0 t0,.int x0 t0] c,slots:=#[] } ->
  (∀ x t h' tk,(∀ b o,b ∉ wr->b ≠ S->s.heap.get? b=some o->h'.get? b=some o)->R (.ok (.ret (.int x t))) { s with heap:=h',toks:=tk }) ->
  codeAny (model prog w) A (.builtin "max.loop" ⟨[.ref I,.none,.ref S],[("default",d)]⟩) R s:=by
 have hSw:S ∉ wr:=λh=>hSf (W.sub _ h);have hname:(toString "max" ++ toString ".loop" : String) = "max.loop" := by decide
 intro k
 induction k with
 | zero =>
  intro j s x0 t0 c hk hj hst hS hR;have hin:j+1=n:=⋯;refine codeAny_builtin F.entry_max_loop ?_;rw [Around.under_plainId F.plain_max_loop _]
  show wpAny _ A.in1 (seqItems? (.ref S) >>= _) _ _ s;refine wpAny_bind (wpAny_seqItems hS rfl ?_)
  show wpAny _ A.in1 (tryCatch (pyNext (.ref I)) _ >>= _) _ _ s;refine wpAny_bind (wpAny_tryCatch (W.done s _ _ (hin ▸ hst) λh' tk hk'=>?_));have hS':=hk' S _ hSw hS
  show wpAny _ A.in1 (updateSeq S (λ_ => #[]) >>= _) _ _ _;refine wpAny_bind ?_;refine wpAny_updateSeq hS' rfl (wpAny_bind (wpAny_letGo (wpAny_pure ?_)));exact hR x0 t0 _ tk λb o hbw hbS e=>(j0n _ _ (Ne.symm hbS)).trans (hk' b o hbw e)
 | succ k ih =>
  intro j s x0 t0 c hk hj hst hS hR;have hlt:j+1<n:=⋯;refine codeAny_builtin F.entry_max_loop ?_;rw [Around.under_plainId F.plain_max_loop _]
  show wpAny _ A.in1 (seqItems? (.ref S) >>= _) _ _ s;refine wpAny_bind (wpAny_seqItems hS rfl ?_)
  show wpAny _ A.in1 (tryCatch (pyNext (.ref I)) _ >>= _) _ _ s;refine wpAny_bind (wpAny_tryCatch (W.item (j+1) s _ _ hlt hst λv h' tk hP hst' hk'=>?_));obtain ⟨x1,t1,rfl⟩:=hint _ _ hP;have hS':=hk' S _ hSw hS
  show wpAny _ A.in1 (tryCatch (holding [.int x1 t1,.int x1 t1] (richCompare .Gt (.int x1 t1) (.int x0 t0) >>= _)) _ >>= _) _ _ _;refine wpAny_bind (wpAny_tryCatch (wpAny_holding (wpAny_bind (bc5 ?_))));refine wpAny_bind (wpAny_holding (wpAny_truthy_bool ?_));refine wpAny_bind (wpAny_letGo (wpAny_pure ?_))
  cases hb:decide (x1 > x0) with
  | true =>
   simp only [if_true];refine wpAny_bind ?_;refine wpAny_updateSeq hS' rfl (wpAny_bind (wpAny_letGo ?_));rw [hname]
   refine wpAny_pure ⟨plainId_quiet F.plain_max_loop _,ih (j+1) _ x1 t1 _ ⋯ hlt (W.frame _ _ _ hst' λb hbf o e=>?_) (u0q _ hS' rfl)
    λx t h'' tk'' hk''=>?_⟩
   ·exact (j0n _ _ (λh:S=b=>hSf (by rw [h];exact hbf))).trans e
   ·exact hR x t h'' tk'' λb o hbw hbS e=>hk'' b o hbw hbS ((j0n _ _ (Ne.symm hbS)).trans (hk' b o hbw e))
  | false =>
   simp only [g0f,if_false];refine wpAny_bind (wpAny_letGo ?_);rw [hname];refine wpAny_pure ⟨plainId_quiet F.plain_max_loop _,ih (j+1) _ x0 t0 c ⋯ hlt hst' hS' λx t h'' tk'' hk''=>?_⟩;exact hR x t h'' tk'' λb o hbw hbS e=>hk'' b o hbw hbS (hk' b o hbw e)
theorem aI7 (W:Walks prog w A.in1 I fp wr n P St) (hint:∀ i v,P i v->∃ x t,v=.int x t) (S:Addr) (hSf:S ∉ fp) {x0:Int} {t0:Tok} {c:Nat} (hst:St 0 s.heap)
  (hS:s.heap.get? S=some { cls:=.type "list",dict:=none,data:=.seq #[] c,slots:=#[] })
  (hR:∀ x t h' tk,(∀ b o,b ∉ wr->b ≠ S->s.heap.get? b=some o->h'.get? b=some o)->R (.ok (.ret (.int x t))) { s with heap:=h',toks:=tk }) :
  codeAny (model prog w) A (.builtin "max.loop" ⟨[.ref I,.none,.ref S],[("default",.int x0 t0)]⟩) R s:=by
 have hSw:S ∉ wr:=λh=>hSf (W.sub _ h);have hname:(toString "max" ++ toString ".loop" : String) = "max.loop" := by decide
 refine codeAny_builtin F.entry_max_loop ?_;rw [Around.under_plainId F.plain_max_loop _]
 show wpAny _ A.in1 (seqItems? (.ref S) >>= _) _ _ s;refine wpAny_bind (wpAny_seqItems hS rfl ?_)
 show wpAny _ A.in1 (tryCatch (pyNext (.ref I)) _ >>= _) _ _ s
 by_cases hn:0<n
 ·refine wpAny_bind (wpAny_tryCatch (W.item 0 s _ _ hn hst λv h' tk hP hst' hk'=>?_))
  obtain ⟨x1,t1,rfl⟩:=hint _ _ hP;have hS':=hk' S _ hSw hS
  show wpAny _ A.in1 (updateSeq S (λ_ => #[.int x1 t1,.int x1 t1]) >>= _) _ _ _;refine wpAny_bind ?_;refine wpAny_updateSeq hS' rfl ?_;rw [hname];refine wpAny_pure ⟨plainId_quiet F.plain_max_loop _,aP1 W hint S hSf _ _ 0 _ x1 t1 _ rfl hn (W.frame _ _ _ hst' λb hbf o e=>?_) (u0q _ hS' rfl) λx t h'' tk'' hk''=>?_⟩
  ·exact (j0n _ _ (λh:S=b=>hSf (by rw [h];exact hbf))).trans e
  ·exact hR x t h'' tk'' λb o hbw hbS e=>hk'' b o hbw hbS ((j0n _ _ (Ne.symm hbS)).trans (hk' b o hbw e))
 ·have h0:n=0:=⋯
  refine wpAny_bind (wpAny_tryCatch (W.done s _ _ (by rw [h0];exact hst) λh' tk hk'=>?_))
  show wpAny _ A.in1 (rule _ >>= _) _ _ _;refine wpAny_bind (wpAny_rule (wpAny_pure ?_));exact hR x0 t0 _ tk λb o hbw hbS e=>hk' b o hbw e
theorem aR1 (a d:Value):argsOk "max" ⟨[a],[("default",d)]⟩:=by unfold argsOk;kernel_rfl
end
section
variable {X:Cx}
def ah1 (K:q0a) (ta:TA):TE:=λσ H Q=>ta σ H λvs H1 => ∃ (a:Addr) (ns:List Int),vs=[.ref a]/\SqL K H1 a (ns.map V.int)/\∀ i:Int,Q (.int i) H1
theorem aQ6 (hc:X.calm=true) {pins:List (Addr × Obj)} {s:Shared} {σ:St} {H:Hp} {a:Addr} {ns:List Int} {Q:VK} {x0:Int} {t0:Tok} (I:Inv X pins σ H s) (hq:SqL X.K H a (ns.map V.int)) (q:∀ i:Int,Q (.int i) H) :
  wpAny (model X.prog X.w) X.A (call (.builtin "max") [.ref a] [("default",.int x0 t0)]) (EP X pins σ Q) X.xe s:=by
 have hname:(toString "max" ++ toString ".loop" : String) = "max.loop" := by decide
 obtain ⟨its,r',pl,hz⟩:=I.list hq
 have hp:a ≠ s.heap.objs.size:=by
  obtain ⟨o,ho,_⟩:=pl.isList;exact z0g (q0g ho)
 refine az9 F.kind_max F.plain_max F.entry_max (aR1 _ _) ?_
 show wpAny _ X.A.in1 (Builtin.Builtins.bindParams "max" ["key","default"] 0 ⟨[],[("default",.int x0 t0)]⟩ >>= _) _ _ s
 refine wpAny_bind (wpAny_of_eq (show Builtin.Builtins.bindParams "max" ["key","default"] 0 ⟨[],[("default",.int x0 t0)]⟩=pure [none,some (.int x0 t0)] from by with_unfolding_all rfl) ?_)
 refine wpAny_bind (wpAny_pure ?_);refine wpAny_bind (wpAny_pyIter_list pl.isList ?_);refine wpAny_bind (wpAny_newObj_type ?_);have a1:a<s.heap.objs.size:=by obtain ⟨o,ho,_⟩:=pl.isList;exact q0g ho
 rw [hname];refine wpAny_pure ⟨plainId_quiet F.plain_max_loop _,?_⟩;refine aI7 (Walks.list (A:=X.A.in1) (I.ok.hd hc) s.heap.objs.size a hp its.toArray) ?_ _ ?_ ⟨⟨_,q0u _ (z0x _ rfl),rfl,rfl⟩,pl.isList.at λo e=>q0u _ (q0u _ e)⟩ (z0x _ rfl) ?_
 ·intro i v hv
  have hv':its[i]? = some v:=by simpa using hv
  have hi:i<ns.length:=by
   have:=(q0s.mp hv').1;rw [<- r'.length,q0m] at this;exact this
  obtain ⟨u,hu,ru⟩:=r'.get (i:=i) (x:=.int ns[i]) (by rw [q0q,q0c hi];rfl)
  rw [hv'] at hu
  cases hu
  obtain ⟨t,rfl⟩:=ru;exact ⟨_,_,rfl⟩
 ·rw [u0e]
  intro z;rcases (by simpa using z:s.heap.objs.size+1=s.heap.objs.size \/ s.heap.objs.size+1=a) with e | e
  ·exact absurd e (Nat.succ_ne_self _)
  ·exact absurd a1 (by rw [<- e];exact Nat.not_lt.mpr (v0r _))
 ·intro x t h' tk kk
  refine ⟨.int x,H,I.kept (t':=tk) λb o e=>kk b o ?_ ?_ (q0u _ (q0u _ e)),⟨t,rfl⟩,q x⟩
  ·intro z
   have:b=s.heap.objs.size:=by simpa using z
   exact absurd (q0g e) (by rw [this];exact j0w _)
  ·rw [u0e]
   intro z;exact absurd (q0g e) (by rw [z];exact Nat.not_lt.mpr (v0r _))
theorem bb2 {l:Expr} {ta:TA} {p pos p1 p2:Pos} {x0:Int} {j:Nat} (hc:X.calm=true) (hg:Gl X "max") (hm:X.mg "max" = none) (ha:PA X [l] ta) (hs:starEach [l] X.env=[(false,eval l X.env)]:=by rfl) :
  PE X (.Call (.Name "max" p) [l] [⟨some "default",.Constant (.int x0) j p1,p2⟩] pos) (ah1 X.K ta):=by
 intro pins s σ H Q I h;refine wpAny_Call_Name_kw (V1 I hg hm (u:=.builtin "max") (by decide +kernel) ?_ (by decide) (by decide))
 refine callWith_kw (thn (ha pos pins s σ H _ I h) λus s1 zq=>?_) (by rw [hs];rfl) (by rw [hs];rfl) rfl rfl
 obtain ⟨vs,H1,I1,r1,q1⟩:=zq;obtain ⟨a,ns,e,hq,q⟩:=q1;subst e;obtain ⟨u,rfl,rx⟩:=ab9 r1
 cases rx
 show wpAny _ _ (evalAll [do let v <- eval (.Constant (.int x0) j p1) X.env;standAt pos;pure v]) _ _ _
 unfold evalAll;refine wpAny_bind (wpAny_bind (wpAny_Constant_int (wpAny_bind (wpAny_standAt (wpAny_pure ?_)))));unfold evalAll;refine wpAny_bind (wpAny_holding (wpAny_pure (wpAny_pure ?_)));exact aQ6 hc (I1.tok _) hq q
end
end L2
set_option maxRecDepth 100000
namespace R
open PySem L2 PyProof.Rows
structure BdN (k:Nat) (q:Rat):Prop where
 n:q.num.natAbs<2 ^ k
 d:q.den<2 ^ k
theorem BdN.mono {m n:Nat} {q:Rat} (h:BdN m q) (l:m<=n):BdN n q:=⟨q0b h.n (c5 l),q0b h.d (c5 l)⟩
theorem Sm.bdN {q:Rat} (s:Sm q):BdN 40 q:=⟨q0e s.n (by decide),q0e s.d (by decide)⟩
structure SmW (q:Rat):Prop where
 n:q.num.natAbs<2 ^ 42
 d:q.den<2 ^ 40
section
variable {α β:Type}
def E7 [Add α]:List α->Nat->α->List α
 | [],_,_=>[]
 | y :: r,0,x=>(y+x) :: r
 | y :: r,k+1,x=>y :: E7 r k x
theorem ag6 [Add α]:∀ (f:List α) (k:Nat) (x:α),(E7 f k x).length=f.length
 | [],_,_=>rfl
 | _ :: _,0,_=>rfl
 | _ :: r,k+1,x=>by simp [E7,ag6 r k x]
theorem Y4 [Add α]:∀ (f:List α) (k:Nat) (x y:α),f[k]? = some y->f.set k (y+x)=E7 f k x
 | [],_,_,_,h=>by simp at h
 | z :: r,0,x,y,h=>by cases h;rfl
 | z :: r,k+1,x,y,h=>by
  rw [v0c,E7,Y4 r k x y (by simpa using h)]
theorem P4 [Add α]:∀ (f:List α) (k i:Nat) (x:α),i ≠ k->(E7 f k x)[i]? = f[i]?
 | [],_,_,_,_=>rfl
 | _ :: _,0,0,_,h=>absurd rfl h
 | _ :: _,0,i+1,_,_=>rfl
 | _ :: _,k+1,0,_,_=>rfl
 | _ :: r,k+1,i+1,x,h=>by
  simp only [E7,y0y];exact P4 r k i x ⋯
theorem T2 [Add α]:∀ (f:List α) (k:Nat) (x y:α),f[k]? = some y->(E7 f k x)[k]? = some (y+x)
 | [],_,_,_,h=>by simp at h
 | z :: r,0,x,y,h=>by cases h;rfl
 | z :: r,k+1,x,y,h=>by simp only [E7,y0y];exact T2 r k x y (by simpa using h)
theorem au1 [Add α] [Add β] (φ:α->β) (hφ:∀ a b,φ (a+b)=φ a+φ b):∀ (f:List α) (k:Nat) (x:α),(E7 f k x).map φ=E7 (f.map φ) k (φ x)
 | [],_,_=>rfl
 | y :: r,0,x=>by simp [E7,hφ]
 | y :: r,k+1,x=>by simp [E7,au1 φ hφ r k x]
def p8 [Add α] [Mul α] (z:α) (f:List α) (i:Nat) (x:α) (q:List α):Nat->List α
 | 0=>f
 | j+1=>E7 (p8 z f i x q j) (i+j) (x*(q[j]?).getD z)
def v4 [Add α] [Mul α] (z:α) (f p q:List α):Nat->List α
 | 0=>f
 | i+1=>p8 z (v4 z f p q i) i ((p[i]?).getD z) q q.length
theorem Q7 [Add α] [Mul α] (z:α) (f:List α) (i:Nat) (x:α) (q:List α):∀ j,(p8 z f i x q j).length=f.length
 | 0=>rfl
 | j+1=>by rw [p8,ag6,Q7 z f i x q j]
theorem af6 [Add α] [Mul α] (z:α) (f p q:List α):∀ n,(v4 z f p q n).length=f.length
 | 0=>rfl
 | n+1=>by rw [v4,Q7,af6 z f p q n]
end
def J8 (p q:List Rat):List Rat:=if p=[] \/ q=[] then [] else v4 0 (q0z (p.length+q.length-1) 0) p q p.length
def aE0 (p q:List Int):List Int:=if p=[] \/ q=[] then [] else v4 0 (q0z (p.length+q.length-1) 0) p q p.length
def scl (s:Rat) (ws:List Int):List Rat:=ws.map λw:Int=>s*(w:Rat)
theorem B7 (s:Rat) (ws:List Int):(scl s ws).length=ws.length:=by simp [scl]
theorem aB8 (s:Rat) (ws:List Int) (i:Nat):((scl s ws)[i]?).getD 0=s*(((ws[i]?).getD 0:Int):Rat):=by
 unfold scl;rw [q0q]
 cases ws[i]? with
 | none=>show (0:Rat)=s*((0:Int):Rat);rw [q0k];grind
 | some w=>rfl
theorem aO2 (s:Rat) (f:List Int) (k:Nat) (x:Int):scl s (E7 f k x)=E7 (scl s f) k (s*(x:Rat)) :=
 au1 (λw:Int=>s*(w:Rat)) (λa b=>by rw [m0f];grind) f k x
theorem ar7 (s t:Rat) (f:List Int) (i:Nat) (x:Int) (q:List Int):∀ j,scl (s*t) (p8 0 f i x q j)=p8 0 (scl (s*t) f) i (s*(x:Rat)) (scl t q) j
 | 0=>rfl
 | j+1=>by
  rw [p8,p8,aO2,ar7 s t f i x q j,aB8,q0n]
  congr 1;grind
theorem ar6 (s t:Rat) (f p q:List Int):∀ n,scl (s*t) (v4 0 f p q n)=v4 0 (scl (s*t) f) (scl s p) (scl t q) n
 | 0=>rfl
 | n+1=>by rw [v4,v4,ar7,ar6 s t f p q n,aB8,B7]
theorem ba7 (s t:Rat) (p q:List Int):scl (s*t) (aE0 p q)=J8 (scl s p) (scl t q):=by
 unfold aE0 J8;have e1:(scl s p=[] \/ scl t q=[]) ↔ (p=[] \/ q=[]):=by simp [scl]
 by_cases h:p=[] \/ q=[]
 ·rw [if_pos h,if_pos (e1.mpr h)];rfl
 ·rw [if_neg h,if_neg (λz=>h (e1.mp z)),ar6,B7,B7]
  congr 1
  unfold scl;rw [List.map_replicate]
  congr 1
  rw [q0k];grind
theorem aV6 {p q:List Rat} (hp:p ≠ []) (hq:q ≠ []):(J8 p q).length=p.length+q.length-1:=by
 unfold J8;rw [if_neg (by simp [hp,hq]),af6,u0p]
def k6 (qs:List Rat):Nat:=qs.foldl (λb q=>u0s b q.den) 1
theorem aP3 (qs:List Rat) (q:Rat):k6 (qs ++ [q])=u0s (k6 qs) q.den:=by simp [k6]
theorem ai6:∀ (qs:List Rat) (b m:Nat),b ∣ m->(∀ q ∈ qs,q.den ∣ m)->qs.foldl (λb q=>u0s b q.den) b ∣ m
 | [],_,_,h,_=>h
 | q :: qs,b,m,h,k=>ai6 qs _ m (Nat.lcm_dvd h (k q q0h)) λr hr=>k r (q0f _ hr)
theorem an7 {qs:List Rat} {m:Nat} (h:∀ q ∈ qs,q.den ∣ m):k6 qs ∣ m:=ai6 qs 1 m (Nat.one_dvd _) h
theorem ad6:∀ (qs:List Rat) (b:Nat),b ∣ qs.foldl (λb q=>u0s b q.den) b
 | [],_=>m0x _
 | q :: qs,b=>g0j (Nat.dvd_lcm_left _ _) (ad6 qs _)
theorem ai5:∀ (qs:List Rat) (b:Nat) (q:Rat),q ∈ qs->q.den ∣ qs.foldl (λb q=>u0s b q.den) b
 | r :: qs,b,q,h=>by
  rcases z0t.mp h with e | e
  ·subst e;exact g0j (Nat.dvd_lcm_right _ _) (ad6 qs _)
  ·exact ai5 qs _ q e
theorem L7 {qs:List Rat} {q:Rat} (h:q ∈ qs):q.den ∣ k6 qs:=ai5 qs 1 q h
def i6 (ws:List Int):Nat:=ws.foldl (λc w=>q0w w c) 0
theorem aP7 (ws:List Int) (w:Int):i6 (ws ++ [w])=q0w w (i6 ws):=by simp [i6]
theorem ai8:∀ (ws:List Int) (c:Nat),(ws.foldl (λc w=>q0w w c) c ∣ c)/\∀ w ∈ ws,((ws.foldl (λc w=>q0w w c) c:Nat):Int) ∣ w
 | [],c=>⟨m0x _,by simp⟩
 | w :: ws,c=>by
  obtain ⟨h1,h2⟩:=ai8 ws (q0w w c);have a1:q0w w c ∣ c:=by have:=j0h w (c:Int);exact z0w.mp this
  refine ⟨g0j h1 a1,λv hv=>?_⟩;rcases z0t.mp hv with e | e
  ·subst e
   exact y0d (z0w.mpr h1) (j0m v (c:Int))
  ·exact h2 v e
theorem r9 {ws:List Int} {w:Int} (h:w ∈ ws):((i6 ws:Nat):Int) ∣ w:=(ai8 ws 0).2 w h
theorem ai7:∀ (ws:List Int),ws.foldl (λc w=>q0w w c) 1=1
 | []=>rfl
 | w :: ws=>by
  rw [u0w];have:q0w w ((1:Nat):Int)=1:=by simp
  rw [this,ai7 ws]
theorem aW9 {ws:List Int} (i:Nat) (h:i6 (ws.take i)=1):i6 ws=1:=by
 have e:ws=ws.take i ++ ws.drop i:=(m0p i ws).symm;rw [e];unfold i6 at h ⊢;rw [List.foldl_append,h,ai7]
def j0 (B:Nat) (qs:List Rat):List Int:=qs.map λq=>q.num*(B:Int).fdiv (q.den:Int)
theorem aR7 {B:Nat} {q:Rat} (hB:0<B) (h:q.den ∣ B):q=z0a (q.num*(B:Int).fdiv (q.den:Int)) B:=by
 obtain ⟨e,he⟩:=h;have hd:(q.den:Int) ≠ 0:=by have:=q.den_nz;omega
 have e1:(B:Int).fdiv (q.den:Int)=(e:Int):=by
  rw [he,z0s];exact j8 hd
 rw [e1]
 conv=>lhs;rw [<- z0h q]
 rw [z0n hd ⋯,he,z0s]
 grind
end R
namespace L2
open PySem PySem.Spec PyProof.Rows
section
variable {K:q0a} {a b D:Addr} {xs ys:List V} {g:TG} {te:TE} {σ0:St} {H0:Hp} {Q:VK}
theorem bl3 (xs ys:List V) (Pv:Nat->St->Hp->Prop) (h0:Pv 0 σ0 H0) (hl:∀ i σ H,Pv i σ H->SqL K H a xs/\SqL K H b ys)
  (hs:∀ i x y σ H p,xs[i]? = some x->ys[i]? = some y->Pv i σ H->H p=none->g (.ref p) σ (upd H p (.tup [x,y])) λσ4 H4=>te σ4 H4 λv H5=>D4 D (min xs.length ys.length) Pv i σ4 v H5)
  (hd:∀ σ H,Pv (min xs.length ys.length) σ H->Q (.ref D) H):ae3 (Itz K a b) D σ0 H0 g te Q:=by
 refine ⟨λi m σ H=>m=min xs.length ys.length-i/\i<=min xs.length ys.length/\Pv i σ H,⟨_,rfl,z0m _,h0⟩,?_⟩;rintro i m σ H ⟨rfl,hi,p⟩;obtain ⟨q,q'⟩:=hl i σ H p
 by_cases hlt:i<min xs.length ys.length
 ·have h1:i<xs.length:=⋯
  have h2:i<ys.length:=⋯;refine .inr ⟨⟨xs,ys,xs[i],ys[i],q,q',q0c h1,q0c h2⟩,?_⟩;intro v H3 hy;obtain ⟨x,y,r,e1,e2,hr,rfl,rfl⟩:=hy xs ys q q';exact hs i x y σ _ r e1 e2 p hr
 ·have e:i=min xs.length ys.length:=⋯
  subst e;exact .inl ⟨⟨xs,ys,q,q',⋯⟩,hd σ H p⟩
theorem bd4 (xs:List V) (Pv:Nat->St->Hp->Prop) (h0:Pv 0 σ0 H0) (hl:∀ i σ H,Pv i σ H->SqL K H a xs)
  (hs:∀ i x σ H p,xs[i]? = some x->Pv i σ H->H p=none->g (.ref p) σ (upd H p (.tup [.int i,x])) λσ4 H4=>te σ4 H4 λv H5=>D4 D xs.length Pv i σ4 v H5)
  (hd:∀ σ H,Pv xs.length σ H->Q (.ref D) H):ae3 (Ite K a) D σ0 H0 g te Q:=by
 refine ⟨λi m σ H=>m=xs.length-i/\i<=xs.length/\Pv i σ H,⟨_,rfl,z0m _,h0⟩,?_⟩;rintro i m σ H ⟨rfl,hi,p⟩;have q:=hl i σ H p
 by_cases hlt:i<xs.length
 ·refine .inr ⟨⟨xs,xs[i],q,q0c hlt⟩,?_⟩
  intro x H3 hy;obtain ⟨y,r,hy1,hr,rfl,rfl⟩:=hy xs q;exact hs i y σ _ r hy1 p hr
 ·have e:i=xs.length:=⋯
  subst e;exact .inl ⟨⟨xs,q,q0t _⟩,hd σ H p⟩
theorem V2 {tb:TS} {E:V9} {σ:St} {H:Hp} (xs:List V) (Pv:Nat->St->Hp->Prop) (h0:Pv 0 σ H) (hl:∀ i σ H,Pv i σ H->SqL K H a xs)
  (hs:∀ i x σ H p,xs[i]? = some x->Pv i σ H->H p=none->g (.ref p) σ (upd H p (.tup [.int i,x])) λσ2 H2=>tb { E with nx:=Pv (i+1),ct:=Pv (i+1),bk:=E.nx } σ2 H2) (hd:∀ σ H,Pv xs.length σ H->E.nx σ H) :
  ∃ W:Nat->Nat->St->Hp->Prop,(∃ m,W 0 m σ H)/\∀ i m σ H,W i m σ H ->
   ((Ite K a).stop i H/\E.nx σ H) \/ ((Ite K a).go i H/\∃ N:St->Hp->Prop,(∀ σ' H',N σ' H'->∃ m',m'<m/\W (i+1) m' σ' H')/\∀ x H',(Ite K a).yld i H x H'->g x σ H' λσ2 H2=>tb { E with nx:=N,ct:=N,bk:=E.nx } σ2 H2):=by
 refine ⟨λi m σ H=>m=xs.length-i/\i<=xs.length/\Pv i σ H,⟨_,rfl,z0m _,h0⟩,?_⟩;rintro i m σ H ⟨rfl,hi,p⟩;have q:=hl i σ H p
 by_cases hlt:i<xs.length
 ·refine .inr ⟨⟨xs,xs[i],q,q0c hlt⟩,Pv (i+1),λσ' H' n=>⟨_,⋯,rfl,hlt,n⟩,?_⟩
  intro x H3 hy;obtain ⟨y,r,hy1,hr,rfl,rfl⟩:=hy xs q;exact hs i y σ _ r hy1 p hr
 ·have e:i=xs.length:=⋯
  subst e;exact .inl ⟨⟨xs,q,q0t _⟩,hd σ H p⟩
end
section
variable {X:Cx}
theorem aF2:bo9 X (aq2 X.K):=by
 intro pins s σ H x y v u Q I rx ry h;obtain ⟨p,xs,i,z,rfl,rfl,hq,he,q⟩:=h
 cases rx
 obtain ⟨t,rfl⟩:=ry;obtain ⟨its,r,pl,hz⟩:=I.list hq;obtain ⟨j,h1,h2,h3,h4,h5⟩:=aA1 he;obtain ⟨w,ew,rw'⟩:=r.get h2;have hl:=r.length;have hn:=ag0;have fin:EP X pins σ Q w s:=⟨z,H,I,rw',q⟩
 by_cases h0:0<=i
 ·have hj:i.toNat=j:=by
   rw [seqIndex_of h0 h5] at h1;exact Option.some.inj h1
  exact wpAny_getItem_list pl.isList h0 ⋯ (by rw [hj];simpa using ew) fin
 ·have hj:(i+(its.toArray.size:Int)).toNat=j:=by
   rw [seqIndex_neg ⋯ h4] at h1;rw [q0p,<- hl];exact Option.some.inj h1
  exact wpAny_getItem_list_neg pl.isList ⋯ (by rw [q0p] <;> omega) ⋯ (by rw [hj];simpa using ew) fin
end
end L2
set_option maxRecDepth 100000
namespace R
open PySem L2 PyProof.Rows
def j7 (f:Nat->Rat):Nat->Rat
 | 0=>0
 | n+1=>j7 f n+f n
theorem N7 (f:Nat->Rat):∀ n,j7 f (n+1)=f 0+j7 (λi=>f (i+1)) n
 | 0=>by simp only [j7];grind
 | n+1=>by
  rw [j7,N7 f n,j7];grind
theorem j6 {f g:Nat->Rat}:∀ {n},(∀ i,i<n->f i=g i)->j7 f n=j7 g n
 | 0,_=>rfl
 | n+1,h=>by rw [j7,j7,j6 λi hi=>h i ⋯,h n ⋯]
theorem Z0:∀ (n:Nat) (f:Nat->Rat),j7 f n=j7 (λi=>f (n-1-i)) n
 | 0,_=>rfl
 | n+1,f=>by
  rw [N7 (λi=>f (n+1-1-i)) n,j7,Z0 n f];have:j7 (λi=>f (n-1-i)) n=j7 (λi=>f (n+1-1-(i+1))) n:=j6 λi hi=>by congr 1;omega
  rw [this]
  show _=f (n+1-1-0)+_;rw [show n+1-1-0=n by omega]
  grind
theorem M5 {f:Nat->Rat} {m:Nat}:∀ {n},m<=n->(∀ i,m<=i->i<n->f i=0)->j7 f n=j7 f m
 | 0,h,_=>by rw [show m=0 by omega]
 | n+1,h,z=>by
  by_cases e:m=n+1
  ·rw [e]
  ·rw [j7,z n ⋯ ⋯,M5 (n:=n) ⋯ λi a b=>z i a ⋯]
   grind
theorem as4 (f:List Rat) (i:Nat) (x:Rat) (q:List Rat) {k:Nat} (y:Rat) (hy:f[k]? = some y):∀ j,(p8 0 f i x q j)[k]? = some (y+if i<=k/\k<i+j then x*(q[k-i]?).getD 0 else 0)
 | 0=>by
  rw [p8,hy,if_neg ⋯];congr 1;grind
 | j+1=>by
  have ih:=as4 f i x q y hy j;rw [p8]
  by_cases e:k=i+j
  ·subst e
   rw [T2 _ _ _ _ ih,if_neg ⋯,if_pos ⋯,show i+j-i=j by omega]
   congr 1;grind
  ·rw [P4 _ _ _ _ e,ih]
   by_cases h:i<=k/\k<i+j
   ·rw [if_pos h,if_pos ⋯]
   ·rw [if_neg h,if_neg ⋯]
def au3 (p q:List Rat) (k i:Nat):Rat:=if i<=k then (p[i]?).getD 0*(q[k-i]?).getD 0 else 0
theorem as1 (f p q:List Rat) {k:Nat} (hy:f[k]? = some 0):∀ n,(v4 0 f p q n)[k]? = some (j7 (au3 p q k) n)
 | 0=>hy
 | n+1=>by
  rw [v4,as4 _ _ _ _ _ (as1 f p q hy n),j7]
  congr 2
  unfold au3
  by_cases h:n<=k
  ·rw [if_pos h]
   by_cases h2:k<n+q.length
   ·rw [if_pos ⟨h,h2⟩]
   ·rw [if_neg ⋯,q0d (l:=q) ⋯]
    show (0:Rat)=_*0
    grind
  ·rw [if_neg h,if_neg ⋯]
theorem aV7 {p q:List Rat} (hp:p ≠ []) (hq:q ≠ []) {k:Nat} (hk:k<p.length+q.length-1):(J8 p q)[k]? = some (j7 (λi=>(p[i]?).getD 0*(q[k-i]?).getD 0) (k+1)):=by
 unfold J8;rw [if_neg (by simp [hp,hq]),as1 _ _ _ (by rw [g0x,if_pos hk])]
 congr 1
 have h1:j7 (au3 p q k) (max p.length (k+1))=j7 (au3 p q k) p.length:=M5 ⋯ λi a _=>by
  unfold au3;rw [q0d a]
  split
  ·show (0:Rat)*_=0;grind
  ·rfl
 have h2:j7 (au3 p q k) (max p.length (k+1))=j7 (au3 p q k) (k+1):=M5 ⋯ λi a _=>by
  unfold au3;rw [if_neg ⋯]
 rw [<- h1,h2];exact j6 λi hi=>by unfold au3;rw [if_pos ⋯]
end R
namespace L2
theorem d8 {t R:TS} {D:V9} {σ:St} {H:Hp} (P:St->Hp->Prop) (first:∀ N:St->Hp->Prop,(∀ σ H,P σ H->N σ H)->t { D with nx:=N } σ H) (aj4:∀ σ H,P σ H->R D σ H):au4 t R D σ H:=first _ aj4
end L2
set_option maxRecDepth 100000
namespace R
section
variable {α:Type} [Lean.Grind.CommRing α]
def syn (c:α):List α->List α
 | []=>[]
 | a :: p=>match syn c p with
  | []=>[a]
  | h :: t=>(a+c*h) :: h :: t
def pass (c:α) (k:Nat) (l:List α):List α:=l.take k ++ syn c (l.drop k)
end
open PySem L2 PyProof.Rows
structure Bd6 (q:Rat):Prop where
 n:q.num.natAbs<2 ^ 6000
 d:q.den<2 ^ 6000
theorem ai4:∀ (qs:List Rat) (b:Nat),0<b->0<qs.foldl (λb q=>u0s b q.den) b
 | [],b,h=>h
 | q :: qs,b,h=>ai4 qs _ (Nat.lcm_pos h (by have:=q.den_nz;omega))
theorem N2 (qs:List Rat):0<k6 qs:=ai4 qs 1 (by decide)
theorem az7 (qs:List Rat):q0w (i6 (j0 (k6 qs) qs):Int) (k6 qs:Int)=1:=by
 have hB:=N2 qs
 have key:∀ c:Nat,c ∣ i6 (j0 (k6 qs) qs)->c ∣ k6 qs->c=1:=by
  intro c h1 h2;have hc:0<c:=Nat.pos_of_dvd_of_pos h2 hB
  have h3:k6 qs ∣ k6 qs / c:=by
   refine an7 λq hq=>?_;obtain ⟨e,he⟩:=L7 hq;have hd:(q.den:Int) ≠ 0:=by have:=q.den_nz;omega
   have e1:(k6 qs:Int).fdiv (q.den:Int)=(e:Int):=by
    rw [he,z0s];exact j8 hd
   have m1:(c:Int) ∣ q.num*(e:Int):=by
    have:=y0d (z0w.mpr h1) (r9 (z0y.mpr ⟨q,hq,rfl⟩));rw [e1] at this;exact this
   have m2:c ∣ q.num.natAbs*e:=by
    have:=z0v.mpr m1;rw [q0x] at this
    simpa using this
   have m3:c ∣ q.den*e:=by rw [<- he];exact h2
   have m4:c ∣ e:=by
    have:=Nat.dvd_gcd m2 m3;rw [Nat.gcd_mul_right] at this;have hg:Nat.gcd q.num.natAbs q.den=1:=q.reduced;rw [hg,v0s] at this;exact this
   obtain ⟨f,hf⟩:=m4;rw [he,hf];refine ⟨f,?_⟩;rw [show q.den*(c*f)=c*(q.den*f) by grind,Nat.mul_div_cancel_left _ hc]
  have h4:=y0p (Nat.div_pos (y0p hB h2) hc) h3;have h5:=Nat.div_mul_cancel h2
  by_cases hc1:c=1
  ·exact hc1
  ·have:k6 qs / c*2<=k6 qs / c*c:=z0j _ ⋯
   omega
 have z:=key (q0w (i6 (j0 (k6 qs) qs):Int) (k6 qs:Int));refine z ?_ ?_
 ·exact z0w.mp (j0m _ _)
 ·exact z0w.mp (j0h _ _)
def ah8 (ws:List Int):Int:=ws.foldl (λp v=>if v=0 then p else p*v) 1
theorem am4 (ws:List Int) (v:Int):ah8 (ws ++ [v])=if v=0 then ah8 ws else ah8 ws*v:=by simp [ah8]
theorem R9:∀ (ws:List Int) (p:Int),p ∣ ws.foldl (λp v=>if v=0 then p else p*v) p
 | [],p=>Int.dvd_refl _
 | v :: ws,p=>by
  simp only [u0w]
  by_cases h:v=0
  ·rw [if_pos h];exact R9 ws p
  ·rw [if_neg h];exact y0d ⟨v,rfl⟩ (R9 ws _)
theorem ad5:∀ (ws:List Int) (p v:Int),v ∈ ws->v ≠ 0->v ∣ ws.foldl (λp v=>if v=0 then p else p*v) p
 | [],p,v,h,_=>by cases h
 | u :: ws,p,v,h,hv=>by
  simp only [u0w];rcases z0t.mp h with e | e
  ·subst e
   rw [if_neg hv];exact y0d ⟨p,z0k _ _⟩ (R9 ws _)
  ·exact ad5 ws _ v e hv
theorem aO4 {ws:List Int} {v:Int} (h:v ∈ ws) (hv:v ≠ 0):v ∣ ah8 ws:=ad5 ws 1 v h hv
theorem aW7 {b p v:Int} (h:v ∣ p):q0w (q0w b p:Nat) v=q0w b v:=by
 refine Nat.dvd_antisymm ?_ ?_
 ·refine g0e ?_ ?_
  ·exact y0d (j0m _ _) (j0m _ _)
  ·exact j0h _ _
 ·refine g0e ?_ (j0h _ _)
  exact z0w.mpr (g0e (j0m _ _) (y0d (j0h _ _) h))
end R
set_option maxRecDepth 100000
namespace L2
open PySem PySem.Spec PyProof.Rows
theorem aP0 {h:Heap} {a:Addr} {m:Str->Option Value} {o:Obj} (n:h.Ns a m) (e:h.get? a=some o) (v:Option Value) (z:o.data=.cell v):False:=by
 obtain ⟨o',es,ep,e',r⟩:=n;rw [e] at e'
 cases e'
 have d:=r.1;rw [d] at z;cases z
section
variable {X:Cx}
theorem am3 {elt tg iter:Expr} {scope:Scope} {pos spos py:Pos} {y:Str} {i₀:Nat} {cl:List (Str × Addr)} {Nc:List Str} {caps:List (Option Nat)} {wi:TI} {g:TG} {te:TE} (hN:X.N.Nodup) (hi₀:X.N[i₀]? = some y) (hx:Loc X.env.scope y) (hc:X.calm=true) (cp:T9 X scope cl Nc caps) (hi:PI X tg iter wi)
  (hg:∀ C s₂ H₂ fp pins,PG (X.block scope cl C Nc s₂ H₂ fp pins) tg g) (he:∀ C s₂ H₂ fp pins,PE (X.block scope cl C Nc s₂ H₂ fp pins) elt te) (hs:∀ x,foldedSetIterable iter X.env x=pure x:=by intro _;rfl) (hsw:swapsWith (.ListComp elt [⟨tg,iter,[],0⟩] scope pos) (some (.Name y py)) spos.line X.env=pure true:=by rfl)
  (hf:X.fn y=true \/ X.env.scope.names.lookup y=some .local:=by first | exact .inl rfl | exact .inr rfl | assumption) :
  PS X (.Assign [.Name y py] (.ListComp elt [⟨tg,iter,[],0⟩] scope pos) spos) (ap5 (aS6 wi caps g te) (m9 i₀)):=by
 intro pins s σ H DD I h;rw [exec_Assign_Name_used _ _ _ _ hsw];refine wpAny_bind (wpAny_standAt (wpAny_bind ?_))
 show wpAny _ X.A (do let _ <- comprehension (.ListComp elt [⟨tg,iter,[],0⟩] scope pos) scope X.env _ (newList []) false (eval iter X.env) (some (assign (.Name y py) X.env))) _ _ s
 refine wpAny_bind (wpAny_mono (wpAny_comprehension_free (use:=some (assign (.Name y py) X.env)) (Q:=λ_ s'=>SP X pins DD .next s') rfl hs cp.clos cp.kind cp.names ?_) (λ_ s' hq=>wpAny_pure (wpAny_pure hq)) λ_ _ e=>e);refine thn (hi pins s σ H _ I h) λv s1 h1=>thn h1 λitv s2 h2=>?_;obtain ⟨it,fp,tn,J,H2,e,I2,T,st2,f2,hW⟩:=h2;subst e;refine wpAny_newObj_type ?_ (by show 0<=sizeLine;exact z0m _)
 refine wpAny_newFunctionEnv cp.nocell (by intro y hy;simp at hy) (λh4 hns hsb=>?_) cp.kind
 dsimp only at hns hsb ⊢
 generalize hH3:s2.heap.push { cls:=.type "list",dict:=none,data:=.seq ([]:List Value).toArray }=H3 at hns hsb ⊢
 have hCe:H3.objs.size=s2.heap.objs.size+1:=by rw [<- hH3,u0e]
 have ae1:∀ b o,s2.heap.get? b=some o->b ≠ H3.objs.size:=λb o e=>by rw [hCe];exact z0g (g0m (q0g e))
 have old:∀ b o,s2.heap.get? b=some o->h4.get? b=some o:=λb o e=>hsb.extBut b o (ae1 b o e) (q0u _ (hH3 ▸ q0u _ e))
 have hD:h4.get? s2.heap.objs.size=some { cls:=.type "list",dict:=none,data:=.seq ([]:List Value).toArray } :=
  hsb.extBut _ _ (by rw [hCe];exact z0g (v0m _)) (q0u _ (hH3 ▸ z0x _ rfl))
 have hDn:H2 s2.heap.objs.size=none:=I2.fresh;have hCn:H2 H3.objs.size=none:=I2.hok.fresh (by rw [hCe];exact v0r _)
 have hCs:s2.heap.objs.size<=H3.objs.size:=by rw [hCe];exact v0r _
 have hDC:s2.heap.objs.size ≠ H3.objs.size:=by rw [hCe];exact z0g (v0m _)
 have fpl:∀ b ∈ fp,∃ o,s2.heap.get? b=some o:=λb hb=>let ⟨o,e,_⟩:=T.obj _ _ st2 b hb;⟨o,e⟩;have fpC:∀ b ∈ fp,b ≠ H3.objs.size:=λb hb=>let ⟨o,e⟩:=fpl b hb;ae1 b o e;have fpD:∀ b ∈ fp,b ≠ s2.heap.objs.size:=λb hb=>let ⟨o,e⟩:=fpl b hb;z0g (q0g e);have stkN:∀ b,b ≠ X.env.locals->b ∉ X.fs->b ∉ frs X.stack:=λb h1 h2 z=>(z0t.mp (I2.stkSub b z)).elim h1 h2;obtain ⟨W,⟨m0,w0⟩,turn⟩:=hW s2.heap.objs.size hDn
 have okB:(X.block scope cl H3.objs.size Nc s2 H2 fp pins).Ok:=by
  refine ⟨I2.ok.mod,?_,I2.ok.glob,I2.ok.blt,hCs,λx y c h1 h2=>I2.ok.inj x y c (cp.sub x c h1) (cp.sub y c h2),λx hx=>cp.has x hx,λx c h=>(by cases h),I2.ok.hd,I2.ok.frames,.inl rfl,λb hb=>⟨fpC b hb,λx c h=>(f2 b hb).2.2.2.2.1 x c (cp.sub x c h)⟩,I2.bs,z0f I2.ok.bsz I2.sz,λb o e hb=>?_,λb hb=>stkN b (f2 b hb).2.1 (f2 b hb).2.2.1,I2.stack,I2.stkFree⟩
  ·exact cp.kind
  ·rcases (f2 b hb).2.2.2.1 with z | z
   ·exact I2.ok.noex b o e z
   ·exact absurd (q0b (q0g e) (z0f I2.ok.bsz z)) (j0w _)
 have hokB:HOk X.prog X.w (upd H2 s2.heap.objs.size (.lst [])) h4:=I2.hok.laid old (q0t _) ⟨z0m _,[],_,.nil,hD⟩
 have IB:Inv (X.block scope cl H3.objs.size Nc s2 H2 fp pins) [] (G0 caps σ) (upd H2 s2.heap.objs.size (.lst [])) { s2 with heap:=h4,toks:=s2.toks+([]:List (Str × Value)).length }:=by
  refine ⟨okB,rfl,I2.bare,Un.laid old (q0t _) hDn,⟨_,hns,λi x v e1 e2 e3=>?_⟩,λx c e=>?_,(show upd H2 s2.heap.objs.size (.lst []) H3.objs.size=none by rw [i7 (Ne.symm hDC)];exact hCn),λx c e=>?_,λp hp=>?_,hokB,?_⟩
  ·unfold G0 at e2
   rw [q0q] at e2
   cases hcap:caps[i]? with
   | none=>rw [hcap] at e2;cases e2
   | some o =>
    rw [hcap] at e2
    cases o with
    | none=>cases e2
    | some j =>
     have hj:σ[j]? = some (some v):=by
      have e2':(σ[j]?).join=some v:=Option.some.inj e2
      cases q:σ[j]? with
      | none=>rw [q] at e2';cases e2'
      | some z=>rw [q] at e2';exact congrArg some e2'
     obtain ⟨n1,n2,n3,n4⟩:=cp.cap i j x hcap e1;obtain ⟨m,hm,hl⟩:=I2.loc;obtain ⟨u,r,q⟩:=hl j x v n1 hj n2;rcases q with ⟨k,_⟩ | ⟨k,c,ec,z⟩
     ·exact absurd k n3
     ·obtain ⟨c',ec'⟩:=cp.has x n4
      have:=cp.sub x c' ec';rw [ec] at this;cases this;obtain ⟨oc,ho,hd⟩:=z;exact ⟨u,r,.inr ⟨n4,c,ec',oc,old _ _ ho,hd⟩⟩
  ·obtain ⟨v,oc,ho,hd⟩:=I2.cell x c (cp.sub x c e)
   exact ⟨v,oc,old _ _ ho,hd⟩
  ·obtain ⟨v,oc,ho,hd⟩:=I2.cell x c (cp.sub x c e)
   rw [i7 (z0g (q0g ho))];exact I2.freeC x c (cp.sub x c e)
  ·have hp':p ∈ X.pn ++ pins:=by simpa using hp
   obtain ⟨e1,e2,e3,e4,e5⟩:=I2.pin p hp';exact ⟨old _ _ e1,by rw [i7 (z0g (q0g e1))];exact e2,ae1 _ _ e1,stkN _ e3 e4,e5⟩
  ·show (G0 caps σ).length=Nc.length
   unfold G0;rw [q0m];exact cp.len
 have stat:∀ {H':Hp},(∀ b ∈ fp,H' b=none)->∀ b ∈ fp,ak3 (X.block scope cl H3.objs.size Nc s2 H2 fp pins) [] H' b:=λhn b hb =>
  ⟨hn b hb,fpC b hb,stkN b (f2 b hb).2.1 (f2 b hb).2.2.1,.inl hb,λx c h=>(f2 b hb).2.2.2.2.1 x c (cp.sub x c h),λp hp=>(f2 b hb).2.2.2.2.2 p (by simpa using hp)⟩
 have loop:∀ s5:Shared,s5={ s2 with heap:=h4,toks:=s2.toks+([]:List (Str × Value)).length } ->
   codeAny (model X.prog X.w) X.A (.compLoop (.ListComp elt [⟨tg,iter,[],0⟩] scope pos) 0 (.ref it) (.ref s2.heap.objs.size) (compEnvC scope cl H3.objs.size X.env))
    (compPost (model X.prog X.w) X.A X.xe (some (assign (.Name y py) X.env)) (λ_ s'=>SP X pins DD .next s') (.ref s2.heap.objs.size) H3.objs.size) s5:=by
  rintro s5 rfl;refine at2 (λn s' => ∃ i σ' H',Inv (X.block scope cl H3.objs.size Nc s2 H2 fp pins) [] σ' H' s'/\tn i s'.heap/\(∀ b ∈ fp,H' b=none)/\W i n σ' H') ?_ m0 ⟨0,_,_,IB,T.keep _ _ _ st2 λb hb o e=>old b o e,λb hb=>by rw [i7 (fpD b hb)];exact (f2 b hb).1,w0⟩
  rintro n s6 ⟨i,σ6,H6,I6,st6,fr6,w6⟩;rcases turn i n σ6 H6 w6 with ⟨stop,qn⟩ | ⟨go,step⟩
  ·refine thn (T.done (X.block scope cl H3.objs.size Nc s2 H2 fp pins) rfl rfl rfl hc i [] s6 σ6 H6 _ I6 (stat fr6) st6 stop) λr s7 zq=>?_
   obtain ⟨hr,I7⟩:=zq;subst hr;obtain ⟨m7,hn7,_⟩:=id I7.loc;have Io:Inv X pins σ H6 s7:=I2.sameC (h'':=s7.heap) f2 I7.os I7.bare I7.base I7.hok hCs I7.free ⟨rfl,λ_ _=>rfl⟩;have fC:ak3 X pins H6 H3.objs.size:=I2.fpOk hCs I7.free;have fC':∀ b ∈ [H3.objs.size],ak3 X pins H6 b:=λb hb=>by rw [y0h.mp hb];exact fC
   obtain ⟨oC,esC,epC,hoC,restC⟩:=id hn7
   have obC:∀ b ∈ [H3.objs.size],∃ o,s7.heap.get? b=some o/\∀ v,o.data ≠ .cell v:=λb hb=>by
    rw [y0h.mp hb];exact ⟨oC,hoC,λv z=>aP0 hn7 hoC v z⟩
   have Ip:=Io.pinned fC' obC
   show wpAny (model X.prog X.w) X.A (assign (.Name y py) X.env (.ref s2.heap.objs.size)) _ _ s7;refine thn (i3 (pos:=py) hN hi₀ hx hf _ s7 σ H6 (.ref s2.heap.objs.size) (.ref s2.heap.objs.size) DD.nx Ip rfl qn) λ_ s9 zq=>?_;obtain ⟨σ9,H9,I9,q9⟩:=zq;have keepC:=(I9.pin (H3.objs.size,oC) (z0d _ (z0d _ (B6 (by simp) hoC)))).1
   have H9C:=(I9.pin (H3.objs.size,oC) (z0d _ (z0d _ (B6 (by simp) hoC)))).2.1
   refine ⟨m7,hn7.at' λo e=>by rw [hoC] at e;cases e;exact keepC,λh' sb=>?_⟩
   obtain ⟨_,g1,g2,g3,g4,g5⟩:=fC;exact ⟨σ9,H9,I9.unpinned.turned (t':=s9.toks) (λb o hb e=>(sb.2 b hb).trans e) H9C g1 g3 g4 g5,q9⟩
  ·refine thn (T.item (X.block scope cl H3.objs.size Nc s2 H2 fp pins) rfl rfl rfl hc i [] s6 σ6 H6 _ I6 (stat fr6) st6 go) λr s7 zq=>?_
   obtain ⟨u,hr,h7⟩:=zq;subst hr;refine thn h7 λ_ s8 zq=>?_;obtain ⟨x,H8,I8,r8,y8,st8,fr8⟩:=zq;have I8':=I8.pinned (stat fr8) (T.obj _ _ st8);refine thn (hg _ _ _ _ _ _ s8 σ6 H8 x u _ I8' r8 (step x H8 y8)) λ_ s9 zq=>?_;obtain ⟨σ9,H9,I9,q9⟩:=zq;refine thn (he _ _ _ _ _ _ s9 σ9 H9 _ I9 q9) λu10 s10 zq=>?_;obtain ⟨v10,H10,I10,r10,ys,hys,hlen,m',hm',w'⟩:=zq;refine thn (Q6 _ s10 σ9 H10 (.ref s2.heap.objs.size) [v10] (.ref s2.heap.objs.size) [u10] (λ_ H11=>H11=upd H10 s2.heap.objs.size (.lst (ys ++ [v10]))) I10 rfl (.cons r10 .nil) ⟨_,ys,v10,rfl,rfl,hys,hlen,rfl⟩) λ_ s11 zq=>?_;obtain ⟨_,H11,I11,_,hH11⟩:=zq;subst hH11;refine ⟨m',hm',i+1,σ9,_,I11.unpinned,T.keep _ _ _ st8 λb hb o e=>(I11.pin (b,o) (z0d _ (z0d _ (B6 hb e)))).1,λb hb=>?_,w'⟩;obtain ⟨o,e,d⟩:=T.obj _ _ st8 b hb;exact (I11.pin (b,o) (z0d _ (z0d _ (B6 hb e)))).2.1
 exact codeAny_compStart_list (loop _ rfl) (T.self _ 0 _ _ _ (T.keep _ _ _ st2 λb hb o e=>old b o e) (loop _ rfl))
def ipM (c:Int->Int->Prop) (f:Int->Int->Int):TIp:=λx y H Q => ∃ i j,x=.int i/\y=.int j/\c i j/\Q (.int (f i j)) H
theorem bk2:PIp X .Mult (ipM IntMulOk λi j=>i*j):=by
 intro pins s σ H x y v u Q I r1 r2 h;obtain ⟨i,j,e1,e2,hc,q⟩:=h;subst e1;subst e2;obtain ⟨t,rfl⟩:=r1;obtain ⟨t',rfl⟩:=r2;exact imul_int ⟨.int _,H,I.tok _,⟨_,rfl⟩,q⟩ hc
def aC5 (K:q0a):List V->Hp->VK->Prop:=λxs H Q => ∃ p ys,xs=[.ref p]/\(SqL K H p ys \/ SqT K H p ys)/\Q (.int ys.length) H
def smZ:List Int->Int
 | []=>0
 | a :: l=>a+smZ l
theorem al7:∀ (l m:List Int),smZ (l ++ m)=smZ l+smZ m
 | [],m=>by simp [smZ]
 | a :: l,m=>by rw [g0u,smZ,smZ,al7 l m];omega
theorem ah9 (ns:List Int):∀ k,k<=ns.length->preSum (λi=>(ns[i]?).getD 0) k=smZ (ns.take k)
 | 0,_=>by rw [List.take_zero];rfl
 | k+1,h=>by
  have hk:ns[k]? = some (ns[k]'⋯):=q0c _;rw [y0f,hk,al7,<- ah9 ns k ⋯]
  show preSum (λi=>(ns[i]?).getD 0) k+(ns[k]?).getD 0=preSum (λi=>(ns[i]?).getD 0) k+(ns[k]'⋯+0);rw [hk,Int.add_zero];rfl
def aC1 (K:q0a):List V->Hp->VK->Prop:=λxs H Q => ∃ (p:Addr) (ns:List Int),xs=[.ref p]/\SqL K H p (ns.map V.int)/\Q (.int (smZ ns)) H
theorem aZ3 (hc:X.calm=true):T7 X (.builtin "sum") (aC1 X.K):=by
 intro pins s σ H xs us Q I r h;obtain ⟨p,ns,rfl,hq,q⟩:=h;obtain ⟨u,rfl,rx⟩:=ab9 r
 cases rx
 obtain ⟨its,r',pl,hz⟩:=I.list hq;have hlen:its.length=ns.length:=by rw [<- r'.length,q0m]
 have hp:p ≠ s.heap.objs.size:=by
  obtain ⟨o,ho,_⟩:=pl.isList;exact z0g (q0g ho)
 refine call_sum_walkAnyS (wpAny_pyIter_list pl.isList ?_);refine ⟨s.heap.objs.size,_,_,_,_,_,_,λi=>(ns[i]?).getD 0,rfl,(Walks.list (A:=X.A.in1) (I.ok.hd hc) _ p hp its.toArray).toS,⟨⟨_,z0x _ rfl,rfl,rfl⟩,pl.isList.at λo e=>q0u _ e⟩,?_,?_,?_⟩
 ·intro b hb
  have hb':b=s.heap.objs.size \/ b=p:=by simpa using hb
  show b<(s.heap.push _).objs.size;rw [u0e];rcases hb' with z | z
  ·rw [z];exact v0m _
  ·obtain ⟨o,ho,_⟩:=pl.isList
   rw [z];exact g0m (q0g ho)
 ·intro i v hv
  have hv':its[i]? = some v:=by simpa using hv
  have hi:i<ns.length:=by rw [<- hlen];exact (q0s.mp hv').1
  obtain ⟨u,hu,ru⟩:=r'.get (i:=i) (x:=.int ns[i]) (by rw [q0q,q0c hi];rfl)
  rw [hv'] at hu
  cases hu
  obtain ⟨t,rfl⟩:=(show ∃ t,v=Value.int ns[i] t from ru);exact ⟨t,by show _=Value.int ((ns[i]?).getD 0) t;rw [q0c hi];rfl⟩
 ·intro s' t' mv
  have e:preSum (λi=>(ns[i]?).getD 0) its.toArray.size=smZ ns:=by
   rw [q0p,hlen,ah9 ns _ (q0t _),j0y]
  rw [e];obtain ⟨h',g',d',tk',o'⟩:=s';obtain ⟨m1,m2,m3,m4,m5⟩:=mv;have m2':g'=s.gens:=m2;have m3':d'=s.drawn:=m3;have m4':o'=s.os:=m4;subst m2' m3' m4';refine ⟨.int _,H,?_,⟨_,rfl⟩,q⟩;refine I.kept (t':=tk') (h':=h') λb o e=>m1 b o ?_ (q0u _ e);intro z;have:b=s.heap.objs.size:=by simpa using z
  exact absurd (q0g e) (by rw [this];exact j0w _)
end
structure OwnCells (h h':Heap) (names:List (Str × NameKind)) (acc cs:List (Str × Addr)):Prop where
 cell:∀ x c,cs.lookup x=some c->∃ v,h'.IsCell c v
 inj:∀ x y c,cs.lookup x=some c->cs.lookup y=some c->x=y
 old:∀ x c,cs.lookup x=some c->acc.lookup x=some c \/ h.objs.size<=c
 fresh:∀ x,(x,NameKind.cell) ∈ names->∀ c,cs.lookup x=some c->h.objs.size<=c
structure CapsC (X:Cx) (scope:Scope) (cl:List (Str × Addr)) (Nc:List Str) (caps:List (Option Nat)):Prop where
 clos:closureFor scope X.env=pure cl
 sub:∀ x c,cl.lookup x=some c->X.env.cells.lookup x=some c
 has:∀ n x,(relabel scope X.env).names.lookup x=some .cell \/ (relabel scope X.env).names.lookup x=some .free->∃ c,(cellsFrom n scope.names cl).lookup x=some c
 kind:scope.kind=.function
 names:∀ x ∈ scope.names,x.2=.local->scope.names.lookup x.1=some .local
 len:caps.length=Nc.length
 cap:∀ (i j:Nat) (x:Str),caps[i]? = some (some j)->Nc[i]? = some x->X.N[j]? = some x/\Vis X.env.scope x/\X.env.kindOf x ≠ some .local/\((relabel scope X.env).names.lookup x=some .cell \/ (relabel scope X.env).names.lookup x=some .free) /\
  (∃ c,cl.lookup x=some c)/\∀ n c,cl.lookup x=some c->(cellsFrom n scope.names cl).lookup x=some c
structure Stp (prog:Program) (w:World) (it src:Addr) (ar:Array Value) (st:Nat->Heap->Prop):Prop where
 stay:∀ {k:Nat} {h h':Heap},st k h->(∀ o,h.get? it=some o->h'.get? it=some o)->(∀ o,h.get? src=some o->h'.get? src=some o)->st k h'
 item:∀ {A:Around} {E:Value->Shared->Prop} {s:Shared} {k:Nat} {v:Value} {Q:Value->Shared->Prop},st k s.heap->ar[k]? = some v->(∀ h',st (k+1) h'->g0q it s.heap h'->Q v { s with heap:=h' })->wpAny (model prog w) A (Builtin.SmallTypes.nextOf (.ref it)) Q E s
 fin:∀ {A:Around} {E:Value->Shared->Prop} {s:Shared} {k:Nat} {Q:Value->Shared->Prop},A.handled=none->st k s.heap->ar[k]? = none->(∀ h' e,Heap.ExtBut it s.heap h'->(∃ o,h'.get? e=some o/\o.cls=.type "StopIteration")->E (.ref e) { s with heap:=h' })->wpAny (model prog w) A (Builtin.SmallTypes.nextOf (.ref it)) Q E s
open PySem PyProof.Rows
end L2
set_option maxRecDepth 100000
namespace HT
open PySem PyProof.Rows
end HT
namespace L2
open PySem PySem.Spec PyProof.Rows
end L2
set_option maxRecDepth 100000
namespace PySem
open Sem (wp)
open AutoSeq1 (wpAny_loadPart')
end PySem
namespace L2
open PySem PySem.Spec PyProof.Rows
end L2
set_option maxRecDepth 100000
namespace R
theorem D9 {f:Nat->Rat}:∀ n,(∀ i,i<n->f i=0)->j7 f n=0
 | 0,_=>rfl
 | n+1,h=>by
  rw [j7,D9 n (λi hi=>h i ⋯),h n ⋯]
  grind
open PySem L2 PyProof.Rows
structure ClN (W:Nat) (qs:List Rat):Prop where
 l:k6 qs<2 ^ W
 w:∀ v ∈ j0 (k6 qs) qs,z0p v<2 ^ W
theorem ClN.den {W:Nat} {qs:List Rat} (h:ClN W qs) {q:Rat} (hq:q ∈ qs):q.den<2 ^ W:=q0e (y0p (N2 qs) (L7 hq)) h.l
theorem ClN.num {W:Nat} {qs:List Rat} (h:ClN W qs) {q:Rat} (hq:q ∈ qs):q.num.natAbs<2 ^ W:=by
 have h1:=h.w _ (z0y.mpr ⟨q,hq,rfl⟩);obtain ⟨e,he⟩:=L7 hq;have hp:=N2 qs;have h0:(q.den:Int) ≠ 0:=by have:=q.den_nz;omega
 have e1:(k6 qs:Int).fdiv (q.den:Int)=(e:Int):=by
  rw [he,z0s];exact j8 h0
 rw [e1,q0x,q0r] at h1;refine q0e (y0z _ ?_) h1;rcases y0j e with z | z
 ·rw [z] at he;omega
 ·exact z
theorem ClN.take {W:Nat} {qs:List Rat} (h:ClN W qs) (i:Nat):k6 (qs.take i)<2 ^ W :=
 q0e (y0p (N2 qs) (an7 λq hq=>L7 (u0y hq))) h.l
theorem am9 (v:Int) (L:Nat):z0a 1 L*(v:Rat)=z0a v L:=by
 have h1:=z0h (v:Rat);rw [v0w,v0x] at h1
 conv=>lhs;rw [<- h1]
 rw [y0a]
 simp
theorem ao6 (v:Int) {L:Nat} (h:0<L):(z0a v L).den ∣ L:=by
 have hL:(L:Int) ≠ 0:=⋯;obtain ⟨_,e2⟩:=ay3 (t:=v) (b:=(L:Int)) (g:=(q0w v L:Int)) hL (by rw [if_neg ⋯])
 obtain ⟨k,hk⟩:=j0h v (L:Int);have hg:=L4 (t:=v) hL
 have e3:(L:Int).fdiv (q0w v L:Int)=k:=by
  conv=>lhs;arg 1;rw [hk]
  exact j8 ⋯
 rw [e3] at e2;have:((z0a v L).den:Int) ∣ (L:Int):=⟨_,by rw [z0k,<- e2];exact hk⟩
 exact z0w.mp this
theorem az3 (v:Int) {L:Nat} (h:0<L):(z0a v L).num*L=v*((z0a v L).den:Int):=by
 have hL:(L:Int) ≠ 0:=⋯;have hd:((z0a v L).den:Int) ≠ 0:=by have:=(z0a v L).den_nz;omega
 exact (z0n hd hL).mp (z0h _)
theorem aQ4 {L W:Nat} {vs:List Int} (hL0:0<L) (hL:L<2 ^ W) (hv:∀ v ∈ vs,z0p v<2 ^ W):ClN W (scl (z0a 1 L) vs):=by
 have hd:k6 (scl (z0a 1 L) vs) ∣ L:=an7 λq hq=>by
  obtain ⟨v,_,rfl⟩:=z0y.mp hq;rw [am9];exact ao6 v hL0
 have hle:=y0p hL0 hd;refine ⟨q0e hle hL,λu hu=>?_⟩;obtain ⟨q,hq,rfl⟩:=z0y.mp hu;obtain ⟨e,he⟩:=L7 hq;have h0:(q.den:Int) ≠ 0:=by have:=q.den_nz;omega
 have e1:(k6 (scl (z0a 1 L) vs):Int).fdiv (q.den:Int)=(e:Int):=by
  rw [he,z0s];exact j8 h0
 obtain ⟨v,hvm,hvq⟩:=z0y.mp hq;rw [am9] at hvq;have hc:=az3 v hL0;rw [hvq] at hc
 have hc':q.num.natAbs*L=v.natAbs*q.den:=by
  have:=congrArg z0p hc
  rwa [q0x,q0x,q0r,q0r] at this
 rw [e1,q0x,q0r];refine q0e ?_ (hv v hvm)
 have h2:(q.num.natAbs*e)*L<=v.natAbs*L:=by
  calc (q.num.natAbs*e)*L=(q.num.natAbs*L)*e:=by rw [Nat.mul_right_comm]
   _=v.natAbs*(q.den*e):=by rw [hc',v0a]
   _<=v.natAbs*L:=z0j _ (by rw [<- he];exact hle)
 exact Nat.le_of_mul_le_mul_right h2 hL0
open PySem L2 PyProof.Rows
structure bl9 (H:Hp) (p:Addr) (qs:List Rat):Prop where
 ex:∃ xs,H p=some (.lst xs)/\k5 H xs qs
 bd:∀ q ∈ qs,q.den<2 ^ 6000
 len:qs.length<900
 tl:x9 qs qs.length
inductive aZ9 (H:Hp):List Addr->List (List Rat)->Prop where
 | nil:aZ9 H [] []
 | cons {p:Addr} {ps:List Addr} {L:List Rat} {Ls:List (List Rat)} (h:bl9 H p L) (t:aZ9 H ps Ls):aZ9 H (p :: ps) (L :: Ls)
open PySem L2 PyProof.Rows
theorem aY7 (xs:List V) {n:Nat} (h:n<=xs.length):az6 xs (some (n:Int)) none=xs.drop n:=by
 unfold az6
 have e1:HT.sIx xs.length 0 (some (n:Int))=n:=by
  simp only [HT.sIx];rw [if_neg ⋯];omega
 have e2:HT.sIx xs.length xs.length none=xs.length:=rfl;rw [e1,e2,v0f (by rw [List.length_drop];omega)]
theorem bd5 (xs:List V):az6 xs (some 1) none=xs.drop 1:=by
 cases xs with
 | nil=>exact g0b (by have:=ai9 [] (some 1) none;simpa using this)
 | cons x xs=>exact aY7 (x :: xs) (n:=1) (by simp)
theorem C3 {α:Type} {l:List α} {i:Nat} {x:α} (h:l[i]? = some x):l.take (i+1)=l.take i ++ [x]:=by rw [y0f,h];rfl
theorem R1 {qs:List Rat} (h:∀ x,qs[qs.length-1]? = some x->x ≠ 0):x9 qs qs.length :=
 ⟨q0t _,λi q hi e=>(by rw [q0d hi] at e;cases e),λ_ q e=>h q e⟩
theorem q8.seq {K:q0a} {u:Addr} {H H':Hp} {b:Addr} {xs:List V} (s:q8 u H H') (hu:H u=none) (h:SqL K H b xs):SqL K H' b xs:=by
 rcases h with h | h
 ·rcases h with h | ⟨o,h⟩
  ·exact .inl (.inl (s _ _ h (e8 h hu)))
  ·exact .inl (.inr ⟨o,s _ _ h (e8 h hu)⟩)
 ·exact .inr h
theorem ak5 {qs:List Rat} {m:Nat} (h:x9 qs m):x9 (qs.take m) (qs.take m).length:=by
 have:=h.self;rw [j0b,Nat.min_eq_left h.le];exact this
def aK9 (K:q0a):Sp:=λvs H Q _ => ∃ (a:Addr) (ns:List Int),vs=[.ref a]/\SqL K H a (ns.map V.int)/\ns.length<=63/\∀ H',Q (.bl true) H'
structure ExT (K:q0a) (mg:Str->Option Value) (x:Str) (C:Addr):Prop where
 m:mg x=some (.ref C)
 ox:bq6 K C [.type "ValueError",.type "Exception",.type "BaseException",.type "object"] "ValueError.__new__"
 ec:aA4 K C
structure CAd where
 c_NoFraction:Addr
 c_NoPolynomial:Addr
 c_NoStretch:Addr
 c_NoRow:Addr
 c_NoPair:Addr
 c_NoBack:Addr
 c_NoForm:Addr
 c_NoParts:Addr
 c_NoDegree:Addr
 c_NoSteps:Addr
 c_NoBox:Addr
 c_NoGain:Addr
 c_NoText:Addr
 c_NoLine:Addr
 c_NoName:Addr
 c_NoDeed:Addr
 c_RestError:Addr
structure XTx (K:q0a) (mg:Str->Option Value) (a:CAd):Prop where
 x_NoFraction:ExT K mg "NoFraction" a.c_NoFraction
 x_NoPolynomial:ExT K mg "NoPolynomial" a.c_NoPolynomial
 x_NoStretch:ExT K mg "NoStretch" a.c_NoStretch
 x_NoRow:ExT K mg "NoRow" a.c_NoRow
 x_NoPair:ExT K mg "NoPair" a.c_NoPair
 x_NoBack:ExT K mg "NoBack" a.c_NoBack
 x_NoForm:ExT K mg "NoForm" a.c_NoForm
 x_NoParts:ExT K mg "NoParts" a.c_NoParts
 x_NoDegree:ExT K mg "NoDegree" a.c_NoDegree
 x_NoSteps:ExT K mg "NoSteps" a.c_NoSteps
 x_NoBox:ExT K mg "NoBox" a.c_NoBox
 x_NoGain:ExT K mg "NoGain" a.c_NoGain
 x_NoText:ExT K mg "NoText" a.c_NoText
 x_NoLine:ExT K mg "NoLine" a.c_NoLine
 x_NoName:ExT K mg "NoName" a.c_NoName
 x_NoDeed:ExT K mg "NoDeed" a.c_NoDeed
structure Kits (K:q0a) (a:CAd) (C:Addr) (j:Nat):Prop where
 k_NoFraction:z0e K (.ref C) (.ref a.c_NoFraction)=some (decide (j=0))
 k_NoPolynomial:z0e K (.ref C) (.ref a.c_NoPolynomial)=some (decide (j=1))
 k_NoStretch:z0e K (.ref C) (.ref a.c_NoStretch)=some (decide (j=2))
 k_NoRow:z0e K (.ref C) (.ref a.c_NoRow)=some (decide (j=3))
 k_NoPair:z0e K (.ref C) (.ref a.c_NoPair)=some (decide (j=4))
 k_NoBack:z0e K (.ref C) (.ref a.c_NoBack)=some (decide (j=5))
 k_NoForm:z0e K (.ref C) (.ref a.c_NoForm)=some (decide (j=6))
 k_NoParts:z0e K (.ref C) (.ref a.c_NoParts)=some (decide (j=7))
 k_NoDegree:z0e K (.ref C) (.ref a.c_NoDegree)=some (decide (j=8))
 k_NoSteps:z0e K (.ref C) (.ref a.c_NoSteps)=some (decide (j=9))
 k_NoBox:z0e K (.ref C) (.ref a.c_NoBox)=some (decide (j=10))
 k_NoGain:z0e K (.ref C) (.ref a.c_NoGain)=some (decide (j=11))
 k_NoText:z0e K (.ref C) (.ref a.c_NoText)=some (decide (j=12))
 k_NoLine:z0e K (.ref C) (.ref a.c_NoLine)=some (decide (j=13))
 k_NoName:z0e K (.ref C) (.ref a.c_NoName)=some (decide (j=14))
 k_NoDeed:z0e K (.ref C) (.ref a.c_NoDeed)=some (decide (j=15))
 kV:z0e K (.ref C) (.type "ValueError")=some true
 ec:aA4 K C
 ex:PySem.W.exmOne K (.ref C) (.ref a.c_RestError)=some true
def told (j:Nat):List V:=[V.bl (decide (j=0)),V.bl (decide (j=1)),V.bl (decide (j=2)),V.bl (decide (j=3))] ++ [V.bl (decide (j=4)),V.bl (decide (j=5)),V.bl (decide (j=6)),V.bl (decide (j=7))] ++ [V.bl (decide (j=8)),V.bl (decide (j=9)),V.bl (decide (j=10)),V.bl (decide (j=11))] ++ [V.bl (decide (j=12)),V.bl (decide (j=13)),V.bl (decide (j=14)),V.bl (decide (j=15))]
theorem J3 {ws:List Int} {i:Nat} {x:V} (h:(ws.map V.int)[i]? = some x):∃ v,ws[i]? = some v/\x=.int v:=by
 rw [q0q] at h
 cases hw:ws[i]? with
 | none=>rw [hw] at h;cases h
 | some v=>rw [hw] at h;cases h;exact ⟨v,rfl,rfl⟩
open PySem L2 PyProof.Rows
def top (i:Nat):Stmt:=PySem.Challenge.pw_restward_k07_parts_of_any.main.body.getD i (.Pass ⟨0,0,0,0⟩)
end R
set_option maxRecDepth 100000
local macro_rules | `(tactic| simp! [$ls,*]) => do
  let a <- ("L2.ipM L2.aC5 L2.aC1 L2.M0 L2.D8 L2.ah1 L2.aF1 L2.aC3 L2.ah3 L2.tSl L2.ag8 L2.N6 L2.aC2 L2.aC4 L2.O7 L2.ai3 L2.G0 j0x m0v Option.bind_none Option.bind_some Option.join_some L2.au4 L2.aA9 L2.aB1 L2.tOr L2.aA7 L2.Y9 L2.tB L2.tOp L2.tUn L2.au8 L2.tBM L2.K1 L2.tC L2.tCB L2.au5 L2.ap5 L2.m9 L2.aF5 L2.N3 L2.p9 L2.N4 L2.P6 L2.aj0 L2.au6 L2.aA6 L2.aA8 L2.tIf L2.ah4 L2.ag9 L2.au7 L2.ah2 L2.ah0 L2.U1 L2.aB0 L2.ipI L2.rI L2.rI0 L2.rU L2.O6 L2.aq2 L2.aC6 L2.ah6 L2.rEq L2.rNe L2.aC7 L2.aC8 L2.ai1 L2.ai0 L2.ai2 L2.ab5 L2.Cx.nox L2.Cx.wish g0y y0y u0b v0c Option.some.injEq L2.V.int.injEq L2.V.bl.injEq L2.V.ref.injEq L2.V.str.injEq exists_eq_left' exists_eq_left exists_and_left true_and and_true List.cons.injEq reduceCtorEq g0f if_false if_true exists_const L2.tyV y0t m0g exists_eq v0v g0u m0d decide_eq_true_eq not_true_eq_false not_false_eq_true g0n decide_eq_false_iff_not Bool.not_true Bool.not_false and_assoc false_and false_or or_false".splitOn " ").toArray.mapM λs => `(Lean.Parser.Tactic.simpLemma| $(Lean.mkIdent s.toName):ident)
  let b:=ls.getElems.map λx=>(⟨x.raw⟩:Lean.TSyntax `Lean.Parser.Tactic.simpLemma)
  let c:=a ++ b
  `(tactic| simp only [↓reduceIte,$[$c],*])
local macro_rules | `(tactic| subst_eqs) => `(tactic| simp! [])
local macro_rules | `(tactic| and_intros) => `(tactic| exact ⟨rfl, rfl, rfl, by decide +kernel, rfl, by decide +kernel, by decide +kernel⟩)
namespace R
open PySem L2 PyProof.Rows
section
variable {P:Program} {w:World} {K:q0a} {mg:Str->Option Value} {base:Heap}
def ap6:Sp:=λvs H Q _ => ∃ a b:Int,vs=[.int a,.int b]/\(a.natAbs<2 ^ 6000 \/ b.natAbs<2 ^ 6000)/\Q (.int (q0w a b)) H
abbrev B8:Stmt:=top 9
theorem N8:i8 ["one","other"] ["one","other"] (d6 B8):=by and_intros
theorem ac9 {f:Addr} (d:Df K mg "common_divisor" B8 ["one","other"] f) (c_SHORT:∃ t,mg "SHORT" = some (.int 6000 t)) (n_abs:mg "abs" = none):Def P w K mg base CX0 1 "common_divisor" f ["one","other"] ap6:=by
  obtain ⟨tS,c_SHORT⟩:=c_SHORT;refine d.ok (N:=["one","other"]) N8 (λvs H Q E ⟨a,b,h,_⟩=>by rw [h];rfl) (λcdv A outer s H vs Q E hr h=>?_)
  obtain ⟨a,b,rfl,hab,q⟩:=h
  refine ⟨_, (c7 (w8 (PW.pt (aw1 (i9 Z6 (aa7 PySem.F.plainAttrs_int PySem.F.slot_int_bit_length PySem.F.type_int_bit_length Q5 (pv 1)) (ak9 (v := .int 6000) rfl c_SHORT ⟨_, rfl⟩) (k4 _)) (ak8 (i9 Z6 (aa7 PySem.F.plainAttrs_int PySem.F.slot_int_bit_length PySem.F.type_int_bit_length Q5 (pv 0)) (ak9 (v := .int 6000) rfl c_SHORT ⟨_, rfl⟩) (k4 _))))) (c9 aC9) m6)
      (c7 (F7 PassesOwn.never (J2 (pv 1) (λ_=>rfl)) (c9 (aa5 (i:=0) (j:=1) rfl N8.nd rfl rfl (by decide) rfl rfl (b8 (pv 1) (b8 (f8 D7 (pv 0) (pv 1)) b9)) rfl)))
      (c9 (i5 (f9 Q8 rfl n_abs (by decide +kernel) (b8 (pv 0) b9)))))),?_⟩
  rw [show start ["one","other"] [.int a,.int b]=[some (.int a),some (.int b)] from rfl]
  have hno:¬ ((6000:Int)<Builtin.Int.intBits b/\(6000:Int)<Builtin.Int.intBits a):=by
    rintro ⟨h1,h2⟩;rcases hab with z | z
    · have:=G4 z;omega
    · have:=G4 z;omega
  have main : ∀ {D : V9} , (∀ x : Int, ∀ y : Int, y = 0 → Int.gcd x y = Int.gcd a b → D.nx [some (.int x), some (.int y)] H) → aa1 (fun σ H_1 Q => K1 1 σ H_1 fun x H' => ∃ k, ap3 K x H' k ∧ Q k H')
      (au6 0 1 (P6 (K1 1) (P6 (tOp (rI (λx j=>j ≠ 0) λi j=>V.int (i.fmod j)) (K1 0) (K1 1)) aj0))) D [some (.int a),some (.int b)] H:=by
    intro D hD;refine aA5 (λσ H1=>H1=H/\∃ x y:Int,σ=[some (.int x),some (.int y)]/\Int.gcd x y=Int.gcd a b) (λσ _=>match σ with | [_,some (.int y)]=>y.natAbs | _=>0) ⟨rfl,a,b,rfl,rfl⟩ ?_ ?_
    · rintro σ H1 ⟨rfl,x,y,rfl,hg⟩
      simp! [ap3]
      split
      · rename_i hy
        have hy':y ≠ 0:=by simpa using hy
        exact ⟨hy',by rw [aF4];exact hg,U8 x hy'⟩
      · rename_i hy
        have hy':y=0:=by simpa using hy
        exact hD x y hy' hg
    · intro σ H1 Q Q' hQ h
      obtain ⟨v,e1,k,e2,e3⟩:=h;exact ⟨v,e1,k,e2,hQ _ _ e3⟩
  have fin:∀ x y:Int,y=0->Int.gcd x y=Int.gcd a b->Q (.int (if x<0 then -x else x)) H:=λx y hy hg=>by
    subst hy
    have e:(if x<0 then -x else x)=(Int.gcd a b:Int):=by
      rw [<- hg,Int.gcd_zero_right]
      split <;> omega
    rw [e];exact q
  have nxt:∀ x y:Int,y=0->Int.gcd x y=Int.gcd a b->(au5 (tCB (λxs H Q => ∃ i,xs=[V.int i]/\Q (V.int (if i<0 then -i else i)) H) (P6 (K1 0) aj0)) { nx:=λx H'=>Q V.non H',rt:=Q }) [some (.int x),some (.int y)] H:=λx y hy hg=>by
    subst_eqs
    exact fin x y hy hg
  subst_eqs
  split
  · split
    · exact hno ⟨‹_›,‹_›⟩
    · exact main nxt
  · exact main nxt
end
def tyD:D->Value
 | .v .non=>.type "NoneType"
 | .v (.bl _)=>.type "bool"
 | .v (.int _)=>.type "int"
 | .v (.str _)=>.type "str"
 | .v _=>.type "object"
 | .tup _=>.type "tuple"
 | .lst _=>.type "list"
theorem _root_.L2.IsD.ty {K:q0a} {H:Hp} {v:V} {d:D} (h:IsD K H v d):TyX K H v (tyD d):=by
 cases h with
 | v f =>
  cases v with
  | non=>exact .of .non
  | bl b=>exact .of (.bl b)
  | int i=>exact .of (.int i)
  | str s=>exact .of (.str s)
  | _=>cases f
 | tup h t=>exact .sqt h
 | lst h t=>exact .sql h
def bj9:D->Bool
 | .tup _=>true
 | _=>false
def bk0:D->Bool
 | .lst _=>true
 | _=>false
section
variable {K:q0a}
theorem aE9 {H:Hp} {v:V} {d:D} (h:IsD K H v d):z0e K (tyD d) (.type "tuple")=some (bj9 d):=by
 cases h with
 | v f =>
  cases v with
  | non=>kernel_rfl
  | bl b=>kernel_rfl
  | int i=>kernel_rfl
  | str s=>kernel_rfl
  | _=>cases f
 | tup h t=>kernel_rfl
 | lst h t=>kernel_rfl
theorem aJ1 {H:Hp} {v:V} {d:D} (h:IsD K H v d):z0e K (tyD d) (.type "list")=some (bk0 d):=by
 cases h with
 | v f =>
  cases v with
  | non=>kernel_rfl
  | bl b=>kernel_rfl
  | int i=>kernel_rfl
  | str s=>kernel_rfl
  | _=>cases f
 | tup h t=>kernel_rfl
 | lst h t=>kernel_rfl
end
end R
namespace L2
open PySem PyProof.Rows
end L2
set_option maxRecDepth 100000
namespace R
open PySem L2 PyProof.Rows
mutual
def noU:D->Bool
 | .v _=>true
 | .tup ds=>bi6 ds
 | .lst ds=>(ds.length != 3) && bi6 ds
def bi6:List D->Bool
 | []=>true
 | d :: ds=>noU d && bi6 ds
end
end R
set_option maxRecDepth 100000
namespace L2
open PySem PyProof.Rows
end L2
namespace R
open PySem L2 PyProof.Rows
inductive Rws (H:Hp):List Addr->List (List Rat)->Prop where
 | nil:Rws H [] []
 | cons {p:Addr} {xs:List V} {ps:List Addr} {L:List Rat} {Ls:List (List Rat)} (h:H p=some (.lst xs)) (n:k5 H xs L) (t:Rws H ps Ls):Rws H (p :: ps) (L :: Ls)
structure TabAt (H:Hp) (D:Addr) (M:List (List Rat)) (H2:Hp):Prop where
 same:d4 H H2
 at':∃ ts:List Addr,H2 D=some (.lst (ts.map V.ref))/\(∀ t ∈ ts,H t=none/\t ≠ D)/\ts.Nodup/\Rws H2 ts M
structure ap4 (H:Hp) (D:Addr) (L:List Rat) (H2:Hp):Prop where
 same:d4 H H2
 at':∃ xs:List V,H2 D=some (.lst xs)/\k5 H2 xs L
theorem ap4.start {H:Hp} {D:Addr} (h:H D=none):ap4 H D [] (upd H D (.lst [])):=⟨d4.new h _,[],c8,.nil⟩
theorem ap4.add {H H2 H3:Hp} {D p:Addr} {L:List Rat} {q:Rat} (t:ap4 H D L H2) (h:H D=none) (s:d4 H2 H3) (e:H3 p=some (.tup (v7 q))) :
  ∃ ys,H3 D=some (.lst ys)/\ys.length=L.length/\ap4 H D (L ++ [q]) (upd H3 D (.lst (ys ++ [.ref p]))):=by
 obtain ⟨s2,xs,e2,n2⟩:=t;have eD:=s _ _ e2;exact ⟨xs,eD,n2.length,(s2.trans s).over h _,_,c8,((n2.mono s.tups).append (.cons e .nil)).mono (C9.lst eD)⟩
def NmC (K:q0a) (H:Hp) (p:Addr) (q:Rat):Prop:=H p=some (.tup (v7 q)) \/ ∀ H',SqT K H' p (v7 q)
theorem NmC.sqt {K:q0a} {H:Hp} {p:Addr} {q:Rat}:NmC K H p q->SqT K H p (v7 q)
 | .inl h=>SqT.of h
 | .inr h=>h H
theorem NmC.mono {K:q0a} {H H':Hp} {p:Addr} {q:Rat} (e:C9 H H'):NmC K H p q->NmC K H' p q
 | .inl h=>.inl (e _ _ h)
 | .inr h=>.inr h
inductive G3 (K:q0a) (H:Hp):List V->List Rat->Prop where
 | nil:G3 K H [] []
 | cons {p:Addr} {q:Rat} {vs:List V} {qs:List Rat} (h:NmC K H p q) (t:G3 K H vs qs):G3 K H (.ref p :: vs) (q :: qs)
theorem G3.mono {K:q0a} {H H':Hp} (e:C9 H H'):∀ {vs:List V} {qs:List Rat},G3 K H vs qs->G3 K H' vs qs
 | _,_,.nil=>.nil
 | _,_,.cons h t=>.cons (h.mono e) (t.mono e)
theorem G3.length {K:q0a} {H:Hp}:∀ {vs:List V} {qs:List Rat},G3 K H vs qs->vs.length=qs.length
 | _,_,.nil=>rfl
 | _,_,.cons _ t=>congrArg (· + 1) t.length
theorem G3.getV {K:q0a} {H:Hp}:∀ {vs:List V} {qs:List Rat} {i:Nat} {v:V},G3 K H vs qs->vs[i]? = some v->∃ p q,v=.ref p/\qs[i]? = some q/\NmC K H p q
 | _,_,_,_,.nil,e=>by simp at e
 | _,_,0,_,.cons h t,e=>by cases e;exact ⟨_,_,rfl,rfl,h⟩
 | _,_,i+1,_,.cons _ t,e=>t.getV (i:=i) (by simpa using e)
theorem k5.toC {K:q0a} {H:Hp}:∀ {vs:List V} {qs:List Rat},k5 H vs qs->G3 K H vs qs
 | _,_,.nil=>.nil
 | _,_,.cons h t=>.cons (.inl h) t.toC
inductive be3 (K:q0a) (H:Hp):List Addr->List (List Rat)->Prop where
 | nil:be3 K H [] []
 | cons {p:Addr} {xs:List V} {ps:List Addr} {L:List Rat} {Ls:List (List Rat)} (h:H p=some (.lst xs)) (n:G3 K H xs L) (t:be3 K H ps Ls):be3 K H (p :: ps) (L :: Ls)
structure TabC (K:q0a) (H:Hp) (D:Addr) (M:List (List Rat)) (H2:Hp):Prop where
 same:d4 H H2
 at':∃ ts:List Addr,H2 D=some (.lst (ts.map V.ref))/\(∀ t ∈ ts,H t=none/\t ≠ D)/\ts.Nodup/\be3 K H2 ts M
structure RowC (K:q0a) (H:Hp) (D:Addr) (L:List Rat) (H2:Hp):Prop where
 same:d4 H H2
 at':∃ xs:List V,H2 D=some (.lst xs)/\G3 K H2 xs L
theorem ay4 {n:Nat} (h:n<=100):n<sizeLine:=q0e h (by decide)
def ClA (D:Addr) (H:Hp) (v:V) (p:List Rat):Prop:=∃ r l,v=.ref r/\H r=some (.tup [.ref l,.int (k6 p)])/\H l=some (.lst ((j0 (k6 p) p).map V.int))/\l ≠ D
inductive ClL (D:Addr) (H:Hp):List V->List (List Rat)->Prop where
 | nil:ClL D H [] []
 | cons {v:V} {p:List Rat} {vs:List V} {ps:List (List Rat)} (h:ClA D H v p) (t:ClL D H vs ps):ClL D H (v :: vs) (p :: ps)
structure ClR (H:Hp) (D:Addr) (M:List (List Rat)) (H2:Hp):Prop where
 same:d4 H H2
 at':∃ vs:List V,H2 D=some (.lst vs)/\ClL D H2 vs M
instance {K:q0a} {H:Hp} {vs:List V} {qs:List Rat}:Coe (k5 H vs qs) (G3 K H vs qs):=⟨k5.toC⟩
section
variable {P:Program} {w:World} {K:q0a} {mg:Str->Option Value} {base:Heap}
def W5 (K:q0a):Sp:=λvs H Q _ => ∃ a ws,vs=[.ref a]/\SqL K H a (ws.map V.int)/\(∀ w ∈ ws,z0p w<2 ^ 6000)/\Q (.int (i6 ws)) H
abbrev K5:Stmt:=top 12
theorem G6:i8 ["wholes","content","whole"] ["wholes"] (d6 K5):=by and_intros
theorem aq5 {f fc:Addr} (d:Df K mg "content_of" K5 ["wholes"] f) (G_common_divisor:Def P w K mg base CX0 1 "common_divisor" fc ["one","other"] ap6):Def P w K mg base CX0 2 "content_of" f ["wholes"] (W5 K):=by
 refine d.ok (N:=["wholes","content","whole"]) G6 (by rintro vs H Q E ⟨a,b,h,_⟩;rw [h];rfl) (λcdv A outer s H vs Q E hr h=>?_)
 obtain ⟨a,ws,rfl,hS,hb,k⟩:=h
 refine ⟨_,(c7 (d9 (i:=1) G6.nd rfl (z0r rfl) c6)
   (c7 (C2 PassesOwn.never rfl (v6 (pv 0)) (i3 (i:=2) G6.nd rfl (z0r rfl)) (c7 (d9 (i:=1) G6.nd rfl (z0r rfl) (d7 G_common_divisor hr (b8 (pv 2) (b8 (pv 1) b9)) e9))
   (c9 (w8 (i9 ac8 (pv 1) c6 (k4 _)) (c9 (i5 c6)) m6))))
   (c9 (i5 (pv 1))))),?_⟩
 rw [show start ["wholes","content","whole"] [.ref a]=[some (.ref a),none,none] from rfl]
 subst_eqs
 refine ⟨_,rfl,a,rfl,⟨_,hS⟩,J4 (xs:=ws.map V.int) (λi σ H1=>H1=H/\∃ o,σ=[some (.ref a),some (.int (i6 (ws.take i):Nat)),o]) ⟨rfl,_,rfl⟩ (λi σ H1 _ ⟨e,_⟩=>e ▸ hS) ?_ ?_⟩
 ·rintro i x σ H1 hx ⟨rfl,o,rfl⟩
  rw [q0q] at hx
  cases hw:ws[i]? with
  | none=>rw [hw] at hx;cases hx
  | some v =>
   rw [hw] at hx
   cases hx
   have hm:=z0c hw
   simp! [ap6]
   have es:ws.take (i+1)=ws.take i ++ [v]:=by rw [y0f,hw];rfl
   have eg:q0w v (i6 (ws.take i):Int)=i6 (ws.take (i+1)):=by rw [es,aP7]
   refine ⟨.inl (q0b (hb v hm) (c5 (by decide))),?_⟩
   rw [eg];refine ⟨rfl,t7 (λh1=>?_) (λ_=>?_)⟩
   ·have:i6 (ws.take (i+1))=1:=⋯
    have e1:=aW9 _ this;rw [e1] at k;exact k
   ·exact ⟨rfl,_,rfl⟩
 ·rintro σ H1 ⟨rfl,o,rfl⟩
  rw [q0m,j0y];exact ⟨_,rfl,k⟩
def af0 (K:q0a):Sp:=λvs H Q _ => ∃ a xs qs,vs=[.ref a]/\SqL K H a xs/\G3 K H xs qs/\(∃ W:Nat,ClN W qs/\W<=6000)/\qs.length<=100 /\
 ∀ r l H',d4 H H'->H l=none->H' r=some (.tup [.ref l,.int (k6 qs)])->H' l=some (.lst ((j0 (k6 qs) qs).map V.int))->Q (.ref r) H'
abbrev P9:Stmt:=top 15
theorem R3:i8 ["numbers","bottom","number"] ["numbers"] (d6 P9):=by and_intros
theorem aI3 {f fc:Addr} (d:Df K mg "cleared" P9 ["numbers"] f) (G_common_divisor:Def P w K mg base CX0 1 "common_divisor" fc ["one","other"] ap6):Def P w K mg base CX0 2 "cleared" f ["numbers"] (af0 K):=by
 refine d.ok (N:=["numbers","bottom","number"]) R3 (by rintro vs H Q E ⟨a,b,c,h,_⟩;rw [h];rfl) (λcdv A outer s H vs Q E hr h=>?_)
 obtain ⟨a,xs,qs,rfl,hS,hN,⟨W,hs,hm⟩,hl,k⟩:=h
 refine ⟨_,(c7 (d9 (i:=1) R3.nd rfl (v0q rfl) c6)
   (c7 (C2 PassesOwn.never rfl (v6 (pv 0)) (i3 (i:=2) R3.nd rfl (z0r rfl)) (c9 (d9 (i:=1) R3.nd rfl (v0q rfl) (f8 m8 (f8 z5 (pv 1) (d7 G_common_divisor hr (b8 (pv 1) (b8 (k3 k9 (pv 2) c6 (λ_ _=>rfl)) b9)) e9)) (k3 k9 (pv 2) c6 (λ_ _=>rfl))))))
   (c9 (i5 (y7 (b8 (D6 (Nc:=["bottom","top","under"]) (caps:=[some 1,none,none]) rfl (T9.of (osc:=d6 P9) (N:=["numbers","bottom","number"]) (ks:=["bottom"]) rfl rfl rfl rfl (A7 rfl A3) (by decide +kernel)) (v6 (pv 0)) (λC s₂ H₂ fp pins=>(show PG _ _ (N3 K 2 (p9 (m9 1) (p9 (m9 2) N4))) from by (refine E2 (n:=2) ?_ ?_ ?_ ?_;rfl;(refine j9 ?_ ?_ ?_;(exact (i3 (i:=1) (show y0r (["bottom","top","under"]:List Str) by decide +kernel) rfl (z0r rfl) (v0q rfl)));(refine j9 ?_ ?_ ?_;(exact (i3 (i:=2) (show y0r (["bottom","top","under"]:List Str) by decide +kernel) rfl (z0r rfl) (v0q rfl)));(exact y6);rfl);rfl);rfl;rfl))) (λC s₂ H₂ fp pins=>(f8 m8 (pv 1) (f8 z5 (pv 0) (pv 2))))) (b8 (pv 1) b9))))))),?_⟩
 rw [show start ["numbers","bottom","number"] [.ref a]=[some (.ref a),none,none] from rfl]
 subst_eqs
 have small:∀ q ∈ qs,q.den<2 ^ 6000:=λq hq=>q0b (hs.den hq) (c5 hm)
 have hB:∀ i,0<k6 (qs.take i)/\k6 (qs.take i)<2 ^ 6000:=λi=>by
  exact ⟨N2 _,q0b (hs.take i) (c5 hm)⟩
 refine ⟨_,rfl,a,rfl,⟨_,hS⟩,J4 (xs:=xs) (λi σ H1=>H1=H/\∃ o,σ=[some (.ref a),some (.int (k6 (qs.take i):Nat)),o]) ⟨rfl,_,rfl⟩ (λi σ H1 _ ⟨e,_⟩=>e ▸ hS) ?_ ?_⟩
 ·rintro i x σ H1 hx ⟨rfl,o,rfl⟩
  obtain ⟨p,q,rfl,hq,hp⟩:=hN.getV hx;obtain ⟨b1,b2⟩:=hB i;have hd:=small q (z0c hq);have hd0:=n8 q;have es:qs.take (i+1)=qs.take i ++ [q]:=by rw [y0f,hq];rfl
  have gp:(0:Int)<(q0w (k6 (qs.take i):Int) (q.den:Int):Nat):=by
   have:=L4 (t:=(k6 (qs.take i):Int)) (b:=(q.den:Int)) ⋯;omega
  have el:(k6 (qs.take i):Int).fdiv (q0w (k6 (qs.take i):Int) (q.den:Int):Nat)*(q.den:Int)=(k6 (qs.take (i+1)):Nat):=by
   rw [es,aP3];obtain ⟨e,he⟩:=j0m (k6 (qs.take i):Int) (q.den:Int);have hg:q0w (k6 (qs.take i):Int) (q.den:Int)=Nat.gcd (k6 (qs.take i)) q.den:=by simp [q0w]
   have h1:(k6 (qs.take i):Int).fdiv (q0w (k6 (qs.take i):Int) (q.den:Int):Nat)=e:=by
    conv=>lhs;arg 1;rw [he]
    exact j8 ⋯
   rw [h1];have h2:Nat.gcd (k6 (qs.take i)) q.den*u0s (k6 (qs.take i)) q.den=k6 (qs.take i)*q.den:=Nat.gcd_mul_lcm _ _
   have h3:((Nat.gcd (k6 (qs.take i)) q.den:Nat):Int)*(u0s (k6 (qs.take i)) q.den:Nat)=(k6 (qs.take i):Int)*(q.den:Int):=by
    rw [<- z0s,h2,z0s]
   rw [<- hg] at h3
   have h4:((q0w (k6 (qs.take i):Int) (q.den:Int):Nat):Int)*(e*q.den)=((q0w (k6 (qs.take i):Int) (q.den:Int):Nat):Int)*(u0s (k6 (qs.take i)) q.den:Nat):=by
    rw [h3,<- Int.mul_assoc,<- he]
   exact Int.eq_of_mul_eq_mul_left ⋯ h4
  simp! [ap6]
  have hd9:(q.den:Int).natAbs<2 ^ 6000:=by rw [q0r];exact hd
  exact ⟨_,hp.sqt,_,at1 q,_,rfl,.inr (O9 hd9),P3 ⋯ (aJ3 ⋯ (O9 hd9)),_,hp.sqt,_,at1 q,_,rfl,C6 (m:=6000) (n:=6000) (q0e (ay9 ⋯ (j0m _ _)) (by rw [q0r];exact b2)) hd9,el,_,rfl⟩
 ·rintro σ H1 ⟨rfl,o,rfl⟩
  rw [<- hN.length] at hl;have e1:qs.take xs.length=qs:=by rw [hN.length,j0y]
  rw [e1]
  simp! [ap6]
  refine ⟨⟨_,hS⟩,λD hD=>?_⟩;refine L9 xs (λi σ H2 => ∃ o1 o2,σ=[some (.int (k6 qs)),o1,o2]/\d4 H1 H2/\H2 D=some (.lst ((j0 (k6 qs) (qs.take i)).map V.int))) ⟨_,_,rfl,d4.new hD _,c8⟩ (λi σ H2 _ ⟨_,_,_,s2,_⟩=>s2.seq hS) ?_ ?_
  ·rintro i x σ H2 hx ⟨o1,o2,rfl,s2,e2⟩
   have hi:=(q0s.mp hx).1;obtain ⟨p,q,rfl,hq,hp⟩:=hN.getV hx;have hd:=small q (z0c hq);have hd0:=n8 q;have hd9:(q.den:Int).natAbs<2 ^ 6000:=by rw [q0r];exact hd
   have hn9:=hs.num (z0c hq);have es:qs.take (i+1)=qs.take i ++ [q]:=by rw [y0f,hq];rfl
   subst_eqs
   refine ⟨_,s2.tup hp.sqt,rfl,_,_,rfl,_,_,rfl,rfl,?_⟩;refine ⟨_,rfl,P3 ⋯ (O9 hd9),_,rfl,C6 (m:=6000) (n:=6000) (q0b hn9 (c5 ⋯)) (q0e (ay9 ⋯ (z0w.mpr (L7 (z0c hq)))) (by rw [q0r];have:=(hB qs.length).2;rwa [j0y] at this)),?_⟩
   refine D4.mk hi e2 ?_ ⟨_,_,rfl,(s2.trans (d4.refl _)).over hD _,?_⟩
   ·simp only [q0m,j0,j0b]
    exact q0e (show _<=100 by omega) (by decide)
   ·rw [c8,es]
    simp [j0]
  ·rintro σ H2 ⟨o1,o2,rfl,s2,e2⟩
   rw [e1] at e2;refine ⟨y3,λp hp=>k p D _ (s2.trans (d4.new hp _)) hD c8 ?_⟩;rw [i7 (e8 e2 hp)];exact e2
theorem bc0 {qs:List Rat} (hc:i6 (j0 (k6 qs) qs) ≠ 0) :
  let c:Int:=i6 (j0 (k6 qs) qs)
  (z0a c (k6 qs)).num=c/\((z0a c (k6 qs)).den:Int)=k6 qs/\qs=scl (z0a c (k6 qs)) ((j0 (k6 qs) qs).map λv=>v.fdiv c):=by
 intro c;have hB:=N2 qs;obtain ⟨h1,h2⟩:=ab0 (n:=c) (d:=(k6 qs:Int)) ⋯ (az7 qs);refine ⟨h1,h2,?_⟩;unfold scl j0;rw [List.map_map,List.map_map]
 conv=>lhs;rw [<- List.map_id qs]
 refine List.map_congr_left λq hq=>?_
 show q=z0a c (k6 qs)*(((q.num*(k6 qs:Int).fdiv (q.den:Int)).fdiv c:Int):Rat);obtain ⟨e,he⟩:=r9 (ws:=j0 (k6 qs) qs) (z0y.mpr ⟨q,hq,rfl⟩);have hc':c ≠ 0:=by show ((i6 (j0 (k6 qs) qs):Nat):Int) ≠ 0;omega
 have e1:(q.num*(k6 qs:Int).fdiv (q.den:Int)).fdiv c=e:=by
  conv=>lhs;arg 1;rw [he]
  exact j8 hc'
 rw [e1]
 conv=>lhs;rw [aR7 hB (L7 hq)]
 rw [he]
 have e2:(e:Rat)=z0a e 1:=by
  have:=z0h (e:Rat);rw [v0w,v0x] at this;exact this.symm
 rw [e2,y0a,Int.mul_one]
theorem bc6 {ws:List Int} {v:Int} (h:v ∈ ws) (hv:v ≠ 0):i6 ws ≠ 0:=λz=>by
 obtain ⟨e,he⟩:=r9 h;rw [z] at he
 simp at he
 exact hv he
theorem ao2 {a g:Int} {n:Nat} (hg:0<g) (hd:g ∣ a) (h:a.natAbs<n):(a.fdiv g).natAbs<n:=q0e (ay9 hg hd) h
theorem as8 {d:Nat}:∀ (ws:List Int) (c:Nat),d ∣ c->(∀ w ∈ ws,(d:Int) ∣ w)->d ∣ ws.foldl (λc w=>q0w w c) c
 | [],c,h,_=>h
 | w :: r,c,h,hw=>as8 r _ (g0e (hw w q0h) (z0w.mpr h)) λx hx=>hw x (q0f _ hx)
theorem aU0 {q:Rat} (h:0<q.num):0<q:=(Rat.lt_iff 0 q).mpr (by
 show (0:Int)*(q.den:Int)<q.num*((1:Nat):Int);rw [g0v];simpa using h)
theorem aP8 {ws:List Int} (hc:i6 ws ≠ 0):i6 (ws.map λv=>v.fdiv ((i6 ws:Nat):Int))=1:=by
 obtain ⟨g,hg⟩:∃ g,g=i6 ws:=⟨_,rfl⟩;obtain ⟨e,he⟩:∃ e,e=i6 (ws.map λv=>v.fdiv ((i6 ws:Nat):Int)):=⟨_,rfl⟩
 have hd:(g*e) ∣ i6 ws:=as8 ws 0 (y0u _) λw hw=>by
  obtain ⟨y,hy⟩:=r9 hw
  have h1:w.fdiv ((i6 ws:Nat):Int)=y:=by
   conv=>lhs;arg 1;rw [hy]
   exact j8 ⋯
  obtain ⟨z,hz⟩:=r9 (z0y.mpr ⟨w,hw,rfl⟩:w.fdiv ((i6 ws:Nat):Int) ∈ ws.map λv=>v.fdiv ((i6 ws:Nat):Int));rw [h1,<- he] at hz;exact ⟨z,by rw [hy,<- hg,hz,z0s,Int.mul_assoc]⟩
 rw [<- hg] at hd;obtain ⟨z,hz⟩:=hd;have h2:g*1=g*(e*z):=by rw [u0h,<- v0a];exact hz
 have h3:=y0q (show 0<g by omega) h2
 rw [<- he];exact v0t.mp ⟨z,h3⟩
def ar4 (K:q0a):Sp:=λvs H Q _ => ∃ a xs qs,vs=[.ref a]/\SqL K H a xs/\G3 K H xs qs/\∃ W:Nat,ClN W qs/\W<=6000/\1<=W/\qs.length<=100/\x9 qs qs.length /\
 ∀ r rs l s ws H',d4 H H'->H l=none->H' r=some (.tup [.ref rs,.ref l])->SqT K H' rs (v7 s)->H' l=some (.lst (ws.map V.int))->BdN W s->s ≠ 0->(∀ v ∈ ws,z0p v<2 ^ W)->ws.length=qs.length->qs=scl s ws->(ws ≠ []->i6 ws=1)->Q (.ref r) H'
def aO0 (K:q0a):Sp:=λvs H Q _ => ∃ a xs qs,vs=[.ref a]/\SqL K H a xs/\G3 K H xs qs/\∃ W:Nat,ClN W qs/\W<=6000/\1<=W/\qs.length<=100/\x9 qs qs.length /\
 ∀ r rs l s ws H',d4 H H'->H l=none->H' r=some (.tup [.ref rs,.ref l])->SqT K H' rs (v7 s)->H' l=some (.lst (ws.map V.int))->BdN W s->s ≠ 0->(∀ v ∈ ws,z0p v<2 ^ W)->ws.length=qs.length->qs=scl s ws->(ws ≠ []->i6 ws=1)->0<s->Q (.ref r) H'
abbrev P8:Stmt:=top 16
theorem W6:i8 ["p","content","wholes","bottom"] ["p"] (d6 P8):=by and_intros
theorem aI4 {f fc fk aN:Addr} (d:Df K mg "lifted" P8 ["p"] f) (G_cleared:Def P w K mg base CX0 2 "cleared" fc ["numbers"] (af0 K)) (G_content_of:Def P w K mg base CX0 2 "content_of" fk ["wholes"] (W5 K)) (c_ONE:mg "ONE" = some (.ref aN)) (tN:∀ H,SqT K H aN (v7 1)):Def P w K mg base CX0 3 "lifted" f ["p"] (aO0 K):=by
  refine d.ok (N:=["p","content","wholes","bottom"]) W6 (by rintro vs H Q E ⟨a,b,c,h,_⟩;rw [h];rfl) (λcdv A outer s H vs Q E hr h=>?_)
  obtain ⟨a,xs,qs,rfl,hS,hN,m,hs,hm,hm1,hl,ht,k⟩:=h
  refine ⟨_, (c7 (af3 (d7 G_cleared hr (b8 (pv 0) b9) e9) (show PG _ _ (N3 K 2 (p9 (m9 2) (p9 (m9 3) N4))) from by (refine E2 (n := 2) ?_ ?_ ?_ ?_; rfl; (refine j9 ?_ ?_ ?_; (exact (i3 (i := 2) W6.nd rfl (Or.inl rfl))); (refine j9 ?_ ?_ ?_; (exact (i3 (i := 3) W6.nd rfl (Or.inl rfl))); (exact y6); rfl); rfl); rfl; rfl)))
      (c7 (w8 (N0 (J2 (pv 2) (λ_=>rfl))) (c9 (i5 (y7 (b8 (ak9 (v:=.ref _) rfl c_ONE rfl) (b8 (z7 b9) b9))))) m6)
      (c7 (d9 (i:=1) W6.nd rfl (Or.inr rfl) (d7 G_content_of hr (b8 (pv 2) b9) e9))
      (c9 (i5 (y7 (b8 (y7 (b8 (pv 1) (b8 (pv 3) b9))) (b8 (D6 (Nc:=["content","whole"]) (caps:=[some 1,none]) rfl (T9.of (osc:=d6 P8) (N:=["p","content","wholes","bottom"]) (ks:=["content"]) rfl rfl rfl rfl (A7 rfl A3) (by decide +kernel)) (v6 (pv 2)) (λC s₂ H₂ fp pins=>(i3 (i:=1) (show List.Nodup (["content","whole"]:List Str) by decide +kernel) rfl (Or.inl rfl) (Or.inr rfl))) (λC s₂ H₂ fp pins=>(f8 z5 (pv 1) (pv 0)))) b9)))))))),?_⟩
  rw [show start ["p","content","wholes","bottom"] [.ref a]=[some (.ref a),none,none,none] from rfl]
  simp! [ap3]
  refine ⟨a,xs,qs,rfl,hS,hN,⟨m,hs,hm⟩,hl,λr l H1 s1 hl1 er el=>?_⟩;have hB:=N2 qs;have hB1:=hs.l;have wl:=hs.w;refine ⟨r,rfl,_,SqT.of er,rfl,_,_,rfl,_,_,rfl,rfl,_,.inl ⟨_,SqL.of el,rfl⟩,t7 (λh0=>?_) (λh0=>?_)⟩
  · have hq : qs = [] := by
      cases qs with
      | nil=>rfl
      | cons q r=>simp [j0] at h0
    subst hq;refine ⟨by decide,λp hp=>⟨y3,λp1 hp1=>?_⟩⟩
    refine k p1 aN p 1 [] _ (s1.trans ((d4.new hp _).trans (d4.new hp1 _))) (s1.free hp) c8 (tN _) (by rw [i7 (bi7 hp1).symm];exact c8) ⟨Nat.lt_of_lt_of_le (show _<2 ^ 1 by decide) (c5 ⋯),Nat.lt_of_lt_of_le (show _<2 ^ 1 by decide) (c5 ⋯)⟩ (by decide) (by simp) (by simp) rfl (λz=>absurd rfl z) (by decide)
  · have hq:qs ≠ []:=λz=>h0 (by rw [z];rfl)
    have lp:0<qs.length:=List.length_pos_iff.mpr hq;have hlast:qs.length-1<qs.length:=⋯;have hne:qs[qs.length-1] ≠ 0:=ht.last ⋯ _ (List.getElem?_eq_getElem hlast);have hmem:qs[qs.length-1] ∈ qs:=List.getElem_mem hlast
    have hc:i6 (j0 (k6 qs) qs) ≠ 0:=by
      refine bc6 (List.mem_map.mpr ⟨_,hmem,rfl⟩) ?_;obtain ⟨e,he⟩:=L7 hmem;have h0:(qs[qs.length-1].den:Int) ≠ 0:=by have:=qs[qs.length-1].den_nz;omega
      have e1:(k6 qs:Int).fdiv (qs[qs.length-1].den:Int)=(e:Int):=by
        rw [he,Int.natCast_mul];exact j8 h0
      rw [e1];refine Int.mul_ne_zero (λz=>hne (Q4.mp z)) ?_;intro z;have:e=0:=⋯;rw [this] at he;omega
    obtain ⟨f1,f2,f3⟩:=bc0 hc;have cpos:(0:Int)<(i6 (j0 (k6 qs) qs):Nat):=⋯
    have cle:i6 (j0 (k6 qs) qs)<2 ^ m:=by
      have hm:qs[qs.length-1].num*(k6 qs:Int).fdiv (qs[qs.length-1].den:Int) ∈ j0 (k6 qs) qs:=List.mem_map.mpr ⟨_,hmem,rfl⟩;obtain ⟨e,he⟩:=r9 hm;have w1:=wl _ hm;rw [he,Int.natAbs_mul,Int.natAbs_natCast] at w1
      have e0:e.natAbs ≠ 0:=λz=>by
        have hz:e=0:=⋯;rw [hz,Int.mul_zero] at he;rcases Int.mul_eq_zero.mp he with q1 | q1
        · exact hne (Q4.mp q1)
        · obtain ⟨e',he'⟩:=L7 hmem
          have h0:(qs[qs.length-1].den:Int) ≠ 0:=by have:=qs[qs.length-1].den_nz;omega
          have e1:(k6 qs:Int).fdiv (qs[qs.length-1].den:Int)=(e':Int):=by
            rw [he',Int.natCast_mul];exact j8 h0
          rw [e1] at q1;have:e'=0:=⋯;rw [this] at he';omega
      exact Nat.lt_of_le_of_lt (Nat.le_mul_of_pos_right _ ⋯) w1
    refine ⟨l,_,rfl,SqL.of el,λv hv=>Nat.lt_of_lt_of_le (wl v hv) (c5 hm),y3,λp hp=>⟨l,rfl,⟨_,SqL.of (d4.new hp _ _ _ el)⟩,λD hD=>?_⟩⟩;have sp:=d4.new hp (.tup [.int (i6 (j0 (k6 qs) qs):Nat),.int (k6 qs)])
    refine L9 ((j0 (k6 qs) qs).map V.int) (λi σ H2 => ∃ o,σ=[some (.int (i6 (j0 (k6 qs) qs):Nat)),o]/\d4 (upd H1 p (.tup [.int (i6 (j0 (k6 qs) qs):Nat),.int (k6 qs)])) H2/\H2 D=some (.lst ((((j0 (k6 qs) qs).take i).map λv=>v.fdiv (i6 (j0 (k6 qs) qs):Nat)).map V.int)))
      ⟨_,rfl,d4.new hD _,c8⟩ (λi σ H2 _ ⟨_,_,s2,_⟩=>SqL.of (s2 _ _ (sp _ _ el))) ?_ ?_
    · rintro i x σ H2 hx ⟨o,rfl,s2,e2⟩
      have hi:=(List.getElem?_eq_some_iff.mp hx).1;rw [List.getElem?_map] at hx
      cases hw:(j0 (k6 qs) qs)[i]? with
      | none=>rw [hw] at hx;cases hx
      | some v =>
        rw [hw] at hx
        cases hx
        subst_eqs
        refine ⟨P3 ⋯ (by rw [Int.natAbs_natCast];exact O9 cle ⋯),D4.mk hi e2 ?_ ⟨_,rfl,s2.over hD _,?_⟩⟩
        · simp only [List.length_map,List.length_take,j0]
          exact Nat.lt_of_le_of_lt (show _<=100 by omega) (by decide)
        · rw [c8,List.take_succ,hw]
          simp
    · rintro σ H2 ⟨o,rfl,s2,e2⟩
      rw [List.length_map,List.take_length] at e2;refine ⟨y3,λp1 hp1=>?_⟩;have S:=(s1.trans sp).trans (s2.trans (d4.new hp1 (.tup [.ref p,.ref D])))
      have ep:SqT K (upd H2 p1 (.tup [.ref p,.ref D])) p (v7 (Rat.divInt (i6 (j0 (k6 qs) qs):Nat) (k6 qs))):=by
        refine SqT.of ?_;rw [i7 (e8 (s2 _ _ c8) hp1),s2 _ _ c8];unfold v7;rw [f1,f2]
      refine k p1 p D _ ((j0 (k6 qs) qs).map λv=>v.fdiv (i6 (j0 (k6 qs) qs):Nat)) _ S (s1.free (aD8 hD)) c8 ep (by rw [i7 (e8 e2 hp1)];exact e2) ⟨?_,?_⟩ ?_ ?_ ?_ f3 (λ_=>aP8 hc) ?_
      · rw [f1,Int.natAbs_natCast];exact cle
      · have:(Rat.divInt (i6 (j0 (k6 qs) qs):Nat) (k6 qs)).den=k6 qs:=⋯
        rw [this];exact hB1
      · intro z
        rw [z] at f1;have:(0:Rat).num=0:=rfl;omega
      · intro v hv
        obtain ⟨v',hv',rfl⟩:=List.mem_map.mp hv;exact ao2 cpos (r9 hv') (wl v' hv')
      · simp only [List.length_map,j0]
      · exact aU0 (by rw [f1];exact cpos)
theorem aI5 {f fc fk aN:Addr} (d:Df K mg "lifted" P8 ["p"] f) (G_cleared:Def P w K mg base CX0 2 "cleared" fc ["numbers"] (af0 K)) (G_content_of:Def P w K mg base CX0 2 "content_of" fk ["wholes"] (W5 K)) (c_ONE:mg "ONE" = some (.ref aN)) (tN:∀ H,SqT K H aN (v7 1)):Def P w K mg base CX0 3 "lifted" f ["p"] (ar4 K) :=
 (aI4 d G_cleared G_content_of c_ONE tN).imp (by
  rintro vs H Q E ⟨a,xs,qs,h1,h2,h3,W,h4,h5,h6,h7,h8,k⟩;exact ⟨a,xs,qs,h1,h2,h3,W,h4,h5,h6,h7,h8,λr rs l s ws H' a1 a2 a3 a4 a5 a6 a7 a8 a9 b1 b2 _=>k r rs l s ws H' a1 a2 a3 a4 a5 a6 a7 a8 a9 b1 b2⟩)
theorem bb8 (s:Rat) {v:Int} (hv:v ≠ 0):v.fdiv (q0w (s.den:Int) v:Nat)*s.num=(s*(v:Rat)).num/\(s.den:Int).fdiv (q0w (s.den:Int) v:Nat)=((s*(v:Rat)).den:Int):=by
 have dp:=n8 s;have hg:=L4 (t:=(s.den:Int)) hv;obtain ⟨d',hd⟩:=j0m (s.den:Int) v;obtain ⟨v',hv'⟩:=j0h (s.den:Int) v;have hc:q0w d' v'=1:=Z9 hv hd hv'
 have e1:v.fdiv (q0w (s.den:Int) v:Nat)=v':=by
  conv=>lhs;arg 1;rw [hv']
  exact j8 ⋯
 have e2:(s.den:Int).fdiv (q0w (s.den:Int) v:Nat)=d':=by
  conv=>lhs;arg 1;rw [hd]
  exact j8 ⋯
 rw [e1,e2]
 have ev:s*(v:Rat)=z0a (s.num*v) s.den:=by
  have h1:=z0h (v:Rat);rw [v0w,v0x] at h1
  conv=>lhs;rw [<- z0h s,<- h1]
  rw [y0a]
  simp
 rw [ev]
 have hd0:0<d':=by
  rcases Int.lt_or_le 0 d' with z | z
  ·exact z
  ·have:=Int.mul_nonneg (show (0:Int)<=(q0w (s.den:Int) v:Nat) by omega) (show 0<=-d' by omega)
   rw [Int.mul_neg] at this;omega
 have c1:q0w d' s.num=1:=by
  have:=bd6 (k:=s.num) (m:=(s.den:Int)) (n:=d') (ba8 s) ⟨_,by rw [z0k];exact hd⟩
  exact aG4 this
 refine S0 hd0 (aG4 (ar0 hc c1)) ⋯ ?_;generalize (q0w (s.den:Int) v:Int)=g at *;rw [hd,hv']
 grind
def bg3 (b:Int) (ws:List Int) (d:Int):Prop:=0<d/\d ∣ b/\∀ v ∈ ws,v ≠ 0->q0w d v=q0w b v
def bf0 (K:q0a):Sp:=λvs H Q _ => ∃ (a:Addr) (ws:List Int) (b:Int),vs=[.ref a,.int b]/\SqL K H a (ws.map V.int)/\ws.length<=100/\0<b/\b.natAbs<2 ^ 6000/\(∀ v ∈ ws,z0p v<2 ^ 20000)/\∀ H' d,d4 H H'->bg3 b ws d->Q (.int d) H'
abbrev v9:Stmt:=top 17
theorem v3:i8 ["wholes","bottom","longest","product","whole"] ["wholes","bottom"] (d6 v9):=by and_intros
theorem aa8 {f fc:Addr} {tL:Tok} (d:Df K mg "divisor_for_all" v9 ["wholes","bottom"] f) (G_common_divisor:Def P w K mg base CX0 1 "common_divisor" fc ["one","other"] ap6) (c_LONG:mg "LONG" = some (.int 1000 tL)) (n_max:mg "max" = none):Def P w K mg base CX0 2 "divisor_for_all" f ["wholes","bottom"] (bf0 K):=by
  refine d.ok (N:=["wholes","bottom","longest","product","whole"]) v3 (by rintro vs H Q E ⟨a,b,c,h,_⟩;rw [h];rfl) (λcdv A outer s H vs Q E hr h=>?_)
  obtain ⟨a,ws,b,rfl,hS,hl,hb0,hb,hws,k⟩:=h
  refine ⟨_, (c7 (d9 (i := 2) v3.nd rfl (Or.inl rfl) (bb2 rfl rfl n_max (b8 (D6 (Nc := ["whole"]) (caps := [none]) rfl (T9.of (osc := d6 v9) (N := ["wholes", "bottom", "longest", "product", "whole"]) (ks := []) rfl rfl rfl rfl A3 (by decide +kernel)) (v6 (pv 0)) (fun C s₂ H₂ fp pins => (i3 (i := 0) (show List.Nodup (["whole"] : List Str) by decide +kernel) rfl (Or.inl rfl) (Or.inr rfl))) (fun C s₂ H₂ fp pins => (show PE _ _ (au8 K "int" _ _) from by exact (aa7 PySem.F.plainAttrs_int PySem.F.slot_int_bit_length PySem.F.type_int_bit_length Q5 (pv 0))))) b9)))
      (c7 (w8 (PW.pt (Q3 (i9 am8 (aa7 PySem.F.plainAttrs_int PySem.F.slot_int_bit_length PySem.F.type_int_bit_length Q5 (pv 1)) (ak9 (v:=.int 1000) rfl c_LONG ⟨_,rfl⟩) (k4 _)) (af2 (i9 Z6 (aa7 PySem.F.plainAttrs_int PySem.F.slot_int_bit_length PySem.F.type_int_bit_length Q5 (pv 1)) (f8 m8 c6 (pv 2)) (k4 _))))) (c9 (i5 (pv 1))) m6)
      (c7 (d9 (i:=3) v3.nd rfl (Or.inl rfl) c6)
      (c7 (C2 PassesOwn.never rfl (v6 (pv 0)) (i3 (i:=4) v3.nd rfl (Or.inl rfl)) (c9 (w8 (J2 (pv 4) (λ_=>rfl)) (c9 (d9 (i:=3) v3.nd rfl (Or.inl rfl) (f8 D7 (f8 m8 (pv 3) (pv 4)) (pv 1)))) m6)))
      (c9 (i5 (d7 G_common_divisor hr (b8 (pv 1) (b8 (pv 3) b9)) e9))))))),?_⟩
  rw [show start ["wholes","bottom","longest","product","whole"] [.ref a,.int b]=[some (.ref a),some (.int b),none,none,none] from rfl]
  subst_eqs
  have triv:bg3 b ws b:=⟨hb0,Int.dvd_refl _,λ_ _ _=>rfl⟩;refine ⟨⟨_,hS⟩,λD hD=>?_⟩;refine L9 (ws.map V.int) (λi σ H2 => ∃ o,σ=[o]/\d4 H H2/\∃ ns:List Int,ns.length=i/\H2 D=some (.lst (ns.map V.int))) ⟨_,rfl,d4.new hD _,[],rfl,c8⟩ (by rintro i σ H2 _ ⟨_,_,s2,_⟩;exact s2.seq hS) ?_ ?_
  · rintro i x σ H2 hx ⟨o,rfl,s2,ns,hn,e2⟩
    have hi:=(List.getElem?_eq_some_iff.mp hx).1;obtain ⟨v,hw,rfl⟩:=J3 hx
    subst_eqs
    refine D4.mk hi e2 ?_ ⟨_,rfl,s2.over hD _,?_⟩
    · rw [List.length_map] at hi ⊢
      exact Nat.lt_of_lt_of_le (show ns.length<101 by omega) (by decide)
    · refine ⟨ns ++ [(Builtin.Int.intBits v:Int)],by simp [hn],?_⟩
      rw [c8,List.map_append];rfl
  · rintro σ H2 ⟨o,rfl,s2,ns,hn,e2⟩
    refine ⟨D,rfl,ns,SqL.of e2,λi=>?_⟩;refine t7 (λ_=>k H2 b s2 triv) (λ_=>?_);refine ⟨bi8 (by decide),t7 (λ_=>k H2 b s2 triv) (λ_=>?_)⟩
    refine ⟨_,rfl,a,rfl,⟨_,s2.seq hS⟩,J4 (xs:=ws.map V.int) (λi' σ H3=>H3=H2/\∃ p o,σ=[some (.ref a),some (.int b),some (.int i),some (.int p),o]/\p.natAbs<2 ^ 6000/\∃ e,ah8 (ws.take i')=p+b*e) ⟨rfl,1,_,rfl,Nat.lt_of_lt_of_le (show _<2 ^ 1 by decide) (c5 (by decide)),0,by simp [ah8]⟩ (by rintro i' σ H3 _ ⟨rfl,_⟩;exact s2.seq hS) ?_ ?_⟩
    · rintro i' x σ H3 hx ⟨rfl,p,o,rfl,hp,e,he⟩
      obtain ⟨v,hv,rfl⟩:=J3 hx;have hvm:=hws v (List.mem_of_getElem? hv);have es:ws.take (i'+1)=ws.take i' ++ [v]:=by rw [List.take_succ,hv];rfl
      simp! [ap3]
      refine t7 (λh=>?_) (λh=>?_)
      · have hv0:v ≠ 0:=by simpa using h
        refine ⟨C6 hp hvm,⋯,?_,(p*v).fdiv b+e*v,?_⟩
        · have h1:=Int.fmod_nonneg_of_pos (p*v) hb0
          have h2:=Int.fmod_lt_of_pos (p*v) hb0;omega
        · rw [es,am4,if_neg hv0,he]
          have:=Int.fmod_add_mul_fdiv (p*v) b
          grind
      · have hv0:v=0:=by simpa using h
        refine ⟨hp,e,?_⟩;rw [es,am4,if_pos hv0,he]
    · rintro σ H3 ⟨rfl,p,o,rfl,hp,e,he⟩
      rw [List.length_map,List.take_length] at he
      simp! [ap6]
      refine ⟨.inl hb,k _ _ s2 ⟨?_,Int.gcd_dvd_left _ _,λv hv hv0=>?_⟩⟩
      · have:=L4 (t:=p) (b:=b) ⋯
        rw [Int.gcd_comm] at this;omega
      · have e1 : Int.gcd b p = Int.gcd b (ah8 ws) := by
          rw [he];refine Nat.dvd_antisymm ?_ ?_
          · exact Int.dvd_gcd (Int.gcd_dvd_left _ _) (Int.dvd_add (Int.gcd_dvd_right _ _) (Int.dvd_trans (Int.gcd_dvd_left _ _) ⟨e,rfl⟩))
          · refine Int.dvd_gcd (Int.gcd_dvd_left _ _) ?_
            have h1:=Int.gcd_dvd_right b (p+b*e);have h2:((Int.gcd b (p+b*e):Nat):Int) ∣ b*e:=Int.dvd_trans (Int.gcd_dvd_left _ _) ⟨e,rfl⟩;have:=Int.dvd_sub h1 h2
            rwa [Int.add_sub_cancel] at this
        rw [e1];exact aW7 (aO4 hv hv0)
def ar3 (K:q0a):Sp:=λvs H Q _ => ∃ (x:V) (s:Rat) (a:Addr) (ws:List Int),vs=[x,.ref a]/\Num K H x s/\SqL K H a (ws.map V.int)/\s.den<2 ^ 6000/\s.num.natAbs<2 ^ 6000/\(∀ v ∈ ws,z0p v<2 ^ 20000)/\ws.length<=100 /\
 ∀ r xs H',d4 H H'->H r=none->H' r=some (.lst xs)->k5 H' xs (scl s ws)->Q (.ref r) H'
abbrev W8:Stmt:=top 18
theorem E1:i8 ["scale","wholes","divisor","numbers","whole","top","bottom","shared"] ["scale","wholes"] (d6 W8):=by and_intros
theorem aI2 {f fd fc:Addr} (d:Df K mg "lowered" W8 ["scale","wholes"] f) (G_divisor_for_all:Def P w K mg base CX0 2 "divisor_for_all" fd ["wholes","bottom"] (bf0 K)) (G_common_divisor:Def P w K mg base CX0 1 "common_divisor" fc ["one","other"] ap6):Def P w K mg base CX0 3 "lowered" f ["scale","wholes"] (ar3 K):=by
  refine d.ok (N:=["scale","wholes","divisor","numbers","whole","top","bottom","shared"]) E1 (by rintro vs H Q E ⟨a,b,c,e,h,_⟩;rw [h];rfl) (λcdv A outer s H vs Q E hr h=>?_)
  obtain ⟨x,sc,a,ws,rfl,⟨px,rfl,hx⟩,hS,hd,hn,hw,hl,k⟩:=h
  refine ⟨_, (c7 (af3 (pv 0) (show PG _ _ (N3 K 2 (p9 (m9 5) (p9 (m9 6) N4))) from by (refine E2 (n := 2) ?_ ?_ ?_ ?_; rfl; (refine j9 ?_ ?_ ?_; (exact (i3 (i := 5) E1.nd rfl (Or.inl rfl))); (refine j9 ?_ ?_ ?_; (exact (i3 (i := 6) E1.nd rfl (Or.inl rfl))); (exact y6); rfl); rfl); rfl; rfl)))
      (c7 (d9 (i:=2) E1.nd rfl (Or.inl rfl) (d7 G_divisor_for_all hr (b8 (pv 1) (b8 (pv 6) b9)) e9))
      (c7 (d9 (i:=3) E1.nd rfl (Or.inl rfl) (z7 b9))
      (c7 (C2 PassesOwn.never rfl (v6 (pv 1)) (i3 (i:=4) E1.nd rfl (Or.inl rfl)) (c7 (d9 (i:=7) E1.nd rfl (Or.inl rfl) (aD1 (J2 (pv 4) (λ_=>rfl)) (d7 G_common_divisor hr (b8 (pv 2) (b8 (pv 4) b9)) e9) (pv 6)))
      (c9 (ac6 (aU7 PySem.F.plainAttrs_list PySem.F.slot_list_append PySem.F.type_list_append Q6 (pv 3) (b8 (y7 (b8 (f8 m8 (f8 z5 (pv 4) (pv 7)) (pv 5)) (b8 (f8 z5 (pv 6) (pv 7)) b9))) b9))))))
      (c9 (i5 (pv 3))))))),?_⟩
  rw [show start ["scale","wholes","divisor","numbers","whole","top","bottom","shared"] [.ref px,.ref a]=[some (.ref px),some (.ref a),none,none,none,none,none,none] from rfl]
  simp! [ap3]
  refine ⟨_,hx,rfl,_,_,rfl,_,_,rfl,rfl,a,ws,_,rfl,hS,hl,by have:=n8 sc;omega,by rw [Int.natAbs_natCast];exact hd,hw,λH1 dv s1 ⟨dv0,dv1,dv2⟩=>⟨by decide,λp hp=>?_⟩⟩
  refine ⟨_,rfl,a,rfl,⟨_,(s1.trans (d4.new hp _)).seq hS⟩,J4 (xs:=ws.map V.int) (λi σ H2 => ∃ o1 o2,σ=[some (.ref px),some (.ref a),some (.int dv),some (.ref p),o1,some (.int sc.num),some (.int sc.den),o2]/\d4 H1 H2/\∃ xs,H2 p=some (.lst xs)/\k5 H2 xs (scl sc (ws.take i))) ⟨_,_,rfl,d4.new hp _,[],c8,.nil⟩ (λi σ H2 _ ⟨_,_,_,s2,_⟩=>s2.seq (s1.seq hS)) ?_ ?_⟩
  · rintro i x σ H2 hx' ⟨o1,o2,rfl,s2,xs,e2,n2⟩
    have hi:=(List.getElem?_eq_some_iff.mp hx').1;obtain ⟨v,hv,rfl⟩:=J3 hx';have dp:=n8 sc;have es:ws.take (i+1)=ws.take i ++ [v]:=by rw [List.take_succ,hv];rfl
    have hvb:=hw v (List.mem_of_getElem? hv);have hdb:(sc.den:Int).natAbs<2 ^ 6000:=by rw [Int.natAbs_natCast];exact hd
    simp only [ipM,aC5,aC1,M0,D8,ah1,aF1,aC3,ah3,tSl,ag8,N6,aC2,aC4,O7,ai3,G0,List.map_cons,List.map_nil,Option.bind_none,Option.bind_some,Option.join_some,au4,aA9,aB1,tOr,aA7,Y9,tB,tOp,tUn,au8,tBM,K1,tC,tCB,au5,ap5,m9,aF5,N3,p9,N4,P6,aj0,au6,aA6,aA8,tIf,ah4,ag9,au7,ah2,ah0,U1,aB0,ipI,rI,rI0,rU,O6,aq2,aC6,ah6,rEq,rNe,aC7,aC8,ai1,ai0,ai2,ab5,Cx.nox,Cx.wish,List.getElem?_cons_zero,List.getElem?_cons_succ,List.set_cons_zero,List.set_cons_succ,Option.some.injEq,V.int.injEq,V.bl.injEq,V.ref.injEq,V.str.injEq,exists_eq_left',exists_eq_left,exists_and_left,true_and,and_true,List.cons.injEq,reduceCtorEq,Bool.false_eq_true,if_false,if_true,exists_const,↓reduceIte,tyV,List.length_cons,List.length_nil,exists_eq,List.append_nil,List.cons_append,List.nil_append,decide_eq_true_eq,not_true_eq_false,not_false_eq_true,Bool.not_eq_true',decide_eq_false_iff_not,Bool.not_true,Bool.not_false,and_assoc,false_and,false_or,or_false,ap3,ap6]
    have fin : ∀ (A B : Int), A = (sc * (v : Rat)).num → B = ((sc * (v : Rat)).den : Int) → ∀ p1, H2 p1 = none → ∃ x, upd H2 p1 (.tup [.int A, .int B]) p = some (.lst x) ∧ x.length < sizeLine ∧ d4 H1 (upd (upd H2 p1 (.tup [.int A, .int B])) p (.lst (x ++ [.ref p1]))) ∧
        ∃ xs,upd (upd H2 p1 (.tup [.int A,.int B])) p (.lst (x ++ [.ref p1])) p=some (.lst xs)/\k5 (upd (upd H2 p1 (.tup [.int A,.int B])) p (.lst (x ++ [.ref p1]))) xs (scl sc (ws.take (i+1))):=by
      intro A B hA hB p1 hp1;have e:=d4.new hp1 (.tup [.int A,.int B]) _ _ e2;refine ⟨xs,e,?_,(s2.trans (d4.new hp1 _)).over hp _,_,c8,?_⟩
      · rw [n2.length,B7,List.length_take]
        exact Nat.lt_of_le_of_lt (show _<=100 by omega) (by decide)
      · have e3:scl sc (ws.take (i+1))=scl sc (ws.take i) ++ [sc*(v:Rat)]:=by rw [es];simp [scl]
        rw [e3];exact ((n2.mono (C9.new hp1)).append (.cons (by rw [c8];unfold v7;rw [hA,hB]) .nil)).mono (C9.lst e)
    refine t7 (λh=>?_) (λh=>?_)
    · have hv0:v ≠ 0:=by simpa using h
      obtain ⟨q1,q2⟩:=bb8 sc hv0;have gp:=L4 (t:=(sc.den:Int)) hv0;have gl:=aF3 (b:=v) (show (sc.den:Int) ≠ 0 by omega) hdb
      have hdvb:dv.natAbs<2 ^ 6000:=by
        have:=Int.le_of_dvd ⋯ dv1;omega
      rw [dv2 v (List.mem_of_getElem? hv) hv0];refine ⟨.inl hdvb,.inl ⟨_,SqL.of e2⟩,P3 ⋯ (O9 gl),C6 (ao2 ⋯ (Int.gcd_dvd_right _ _) hvb) hn,P3 ⋯ (O9 gl),y3,fin _ _ q1 q2⟩
    · have hv0:v=0:=by simpa using h
      subst hv0;have z1:sc*((0:Int):Rat)=0:=by rw [Rat.intCast_zero];grind
      refine ⟨.inl ⟨_,SqL.of e2⟩,P3 ⋯ (O9 hdb),C6 (m:=1) (by rw [Int.zero_fdiv];decide) hn,P3 ⋯ (O9 hdb),y3,fin _ _ ?_ ?_⟩
      · rw [z1,Int.zero_fdiv,Int.zero_mul];rfl
      · rw [z1,Int.fdiv_self ⋯];rfl
  · rintro σ H2 ⟨o1,o2,rfl,s2,xs,e2,n2⟩
    rw [List.length_map,List.take_length] at n2;exact ⟨_,rfl,k p xs H2 (s1.trans s2) (s1.free hp) e2 n2⟩
end
def bg8:List D->Bool
 | [.v (.int _),.v (.int _),.v (.int _)]=>true
 | _=>false
mutual
def noW:D->Bool
 | .v _=>true
 | .tup ds=>bi5 ds
 | .lst ds => !bg8 ds && bi5 ds
def bi5:List D->Bool
 | []=>true
 | d :: ds=>noW d && bi5 ds
end
mutual
def smD (m:Nat):D->Prop
 | .v (.int i)=>i.natAbs<2 ^ m
 | .v _=>True
 | .tup ds=>bg9 m ds
 | .lst ds=>bg9 m ds
def bg9 (m:Nat):List D->Prop
 | []=>True
 | d :: ds=>smD m d/\bg9 m ds
end
def ae1 (p q:Rat):Bool:=decide (p.num*(q.den:Int)<q.num*(p.den:Int))
structure IsBox (B:List (Rat × Rat)):Prop where
 l2:2<=B.length
 l8:B.length<=8
 le:∀ s ∈ B,s.1<=s.2
 last:∀ s,B[B.length-1]? = some s->0<s.1
def zs (t b a:Int):List Int->List Int
 | []=>[b*a]
 | x :: r=>(b*a+t*x) :: zs t b x r
structure MidN (n:Nat) (R:List Rat):Prop where
 ex:∃ (B:Nat) (ws:List Int),0<B/\B<2 ^ (40*n+1)/\R=scl (z0a 1 B) ws/\∀ v ∈ ws,z0p v<2 ^ (41*n+1)
 len:R.length=n+1
 last:R[n]? = some 1
inductive aZ8 (H:Hp):List V->List (Rat × Rat)->Prop where
 | nil:aZ8 H [] []
 | cons {p a b:Addr} {s:Rat × Rat} {vs:List V} {B:List (Rat × Rat)} (h:H p=some (.tup [.ref a,.ref b])) (ha:H a=some (.tup (v7 s.1))) (hb:H b=some (.tup (v7 s.2))) (t:aZ8 H vs B):aZ8 H (.ref p :: vs) (s :: B)
mutual
theorem aD6:∀ d:D,okD d d=true
 | .v _=>by rw [okD]
 | .tup ds=>by rw [okD];exact af7 ds
 | .lst ds=>by rw [okD];exact af7 ds
theorem af7:∀ ds:List D,Y5 ds ds=true
 | []=>by simp [Y5]
 | d :: ds=>by rw [Y5,aD6 d,af7 ds];rfl
end
structure TbX (u:Addr) (H:Hp) (a:Addr) (ts:List Addr) (M:List (List Rat)):Prop where
 au:a ≠ u
 tu:∀ t ∈ ts,t ≠ u
 at':H a=some (.lst (ts.map V.ref))
 rws:Rws H ts M
structure LsX (u:Addr) (H:Hp) (a:Addr) (xs:List V) (qs:List Rat):Prop where
 au:a ≠ u
 at':H a=some (.lst xs)
 nums:k5 H xs qs
def hc (a:Nat->Rat) (i j:Nat):Rat:=if (i+j) % 2=1 then a i*a j else 0
def hf (a:Nat->Rat):Nat->Nat->Rat
 | 0,j=>hc a 0 (j+1)
 | i+1,j=>hc a (i+1) (j+1)-hf a i (j+1)
def pw (x:Rat):Nat->Rat
 | 0=>1
 | i+1=>pw x i*x
theorem W3 (c:Rat) (f:Nat->Rat):∀ n,c*j7 f n=j7 (λi=>c*f i) n
 | 0=>by simp [j7]
 | n+1=>by rw [j7,j7,<- W3 c f n];grind
theorem ae5 (f g:Nat->Rat):∀ n,j7 f n+j7 g n=j7 (λi=>f i+g i) n
 | 0=>by simp [j7];grind
 | n+1=>by rw [j7,j7,j7,<- ae5 f g n];grind
def hR (a:Nat->Rat) (n i:Nat) (y:Rat):Rat:=j7 (λj=>hf a i j*pw y j) n
def hC (a:Nat->Rat) (n i:Nat) (y:Rat):Rat:=j7 (λj=>hc a i j*pw y j) (n+1)
def sg (i:Nat):Rat:=if i % 2=0 then 1 else -1
def OvB (B W:Nat) (q:Rat):Prop:=∃ v:Int,q=z0a v B/\v.natAbs<2 ^ W
theorem OvB.mono {B V W:Nat} {q:Rat} (h:OvB B V q) (l:V<=W):OvB B W q:=let ⟨v,e,b⟩:=h;⟨v,e,q0b b (c5 l)⟩
theorem OvB.zero (B W:Nat):OvB B W 0:=⟨0,by rw [Rat.zero_divInt],y0k _⟩
theorem OvB.mul {B C V W:Nat} {p q:Rat} (h:OvB B V p) (k:OvB C W q):OvB (B*C) (V+W) (p*q):=by
 obtain ⟨v,rfl,b⟩:=h;obtain ⟨u,rfl,c⟩:=k;refine ⟨v*u,by rw [y0a,z0s],?_⟩
 rw [q0x,j0v];exact j0g b c
theorem OvB.add {B W:Nat} (hB:0<B) {p q:Rat} (h:OvB B W p) (k:OvB B W q):OvB B (W+1) (p+q):=by
 obtain ⟨v,rfl,b⟩:=h;obtain ⟨u,rfl,c⟩:=k;refine ⟨v+u,?_,?_⟩
 ·have hz:(B:Int) ≠ 0:=⋯
  rw [m0n _ _ hz hz];refine (z0n (y0m hz hz) hz).mpr ?_
  grind
 ·have:=Int.natAbs_add_le v u
  rw [v0k];omega
theorem OvB.bdN {B W:Nat} (hB:0<B) (hW:B<2 ^ W) {q:Rat} (h:OvB B W q):BdN W q:=by
 obtain ⟨v,rfl,b⟩:=h;have:=G5 (t:=v) (b:=(B:Int)) ⋯;rw [q0r] at this;exact ⟨q0e this.1 b,q0e this.2 hW⟩
theorem R8 {α:Type} {xs:List α} {x:α} (h:xs[xs.length-1]? = some x):atI xs (-1)=some x:=by
 have hp:xs.length-1<xs.length:=(q0s.mp h).1
 have e:ixN xs.length (-1)=some (xs.length-1):=by
  unfold ixN;rw [if_neg (by decide)]
  rw [if_pos ⋯]
  congr 1
  omega
 unfold atI;rw [e];exact h
def aQ (qs:List Rat) (k:Nat):Rat:=(qs[k]?).getD 0
def aZ (ws:List Int) (k:Nat):Int:=(ws[k]?).getD 0
theorem aZ5 (s:Rat) (ws:List Int):aQ (scl s ws)=λk=>s*(aZ ws k:Rat):=by
 funext k
 unfold aQ aZ scl;rw [q0q]
 cases ws[k]? with
 | none=>simp [q0k]
 | some v=>simp
theorem aG9 {ws:List Int} {W:Nat} (h:∀ v ∈ ws,z0p v<2 ^ W):∀ k,(aZ ws k).natAbs<2 ^ W:=λk=>by
 unfold aZ
 cases q:ws[k]? with
 | none=>exact y0k _
 | some v=>exact h v (z0c q)
theorem au0 {α:Type} [Add α]:∀ (f:List α) (k:Nat) (x v:α),v ∈ E7 f k x->v ∈ f \/ ∃ y ∈ f,v=y+x
 | [],_,_,_,h=>by cases h
 | y :: r,0,x,v,h=>by
  rcases z0t.mp h with z | z
  ·exact .inr ⟨y,q0h,z⟩
  ·exact .inl (q0f _ z)
 | y :: r,k+1,x,v,h=>by
  rcases z0t.mp h with z | z
  ·exact .inl (by rw [z];exact q0h)
  ·rcases au0 r k x v z with w | ⟨u,hu,e⟩
   ·exact .inl (q0f _ w)
   ·exact .inr ⟨u,q0f _ hu,e⟩
theorem aR2 {B W:Nat} (hB:0<B) {f:List Rat} {k:Nat} {x:Rat} (hf:∀ v ∈ f,OvB B W v) (hx:OvB B W x):∀ v ∈ E7 f k x,OvB B (W+1) v:=λv hv=>by
 rcases au0 f k x v hv with h | ⟨y,hy,rfl⟩
 ·exact (hf v h).mono ⋯
 ·exact (hf y hy).add hB hx
def cv (f g:Nat->Rat) (k:Nat):Rat:=j7 (λi=>f i*g (k-i)) (k+1)
theorem aN5 (p q:List Rat) (k:Nat):aQ (J8 p q) k=cv (aQ p) (aQ q) k:=by
 by_cases hp:p=[]
 ·subst hp
  have:J8 [] q=[]:=by unfold J8;rw [if_pos (.inl rfl)]
  rw [this]
  symm
  exact D9 _ λi _=>by show (0:Rat)*_=0;grind
 by_cases hq:q=[]
 ·subst hq
  have:J8 p []=[]:=by unfold J8;rw [if_pos (.inr rfl)]
  rw [this]
  symm
  exact D9 _ λi _=>by show _*(0:Rat)=0;grind
 by_cases hk:k<p.length+q.length-1
 ·have:=aV7 hp hq hk
  unfold aQ;rw [this];rfl
 ·have h1:aQ (J8 p q) k=0:=by
   unfold aQ;rw [q0d (by rw [aV6 hp hq];omega)];rfl
  rw [h1]
  symm
  refine D9 _ λi hi=>?_
  by_cases h2:i<p.length
  ·have:aQ q (k-i)=0:=by unfold aQ;rw [q0d ⋯];rfl
   rw [this];grind
  ·have:aQ p i=0:=by unfold aQ;rw [q0d ⋯];rfl
   rw [this];grind
theorem be2 {qs:List Rat} {m:Nat} (t:x9 qs m) (k:Nat):aQ (qs.take m) k=aQ qs k:=by
 unfold aQ;rw [g0g]
 split
 ·rfl
 ·cases h:qs[k]? with
  | none=>rfl
  | some v=>rw [t.zero k v ⋯ h];rfl
theorem bg7 {p q:List Rat} (tp:x9 p p.length) (tq:x9 q q.length) (h:∀ k,aQ p k=aQ q k):p=q:=by
 have key:∀ {p q:List Rat},x9 p p.length->(∀ k,aQ p k=aQ q k)->p.length<=q.length:=fun {p q} tp h=>by
  by_cases z:p.length=0
  ·omega
  ·have hl:p.length-1<p.length:=⋯
   have:=tp.last z _ (q0c hl);have e:=h (p.length-1);refine Classical.byContradiction λw=>this ?_;unfold aQ at e;rw [q0c hl,q0d ⋯] at e;exact e
 have hl:p.length=q.length:=by
  have h1:=key tp h;have h2:=key tq λk=>(h k).symm;omega
 refine u0g λk=>?_
 by_cases hk:k<p.length
 ·have e:=h k
  unfold aQ at e;rw [q0c hk,q0c ⋯] at e ⊢;exact congrArg some e
 ·rw [q0d ⋯,q0d ⋯]
theorem ab8 (f g h:Nat->Rat) (k:Nat):cv (λi=>f i+g i) h k=cv f h k+cv g h k:=by
 unfold cv;rw [ae5];exact j6 λi _=>by grind
theorem ab7 (c:Rat) (f h:Nat->Rat) (k:Nat):cv (λi=>c*f i) h k=c*cv f h k:=by
 unfold cv;rw [W3];exact j6 λi _=>by grind
theorem K2 (g:Nat->Rat) (t:Nat):∀ n,j7 (λi=>if i=t then g i else 0) n=if t<n then g t else 0
 | 0=>by rw [if_neg ⋯];rfl
 | n+1=>by
  rw [j7,K2 g t n]
  by_cases h:t<n
  ·rw [if_pos h,if_neg ⋯,if_pos ⋯];grind
  ·by_cases h2:n=t
   ·rw [if_neg h,if_pos h2,if_pos ⋯,h2];grind
   ·rw [if_neg h,if_neg h2,if_neg ⋯];grind
theorem X7 (d:Rat) (t:Nat) (h:Nat->Rat) (k:Nat):cv (λi=>if i=t then d else 0) h k=if t<=k then d*h (k-t) else 0:=by
 unfold cv;have:j7 (λi=>(if i=t then d else 0)*h (k-i)) (k+1)=j7 (λi=>if i=t then d*h (k-i) else 0) (k+1):=j6 λi _=>by split <;> grind
 rw [this,K2]
 by_cases e:t<=k
 ·rw [if_pos ⋯,if_pos e]
 ·rw [if_neg ⋯,if_neg e]
def zc (ws:List Int) (k:Nat):Rat:=(aZ ws k:Rat)
theorem ao0 (f:List Int) (i:Nat) (x:Int) (q:List Int) {k:Nat} (y:Int) (hy:f[k]? = some y):∀ j,(p8 0 f i x q j)[k]? = some (y+if i<=k/\k<i+j then x*(q[k-i]?).getD 0 else 0)
 | 0=>by
  rw [p8,hy,if_neg ⋯];congr 1;omega
 | j+1=>by
  have ih:=ao0 f i x q y hy j;rw [p8]
  by_cases e:k=i+j
  ·subst e
   rw [T2 _ _ _ _ ih,if_neg ⋯,if_pos ⋯,show i+j-i=j by omega]
   congr 1;omega
  ·rw [P4 _ _ _ _ e,ih]
   by_cases h:i<=k/\k<i+j
   ·rw [if_pos h,if_pos ⋯]
   ·rw [if_neg h,if_neg ⋯]
structure k7 (ws:List Int) (m:Nat):Prop where
 le:m<=ws.length
 zero:∀ i v,m<=i->ws[i]? = some v->v=0
 last:m ≠ 0->∀ v,ws[m-1]? = some v->v ≠ 0
theorem ae2 {ws:List Int} {m:Nat} (t:k7 ws m) (k:Nat):aZ (ws.take m) k=aZ ws k:=by
 unfold aZ;rw [g0g]
 split
 ·rfl
 ·cases h:ws[k]? with
  | none=>rfl
  | some v=>rw [t.zero k v ⋯ h];rfl
theorem k7.self {ws:List Int} {m:Nat} (t:k7 ws m):k7 (ws.take m) (ws.take m).length:=by
 have hm:(ws.take m).length=m:=by rw [j0b];have:=t.le;omega
 refine ⟨q0t _,λi v hi h=>?_,λhn v h=>?_⟩
 ·rw [q0d hi] at h;cases h
 ·rw [hm] at hn h
  rw [g0g,if_pos ⋯] at h;exact t.last hn v h
def Dv (one other Q R:List Int) (many:Int):Prop:=∀ k,(many:Rat)*zc one k=cv (zc Q) (zc other) k+zc R k
theorem bd0 {one other Q R R':List Int} {many c d:Int} {t:Nat} (h:Dv one other Q R many) (ht:t<Q.length) (hQ:aZ Q t=0) (hR:∀ k,aZ R' k=c*aZ R k-if t<=k then d*aZ other (k-t) else 0) :
  Dv one other ((Q.map (c * ·)).set t d) R' (many*c):=by
 intro k
 have e1:zc ((Q.map (c * ·)).set t d)=λi=>(c:Rat)*zc Q i+if i=t then (d:Rat) else 0:=by
  funext i
  unfold zc aZ;rw [List.getElem?_set]
  by_cases z:t=i
  ·subst z
   rw [if_pos rfl,if_pos (by rw [q0m];exact ht),if_pos rfl]
   unfold aZ at hQ;rw [hQ,q0k];simp only [Option.getD_some]
   grind
  ·rw [if_neg z,if_neg (λw=>z w.symm),q0q]
   cases Q[i]? with
   | none=>simp [q0k];grind
   | some v=>simp [q0n];grind
 have e2:zc R' k=(c:Rat)*zc R k-if t<=k then (d:Rat)*zc other (k-t) else 0:=by
  unfold zc;rw [hR k,Rat.intCast_sub,q0n]
  split
  ·rw [q0n]
  ·rw [q0k]
 rw [e1,ab8 (λi=>(c:Rat)*zc Q i) (λi=>if i=t then (d:Rat) else 0),ab7,X7,e2,q0n];have:=h k;have e3:(many:Rat)*(c:Rat)*zc one k=(c:Rat)*((many:Rat)*zc one k):=by grind
 rw [e3,this]
 grind
theorem OvB.up {B W:Nat} {q:Rat} (h:OvB B W q) (hB:0<B) {C c:Nat} (hC:0<C) (hc:C<2 ^ c):OvB (B*C) (W+c) q:=by
 obtain ⟨v,rfl,b⟩:=h;refine ⟨v*C,?_,?_⟩
 ·rw [z0s]
  refine (z0n ⋯ (y0m ⋯ ⋯)).mpr ?_
  grind
 ·rw [q0x,q0r,j0v]
  exact j0g b hc
theorem at3 {B W:Nat} (hB:0<B) (hW:B<2 ^ W) {qs:List Rat} (h:∀ x ∈ qs,OvB B W x):ClN W qs:=by
 have:∃ vs:List Int,qs=scl (z0a 1 B) vs/\∀ v ∈ vs,z0p v<2 ^ W:=by
  induction qs with
  | nil=>exact ⟨[],rfl,by simp⟩
  | cons q qs ih =>
   obtain ⟨vs,e,hv⟩:=ih λx hx=>h x (q0f _ hx);obtain ⟨v,e2,b⟩:=h q q0h;refine ⟨v :: vs,?_,λu hu=>?_⟩
   ·rw [e]
    show q :: _=(z0a 1 B*(v:Rat)) :: _;rw [am9,<- e2];rfl
   ·rcases z0t.mp hu with z | z
    ·rw [z];exact b
    ·exact hv u z
 obtain ⟨vs,rfl,hv⟩:=this;exact aQ4 hB hW hv
def bp1 (u:Addr) (H:Hp) (v:V) (ps qs:List Rat):Prop:=v=.non \/ ∃ td l1 l2 zs1 zs2 g0 g1,v=.ref td/\td ≠ u/\H td=some (.tup [.ref l1,.ref l2])/\LsX u H l1 zs1 g0/\LsX u H l2 zs2 g1/\x9 g0 g0.length/\x9 g1 g1.length/\g1.length<qs.length/\∀ k,aQ ps k=cv (aQ qs) (aQ g0) k+aQ g1 k
structure PairOk (u:Addr) (H:Hp) (ap aq:Addr) (due:V) (xs ys:List V) (ps qs:List Rat) (S W1 W2:Nat):Prop where
 lp:LsX u H ap xs ps
 lq:LsX u H aq ys qs
 tp:x9 ps ps.length
 tq:x9 qs qs.length
 q0:qs ≠ []
 c1:ClN W1 ps
 c2:ClN W2 qs
 w1:1<=W1
 w2:1<=W2
 w3:W2<=690
 t:W1+S*(W2+1)+W2<=2300
 s:ps.length+1<=qs.length+S
 pl:ps.length<=16
 ql:qs.length<=16
 due:bp1 u H due ps qs
def mA (a b:Rat) (f:Nat->Rat):Nat->Rat
 | 0=>a*f 0
 | k+1=>a*f (k+1)+b*f k
theorem aR6 (ws:List Int):zc ws=aQ (scl 1 ws):=by
 rw [aZ5];funext k
 show _=1*zc ws k
 grind
def dl:Nat->Rat:=λk=>if k=0 then 1 else 0
theorem php:∀ (m n:Nat) (f:Nat->Nat),(∀ i,i<n->f i<m)->m<n->∃ i j,i<j/\j<n/\f i=f j
 | 0,n,f,hf,h=>absurd (hf 0 h) ⋯
 | m+1,0,f,hf,h=>⋯
 | m+1,n+1,f,hf,h=>by
  by_cases c:∃ i,i<n/\f i=f n
  ·obtain ⟨i,hi,e⟩:=c
   exact ⟨i,n,hi,⋯,e⟩
  ·have hn:=hf n ⋯
   have ne:∀ i,i<n->f i ≠ f n:=λi hi e=>c ⟨i,hi,e⟩
   obtain ⟨i,j,h1,h2,h3⟩:=php m n (λi=>if f i<f n then f i else f i-1) (λi hi=>by
    have:=hf i ⋯;have:=ne i hi
    show (if f i<f n then f i else f i-1)<m
    split <;> omega) ⋯
   refine ⟨i,j,h1,⋯,?_⟩;have a:=ne i ⋯;have b:=ne j h2
   split at h3 <;> split at h3 <;> omega
def cod (b:Nat) (y:Nat->Nat):Nat->Nat
 | 0=>0
 | M+1=>y 0+b*cod b (λe=>y (e+1)) M
def dig (b t:Nat):Nat->Nat
 | 0=>t % b
 | i+1=>dig b (t / b) i
theorem az4 {b:Nat} (hb:0<b):∀ i t,dig b t i<b
 | 0,t=>Nat.mod_lt _ hb
 | i+1,t=>az4 hb i (t / b)
theorem az8 {b:Nat} (hb:0<b):∀ N t,t<b ^ N->cod b (dig b t) N=t
 | 0,t,h=>by simp at h;rw [h];rfl
 | N+1,t,h=>by
  have h1:t / b<b ^ N:=by rw [v0k] at h;exact Nat.div_lt_of_lt_mul (by rw [u0x];exact h)
  have ih:=az8 hb N (t / b) h1
  show t % b+b*cod b (dig b (t / b)) N=t;rw [ih];exact Nat.mod_add_div t b
theorem aZ0 {b:Nat}:∀ M (y:Nat->Nat),(∀ e,e<M->y e<b)->cod b y M<b ^ M
 | 0,y,h=>by simp [cod]
 | M+1,y,h=>by
  have ih:=aZ0 M (λe=>y (e+1)) λe he=>h (e+1) ⋯;have h0:=h 0 ⋯
  show y 0+b*cod b (λe=>y (e+1)) M<b ^ (M+1);rw [v0k,u0x (b ^ M)];have:b*(cod b (λe=>y (e+1)) M+1)<=b*b ^ M:=z0j _ ih;rw [v0g] at this;omega
theorem aN3 {b:Nat} (hb:0<b):∀ M (y z:Nat->Nat),(∀ e,e<M->y e<b)->(∀ e,e<M->z e<b)->cod b y M=cod b z M->∀ e,e<M->y e=z e
 | 0,_,_,_,_,_,e,he=>⋯
 | M+1,y,z,hy,hz,h,e,he=>by
  have h':y 0+b*cod b (λe=>y (e+1)) M=z 0+b*cod b (λe=>z (e+1)) M:=h;have y0:=hy 0 ⋯;have z0:=hz 0 ⋯;have m1:=congrArg (· % b) h'
  simp only [Nat.add_mul_mod_self_left,Nat.mod_eq_of_lt y0,Nat.mod_eq_of_lt z0] at m1
  have m2:cod b (λe=>y (e+1)) M=cod b (λe=>z (e+1)) M:=by
   rw [m1] at h';exact y0q hb ⋯
  cases e with
  | zero=>exact m1
  | succ e=>exact aN3 hb M (λe=>y (e+1)) (λe=>z (e+1)) (λe he=>hy (e+1) ⋯) (λe he=>hz (e+1) ⋯) m2 e ⋯
def sZ (f:Nat->Int):Nat->Int
 | 0=>0
 | n+1=>sZ f n+f n
theorem aT6 (f g:Nat->Int):∀ n,sZ (λi=>f i-g i) n=sZ f n-sZ g n
 | 0=>rfl
 | n+1=>by rw [sZ,aT6 f g n,sZ,sZ];omega
theorem am2 {f g:Nat->Int}:∀ {n},(∀ i,i<n->f i=g i)->sZ f n=sZ g n
 | 0,_=>rfl
 | n+1,h=>by rw [sZ,sZ,am2 λi hi=>h i ⋯,h n ⋯]
theorem am1 {f:Nat->Int} {C:Nat}:∀ {n},(∀ i,i<n->(f i).natAbs<=C)->(sZ f n).natAbs<=n*C
 | 0,_=>by simp [sZ]
 | n+1,h=>by
  have ih:=am1 (n:=n) λi hi=>h i ⋯;have h1:=h n ⋯;rw [sZ,Nat.succ_mul];omega
theorem siegel (A:Nat->Nat->Int) {M N B:Nat} (hA:∀ e,e<M->∀ i,i<N->(A e i).natAbs<=B) (hN:M<N) (hB:1<=B) :
  ∃ d:Nat->Int,(∃ i,i<N/\d i ≠ 0)/\(∀ i,i<N->(d i).natAbs<=(2*N*B) ^ M)/\∀ e,e<M->sZ (λi=>A e i*d i) N=0:=by
 obtain ⟨c,hc⟩:∃ c,c=2*N*B:=⟨_,rfl⟩
 have c1:1<=c:=by
  rw [hc];have:1*1<=2*N*B:=j0c ⋯ hB;omega
 obtain ⟨X,hX⟩:∃ X,X=c ^ M:=⟨_,rfl⟩;have hb:0<c*(X+1):=j0q ⋯ ⋯;obtain ⟨L,hL⟩:∃ L:Nat->Nat->Int,∀ t e,L t e=sZ (λi=>A e i*(dig (X+1) t i:Int)) N:=⟨_,λ_ _=>rfl⟩
 have Lb:∀ t e,e<M->(L t e).natAbs<=N*(B*X):=λt e he=>by
  rw [hL];refine am1 λi hi=>?_;rw [q0x,q0r];have:=az4 (b:=X+1) ⋯ i t;exact j0c (hA e he i hi) ⋯
 have yb:∀ t e,e<M->(L t e+(N*(B*X):Nat)).toNat<c*(X+1):=λt e he=>by
  have:=Lb t e he
  have e1:c*(X+1)=2*(N*(B*X))+c:=by
   rw [hc,v0g,u0h];have:2*N*B*X=2*(N*(B*X)):=by rw [v0a,v0a]
   omega
  omega
 have big:(c*(X+1)) ^ M<(X+1) ^ N:=by
  rw [Nat.mul_pow];have h1:c ^ M*(X+1) ^ M<(X+1)*(X+1) ^ M:=Nat.mul_lt_mul_of_pos_right ⋯ (q1c ⋯);have h2:(X+1)*(X+1) ^ M=(X+1) ^ (M+1):=by rw [v0k,u0x]
  have h3:(X+1) ^ (M+1)<=(X+1) ^ N:=v0n ⋯ ⋯;omega
 obtain ⟨t1,t2,h12,h2n,he⟩:=php _ _ (λt=>cod (c*(X+1)) (λe=>(L t e+(N*(B*X):Nat)).toNat) M) (λt _=>aZ0 M _ λe he=>yb t e he) big
 have heq:∀ e,e<M->L t1 e=L t2 e:=λe hee=>by
  have:=aN3 hb M _ _ (λe he=>yb t1 e he) (λe he=>yb t2 e he) he e hee;have b1:=Lb t1 e hee;have b2:=Lb t2 e hee;omega
 refine ⟨λi=>(dig (X+1) t1 i:Int)-(dig (X+1) t2 i:Int),?_,λi hi=>?_,λe hee=>?_⟩
 ·refine Classical.byContradiction λz=>?_
  have alle:∀ i,i<N->dig (X+1) t1 i=dig (X+1) t2 i:=λi hi=>by
   refine Classical.byContradiction λw=>z ⟨i,hi,?_⟩
   show (dig (X+1) t1 i:Int)-(dig (X+1) t2 i:Int) ≠ 0;omega
  have cc:∀ (N:Nat) (y z:Nat->Nat),(∀ i,i<N->y i=z i)->cod (X+1) y N=cod (X+1) z N:=by
   intro N
   induction N with
   | zero=>intro _ _ _;rfl
   | succ N ih=>intro y z h;show y 0+_*_=z 0+_*_;rw [h 0 ⋯,ih _ _ λi hi=>h (i+1) ⋯]
  have e1:=az8 (b:=X+1) ⋯ N t1 ⋯;have e2:=az8 (b:=X+1) ⋯ N t2 h2n;rw [cc N _ _ alle] at e1;omega
 ·have d1:=az4 (b:=X+1) ⋯ i t1
  have d2:=az4 (b:=X+1) ⋯ i t2
  show ((dig (X+1) t1 i:Int)-(dig (X+1) t2 i:Int)).natAbs<=(2*N*B) ^ M;rw [<- hc,<- hX];omega
 ·have:=heq e hee
  rw [hL,hL] at this;have e2:sZ (λi=>A e i*((dig (X+1) t1 i:Int)-(dig (X+1) t2 i:Int))) N=sZ (λi=>A e i*(dig (X+1) t1 i:Int)-A e i*(dig (X+1) t2 i:Int)) N:=am2 λi _=>by rw [Int.mul_sub]
  rw [e2,aT6,this];omega
theorem V4 (f g:Nat->Rat) (k:Nat):cv f g (k+1)=f 0*g (k+1)+cv (λi=>f (i+1)) g k:=by
 unfold cv;rw [N7]
 congr 1
 exact j6 λi _=>by rw [show k+1-(i+1)=k-i by omega]
theorem C8 (f g:Nat->Rat) (k:Nat):cv f g k=cv g f k:=by
 unfold cv;rw [Z0]
 exact j6 λi hi=>by
  rw [show k+1-1-i=k-i by omega,show k-(k-i)=i by omega];grind
theorem ad7 {f g h l:Nat->Rat} {k:Nat} (a:∀ i,i<=k->f i=g i) (b:∀ i,i<=k->h i=l i):cv f h k=cv g l k :=
 j6 λi hi=>by rw [a i ⋯,b (k-i) ⋯]
theorem ag5 (f g:Nat->Rat):cv f g 0=f 0*g 0:=by
 show (0:Rat)+f 0*g 0=_
 grind
theorem ao8:∀ (k:Nat) (f g h:Nat->Rat),cv (cv f g) h k=cv f (cv g h) k
 | 0,f,g,h=>by rw [ag5,ag5,ag5,ag5];grind
 | k+1,f,g,h=>by
  rw [V4,V4 f];have e1:cv (λi=>cv f g (i+1)) h k=cv (λi=>f 0*g (i+1)+cv (λi=>f (i+1)) g i) h k:=ad7 (λi _=>V4 f g i) λ_ _=>rfl;rw [e1,ab8 (λi=>f 0*g (i+1)) (cv (λi=>f (i+1)) g),ab7 (f 0) (λi=>g (i+1)),ao8 k,V4 g];rw [ag5];grind
theorem X5 {f:Nat->Rat} (h:∀ k,f k=0) (g:Nat->Rat) (k:Nat):cv f g k=0:=D9 _ λi _=>by rw [h];grind
def Dg (f:Nat->Rat) (n:Nat):Prop:=∀ k,n<=k->f k=0
theorem Dg.cv {f g:Nat->Rat} {m n:Nat} (hf:Dg f m) (hg:Dg g n):Dg (cv f g) (m+n-1):=λk hk=>D9 _ λi hi=>by
 by_cases h:m<=i
 ·rw [hf i h];grind
 ·rw [hg (k-i) ⋯];grind
theorem T1 {f B:Nat->Rat} {nf n N:Nat} (hf:Dg f nf) (hB:Dg B (n+1)) (hn:B n ≠ 0) (h:Dg (cv f B) N):Dg f (N-n):=by
 have key:∀ j,∀ k,nf-j<=k->N-n<=k->f k=0:=by
  intro j
  induction j with
  | zero=>intro k hk _;exact hf k ⋯
  | succ j ih =>
   intro k hk hN
   by_cases h1:nf-j<=k
   ·exact ih k h1 hN
   have e:=h (k+n) ⋯
   have one:cv f B (k+n)=f k*B n:=by
    unfold R.cv
    have:j7 (λi=>f i*B (k+n-i)) (k+n+1)=j7 (λi=>if i=k then f k*B n else 0) (k+n+1):=j6 λi _=>by
     by_cases z:i=k
     ·rw [if_pos z,z,g0z]
     ·rw [if_neg z]
      by_cases y:i<k
      ·rw [hB _ ⋯];grind
      ·rw [ih i ⋯ ⋯];grind
    rw [this,K2,if_pos ⋯]
   rw [one] at e;have:=q0j _ hn;generalize (B n)⁻¹=u at this;generalize B n=y at *
   grind
 exact λk hk=>key nf k ⋯ hk
structure Eu (p q A B:Nat->Rat) (lp lq la lb:Nat):Prop where
 inv:∀ m,m<la->∀ u v,Dg u (lq-m)->Dg v (lp-m)->Dg (λk=>cv u p k+cv v q k) m ->
  ∃ a b,(∀ k,cv u p k+cv v q k=cv a A k+cv b B k)/\Dg a (lb-m)/\Dg b (la-m)/\((∀ k,a k=0)->(∀ k,b k=0)->∀ k,u k=0/\v k=0)
 le:la<=max lp lq
theorem Eu.base {p q:Nat->Rat} {lp lq:Nat}:Eu p q p q lp lq lp lq :=
 ⟨λm hm u v hu hv hs=>⟨u,v,λ_=>rfl,hu,hv,λa b k=>⟨a k,b k⟩⟩,⋯⟩
theorem Eu.step {p q A B C Q:Nat->Rat} {lp lq la lb lc:Nat} {c d:Rat} (e:Eu p q A B lp lq la lb) (hl:lb<=la) (hB:Dg B lb) (h0:0<lb) (hn:B (lb-1) ≠ 0)
  (hC:Dg C lc) (hlc:lc<lb) (hc:c ≠ 0) (hd:d ≠ 0) {lQ:Nat} (hQ:Dg Q lQ) (h:∀ k,c*A k=cv Q B k+d*C k):Eu p q B C lp lq lb lc:=by
 refine ⟨λm hm u v hu hv hs=>?_,by have:=e.le;omega⟩
 obtain ⟨a,b,eq,ha,hb,hz⟩:=e.inv m ⋯ u v hu hv hs
 have hA:∀ k,A k=cv (λi=>c⁻¹*Q i) B k+c⁻¹*d*C k:=λk=>by
  rw [ab7];have:=h k;have:=q0j _ hc;generalize c⁻¹=x at *
  grind
 have dis:∀ k,cv a A k=cv (cv a (λi=>c⁻¹*Q i)) B k+cv (λi=>c⁻¹*d*a i) C k:=λk=>by
  rw [ao8,ab7,C8 a A,C8 a,C8 a C,<- ab7,<- ab8 (cv (λi=>c⁻¹*Q i) B) (λi=>c⁻¹*d*C i)];exact ad7 (λi _=>hA i) λ_ _=>rfl
 obtain ⟨a',ha'⟩:∃ a',a'=λi=>cv a (λi=>c⁻¹*Q i) i+b i:=⟨_,rfl⟩
 have tot:∀ k,cv u p k+cv v q k=cv a' B k+cv (λi=>c⁻¹*d*a i) C k:=λk=>by
  rw [eq,dis,ha',ab8 (cv a (λi=>c⁻¹*Q i)) b];grind
 have hb':Dg (λi=>c⁻¹*d*a i) (lb-m):=λk hk=>by
  show c⁻¹*d*a k=0;rw [ha k hk];grind
 have hq':Dg (λi=>c⁻¹*Q i) lQ:=λk hk=>by
  show c⁻¹*Q k=0;rw [hQ k hk];grind
 have some:Dg a' (max ((lb-m)+lQ-1) (la-m)):=λk hk=>by
  rw [ha']
  show cv a (λi=>c⁻¹*Q i) k+b k=0;rw [ha.cv hq' k ⋯,hb k ⋯];grind
 have hprod:Dg (cv a' B) (max m ((lb-m)+lc-1)):=λk hk=>by
  have h1:=tot k;have h2:cv u p k+cv v q k=0:=hs k ⋯;have h3:=hb'.cv hC k ⋯
  grind
 have hn':B (lb-1) ≠ 0:=hn;have back:=T1 (n:=lb-1) some (by rw [Nat.sub_add_cancel h0];exact hB) hn hprod
 refine ⟨a',λi=>c⁻¹*d*a i,tot,λk hk=>back k ⋯,hb',λza zb=>?_⟩
 have ci:c⁻¹ ≠ 0:=λw=>by
  have:=q0j _ hc;rw [w] at this
  grind
 have a0:∀ k,a k=0:=λk=>by
  have:=zb k;have e1:=q0j _ hd;have e2:=q0j _ hc;generalize d⁻¹=x at *;generalize c⁻¹=y at *
  grind
 refine hz a0 λk=>?_;have:=za k;rw [ha'] at this;have z:cv a (λi=>c⁻¹*Q i) k=0:=X5 a0 _ k
 grind
theorem U2 (f:Nat->Rat) (n:Nat):∀ m,j7 f (n+m)=j7 f n+j7 (λi=>f (n+i)) m
 | 0=>by simp only [j7,Nat.add_zero];grind
 | m+1=>by rw [<- Nat.add_assoc,j7,U2 f n m,j7];grind
theorem ad9 (f:Nat->Int):∀ n,((sZ f n:Int):Rat)=j7 (λi=>(f i:Rat)) n
 | 0=>by simp [sZ,j7,q0k]
 | n+1=>by rw [sZ,j7,m0f,ad9 f n]
theorem al4 {u:Nat->Rat} {n:Nat} (hu:Dg u n) (p:Nat->Rat) (k:Nat):cv u p k=j7 (λi=>u i*if i<=k then p (k-i) else 0) n:=by
 unfold cv
 rw [<- M5 (f:=λi=>u i*if i<=k then p (k-i) else 0) (m:=n) (n:=max n (k+1)) ⋯ (λi hi _=>by rw [hu i hi];grind),
  M5 (f:=λi=>u i*if i<=k then p (k-i) else 0) (m:=k+1) (n:=max n (k+1)) ⋯ (λi hi _=>by rw [if_neg ⋯];grind)]
 exact j6 λi hi=>by rw [if_pos ⋯]
theorem J5 {d:Nat}:∀ (ws:List Int) (c:Nat),d ∣ c->(∀ w ∈ ws,(d:Int) ∣ w)->d ∣ ws.foldl (λc w=>q0w w c) c
 | [],c,h,_=>h
 | w :: r,c,h,hw=>J5 r _ (g0e (hw w q0h) (by exact z0w.mpr h)) λx hx=>hw x (q0f _ hx)
theorem aL6 {b:Rat} (hb:b ≠ 0) {ws:List Int} (hg:i6 ws=1) {s:Nat->Int} (h:∀ k,(s k:Rat)=b*zc ws k):∀ k,(aZ ws k).natAbs<=(s k).natAbs:=by
 have e:∀ k,(b.den:Int)*s k=b.num*aZ ws k:=λk=>by
  have h1:=h k
  have h2:(b.den:Rat)*b=(b.num:Rat):=by
   have h3:(b.den:Rat) ≠ 0:=λw=>b.den_nz (v0y.mp (by rw [w];rfl))
   have h4:b=(b.num:Rat) / (b.den:Rat):=by
    have:=z0h b;rw [j0j] at this;exact this.symm
   have h5:=q0j _ h3;rw [y0b] at h4;generalize (b.den:Rat)=y at *;generalize y⁻¹=z at *;generalize (b.num:Rat)=n at *
   grind
  have h3:(((b.den:Int)*s k:Int):Rat)=((b.num*aZ ws k:Int):Rat):=by
   rw [q0n,q0n,h1,j0u];unfold zc
   grind
  exact q0y.mp h3
 have d1:b.den=1:=by
  have:b.den ∣ i6 ws:=J5 ws 0 (y0u _) λw hw=>by
   obtain ⟨k,hk,ek⟩:=j0r hw;have h1:=e k;have h2:aZ ws k=w:=by unfold aZ;rw [q0c hk,ek];rfl
   rw [h2] at h1;have:(b.den:Int) ∣ b.num*w:=⟨s k,by rw [<- h1]⟩
   have h3:b.den ∣ b.num.natAbs*w.natAbs:=by
    have:=z0v.mpr this;rw [q0r,q0x] at this;exact this
   exact z0v.mp (by rw [q0r];exact v0e.dvd_of_dvd_mul_left (v0e.symm b.reduced) h3)
  rw [hg] at this;exact v0t.mp this
 intro k;have h1:=e k;rw [d1] at h1;have n0:b.num ≠ 0:=λw=>hb (Rat.num_eq_zero.mp w);have h2:s k=b.num*aZ ws k:=by rw [<- h1];simp
 rw [h2,q0x];exact j0p _ ⋯
theorem Eu.bound {P Qs Bs:List Int} {A:Nat->Rat} {la K N:Nat} (e:Eu (zc P) (zc Qs) A (zc Bs) P.length Qs.length la Bs.length) (hl:Bs.length<la) (hB:0<Bs.length) (hg:i6 Bs=1)
  (hP:∀ k,(aZ P k).natAbs<=K) (hQ:∀ k,(aZ Qs k).natAbs<=K) (hK:1<=K) (hN:N=(Qs.length-(la-1))+(P.length-(la-1))):∀ k,(aZ Bs k).natAbs<=N*(K*(2*N*K) ^ (N-1)):=by
 have hle:=e.le;obtain ⟨m,hm⟩:∃ m,m=la-1:=⟨_,rfl⟩;obtain ⟨n1,h1⟩:∃ n1,n1=Qs.length-m:=⟨_,rfl⟩;obtain ⟨n2,h2⟩:∃ n2,n2=P.length-m:=⟨_,rfl⟩;obtain ⟨M,hM⟩:∃ M,M=N-1:=⟨_,rfl⟩;obtain ⟨G,hG⟩:∃ G:Nat->Nat->Int,∀ k i,G k i=if i<n1 then (if i<=k then aZ P (k-i) else 0) else (if i-n1<=k then aZ Qs (k-(i-n1)) else 0):=⟨_,λ_ _=>rfl⟩
 have Gb:∀ k i,(G k i).natAbs<=K:=λk i=>by
  rw [hG]
  split
  ·split
   ·exact hP _
   ·simp
  ·split
   ·exact hQ _
   ·simp
 obtain ⟨d,⟨i0,hi0,hd0⟩,hdb,hd⟩:=siegel (λe i=>G (m+e) i) (M:=M) (N:=N) (B:=K) (λe _ i _=>Gb _ _) ⋯ hK;obtain ⟨s,hs⟩:∃ s:Nat->Int,∀ k,s k=sZ (λi=>G k i*d i) N:=⟨_,λ_=>rfl⟩;obtain ⟨u,hu⟩:∃ u:Nat->Rat,∀ i,u i=if i<n1 then (d i:Rat) else 0:=⟨_,λ_=>rfl⟩;obtain ⟨v,hv⟩:∃ v:Nat->Rat,∀ i,v i=if i<n2 then (d (n1+i):Rat) else 0:=⟨_,λ_=>rfl⟩;have du:Dg u n1:=λk hk=>by rw [hu,if_neg ⋯]
 have dv:Dg v n2:=λk hk=>by rw [hv,if_neg ⋯]
 have sr:∀ k,(s k:Rat)=cv u (zc P) k+cv v (zc Qs) k:=λk=>by
  rw [hs,ad9,show N=n1+n2 by omega,U2,al4 du,al4 dv]
  congr 1
  ·refine j6 λi hi=>?_
   rw [q0n,hG,if_pos hi,hu,if_pos hi]
   split
   ·unfold zc;grind
   ·rw [q0k];grind
  ·refine j6 λi hi=>?_
   rw [q0n,hG,if_neg ⋯,hv,if_pos hi,show n1+i-n1=i by omega]
   split
   ·unfold zc;grind
   ·rw [q0k];grind
 have ds:∀ k,m<=k->s k=0:=λk hk=>by
  by_cases h:k<m+M
  ·have:=hd (k-m) ⋯
   rw [show m+(k-m)=k by omega] at this
   rw [hs];exact this
  ·rw [hs]
   have:∀ i,i<N->G k i*d i=0:=λi hi=>by
    have:G k i=0:=by
     rw [hG]
     split
     ·split
      ·unfold aZ;rw [q0d ⋯];rfl
      ·rfl
     ·split
      ·unfold aZ;rw [q0d ⋯];rfl
      ·rfl
    rw [this,g0v]
   have:=am1 (f:=λi=>G k i*d i) (C:=0) (n:=N) λi hi=>by rw [this i hi];simp
   omega
 obtain ⟨a,b,eq,ha,hb,hz⟩:=e.inv m ⋯ u v (by rw [<- h1];exact du) (by rw [<- h2];exact dv) (λk hk=>by
  show cv u (zc P) k+cv v (zc Qs) k=0;rw [<- sr,ds k hk,q0k])
 have a0:∀ k,a k=0:=λk=>ha k ⋯;have b1:∀ k,1<=k->b k=0:=λk hk=>hb k ⋯
 have sb:∀ k,(s k:Rat)=b 0*zc Bs k:=λk=>by
  rw [sr,eq,X5 a0]
  have:cv b (zc Bs) k=cv (λi=>if i=0 then b 0 else 0) (zc Bs) k:=ad7 (λi _=>by
   by_cases z:i=0
   ·rw [if_pos z,z]
   ·rw [if_neg z,b1 i ⋯]) λ_ _=>rfl
  rw [this,X7,if_pos ⋯,m0y];grind
 have bn:b 0 ≠ 0:=λw=>by
  have all:=hz a0 λk=>by
   by_cases z:k=0
   ·rw [z,w]
   ·exact b1 k ⋯
  by_cases c:i0<n1
  ·have:=(all i0).1
   rw [hu,if_pos c] at this;exact hd0 (q0y.mp (by rw [this,q0k]))
  ·have:=(all (i0-n1)).2
   rw [hv,if_pos ⋯,show n1+(i0-n1)=i0 by omega] at this
   exact hd0 (q0y.mp (by rw [this,q0k]))
 intro k;refine z0f (aL6 bn hg sb k) ?_;rw [hs];refine am1 λi hi=>?_;rw [q0x];exact j0c (Gb k i) (by rw [<- hM];exact hdb i hi)
def bF (c x:Nat):Nat:=(c+1)*(x*(x+1))
theorem bd9 (x d:Nat) (hd:1<=d):(x-1)*(x-1+1)+(d+1)*(2*x+1)<=(x+d)*(x+d+1):=by
 obtain ⟨e,rfl⟩:∃ e,d=e+1:=⟨d-1,⋯⟩
 cases x with
 | zero =>
  have:(0+(e+1))*(0+(e+1)+1)=(0-1)*(0-1+1)+(e+1+1)*(2*0+1)+(e*e+2*e):=by
   simp only [y0v,Nat.zero_sub,m0z,Nat.mul_zero,u0h];grind
  omega
 | succ y =>
  have:(y+1+(e+1))*(y+1+(e+1)+1)=(y+1-1)*(y+1-1+1)+(e+1+1)*(2*(y+1)+1)+(e*e+2*e):=by
   rw [z0u];grind
  omega
theorem bd8 (c x d:Nat) (hd:1<=d):bF c (x-1)+(c+1)*((d+1)*(2*x+1))<=bF c (x+d):=by
 unfold bF;rw [<- v0g];exact z0j _ (bd9 x d hd)
theorem aA0 (c:Nat) {x y:Nat} (h:x<=y):bF c x<=bF c y:=z0j _ (j0c h ⋯)
theorem aQ9 (c x d:Nat) (hd:1<=d):(d+1)*(c*(2*x+1))+1<=(c+1)*((d+1)*(2*x+1)):=by
 have e1:(c+1)*((d+1)*(2*x+1))=(d+1)*(c*(2*x+1))+(d+1)*(2*x+1):=by grind
 have:1*1<=(d+1)*(2*x+1):=j0c ⋯ ⋯;omega
theorem aQ8 (c x d:Nat) (hd:1<=d):c*(2*x+1)+(d+1)*(c*(2*x+1)+1)<=2*((c+1)*((d+1)*(2*x+1))):=by
 have e1:(c+1)*((d+1)*(2*x+1))=d*(c*(2*x+1))+c*(2*x+1)+(d+1)*(2*x+1):=by grind
 have e2:(d+1)*(c*(2*x+1)+1)=d*(c*(2*x+1))+c*(2*x+1)+(d+1):=by grind
 have e3:(d+1)*1<=(d+1)*(2*x+1):=j0c ⋯ ⋯;have e4:1*(c*(2*x+1))<=d*(c*(2*x+1)):=j0c hd ⋯;omega
theorem ag1 {ws vs:List Int} {g:Nat} (hg:i6 ws=g) (h0:g ≠ 0) (hl:vs.length=ws.length) (h:∀ k,aZ ws k=(g:Int)*aZ vs k):i6 vs=1:=by
 have hd:(g*i6 vs) ∣ i6 ws:=J5 ws 0 (y0u _) λw hw=>by
  obtain ⟨k,hk,ek⟩:=j0r hw;have h1:=h k;have h2:aZ ws k=w:=by unfold aZ;rw [q0c hk,ek];rfl
  have h3:aZ vs k=vs[k]'⋯:=by unfold aZ;rw [q0c ⋯];rfl
  rw [h2,h3] at h1;rw [h1];obtain ⟨e,he⟩:=r9 (y0w (h:=⋯):vs[k]'⋯ ∈ vs);exact ⟨e,by rw [he,z0s];grind⟩
 rw [hg] at hd;obtain ⟨e,he⟩:=hd;have:g*1=g*(i6 vs*e):=by rw [u0h,<- v0a];exact he
 have:=y0q ⋯ this;exact v0t.mp ⟨e,this⟩
structure SgS (c d0 L K:Nat) (P0 Q0:List Int) (s t:Rat) (A B:List Int):Prop where
 tA:k7 A A.length
 tB:k7 B B.length
 lA:A.length<=L
 lB:B.length<A.length
 gB:B ≠ []->i6 B=1
 eu:Eu (zc P0) (zc Q0) (zc A) (zc B) P0.length Q0.length A.length B.length
 s0:s ≠ 0
 t0:t ≠ 0
 wA:∀ k,(aZ A k).natAbs<2 ^ (c*(2*(L-A.length)+1))
 wB:∀ k,(aZ B k).natAbs<2 ^ (c*(2*(L-A.length)+1))
 sd:s.den<2 ^ (d0+bF c (L-A.length-1))
 sn:s.num.natAbs<2 ^ (d0+2*bF c (L-A.length-1))
 td:t.den<2 ^ (d0+bF c (L-A.length))
 tn:t.num.natAbs<2 ^ (d0+2*bF c (L-A.length))
theorem v5 {B:List Int} (t:k7 B B.length) (h:0<B.length):aZ B (B.length-1) ≠ 0:=by
 have:=t.last ⋯ _ (q0c ⋯);unfold aZ;rw [q0c ⋯];exact this
theorem A6 (B:List Int):Dg (zc B) B.length:=λk hk=>by
 unfold zc aZ;rw [q0d hk];exact q0k
theorem T5 {B:List Int} {k:Nat} (h:aZ B k ≠ 0):zc B k ≠ 0:=λw=>h (q0y.mp (by unfold zc at w;rw [w,q0k]))
theorem af1 {s:Rat} {g many:Int} (hm:many ≠ 0):∃ t:Rat,t=s*(g:Rat)*(many:Rat)⁻¹/\t.num.natAbs<=s.num.natAbs*g.natAbs/\t.den<=s.den*many.natAbs:=by
 refine ⟨z0a (s.num*g) (s.den*many),?_,?_⟩
 ·have h1:s=(s.num:Rat)*(s.den:Rat)⁻¹:=by
   have:=z0h s;rw [j0j,y0b] at this;exact this.symm
  rw [j0j,y0b,q0n,q0n,Rat.inv_mul_rev]
  conv=>rhs;rw [h1]
  have:((s.den:Int):Rat)=(s.den:Rat):=j0u _;rw [this]
  grind
 ·have hb:(s.den:Int)*many ≠ 0:=y0m (by have:=s.den_nz;omega) hm
  have:=G5 (t:=s.num*g) hb;rw [q0x,q0x,q0r] at this;exact this
def FmX (K:q0a) (D:Addr) (H:Hp) (r:Addr) (s:Rat) (ws:List Int):Prop:=∃ rs l,SqT K H r [.ref rs,.ref l]/\SqT K H rs (v7 s)/\H l=some (.lst (ws.map V.int))/\l ≠ D
inductive Fms (K:q0a) (D:Addr) (H:Hp):List V->List (Rat × List Int)->Prop where
 | nil:Fms K D H [] []
 | cons {r:Addr} {s:Rat} {ws:List Int} {xs:List V} {fs:List (Rat × List Int)} (h:FmX K D H r s ws) (t:Fms K D H xs fs):Fms K D H (.ref r :: xs) ((s,ws) :: fs)
theorem am5 {b:Rat} {ws:List Int} (hg:i6 ws=1) {s:Nat->Int} (h:∀ k,(s k:Rat)=b*zc ws k):∃ g:Int,b=(g:Rat):=by
 have hb2:(b.den:Rat)*b=(b.num:Rat):=by
  have h3:(b.den:Rat) ≠ 0:=λw=>b.den_nz (v0y.mp (by rw [w];rfl))
  have h4:b=(b.num:Rat) / (b.den:Rat):=by
   have:=z0h b;rw [j0j] at this;exact this.symm
  have h5:=q0j _ h3;rw [y0b] at h4;generalize (b.den:Rat)=y at *;generalize y⁻¹=z at *;generalize (b.num:Rat)=n at *
  grind
 have e:∀ k,(b.den:Int)*s k=b.num*aZ ws k:=λk=>by
  have h1:=h k
  have h3:(((b.den:Int)*s k:Int):Rat)=((b.num*aZ ws k:Int):Rat):=by
   rw [q0n,q0n,h1,j0u];unfold zc
   grind
  exact q0y.mp h3
 have d1:b.den=1:=by
  have:b.den ∣ i6 ws:=J5 ws 0 (y0u _) λw hw=>by
   obtain ⟨k,hk,ek⟩:=j0r hw;have h1:=e k;have h2:aZ ws k=w:=by unfold aZ;rw [q0c hk,ek];rfl
   rw [h2] at h1;have:(b.den:Int) ∣ b.num*w:=⟨s k,by rw [<- h1]⟩
   have h3:b.den ∣ b.num.natAbs*w.natAbs:=by
    have:=z0v.mpr this;rw [q0r,q0x] at this;exact this
   exact z0v.mp (by rw [q0r];exact v0e.dvd_of_dvd_mul_left (v0e.symm b.reduced) h3)
  rw [hg] at this;exact v0t.mp this
 refine ⟨b.num,?_⟩;rw [<- hb2,d1]
 show b=((1:Nat):Rat)*b;have:((1:Nat):Rat)=1:=rfl;rw [this];grind
theorem T3 {ws:List Int} {X:Nat} (h:∀ k,(aZ ws k).natAbs<X):∀ v ∈ ws,z0p v<X:=λv hv=>by
 obtain ⟨k,hk,ek⟩:=j0r hv;have h2:aZ ws k=v:=by unfold aZ;rw [q0c hk,ek];rfl
 rw [<- h2];exact h k
structure Pf where
 f:Nat->Rat
theorem Pf.ext {a b:Pf} (h:∀ k,a.f k=b.f k):a=b:=by
 cases a;cases b;congr 1;exact funext h
def d5 (c:Rat):Pf:=⟨λk=>if k=0 then c else 0⟩
def aH7 (a b:Pf):Pf:=⟨cv a.f b.f⟩
def bm9 (a:Pf):Nat->Pf
 | 0=>d5 1
 | n+1=>aH7 (bm9 a n) a
theorem ao7 (c:Rat) (h:Nat->Rat) (k:Nat):cv (λk=>if k=0 then c else 0) h k=c*h k:=by
 rw [X7,if_pos ⋯,m0y]
theorem am7 (c:Rat) (a:Pf) (k:Nat):(aH7 (d5 c) a).f k=c*a.f k:=ao7 c a.f k
instance instPf:Lean.Grind.CommRing Pf where
 add a b:=⟨λk=>a.f k+b.f k⟩
 mul:=aH7
 neg a:=⟨λk=>- a.f k⟩
 sub a b:=⟨λk=>a.f k-b.f k⟩
 natCast:=⟨λn=>d5 n⟩
 ofNat n:=⟨d5 n⟩
 intCast:=⟨λn=>d5 n⟩
 nsmul:=⟨λn a=>aH7 (d5 n) a⟩
 zsmul:=⟨λn a=>aH7 (d5 n) a⟩
 npow:=⟨bm9⟩
 add_zero a:=Pf.ext λk=>by
  show a.f k+(if k=0 then ((0:Nat):Rat) else 0)=a.f k;have:((0:Nat):Rat)=0:=rfl;rw [this];split <;> grind
 add_comm a b:=Pf.ext λk=>by show a.f k+b.f k=b.f k+a.f k;grind
 add_assoc a b c:=Pf.ext λk=>by show a.f k+b.f k+c.f k=a.f k+(b.f k+c.f k);grind
 mul_assoc a b c:=Pf.ext λk=>ao8 k a.f b.f c.f
 one_mul a:=Pf.ext λk=>by
  show cv (λk=>if k=0 then ((1:Nat):Rat) else 0) a.f k=a.f k;rw [ao7];have:((1:Nat):Rat)=1:=rfl;rw [this];grind
 right_distrib a b c:=Pf.ext λk=>ab8 a.f b.f c.f k
 mul_zero a:=Pf.ext λk=>by
  show cv a.f (λk=>if k=0 then ((0:Nat):Rat) else 0) k=(if k=0 then ((0:Nat):Rat) else 0);rw [C8,ao7];have:((0:Nat):Rat)=0:=rfl;rw [this];split <;> grind
 mul_comm a b:=Pf.ext λk=>C8 a.f b.f k
 mul_one a:=Pf.ext λk=>by
  show cv a.f (λk=>if k=0 then ((1:Nat):Rat) else 0) k=a.f k;rw [C8,ao7];have:((1:Nat):Rat)=1:=rfl;rw [this];grind
 left_distrib a b c:=Pf.ext λk=>by
  show cv a.f (λk=>b.f k+c.f k) k=cv a.f b.f k+cv a.f c.f k;rw [C8,ab8,C8 b.f,C8 c.f]
 zero_mul a:=Pf.ext λk=>by
  show cv (λk=>if k=0 then ((0:Nat):Rat) else 0) a.f k=(if k=0 then ((0:Nat):Rat) else 0);rw [ao7];have:((0:Nat):Rat)=0:=rfl;rw [this];split <;> grind
 pow_zero a:=Pf.ext λk=>by
  show (if k=0 then (1:Rat) else 0)=if k=0 then ((1:Nat):Rat) else 0;rfl
 pow_succ a n:=rfl
 ofNat_succ n:=Pf.ext λk=>by
  show (if k=0 then ((n+1:Nat):Rat) else 0)=(if k=0 then (n:Rat) else 0)+(if k=0 then ((1:Nat):Rat) else 0)
  split
  ·rw [u0z]
  ·grind
 neg_add_cancel a:=Pf.ext λk=>by
  show-a.f k+a.f k=if k=0 then ((0:Nat):Rat) else 0
  have:((0:Nat):Rat)=0:=rfl;rw [this];split <;> grind
 sub_eq_add_neg a b:=Pf.ext λk=>by show a.f k-b.f k=a.f k + - b.f k;grind
 neg_zsmul i a:=Pf.ext λk=>by
  show (aH7 (d5 ((-i:Int):Rat)) a).f k=- (aH7 (d5 (i:Rat)) a).f k;rw [am7,am7,Rat.intCast_neg];grind
 intCast_neg i:=Pf.ext λk=>by
  show (if k=0 then ((-i:Int):Rat) else 0)=- (if k=0 then (i:Rat) else 0)
  split
  ·rw [Rat.intCast_neg]
  ·grind
theorem af5 (a b:Pf) (k:Nat):(a+b).f k=a.f k+b.f k:=rfl
theorem af4 (a b:Pf) (k:Nat):(a-b).f k=a.f k-b.f k:=rfl
theorem aw7 (a b:Pf) (k:Nat):(a*b).f k=cv a.f b.f k:=rfl
theorem u8 (c:Rat) (a:Pf) (k:Nat):(d5 c*a).f k=c*a.f k:=am7 c a k
theorem z8 (c d:Rat):d5 (c*d)=d5 c*d5 d:=Pf.ext λk=>by
 rw [u8]
 show (if k=0 then c*d else 0)=c*(if k=0 then d else 0)
 split <;> grind
theorem B5:d5 1=1:=Pf.ext λk=>rfl
theorem u9 {c:Rat} (h:c ≠ 0):d5 c*d5 c⁻¹=1:=by rw [<- z8,q0j _ h,B5]
theorem aD2 (c:Rat):d5 (-c)=- d5 c:=Pf.ext λk=>by
 show (if k=0 then -c else 0)=- (if k=0 then c else 0)
 split <;> grind
def zp (ws:List Int):Pf:=⟨zc ws⟩
theorem aR4:zp []=0:=Pf.ext λk=>by
 show zc [] k=(if k=0 then ((0:Nat):Rat) else 0)
 cases k with
 | zero=>rfl
 | succ k=>rfl
theorem y2 (k:Nat):(0:Pf).f k=0:=by
 show (if k=0 then ((0:Nat):Rat) else 0)=0;have:((0:Nat):Rat)=0:=rfl;rw [this];split <;> rfl
theorem aa6 (k:Nat):(1:Pf).f k=if k=0 then 1 else 0:=rfl
structure Ev (p q A B fa ha fb hb:Pf) (lp lq la lb:Nat):Prop where
 inv:∀ m,m<la->∀ u v:Pf,Dg u.f (lq-m)->Dg v.f (lp-m)->Dg (u*p+v*q).f m ->
  ∃ a b:Pf,u=a*fa+b*fb/\v=a*ha+b*hb/\Dg a.f (lb-m)/\Dg b.f (la-m)
 idA:A=fa*p+ha*q
 idB:B=fb*p+hb*q
 cr:∃ δ:Rat,δ ≠ 0/\d5 δ*p=hb*A-ha*B/\d5 δ*q=fa*B-fb*A
 le:la<=max lp lq
theorem Ev.base {p q:Pf} {lp lq:Nat}:Ev p q p q 1 0 0 1 lp lq lp lq :=
 ⟨λm hm u v hu hv hs=>⟨u,v,by grind,by grind,hu,hv⟩,by grind,by grind,⟨1,by decide,by rw [B5];grind,by rw [B5];grind⟩,⋯⟩
theorem Ev.step {p q A B fa ha fb hb C fc hc Q:Pf} {lp lq la lb lc:Nat} {c d:Rat} (e:Ev p q A B fa ha fb hb lp lq la lb) (hl:lb<=la) (hB:Dg B.f lb) (h0:0<lb) (hn:B.f (lb-1) ≠ 0)
  (hC:Dg C.f lc) (hlc:lc<lb) (hc':c ≠ 0) (hd:d ≠ 0) {lQ:Nat} (hQ:Dg Q.f lQ) (h:d5 c*A=Q*B+d5 d*C) (hf:d5 d*fc=d5 c*fa-Q*fb) (hh:d5 d*hc=d5 c*ha-Q*hb):Ev p q B C fb hb fc hc lp lq lb lc:=by
 have ec:=u9 hc';have ed:=u9 hd;have eA:=e.idA;have eB:=e.idB;refine ⟨λm hm u v hu hv hs=>?_,eB,?_,?_,by have:=e.le;omega⟩
 ·obtain ⟨a,b,eu,ev,ha',hb'⟩:=e.inv m ⋯ u v hu hv hs
  obtain ⟨a',ea'⟩:∃ a',a'=a*(d5 c⁻¹*Q)+b:=⟨_,rfl⟩;obtain ⟨b',eb'⟩:∃ b',b'=d5 c⁻¹*(d5 d*a):=⟨_,rfl⟩
  have tot:u*p+v*q=a'*B+b'*C:=by
   rw [eu,ev,ea',eb'];generalize d5 c⁻¹=ci at *;generalize d5 d⁻¹=di at *;generalize d5 c=c0 at *;generalize d5 d=d0 at *
   grind
  have tu:u=a'*fb+b'*fc:=by
   rw [eu,ea',eb'];generalize d5 c⁻¹=ci at *;generalize d5 d⁻¹=di at *;generalize d5 c=c0 at *;generalize d5 d=d0 at *
   grind
  have tv:v=a'*hb+b'*hc:=by
   rw [ev,ea',eb'];generalize d5 c⁻¹=ci at *;generalize d5 d⁻¹=di at *;generalize d5 c=c0 at *;generalize d5 d=d0 at *
   grind
  have db:Dg b'.f (lb-m):=λk hk=>by
   rw [eb',u8,u8,ha' k hk];grind
  have dq:Dg (d5 c⁻¹*Q).f lQ:=λk hk=>by rw [u8,hQ k hk];grind
  have some:Dg a'.f (max ((lb-m)+lQ-1) (la-m)):=λk hk=>by
   rw [ea',af5,aw7,Dg.cv ha' dq k ⋯,hb' k ⋯];grind
  have hprod:Dg (cv a'.f B.f) (max m ((lb-m)+lc-1)):=λk hk=>by
   have h1:=congrArg (λz=>Pf.f z k) tot;have h2:(u*p+v*q).f k=0:=hs k ⋯;have h3:(b'*C).f k=0:=db.cv hC k ⋯;have h4:(u*p+v*q).f k=(a'*B).f k+(b'*C).f k:=h1
   show (a'*B).f k=0
   grind
  have back:=T1 (n:=lb-1) some (by rw [Nat.sub_add_cancel h0];exact hB) hn hprod
  exact ⟨a',b',tu,tv,λk hk=>back k ⋯,db⟩
 ·generalize d5 d⁻¹=di at *
  generalize d5 c⁻¹=ci at *;generalize d5 c=c0 at *;generalize d5 d=d0 at *;have:d0*C=d0*(fc*p+hc*q):=by grind
  have h2:di*(d0*C)=di*(d0*(fc*p+hc*q)):=by rw [this]
  grind
 ·obtain ⟨δ,δ0,c1,c2⟩:=e.cr
  refine ⟨-(c*(d⁻¹*δ)),λz=>?_,?_,?_⟩
  ·have h1:=q0j _ hd
   have h2:c*(d⁻¹*δ)=0:=by grind
   rcases j0t.mp h2 with z | z
   ·exact hc' z
   ·rcases j0t.mp z with z | z
    ·rw [z] at h1;grind
    ·exact δ0 z
  ·rw [aD2,z8,z8]
   generalize d5 d⁻¹=di at *;generalize d5 c⁻¹=ci at *;generalize d5 c=c0 at *;generalize d5 d=d0 at *;generalize d5 δ=e0 at *;have h2:hc=di*(c0*ha-Q*hb):=by grind
   have h3:C=di*(c0*A-Q*B):=by grind
   rw [h2,h3]
   grind
  ·rw [aD2,z8,z8]
   generalize d5 d⁻¹=di at *;generalize d5 c⁻¹=ci at *;generalize d5 c=c0 at *;generalize d5 d=d0 at *;generalize d5 δ=e0 at *;have h2:fc=di*(c0*fa-Q*fb):=by grind
   have h3:C=di*(c0*A-Q*B):=by grind
   rw [h2,h3]
   grind
theorem Ev.siegel {P Qs:List Int} {A B fa ha fb hb:Pf} {la lb K N:Nat} (e:Ev (zp P) (zp Qs) A B fa ha fb hb P.length Qs.length la lb) (hl:lb<la)
  (hP:∀ k,(aZ P k).natAbs<=K) (hQ:∀ k,(aZ Qs k).natAbs<=K) (hK:1<=K) (hN:N=(Qs.length-(la-1))+(P.length-(la-1))) :
  ∃ (b0:Rat) (u v s:Nat->Int),b0 ≠ 0/\(∀ k,(u k:Rat)=b0*fb.f k)/\(∀ k,(v k:Rat)=b0*hb.f k)/\(∀ k,(s k:Rat)=b0*B.f k) /\
   (∀ k,(u k).natAbs<=(2*N*K) ^ (N-1))/\(∀ k,(v k).natAbs<=(2*N*K) ^ (N-1))/\∀ k,(s k).natAbs<=N*(K*(2*N*K) ^ (N-1)):=by
 have hle:=e.le;obtain ⟨m,hm⟩:∃ m,m=la-1:=⟨_,rfl⟩;obtain ⟨n1,h1⟩:∃ n1,n1=Qs.length-m:=⟨_,rfl⟩;obtain ⟨n2,h2⟩:∃ n2,n2=P.length-m:=⟨_,rfl⟩;obtain ⟨M,hM⟩:∃ M,M=N-1:=⟨_,rfl⟩;obtain ⟨G,hG⟩:∃ G:Nat->Nat->Int,∀ k i,G k i=if i<n1 then (if i<=k then aZ P (k-i) else 0) else (if i-n1<=k then aZ Qs (k-(i-n1)) else 0):=⟨_,λ_ _=>rfl⟩
 have Gb:∀ k i,(G k i).natAbs<=K:=λk i=>by
  rw [hG]
  split
  ·split
   ·exact hP _
   ·simp
  ·split
   ·exact hQ _
   ·simp
 obtain ⟨d,⟨i0,hi0,hd0⟩,hdb,hd⟩:=R.siegel (λe i=>G (m+e) i) (M:=M) (N:=N) (B:=K) (λe _ i _=>Gb _ _) ⋯ hK;obtain ⟨s,hs⟩:∃ s:Nat->Int,∀ k,s k=sZ (λi=>G k i*d i) N:=⟨_,λ_=>rfl⟩;obtain ⟨u,hu⟩:∃ u:Nat->Int,∀ i,u i=if i<n1 then d i else 0:=⟨_,λ_=>rfl⟩;obtain ⟨v,hv⟩:∃ v:Nat->Int,∀ i,v i=if i<n2 then d (n1+i) else 0:=⟨_,λ_=>rfl⟩;obtain ⟨U,hU⟩:∃ U:Pf,∀ k,U.f k=(u k:Rat):=⟨⟨λk=>(u k:Rat)⟩,λ_=>rfl⟩;obtain ⟨V,hV⟩:∃ V:Pf,∀ k,V.f k=(v k:Rat):=⟨⟨λk=>(v k:Rat)⟩,λ_=>rfl⟩;have du:Dg U.f n1:=λk hk=>by rw [hU,hu,if_neg ⋯,q0k]
 have dv:Dg V.f n2:=λk hk=>by rw [hV,hv,if_neg ⋯,q0k]
 have sr:∀ k,(s k:Rat)=(U*zp P+V*zp Qs).f k:=λk=>by
  rw [af5,aw7,aw7]
  show _=cv U.f (zc P) k+cv V.f (zc Qs) k;rw [hs,ad9,show N=n1+n2 by omega,U2,al4 du,al4 dv]
  congr 1
  ·refine j6 λi hi=>?_
   rw [q0n,hG,if_pos hi,hU,hu,if_pos hi]
   split
   ·unfold zc;grind
   ·rw [q0k];grind
  ·refine j6 λi hi=>?_
   rw [q0n,hG,if_neg ⋯,hV,hv,if_pos hi,show n1+i-n1=i by omega]
   split
   ·unfold zc;grind
   ·rw [q0k];grind
 have ds:∀ k,m<=k->s k=0:=λk hk=>by
  by_cases h:k<m+M
  ·have:=hd (k-m) ⋯
   rw [show m+(k-m)=k by omega] at this
   rw [hs];exact this
  ·rw [hs]
   have:∀ i,i<N->G k i*d i=0:=λi hi=>by
    have:G k i=0:=by
     rw [hG]
     split
     ·split
      ·unfold aZ;rw [q0d ⋯];rfl
      ·rfl
     ·split
      ·unfold aZ;rw [q0d ⋯];rfl
      ·rfl
    rw [this,g0v]
   have:=am1 (f:=λi=>G k i*d i) (C:=0) (n:=N) λi hi=>by rw [this i hi];simp
   omega
 obtain ⟨a,b,eu,ev,ha',hb'⟩:=e.inv m ⋯ U V (by rw [<- h1];exact du) (by rw [<- h2];exact dv) (λk hk=>by
  rw [<- sr,ds k hk,q0k])
 have a0:a=0:=Pf.ext λk=>by rw [y2];exact ha' k ⋯
 have b1:b=d5 (b.f 0):=Pf.ext λk=>by
  show b.f k=if k=0 then b.f 0 else 0
  by_cases z:k=0
  ·rw [if_pos z,z]
  ·rw [if_neg z];exact hb' k ⋯
 have eu':U=d5 (b.f 0)*fb:=by rw [eu,a0,<- b1];grind
 have ev':V=d5 (b.f 0)*hb:=by rw [ev,a0,<- b1];grind
 refine ⟨b.f 0,u,v,s,λw=>?_,λk=>?_,λk=>?_,λk=>?_,λk=>?_,λk=>?_,λk=>?_⟩
 ·by_cases c:i0<n1
  ·have:U.f i0=0:=by rw [eu',u8,w];grind
   rw [hU,hu,if_pos c] at this;exact hd0 (q0y.mp (by rw [this,q0k]))
  ·have:V.f (i0-n1)=0:=by rw [ev',u8,w];grind
   rw [hV,hv,if_pos ⋯,show n1+(i0-n1)=i0 by omega] at this
   exact hd0 (q0y.mp (by rw [this,q0k]))
 ·rw [<- hU,eu',u8]
 ·rw [<- hV,ev',u8]
 ·rw [sr,<- u8]
  have:U*zp P+V*zp Qs=d5 (b.f 0)*B:=by rw [eu',ev',e.idB];grind
  rw [this]
 ·rw [hu]
  split
  ·exact by rw [<- hM];exact hdb k ⋯
  ·exact z0m _
 ·rw [hv]
  split
  ·exact by rw [<- hM];exact hdb _ ⋯
  ·exact z0m _
 ·rw [hs]
  refine am1 λi hi=>?_;rw [q0x];exact j0c (Gb k i) (by rw [<- hM];exact hdb i hi)
theorem bk3 {g:Int} (g0:(g:Rat) ≠ 0) {x y:Int} (h:(y:Rat)=(g:Rat)*(x:Rat)):x.natAbs<=y.natAbs:=by
 have e:y=g*x:=q0y.mp (by rw [h,q0n])
 have:g ≠ 0:=λz=>g0 (by rw [z];rfl)
 rw [e,q0x];exact j0p _ ⋯
theorem bh9 {N K c:Nat} (hN:1<=N) (hK:1<=K) (h:2*N*K<=2 ^ c):N*(K*(2*N*K) ^ (N-1))<2 ^ (c*N)/\(2*N*K) ^ (N-1)<2 ^ (c*N):=by
 have e1:N=(N-1)+1:=⋯;have h3:(2*N*K) ^ N<=(2 ^ c) ^ N:=g0d h _;rw [<- Nat.pow_mul] at h3;have h4:0<(2*N*K) ^ (N-1):=q1c (j0q ⋯ ⋯);have h5:0<N*(K*(2*N*K) ^ (N-1)):=j0q ⋯ (j0q ⋯ h4)
 have h6:(2*N*K) ^ N=2*(N*(K*(2*N*K) ^ (N-1))):=by
  conv=>lhs;rw [e1,v0k]
  rw [<- e1];generalize (2*N*K) ^ (N-1)=y
  grind
 have h7:(2*N*K) ^ (N-1)<=N*(K*(2*N*K) ^ (N-1)):=by
  have:1*(1*(2*N*K) ^ (N-1))<=N*(K*(2*N*K) ^ (N-1)):=j0c hN (z0b _ hK);omega
 omega
theorem aU3:∀ n:Nat,2<=n->∃ p,2<=p/\p ∣ n/\∀ d,d ∣ p->d=1 \/ d=p:=by
 intro n
 induction n using v0z with
 | ind n ih =>
  intro h
  by_cases c:∃ d,d ∣ n/\d ≠ 1/\d ≠ n
  ·obtain ⟨d,d1,d2,d3⟩:=c
   have dle:=y0p ⋯ d1;have d0:d ≠ 0:=λz=>by rw [z] at d1;have:=m0a d1;omega
   obtain ⟨p,p1,p2,p3⟩:=ih d ⋯ ⋯;exact ⟨p,p1,g0j p2 d1,p3⟩
  ·refine ⟨n,h,m0x _,λd hd=>?_⟩
   by_cases e1:d=1
   ·exact .inl e1
   ·by_cases e2:d=n
    ·exact .inr e2
    ·exact absurd ⟨d,hd,e1,e2⟩ c
theorem aO5 {p:Nat} (hp:∀ d,d ∣ p->d=1 \/ d=p) {a b:Int} (h:(p:Int) ∣ a*b):(p:Int) ∣ a \/ (p:Int) ∣ b:=by
 have h1:p ∣ a.natAbs*b.natAbs:=by
  have:=z0v.mpr h
  rwa [q0r,q0x] at this
 rcases hp _ (Nat.gcd_dvd_left p a.natAbs) with g | g
 ·right
  exact z0v.mp (by rw [q0r];exact v0e.dvd_of_dvd_mul_left g h1)
 ·left
  have:=Nat.gcd_dvd_right p a.natAbs;rw [g] at this;exact z0v.mp (by rw [q0r];exact this)
theorem aJ7 {p:Int} {f:Nat->Int}:∀ {n},(∀ i,i<n->p ∣ f i)->p ∣ sZ f n
 | 0,_=>⟨0,by simp [sZ]⟩
 | n+1,h=>by rw [sZ];exact Int.dvd_add (aJ7 λi hi=>h i ⋯) (h n ⋯)
theorem aF8 {p:Int} {f:Nat->Int} {j:Nat}:∀ {n},j<n->(∀ i,i<n->i ≠ j->p ∣ f i)->p ∣ sZ f n->p ∣ f j
 | 0,h,_,_=>⋯
 | n+1,h,ha,hs=>by
  rw [sZ] at hs
  by_cases e:j=n
  ·subst e
   exact (Int.dvd_add_right (aJ7 λi hi=>ha i ⋯ ⋯)).mp hs
  ·exact aF8 (n:=n) ⋯ (λi hi=>ha i ⋯) ((Int.dvd_add_left (ha n ⋯ (λz=>e z.symm))).mp hs)
theorem bc8 {p:Nat} (hp2:2<=p) (hp:∀ d,d ∣ p->d=1 \/ d=p) {Q:List Int} (hg:i6 Q=1) {V:Nat->Int} {n:Nat} (hV:∀ k,n<=k->V k=0) (h:∀ k,(p:Int) ∣ sZ (λi=>V i*aZ Q (k-i)) (k+1)):∀ k,(p:Int) ∣ V k:=by
 obtain ⟨j,j1,j2⟩:∃ j,¬ (p:Int) ∣ aZ Q j/\∀ i,j<i->(p:Int) ∣ aZ Q i:=by
  have key:∀ m,(∀ i,m<=i->(p:Int) ∣ aZ Q i)->∃ j,¬ (p:Int) ∣ aZ Q j/\∀ i,j<i->(p:Int) ∣ aZ Q i:=by
   intro m
   induction m with
   | zero =>
    intro hm
    have:p ∣ i6 Q:=J5 Q 0 (y0u _) λw hw=>by
     obtain ⟨k,hk,ek⟩:=j0r hw;have h2:aZ Q k=w:=by unfold aZ;rw [q0c hk,ek];rfl
     rw [<- h2];exact hm k ⋯
    rw [hg] at this;have:=v0t.mp this;omega
   | succ m ih =>
    intro hm
    by_cases c:(p:Int) ∣ aZ Q m
    ·exact ih λi hi=>by
      by_cases e:i=m
      ·rw [e];exact c
      ·exact hm i ⋯
    ·exact ⟨m,c,λi hi=>hm i hi⟩
  exact key Q.length λi hi=>by unfold aZ;rw [q0d hi];exact ⟨0,by simp⟩
 have key:∀ t,∀ k,n-t<=k->(p:Int) ∣ V k:=by
  intro t
  induction t with
  | zero=>intro k hk;rw [hV k ⋯];exact ⟨0,by simp⟩
  | succ t ih =>
   intro k hk
   by_cases c:n-t<=k
   ·exact ih k c
   have:=aF8 (p:=(p:Int)) (f:=λi=>V i*aZ Q (k+j-i)) (j:=k) (n:=k+j+1) ⋯ (λi hi hne=>by
    by_cases z:i<k
    ·obtain ⟨y,hy⟩:=j2 (k+j-i) ⋯
     exact ⟨V i*y,by show V i*aZ Q (k+j-i)=_;rw [hy];grind⟩
    ·obtain ⟨y,hy⟩:=ih i ⋯
     exact ⟨y*aZ Q (k+j-i),by show V i*aZ Q (k+j-i)=_;rw [hy];grind⟩) (h (k+j))
   have h2:(p:Int) ∣ V k*aZ Q j:=by
    have e:k+j-k=j:=⋯;rw [e] at this;exact this
   rcases aO5 hp h2 with z | z
   ·exact z
   ·exact absurd z j1
 exact λk=>key n k ⋯
theorem aT7 (c:Int) (f:Nat->Int):∀ n,sZ (λi=>c*f i) n=c*sZ f n
 | 0=>by simp [sZ]
 | n+1=>by rw [sZ,sZ,aT7 c f n];grind
theorem aM5 {Q:List Int} (hg:i6 Q=1) {n:Nat}:∀ (d:Nat),0<d->∀ V:Nat->Int,(∀ k,n<=k->V k=0)->(∀ k,(d:Int) ∣ sZ (λi=>V i*aZ Q (k-i)) (k+1))->∀ k,(d:Int) ∣ V k:=by
 intro d
 induction d using v0z with
 | ind d ih =>
  intro d0 V hV h
  by_cases d1:d=1
  ·intro k;rw [d1];exact ⟨V k,by simp⟩
  obtain ⟨p,p2,⟨e,he⟩,pp⟩:=aU3 d ⋯;have e0:0<e:=Nat.pos_of_ne_zero λz=>by rw [z] at he;omega
  have ed:e<d:=by
   have:2*e<=p*e:=z0b _ p2;omega
  have all:=bc8 p2 pp hg hV λk=>y0d ⟨(e:Int),by rw [he,z0s]⟩ (h k)
  have pz:(p:Int) ≠ 0:=⋯;obtain ⟨V',hV'⟩:∃ V':Nat->Int,∀ k,V k=(p:Int)*V' k:=⟨λk=>V k / (p:Int),λk=>(Int.mul_ediv_cancel' (all k)).symm⟩
  have r:=ih e ed e0 V' (λk hk=>by
   have h1:=hV' k;rw [hV k hk] at h1;rcases Int.mul_eq_zero.mp h1.symm with z | z
   ·exact absurd z pz
   ·exact z) λk=>by
    have h1:=h k
    have h2:sZ (λi=>V i*aZ Q (k-i)) (k+1)=(p:Int)*sZ (λi=>V' i*aZ Q (k-i)) (k+1):=by
     rw [<- aT7];exact am2 λi _=>by rw [hV' i];grind
    rw [h2,he,z0s] at h1;exact Int.dvd_of_mul_dvd_mul_left pz h1
  intro k;obtain ⟨y,hy⟩:=r k;exact ⟨y,by rw [hV' k,hy,he,z0s];grind⟩
theorem aY3 (h:Nat->Rat):∀ n,∃ D:Nat,0<D/\∀ k,k<n->∃ y:Int,(D:Rat)*h k=(y:Rat)
 | 0=>⟨1,⋯,λk hk=>⋯⟩
 | n+1=>by
  obtain ⟨D,D0,hD⟩:=aY3 h n;refine ⟨D*(h n).den,j0q D0 (h n).den_pos,λk hk=>?_⟩
  have hn:((h n).den:Rat)*h n=((h n).num:Rat):=by
   have h3:((h n).den:Rat) ≠ 0:=λw=>(h n).den_nz (v0y.mp (by rw [w];rfl))
   have h4:h n=((h n).num:Rat) / ((h n).den:Rat):=by
    have:=z0h (h n);rw [j0j] at this;exact this.symm
   have h5:=q0j _ h3;rw [y0b] at h4;generalize ((h n).den:Rat)=y at *;generalize y⁻¹=z at *;generalize ((h n).num:Rat)=n at *
   grind
  by_cases e:k=n
  ·subst e
   exact ⟨(D:Int)*(h k).num,by rw [Rat.natCast_mul,q0n,<- hn,j0u];grind⟩
  ·obtain ⟨y,hy⟩:=hD k ⋯
   exact ⟨((h n).den:Int)*y,by rw [Rat.natCast_mul,q0n,<- hy,j0u];grind⟩
theorem aX0 {Q:List Int} (hg:i6 Q=1) {h:Pf} {n:Nat} (hd:Dg h.f n) {z:Nat->Int} (e:∀ k,(h*zp Q).f k=(z k:Rat)):∃ y:Nat->Int,∀ k,h.f k=(y k:Rat):=by
 obtain ⟨D,D0,hD⟩:=aY3 h.f n
 have DR:(D:Rat) ≠ 0:=λw=>by
  have:=v0y.mp (show (D:Rat)=((0:Nat):Rat) by rw [w];rfl)
  omega
 obtain ⟨V,hV⟩:∃ V:Nat->Int,∀ k,(D:Rat)*h.f k=(V k:Rat):=by
  have:∀ k,∃ y:Int,(D:Rat)*h.f k=(y:Rat):=λk=>by
   by_cases c:k<n
   ·exact hD k c
   ·exact ⟨0,by rw [hd k ⋯,q0k];grind⟩
  exact ⟨λk=>Classical.choose (this k),λk=>Classical.choose_spec (this k)⟩
 have all:=aM5 hg (n:=n) D D0 V (λk hk=>by
  have h1:=hV k;rw [hd k hk] at h1
  exact q0y.mp (by rw [<- h1,q0k];grind)) λk=>by
   refine ⟨z k,q0y.mp ?_⟩;rw [ad9,q0n,<- e k,aw7]
   show _=_*cv h.f (zc Q) k;unfold cv;rw [j0u,W3]
   exact j6 λi _=>by
    rw [q0n,<- hV];unfold zc
    grind
 refine ⟨λk=>Classical.choose (all k),λk=>?_⟩;have h1:V k=(D:Int)*Classical.choose (all k):=Classical.choose_spec (all k);have h2:=hV k;rw [h1,q0n,j0u] at h2;have:=q0j _ DR;generalize (D:Rat)⁻¹=di at *;generalize (D:Rat)=d0 at *;generalize ((Classical.choose (all k):Int):Rat)=y at *
 grind
theorem ab6 {f g:Nat->Rat} {a b:Nat} (hf:Dg f (a+1)) (hg:Dg g (b+1)):cv f g (a+b)=f a*g b:=by
 unfold cv
 have:j7 (λi=>f i*g (a+b-i)) (a+b+1)=j7 (λi=>if i=a then f a*g b else 0) (a+b+1):=j6 λi _=>by
  by_cases z:i=a
  ·rw [if_pos z,z,g0z]
  ·rw [if_neg z]
   by_cases y:i<a
   ·rw [hg _ ⋯];grind
   ·rw [hf i ⋯];grind
 rw [this,K2,if_pos ⋯]
def ExZ (one other:List Int):Prop:=∃ (V:Nat->Int) (n:Nat),(∀ k,n<=k->V k=0)/\∀ k,zc one k=cv (λi=>(V i:Rat)) (zc other) k
theorem aW0 {one other Qz Rz:List Int} {n t:Nat} (hx:ExZ one other) (dv:Dv one other Qz Rz 1) (ho:other.length=n+1) (h0:aZ other n ≠ 0) (hr:Rz.length=n+1+t):aZ other n ∣ aZ Rz (t+n):=by
 obtain ⟨V,nv,hV,e⟩:=hx;obtain ⟨D,hD⟩:∃ D:Pf,D=⟨λi=>(V i:Rat)⟩ - zp Qz:=⟨_,rfl⟩
 have eD:D*zp other=zp Rz:=by
  have e1:zp one=⟨λi=>(V i:Rat)⟩*zp other:=Pf.ext e
  have e2:zp one=zp Qz*zp other+zp Rz:=Pf.ext λk=>by
   have:=dv k;rw [show ((1:Int):Rat)=1 from rfl] at this
   show zc one k=cv (zc Qz) (zc other) k+zc Rz k;rw [<- this];grind
  rw [hD];generalize (⟨λi=>(V i:Rat)⟩:Pf)=x at *
  grind
 have dD:Dg D.f (max nv Qz.length):=λk hk=>by
  rw [hD,af4]
  show (V k:Rat)-zc Qz k=0;rw [hV k ⋯,A6 Qz k ⋯,q0k];grind
 have oD:Dg (zc other) (n+1):=by rw [<- ho];exact A6 other
 have back:Dg D.f (t+1):=by
  have:=T1 (f:=D.f) (B:=zc other) (N:=n+1+t) dD oD (T5 h0) (λk hk=>by
   have:(D*zp other).f k=(zp Rz).f k:=by rw [eD]
   rw [show cv D.f (zc other) k=(D*zp other).f k from rfl,this];exact A6 Rz k ⋯)
  rwa [show n+1+t-n=t+1 by omega] at this
 have top:=ab6 back oD
 have h1:zc Rz (t+n)=D.f t*zc other n:=by
  rw [<- top,show cv D.f (zc other) (t+n)=(D*zp other).f (t+n) from rfl,eD];rfl
 refine ⟨V t-aZ Qz t,q0y.mp ?_⟩;have h2:D.f t=(V t:Rat)-zc Qz t:=by rw [hD];rfl
 rw [h2] at h1;unfold zc at h1;rw [h1,q0n,Rat.intCast_sub];grind
section
variable {P:Program} {w:World} {K:q0a} {mg:Str->Option Value} {base:Heap}
def ak6 (K:q0a):Sp:=λvs H Q _ => ∃ (a:Addr) (ws:List Int),vs=[.ref a]/\SqL K H a (ws.map V.int)/\ws.length<=100/\∀ m r,k7 ws m->H r=none->Q (.ref r) (upd H r (.lst ((ws.take m).map V.int)))
abbrev W7:Stmt:=top 13
theorem aa2:i8 ["wholes","many"] ["wholes"] (d6 W7):=by and_intros
theorem aI1 {f:Addr} (d:Df K mg "trimmed" W7 ["wholes"] f) (n_len:mg "len" = none):Def P w K mg base CX0 1 "trimmed" f ["wholes"] (ak6 K):=by
  refine d.ok (N:=["wholes","many"]) aa2 (by rintro vs H Q E ⟨_,_,h,_⟩;rw [h];rfl) (λcdv A outer s H vs Q E hr h=>?_)
  obtain ⟨a,ws,rfl,hS,hl,k⟩:=h
  refine ⟨_, (c7 (d9 (i := 1) aa2.nd rfl (Or.inl rfl) (f9 h9 rfl n_len (by decide +kernel) (b8 (pv 0) b9)))
      (c7 (F7 PassesOwn.never (PW.pt (aw1 (J2 (pv 1) (λ_=>rfl)) (ak8 (i9 ac8 (k3 r6 (pv 0) (f8 R7 (pv 1) c6) (λ_ _=>rfl)) c6 (k4 _))))) (c9 (aH5 (i:=1) aa2.nd rfl (Or.inl rfl) c6 aW4)))
      (c9 (i5 (am6 av3 (pv 0) aw4 (aw3 (pv 1))))))),?_⟩
  rw [show start ["wholes","many"] [.ref a]=[some (.ref a),none] from rfl]
  refine d8 (λσ H1=>σ=[some (.ref a),some (.int ws.length)]/\H=H1) (λN hN=>?_) ?_
  · subst_eqs
    refine ⟨_,.inl hS,hN _ _ ⟨?_,rfl⟩⟩;rw [List.length_map]
  rintro σ H1 ⟨rfl,rfl⟩;refine d8 (λσ H1 => ∃ m:Nat,σ=[some (.ref a),some (.int m)]/\H=H1/\k7 ws m) (λN hN=>?_) ?_
  · refine U0 (λσ H1=>H=H1/\∃ m:Nat,σ=[some (.ref a),some (.int m)]/\m<=ws.length/\∀ i v,m<=i->ws[i]? = some v->v=0) (λσ _=>match σ with | [_,some (.int y)]=>y.toNat | _=>0) ⟨rfl,ws.length,rfl,Nat.le_refl _,λi v hi h=>by rw [List.getElem?_eq_none hi] at h;cases h⟩ ?_
    rintro σ H1 ⟨rfl,m,rfl,hm,hz⟩
    simp! [ap3]
    refine t7 (λh0=>?_) (λh0=>?_)
    · have h0':m ≠ 0:=λz=>by subst z;simp at h0
      have hlt:m-1<ws.length:=⋯;have hg:ws[m-1]? = some ws[m-1]:=List.getElem?_eq_getElem hlt;have ei:((m:Int)-1)=((m-1:Nat):Int):=⋯;rw [ei];refine ⟨_,hS,.int ws[m-1],X8 (by rw [List.getElem?_map,hg];rfl),rfl,t7 (λhn=>?_) (λhn=>?_)⟩
      · have hn':ws[m-1]=0:=by simpa using hn
        refine WhB.mk ?_
        subst_eqs
        refine WhN.mk ⟨rfl,m-1,by rw [ei],⋯,λi v hi e=>?_⟩ ?_
        · by_cases hi':i=m-1
          · subst hi'
            rw [hg] at e
            cases e
            exact hn'
          · exact hz i v ⋯ e
        · show ((m:Int)-1).toNat<(m:Int).toNat
          omega
      · refine hN _ _ ⟨m,rfl,rfl,hm,hz,λ_ v e=>?_⟩
        rw [hg] at e
        cases e
        intro z;exact hn (by rw [z])
    · have h0' : m = 0 := by
        by_cases z:m=0
        · exact z
        · exact absurd (by simp [z]) h0
      exact hN _ _ ⟨m,rfl,rfl,hm,hz,λh=>absurd h0' h⟩
  rintro σ H1 ⟨m,rfl,rfl,t⟩
  subst_eqs
  refine ⟨_,hS,λp hp=>?_⟩;rw [aG3 _ (by rw [List.length_map];exact t.le),<- List.map_take]
  exact k m p t hp
theorem ay6 {n k:Nat} (h:k<n):ixN n (k:Int)=some k:=by
 unfold ixN;rw [if_pos ⋯,if_pos ⋯]
 simp
theorem ba4:(3:Nat)<=sizeLine:=by decide
structure WDD (H:Hp) (one other:List Int) (n W1 W2 kst:Nat) (lq lr:Addr) (many:Int) (Qz Rz:List Int) (H3:Hp):Prop where
 same:d4 H H3
 fq:H lq=none
 fr:H lr=none
 nqr:lq ≠ lr
 eq:H3 lq=some (.lst (Qz.map V.int))
 er:H3 lr=some (.lst (Rz.map V.int))
 m1:1<=many
 mb:many.natAbs<2 ^ (kst*W2+1)
 qb:∀ v ∈ Qz,z0p v<2 ^ (W1+kst*(W2+1))
 rb:∀ v ∈ Rz,z0p v<2 ^ (W1+kst*(W2+1))
 kl:kst+Rz.length<=one.length
 ks:kst=0 \/ kst+n<=one.length
 k0:kst=0->Rz.length=one.length
 rt:k7 Rz Rz.length
 ql:Qz.length=one.length-n
 qz:∀ i,i+n<Rz.length->aZ Qz i=0
 qlast:kst ≠ 0->∀ v,Qz[Qz.length-1]? = some v->v ≠ 0
 dv:Dv one other Qz Rz many
 ex:ExZ one other->many=1
theorem aT5 {K:q0a} {l D:Addr} {ws:List Int} {f:Int} {H1:Hp} {Q:VK} {m m2:Nat} (e:H1 l=some (.lst (ws.map V.int))) (hD:H1 D=none) (hl:ws.length<=100) (hf:f.natAbs<2 ^ m2) (hw:∀ v ∈ ws,z0p v<2 ^ m) (hm:m+m2<=20000)
  (k:∀ H2,d4 H1 H2->H2 D=some (.lst ((ws.map (f * ·)).map V.int))->Q (.ref D) H2):ae3 (Itl K l) D [some (.int f),none] (upd H1 D (.lst [])) (m9 1) (tOp (rI IntMulOk λi j=>V.int (i*j)) (K1 0) (K1 1)) Q:=by
 refine L9 (ws.map V.int) (λi σ H3 => ∃ o,σ=[some (.int f),o]/\d4 H1 H3/\H3 D=some (.lst (((ws.take i).map (f * ·)).map V.int))) ⟨_,rfl,d4.new hD _,c8⟩ (λi σ H3 _ ⟨_,_,s3,_⟩=>SqL.of (s3 _ _ e)) ?_ ?_
 ·rintro i y σ H3 hy ⟨o,rfl,s3,e3⟩
  have hi:=(q0s.mp hy).1;obtain ⟨v,hv,rfl⟩:=J3 hy
  subst_eqs
  refine ⟨C6 hf (hw v (z0c hv)) ⋯,D4.mk hi e3 ?_ ⟨_,rfl,s3.over hD _,?_⟩⟩
  ·simp only [q0m,j0b]
   exact q0e (show _<=100 by omega) (by decide)
  ·rw [c8,y0f,hv]
   simp
 ·rintro σ H3 ⟨o,rfl,s3,e3⟩
  rw [q0m,j0y] at e3;exact k H3 s3 e3
def V0 (k:Nat) (σ:L2.St) (H:Hp):Nat:=match σ[k]? with
 | some (some (.ref r))=>(match H r with
  | some (.lst xs)=>xs.length
  | _=>0)
 | _=>0
theorem aE5 {k:Nat} {σ:L2.St} {H:Hp} {r:Addr} {xs:List V} (h:σ[k]? = some (some (.ref r))) (e:H r=some (.lst xs)):V0 k σ H=xs.length:=by
 unfold V0;rw [h];simp only [e]
def aS9 (K:q0a):Sp:=λvs H Q _ => ∃ (a b:Addr) (one other:List Int) (n S W1 W2:Nat),vs=[.ref a,.ref b]/\SqL K H a (one.map V.int)/\SqL K H b (other.map V.int)/\one.length<=30/\other.length=n+1/\n<=30/\aZ other n ≠ 0/\k7 one one.length/\one.length<=n+S/\(∀ v ∈ one,z0p v<2 ^ W1)/\(∀ v ∈ other,z0p v<2 ^ W2)/\W1+S*(W2+1)<=5000/\W2<=5000 /\
 ∀ r lq lr many Qz Rz H',d4 H H'->H lq=none->H lr=none->lq ≠ lr->H' r=some (.tup [.int many,.ref lq,.ref lr])->H' lq=some (.lst (Qz.map V.int))->H' lr=some (.lst (Rz.map V.int))->1<=many->many.natAbs<2 ^ (S*W2+1)->(∀ v ∈ Qz,z0p v<2 ^ (W1+S*(W2+1)))->(∀ v ∈ Rz,z0p v<2 ^ (W1+S*(W2+1)))->Rz.length<=n->k7 Rz Rz.length->Qz.length=one.length-n->k7 Qz Qz.length->Dv one other Qz Rz many->(ExZ one other->many=1)->Q (.ref r) H'
abbrev v8:Stmt:=top 23
theorem i4:i8 ["one","other","lead","many","quotient","rest","part","place","factor","further","whole"] ["one","other"] (d6 v8):=by and_intros
theorem ad2 {f f1:Addr} (d:Df K mg "whole_divided" v8 ["one","other"] f) (G_trimmed:Def P w K mg base CX0 1 "trimmed" f1 ["wholes"] (ak6 K)) (n_len:mg "len" = none) (n_max:mg "max" = none) (n_list:mg "list" = none) (n_abs:mg "abs" = none) (n_enumerate:mg "enumerate" = none):Def P w K mg base CX0 2 "whole_divided" f ["one","other"] (aS9 K):=by
  refine d.ok (N:=["one","other","lead","many","quotient","rest","part","place","factor","further","whole"]) i4 (by rintro vs H Q E ⟨_,_,_,_,_,_,_,_,h,_⟩;rw [h];rfl) (λcdv A outer s H vs Q E hr h=>?_)
  obtain ⟨a,b,one,other,n,S,W1,W2,rfl,hS,hS',hl1,hl2,hn,h0,ht1,hS1,hw1,hw2,hT,hT2,k⟩:=h
  refine ⟨_, (c7 (d9 (i := 2) i4.nd rfl (Or.inl rfl) (k3 r6 (pv 1) (O8 E9 c6) (fun _ _ => rfl)))
      (c7 (d9 (i:=3) i4.nd rfl (Or.inl rfl) c6)
      (c7 (d9 (i:=4) i4.nd rfl (Or.inl rfl) (f8 aI0 (z7 (b8 c6 b9)) (f9 (at4 rfl) rfl n_max (by decide +kernel) (b8 c6 (b8 (f8 F8 (f8 R7 (f9 h9 rfl n_len (by decide +kernel) (b8 (pv 0) b9)) (f9 h9 rfl n_len (by decide +kernel) (b8 (pv 1) b9))) c6) b9)))))
      (c7 (d9 (i:=5) i4.nd rfl (Or.inl rfl) (C1 x8 rfl n_list (by decide +kernel) (b8 (pv 0) b9)))
      (c7 (F7 PassesOwn.never (i9 aU8 (f9 h9 rfl n_len (by decide +kernel) (b8 (pv 5) b9)) (f9 h9 rfl n_len (by decide +kernel) (b8 (pv 1) b9)) (k4 _)) (c7 (d9 (i:=6) i4.nd rfl (Or.inl rfl) (k3 r6 (pv 5) (O8 E9 c6) (λ_ _=>rfl)))
      (c7 (d9 (i:=7) i4.nd rfl (Or.inl rfl) (f8 R7 (f9 h9 rfl n_len (by decide +kernel) (b8 (pv 5) b9)) (f9 h9 rfl n_len (by decide +kernel) (b8 (pv 1) b9))))
      (c7 (w8 (i9 ac8 (f8 D7 (pv 6) (pv 2)) c6 (k4 _)) (c9 (d9 (i:=6) i4.nd rfl (Or.inl rfl) (f8 z5 (pv 6) (pv 2)))) (c7 (d9 (i:=8) i4.nd rfl (Or.inr rfl) (f9 Q8 rfl n_abs (by decide +kernel) (b8 (pv 2) b9)))
      (c7 (d9 (i:=6) i4.nd rfl (Or.inl rfl) (aD1 (i9 Z6 (pv 2) c6 (k4 _)) (pv 6) (O8 E9 (pv 6))))
      (c7 (aH5 (i:=3) i4.nd rfl (Or.inl rfl) (pv 8) bk2)
      (c7 (am3 (i₀:=4) i4.nd rfl (Or.inl rfl) (Nc:=["factor","whole"]) (caps:=[some 8,none]) rfl (T9.of (osc:=d6 v8) (N:=["one","other","lead","many","quotient","rest","part","place","factor","further","whole"]) (ks:=["factor"]) rfl rfl rfl rfl (A7 rfl A3) (by decide +kernel)) (v6 (pv 4)) (λC s₂ H₂ fp pins=>(i3 (i:=1) (show List.Nodup (["factor","whole"]:List Str) by decide +kernel) rfl (Or.inl rfl) (Or.inr rfl))) (λC s₂ H₂ fp pins=>(f8 m8 (pv 0) (pv 1))))
      (c9 (am3 (i₀:=5) i4.nd rfl (Or.inl rfl) (Nc:=["factor","whole"]) (caps:=[some 8,none]) rfl (T9.of (osc:=d6 v8) (N:=["one","other","lead","many","quotient","rest","part","place","factor","further","whole"]) (ks:=["factor"]) rfl rfl rfl rfl (A7 rfl A3) (by decide +kernel)) (v6 (pv 5)) (λC s₂ H₂ fp pins=>(i3 (i:=1) (show List.Nodup (["factor","whole"]:List Str) by decide +kernel) rfl (Or.inl rfl) (Or.inr rfl))) (λC s₂ H₂ fp pins=>(f8 m8 (pv 0) (pv 1))))))))))
      (c7 (af3 (pv 6) (aw6 (pv 4) (pv 7) P7))
      (c7 (C2 PassesOwn.never rfl (X0 rfl n_enumerate (b8 (pv 1) b9)) (show PG _ _ (N3 K 2 (p9 (m9 9) (p9 (m9 10) N4))) from by (refine E2 (n:=2) ?_ ?_ ?_ ?_;rfl;(refine j9 ?_ ?_ ?_;(exact (i3 (i:=9) i4.nd rfl (Or.inl rfl)));(refine j9 ?_ ?_ ?_;(exact (i3 (i:=10) i4.nd rfl (Or.inl rfl)));(exact y6);rfl);rfl);rfl;rfl)) (c9 (aL5 (pv 5) (f8 F8 (pv 7) (pv 9)) aF2 (f8 m8 (pv 6) (pv 10)) aW4 P7)))
      (c9 (d9 (i:=5) i4.nd rfl (Or.inl rfl) (d7 G_trimmed hr (b8 (pv 5) b9) e9)))))))))
      (c9 (i5 (y7 (b8 (pv 3) (b8 (pv 4) (b8 (pv 5) b9))))))))))),?_⟩
  rw [show start ["one","other","lead","many","quotient","rest","part","place","factor","further","whole"] [.ref a,.ref b]=[some (.ref a),some (.ref b),none,none,none,none,none,none,none,none,none] from rfl]
  obtain ⟨lead,hlead⟩:∃ z,z=aZ other n:=⟨_,rfl⟩;have hg:other[n]? = some lead:=by rw [hlead];unfold aZ;rw [List.getElem?_eq_getElem ⋯];rfl
  have l0:lead ≠ 0:=by rw [hlead];exact h0
  have lb:lead.natAbs<2 ^ W2:=hw2 _ (List.mem_of_getElem? hg);refine d8 (λσ H1=>σ=[some (.ref a),some (.ref b),some (.int lead),none,none,none,none,none,none,none,none]/\H=H1) (λN hN=>?_) ?_
  · subst_eqs
    refine ⟨_,hS',_,R8 (x:=.int lead) (by rw [List.length_map,hl2,List.getElem?_map,Nat.add_sub_cancel,hg];rfl),hN _ _ ⟨rfl,rfl⟩⟩
  rintro σ H1 ⟨rfl,rfl⟩;refine d8 (λσ H1=>σ=[some (.ref a),some (.ref b),some (.int lead),some (.int 1),none,none,none,none,none,none,none]/\H=H1) (λN hN=>?_) ?_
  · subst_eqs
    exact hN _ _ ⟨rfl,rfl⟩
  rintro σ H1 ⟨rfl,rfl⟩;refine d8 (λσ H1 => ∃ lq,σ=[some (.ref a),some (.ref b),some (.int lead),some (.int 1),some (.ref lq),none,none,none,none,none,none]/\d4 H H1/\H lq=none/\H1 lq=some (.lst ((List.replicate (one.length-n) (0:Int)).map V.int))) (λN hN=>?_) ?_
  · subst_eqs
    refine ⟨by decide,λp hp=>?_⟩
    have Sp:=d4.new hp (.lst [.int 0])
    have ez:(if (((one.map V.int).length:Nat):Int)-(((other.map V.int).length:Nat):Int)+1 > 0 then (((one.map V.int).length:Nat):Int)-(((other.map V.int).length:Nat):Int)+1 else 0)=((one.length-n:Nat):Int):=by
      rw [List.length_map,List.length_map,hl2]
      split <;> omega
    refine ⟨_,.inl (Sp.seq hS),_,.inl (Sp.seq hS'),_,c8,?_⟩;rw [ez];refine ⟨⋯,⋯,?_,λp1 hp1=>hN _ _ ⟨p1,rfl,Sp.trans (d4.new hp1 _),Sp.free hp1,?_⟩⟩
    · have:(([V.int 0]:List V).length*((one.length-n:Nat):Int).toNat)<=100:=by simp;omega
      exact Nat.le_trans this (by decide)
    · rw [c8,Int.toNat_natCast,List.flatten_replicate_singleton,List.map_replicate]
  rintro σ H1 ⟨lq,rfl,s1,fq,eq⟩;refine d8 (λσ H2 => ∃ lr,σ=[some (.ref a),some (.ref b),some (.int lead),some (.int 1),some (.ref lq),some (.ref lr),none,none,none,none,none]/\d4 H1 H2/\H1 lr=none/\H2 lr=some (.lst (one.map V.int))) (λN hN=>?_) ?_
  · subst_eqs
    refine ⟨_,.inl (s1.seq hS),λl hl=>hN _ _ ⟨l,rfl,d4.new hl _,hl,c8⟩⟩
  rintro σ H2 ⟨lr,rfl,s2,fr,er⟩;refine d8 (λσ H3 => ∃ lq lr many Qz Rz o6 o7 o8 o9 o10,σ=[some (.ref a),some (.ref b),some (.int lead),some (.int many),some (.ref lq),some (.ref lr),o6,o7,o8,o9,o10]/\d4 H H3/\H lq=none/\H lr=none/\lq ≠ lr/\H3 lq=some (.lst (Qz.map V.int))/\H3 lr=some (.lst (Rz.map V.int))/\1<=many/\many.natAbs<2 ^ (S*W2+1)/\(∀ v ∈ Qz,Int.natAbs v<2 ^ (W1+S*(W2+1)))/\(∀ v ∈ Rz,Int.natAbs v<2 ^ (W1+S*(W2+1)))/\Rz.length<=n/\k7 Rz Rz.length/\Qz.length=one.length-n/\k7 Qz Qz.length/\Dv one other Qz Rz many/\(ExZ one other->many=1)) (λN hN=>?_) ?_
  · have w2p : 1 ≤ W2 := by
      rcases Nat.eq_zero_or_pos W2 with z | z
      · rw [z] at lb;omega
      · exact z
    refine U0 (λσ H3 => ∃ kst lq lr many Qz Rz o6 o7 o8 o9 o10,σ=[some (.ref a),some (.ref b),some (.int lead),some (.int many),some (.ref lq),some (.ref lr),o6,o7,o8,o9,o10]/\WDD H one other n W1 W2 kst lq lr many Qz Rz H3) (V0 5) ⟨0,lq,lr,1,_,one,_,_,_,_,_,rfl,⟨s1.trans s2,fq,s1.free fr,e8 eq fr,s2 _ _ eq,er,by decide,by simp,λv hv=>?_,λv hv=>?_,⋯,.inl rfl,λ_=>rfl,ht1,by rw [List.length_replicate],λi _=>?_,λz=>absurd rfl z,λk=>?_,λ_=>rfl⟩⟩ ?_
    · rw [(List.mem_replicate.mp hv).2];exact Nat.two_pow_pos _
    · have:=hw1 v hv
      simpa using this
    · unfold aZ
      rw [List.getElem?_replicate]
      split <;> rfl
    · have : cv (zc (List.replicate (one.length - n) (0 : Int))) (zc other) k = 0 := D9 _ fun i _ => by
        have:zc (List.replicate (one.length-n) (0:Int)) i=0:=by
          unfold zc aZ;rw [List.getElem?_replicate]
          split <;> rfl
        rw [this];grind
      rw [this]
      show (1:Rat)*_=_
      grind
    clear eq er fq fr s1 s2 lq lr;rintro σ H3 ⟨kst,lq,lr,many,Qz,Rz,o6,o7,o8,o9,o10,rfl,D⟩;have hSb:=D.same.seq hS';simp only [Y9,tOp,tCB,P6,aj0,K1,rI0];refine ⟨_,rfl,lr,_,rfl,.inl (SqL.of D.er),_,rfl,b,_,rfl,.inl hSb,_,_,rfl,rfl,_,rfl,?_⟩;rw [List.length_map,List.length_map,hl2];refine t7 (λhge=>WhB.mk ?_) (λhlt=>?_)
    · have hge' : n + 1 ≤ Rz.length := by
        have:((n+1:Nat):Int)<=(Rz.length:Int):=by simpa using hge
        omega
      obtain ⟨t,ht⟩:∃ t,Rz.length=n+1+t:=⟨Rz.length-(n+1),⋯⟩;have htq:t<Qz.length:=by rw [D.ql];have:=D.kl;omega
      obtain ⟨y,hy⟩:∃ y,Rz[Rz.length-1]? = some y:=⟨_,List.getElem?_eq_getElem ⋯⟩;have y0:y ≠ 0:=D.rt.last ⋯ y hy;have yb:=D.rb y (List.mem_of_getElem? hy);refine d8 (λσ H4=>σ=[some (.ref a),some (.ref b),some (.int lead),some (.int many),some (.ref lq),some (.ref lr),some (.int y),o7,o8,o9,o10]/\H3=H4) (λN hN=>?_) ?_
      · subst_eqs
        exact ⟨_,SqL.of D.er,_,R8 (x:=.int y) (by rw [List.length_map,List.getElem?_map,hy];rfl),hN _ _ ⟨rfl,rfl⟩⟩
      rintro σ H4 ⟨rfl,rfl⟩;refine d8 (λσ H4=>σ=[some (.ref a),some (.ref b),some (.int lead),some (.int many),some (.ref lq),some (.ref lr),some (.int y),some (.int (t:Int)),o8,o9,o10]/\H3=H4) (λN hN=>?_) ?_
      · subst_eqs
        refine ⟨_,.inl (SqL.of D.er),_,.inl hSb,hN _ _ ⟨?_,rfl⟩⟩;rw [List.length_map,List.length_map,hl2,ht,show (((n+1+t:Nat):Int)-((n+1:Nat):Int))=(t:Int) by omega]
      rintro σ H4 ⟨rfl,rfl⟩;refine d8 (λσ H4 => ∃ lq1 lr1 c d o8,σ=[some (.ref a),some (.ref b),some (.int lead),some (.int (many*c)),some (.ref lq1),some (.ref lr1),some (.int d),some (.int (t:Int)),o8,o9,o10]/\d4 H3 H4/\H lq1=none/\H lr1=none/\lq1 ≠ lr1/\H4 lq1=some (.lst ((Qz.map (c * ·)).map V.int))/\H4 lr1=some (.lst ((Rz.map (c * ·)).map V.int))/\c*y=d*lead/\1<=c/\c.natAbs<2 ^ W2/\d.natAbs<=y.natAbs/\d ≠ 0/\(lead ∣ y->c=1)) (λN hN=>?_) ?_
      · subst_eqs
        have hks:kst<=S:=by rcases D.ks with z | z <;> omega
        have hkm:=Nat.mul_le_mul_right (W2+1) hks;have hkm2:kst*W2<=kst*(W2+1):=Nat.mul_le_mul_left _ ⋯;have one2:(1:Nat)<2 ^ W2:=Nat.lt_of_lt_of_le (show 1<2 ^ 1 by decide) (c5 w2p)
        refine ⟨l0,rfl,t7 (λhd=>?_) (λhd=>?_)⟩
        · refine ⟨P3 l0 (O9 lb ⋯),hN _ _ ⟨lq,lr,1,y.fdiv lead,o8,by rw [Int.mul_one],d4.refl _,D.fq,D.fr,D.nqr,?_,?_,?_,by decide,one2,?_,?_,λ_=>rfl⟩⟩
          · have : Qz.map ((1 : Int) * ·) = Qz := by conv => rhs; rw [← List.map_id Qz]
                                                     exact List.map_congr_left λv _=>Int.one_mul v
            rw [this];exact D.eq
          · have : Rz.map ((1 : Int) * ·) = Rz := by conv => rhs; rw [← List.map_id Rz]
                                                     exact List.map_congr_left λv _=>Int.one_mul v
            rw [this];exact D.er
          · have:=Int.fmod_add_mul_fdiv y lead
            rw [hd] at this;rw [Int.one_mul,Int.mul_comm];omega
          · have:=Int.fmod_add_mul_fdiv y lead
            rw [hd,Int.zero_add] at this
            conv=>rhs;rw [<- this]
            rw [Int.natAbs_mul];exact Nat.le_mul_of_pos_left _ ⋯
          · intro z
            have:=Int.fmod_add_mul_fdiv y lead;rw [hd,z] at this
            simp at this
            exact y0 this.symm
        · have hnd:¬ lead ∣ y:=λz=>hd (by simpa using Int.fmod_eq_zero_of_dvd z)
          have fin:∀ d:Int,(if lead<0 then -lead else lead)*y=d*lead->d.natAbs=y.natAbs->IntMulOk many (if lead<0 then -lead else lead)/\(∃ xs,SqL K H3 lq xs)/\∀ (D:Addr),H3 D=none->ae3 (Itl K lq) D [some (V.int (if lead<0 then -lead else lead)),none] (upd H3 D (HO.lst [])) (m9 1) (tOp (rI IntMulOk λi j=>V.int (i*j)) (K1 0) (K1 1)) λx H1=>(∃ xs,SqL K H1 lr xs)/\∀ (D:Addr),H1 D=none->ae3 (Itl K lr) D [some (V.int (if lead<0 then -lead else lead)),none] (upd H1 D (HO.lst [])) (m9 1) (tOp (rI IntMulOk λi j=>V.int (i*j)) (K1 0) (K1 1)) λx_1 H1=>N [some (V.ref a),some (V.ref b),some (V.int lead),some (V.int (many*if lead<0 then -lead else lead)),some x,some x_1,some (V.int d),some (V.int ↑t),some (V.int (if lead<0 then -lead else lead)),o9,o10] H1:=λd hd1 hd2=>by
            have ab:((if lead<0 then -lead else lead):Int).natAbs=lead.natAbs:=by split <;> omega
            have ab1:(1:Int)<=(if lead<0 then -lead else lead):=by split <;> omega
            generalize (if lead<0 then -lead else lead)=c at ab ab1 hd1 ⊢;have cb:c.natAbs<2 ^ W2:=⋯;have hml:=D.kl;refine ⟨C6 D.mb cb ⋯,⟨_,SqL.of D.eq⟩,λD1 hD1=>aT5 D.eq hD1 (by rw [D.ql];omega) cb D.qb ⋯ λH4 s4 e4=>?_⟩
            refine ⟨⟨_,SqL.of (s4 _ _ D.er)⟩,λD2 hD2=>aT5 (s4 _ _ D.er) hD2 ⋯ cb D.rb ⋯ λH5 s5 e5=>?_⟩;exact hN _ _ ⟨D1,D2,c,d,_,rfl,s4.trans s5,D.same.free hD1,D.same.free (s4.free hD2),e8 e4 hD2,s5 _ _ e4,e5,hd1,ab1,cb,⋯,λz=>y0 ⋯,λz=>absurd z hnd⟩
          refine t7 (λhp=>fin y ?_ rfl) (λhp=>fin (-y) ?_ ⋯)
          · rw [if_neg ⋯];exact Int.mul_comm _ _
          · rw [if_pos ⋯,Int.neg_mul,Int.neg_mul,Int.mul_comm]
      rintro σ H4 ⟨lq1,lr1,c,d,o8,rfl,s4,fq1,fr1,nqr1,eq1,er1,hcd,c1,cb,db,d0,cl1⟩;refine d8 (λσ H5=>σ=[some (.ref a),some (.ref b),some (.int lead),some (.int (many*c)),some (.ref lq1),some (.ref lr1),some (.int d),some (.int (t:Int)),o8,o9,o10]/\d4 H H5/\H5 lq1=some (.lst (((Qz.map (c * ·)).set t d).map V.int))/\H5 lr1=some (.lst ((Rz.map (c * ·)).map V.int))) (λN hN=>?_) ?_
      · subst_eqs
        refine ⟨_,eq1,t,ay6 (by rw [List.length_map,List.length_map];exact htq),hN _ _ ⟨rfl,(D.same.trans s4).over fq1 _,?_,?_⟩⟩
        · rw [c8,List.map_set]
        · rw [i7 nqr1.symm];exact er1
      rintro σ H5 ⟨rfl,s5,eq5,er5⟩;refine d8 (λσ H6 => ∃ o9 o10,σ=[some (.ref a),some (.ref b),some (.int lead),some (.int (many*c)),some (.ref lq1),some (.ref lr1),some (.int d),some (.int (t:Int)),o8,o9,o10]/\d4 H H6/\H6 lq1=some (.lst (((Qz.map (c * ·)).set t d).map V.int))/\H6 lr1=some (.lst ((p8 0 (Rz.map (c * ·)) t (-d) other other.length).map V.int))) (λN hN=>?_) ?_
      · refine ⟨_,rfl,b,rfl,⟨_,s5.seq hS'⟩,V2 (other.map V.int) (λj σ H6 => ∃ o9 o10,σ=[some (.ref a),some (.ref b),some (.int lead),some (.int (many*c)),some (.ref lq1),some (.ref lr1),some (.int d),some (.int (t:Int)),o8,o9,o10]/\d4 H H6/\H6 lq1=some (.lst (((Qz.map (c * ·)).set t d).map V.int))/\H6 lr1=some (.lst ((p8 0 (Rz.map (c * ·)) t (-d) other j).map V.int))) ⟨_,_,rfl,s5,eq5,er5⟩ (by rintro j σ H6 ⟨_,_,_,s6,_⟩;exact s6.seq hS') ?_ (by rintro σ H6 ⟨o9,o10,rfl,s6,eq6,er6⟩;rw [List.length_map] at er6;exact hN _ _ ⟨o9,o10,rfl,s6,eq6,er6⟩)⟩
        rintro j x σ H6 p hx ⟨o9,o10,rfl,s6,eq6,er6⟩ hp;obtain ⟨v,hv,rfl⟩:=J3 hx;have hj:=(List.getElem?_eq_some_iff.mp hv).1;have Sp:=d4.new hp (.tup [.int j,.int v]);have er7:=Sp _ _ er6;have il:(p8 0 (Rz.map (c * ·)) t (-d) other j).length=Rz.length:=by rw [Q7,List.length_map]
        have hk:t+j<(p8 0 (Rz.map (c * ·)) t (-d) other j).length:=⋯
        have hgk:=List.getElem?_eq_getElem hk;generalize hz:(p8 0 (Rz.map (c * ·)) t (-d) other j)[t+j]=z at hgk
        have ej:(t:Int)+(j:Int)=((t+j:Nat):Int):=⋯;have dbw:d.natAbs<2 ^ (W1+kst*(W2+1)):=⋯;have hks:kst<=S:=by rcases D.ks with z | z <;> omega
        have hkm:=Nat.mul_le_mul_right (W2+1) hks
        subst_eqs
        refine ⟨_,SqT.of c8,rfl,_,_,rfl,_,_,rfl,rfl,_,rfl,_,SqL.of er7,.int z,by rw [ej];exact X8 (by rw [List.getElem?_map,hgk];rfl),v,rfl,C6 dbw (hw2 v (List.mem_of_getElem? hv)) ⋯,z,rfl,_,er7,t+j,by rw [ej];exact ay6 (by rw [List.length_map];exact hk),(s6.trans Sp).over fr1 _,?_,?_⟩
        · rw [i7 nqr1];exact Sp _ _ eq6
        · rw [c8,p8,hv,Option.getD_some,<- Y4 _ _ _ _ hgk,List.map_set,Int.neg_mul]
          rfl
      rintro σ H6 ⟨o9,o10,rfl,s6,eq6,er6⟩
      subst_eqs
      obtain ⟨R2,hR2⟩:∃ R2,R2=p8 0 (Rz.map (c * ·)) t (-d) other other.length:=⟨_,rfl⟩
      rw [<- hR2] at er6;have l2:R2.length=Rz.length:=by rw [hR2,Q7,List.length_map]
      have hRk:∀ k,aZ R2 k=c*aZ Rz k-if t<=k then d*aZ other (k-t) else 0:=λk=>by
        by_cases hk:k<Rz.length
        · have hy1 : (Rz.map (c * ·))[k]? = some (c * aZ Rz k) := by
            rw [List.getElem?_map];unfold aZ;rw [List.getElem?_eq_getElem hk];rfl
          have:=ao0 (Rz.map (c * ·)) t (-d) other _ hy1 other.length
          rw [<- hR2] at this
          conv=>lhs;unfold aZ
          rw [this,Option.getD_some]
          by_cases h1:t<=k
          · rw [if_pos ⟨h1,⋯⟩,if_pos h1,Int.neg_mul];rfl
          · rw [if_neg (λz=>h1 z.1),if_neg h1];omega
        · have e1:aZ R2 k=0:=by unfold aZ;rw [List.getElem?_eq_none ⋯];rfl
          have e2:aZ Rz k=0:=by unfold aZ;rw [List.getElem?_eq_none ⋯];rfl
          have e3:aZ other (k-t)=0:=by unfold aZ;rw [List.getElem?_eq_none ⋯];rfl
          rw [e1,e2,e3];simp
      have last0:aZ R2 (Rz.length-1)=0:=by
        rw [hRk,if_pos ⋯,show Rz.length-1-t=n by omega,<- hlead]
        have:aZ Rz (Rz.length-1)=y:=by unfold aZ;rw [hy];rfl
        rw [this,hcd];omega
      have hkl:=D.kl;refine ⟨lr1,R2,rfl,SqL.of er6,⋯,λm r tm hr'=>?_⟩
      have hmlt:m<Rz.length:=by
        rcases Nat.lt_or_ge m Rz.length with z | z
        · exact z
        · have hm:=tm.le
          have hm':m=Rz.length:=⋯;have hg2:R2[m-1]? = some R2[m-1]:=List.getElem?_eq_getElem ⋯;refine absurd ?_ (tm.last ⋯ _ hg2);unfold aZ at last0;rw [<- hm',hg2] at last0;exact last0
      have bits:∀ v ∈ R2,Int.natAbs v<2 ^ (W1+(kst+1)*(W2+1)):=λv hv=>by
        obtain ⟨k,hk⟩:=List.mem_iff_getElem?.mp hv;have ev:v=aZ R2 k:=by unfold aZ;rw [hk];rfl
        rw [ev,hRk]
        have b1:(c*aZ Rz k).natAbs<2 ^ (W1+kst*(W2+1)+W2):=by
          rw [Int.natAbs_mul,Nat.mul_comm,Nat.pow_add];exact Nat.mul_lt_mul'' (aG9 D.rb k) cb
        have b2:(if t<=k then d*aZ other (k-t) else 0).natAbs<2 ^ (W1+kst*(W2+1)+W2):=by
          split
          · rw [Int.natAbs_mul,Nat.pow_add]
            exact Nat.mul_lt_mul'' ⋯ (aG9 hw2 _)
          · exact Nat.two_pow_pos _
        have e:W1+(kst+1)*(W2+1)=W1+kst*(W2+1)+W2+1:=by rw [Nat.succ_mul];omega
        rw [e,Nat.pow_succ];omega
      have Sr:=d4.new hr' (.lst ((R2.take m).map V.int));have tml:(R2.take m).length=m:=by rw [List.length_take];have:=tm.le;omega
      have bq:∀ v ∈ (Qz.map (c * ·)).set t d,Int.natAbs v<2 ^ (W1+(kst+1)*(W2+1)):=λv hv=>by
        have e:W1+(kst+1)*(W2+1)=W1+kst*(W2+1)+(W2+1):=by rw [Nat.succ_mul];omega
        rcases List.mem_or_eq_of_mem_set hv with h | h
        · obtain ⟨u,hu,rfl⟩:=List.mem_map.mp h
          rw [Int.natAbs_mul,Nat.mul_comm,e,Nat.pow_add];exact Nat.mul_lt_mul'' (D.qb u hu) (O9 cb ⋯)
        · rw [h]
          exact Nat.lt_of_le_of_lt db (O9 yb ⋯)
      refine WhN.mk ⟨kst+1,lq1,r,many*c,_,R2.take m,_,_,_,_,_,rfl,⟨s6.trans Sr,fq1,s6.free hr',e8 eq6 hr',Sr _ _ eq6,c8,?_,?_,bq,λv hv=>bits v (List.mem_of_mem_take hv),⋯,.inr ⋯,λz=>absurd z ⋯,tm.self,by rw [List.length_set,List.length_map];exact D.ql,λi hi=>?_,λ_ v hv=>?_,?_,λhx=>?_⟩⟩ ?_
      · exact Int.le_trans (show (1:Int)<=1*1 by decide) (Int.mul_le_mul D.m1 c1 (by decide) (by have:=D.m1;omega))
      · rw [Int.natAbs_mul,show (kst+1)*W2+1=(kst*W2+1)+W2 by rw [Nat.succ_mul];omega,Nat.pow_add]
        exact Nat.mul_lt_mul'' D.mb cb
      · rw [tml] at hi
        unfold aZ;rw [List.getElem?_set,if_neg ⋯,List.getElem?_map];have:=D.qz i ⋯;unfold aZ at this
        cases g:Qz[i]? with
        | none=>rfl
        | some u =>
          rw [g] at this;simp only [Option.getD_some] at this
          simp [this]
      · rw [List.length_set,List.length_map,List.getElem?_set] at hv
        by_cases z:t=Qz.length-1
        · rw [if_pos z,if_pos (by rw [List.length_map];omega)] at hv
          cases hv;exact d0
        · rw [if_neg z,List.getElem?_map] at hv
          have hk0:kst ≠ 0:=λw=>by
            have:=D.k0 w;have:=D.ql;omega
          cases g:Qz[Qz.length-1]? with
          | none=>rw [g] at hv;cases hv
          | some u =>
            rw [g] at hv
            cases hv
            exact Int.mul_ne_zero ⋯ (D.qlast hk0 u g)
      · refine bd0 D.dv htq (D.qz t ⋯) λk=>?_
        rw [ae2 tm];exact hRk k
      · have mm:=D.ex hx
        have dv1:=D.dv;rw [mm] at dv1
        have ey:y=aZ Rz (t+n):=by
          unfold aZ;rw [show t+n=Rz.length-1 by omega,hy];rfl
        have cc:=cl1 (by rw [hlead,ey];exact aW0 hx dv1 hl2 h0 ht)
        rw [mm,cc];rfl
      · rw [aE5 (r:=r) rfl c8,aE5 (r:=lr) rfl D.er,List.length_map,List.length_map,tml]
        exact hmlt
    · have hlt' : Rz.length ≤ n := by
        have:¬ ((n+1:Nat):Int)<=(Rz.length:Int):=by simpa using hlt
        omega
      have hkS:kst<=S:=by rcases D.ks with z | z <;> omega
      refine hN _ _ ⟨lq,lr,many,Qz,Rz,o6,o7,o8,o9,o10,rfl,D.same,D.fq,D.fr,D.nqr,D.eq,D.er,D.m1,Nat.lt_of_lt_of_le D.mb (c5 (by have:=Nat.mul_le_mul_right W2 hkS;omega)),λv hv=>Nat.lt_of_lt_of_le (D.qb v hv) (c5 (by have:=Nat.mul_le_mul_right (W2+1) hkS;omega)),λv hv=>Nat.lt_of_lt_of_le (D.rb v hv) (c5 (by have:=Nat.mul_le_mul_right (W2+1) hkS;omega)),hlt',D.rt,D.ql,?_,D.dv,D.ex⟩
      refine ⟨Nat.le_refl _,(λi v hi h=>by rw [List.getElem?_eq_none hi] at h;cases h),λhq v hv=>?_⟩
      by_cases z:kst=0
      · have:=D.k0 z
        rw [D.ql] at hq;omega
      · exact D.qlast z v hv
  rintro σ H3 ⟨lq,lr,many,Qz,Rz,o6,o7,o8,o9,o10,rfl,s3,fq,fr,nqr,eq,er,m1,mb,qb,rb,rl,rt,ql,qt,dv,ex⟩
  subst_eqs
  refine ⟨ba4,λp hp=>?_⟩;have Sp:=d4.new hp (.tup [.int many,.ref lq,.ref lr]);exact k p lq lr many Qz Rz _ (s3.trans Sp) fq fr nqr c8 (Sp _ _ eq) (Sp _ _ er) m1 mb qb rb rl rt ql qt dv ex
def ae6 (K:q0a):Sp:=λvs H Q _ => ∃ (c:Int) (a:Addr) (ws:List Int) (m m2:Nat),vs=[.int c,.ref a]/\SqL K H a (ws.map V.int)/\ws.length<=40/\c.natAbs<2 ^ m2/\(∀ v ∈ ws,z0p v<2 ^ m)/\m+m2<=20000 /\
 ∀ r zs H',d4 H H'->H r=none->H' r=some (.lst (zs.map V.int))->k7 zs zs.length->zs.length<=ws.length->(∀ k,aZ zs k=c*aZ ws k)->Q (.ref r) H'
abbrev A9:Stmt:=top 20
theorem aj2:i8 ["factor","wholes"] ["factor","wholes"] (d6 A9):=by and_intros
theorem aj5 {f f1:Addr} (d:Df K mg "whole_scaled" A9 ["factor","wholes"] f) (G_trimmed:Def P w K mg base CX0 1 "trimmed" f1 ["wholes"] (ak6 K)):Def P w K mg base CX0 2 "whole_scaled" f ["factor","wholes"] (ae6 K):=by
 refine d.ok (N:=["factor","wholes"]) aj2 (by rintro vs H Q E ⟨_,_,_,_,_,h,_⟩;rw [h];rfl) (λcdv A outer s H vs Q E hr h=>?_)
 obtain ⟨c,a,ws,m,m2,rfl,hS,hl,hc,hw,hm,k⟩:=h;refine ⟨_,(c9 (i5 (d7 G_trimmed hr (b8 (D6 (Nc:=["factor","whole"]) (caps:=[some 0,none]) rfl (T9.of (osc:=d6 A9) (N:=["factor","wholes"]) (ks:=["factor"]) rfl rfl rfl rfl (A7 rfl A3) (by decide +kernel)) (v6 (pv 1)) (λC s₂ H₂ fp pins=>(i3 (i:=1) (show y0r (["factor","whole"]:List Str) by decide +kernel) rfl (z0r rfl) (v0q rfl))) (λC s₂ H₂ fp pins=>(f8 m8 (pv 0) (pv 1)))) b9) e9))),?_⟩
 rw [show start ["factor","wholes"] [.int c,.ref a]=[some (.int c),some (.ref a)] from rfl]
 subst_eqs
 refine ⟨⟨_,hS⟩,λD hD=>?_⟩;refine L9 (ws.map V.int) (λi σ H3 => ∃ o,σ=[some (.int c),o]/\d4 H H3/\H3 D=some (.lst (((ws.take i).map (c * ·)).map V.int))) ⟨_,rfl,d4.new hD _,c8⟩ (λi σ H3 _ ⟨_,_,s3,_⟩=>s3.seq hS) ?_ ?_
 ·rintro i y σ H3 hy ⟨o,rfl,s3,e3⟩
  have hi:=(q0s.mp hy).1;obtain ⟨v,hv,rfl⟩:=J3 hy
  subst_eqs
  refine ⟨C6 hc (hw v (z0c hv)) ⋯,D4.mk hi e3 ?_ ⟨_,rfl,s3.over hD _,?_⟩⟩
  ·simp only [q0m,j0b]
   exact q0e (show _<=100 by omega) (by decide)
  ·rw [c8,y0f,hv]
   simp
 ·rintro σ H3 ⟨o,rfl,s3,e3⟩
  rw [q0m,j0y] at e3;refine ⟨D,ws.map (c * ·),rfl,SqL.of e3,by rw [q0m];omega,λn r tn hr'=>?_⟩
  refine k r ((ws.map (c * ·)).take n) _ (s3.trans (d4.new hr' _)) (s3.free hr') c8 tn.self (by rw [j0b,q0m];omega) λk=>?_
  rw [ae2 tn];unfold aZ;rw [q0q]
  cases ws[k]? with
  | none=>simp
  | some v=>simp
def aS8 (K:q0a):Sp:=λvs H Q _ => ∃ (a b:Addr) (ps qs:List Int),vs=[.ref a,.ref b]/\SqL K H a (ps.map V.int)/\SqL K H b (qs.map V.int)/\ps.length<=40/\qs.length<=40 /\
 ∀ r zs H',d4 H H'->H r=none->H' r=some (.lst (zs.map V.int))->k7 zs zs.length->zs.length<=max ps.length qs.length->(∀ k,aZ zs k=aZ ps k+aZ qs k)->Q (.ref r) H'
def ak2 (f:List Int) (q:List Int):Nat->List Int
 | 0=>f
 | j+1=>E7 (ak2 f q j) j (aZ q j)
theorem V6 (f q:List Int):∀ j,(ak2 f q j).length=f.length
 | 0=>rfl
 | j+1=>by rw [ak2,ag6,V6 f q j]
theorem aG8 (f q:List Int) {k:Nat} (y:Int) (hy:f[k]? = some y):∀ j,(ak2 f q j)[k]? = some (y+if k<j then aZ q k else 0)
 | 0=>by rw [ak2,hy,if_neg ⋯];congr 1;omega
 | j+1=>by
  have ih:=aG8 f q y hy j;rw [ak2]
  by_cases e:k=j
  ·subst e
   rw [T2 _ _ _ _ ih,if_neg ⋯,if_pos ⋯]
   congr 1;omega
  ·rw [P4 _ _ _ _ e,ih]
   by_cases h:k<j
   ·rw [if_pos h,if_pos ⋯]
   ·rw [if_neg h,if_neg ⋯]
theorem be1 {f q:List Int} (h:q.length<=f.length) (k:Nat):aZ (ak2 f q q.length) k=aZ f k+aZ q k:=by
 by_cases hk:k<f.length
 ·have hg:=q0c hk
  have:=aG8 f q _ hg q.length;unfold aZ;rw [this,hg];simp only [Option.getD_some]
  by_cases h2:k<q.length
  ·rw [if_pos h2];rfl
  ·rw [if_neg h2,q0d ⋯];rfl
 ·unfold aZ
  rw [q0d (by rw [V6];omega),q0d ⋯,q0d ⋯];rfl
abbrev N9:Stmt:=top 19
theorem F0:i8 ["one","other","total","place","whole"] ["one","other"] (d6 N9):=by and_intros
theorem ax1 {f f1:Addr} (d:Df K mg "whole_sum" N9 ["one","other"] f) (G_trimmed:Def P w K mg base CX0 1 "trimmed" f1 ["wholes"] (ak6 K)) (n_len:mg "len" = none) (n_list:mg "list" = none) (n_enumerate:mg "enumerate" = none):Def P w K mg base CX0 2 "whole_sum" f ["one","other"] (aS8 K):=by
  refine d.ok (N:=["one","other","total","place","whole"]) F0 (by rintro vs H Q E ⟨_,_,_,_,h,_⟩;rw [h];rfl) (λcdv A outer s H vs Q E hr h=>?_)
  obtain ⟨a0,b0,ps0,qs0,rfl,hS0,hS0',hl0,hl0',k0⟩:=h
  refine ⟨_, (c7 (w8 (i9 am8 (f9 h9 rfl n_len (by decide +kernel) (b8 (pv 0) b9)) (f9 h9 rfl n_len (by decide +kernel) (b8 (pv 1) b9)) (k4 _)) (c9 (aa5 (i := 0) (j := 1) rfl F0.nd rfl rfl (by decide) rfl rfl (b8 (pv 1) (b8 (pv 0) b9)) rfl)) m6)
      (c7 (d9 (i:=2) F0.nd rfl (Or.inl rfl) (C1 x8 rfl n_list (by decide +kernel) (b8 (pv 0) b9)))
      (c7 (C2 PassesOwn.never rfl (X0 rfl n_enumerate (b8 (pv 1) b9)) (show PG _ _ (N3 K 2 (p9 (m9 3) (p9 (m9 4) N4))) from by (refine E2 (n:=2) ?_ ?_ ?_ ?_;rfl;(refine j9 ?_ ?_ ?_;(exact (i3 (i:=3) F0.nd rfl (Or.inl rfl)));(refine j9 ?_ ?_ ?_;(exact (i3 (i:=4) F0.nd rfl (Or.inl rfl)));(exact y6);rfl);rfl);rfl;rfl)) (c9 (aL5 (pv 2) (pv 3) aF2 (pv 4) aW5 P7)))
      (c9 (i5 (d7 G_trimmed hr (b8 (pv 2) b9) e9)))))),?_⟩
  rw [show start ["one","other","total","place","whole"] [.ref a0,.ref b0]=[some (.ref a0),some (.ref b0),none,none,none] from rfl]
  refine d8 (λσ H1 => ∃ a b ps qs,σ=[some (.ref a),some (.ref b),none,none,none]/\H=H1/\SqL K H a (ps.map V.int)/\SqL K H b (qs.map V.int)/\ps.length<=40/\qs.length<=ps.length/\ps.length<=max ps0.length qs0.length/\(∀ k,aZ ps k+aZ qs k=aZ ps0 k+aZ qs0 k)) (λN hN=>?_) ?_
  · subst_eqs
    refine ⟨_,.inl hS0,_,.inl hS0',t7 (λh=>?_) (λh=>?_)⟩
    · rw [List.length_map,List.length_map] at h
      exact hN _ _ ⟨b0,a0,qs0,ps0,rfl,rfl,hS0',hS0,hl0',⋯,⋯,λk=>Int.add_comm _ _⟩
    · rw [List.length_map,List.length_map] at h
      exact hN _ _ ⟨a0,b0,ps0,qs0,rfl,rfl,hS0,hS0',hl0,⋯,⋯,λk=>rfl⟩
  rintro σ H1 ⟨a,b,ps,qs,rfl,rfl,hS,hS',hl,hle,hmx,hsum⟩;refine d8 (λσ H1 => ∃ l,σ=[some (.ref a),some (.ref b),some (.ref l),none,none]/\d4 H H1/\H l=none/\H1 l=some (.lst (ps.map V.int))) (λN hN=>?_) ?_
  · subst_eqs
    exact ⟨_,.inl hS,λl hl=>hN _ _ ⟨l,rfl,d4.new hl _,hl,c8⟩⟩
  rintro σ H1 ⟨l,rfl,s1,fl,el⟩;refine d8 (λσ H2 => ∃ o3 o4,σ=[some (.ref a),some (.ref b),some (.ref l),o3,o4]/\d4 H H2/\H2 l=some (.lst ((ak2 ps qs qs.length).map V.int))) (λN hN=>?_) ?_
  · refine ⟨_,rfl,b,rfl,⟨_,s1.seq hS'⟩,V2 (qs.map V.int) (λj σ H2 => ∃ o3 o4,σ=[some (.ref a),some (.ref b),some (.ref l),o3,o4]/\d4 H H2/\H2 l=some (.lst ((ak2 ps qs j).map V.int))) ⟨_,_,rfl,s1,el⟩ (by rintro j σ H2 ⟨_,_,_,s2,_⟩;exact s2.seq hS') ?_ (by rintro σ H2 ⟨o3,o4,rfl,s2,e2⟩;rw [List.length_map] at e2;exact hN _ _ ⟨o3,o4,rfl,s2,e2⟩)⟩
    rintro j x σ H2 p hx ⟨o3,o4,rfl,s2,e2⟩ hp;obtain ⟨v,hv,rfl⟩:=J3 hx;have hj:=(List.getElem?_eq_some_iff.mp hv).1;have Sp:=d4.new hp (.tup [.int j,.int v]);have e3:=Sp _ _ e2;have hk:j<(ak2 ps qs j).length:=by rw [V6];omega
    have hg:=List.getElem?_eq_getElem hk;generalize (ak2 ps qs j)[j]=z at hg
    subst_eqs
    refine ⟨_,SqT.of c8,rfl,_,_,rfl,_,_,rfl,rfl,_,_,rfl,SqL.of e3,.int z,X8 (by rw [List.getElem?_map,hg];rfl),z,rfl,v,rfl,_,_,rfl,e3,j,ay6 (by rw [List.length_map];exact hk),(s2.trans Sp).over fl _,?_⟩
    have hv':aZ qs j=v:=by unfold aZ;rw [hv];rfl
    rw [c8,ak2,hv',<- Y4 _ _ _ _ hg,List.map_set]
  rintro σ H2 ⟨o3,o4,rfl,s2,e2⟩
  subst_eqs
  refine ⟨l,_,rfl,SqL.of e2,by rw [V6];omega,λm r tm hr'=>?_⟩
  refine k0 r _ _ (s2.trans (d4.new hr' _)) (s2.free hr') c8 tm.self (by rw [List.length_take,V6];omega) λk=>?_
  rw [ae2 tm,be1 hle,hsum]
theorem aR5 (a b:List Int):zp (aE0 a b)=zp a*zp b:=Pf.ext λk=>by
 show zc (aE0 a b) k=cv (zc a) (zc b) k;rw [aR6 (aE0 a b),aR6 a,aR6 b,<- aN5,<- ba7];have:(1:Rat)*1=1:=by decide +kernel
 rw [this]
theorem aL2 {f:Nat->Int} {n C:Nat} (h:∀ i,n<=i->f i=0) (hc:∀ i,(f i).natAbs<=C):∀ m,(sZ f m).natAbs<=n*C
 | 0=>by simp [sZ]
 | m+1=>by
  by_cases z:m+1<=n
  ·exact z0f (am1 (n:=m+1) λi _=>hc i) (z0b _ z)
  ·rw [sZ,h m ⋯,Int.add_zero]
   exact aL2 h hc m
theorem ae0 (f g:Nat->Int) (k:Nat):cv (λi=>(f i:Rat)) (λi=>(g i:Rat)) k=((sZ (λi=>f i*g (k-i)) (k+1):Int):Rat):=by
 unfold cv;rw [ad9];exact j6 λi _=>by rw [q0n]
theorem aY6 {f g:Nat->Int} {n a b:Nat} (hn:n<=32) (hf:∀ i,n<=i->f i=0) (ha:∀ i,(f i).natAbs<2 ^ a) (hb:∀ i,(g i).natAbs<2 ^ b) (k m:Nat):(sZ (λi=>f i*g (k-i)) m).natAbs<2 ^ (a+b+5):=by
 have h1:=aL2 (f:=λi=>f i*g (k-i)) (n:=n) (C:=2 ^ a*2 ^ b-1) (λi hi=>by
  show f i*g (k-i)=0
  rw [hf i hi,g0v]) (λi=>by
   show (f i*g (k-i)).natAbs<=_;rw [q0x];have:=j0g (ha i) (hb (k-i));omega) m
 have p:0<2 ^ a*2 ^ b:=j0q (y0k _) (y0k _);have h2:n*(2 ^ a*2 ^ b-1)<=32*(2 ^ a*2 ^ b-1):=z0b _ hn;rw [j0v,j0v];have e:(2:Nat) ^ 5=32:=by decide
 rw [e];omega
theorem bb6 {p q:List Int} {a b:Nat} (hl:p.length<=32) (hp:∀ k,(aZ p k).natAbs<2 ^ a) (hq:∀ k,(aZ q k).natAbs<2 ^ b) (k:Nat):(aZ (aE0 p q) k).natAbs<2 ^ (a+b+5):=by
 have h:aZ (aE0 p q) k=sZ (λi=>aZ p i*aZ q (k-i)) (k+1):=q0y.mp (by
  rw [<- ae0];exact congrArg (λz=>Pf.f z k) (aR5 p q))
 rw [h];exact aY6 hl (λi hi=>by unfold aZ;rw [q0d hi];rfl) hp hq k _
theorem aS3 {a b:List Int} (ta:k7 a a.length) (tb:k7 b b.length) (h:∀ k,aZ a k=aZ b k):a=b:=by
 have le:∀ {a b:List Int},k7 b b.length->(∀ k,aZ a k=aZ b k)->b.length<=a.length:=fun {a b} tb h=>by
  rcases z0z a.length b.length with z | z
  ·have h1:=v5 tb ⋯
   rw [<- h] at h1;exact absurd (by unfold aZ;rw [q0d ⋯];rfl) h1
  ·exact z
 have l1:=le tb h;have l2:=le ta λk=>(h k).symm;refine List.ext_getElem ⋯ λk h1 h2=>?_;have:=h k;unfold aZ at this;rw [q0c h1,q0c h2] at this;exact this
theorem aH0 {a b:List Int} (h:zp a=zp b) (k:Nat):aZ a k=aZ b k:=q0y.mp (congrArg (λz=>Pf.f z k) h)
def fz (v:Nat->Int):Pf:=⟨λk=>(v k:Rat)⟩
theorem n9 {z:Int} (h:z ≠ 0):(z:Rat) ≠ 0:=λw=>h (q0y.mp (by rw [w,q0k]))
def wL (c L la:Nat):Nat:=c*(2*(L+1-la))
theorem bm5 {c L la:Nat} (h:la<=L):2*c<=wL c L la:=by
 unfold wL;have:c*2<=c*(2*(L+1-la)):=z0j _ ⋯;omega
theorem ba1 {c L la lb:Nat} (h:lb<=la):wL c L la<=wL c L lb:=z0j _ ⋯
structure LC (P0 Q0:List Int) (K c L:Nat):Prop where
 tP:k7 P0 P0.length
 tQ:k7 Q0 Q0.length
 lp:P0.length<=L
 lq:Q0.length<=L
 kP:∀ k,(aZ P0 k).natAbs<=K
 kQ:∀ k,(aZ Q0 k).natAbs<=K
 k1:1<=K
 l1:1<=L
 hc:4*L*K<=2 ^ c
structure LS (P0 Q0:List Int) (c L w:Nat) (A Fa B Fb:List Int) (ha hb:Pf):Prop where
 ev:Ev (zp P0) (zp Q0) (zp A) (zp B) (zp Fa) ha (zp Fb) hb P0.length Q0.length A.length B.length
 tA:k7 A A.length
 tB:k7 B B.length
 lA:A.length<=L
 lB:B.length<=L
 st:(A=P0/\B=Q0/\Fa=[1]/\Fb=[]/\ha=0/\hb=1/\w=c) \/ (B.length<A.length/\A.length<=Q0.length/\w=wL c L A.length)
 bA:∀ k,(aZ A k).natAbs<2 ^ w
 bFa:∀ k,(aZ Fa k).natAbs<2 ^ w
 bB:B ≠ []->∀ k,(aZ B k).natAbs<2 ^ w
 bFb:B ≠ []->∀ k,(aZ Fb k).natAbs<2 ^ w
 hA:∀ k (z:Int),ha.f k=(z:Rat)->z.natAbs<2 ^ w
 hB:B ≠ []->∀ k (z:Int),hb.f k=(z:Rat)->z.natAbs<2 ^ w
 dA:∃ n,Dg ha.f n
 dB:∃ n,Dg hb.f n
 lFa:Fa.length<=max 1 (Q0.length+1-A.length)
 lFb:Fb.length<=Q0.length+1-A.length
 tFa:k7 Fa Fa.length
 tFb:k7 Fb Fb.length
theorem aS2:k7 [] ([]:List Int).length:=⟨q0t _,(λi v hi e=>by cases e),λh=>absurd rfl h⟩
theorem ao3 {ws:List Int} {g:Nat} (hg:g ≠ 0) (h:∀ v ∈ ws,(g:Int) ∣ v) (k:Nat):aZ ws k=(g:Int)*aZ (ws.map λv=>v.fdiv (g:Int)) k:=by
 have gi:(g:Int) ≠ 0:=⋯;unfold aZ;rw [q0q]
 cases hk:ws[k]? with
 | none=>simp
 | some v =>
  obtain ⟨y,hy⟩:=h v (z0c hk)
  have h1:v.fdiv (g:Int)=y:=by
   conv=>lhs;arg 1;rw [hy]
   exact j8 gi
  show v=(g:Int)*v.fdiv (g:Int);rw [h1];exact hy
theorem ak4 {ws vs:List Int} {g:Int} (t:k7 ws ws.length) (hl:vs.length=ws.length) (h:∀ k,aZ ws k=g*aZ vs k):k7 vs vs.length:=by
 refine ⟨q0t _,(λi v hi e=>by rw [q0d hi] at e;cases e),λh0 v hv z=>?_⟩
 have h1:=v5 t ⋯;rw [h,<- hl] at h1;have:aZ vs (vs.length-1)=v:=by unfold aZ;rw [hv];rfl
 rw [this,z,g0a] at h1;exact h1 rfl
structure LRes (P0 Q0 A F:List Int) (w L c:Nat):Prop where
 tA:k7 A A.length
 nA:A ≠ []
 lA:A.length<=L
 lF:F.length<=L
 lF2:F.length<=max 1 (Q0.length+1-A.length)
 tF:k7 F F.length
 bA:∀ k,(aZ A k).natAbs<2 ^ w
 bF:∀ k,(aZ F k).natAbs<2 ^ w
 bA2:∀ k,(aZ A k).natAbs<2 ^ wL c L A.length
 idA:∃ h:Pf,(∃ n,Dg h.f n)/\zp A=zp F*zp P0+h*zp Q0/\∀ k (z:Int),h.f k=(z:Rat)->z.natAbs<2 ^ w
 p1:∃ (κ:Rat) (v:Nat->Int),(∃ n,∀ k,n<=k->v k=0)/\zp P0=d5 κ*(fz v*zp A)/\(∀ k,(v k).natAbs<2 ^ wL c L A.length)/\κ.num.natAbs<2 ^ c/\κ.den<2 ^ (wL c L A.length+wL c L A.length)
 q1:∃ (κ:Rat) (v:Nat->Int),(∃ n,∀ k,n<=k->v k=0)/\zp Q0=d5 κ*(fz v*zp A)/\(∀ k,(v k).natAbs<2 ^ wL c L A.length)/\κ.num.natAbs<2 ^ c/\κ.den<2 ^ (wL c L A.length+wL c L A.length)
 q0:Q0=[]->A=P0/\F=[1]
def aK7 (K:q0a):Sp:=λvs H Q _ => ∃ (a b:Addr) (ps qs:List Int) (W:Nat),vs=[.ref a,.ref b]/\SqL K H a (ps.map V.int)/\SqL K H b (qs.map V.int)/\ps.length<=40/\qs.length<=40/\(∀ v ∈ qs,z0p v<2 ^ W)/\W<=19000 /\
 ∀ r zs H',d4 H H'->H r=none->H' r=some (.lst (zs.map V.int))->k7 zs zs.length->zs.length<=max ps.length qs.length->(∀ k,aZ zs k=aZ ps k-aZ qs k)->Q (.ref r) H'
abbrev K4:Stmt:=top 21
theorem ap9:i8 ["one","other"] ["one","other"] (d6 K4):=by and_intros
theorem aq4 {f f1 f2:Addr} (d:Df K mg "whole_less" K4 ["one","other"] f) (G_whole_sum:Def P w K mg base CX0 2 "whole_sum" f1 ["one","other"] (aS8 K)) (G_whole_scaled:Def P w K mg base CX0 2 "whole_scaled" f2 ["factor","wholes"] (ae6 K)):Def P w K mg base CX0 3 "whole_less" f ["one","other"] (aK7 K):=by
 refine d.ok (N:=["one","other"]) ap9 (by rintro vs H Q E ⟨_,_,_,_,_,h,_⟩;rw [h];rfl) (λcdv A outer s H vs Q E hr h=>?_)
 obtain ⟨a,b,ps,qs,W,rfl,hS,hS',hl,hl',hq,hW,k⟩:=h;refine ⟨_,(c9 (i5 (d7 G_whole_sum hr (b8 (pv 0) (b8 (d7 G_whole_scaled hr (b8 (O8 E9 c6) (b8 (pv 1) b9)) e9) b9)) e9))),?_⟩;rw [show start ["one","other"] [.ref a,.ref b]=[some (.ref a),some (.ref b)] from rfl]
 subst_eqs
 refine ⟨-1,b,qs,W,1,rfl,hS',hl',by decide,hq,⋯,λr1 z1 H1 s1 f1 e1 t1 l1 h1=>?_⟩
 refine ⟨a,r1,ps,z1,rfl,s1.seq hS,SqL.of e1,hl,⋯,λr2 z2 H2 s2 f2 e2 t2 l2 h2=>?_⟩;exact k r2 z2 H2 (s1.trans s2) (s1.free f2) e2 t2 ⋯ λk=>by rw [h2,h1];omega
theorem bq0 {K:q0a} {l D:Addr} {ws:List Int} {g:Int} {H1:Hp} {Q:VK} (e:H1 l=some (.lst (ws.map V.int))) (hD:H1 D=none) (hl:ws.length<=100) (hg:g ≠ 0) (hb:g.natAbs<2 ^ 6000)
  (k:∀ H2,d4 H1 H2->H2 D=some (.lst ((ws.map λv=>v.fdiv g).map V.int))->Q (.ref D) H2):ae3 (Itl K l) D [some (.int g),none] (upd H1 D (.lst [])) (m9 1) (tOp (rI au2 λi j=>V.int (i.fdiv j)) (K1 1) (K1 0)) Q:=by
 refine L9 (ws.map V.int) (λi σ H3 => ∃ o,σ=[some (.int g),o]/\d4 H1 H3/\H3 D=some (.lst (((ws.take i).map λv=>v.fdiv g).map V.int))) ⟨_,rfl,d4.new hD _,c8⟩ (λi σ H3 _ ⟨_,_,s3,_⟩=>SqL.of (s3 _ _ e)) ?_ ?_
 ·rintro i y σ H3 hy ⟨o,rfl,s3,e3⟩
  have hi:=(q0s.mp hy).1;obtain ⟨v,hv,rfl⟩:=J3 hy
  subst_eqs
  refine ⟨P3 hg (O9 hb (by decide)),D4.mk hi e3 ?_ ⟨_,rfl,s3.over hD _,?_⟩⟩
  ·simp only [q0m,j0b]
   exact q0e (show _<=100 by omega) (by decide)
  ·rw [c8,y0f,hv]
   simp
 ·rintro σ H3 ⟨o,rfl,s3,e3⟩
  rw [q0m,j0y] at e3;exact k H3 s3 e3
theorem aZ2 {f g B:Pf} {n m:Nat} (hf:Dg f.f m) (hg:Dg g.f m) (hB:Dg B.f (n+1)) (hn:B.f n ≠ 0) (h:f*B=g*B):f=g:=by
 have e:(f-g)*B=0:=by grind
 have d:Dg (f-g).f m:=λk hk=>by rw [af4,hf k hk,hg k hk];grind
 have back:=T1 (N:=0) d hB hn (λk _=>by
  show ((f-g)*B).f k=0;rw [e,y2])
 refine Pf.ext λk=>?_;have:=back k ⋯;rw [af4] at this
 grind
def aK6 (K:q0a):Sp:=λvs H Q _ => ∃ (a b:Addr) (one other:List Int) (n S W1 W2:Nat),vs=[.ref a,.ref b]/\SqL K H a (one.map V.int)/\SqL K H b (other.map V.int)/\one.length<=30/\other.length=n+1/\n<=30/\aZ other n ≠ 0/\k7 one one.length/\one.length<=n+S/\(∀ v ∈ one,z0p v<2 ^ W1)/\(∀ v ∈ other,z0p v<2 ^ W2)/\W1+S*(W2+1)<=5000/\W2<=5000/\ExZ one other /\
 ∀ lq Qz H',d4 H H'->H lq=none->H' lq=some (.lst (Qz.map V.int))->Qz.length=one.length-n->k7 Qz Qz.length->zp one=zp Qz*zp other->Q (.ref lq) H'
abbrev K3:Stmt:=top 24
theorem ap8:i8 ["one","other"] ["one","other"] (d6 K3):=by and_intros
theorem aq3 {f f1:Addr} (d:Df K mg "whole_over" K3 ["one","other"] f) (GD_whole_divided:Def P w K mg base CX0 2 "whole_divided" f1 ["one","other"] (aS9 K)):Def P w K mg base CX0 3 "whole_over" f ["one","other"] (aK6 K):=by
 have G_whole_divided:=GD_whole_divided;refine d.ok (N:=["one","other"]) ap8 (by rintro vs H Q E ⟨_,_,_,_,_,_,_,_,h,_⟩;rw [h];rfl) (λcdv A outer s H vs Q E hr h=>?_)
 obtain ⟨a,b,one,other,n,S,W1,W2,rfl,hS,hS',hl1,hl2,hn,h0,ht1,hS1,hw1,hw2,hT,hT2,hx,k⟩:=h;refine ⟨_,(c9 (i5 (k3 k9 (d7 G_whole_divided hr (b8 (pv 0) (b8 (pv 1) b9)) e9) c6 (λ_ _=>rfl)))),?_⟩;rw [show start ["one","other"] [.ref a,.ref b]=[some (.ref a),some (.ref b)] from rfl]
 subst_eqs
 refine ⟨a,b,one,other,n,S,W1,W2,rfl,hS,hS',hl1,hl2,hn,h0,ht1,hS1,hw1,hw2,hT,hT2,λr lq lr many Qz Rz H1 s1 fq fr nqr er eq eR m1 mb qb rb rl rt ql qt dv ex=>?_⟩;refine ⟨r,rfl,_,SqT.of er,_,rfl,k lq Qz H1 s1 fq eq ql qt ?_⟩;have m1:=ex hx;subst m1;obtain ⟨V,nv,hV,e⟩:=hx;have e1:zp one=fz V*zp other:=Pf.ext e
 have e2:zp one=zp Qz*zp other+zp Rz:=Pf.ext λk=>by
  have:=dv k;rw [show ((1:Int):Rat)=1 from rfl] at this
  show zc one k=cv (zc Qz) (zc other) k+zc Rz k;rw [<- this];grind
 have oD:Dg (zc other) (n+1):=by rw [<- hl2];exact A6 other
 have eD:(fz V-zp Qz)*zp other=zp Rz:=by grind
 have dD:Dg (fz V-zp Qz).f (max nv Qz.length):=λk hk=>by
  rw [af4]
  show (V k:Rat)-zc Qz k=0;rw [hV k ⋯,A6 Qz k ⋯,q0k];grind
 have back:=T1 (f:=(fz V-zp Qz).f) (B:=zc other) (N:=n) dD oD (T5 h0) (λk hk=>by
  show ((fz V-zp Qz)*zp other).f k=0;rw [eD];exact A6 Rz k ⋯)
 have z:fz V-zp Qz=0:=Pf.ext λk=>by rw [y2];exact back k ⋯
 rw [e1]
 grind
end
def OvP (B W:Nat) (p:Pf):Prop:=∀ k,OvB B W (p.f k)
def qp (l:List Rat):Pf:=⟨aQ l⟩
theorem bh4 (s:Rat) (ws:List Int):qp (scl s ws)=d5 s*zp ws:=Pf.ext λk=>by
 rw [u8]
 show aQ (scl s ws) k=s*zc ws k;rw [aZ5];rfl
theorem aU2 (p q:List Rat):qp (J8 p q)=qp p*qp q:=Pf.ext λk=>aN5 p q k
theorem ah7 (l:List Rat):Dg (qp l).f l.length:=λk hk=>by
 show aQ l k=0;unfold aQ;rw [q0d hk];rfl
theorem bh5 {B W:Nat} {l:List Rat} (h:∀ x ∈ l,OvB B W x):OvP B W (qp l):=λk=>by
 show OvB B W (aQ l k);unfold aQ
 cases hk:l[k]? with
 | none=>exact OvB.zero _ _
 | some x=>exact h x (z0c hk)
theorem aH8 {B W:Nat} {l:List Rat} (h:OvP B W (qp l)):∀ x ∈ l,OvB B W x:=λx hx=>by
 obtain ⟨k,hk,e⟩:=j0r hx;have:=h k
 have e2:(qp l).f k=x:=by
  show aQ l k=x;unfold aQ;rw [q0c hk,e];rfl
 rw [e2] at this;exact this
def fld (M:List (List Rat)) (last:List Rat):Nat->Pf × Pf
 | 0=>(qp last,0)
 | n+1=>(qp ((M[M.length-1-n]?).getD [])*(fld M last n).1+(fld M last n).2,(fld M last n).1)
def dP (p:Pf):Pf:=⟨λk=>((k+1:Nat):Rat)*p.f (k+1)⟩
theorem ab4 (p q:Pf):dP (p*q)=dP p*q+p*dP q:=Pf.ext λk=>by
 show ((k+1:Nat):Rat)*cv p.f q.f (k+1)=cv (λi=>((i+1:Nat):Rat)*p.f (i+1)) q.f k+cv p.f (λi=>((i+1:Nat):Rat)*q.f (i+1)) k;unfold cv;rw [W3,j6 (g:=λi=>((i:Nat):Rat)*(p.f i*q.f (k+1-i))+((k+1-i:Nat):Rat)*(p.f i*q.f (k+1-i))) λi hi=>?_,<- ae5]
 ·congr 1
  ·rw [N7]
   have h0:(((0:Nat)):Rat)=0:=rfl;simp only [h0];rw [j6 (g:=λi=>((i+1:Nat):Rat)*p.f (i+1)*q.f (k-i)) λi hi=>?_]
   ·grind
   ·show ((i+1:Nat):Rat)*(p.f (i+1)*q.f (k+1-(i+1)))=_
    rw [show k+1-(i+1)=k-i by omega];grind
  ·rw [show k+1+1=(k+1)+1 from rfl]
   show j7 _ (k+1)+((k+1-(k+1):Nat):Rat)*(p.f (k+1)*q.f (k+1-(k+1)))=_;have h0:(((k+1-(k+1):Nat)):Rat)=0:=by rw [q1a];rfl
   rw [h0,j6 (g:=λi=>p.f i*(((k-i+1:Nat):Rat)*q.f (k-i+1))) λi hi=>?_]
   ·grind
   ·show ((k+1-i:Nat):Rat)*(p.f i*q.f (k+1-i))=_
    rw [show k+1-i=k-i+1 by omega];grind
 ·have:((k+1:Nat):Rat)=((i:Nat):Rat)+((k+1-i:Nat):Rat):=by
   rw [<- u0z];congr 1;omega
  rw [this];grind
theorem aY5 (c:Rat):dP (d5 c)=0:=Pf.ext λk=>by
 show _*(if k+1=0 then c else 0)=(0:Pf).f k;rw [if_neg ⋯,y2];grind
theorem aK0:dP 1=0:=by rw [<- B5];exact aY5 1
theorem bd3 (c:Rat) (p:Pf):dP (d5 c*p)=d5 c*dP p:=by
 have h:=aY5 c;rw [ab4];grind
def Fn (p:Pf):Prop:=∃ n,Dg p.f n
theorem Fn.mul {p q:Pf} (h:Fn p) (k:Fn q):Fn (p*q):=by
 obtain ⟨m,hm⟩:=h;obtain ⟨n,hn⟩:=k;exact ⟨_,hm.cv hn⟩
theorem Fn.add {p q:Pf} (h:Fn p) (k:Fn q):Fn (p+q):=by
 obtain ⟨m,hm⟩:=h;obtain ⟨n,hn⟩:=k;exact ⟨max m n,λi hi=>by show p.f i+q.f i=0;rw [hm i ⋯,hn i ⋯];grind⟩
theorem Fn.sub {p q:Pf} (h:Fn p) (k:Fn q):Fn (p-q):=by
 obtain ⟨m,hm⟩:=h;obtain ⟨n,hn⟩:=k;exact ⟨max m n,λi hi=>by show p.f i-q.f i=0;rw [hm i ⋯,hn i ⋯];grind⟩
theorem t9 (c:Rat):Fn (d5 c):=⟨1,λi hi=>by show (if i=0 then c else 0)=0;rw [if_neg ⋯]⟩
theorem E3:Fn 1:=by rw [<- B5];exact t9 1
theorem L6:Fn 0:=⟨0,λi _=>y2 i⟩
theorem Fn.d {p:Pf} (h:Fn p):Fn (dP p):=by
 obtain ⟨m,hm⟩:=h;exact ⟨m,λi hi=>by show _*p.f (i+1)=0;rw [hm (i+1) ⋯];grind⟩
theorem Z8 (ws:List Int):Fn (zp ws):=⟨_,A6 ws⟩
theorem as6 (l:List Rat):Fn (qp l):=⟨_,ah7 l⟩
def Cop (p q:Pf):Prop:=∃ u v,Fn u/\Fn v/\u*p+v*q=1
theorem Cop.symm {p q:Pf} (h:Cop p q):Cop q p:=by
 obtain ⟨u,v,hu,hv,e⟩:=h;exact ⟨v,u,hv,hu,by grind⟩
theorem ad8 (p:Pf):Cop p 1:=⟨0,1,L6,E3,by grind⟩
theorem Cop.mul {a b c:Pf} (fa:Fn a) (fb:Fn b) (fc:Fn c) (h:Cop a b) (k:Cop a c):Cop a (b*c):=by
 obtain ⟨u,v,hu,hv,e⟩:=h;obtain ⟨u',v',hu',hv',e'⟩:=k;refine ⟨u*u'*a+u*v'*c+v*b*u',v*v',(((hu.mul hu').mul fa).add ((hu.mul hv').mul fc)).add ((hv.mul fb).mul hu'),hv.mul hv',?_⟩;have:(u*a+v*b)*(u'*a+v'*c)=1:=by rw [e,e'];grind
 grind
theorem Cop.addl {a b c:Pf} (fc:Fn c) (h:Cop a b):Cop a (b+a*c):=by
 obtain ⟨u,v,hu,hv,e⟩:=h;exact ⟨u-v*c,v,hu.sub (hv.mul fc),hv,by grind⟩
theorem Cop.scale {a b:Pf} {c:Rat} (hc:c ≠ 0) (h:Cop a b):Cop a (d5 c*b):=by
 obtain ⟨u,v,hu,hv,e⟩:=h;have ec:=u9 hc;exact ⟨u,v*d5 c⁻¹,hu,hv.mul (t9 _),by grind⟩
theorem Cop.both {a b:Pf} {c d:Rat} (hc:c ≠ 0) (hd:d ≠ 0) (h:Cop a b):Cop (d5 c*a) (d5 d*b):=((h.scale hd).symm.scale hc).symm
def TF:List (Pf × Nat)->Prop
 | []=>True
 | x :: r=>Fn x.1/\Cop x.1 (dP x.1)/\(∀ y ∈ r,Cop x.1 y.1)/\TF r
def aP:List (Pf × Nat)->Nat->Pf
 | [],_=>1
 | x :: r,j=>if j<=x.2 then x.1*aP r j else aP r j
def sP:List (Pf × Nat)->Nat->Pf
 | [],_=>0
 | x :: r,j=>if j<=x.2 then d5 ((x.2+1-j:Nat):Rat)*(dP x.1*aP r j)+x.1*sP r j else sP r j
def eP:List (Pf × Nat)->Nat->Pf
 | [],_=>1
 | x :: r,j=>if x.2=j then x.1*eP r j else eP r j
def wP (q:Pf):Nat->Pf
 | 0=>1
 | n+1=>q*wP q n
def fP:List (Pf × Nat)->Pf
 | []=>1
 | x :: r=>wP x.1 x.2*fP r
def gP1:List (Pf × Nat)->Pf
 | []=>1
 | x :: r=>wP x.1 (x.2-1)*gP1 r
theorem aM8:∀ {fs:List (Pf × Nat)},(∀ x ∈ fs,Fn x.1)->∀ j,Fn (aP fs j)
 | [],_,_=>E3
 | x :: r,h,j=>by
  unfold aP;have hr:=aM8 (fs:=r) (λy hy=>h y (q0f _ hy)) j
  split
  ·exact (h x q0h).mul hr
  ·exact hr
theorem aX3:∀ {fs:List (Pf × Nat)},(∀ x ∈ fs,Fn x.1)->∀ j,Fn (sP fs j)
 | [],_,_=>L6
 | x :: r,h,j=>by
  unfold sP;have hx:=h x q0h;have hr:=aX3 (fs:=r) (λy hy=>h y (q0f _ hy)) j;have ha:=aM8 (fs:=r) (λy hy=>h y (q0f _ hy)) j
  split
  ·exact ((t9 _).mul (hx.d.mul ha)).add (hx.mul hr)
  ·exact hr
theorem TF.fn:∀ {fs:List (Pf × Nat)},TF fs->∀ x ∈ fs,Fn x.1
 | [],_,x,hx=>by simp at hx
 | y :: r,h,x,hx=>by
  rcases z0t.mp hx with z | z
  ·rw [z];exact h.1
  ·exact TF.fn h.2.2.2 x z
theorem ap0 {q:Pf} (fq:Fn q):∀ {fs:List (Pf × Nat)},(∀ x ∈ fs,Fn x.1)->(∀ x ∈ fs,Cop q x.1)->∀ j,Cop q (aP fs j)
 | [],_,_,_=>ad8 q
 | x :: r,h,k,j=>by
  unfold aP;have fr:=aM8 (fs:=r) (λy hy=>h y (q0f _ hy)) j;have hr:=ap0 fq (fs:=r) (λy hy=>h y (q0f _ hy)) (λy hy=>k y (q0f _ hy)) j
  split
  ·exact Cop.mul fq (h x q0h) fr (k x q0h) hr
  ·exact hr
theorem aA2:∀ {fs:List (Pf × Nat)},TF fs->∀ j,Cop (aP fs j) (sP fs j)
 | [],_,_=>(ad8 _).symm
 | x :: r,h,j=>by
  obtain ⟨fx,cx,ca,hr⟩:=h;have ih:=aA2 hr j;have fr:=hr.fn;unfold aP sP
  split
  ·rename_i hj
   have wz:((x.2+1-j:Nat):Rat) ≠ 0:=λz=>by
    have z':((x.2+1-j:Nat):Rat)=((0:Nat):Rat):=z;have:=v0y.mp z';omega
   have FA:=aM8 fr j;have FS:=aX3 fr j;have cR:=ap0 fx fr ca j;have k1:Cop x.1 (d5 ((x.2+1-j:Nat):Rat)*(dP x.1*aP r j)+x.1*sP r j):=Cop.addl FS ((Cop.mul fx fx.d FA cx cR).scale wz);have k2:Cop (aP r j) (x.1*sP r j+aP r j*(d5 ((x.2+1-j:Nat):Rat)*dP x.1)):=Cop.addl ((t9 _).mul fx.d) (Cop.mul FA fx FS cR.symm ih);have e:x.1*sP r j+aP r j*(d5 ((x.2+1-j:Nat):Rat)*dP x.1)=d5 ((x.2+1-j:Nat):Rat)*(dP x.1*aP r j)+x.1*sP r j:=by grind
   rw [e] at k2;have FT:Fn (d5 ((x.2+1-j:Nat):Rat)*(dP x.1*aP r j)+x.1*sP r j):=((t9 _).mul (fx.d.mul FA)).add (fx.mul FS);exact (Cop.mul FT fx FA k1.symm k2.symm).symm
  ·exact ih
theorem at9:∀ (fs:List (Pf × Nat)) (j:Nat),aP fs j=eP fs j*aP fs (j+1)
 | [],_=>by show (1:Pf)=1*1;grind
 | x :: r,j=>by
  have ih:=at9 r j;unfold aP eP
  by_cases h1:x.2=j
  ·rw [if_pos h1,if_pos ⋯,if_neg ⋯,ih];grind
  ·rw [if_neg h1]
   by_cases h2:j<=x.2
   ·rw [if_pos h2,if_pos ⋯,ih];grind
   ·rw [if_neg h2,if_neg ⋯,ih]
theorem aT3:∀ (fs:List (Pf × Nat)) (j:Nat),sP fs j-dP (aP fs j)=eP fs j*sP fs (j+1)
 | [],_=>by
  show (0:Pf)-dP 1=1*0;rw [aK0];grind
 | x :: r,j=>by
  have ih:=aT3 r j;have ia:=at9 r j;unfold aP eP sP
  by_cases h1:x.2=j
  ·rw [if_pos h1,if_pos ⋯,if_pos ⋯,if_neg ⋯,ab4,show x.2+1-j=1 by omega,show ((1:Nat):Rat)=1 from rfl,B5]
   grind
  ·rw [if_neg h1]
   by_cases h2:j<=x.2
   ·simp only [if_pos h2,if_pos (show j+1<=x.2 by omega)]
    rw [ab4,show x.2+1-j=(x.2+1-(j+1))+1 by omega,u0z]
    have e:d5 (((x.2+1-(j+1):Nat):Rat)+((1:Nat):Rat))=d5 ((x.2+1-(j+1):Nat):Rat)+1:=by
     rw [<- B5];refine Pf.ext λk=>?_
     show (if k=0 then _ else 0)=(if k=0 then _ else 0)+(if k=0 then (1:Rat) else 0)
     split
     ·rfl
     ·grind
    rw [e];generalize d5 ((x.2+1-(j+1):Nat):Rat)=w
    grind
   ·simp only [if_neg h2,if_neg (show ¬ j+1<=x.2 by omega)]
    exact ih
theorem dwP (q:Pf):∀ n,dP (wP q (n+1))=d5 ((n+1:Nat):Rat)*(wP q n*dP q)
 | 0=>by
  show dP (q*1)=d5 ((1:Nat):Rat)*(1*dP q);rw [ab4,aK0,show ((1:Nat):Rat)=1 from rfl,B5];grind
 | n+1=>by
  have ih:=dwP q n
  show dP (q*wP q (n+1))=d5 ((n+1+1:Nat):Rat)*(wP q (n+1)*dP q);rw [ab4,ih,u0z (n+1) 1]
  have e:d5 (((n+1:Nat):Rat)+((1:Nat):Rat))=d5 ((n+1:Nat):Rat)+1:=by
   rw [<- B5];refine Pf.ext λk=>?_
   show (if k=0 then _ else 0)=(if k=0 then _ else 0)+(if k=0 then (1:Rat) else 0)
   split
   ·rfl
   ·grind
  rw [e]
  show dP q*(q*wP q n)+_=_*((q*wP q n)*dP q);generalize d5 ((n+1:Nat):Rat)=w
  grind
theorem aX4:∀ {fs:List (Pf × Nat)},(∀ x ∈ fs,1<=x.2)->fP fs=gP1 fs*aP fs 1/\dP (fP fs)=gP1 fs*sP fs 1
 | [],_=>⟨by show (1:Pf)=1*1;grind,by show dP 1=1*0;rw [aK0];grind⟩
 | x :: r,h=>by
  obtain ⟨i1,i2⟩:=aX4 (fs:=r) λy hy=>h y (q0f _ hy);have h1:=h x q0h;obtain ⟨n,hn⟩:∃ n,x.2=n+1:=⟨x.2-1,⋯⟩;have dw:=dwP x.1 n;unfold fP gP1 aP sP;rw [if_pos h1,if_pos h1,hn,z0u];refine ⟨?_,?_⟩
  ·show x.1*wP x.1 n*fP r=_
   rw [i1];grind
  ·rw [ab4,dw,i2,i1]
   show _+x.1*wP x.1 n*_=_;rw [show n+1+1-1=n+1 by omega]
   generalize d5 ((n+1:Nat):Rat)=w
   grind
theorem aH3 {p:Pf}:∀ n,Dg p.f n->(∃ k,p.f k ≠ 0)->∃ m,Dg p.f (m+1)/\p.f m ≠ 0
 | 0,h,⟨k,hk⟩=>absurd (h k (z0m _)) hk
 | n+1,h,hk=>by
  by_cases z:p.f n=0
  ·exact aH3 n (λk hkn=>by
    rcases v0d hkn with y | y
    ·rw [<- y];exact z
    ·exact h k y) hk
  ·exact ⟨n,h,z⟩
theorem bl1 {p q:Pf} {d:Rat} (fp:Fn p) (fq:Fn q) (h:p*q=d5 d) (d0:d ≠ 0):Dg p.f 1:=by
 obtain ⟨n,hn⟩:=fq;obtain ⟨m,hm⟩:=fp;have e0:(p*q).f 0 ≠ 0:=by rw [h];exact d0
 have nz:∃ k,q.f k ≠ 0:=Classical.byContradiction λz=>e0 (by
  have q0:∀ k,q.f k=0:=λk=>Classical.byContradiction λy=>z ⟨k,y⟩
  show cv p.f q.f 0=0;rw [C8];exact X5 q0 _ _)
 obtain ⟨t,ht,tn⟩:=aH3 n hn nz
 have:=T1 hm ht tn (N:=1) (λk hk=>by
  have e:cv p.f q.f k=(d5 d).f k:=by rw [<- h];rfl
  rw [e];show (if k=0 then d else 0)=0;rw [if_neg ⋯])
 exact λk hk=>this k ⋯
structure CC (G P Q:List Int) (K c L g bG:Nat):Prop where
 lG:G.length=g+1
 tG:k7 G G.length
 gG:i6 G=1
 bG:∀ k,(aZ G k).natAbs<2 ^ bG
 tP:k7 P P.length
 tQ:k7 Q Q.length
 lp:P.length<=L
 lq:Q.length<P.length
 kP:∀ k,(aZ P k).natAbs<=K
 kQ:∀ k,(aZ Q k).natAbs<=K
 k1:1<=K
 hc:4*L*K<=2 ^ c
 l9:L<=16
def wG (c L g bG la:Nat):Nat:=wL c L (la-g)+bG+5
structure CS (G P Q:List Int) (c L g bG:Nat) (A B:List Int):Prop where
 tA:k7 A A.length
 tB:k7 B B.length
 lt:B.length<A.length
 ex:∃ A' B' fa ha fb hb:Pf,Fn A'/\Fn B'/\Fn fa/\Fn ha/\Fn fb/\Fn hb/\zp A=A'*zp G/\zp B=B'*zp G/\Ev (zp P) (zp Q) A' B' fa ha fb hb P.length Q.length (A.length-g) (B.length-g)
 bA:∀ k,(aZ A k).natAbs<2 ^ wG c L g bG A.length
 bB:∀ k,(aZ B k).natAbs<2 ^ wG c L g bG A.length
section
variable {G P Q:List Int} {K c L g bG:Nat}
theorem CC.gl (C:CC G P Q K c L g bG):Dg (zp G).f (g+1)/\(zp G).f g ≠ 0:=by
 have h:=v5 C.tG (by rw [C.lG];omega)
 rw [C.lG,z0u] at h;refine ⟨?_,T5 h⟩;have:=A6 G;rw [C.lG] at this;exact this
theorem CC.quo (C:CC G P Q K c L g bG) {A:List Int} {A':Pf} (fA:Fn A') (e:zp A=A'*zp G):Dg A'.f (A.length-g):=by
 obtain ⟨n,hn⟩:=fA;obtain ⟨d1,d2⟩:=C.gl
 exact T1 hn d1 d2 (λk hk=>by
  have:cv A'.f (zp G).f k=zc A k:=by
   have h:=congrArg (λz=>Pf.f z k) e;exact h.symm
  rw [this];exact A6 A k hk)
theorem CC.ld (C:CC G P Q K c L g bG) {A:List Int} {A':Pf} (fA:Fn A') (e:zp A=A'*zp G) (tA:k7 A A.length) (hA:A ≠ []):g<A.length/\A'.f (A.length-g-1) ≠ 0:=by
 have q:=C.quo fA e;have pos:=j0s.mpr hA;have lead:=T5 (v5 tA pos);obtain ⟨d1,d2⟩:=C.gl;have at':∀ k,zc A k=cv A'.f (zp G).f k:=λk=>congrArg (λz=>Pf.f z k) e
 have hg:g<A.length:=Classical.byContradiction λz=>lead (by
  rw [at'];exact X5 (λk=>q k ⋯) _ _)
 refine ⟨hg,λz=>lead ?_⟩;rw [at',show A.length-1=(A.length-g-1)+g by omega,ab6 (λk hk=>q k ⋯) d1,z];grind
theorem ba2 {la lb:Nat} (h:lb<=la):wG c L g bG la<=wG c L g bG lb:=by
 unfold wG;have:=ba1 (c:=c) (L:=L) (show lb-g<=la-g by omega)
 omega
theorem CS.init (C:CC G P Q K c L g bG) {P0 Q0:List Int} (tP:k7 P0 P0.length) (tQ:k7 Q0 Q0.length) (eP:zp P0=zp P*zp G) (eQ:zp Q0=zp Q*zp G):CS G P Q c L g bG P0 Q0:=by
 have qP:=C.quo (Z8 P) eP;have pl:0<P.length:=by have:=C.lq;omega
 have P0n:P0 ≠ []:=λz=>by
  have lead:=T5 (v5 C.tP pl);rw [z] at qP;exact lead (qP _ (by simp))
 obtain ⟨h1,h2⟩:=C.ld (Z8 P) eP tP P0n
 have lP:P0.length-g=P.length:=by
  rcases g0p (P0.length-g) P.length with z | z | z
  ·exact absurd (qP (P.length-1) ⋯) (T5 (v5 C.tP pl))
  ·exact z
  ·exact absurd (A6 P (P0.length-g-1) ⋯) h2
 have lQ:Q0.length-g=Q.length:=by
  have qQ:=C.quo (Z8 Q) eQ
  by_cases z:Q0=[]
  ·rw [z]
   rw [z] at qQ;rcases y0j Q.length with y | y
   ·simp;omega
   ·exact absurd (qQ (Q.length-1) (by simp)) (T5 (v5 C.tQ y))
  ·obtain ⟨h1,h2⟩:=C.ld (Z8 Q) eQ tQ z
   rcases g0p (Q0.length-g) Q.length with y | y | y
   ·exact absurd (qQ (Q.length-1) ⋯) (T5 (v5 C.tQ ⋯))
   ·exact y
   ·exact absurd (A6 Q (Q0.length-g-1) ⋯) h2
 have lq:=C.lq
 have kc:K<2 ^ c:=by
  have h1:=C.hc;have h2:4*1*K<=4*L*K:=z0b _ (by have:=C.lp;omega)
  have:=C.k1;omega
 have wge:c<=wL c L (P0.length-g):=by
  rw [lP];have:=bm5 (c:=c) C.lp;omega
 have bits:∀ {R R0:List Int},zp R0=zp R*zp G->R.length<=32->(∀ k,(aZ R k).natAbs<=K)->∀ k,(aZ R0 k).natAbs<2 ^ wG c L g bG P0.length:=fun {R R0} e l h k=>by
  have e2:aZ R0 k=aZ (aE0 R G) k:=aH0 (by rw [e,aR5]) k
  rw [e2];refine q0b (bb6 l (λk=>q0e (h k) kc) C.bG k) (c5 ?_);unfold wG;omega
 have l9:=C.l9;have lp:=C.lp;refine ⟨tP,tQ,⋯,⟨zp P,zp Q,1,0,0,1,Z8 P,Z8 Q,E3,L6,L6,E3,eP,eQ,by rw [lP,lQ];exact Ev.base⟩,bits eP ⋯ C.kP,bits eQ ⋯ C.kQ⟩
theorem CS.step (C:CC G P Q K c L g bG) {A B:List Int} (S:CS G P Q c L g bG A B) (hB:B ≠ []) {many:Int} {Qz Rz Cz:List Int} (m1:1<=many) (dv:Dv A B Qz Rz many) (lR:Rz.length<B.length) (tR:k7 Rz Rz.length) {h:Int} (h0:h ≠ 0) (zR:∀ k,aZ Rz k=h*aZ Cz k) (lC:Cz.length=Rz.length) (pr:Cz ≠ []->i6 Cz=1):CS G P Q c L g bG B Cz:=by
 obtain ⟨A',B',fa,ha,fb,hb,FA,FB,Ffa,Fha,Ffb,Fhb,eA,eB,e⟩:=S.ex;have mz:(many:Rat) ≠ 0:=n9 ⋯;have hz:(h:Rat) ≠ 0:=n9 h0;have e1:d5 (many:Rat)*zp A=zp Qz*zp B+zp Rz:=Pf.ext λk=>by rw [u8];exact dv k
 have eR:zp Rz=d5 (h:Rat)*zp Cz:=Pf.ext λk=>by
  rw [u8]
  show zc Rz k=_*zc Cz k;unfold zc;rw [zR,q0n]
 have tC:=ak4 tR lC zR;obtain ⟨C',eC'⟩:∃ C',C'=d5 (h:Rat)⁻¹*(d5 (many:Rat)*A'-zp Qz*B'):=⟨_,rfl⟩;have ih:=u9 hz;have FC:Fn C':=by rw [eC'];exact (t9 _).mul (((t9 _).mul FA).sub ((Z8 _).mul FB))
 have eC:zp Cz=C'*zp G:=by
  have h1:d5 (h:Rat)*zp Cz=d5 (many:Rat)*zp A-zp Qz*zp B:=by rw [<- eR,e1];grind
  have h2:zp Cz=d5 (h:Rat)⁻¹*(d5 (h:Rat)*zp Cz):=by grind
  rw [h2,h1,eC',eA,eB];grind
 have qC:=C.quo FC eC;obtain ⟨gB,lB⟩:=C.ld FB eB S.tB hB;have qB:=C.quo FB eB;have lCg:Cz.length-g<B.length-g:=⋯;have hst:=e.step (c:=(many:Rat)) (d:=(h:Rat)) (C:=C') (Q:=zp Qz) (fc:=d5 (h:Rat)⁻¹*(d5 (many:Rat)*fa-zp Qz*fb)) (hc:=d5 (h:Rat)⁻¹*(d5 (many:Rat)*ha-zp Qz*hb)) (by have:=S.lt;omega) qB ⋯ lB qC lCg mz hz (A6 Qz) (by rw [eC'];grind) (by grind) (by grind)
 have bB':∀ k,(aZ B k).natAbs<2 ^ wG c L g bG B.length:=λk=>q0b (S.bB k) (c5 (ba2 (by have:=S.lt;omega)))
 refine ⟨S.tB,tC,⋯,⟨B',C',fb,hb,_,_,FB,FC,Ffb,Fhb,(t9 _).mul (((t9 _).mul Ffa).sub ((Z8 _).mul Ffb)),(t9 _).mul (((t9 _).mul Fha).sub ((Z8 _).mul Fhb)),eB,eC,hst⟩,bB',?_⟩
 by_cases hC:Cz=[]
 ·intro k
  rw [hC];exact y0k _
 obtain ⟨N,hN⟩:∃ N,N=(Q.length-(B.length-g-1))+(P.length-(B.length-g-1)):=⟨_,rfl⟩;have hle:=hst.le;have lq:=C.lq;have lp:=C.lp;have l9:=C.l9;obtain ⟨b0,u,v,s,b0n,_,_,e3,_,_,l3⟩:=hst.siegel lCg C.kP C.kQ C.k1 hN;have N1:1<=N:=⋯;have hc:2*N*K<=2 ^ c:=z0f (z0b _ (show 2*N<=4*L by omega)) C.hc
 obtain ⟨p1,_⟩:=bh9 N1 C.k1 hc
 have sz:∀ i,Cz.length-g<=i->s i=0:=λi hi=>by
  have:=e3 i;rw [qC i hi] at this;exact q0y.mp (by rw [this,q0k];grind)
 have cN:c*N<=wL c L (B.length-g):=by
  unfold wL;exact z0j _ ⋯
 have key:∀ k,(((sZ (λi=>s i*aZ G (k-i)) (k+1):Int)):Rat)=b0*zc Cz k:=λk=>by
  rw [<- ae0];have:zc Cz k=cv C'.f (zp G).f k:=congrArg (λz=>Pf.f z k) eC;rw [this,<- ab7];exact ad7 (λi _=>e3 i) (λi _=>rfl)
 intro k;have le:=aL6 b0n (pr hC) key k;refine q0e le ?_;refine q0b (aY6 (n:=Cz.length-g) (a:=wL c L (B.length-g)) (b:=bG) ⋯ sz (λi=>q0e (l3 i) (q0b p1 (c5 cN))) C.bG k (k+1)) (c5 (by unfold wG;omega))
theorem CS.last (C:CC G P Q K c L g bG) {A:List Int} (S:CS G P Q c L g bG A []) (co:Cop (zp P) (zp Q)):∃ u:Rat,u ≠ 0/\zp A=d5 u*zp G:=by
 obtain ⟨A',B',fa,ha,fb,hb,FA,FB,Ffa,Fha,Ffb,Fhb,eA,eB,e⟩:=S.ex;have An:A ≠ []:=λz=>by have:=S.lt;rw [z] at this;simp at this
 have qB:=C.quo FB eB;have B0:B'=0:=Pf.ext λk=>by rw [y2];exact qB k (by simp)
 obtain ⟨δ,δ0,c1,c2⟩:=e.cr;obtain ⟨x,y,Fx,Fy,exy⟩:=co;rw [B0] at c1 c2
 have key:A'*(x*hb-y*fb)=d5 δ:=by
  have:d5 δ*(x*zp P+y*zp Q)=d5 δ:=by rw [exy];grind
  rw [<- this];have h1:d5 δ*(x*zp P+y*zp Q)=x*(d5 δ*zp P)+y*(d5 δ*zp Q):=by grind
  rw [h1,c1,c2];grind
 have d1:=bl1 FA ((Fx.mul Fhb).sub (Fy.mul Ffb)) key δ0
 have eq:A'=d5 (A'.f 0):=Pf.ext λk=>by
  show A'.f k=if k=0 then A'.f 0 else 0
  by_cases z:k=0
  ·rw [if_pos z,z]
  ·rw [if_neg z];exact d1 k ⋯
 refine ⟨A'.f 0,λz=>?_,by rw [eA];rw [<- eq]⟩
 obtain ⟨hg,hl⟩:=C.ld FA eA S.tA An
 exact hl (by
  rcases y0j (A.length-g-1) with y | y
  ·rw [y];exact z
  ·exact d1 _ y)
end
theorem aD0 {R G:List Int} {u:Rat} (tR:k7 R R.length) (tG:k7 G G.length) (gR:i6 R=1) (gG:i6 G=1) (u0:0<u) (e:zp R=d5 u*zp G):R=G:=by
 have un:u ≠ 0:=λz=>by rw [z] at u0;exact absurd u0 (by decide)
 obtain ⟨a,ha⟩:=am5 gG (s:=λk=>aZ R k) (b:=u) λk=>by
  have h:=congrArg (λz=>Pf.f z k) e
  have h2:zc R k=u*zc G k:=by
   have:(d5 u*zp G).f k=u*(zp G).f k:=u8 u (zp G) k;exact h.trans this
  exact h2
 obtain ⟨b,hb⟩:=am5 gR (s:=λk=>aZ G k) (b:=u⁻¹) λk=>by
  have h:=congrArg (λz=>Pf.f z k) e;have h2:zc R k=u*zc G k:=h.trans (u8 u (zp G) k)
  show zc G k=u⁻¹*zc R k;have:=q0j _ un;rw [h2];generalize u⁻¹=x at *
  grind
 have ab:a*b=1:=q0y.mp (by
  rw [q0n,<- ha,<- hb,q0j _ un];rfl)
 have a0:0<a:=y0n.mp (by rw [<- ha];exact u0)
 have a1:a=1:=by
  have hd:a ∣ 1:=⟨b,ab.symm⟩;have:=Int.le_of_dvd (by decide) hd
  omega
 rw [ha,a1] at e;refine aS3 tR tG λk=>aH0 (by rw [e,show ((1:Int):Rat)=1 from rfl,B5];grind) k
def sgd (i:Nat):Rat:=if i % 2=0 then 1 else -1
abbrev Mt:=Nat->Nat->Rat
def mn (M:Mt) (i:Nat):Mt:=λr c=>M (if r<i then r else r+1) (c+1)
def dt:Nat->Mt->Rat
 | 0,_=>1
 | n+1,M=>j7 (λi=>sgd i*M i 0*dt n (mn M i)) (n+1)
def IsI (q:Rat):Prop:=∃ z:Int,q=(z:Rat)
def hz (A B:Nat->Rat):Mt:=λi c=>if c<i / 2 then 0 else if i % 2=0 then B (c-i / 2) else A (c-i / 2)
def behind (A B:Nat->Rat):Nat->Rat:=λj=>B 0*A (j+1)-A 0*B (j+1)
def hm (A B:Nat->Rat) (m:Nat):Mt:=λi c=>if i % 2=1/\i<m then B 0*hz A B i c-A 0*hz A B (i-1) c else hz A B i c
structure Pos (n:Nat) (g:Nat->Nat->Rat):Prop where
 p:∀ i,i<=n->0<g i 0
 s:∀ i,1<=i->i<n->∀ j,g i 0*g (i-1) j=g i 0*g (i+1) (j+1)-g (i+1) 0*g i (j+1)
 l:1<=n->∀ j,g 0 0*g 1 (j+1)-g 1 0*g 0 (j+1)=0
 z:∀ i j,i<=n->i<2*j->g i j=0
def sh (C:Nat->Rat):Nat->Rat
 | 0=>0
 | j+1=>C j
inductive Hs:Nat->(Nat->Rat)->(Nat->Rat)->Prop where
 | base {A B:Nat->Rat} (h0:A 0 ≠ 0) (hA:∀ j,A (j+1)=0) (hB:∀ j,B j=0):Hs 0 A B
 | step {n:Nat} {A B C:Nat->Rat} {a:Rat} (ha:0<a) (hA:∀ j,A j=a*B j+sh C j) (h:Hs n B C):Hs (n+1) A B
abbrev Cz:=Rat × Rat
mutual
inductive HD (H:Hp):V->D->Prop where
 | v {x:V} (f:aF6 x=true):HD H x (.v x)
 | tup {p:Addr} {xs:List V} {ds:List D} (h:H p=some (.tup xs)) (t:HDs H xs ds):HD H (.ref p) (.tup ds)
 | lst {p:Addr} {xs:List V} {ds:List D} (h:H p=some (.lst xs)) (t:HDs H xs ds):HD H (.ref p) (.lst ds)
inductive HDs (H:Hp):List V->List D->Prop where
 | nil:HDs H [] []
 | cons {x:V} {xs:List V} {d:D} {ds:List D} (h:HD H x d) (t:HDs H xs ds):HDs H (x :: xs) (d :: ds)
end
def evZ (qs:List Rat):Bool:=(evs qs).all λq=>decide (q=0)
def odZ (qs:List Rat):Bool:=(ods qs).all λq=>decide (q=0)
def cOk (c T:Nat):Prop:=(c=10/\T<=14) \/ (c=40/\T<=5)
structure RowQ (c:Nat) (M:List (List Rat)) (last:List Rat):Prop where
 m:∀ L ∈ M,x9 L L.length/\2<=L.length/\evZ L=true/\∀ x ∈ L,BdN c x
 t:x9 last last.length
 n:last ≠ []
 p:evZ last=true \/ odZ last=true
 o:∀ x ∈ last,BdN c x
 z:cOk c (last.length-1+(M.map λL=>L.length-1).sum)
def bo2 (M:List (List Rat)):Nat->Nat
 | 0=>0
 | n+1=>bo2 M n+(((M[M.length-1-n]?).getD []).length-1)
def dn (M:List (List Rat)) (last:List Rat) (n:Nat):Nat:=last.length-1+bo2 M n
structure Prt (M:List (List Rat)) (last:List Rat) (l:Rat):Prop where
 m:∀ L ∈ M,∃ a:Rat,0<a/\L=[0,a]
 e:last=[l]
 n:l ≠ 0
def gP (M:List (List Rat)) (last:List Rat) (rh:Rat) (i j:Nat):Rat:=if 2*j<=i then rh*(fld M last i).1.f (i-2*j) else 0
theorem aL4 (a:Rat) (es:List Rat) (g:Pf) (k:Nat):(qp (a :: es)*g).f k=a*g.f k+(if k=0 then 0 else (qp es*g).f (k-1)):=by
 cases k with
 | zero =>
  show cv (aQ (a :: es)) g.f 0=_;rw [ag5,if_pos rfl]
  show a*g.f 0=_;grind
 | succ k =>
  show cv (aQ (a :: es)) g.f (k+1)=_;rw [V4,if_neg ⋯,z0u];rfl
theorem bb0 (g:Pf) (k:Nat):(qp []*g).f k=0:=X5 (λ_=>rfl) g.f k
def at' (g:Pf) (d k:Nat):Rat:=if d<=k then g.f (k-d) else 0
theorem bq2 (g:Pf) (d k:Nat):at' g (d+1) (k+1)=at' g d k:=by
 unfold at'
 by_cases h:d<=k
 ·rw [if_pos h,if_pos (by omega:d+1<=k+1),Nat.add_sub_add_right]
 ·rw [if_neg h,if_neg (by omega:¬ d+1<=k+1)]
theorem bq3 (g:Pf) (d:Nat):at' g (d+1) 0=0:=if_neg ⋯
theorem bq1 (g:Pf) (k:Nat):at' g 0 k=g.f k:=if_pos (z0m _)
theorem bn3 (g:Pf) (k:Nat):(qp [1]*g).f k=g.f k:=by
 rw [aL4]
 split
 ·grind
 ·rw [bb0];grind
theorem bn5 (c:Rat) (g:Pf) (k:Nat):(qp [c,1]*g).f k=c*g.f k+at' g 1 k:=by
 rw [aL4]
 cases k with
 | zero=>rw [if_pos rfl,bq3]
 | succ k=>rw [if_neg (Nat.succ_ne_zero k),z0u,bn3,bq2,bq1]
def rwA (p:Nat->Rat) (n:Nat):Nat->Rat:=λj=>if 2*j<=n then p (n-2*j) else 0
def rwB (p:Nat->Rat) (n:Nat):Nat->Rat:=λj=>if 2*j+1<=n then p (n-1-2*j) else 0
def Hp' (p:Pf) (n:Nat):Prop:=Hs n (rwA p.f n) (rwB p.f n)
inductive aR3:Nat->Pf->Prop where
 | lin {r:Rat} (h:0<=r):aR3 1 (qp [-r,1])
 | quad {u v:Rat} (h:0<=u) (hv:0<v):aR3 2 (qp [u*u+v,-2*u,1])
 | ev2 {c:Rat} (h:c ≠ 0):aR3 2 (qp [c,0,1])
 | ev4 {c:Rat} (h:c ≠ 0):aR3 4 (qp [c,0,0,0,1])
structure Fac (d l:Nat) (f:Pf):Prop where
 dg:∀ (g:Pf) (m:Nat),(∀ k,m<k->g.f k=0)->∀ k,m+d<k->(f*g).f k=0
 ld:∀ (g:Pf) (m:Nat),(∀ k,m<k->g.f k=0)->(f*g).f (m+d)=g.f m
 le:l<=d
 go:(l=d/\∀ (p:Pf) (n:Nat),(∀ k,n<k->p.f k=0)->Hp' p n->Hp' (f*p) (n+d)) \/ (l<d/\aR3 d f)
structure Rt (n l:Nat) (p:Pf):Prop where
 nz:p.f n ≠ 0
 hi:∀ k,n<k->p.f k=0
 le:l<=n
 go:(l=n/\Hp' p n) \/ (l<n/\∃ d e g m,n=m+d/\aR3 d e/\p=e*g/\∀ k,m<k->g.f k=0)
def WgN (J:Nat->L2.St->Hp->Prop) (m:Nat):L2.St->Hp->Prop:=λσ' H' => ∃ m',m'<m/\J m' σ' H'
def WhG (tb:TS) (D:V9) (J:Nat->L2.St->Hp->Prop) (m:Nat) (σ:L2.St) (H1:Hp):Prop :=
 ∃ N:L2.St->Hp->Prop,(∀ σ' H',N σ' H'->∃ m',m'<m/\J m' σ' H')/\tb { D with nx:=N,ct:=N,bk:=D.nx } σ H1
theorem WhG.mk {tb:TS} {D:V9} {J:Nat->L2.St->Hp->Prop} {m:Nat} {σ:L2.St} {H1:Hp} (h:tb { D with nx:=WgN J m,ct:=WgN J m,bk:=D.nx } σ H1):WhG tb D J m σ H1:=⟨_,λ_ _ n=>n,h⟩
theorem WgN.mk {J:Nat->L2.St->Hp->Prop} {m m':Nat} {σ:L2.St} {H:Hp} (l:m'<m) (h:J m' σ H):WgN J m σ H:=⟨_,l,h⟩
theorem aK4 {c:TT} {tb:TS} {D:V9} {σ:L2.St} {H:Hp} (J:Nat->L2.St->Hp->Prop) (m0:Nat) (h0:J m0 σ H)
  (hs:∀ m σ H,J m σ H->c σ H λb H1=>if b=true then WhG tb D J m σ H1 else D.nx σ H1):aa1 c tb D σ H:=⟨J,⟨_,h0⟩,hs⟩
theorem aW8 {ws:List Int} (t:k7 ws ws.length) (h:ws ≠ []):i6 ws ≠ 0:=λz=>by
 have pos:=j0s.mpr h;refine v5 t pos ?_;have hl:ws.length-1<ws.length:=⋯;have hm:ws[ws.length-1] ∈ ws:=y0w hl;have:=r9 hm;rw [z] at this;unfold aZ;rw [q0c hl];exact g0w.mp this
theorem bc7 {ws:List Int} {m:Nat} (h0:i6 ws ≠ 0) (hb:∀ v ∈ ws,z0p v<2 ^ m):i6 ws<2 ^ m:=by
 obtain ⟨v,hv,v0⟩:∃ v ∈ ws,v ≠ 0:=by
  refine Classical.byContradiction λz=>h0 ?_;have all:∀ v ∈ ws,v=0:=λv hv=>Classical.byContradiction λh=>z ⟨v,hv,h⟩;have:0 ∣ i6 ws:=J5 _ 0 (y0u _) λv hv=>by rw [all v hv];exact q1b _
  exact m0a this
 have:=z0v.mpr (r9 hv);exact q0e (y0p ⋯ this) (hb v hv)
section
variable {P:Program} {w:World} {K:q0a} {mg:Str->Option Value} {base:Heap}
def aK8 (K:q0a):Sp:=λvs H Q _ => ∃ (a:Addr) (ws:List Int),vs=[.ref a]/\H a=some (.lst (ws.map V.int))/\(∀ v ∈ ws,z0p v<2 ^ 6000)/\ws.length<=40/\k7 ws ws.length /\
 ∀ r zs h H',d4 H H'->H r=none->H' r=some (.lst (zs.map V.int))->zs.length=ws.length->1<=h->(∀ k,aZ ws k=h*aZ zs k)->(ws ≠ []->i6 zs=1)->Q (.ref r) H'
abbrev B2:Stmt:=top 14
theorem T6:i8 ["wholes","content"] ["wholes"] (d6 B2):=by and_intros
theorem aj7 {f f1:Addr} (d:Df K mg "over_content" B2 ["wholes"] f) (G_content_of:Def P w K mg base CX0 2 "content_of" f1 ["wholes"] (W5 K)) (n_list:mg "list" = none):Def P w K mg base CX0 3 "over_content" f ["wholes"] (aK8 K):=by
 refine d.ok (N:=["wholes","content"]) T6 (by rintro vs H Q E ⟨_,_,h,_⟩;rw [h];rfl) (λcdv A outer s H vs Q E hr h=>?_)
 obtain ⟨a,ws,rfl,hS,hb,l40,tz,k⟩:=h
 refine ⟨_,(c7 (d9 (i:=1) T6.nd rfl (v0q rfl) (d7 G_content_of hr (b8 (pv 0) b9) e9))
   (c7 (w8 (i9 am8 (pv 1) c6 (k4 _)) (c9 (i5 (C1 x8 rfl n_list (by decide +kernel) (b8 (pv 0) b9)))) m6)
   (c9 (i5 (D6 (Nc:=["content","whole"]) (caps:=[some 1,none]) rfl (T9.of (osc:=d6 B2) (N:=["wholes","content"]) (ks:=["content"]) rfl rfl rfl rfl (A7 rfl A3) (by decide +kernel)) (v6 (pv 0)) (λC s₂ H₂ fp pins=>(i3 (i:=1) (show y0r (["content","whole"]:List Str) by decide +kernel) rfl (z0r rfl) (v0q rfl))) (λC s₂ H₂ fp pins=>(f8 z5 (pv 1) (pv 0)))))))),?_⟩
 rw [show start ["wholes","content"] [.ref a]=[some (.ref a),none] from rfl]
 subst_eqs
 refine ⟨a,ws,rfl,SqL.of hS,hb,_,rfl,t7 (λh2=>⟨_,.inl (SqL.of hS),λp hp=>?_⟩) (λh2=>⟨⟨_,SqL.of hS⟩,λD hD=>?_⟩)⟩
 ·refine k p ws 1 _ (d4.new hp _) hp c8 rfl (Int.le_refl _) (λk=>⋯) λhw=>?_
  have:=aW8 tz hw;omega
 ·have g0:i6 ws ≠ 0:=λz=>by rw [z] at h2;exact h2 (by decide)
  have gb:(((i6 ws:Nat)):Int).natAbs<2 ^ 6000:=by rw [q0r];exact bc7 g0 hb
  refine bq0 hS hD ⋯ ⋯ gb λH2 s2 e2=>?_;have zR:∀ k,aZ ws k=((i6 ws:Nat):Int)*aZ (ws.map λv=>v.fdiv ((i6 ws:Nat):Int)) k:=ao3 g0 λv hv=>r9 hv;exact k D _ _ H2 s2 hD e2 (q0m _) ⋯ zR λ_=>ag1 rfl g0 (q0m _) zR
def aB3 (K:q0a):Sp:=λvs H Q _ => ∃ (a:Addr) (ws:List Int),vs=[.ref a]/\SqL K H a (ws.map V.int)/\(∀ v ∈ ws,z0p v<2 ^ 6000)/\ws.length<=40/\k7 ws ws.length /\
 ∀ r zs H',d4 H H'->H r=none->H' r=some (.lst (zs.map V.int))->zs.length=ws.length-1->k7 zs zs.length->(∀ k,aZ zs k=((k+1:Nat):Int)*aZ ws (k+1))->zp zs=dP (zp ws)->Q (.ref r) H'
abbrev C4:Stmt:=top 22
theorem al9:i8 ["wholes"] ["wholes"] (d6 C4):=by and_intros
theorem an0 {f:Addr} (d:Df K mg "whole_slope" C4 ["wholes"] f) (n_len:mg "len" = none) (n_range:mg "range" = none):Def P w K mg base CX0 1 "whole_slope" f ["wholes"] (aB3 K):=by
 refine d.ok (N:=["wholes"]) al9 (by rintro vs H Q E ⟨_,_,h,_⟩;rw [h];rfl) (λcdv A outer s H vs Q E hr h=>?_)
 obtain ⟨a,ws,rfl,hS,hb,l40,tz,k⟩:=h;refine ⟨_,(c9 (i5 (D6 (Nc:=["wholes","place"]) (caps:=[some 0,none]) rfl (T9.of (osc:=d6 C4) (N:=["wholes"]) (ks:=["wholes"]) rfl rfl rfl rfl (A7 rfl A3) (by decide +kernel)) (aO7 rfl n_range (b8 c6 (b8 (f9 h9 rfl n_len (by decide +kernel) (b8 (pv 0) b9)) b9))) (λC s₂ H₂ fp pins=>(i3 (i:=1) (show y0r (["wholes","place"]:List Str) by decide +kernel) rfl (z0r rfl) (v0q rfl))) (λC s₂ H₂ fp pins=>(f8 m8 (pv 1) (k3 (by exact r6:IxR _ (aq2 K)) (pv 0) (pv 1) (λ_ _=>rfl))))))),?_⟩
 rw [show start ["wholes"] [.ref a]=[some (.ref a)] from rfl]
 subst_eqs
 refine ⟨_,.inl hS,⋯,⋯,by rw [q0m];omega,by rw [q0m];omega,λD hD=>?_⟩
 have ln:((((ws.map V.int).length:Nat):Int)-1).toNat=ws.length-1:=by rw [q0m];omega
 rw [ln];obtain ⟨zs,hzs⟩:∃ zs:List Int,zs=(j0f (ws.length-1)).map λi=>((i+1:Nat):Int)*aZ ws (i+1):=⟨_,rfl⟩;have lz:zs.length=ws.length-1:=by rw [hzs,q0m,j0e]
 have gz:∀ j,j<ws.length-1->zs[j]? = some (((j+1:Nat):Int)*aZ ws (j+1)):=λj hj=>by rw [hzs,q0q,j0d hj];rfl
 have az:∀ j,aZ zs j=((j+1:Nat):Int)*aZ ws (j+1):=λj=>by
  unfold aZ;rcases z0z j (ws.length-1) with y | y
  ·rw [gz j y];rfl
  ·rw [q0d ⋯,q0d ⋯]
   show (0:Int)=_*0;omega
 refine aG2 (λj σ H2 => ∃ o,σ=[some (.ref a),o]/\d4 H H2/\H2 D=some (.lst ((zs.take j).map V.int))) ⟨_,rfl,d4.new hD _,c8⟩ ?_ ?_
 ·rintro j σ H2 hj ⟨o,rfl,s2,e2⟩
  subst_eqs
  have hl:j+1<ws.length:=⋯
  have ew:(ws.map V.int)[j+1]? = some (.int (aZ ws (j+1))):=by
   rw [q0q,q0c hl];unfold aZ;rw [q0c hl];rfl
  rw [show (1:Int)+(j:Int)=((j+1:Nat):Int) by omega]
  have bw:=aG9 hb (j+1);refine ⟨_,s2.seq hS,_,X8 ew,_,rfl,C6 (m:=10) (n:=6000) (by rw [q0r];omega) bw (by decide),?_⟩
  refine D4.mk hj e2 (ay4 (by rw [q0m,j0b];omega)) ⟨_,rfl,s2.over hD _,?_⟩
  rw [c8,C3 (gz j ⋯),List.map_append];rfl
 ·rintro σ H2 ⟨o,rfl,s2,e2⟩
  rw [v0f ⋯] at e2;refine k D zs H2 s2 hD e2 lz ⟨q0t _,λi v hi e=>?_,λhn v e=>?_⟩ az (Pf.ext λj=>?_)
  ·have:=(q0s.mp e).1;omega
  ·have lp:0<zs.length:=⋯
   rw [gz _ ⋯] at e
   cases e
   have lead:=v5 tz ⋯;rw [show zs.length-1+1=ws.length-1 by omega]
   exact y0m ⋯ lead
  ·show zc zs j=((j+1:Nat):Rat)*zc ws (j+1)
   unfold zc;rw [az,q0n];rfl
def bg4 (c L bG:Nat):Bool:=(j0f (L+1)).all λla=>decide (la=0 \/ (la+1)*(wL c L la+bG+6)<=5000)
theorem aR8 {c L bG la:Nat} (h:bg4 c L bG=true) (h1:1<=la) (h2:la<=L):(la+1)*(wL c L la+bG+6)<=5000:=by
 have:=of_decide_eq_true (u0m.mp h la (v0h.mpr ⋯));omega
def aT0 (K:q0a):Sp:=λvs H Q _ => ∃ (a b:Addr) (P0 Q0 G P' Q':List Int) (M c L g bG:Nat),vs=[.ref a,.ref b]/\H a=some (.lst (P0.map V.int))/\H b=some (.lst (Q0.map V.int))/\CC G P' Q' M c L g bG/\k7 P0 P0.length/\k7 Q0 Q0.length/\zp P0=zp P'*zp G/\zp Q0=zp Q'*zp G/\Cop (zp P') (zp Q')/\0<aZ G g/\bg4 c L bG=true/\g+L<=22/\∀ r H',d4 H H'->H r=none->H' r=some (.lst (G.map V.int))->Q (.ref r) H'
abbrev F5:Stmt:=top 25
theorem J7:i8 ["one","other"] ["one","other"] (d6 F5):=by and_intros
theorem aj6 {f f1 f2 f3:Addr} (d:Df K mg "whole_common" F5 ["one","other"] f) (GD_whole_divided:Def P w K mg base CX0 2 "whole_divided" f1 ["one","other"] (aS9 K)) (G_over_content:Def P w K mg base CX0 3 "over_content" f2 ["wholes"] (aK8 K)) (G_whole_scaled:Def P w K mg base CX0 2 "whole_scaled" f3 ["factor","wholes"] (ae6 K)):Def P w K mg base CX0 4 "whole_common" f ["one","other"] (aT0 K):=by
  have G_whole_divided:=GD_whole_divided;refine d.ok (N:=["one","other"]) J7 (by rintro vs H Q E ⟨_,_,_,_,_,_,_,_,_,_,_,_,h,_⟩;rw [h];rfl) (λcdv A' outer s H vs Q E hr h=>?_)
  obtain ⟨a,b,P0,Q0,G,P',Q',M,c,L,g,bG,rfl,ea,eb,C,tP,tQ,eP,eQ,co,lead,ok,gL,k⟩:=h
  refine ⟨_, (c7 (F7 PassesOwn.never (J2 (pv 1) (fun _ => rfl)) (c9 (aa5 (i := 0) (j := 1) rfl J7.nd rfl rfl (by decide) rfl rfl (b8 (pv 1) (b8 (d7 G_over_content hr (b8 (k3 k9 (d7 G_whole_divided hr (b8 (pv 0) (b8 (pv 1) b9)) e9) c6 (fun _ _ => rfl)) b9) e9) b9)) rfl)))
      (c7 (w8 (PW.pt (aw1 (J2 (pv 0) (λ_=>rfl)) (ak8 (i9 am8 (k3 r6 (pv 0) (O8 E9 c6) (λ_ _=>rfl)) c6 (k4 _))))) (c9 (d9 (i:=0) J7.nd rfl (Or.inl rfl) (d7 G_whole_scaled hr (b8 (O8 E9 c6) (b8 (pv 0) b9)) e9))) m6)
      (c9 (i5 (d7 G_over_content hr (b8 (pv 0) b9) e9))))),?_⟩
  rw [show start ["one","other"] [.ref a,.ref b]=[some (.ref a),some (.ref b)] from rfl]
  have lp:=C.lp;have lG:=C.lG;refine d8 (λσ H1 => ∃ la lb A,σ=[some (.ref la),some (.ref lb)]/\d4 H H1/\H1 la=some (.lst (A.map V.int))/\CS G P' Q' c L g bG A []) (λN hN=>?_) ?_
  · show aa1 _ _ _ _ _
    obtain ⟨J,hJ⟩:∃ J:Nat->L2.St->Hp->Prop,∀ m σ H1,J m σ H1 ↔ ∃ la lb A B,σ=[some (.ref la),some (.ref lb)]/\d4 H H1/\H1 la=some (.lst (A.map V.int))/\H1 lb=some (.lst (B.map V.int))/\CS G P' Q' c L g bG A B/\m=B.length:=⟨_,λ_ _ _=>Iff.rfl⟩;refine aK4 J Q0.length ((hJ _ _ _).mpr ⟨a,b,P0,Q0,rfl,d4.refl _,ea,eb,CS.init C tP tQ eP eQ,rfl⟩) ?_;intro m σ H1 hm;obtain ⟨la,lb,A,B,rfl,s1,eA,eB,S,rfl⟩:=(hJ _ _ _).mp hm
    subst_eqs
    refine ⟨_,.inl ⟨_,SqL.of eB,rfl⟩,t7 (λhB=>WhG.mk ?_) (λhB=>?_)⟩
    · have hB':B ≠ []:=λz=>by rw [z] at hB;simp at hB
      have bpos:0<B.length:=List.length_pos_iff.mpr hB';obtain ⟨A1,B1,fa,ha,fb,hb,FA,FB,_,_,_,_,e1,e2,ev⟩:=S.ex;obtain ⟨gB,_⟩:=C.ld FB e2 S.tB hB';have le:=ev.le;have lq:=C.lq;have lt:=S.lt;obtain ⟨n,hn⟩:∃ n,B.length=n+1:=⟨B.length-1,⋯⟩;have sz:=aR8 ok (la:=A.length-g) ⋯ ⋯;obtain ⟨w',hw'⟩:∃ w',w'=wG c L g bG A.length:=⟨_,rfl⟩;have hw2:wL c L (A.length-g)+bG+6=w'+1:=by rw [hw'];unfold wG;omega
      rw [hw2] at sz;obtain ⟨Sv,hSv⟩:∃ Sv,Sv=A.length-n:=⟨_,rfl⟩;have m1:(Sv+1)*(w'+1)<=(A.length-g+1)*(w'+1):=Nat.mul_le_mul_right _ ⋯;rw [Nat.add_mul,Nat.one_mul] at m1;have bA:=S.bA;have bB:=S.bB;rw [<- hw'] at bA bB
      subst_eqs
      refine ⟨la,lb,A,B,n,Sv,w',w',rfl,SqL.of eA,SqL.of eB,⋯,hn,⋯,by rw [show n=B.length-1 by omega];exact v5 S.tB bpos,S.tA,⋯,T3 bA,T3 bB,⋯,⋯,λr lq lR many Qz Rz H3 s3 fq fr nqr err eq eR m1 mb qb rb rl rt ql qt dv ex=>?_⟩
      refine ⟨r,rfl,_,SqT.of err,_,rfl,?_⟩;refine ⟨lR,Rz,rfl,eR,λv hv=>Nat.lt_of_lt_of_le (rb v hv) (c5 ⋯),⋯,rt,λr4 Cz h4 H4 s4 f4 e4 l4 h1 z4 p4=>?_⟩;have S':=S.step C hB' m1 dv ⋯ rt (h:=h4) ⋯ z4 l4 (λhC=>p4 λz=>hC (List.eq_nil_of_length_eq_zero (by rw [l4,z];rfl)))
      exact WgN.mk (m':=Cz.length) ⋯ ((hJ _ _ _).mpr ⟨lb,r4,B,Cz,rfl,s1.trans (s3.trans s4),s4 _ _ (s3 _ _ eB),e4,S',rfl⟩)
    · have hB0 : B = [] := by
        cases B with
        | nil=>rfl
        | cons=>simp at hB
      subst hB0;exact hN _ _ ⟨la,lb,A,rfl,s1,eA,S⟩
  rintro σ H1 ⟨la,lb,A,rfl,s1,eA,S⟩;obtain ⟨u,u0,eu⟩:=S.last C co;have An:A ≠ []:=λz=>by have:=S.lt;rw [z] at this;simp at this
  have apos:=List.length_pos_iff.mpr An;obtain ⟨A1,B1,fa,ha,fb,hb,FA,FB,_,_,_,_,e1,e2,ev⟩:=S.ex;obtain ⟨gA,_⟩:=C.ld FA e1 S.tA An;have le:=ev.le;have lq:=C.lq;have sz:=aR8 ok (la:=A.length-g) ⋯ ⋯
  have w6:wG c L g bG A.length<=5000:=by
    unfold wG;have:1*(wL c L (A.length-g)+bG+6)<=(A.length-g+1)*(wL c L (A.length-g)+bG+6):=Nat.mul_le_mul_right _ ⋯;omega
  have bA:∀ v ∈ A,Int.natAbs v<2 ^ 5000:=λv hv=>Nat.lt_of_lt_of_le (T3 S.bA v hv) (c5 w6);refine d8 (λσ H2 => ∃ l2 A2 u2,σ=[some (.ref l2),some (.ref lb)]/\d4 H H2/\H2 l2=some (.lst (A2.map V.int))/\k7 A2 A2.length/\A2 ≠ []/\A2.length<=A.length/\(∀ v ∈ A2,Int.natAbs v<2 ^ 6000)/\0<u2/\zp A2=d5 u2*zp G) (λN hN=>?_) ?_
  · have lastv : (A.map V.int)[(A.map V.int).length - 1]? = some (.int (aZ A (A.length - 1))) := by
      rw [List.length_map,List.getElem?_map,List.getElem?_eq_getElem ⋯];unfold aZ;rw [List.getElem?_eq_getElem ⋯];rfl
    have lA:A.length-1=g:=by
      have hA:∀ k,zc A k=u*zc G k:=λk=>(congrArg (λz=>Pf.f z k) eu).trans (u8 u (zp G) k);rcases Nat.lt_trichotomy (A.length-1) g with z | z | z
      · omega
      · exact z
      · exact absurd (by rw [hA,A6 G _ ⋯];grind) (T5 (v5 S.tA apos))
    have ul:((aZ A g:Int):Rat)=u*((aZ G g:Int):Rat):=(congrArg (λz=>Pf.f z g) eu).trans (u8 u (zp G) g);have lG0:(0:Rat)<((aZ G g:Int):Rat):=Rat.intCast_pos.mpr lead
    simp! [ap3]
    refine ⟨_,.inl ⟨_,SqL.of eA,rfl⟩,t7 (λ_=>?_) (λz=>?_)⟩
    · refine ⟨_,SqL.of eA,_,R8 lastv,_,rfl,t7 (λhneg=>?_) (λhpos=>?_)⟩
      · rw [lA] at hneg
        refine ⟨-1,la,A,5000,1,rfl,SqL.of eA,⋯,by decide,bA,by decide,λr zs H2 s2 f2 e2 tz2 l2 h2=>?_⟩
        have ez:zp zs=d5 (-u)*zp G:=Pf.ext λk=>by
          rw [u8]
          show zc zs k=-u*zc G k;have hA:zc A k=u*zc G k:=(congrArg (λz=>Pf.f z k) eu).trans (u8 u (zp G) k);unfold zc at hA ⊢;rw [h2,Rat.intCast_mul,hA,show ((-1:Int):Rat)=-1 from rfl];grind
        have un:0 < -u:=by
          refine Classical.byContradiction λz=>?_;have u1:0<=u:=by grind
          have:=Rat.mul_nonneg u1 (Rat.le_of_lt lG0);rw [<- ul] at this;have:=Rat.intCast_nonneg.mp this;omega
        refine hN _ _ ⟨r,zs,-u,rfl,s1.trans s2,e2,tz2,λz=>?_,l2,λv hv=>?_,un,ez⟩
        · have h3:=h2 g
          rw [z] at h3;have:aZ ([]:List Int) g=0:=rfl;omega
        · obtain ⟨k,hk,ek⟩:=List.getElem_of_mem hv
          have h3:aZ zs k=v:=by unfold aZ;rw [List.getElem?_eq_getElem hk,ek];rfl
          rw [<- h3,h2,Int.neg_mul,Int.one_mul,Int.natAbs_neg];exact Nat.lt_of_lt_of_le (aG9 bA k) (c5 (by decide))
      · rw [lA] at hpos
        have up:0<u:=by
          refine Classical.byContradiction λz=>?_;have u1:0 < -u:=by grind
          have:=Rat.mul_pos u1 lG0;have h5:((aZ A g:Int):Rat)<0:=by rw [ul];grind
          have:=Rat.intCast_lt_intCast.mp (show ((aZ A g:Int):Rat)<((0:Int):Rat) from h5);omega
        exact hN _ _ ⟨la,A,u,rfl,s1,eA,S.tA,An,Nat.le_refl _,λv hv=>Nat.lt_of_lt_of_le (bA v hv) (c5 (by decide)),up,eu⟩
    · exfalso
      cases A with
      | nil=>exact An rfl
      | cons=>exact z rfl
  rintro σ H2 ⟨l2,A2,u2,rfl,s2,e2,t2,n2,ln2,b2,u20,eu2⟩
  subst_eqs
  refine ⟨l2,A2,rfl,e2,b2,⋯,t2,λr zs h H3 s3 f3 e3 l3 h1 z3 p3=>?_⟩;have h0:(h:Rat) ≠ 0:=n9 ⋯
  have ez:zp zs=d5 ((h:Rat)⁻¹*u2)*zp G:=by
    have hA:zp A2=d5 (h:Rat)*zp zs:=Pf.ext λk=>by
      rw [u8]
      show zc A2 k=_*zc zs k;unfold zc;rw [z3,Rat.intCast_mul]
    have ih:=u9 h0;have:zp zs=d5 (h:Rat)⁻¹*zp A2:=by rw [hA];grind
    rw [this,eu2,z8];grind
  have tz:=ak4 t2 l3 z3;have eG:=aD0 tz C.tG (p3 n2) C.gG (Rat.mul_pos (Rat.inv_pos.mpr (Rat.intCast_pos.mpr ⋯)) u20) ez;rw [eG] at e3;exact k r H3 (s2.trans s3) (s2.free f3) e3
end
theorem al1 {B W:Nat} (hB:0<B) {a:Pf} (h:OvP B W a):∃ z:Nat->Int,(∀ k,a.f k=((B:Int):Rat)⁻¹*(z k:Rat))/\∀ k,(z k).natAbs<2 ^ W:=by
 have ex:∀ k,∃ z:Int,a.f k=((B:Int):Rat)⁻¹*(z:Rat)/\z.natAbs<2 ^ W:=λk=>by
  obtain ⟨v,e,b⟩:=h k;refine ⟨v,?_,b⟩;rw [e,j0j,y0b];grind
 exact ⟨λk=>Classical.choose (ex k),λk=>(Classical.choose_spec (ex k)).1,λk=>(Classical.choose_spec (ex k)).2⟩
theorem ap1 {B:Nat} (hB:0<B):((B:Int):Rat) ≠ 0:=n9 ⋯
def ltz (z:Nat->Int) (n:Nat):List Int:=(j0f n).map z
theorem al2 (z:Nat->Int) (n:Nat):(ltz z n).length=n:=by unfold ltz;rw [q0m,j0e]
theorem ad3 {z:Nat->Int} {n:Nat} (h:∀ k,n<=k->z k=0) (k:Nat):aZ (ltz z n) k=z k:=by
 unfold aZ ltz;rcases z0z k n with y | y
 ·rw [q0q,j0d y];rfl
 ·rw [q0d (by rw [q0m,j0e];exact y),h k y];rfl
theorem aI9 {z:Nat->Int} {n:Nat} (h:∀ k,n+1<=k->z k=0) (h0:z n ≠ 0):k7 (ltz z (n+1)) (ltz z (n+1)).length:=by
 refine ⟨q0t _,λi v hi e=>?_,λhn v e=>?_⟩
 ·have:=(q0s.mp e).1;omega
 ·rw [al2,z0u] at e
  have h2:=ad3 h n;unfold aZ at h2;rw [e] at h2;have h3:v=z n:=h2;rw [h3];exact h0
theorem aJ0 {a:Pf} {y:Nat->Int} (e:∀ k,a.f k=(y k:Rat)):∀ n,Dg a.f n->∃ ws,k7 ws ws.length/\zp ws=a/\ws.length<=n/\∀ k,aZ ws k=y k
 | 0,h=>⟨[],aS2,Pf.ext λk=>by rw [aR4,y2,h k (z0m _)],q0t _,λk=>by
   have:=e k;rw [h k (z0m _)] at this;exact (q0y.mp (by rw [<- this];rfl))⟩
 | n+1,h=>by
  have y0:∀ k,n+1<=k->y k=0:=λk hk=>q0y.mp (by rw [<- e k,h k hk,q0k])
  by_cases z:y n=0
  ·obtain ⟨ws,t,ez,l,g⟩:=aJ0 e n (λk hk=>by
    rcases v0d hk with x | x
    ·rw [<- x,e,z,q0k]
    ·exact h k x)
   exact ⟨ws,t,ez,⋯,g⟩
  ·refine ⟨ltz y (n+1),aI9 y0 z,Pf.ext λk=>?_,by rw [al2];exact q0t _,ad3 y0⟩
   show zc _ k=_;unfold zc;rw [ad3 y0,e]
theorem aL7 {a:Pf} {B W n:Nat} (hB:0<B) (h:OvP B W a) (dg:Dg a.f (n+1)) (ld:0<a.f n):∃ (G:List Int) (u:Rat),k7 G G.length/\G.length=n+1/\i6 G=1/\0<aZ G n/\(∀ k,(aZ G k).natAbs<2 ^ W)/\0<u/\zp G=d5 u*a:=by
 obtain ⟨z,ez,bz⟩:=al1 hB h;have Bn:=ap1 hB;have Bi:=q0j _ Bn
 have ez':∀ k,(z k:Rat)=((B:Int):Rat)*a.f k:=λk=>by
  have:=ez k;generalize (((B:Int):Rat))⁻¹=x at *;generalize ((B:Int):Rat)=b at *
  grind
 have z0:∀ k,n+1<=k->z k=0:=λk hk=>q0y.mp (by rw [ez' k,dg k hk,q0k];grind)
 have Bp:(0:Rat)<((B:Int):Rat):=y0n.mpr ⋯;have zn:0<z n:=y0n.mp (by rw [ez'];exact q1d Bp ld)
 obtain ⟨w0,hw0⟩:∃ w0,w0=ltz z (n+1):=⟨_,rfl⟩;have t0:k7 w0 w0.length:=by rw [hw0];exact aI9 z0 ⋯
 have l0:w0.length=n+1:=by rw [hw0,al2]
 have g0:∀ k,aZ w0 k=z k:=by rw [hw0];exact ad3 z0
 have gp:i6 w0 ≠ 0:=λy=>by
  have hm:w0[n]'⋯ ∈ w0:=y0w _;have hd:=r9 hm;rw [y] at hd;have h1:w0[n]'⋯=0:=g0w.mp hd;have h2:=g0 n;unfold aZ at h2;rw [q0c ⋯,h1] at h2;have h3:(0:Int)=z n:=h2;omega
 have zR:∀ k,aZ w0 k=((i6 w0:Nat):Int)*aZ (w0.map λv=>v.fdiv ((i6 w0:Nat):Int)) k:=ao3 gp λv hv=>r9 hv;have pr:i6 (w0.map λv=>v.fdiv ((i6 w0:Nat):Int))=1:=ag1 rfl gp (q0m _) zR;have lw:(w0.map λv=>v.fdiv ((i6 w0:Nat):Int)).length=w0.length:=q0m _;have tw:=ak4 t0 lw zR;generalize (w0.map λv=>v.fdiv ((i6 w0:Nat):Int))=G at *;obtain ⟨g,hg⟩:∃ g:Nat,g=i6 w0:=⟨_,rfl⟩;rw [<- hg] at gp zR;have gq:(0:Rat)<((g:Int):Rat):=y0n.mpr ⋯;have gn:((g:Int):Rat) ≠ 0:=n9 ⋯;have gi:=q0j _ gn;refine ⟨G,((B:Int):Rat)*((g:Int):Rat)⁻¹,tw,⋯,pr,?_,λk=>?_,q1d Bp (Rat.inv_pos.mpr gq),Pf.ext λk=>?_⟩
 ·have h1:=zR n
  rw [g0] at h1;refine Classical.byContradiction λy=>?_;have:(g:Int)*aZ G n<=0:=Int.mul_nonpos_of_nonneg_of_nonpos ⋯ ⋯;omega
 ·have h1:=zR k
  rw [g0] at h1;have h2:=bz k;rw [h1,q0x,q0r] at h2;have:1*(aZ G k).natAbs<=g*(aZ G k).natAbs:=z0b _ ⋯;omega
 ·rw [u8]
  show zc G k=_;unfold zc;have h1:=zR k;rw [g0] at h1;have h2:(z k:Rat)=((g:Int):Rat)*((aZ G k:Int):Rat):=by rw [h1,q0n]
  have h3:=ez' k;generalize (((g:Int):Rat))⁻¹=x at *;generalize ((g:Int):Rat)=g' at *;generalize ((B:Int):Rat)=b at *
  grind
theorem bj4 {R:List Int} {l:Rat} {a:Pf} {B W:Nat} (hB:0<B) (h:OvP B W a) (e:zp R=d5 l*a) (l0:l ≠ 0) (gR:i6 R=1):∃ g:Int,g ≠ 0/\((B:Int):Rat)=l*(g:Rat):=by
 obtain ⟨z,ez,_⟩:=al1 hB h;have Bn:=ap1 hB;have Bi:=q0j _ Bn;have li:=q0j _ l0
 obtain ⟨g,hg⟩:=am5 gR (s:=z) (b:=((B:Int):Rat)*l⁻¹) λk=>by
  have h1:zc R k=l*a.f k:=(congrArg (λy=>Pf.f y k) e).trans (u8 l a k);rw [h1,ez k];generalize (((B:Int):Rat))⁻¹=x at *;generalize ((B:Int):Rat)=b at *;generalize l⁻¹=y at *
  grind
 refine ⟨g,λz=>?_,?_⟩
 ·rw [z,q0k] at hg
  rcases j0t.mp hg with y | y
  ·exact Bn y
  ·rw [y] at li;grind
 ·rw [<- hg]
  generalize ((B:Int):Rat)=b at *;generalize l⁻¹=y at *
  grind
theorem aE6 {l:Rat} {s:Pf} {B W:Nat} {g:Int} (hB:0<B) (h:OvP B W s) (g0:g ≠ 0) (e:((B:Int):Rat)=l*(g:Rat)) {y:Nat->Int} (ey:∀ k,(y k:Rat)=l*s.f k) (k:Nat):(y k).natAbs<2 ^ W:=by
 obtain ⟨z,ez,bz⟩:=al1 hB h;have Bn:=ap1 hB;have Bi:=q0j _ Bn
 have:(z k:Rat)=(g:Rat)*(y k:Rat):=by
  rw [ey k,ez k];generalize (((B:Int):Rat))⁻¹=x at *;generalize ((B:Int):Rat)=b at *
  grind
 exact q0e (bk3 (n9 g0) this) (bz k)
theorem aU6 {R P G:List Int} (e:zp R=zp P*zp G) (gR:i6 R=1):i6 P=1:=by
 have hd:i6 P ∣ i6 R:=J5 _ 0 (y0u _) λv hv=>by
  obtain ⟨k,hk,ek⟩:=j0r hv;have h2:aZ R k=v:=by unfold aZ;rw [q0c hk,ek];rfl
  have h3:((aZ R k:Int):Rat)=((sZ (λi=>aZ P i*aZ G (k-i)) (k+1):Int):Rat):=by
   rw [<- ae0];exact congrArg (λy=>Pf.f y k) e
  rw [<- h2,q0y.mp h3];refine aJ7 λi _=>y0d ?_ (Int.dvd_mul_right _ _);unfold aZ
  cases hp:P[i]? with
  | none=>exact q1b _
  | some v=>exact r9 (z0c hp)
 rw [gR] at hd;exact v0t.mp hd
structure Spl (R Z:List Int) (e a s:Pf) (ne na We Wa Ws:Nat) (G P Q:List Int) (m:Rat):Prop where
 tG:k7 G G.length
 lG:G.length=ne+1
 gG:i6 G=1
 ld:0<aZ G ne
 bG:∀ k,(aZ G k).natAbs<2 ^ We
 eG:∃ u:Rat,0<u/\zp G=d5 u*e
 eR:zp R=zp P*zp G
 eZ:zp Z=zp Q*zp G
 eP:zp P=d5 m*a
 eQ:zp Q=d5 m*s
 gP:i6 P=1
 m0:m ≠ 0
 tP:k7 P P.length
 tQ:k7 Q Q.length
 lP:P.length=na+1
 lQ:Q.length<=na
 bP:∀ k,(aZ P k).natAbs<2 ^ Wa
 bQ:∀ k,(aZ Q k).natAbs<2 ^ Ws
theorem aS7 {R Z:List Int} {l:Rat} {e a s:Pf} {ne na Be Ba We Wa Ws:Nat} (eR:zp R=d5 l*(e*a)) (gR:i6 R=1) (eZ:zp Z=d5 l*(e*s)) (l0:l ≠ 0) (hBe:0<Be) (hBa:0<Ba) (oe:OvP Be We e) (de:Dg e.f (ne+1)) (le:e.f ne=1) (oa:OvP Ba Wa a) (da:Dg a.f (na+1)) (la:a.f na=1) (os:OvP Ba Ws s) (ds:Dg s.f na):∃ G P Q m,Spl R Z e a s ne na We Wa Ws G P Q m:=by
 obtain ⟨G,u,tG,lG,gG,ld,bG,u0,eG⟩:=aL7 hBe oe de (by rw [le];decide)
 have un:u ≠ 0:=λz=>by rw [z] at u0;exact absurd u0 (by decide)
 have ui:=u9 un;have un':u⁻¹ ≠ 0:=λz=>by have:=q0j _ un;rw [z] at this;grind
 have m0:l*u⁻¹ ≠ 0:=λz=>by rcases j0t.mp z with y | y;exact l0 y;exact un' y
 have hR:d5 (l*u⁻¹)*a*zp G=zp R:=by rw [eG,eR,z8];grind
 have hZ:d5 (l*u⁻¹)*s*zp G=zp Z:=by rw [eG,eZ,z8];grind
 have dgc:∀ {x:Pf} {n:Nat},Dg x.f n->Dg (d5 (l*u⁻¹)*x).f n:=fun {x n} h k hk=>by rw [u8,h k hk];grind
 obtain ⟨y,ey⟩:=aX0 gG (dgc da) (z:=λk=>aZ R k) λk=>by rw [hR];rfl
 obtain ⟨y',ey'⟩:=aX0 gG (dgc ds) (z:=λk=>aZ Z k) λk=>by rw [hZ];rfl
 obtain ⟨P,tP,zP,lP,gP⟩:=aJ0 ey _ (dgc da);obtain ⟨Q,tQ,zQ,lQ,gQ⟩:=aJ0 ey' _ (dgc ds);have eR':zp R=zp P*zp G:=by rw [zP,hR]
 have gPP:=aU6 eR' gR;obtain ⟨g,g0,eg⟩:=bj4 hBa oa zP m0 gPP
 have lP':P.length=na+1:=by
  rcases z0z na P.length with x | x
  ·omega
  ·exfalso
   have h1:zc P na=0:=A6 P na x;have h2:zc P na=l*u⁻¹*a.f na:=(congrArg (λy=>Pf.f y na) zP).trans (u8 _ a na);rw [h1,la] at h2;exact m0 (by grind)
 refine ⟨G,P,Q,l*u⁻¹,tG,lG,gG,ld,bG,⟨u,u0,eG⟩,eR',by rw [zQ,hZ],zP,zQ,gPP,m0,tP,tQ,lP',lQ,λk=>?_,λk=>?_⟩
 ·rw [gP k]
  exact aE6 hBa oa g0 eg (λk=>by rw [<- ey k,u8]) k
 ·rw [gQ k]
  exact aE6 hBa os g0 eg (λk=>by rw [<- ey' k,u8]) k
theorem Spl.cc {R Z:List Int} {e a s:Pf} {ne na We Wa Ws W c L:Nat} {G P Q:List Int} {m:Rat} (S:Spl R Z e a s ne na We Wa Ws G P Q m) (h1:Wa<=W) (h2:Ws<=W) (hL:na+1<=L) (l16:L<=16) (hc:4*L*2 ^ W<=2 ^ c):CC G P Q (2 ^ W) c L ne We:=by
 refine ⟨S.lG,S.tG,S.gG,S.bG,S.tP,S.tQ,by rw [S.lP];exact hL,by rw [S.lP];have:=S.lQ;omega,λk=>y0c (q0b (S.bP k) (c5 h1)),λk=>y0c (q0b (S.bQ k) (c5 h2)),Nat.one_le_two_pow,hc,l16⟩
def pX:Pf:=qp [0,1]
theorem bd7 {p q:Pf} {c:Rat} (hc:c ≠ 0) (h:∃ u v,Fn u/\Fn v/\u*p+v*q=d5 c):Cop p q:=by
 obtain ⟨u,v,hu,hv,e⟩:=h;have i:=u9 hc
 exact ⟨d5 c⁻¹*u,d5 c⁻¹*v,(t9 _).mul hu,(t9 _).mul hv,by
  have:d5 c⁻¹*u*p+d5 c⁻¹*v*q=d5 c⁻¹*(u*p+v*q):=by grind
  rw [this,e];grind⟩
inductive Fct:List Rat->Prop where
 | lin (r:Rat):Fct [-r,1]
 | quad (u v:Rat) (hv:0<v):Fct [u*u+v,-2*u,1]
def pfs (fs:List (List Rat × Nat)):List (Pf × Nat):=fs.map λx=>(qp x.1,x.2)
structure FOk1 (x:List Rat × Nat):Prop where
 fc:Fct x.1
 m1:1<=x.2
 m4:x.2<=4
 ov:∃ e,e+x.1.length<=12*(x.1.length-1)/\∀ q ∈ x.1,OvB (60 ^ (x.1.length-1)) e q
def nA:List (List Rat × Nat)->Nat->Nat
 | [],_=>0
 | x :: r,j=>(if j<=x.2 then x.1.length-1 else 0)+nA r j
def nE:List (List Rat × Nat)->Nat->Nat
 | [],_=>0
 | x :: r,j=>(if x.2=j then x.1.length-1 else 0)+nE r j
def nG:List (List Rat × Nat)->Nat
 | []=>0
 | x :: r=>(x.2-1)*(x.1.length-1)+nG r
def nF:List (List Rat × Nat)->Nat
 | []=>0
 | x :: r=>x.2*(x.1.length-1)+nF r
structure Mon (p:Pf) (n:Nat):Prop where
 dg:Dg p.f (n+1)
 ld:p.f n=1
 ov:OvP (60 ^ n) (12*n+1) p
theorem aD9:∀ (fs:List (List Rat × Nat)) (j:Nat),nA fs j=nE fs j+nA fs (j+1)
 | [],_=>rfl
 | x :: r,j=>by
  have ih:=aD9 r j;unfold nA nE;rw [ih]
  by_cases h1:x.2=j
  ·rw [if_pos ⋯,if_pos h1,if_neg ⋯];omega
  ·rw [if_neg h1]
   by_cases h2:j<=x.2
   ·rw [if_pos h2,if_pos ⋯];omega
   ·rw [if_neg h2,if_neg ⋯];omega
theorem bf2:∀ {fs:List (List Rat × Nat)},(∀ x ∈ fs,1<=x.2)->nF fs=nG fs+nA fs 1
 | [],_=>rfl
 | x :: r,h=>by
  have ih:=bf2 (fs:=r) λy hy=>h y (q0f _ hy);have h1:=h x q0h;unfold nF nG nA;rw [ih,if_pos h1];obtain ⟨m,hm⟩:∃ m,x.2=m+1:=⟨x.2-1,⋯⟩;rw [hm,z0u,u0j,v0s];omega
structure Lm (p:Pf) (n:Nat):Prop where
 dg:Dg p.f (n+1)
 ld:p.f n ≠ 0
theorem Lm.fn {p:Pf} {n:Nat} (h:Lm p n):Fn p:=⟨_,h.dg⟩
theorem Lm.mul {p q:Pf} {m n:Nat} (h:Lm p m) (k:Lm q n):Lm (p*q) (m+n):=⟨λi hi=>(Dg.cv h.dg k.dg) i ⋯,by
 show cv _ _ _ ≠ 0;rw [ab6 h.dg k.dg]
 exact λz=>by
  rcases j0t.mp z with y | y
  ·exact h.ld y
  ·exact k.ld y⟩
theorem Lm.zero {p Z:Pf} {n:Nat} (h:Lm p n) (fz:Fn Z) (d:Dg (p*Z).f n):Z=0:=by
 obtain ⟨m,hm⟩:=fz
 have key:∀ j,j<=m->Dg Z.f (m-j):=λj=>by
  induction j with
  | zero=>intro _;exact hm
  | succ j ih =>
   intro hj;have hz:=ih ⋯;obtain ⟨t,ht⟩:∃ t,m-j=t+1:=⟨m-j-1,⋯⟩;rw [ht] at hz;have e:=d (n+t) ⋯;have e2:(p*Z).f (n+t)=p.f n*Z.f t:=ab6 h.dg hz;rw [e2] at e;rcases j0t.mp e with y | y
   ·exact absurd y h.ld
   ·intro i hi
    by_cases z:i=t
    ·rw [z];exact y
    ·exact hz i ⋯
 refine Pf.ext λi=>?_;rw [y2];exact key m (q0t _) i ⋯
theorem aw9 (p:Pf) (j:Nat):(pX*p).f j=if j=0 then 0 else p.f (j-1):=by
 unfold pX;rw [bn5];unfold at'
 by_cases h:j=0
 ·rw [if_neg ⋯,if_pos h];grind
 ·rw [if_pos ⋯,if_neg h];grind
theorem bp7:Lm pX 1:=by
 refine ⟨λk hk=>?_,?_⟩
 ·have:=aw9 1 k
  have e:pX*1=pX:=by grind
  rw [e,if_neg ⋯,aa6,if_neg ⋯] at this;exact this
 ·have:=aw9 1 1
  have e:pX*1=pX:=by grind
  rw [e,if_neg ⋯,aa6,if_pos rfl] at this;rw [this];decide
theorem af9:Lm 1 0:=⟨λk hk=>by rw [aa6,if_neg ⋯],by rw [aa6,if_pos rfl];decide⟩
theorem bn4 {f:Pf} {d:Nat} (h:Lm f d):∀ m,Lm (wP f m) (m*d)
 | 0=>by rw [m0z];exact af9
 | m+1=>by
  have:=h.mul (bn4 h m);rw [u0j,v0s,g0s (m*d) d];exact this
theorem bf8 (t:Nat):Lm (wP pX t) t:=by
 have:=bn4 bp7 t;rw [u0h] at this;exact this
theorem as3 {p:Pf} {n:Nat} (h:Lm p n):p ≠ 0:=λz=>h.ld (by rw [z,y2])
theorem P5 {p:Pf} {m n:Nat} (h:Lm p m) (k:Lm p n):m=n:=by
 rcases g0p m n with y | y | y
 ·exact absurd (h.dg n y) k.ld
 ·exact y
 ·exact absurd (k.dg m y) h.ld
theorem aE4 {p:Pf} (h:Fn p):p=0 \/ ∃ n,Lm p n:=by
 obtain ⟨n,hn⟩:=h
 by_cases z:∃ k,p.f k ≠ 0
 ·obtain ⟨m,hm,h0⟩:=aH3 n hn z
  exact .inr ⟨m,hm,h0⟩
 ·refine .inl (Pf.ext λk=>?_)
  rw [y2];exact Classical.byContradiction λy=>z ⟨k,y⟩
theorem an4 {p q:Pf} (hp:Fn p) (hq:Fn q) (h:p*q=0):p=0 \/ q=0:=by
 rcases aE4 hp with z | ⟨m,hm⟩
 ·exact .inl z
 ·rcases aE4 hq with z | ⟨n,hn⟩
  ·exact .inr z
  ·exact absurd h (as3 (hm.mul hn))
theorem K9 {p q:Pf} {n:Nat} (hp:Fn p) (hq:Fn q) (h:Lm (p*q) n):∃ a b,Lm p a/\Lm q b/\a+b=n:=by
 rcases aE4 hp with z | ⟨a,ha⟩
 ·exact absurd (by rw [z];grind) (as3 h)
 ·rcases aE4 hq with z | ⟨b,hb⟩
  ·exact absurd (by rw [z];grind) (as3 h)
  ·exact ⟨a,b,ha,hb,P5 (ha.mul hb) h⟩
theorem lm0 {p:Pf} (h:Lm p 0):p=d5 (p.f 0):=Pf.ext λk=>by
 show p.f k=if k=0 then p.f 0 else 0
 split
 ·rename_i e;rw [e]
 ·exact h.dg k ⋯
theorem aY2 {b:Pf} {m:Nat} (hb:Lm b m):∀ (n:Nat) (a:Pf),Dg a.f n->∃ q r,Fn q/\Dg r.f m/\a=b*q+r
 | 0,a,h=>⟨0,a,L6,λk _=>h k ⋯,by grind⟩
 | n+1,a,h=>by
  rcases z0z n m with y | y
  ·exact ⟨0,a,L6,λk hk=>h k ⋯,by grind⟩
  ·obtain ⟨t,ht⟩:∃ t,n=m+t:=⟨n-m,⋯⟩
   have hB:Lm (b*wP pX t) n:=by rw [ht];exact hb.mul (bf8 t)
   obtain ⟨c,hc⟩:∃ c,c=a.f n*((b*wP pX t).f n)⁻¹:=⟨_,rfl⟩
   have d':Dg (a-d5 c*(b*wP pX t)).f n:=λk hk=>by
    rw [af4,u8];rcases v0d hk with z | z
    ·have h1:=q0j _ hB.ld
     rw [<- z,hc];generalize ((b*wP pX t).f n)⁻¹=i at *;generalize (b*wP pX t).f n=l at *
     grind
    ·rw [h k ⋯,hB.dg k ⋯];grind
   obtain ⟨q,r,fq,dr,e⟩:=aY2 hb n _ d';exact ⟨q+d5 c*wP pX t,r,fq.add ((t9 _).mul (bf8 t).fn),dr,by grind⟩
def Dv' (a p:Pf):Prop:=∃ q,Fn q/\p=a*q
theorem Dv'.refl (a:Pf):Dv' a a:=⟨1,E3,by grind⟩
theorem Dv'.trans {a b c:Pf} (h:Dv' a b) (k:Dv' b c):Dv' a c:=by
 obtain ⟨q,fq,e⟩:=h;obtain ⟨r,fr,e'⟩:=k;exact ⟨q*r,fq.mul fr,by rw [e',e];grind⟩
theorem Dv'.mulr {a b c:Pf} (fc:Fn c) (h:Dv' a b):Dv' a (b*c):=by
 obtain ⟨q,fq,e⟩:=h;exact ⟨q*c,fq.mul fc,by rw [e];grind⟩
theorem Dv'.add {a b c:Pf} (h:Dv' a b) (k:Dv' a c):Dv' a (b+c):=by
 obtain ⟨q,fq,e⟩:=h;obtain ⟨r,fr,e'⟩:=k;exact ⟨q+r,fq.add fr,by rw [e',e];grind⟩
theorem bez:∀ (n:Nat) (a b:Pf),Fn a->Dg b.f n->∃ g u v,Fn g/\Fn u/\Fn v/\g=u*a+v*b/\Dv' g a/\Dv' g b
 | 0,a,b,fa,h=>⟨a,1,0,fa,E3,L6,by grind,Dv'.refl a,0,L6,Pf.ext λk=>by
   have:a*0=0:=by grind
   rw [this,y2];exact h k (z0m _)⟩
 | n+1,a,b,fa,h=>by
  rcases aE4 ⟨n+1,h⟩ with z | ⟨m,hm⟩
  ·exact bez n a b fa λk _=>by rw [z,y2]
  ·have mn:m<n+1:=Nat.lt_of_not_le λy=>hm.ld (h m y)
   obtain ⟨na,ha⟩:=fa;obtain ⟨q,r,fq,dr,e⟩:=aY2 hm na a ha;obtain ⟨g,u,v,fg,fu,fv,eg,d1,d2⟩:=bez n b r hm.fn λk hk=>dr k ⋯;exact ⟨g,v,u-v*q,fg,fv,fu.sub (fv.mul fq),by rw [eg,e];grind,by rw [e];exact (d1.mulr fq).add d2,d1⟩
def Prm (f:Pf):Prop:=∀ a,Fn a->Cop f a \/ Dv' f a
theorem bn8 {P:Nat->Prop}:∀ n,P n->∃ m,P m/\∀ k,k<m->¬ P k:=λn=>by
 induction n using v0z with
 | ind n ih =>
  intro h
  by_cases z:∃ k,k<n/\P k
  ·obtain ⟨k,hk,pk⟩:=z
   exact ih k hk pk
  ·exact ⟨n,h,λk hk pk=>z ⟨k,hk,pk⟩⟩
theorem bk1 {p:Pf} {n:Nat} (hp:Lm p n) (h1:1<=n):∃ f m,Lm f m/\f.f m=1/\1<=m/\Dv' f p/\Prm f:=by
 obtain ⟨m,⟨m1,f,hf,df⟩,mn⟩:=bn8 (P:=λm=>1<=m/\∃ f,Lm f m/\Dv' f p) n ⟨h1,p,hp,Dv'.refl p⟩
 have prm:Prm f:=λa fa=>by
  obtain ⟨na,ha⟩:=fa;obtain ⟨g,u,v,fg,fu,fv,eg,d1,d2⟩:=bez na f a hf.fn ha;obtain ⟨q,fq,eq⟩:=d1;obtain ⟨d,e,hd,he,de⟩:=K9 fg fq (by rw [<- eq];exact hf)
  rcases y0j d with y | y
  ·subst y
   have c0:=hd.ld;have gc:=lm0 hd;exact .inl (bd7 c0 ⟨u,v,fu,fv,by rw [<- eg];exact gc⟩)
  ·have:¬ d<m:=λz=>mn d z ⟨y,g,hd,(Dv'.trans ⟨q,fq,eq⟩ df)⟩
   have e0:e=0:=⋯;subst e0;have qc:=lm0 he;have qi:=u9 he.ld;obtain ⟨w,fw,ew⟩:=d2;refine .inr ⟨d5 (q.f 0)⁻¹*w,(t9 _).mul fw,?_⟩;rw [ew,eq];generalize d5 (q.f 0)⁻¹=i at *;rw [qc]
   grind
 have li:=u9 hf.ld;have ln:=q0j _ hf.ld;have l0:(f.f m)⁻¹ ≠ 0:=λz=>by rw [z] at ln;grind
 refine ⟨d5 (f.f m)⁻¹*f,m,⟨λk hk=>by rw [u8,hf.dg k hk];grind,?_⟩,?_,m1,?_,λa fa=>?_⟩
 ·rw [u8];grind
 ·rw [u8];grind
 ·obtain ⟨q,fq,e⟩:=df
  exact ⟨d5 (f.f m)*q,(t9 _).mul fq,by rw [e];grind⟩
 ·rcases prm a fa with h | h
  ·exact .inl (h.symm.scale l0).symm
  ·obtain ⟨q,fq,e⟩:=h
   exact .inr ⟨d5 (f.f m)*q,(t9 _).mul fq,by rw [e];grind⟩
theorem bh7 {f a:Pf} {d:Nat} (hf:Lm f d) (h1:1<=d) (c:Cop f a):¬ Dv' f a:=λ⟨q,fq,e⟩=>by
 obtain ⟨u,v,fu,fv,e1⟩:=c;have e2:f*(u+v*q)=1:=by rw [<- e1,e];grind
 have:=hf.zero (fu.add (fv.mul fq)) (by rw [e2];exact λk hk=>by rw [aa6,if_neg ⋯])
 rw [this] at e2;exact as3 af9 (by rw [<- e2];grind)
theorem bm8 {f:Pf} {d:Nat} (hf:Lm f d) (h1:1<=d) (P:Prm f):Cop f (dP f):=by
  rcases P _ hf.fn.d with h | ⟨q,fq,e⟩
  · exact h
  · exfalso
    have dz:Dg (dP f).f d:=λk hk=>by
      show _*f.f (k+1)=0;rw [hf.dg (k+1) ⋯];grind
    have z:=hf.zero fq (by rw [<- e];exact dz)
    have : (dP f).f (d - 1) = 0 := by rw [e, z]; have : f * 0 = 0 := by grind
                                      rw [this,y2]
    have h2:((d-1+1:Nat):Rat)*f.f (d-1+1)=0:=this;rw [show d-1+1=d by omega] at h2
    rcases Rat.mul_eq_zero.mp h2 with y | y
    · have y':((d:Nat):Rat)=((0:Nat):Rat):=y
      have:=Rat.natCast_inj.mp y';omega
    · exact hf.ld y
theorem aN8 {f:Pf} {d:Nat} (hf:Lm f d) (h1:1<=d):∀ n p,Lm p n->∃ m q k,p=wP f m*q/\Lm q k/\¬ Dv' f q/\m*d+k=n:=λn=>by
 induction n using v0z with
 | ind n ih =>
  intro p hp
  by_cases z:Dv' f p
  ·obtain ⟨q,fq,e⟩:=z
   obtain ⟨a,b,ha,hb,ab⟩:=K9 hf.fn fq (by rw [<- e];exact hp)
   have:=P5 ha hf;obtain ⟨m,q',k,e',hk,nd,mk⟩:=ih b ⋯ q hb;exact ⟨m+1,q',k,by rw [e,e'];show f*(wP f m*q')=f*wP f m*q';grind,hk,nd,by rw [u0j,v0s];omega⟩
  ·exact ⟨0,p,n,by show p=1*p;grind,hp,z,⋯⟩
def af8 (f:Pf) (d:Nat):List Rat:=(j0f (d+1)).map f.f
theorem aE3 (f:Pf) (d:Nat):(af8 f d).length=d+1:=by unfold af8;rw [q0m,j0e]
theorem bb7 {f:Pf} {d:Nat} (h:Dg f.f (d+1)):qp (af8 f d)=f:=Pf.ext λk=>by
 show aQ (af8 f d) k=_;unfold aQ af8;rcases z0z k (d+1) with y | y
 ·rw [q0q,j0d y];rfl
 ·rw [q0d (by rw [q0m,j0e];exact y),h k y];rfl
structure N5 (x:List Rat × Nat):Prop where
 len:2<=x.1.length
 ld:(qp x.1).f (x.1.length-1)=1
 m1:1<=x.2
 pr:Prm (qp x.1)
theorem N5.lm {x:List Rat × Nat} (F:N5 x):Lm (qp x.1) (x.1.length-1):=⟨λk hk=>ah7 x.1 k (by have:=F.len;omega),by rw [F.ld];decide⟩
theorem aJ5:∀ {fs:List (Pf × Nat)},(∀ y ∈ fs,Fn y.1)->∀ x ∈ fs,1<=x.2->Dv' x.1 (fP fs)
 | [],_,x,hx,_=>by simp at hx
 | y :: r,h,x,hx,m1=>by
  have fr:Fn (fP r):=by
   have:∀ {r:List (Pf × Nat)},(∀ y ∈ r,Fn y.1)->Fn (fP r):=fun {r}=>by
    induction r with
    | nil=>intro _;exact E3
    | cons y r ih => 
     intro h
     have fw:∀ m,Fn (wP y.1 m):=λm=>by
      induction m with
      | zero=>exact E3
      | succ m ih2=>exact (h y q0h).mul ih2
     exact (fw _).mul (ih λz hz=>h z (q0f _ hz))
   exact this λz hz=>h z (q0f _ hz)
  have fw:∀ m,Fn (wP y.1 m):=λm=>by
   induction m with
   | zero=>exact E3
   | succ m ih2=>exact (h y q0h).mul ih2
  rcases z0t.mp hx with z | z
  ·subst z
   obtain ⟨m,hm⟩:∃ m,x.2=m+1:=⟨x.2-1,⋯⟩;refine ⟨wP x.1 m*fP r,(fw _).mul fr,?_⟩
   show wP x.1 x.2*fP r=_;rw [hm]
   show x.1*wP x.1 m*fP r=_
   grind
  ·obtain ⟨q,fq,e⟩:=aJ5 (fs:=r) (λz hz=>h z (q0f _ hz)) x z m1
   refine ⟨wP y.1 y.2*q,(fw _).mul fq,?_⟩
   show wP y.1 y.2*fP r=_;rw [e];grind
theorem ao9 {f a b:Pf} (h:Cop f a) (d:Dv' b a) (fb:Fn b):Cop f b:=by
 obtain ⟨u,v,fu,fv,e⟩:=h;obtain ⟨q,fq,e'⟩:=d;exact ⟨u,v*q,fu,fv.mul fq,by rw [<- e,e'];grind⟩
theorem dec:∀ n p,Lm p n->∃ (fs:List (List Rat × Nat)) (κ:Rat),κ ≠ 0/\p=d5 κ*fP (pfs fs)/\TF (pfs fs)/\∀ x ∈ fs,N5 x:=λn=>by
 induction n using v0z with
 | ind n ih =>
  intro p hp;rcases y0j n with y | y
  ·subst y
   refine ⟨[],p.f 0,hp.ld,?_,trivial,λx hx=>by simp at hx⟩
   have e:=lm0 hp
   show p=d5 (p.f 0)*1;have:d5 (p.f 0)*1=d5 (p.f 0):=by grind
   rw [this];exact e
  ·obtain ⟨f,d,hf,f1,d1,df,pr⟩:=bk1 hp y
   obtain ⟨m,q,k,e,hq,nd,mk⟩:=aN8 hf d1 n p hp
   have m1:1<=m:=by
    rcases y0j m with z | z
    ·subst z
     have:p=q:=by rw [e];show (1:Pf)*q=q;grind
     rw [this] at df;exact absurd df nd
    ·exact z
   have kn:k<n:=by
    have:1*1<=m*d:=j0c m1 d1;omega
   obtain ⟨fs,κ,k0,eq,tf,ok⟩:=ih k kn q hq
   have cq:Cop f q:=by
    rcases pr q hq.fn with h | h
    ·exact h
    ·exact absurd h nd
   have ql:=bb7 hf.dg;refine ⟨(af8 f d,m) :: fs,κ,k0,?_,⟨?_,?_,λy hy=>?_,tf⟩,λx hx=>?_⟩
   ·show p=d5 κ*(wP (qp (af8 f d)) m*fP (pfs fs))
    rw [ql,e,eq];grind
   ·exact as6 _
   ·show Cop (qp (af8 f d)) (dP (qp (af8 f d)))
    rw [ql];exact bm8 hf d1 pr
   ·show Cop (qp (af8 f d)) y.1
    rw [ql];obtain ⟨z,hz,rfl⟩:=z0y.mp hy;have F:=ok z hz;have dd:=aJ5 tf.fn (qp z.1,z.2) hy F.m1;refine ao9 cq ?_ (as6 _);rw [eq];obtain ⟨w,fw,ew⟩:=dd;exact ⟨d5 κ*w,(t9 _).mul fw,by rw [ew];show _=qp z.1*_;grind⟩
   ·rcases z0t.mp hx with z | z
    ·rw [z]
     refine ⟨by rw [aE3];omega,?_,m1,?_⟩
     ·show (qp (af8 f d)).f ((af8 f d).length-1)=1
      rw [ql,aE3,z0u];exact f1
     ·show Prm (qp (af8 f d))
      rw [ql];exact pr
    ·exact ok x z
theorem aU1:∀ {fs:List (Pf × Nat)},TF fs->∀ T,Fn T->(∀ x ∈ fs,1<=x.2->Dv' x.1 T)->Dv' (aP fs 1) T
 | [],_,T,fT,_=>⟨T,fT,by show T=1*T;grind⟩
 | x :: r,tf,T,fT,h=>by
  obtain ⟨fx,_,cr,tr⟩:=tf;obtain ⟨c,fc,e⟩:=aU1 tr T fT λy hy=>h y (q0f _ hy);unfold aP
  split
  ·rename_i m1
   obtain ⟨u,v,fu,fv,e1⟩:=ap0 fx (fs:=r) tr.fn cr 1;obtain ⟨w,fw,ew⟩:=h x q0h m1;refine ⟨u*c+v*w,(fu.mul fc).add (fv.mul fw),?_⟩;have:T=(u*x.1+v*aP r 1)*T:=by rw [e1];grind
   grind
  ·exact ⟨c,fc,e⟩
theorem ac7 {f a b:Pf} (ff:Fn f) (P:Prm f) (fa:Fn a) (fb:Fn b) (h:Dv' f (a*b)):Dv' f a \/ Dv' f b:=by
 rcases P a fa with y | y
 ·obtain ⟨u,v,fu,fv,e⟩:=y
  obtain ⟨q,fq,eq⟩:=h;refine .inr ⟨u*b+v*q,(fu.mul fb).add (fv.mul fq),?_⟩;have:b=(u*f+v*a)*b:=by rw [e];grind
  grind
 ·exact .inl y
theorem aX8 {A F H:Pf} (fA:Fn A) (fF:Fn F) (fH:Fn H) (A0:A ≠ 0) (h:Dv' A (F*H)):∃ A1 A2,Fn A1/\Fn A2/\A=A1*A2/\Dv' A1 F/\Dv' A2 H:=by
 obtain ⟨nF,hF⟩:=fF;obtain ⟨g,u,v,fg,fu,fv,eg,⟨a',fa',ea⟩,⟨f',ff',ef⟩⟩:=bez nF A F fA hF;obtain ⟨q,fq,eq⟩:=h;have g0:g ≠ 0:=λz=>A0 (by rw [ea,z];grind)
 refine ⟨g,a',fg,fa',ea,⟨f',ff',ef⟩,?_⟩
 -- 1=u a'+v f',f' H=a' q
 have e1:u*a'+v*f'=1:=by
  have z:g*(u*a'+v*f'-1)=0:=by
   have:g=u*(g*a')+v*(g*f'):=by rw [<- ea,<- ef];exact eg
   grind
  rcases an4 fg (((fu.mul fa').add (fv.mul ff')).sub E3) z with y | y
  ·exact absurd y g0
  ·grind
 have e2:f'*H=a'*q:=by
  have z:g*(f'*H-a'*q)=0:=by
   have:g*f'*H=g*a'*q:=by rw [<- ea,<- ef];exact eq
   grind
  rcases an4 fg ((ff'.mul fH).sub (fa'.mul fq)) z with y | y
  ·exact absurd y g0
  ·grind
 exact ⟨u*H+v*q,(fu.mul fH).add (fv.mul fq),by
  have:H=(u*a'+v*f')*H:=by rw [e1];grind
  grind⟩
def sN (z:Nat->Int):Nat->Nat
 | 0=>0
 | n+1=>sN z n+(z n).natAbs
theorem av8 {z:Nat->Int} {n:Nat} (h:∀ k,n<=k->z k=0):∀ m,n<=m->sN z m=sN z n:=λm=>by
 induction m with
 | zero=>intro hm;rw [show n=0 by omega]
 | succ m ih =>
  intro hm;rcases v0d hm with y | y
  ·rw [y]
  ·rw [sN,ih ⋯,h m ⋯];rfl
theorem aT9 (z y:Nat->Int):∀ n,sN (λi=>z i+y i) n<=sN z n+sN y n
 | 0=>q0t _
 | n+1=>by
  have:=aT9 z y n;rw [sN,sN,sN];omega
theorem aT8 (w:Int) (z:Nat->Int):∀ n,sN (λi=>w*z i) n=w.natAbs*sN z n
 | 0=>rfl
 | n+1=>by rw [sN,sN,aT8 w z n,q0x,v0g]
theorem av9 (z:Nat->Int):∀ n,sN z (n+1)=(z 0).natAbs+sN (λi=>z (i+1)) n
 | 0=>by simp [sN]
 | n+1=>by rw [sN,av9 z n,sN];omega
theorem aL3 {z:Nat->Int} {k:Nat}:∀ {n},k<n->(z k).natAbs<=sN z n
 | n+1,h=>by
  rw [sN];rcases v0d (Nat.le_of_lt_succ h) with y | y
  ·rw [y];omega
  ·have:=aL3 (z:=z) y
   omega
theorem aB9 {z:Nat->Int} {d:Nat}:∀ {n},n<=d->sN (λi=>((i+1:Nat):Int)*z (i+1)) n<=d*sN (λi=>z (i+1)) n
 | 0,_=>z0m _
 | n+1,h=>by
  have ih:=aB9 (z:=z) (n:=n) (d:=d) ⋯;rw [sN,sN,q0x,q0r,v0g];have:=z0b (z (n+1)).natAbs h;omega
def NL (X:Nat) (a:Pf):Prop:=∃ (z:Nat->Int) (n:Nat),(∀ k,a.f k=(z k:Rat))/\(∀ k,n<=k->z k=0)/\sN z n<=X
theorem NL.mono {X Y:Nat} {a:Pf} (h:NL X a) (l:X<=Y):NL Y a:=let ⟨z,n,e,f,s⟩:=h;⟨z,n,e,f,z0f s l⟩
theorem NL.zero (X:Nat):NL X 0:=⟨λ_=>0,0,λk=>by rw [y2];rfl,λ_ _=>rfl,z0m _⟩
theorem NL.add {X Y:Nat} {a b:Pf} (h:NL X a) (k:NL Y b):NL (X+Y) (a+b):=by
 obtain ⟨z,n,e,f,s⟩:=h;obtain ⟨y,m,e',f',s'⟩:=k;refine ⟨λi=>z i+y i,max n m,λi=>by rw [af5,e,e',m0f],λi hi=>by show z i+y i=0;rw [f i ⋯,f' i ⋯];rfl,?_⟩
 have h1:=av8 f (max n m) ⋯;have h2:=av8 f' (max n m) ⋯;have:=aT9 z y (max n m);omega
theorem NL.scale {X:Nat} {a:Pf} (w:Int) (h:NL X a):NL (w.natAbs*X) (d5 (w:Rat)*a):=by
 obtain ⟨z,n,e,f,s⟩:=h;refine ⟨λi=>w*z i,n,λi=>by rw [u8,e,q0n],λi hi=>by show w*z i=0;rw [f i hi,g0a],?_⟩
 rw [aT8];exact z0j _ s
theorem NL.shift {X:Nat} {a:Pf} (h:NL X a):NL X (pX*a):=by
 obtain ⟨z,n,e,f,s⟩:=h;refine ⟨λi=>if i=0 then 0 else z (i-1),n+1,λi=>?_,λi hi=>?_,?_⟩
 ·rw [aw9]
  show _=(((if i=0 then 0 else z (i-1)):Int):Rat)
  by_cases y:i=0
  ·rw [if_pos y,if_pos y];rfl
  ·rw [if_neg y,if_neg y,e]
 ·show (if i=0 then 0 else z (i-1))=0
  rw [if_neg ⋯,f _ ⋯]
 ·rw [av9]
  simpa using s
theorem aV1 {Y:Nat} {b:Pf} (k:NL Y b):∀ (n:Nat) (z:Nat->Int) (a:Pf),(∀ k,a.f k=(z k:Rat))->(∀ k,n<=k->z k=0)->NL (sN z n*Y) (a*b)
 | 0,z,a,e,f=>by
  have:a=0:=Pf.ext λk=>by rw [e,f k (z0m _),y2];rfl
  have h:a*b=0:=by rw [this];grind
  rw [h];exact NL.zero _
 | n+1,z,a,e,f=>by
  have h:=aV1 k n (λi=>z (i+1)) ⟨λi=>a.f (i+1)⟩ (λi=>e (i+1)) (λi hi=>f (i+1) ⋯)
  have ea:a=d5 (z 0:Rat)+pX*⟨λi=>a.f (i+1)⟩:=Pf.ext λi=>by
   rw [af5,aw9]
   show a.f i=(if i=0 then (z 0:Rat) else 0)+if i=0 then 0 else a.f (i-1+1)
   by_cases y:i=0
   ·rw [if_pos y,if_pos y,y,e];grind
   ·rw [if_neg y,if_neg y,show i-1+1=i by omega];grind
  have eb:a*b=d5 (z 0:Rat)*b+pX*(⟨λi=>a.f (i+1)⟩*b):=by
   generalize (⟨λi=>a.f (i+1)⟩:Pf)=a' at *;rw [ea];grind
  rw [eb,av9,u0j];exact (k.scale (z 0)).add h.shift
theorem NL.mul {X Y:Nat} {a b:Pf} (h:NL X a) (k:NL Y b):NL (X*Y) (a*b):=by
 obtain ⟨z,n,e,f,s⟩:=h;exact (aV1 k n z a e f).mono (z0b _ s)
theorem NL.d {X d:Nat} {a:Pf} (h:NL X a) (dg:Dg a.f (d+1)):NL (d*X) (dP a):=by
 obtain ⟨z,n,e,f,s⟩:=h;have z0:∀ k,d+1<=k->z k=0:=λk hk=>q0y.mp (by rw [<- e,dg k hk,q0k])
 refine ⟨λi=>((i+1:Nat):Int)*z (i+1),d,λi=>?_,λi hi=>by show _*z (i+1)=0;rw [z0 _ ⋯,g0a],?_⟩
 ·show ((i+1:Nat):Rat)*a.f (i+1)=_
  rw [e,q0n];rfl
 ·refine z0f (aB9 (q0t _)) (z0j _ ?_)
  have h1:=av9 z d;have h2:=av8 z0 (max n (d+1)) ⋯;have h3:=av8 f (max n (d+1)) ⋯;omega
theorem NL.at {X:Nat} {ws:List Int} (h:NL X (zp ws)) (k:Nat):(aZ ws k).natAbs<=X:=by
 obtain ⟨z,n,e,f,s⟩:=h;have ek:aZ ws k=z k:=q0y.mp (e k);rw [ek];rcases z0z k n with y | y
 ·exact z0f (aL3 y) s
 ·rw [f k y];exact z0m _
structure Mz (X:Nat) (a:Pf) (n:Nat) (Z:List Int):Prop where
 tz:k7 Z Z.length
 ln:Z.length=n+1
 gc:i6 Z=1
 ld:0<aZ Z n
 eq:zp Z=d5 (aZ Z n:Rat)*a
 nl:NL X (zp Z)
theorem aM9:∀ (n:Nat) (a:Pf),Dg a.f n->∃ (B:Nat) (z:Nat->Int),0<B/\∀ k,((B:Int):Rat)*a.f k=(z k:Rat)
 | 0,a,h=>⟨1,λ_=>0,by decide,λk=>by rw [h k (z0m _)];show _=(0:Rat);grind⟩
 | n+1,a,h=>by
  obtain ⟨B,z,hB,e⟩:=aM9 n ⟨λk=>if k=n then 0 else a.f k⟩ λk hk=>by
   show (if k=n then 0 else a.f k)=0
   split
   ·rfl
   ·exact h k ⋯
  have dn:(((a.f n).den:Int):Rat)*a.f n=((a.f n).num:Rat):=by
   have h3:(((a.f n).den:Int):Rat) ≠ 0:=n9 (by have:=(a.f n).den_nz;omega)
   have h4:=(z0h (a.f n)).symm;rw [j0j,y0b] at h4;have h5:=q0j _ h3;generalize (((a.f n).den:Int):Rat)=y at *;generalize y⁻¹=z at *;generalize ((a.f n).num:Rat)=m at *
   grind
  refine ⟨B*(a.f n).den,λk=>if k=n then (B:Int)*(a.f n).num else ((a.f n).den:Int)*z k,j0q hB (a.f n).den_pos,λk=>?_⟩;rw [z0s,q0n]
  show _=(((if k=n then (B:Int)*(a.f n).num else ((a.f n).den:Int)*z k):Int):Rat)
  by_cases y:k=n
  ·rw [if_pos y,y,q0n,<- dn];grind
  ·rw [if_neg y,q0n,<- e k]
   show _=_*(_*if k=n then (0:Rat) else a.f k);rw [if_neg y];grind
theorem bf6 {a:Pf} {n:Nat} (h:Lm a n) (m1:a.f n=1):∃ X Z,Mz X a n Z:=by
 obtain ⟨B,z,hB,e⟩:=aM9 _ a h.dg;have Bn:=ap1 hB;have z0:∀ k,n+1<=k->z k=0:=λk hk=>q0y.mp (by rw [<- e,h.dg k hk,q0k];grind)
 obtain ⟨W,hW⟩:∃ W,W=sN z (n+1):=⟨_,rfl⟩
 have ov:OvP B W a:=λk=>⟨z k,by
  have:=e k;have h5:=q0j _ Bn;rw [j0j,y0b];generalize ((B:Int):Rat)=y at *;generalize y⁻¹=x at *
  grind,by
  have:=Nat.lt_two_pow_self (n:=W);rcases z0z k (n+1) with y | y
  ·have:=aL3 (z:=z) y;omega
  ·rw [z0 k y];exact y0k _⟩
 obtain ⟨G,u,tG,lG,gG,ld,_,u0,eG⟩:=aL7 hB ov h.dg (by rw [m1];decide)
 have hu:(aZ G n:Rat)=u:=by
  have:=(congrArg (λy=>Pf.f y n) eG).trans (u8 u a n);rw [m1] at this;have h2:(aZ G n:Rat)=u*1:=this;rw [h2];grind
 exact ⟨_,G,tG,lG,gG,ld,by rw [hu];exact eG,λk=>aZ G k,G.length,λ_=>rfl,λk hk=>by show aZ G k=0;unfold aZ;rw [q0d hk];rfl,q0t _⟩
theorem Mz.uniq {X Y n:Nat} {a:Pf} {Z W:List Int} (h:Mz X a n Z) (k:Mz Y a n W):Z=W:=by
 have hz:(0:Rat)<(aZ Z n:Rat):=y0n.mpr h.ld;have hw:(0:Rat)<(aZ W n:Rat):=y0n.mpr k.ld;have wn:(aZ W n:Rat) ≠ 0:=λz=>by rw [z] at hw;exact absurd hw (by decide)
 have wi:=Rat.inv_pos.mpr hw;refine aD0 h.tz k.tz h.gc k.gc (u:=aZ Z n*(aZ W n:Rat)⁻¹) (q1d hz wi) ?_;rw [h.eq,k.eq,z8];have:=u9 wn
 grind
theorem Mz.mul {X Y m n:Nat} {a b:Pf} {Z W:List Int} (h:Mz X a m Z) (k:Mz Y b n W):∃ V,Mz (X*Y) (a*b) (m+n) V/\zp V=zp Z*zp W/\aZ V (m+n)=aZ Z m*aZ W n:=by
 have e:∀ i,(zp Z*zp W).f i=(sZ (λj=>aZ Z j*aZ W (i-j)) (i+1):Int):=λi=>ae0 (aZ Z) (aZ W) i;have dZ:Dg (zp Z).f (m+1):=by rw [<- h.ln];exact A6 Z
 have dW:Dg (zp W).f (n+1):=by rw [<- k.ln];exact A6 W
 obtain ⟨z,hz⟩:∃ z:Nat->Int,∀ i,z i=sZ (λj=>aZ Z j*aZ W (i-j)) (i+1):=⟨_,λ_=>rfl⟩;have ez:∀ i,(zp Z*zp W).f i=(z i:Rat):=λi=>by rw [hz];exact e i
 have z0:∀ i,m+n+1<=i->z i=0:=λi hi=>q0y.mp (by
  rw [<- ez,q0k];exact Dg.cv dZ dW i ⋯)
 have zt:z (m+n)=aZ Z m*aZ W n:=q0y.mp (by
  rw [<- ez,q0n];exact ab6 dZ dW)
 have zpos:0<z (m+n):=by rw [zt];exact Int.mul_pos h.ld k.ld
 have g:=ad3 z0
 have eV:zp (ltz z (m+n+1))=zp Z*zp W:=Pf.ext λi=>by
  rw [ez]
  show ((aZ _ i:Int):Rat)=_;rw [g]
 have gl:aZ (ltz z (m+n+1)) (m+n)=aZ Z m*aZ W n:=by rw [g,zt]
 refine ⟨ltz z (m+n+1),⟨aI9 z0 ⋯,al2 _ _,?_,by rw [g];exact zpos,?_,?_⟩,eV,gl⟩
 ·have g0:i6 (ltz z (m+n+1)) ≠ 0:=λy=>by
   have hm:z (m+n) ∈ ltz z (m+n+1):=z0y.mpr ⟨_,v0h.mpr ⋯,rfl⟩;have:=r9 hm;rw [y] at this;have:=g0w.mp this;omega
  have dv:=aM5 k.gc (n:=m+1) (i6 (ltz z (m+n+1))) ⋯ (aZ Z) (λi hi=>by unfold aZ;rw [q0d (by rw [h.ln];exact hi)];rfl) λi=>by
   rw [<- hz i];rcases z0z i (m+n+1) with y | y
   ·exact r9 (z0y.mpr ⟨_,v0h.mpr y,rfl⟩)
   ·rw [z0 i y];exact q1b _
  have:i6 (ltz z (m+n+1)) ∣ i6 Z:=J5 Z 0 (y0u _) λv hv=>by
   obtain ⟨i,hi,ei⟩:=j0r hv;have h2:aZ Z i=v:=by unfold aZ;rw [q0c hi,ei];rfl
   rw [<- h2];exact dv i
  rw [h.gc] at this;exact v0t.mp this
 ·rw [eV,gl,q0n,z8,h.eq,k.eq]
  generalize d5 (aZ Z m:Rat)=x;generalize d5 (aZ W n:Rat)=y
  grind
 ·rw [eV];exact h.nl.mul k.nl
theorem bb9 {p:Pf} {n:Nat} (h:Lm p n) {c:Rat} (hc:c ≠ 0):Lm (d5 c*p) n:=⟨λi hi=>by rw [u8,h.dg i hi];grind,by
 rw [u8]
 exact λz=>by
  rcases j0t.mp z with y | y
  ·exact hc y
  ·exact h.ld y⟩
theorem z9 {a c f:Int} {K:Nat} (e:a*c=f) (hc:c ≠ 0) (hf:f.natAbs<=K):a.natAbs<=K:=by
 rw [<- e,q0x] at hf;exact z0f (y0z _ ⋯) hf
theorem bj1 {y0 y1 z0 z1 z2 f1 f2:Int} {K:Nat} (e1:y0*z1+y1*z0=f1) (e2:y0*z2+y1*z1=f2) (h:y0 ≠ 0 \/ y1 ≠ 0) (b1:f1.natAbs<=K) (b2:f2.natAbs<=K) (c0:z0.natAbs<=K) (c2:z2.natAbs<=K):z1.natAbs<=2*K:=by
 have key:∀ {p q r s f:Int},p*s+q*r=f->p.natAbs<=q.natAbs->q ≠ 0->f.natAbs<=K->s.natAbs<=K->r.natAbs<=2*K:=fun {p q r s f} e pq q0 bf bs=>by
  have h1:q*r=f-p*s:=⋯
  have h2:q.natAbs*r.natAbs<=f.natAbs+p.natAbs*s.natAbs:=by
   rw [<- q0x,h1,<- q0x];omega
  have h3:p.natAbs*s.natAbs<=q.natAbs*K:=j0c pq bs;have h4:1*K<=q.natAbs*K:=z0b _ ⋯
  have h5:q.natAbs*r.natAbs<=q.natAbs*(2*K):=by
   rw [show q.natAbs*(2*K)=q.natAbs*K+q.natAbs*K by rw [<- v0g];congr 1;omega]
   omega
  exact Nat.le_of_mul_le_mul_left h5 ⋯
 rcases Nat.le_total y0.natAbs y1.natAbs with z | z
 ·exact key e2 z ⋯ b2 c2
 ·exact key (p:=y1) (q:=y0) (r:=z1) (s:=z0) ⋯ z ⋯ b1 c0
structure FK (K:Nat) (F:Pf):Prop where
 ex:∃ (B:Nat) (f:Nat->Int),0<B/\(∀ k,((B:Int):Rat)*F.f k=(f k:Rat))/\∀ k,(f k).natAbs<=K
 lm:∃ m,m<=3/\Lm F m
theorem aV5 {K n:Nat} {F A:Pf} (hF:FK K F) (hA:Lm A n) (m1:A.f n=1) (d:Dv' A F):∃ Z,Mz (4*K) A n Z:=by
 obtain ⟨B,f,hB,ef,bf⟩:=hF.ex;obtain ⟨m,m3,lm⟩:=hF.lm;obtain ⟨q,fq,eq⟩:=d;obtain ⟨a',b,ha,hb,ab⟩:=K9 hA.fn fq (by rw [<- eq];exact lm)
 have:=P5 ha hA;subst this;obtain ⟨X,Z,M⟩:=bf6 hA m1;have Bn:=ap1 hB;have lp:(aZ Z a':Rat) ≠ 0:=n9 (by have:=M.ld;omega)
 have li:=u9 lp;obtain ⟨c,hc⟩:∃ c,c=d5 (((B:Int):Rat)*(aZ Z a':Rat)⁻¹)*q:=⟨_,rfl⟩
 have ec:c*zp Z=d5 ((B:Int):Rat)*F:=by
  rw [hc,M.eq,eq,z8];generalize d5 (aZ Z a':Rat)⁻¹=i at *;generalize d5 (aZ Z a':Rat)=l at *
  grind
 have cL:Lm c b:=by
  rw [hc]
  exact bb9 hb (λz=>by
   rcases j0t.mp z with y | y
   ·exact Bn y
   ·have:=q0j _ lp
    rw [y] at this;grind)
 have ez:∀ k,(c*zp Z).f k=(f k:Rat):=λk=>by rw [ec,u8,ef]
 obtain ⟨y,ey⟩:=aX0 M.gc cL.dg ez;have yb:y b ≠ 0:=λz=>cL.ld (by rw [ey,z];rfl)
 have y0:∀ k,b<k->y k=0:=λk hk=>q0y.mp (by rw [<- ey,cL.dg k hk,q0k])
 have e:∀ k,sZ (λi=>y i*aZ Z (k-i)) (k+1)=f k:=λk=>q0y.mp (by
  rw [<- ae0,<- ez];have:c=⟨λi=>(y i:Rat)⟩:=Pf.ext ey;rw [this];rfl)
 have zz:∀ k,a'<k->aZ Z k=0:=λk hk=>by unfold aZ;rw [q0d (by rw [M.ln];exact hk)];rfl
 have e0:=e 0;have e1:=e 1;have e2:=e 2;have e3:=e 3;have b0:=bf 0;have b1:=bf 1;have b2:=bf 2;have b3:=bf 3;simp only [sZ,m0y,q1a,Nat.reduceSub,Nat.reduceAdd,Int.zero_add] at e0 e1 e2 e3
 have key:sN (aZ Z) (a'+1)<=4*K:=by
  have hn:a'=0 \/ a'=1 \/ a'=2 \/ a'=3:=⋯;obtain ⟨Y0,hY0⟩:∃ v,v=y 0:=⟨_,rfl⟩;obtain ⟨Y1,hY1⟩:∃ v,v=y 1:=⟨_,rfl⟩;obtain ⟨Y2,hY2⟩:∃ v,v=y 2:=⟨_,rfl⟩;obtain ⟨Y3,hY3⟩:∃ v,v=y 3:=⟨_,rfl⟩;rcases hn with z | z | z | z
  ·subst z
   have q1:=zz 1 ⋯;have q2:=zz 2 ⋯;have q3:=zz 3 ⋯;rw [q1] at e1 e2 e3;rw [q2] at e2 e3;rw [q3] at e3;have hb':b=0 \/ b=1 \/ b=2 \/ b=3:=⋯
   show 0+(aZ Z 0).natAbs<=_
   have:(aZ Z 0).natAbs<=K:=by
    rcases hb' with x | x | x | x <;> subst x
    ·exact z9 (by rw [z0k];exact e0) yb b0
    ·exact z9 (by rw [z0k];simpa using e1) yb b1
    ·exact z9 (by rw [z0k];simpa using e2) yb b2
    ·exact z9 (by rw [z0k];simpa using e3) yb b3
   omega
  ·subst z
   have q2:=zz 2 ⋯;have q3:=zz 3 ⋯;have p3:=y0 3 ⋯;rw [q2] at e2 e3;rw [q3,p3] at e3
   show 0+(aZ Z 0).natAbs+(aZ Z 1).natAbs<=_
   have h1:(aZ Z 1).natAbs<=K:=by
    have hb':b=0 \/ b=1 \/ b=2:=⋯;rcases hb' with x | x | x <;> subst x
    ·rw [y0 1 ⋯] at e1
     exact z9 (by rw [z0k];simpa using e1) yb b1
    ·rw [y0 2 ⋯] at e2
     exact z9 (by rw [z0k];simpa using e2) yb b2
    ·exact z9 (by rw [z0k];simpa using e3) yb b3
   have h0:(aZ Z 0).natAbs<=K:=by
    by_cases c0:y 0=0
    ·rw [c0] at e1 e2
     by_cases c1:y 1=0
     ·rw [c1] at e2
      by_cases c2:y 2=0
      ·exfalso
       have hb':b=0 \/ b=1 \/ b=2:=⋯;rcases hb' with x | x | x <;> subst x
       ·exact yb c0
       ·exact yb c1
       ·exact yb c2
      ·exact z9 (by rw [z0k];simpa using e2) c2 b2
     ·exact z9 (by rw [z0k];simpa using e1) c1 b1
    ·exact z9 (by rw [z0k];exact e0) c0 b0
   omega
  ·subst z
   have q3:=zz 3 ⋯;have p2:=y0 2 ⋯;have p3:=y0 3 ⋯;rw [p2] at e2 e3;rw [q3,p3] at e3
   have nz:y 0 ≠ 0 \/ y 1 ≠ 0:=by
    have hb':b=0 \/ b=1:=⋯;rcases hb' with x | x <;> subst x
    ·exact .inl yb
    ·exact .inr yb
   have h0:(aZ Z 0).natAbs<=K:=by
    by_cases c0:y 0=0
    ·rw [c0] at e1
     exact z9 (by rw [z0k];simpa using e1) (nz.resolve_left λx=>x c0) b1
    ·exact z9 (by rw [z0k];exact e0) c0 b0
   have h2:(aZ Z 2).natAbs<=K:=by
    by_cases c1:y 1=0
    ·rw [c1] at e2
     exact z9 (by rw [z0k];simpa using e2) (nz.resolve_right λx=>x c1) b2
    ·exact z9 (by rw [z0k];simpa using e3) c1 b3
   have h1:=bj1 e1 (show y 0*aZ Z 2+y 1*aZ Z 1=f 2 by simpa using e2) nz b1 b2 h0 h2
   show 0+(aZ Z 0).natAbs+(aZ Z 1).natAbs+(aZ Z 2).natAbs<=_;omega
  ·subst z
   have p1:=y0 1 ⋯;have p2:=y0 2 ⋯;have p3:=y0 3 ⋯;rw [p1] at e1 e2 e3;rw [p2] at e2 e3;rw [p3] at e3;have hb0:b=0:=⋯;subst hb0;have h0:=z9 (a:=aZ Z 0) (by rw [z0k];exact e0) yb b0
   have h1:=z9 (a:=aZ Z 1) (by rw [z0k];simpa using e1) yb b1
   have h2:=z9 (a:=aZ Z 2) (by rw [z0k];simpa using e2) yb b2
   have h3:=z9 (a:=aZ Z 3) (by rw [z0k];simpa using e3) yb b3
   show 0+(aZ Z 0).natAbs+(aZ Z 1).natAbs+(aZ Z 2).natAbs+(aZ Z 3).natAbs<=_;omega
 exact ⟨Z,M.tz,M.ln,M.gc,M.ld,M.eq,aZ Z,a'+1,λ_=>rfl,λk hk=>zz k ⋯,key⟩
def Z4:List Pf->Pf
 | []=>1
 | F :: L=>F*Z4 L
theorem aM6:∀ {L:List Pf},(∀ F ∈ L,Fn F)->Fn (Z4 L)
 | [],_=>E3
 | F :: L,h=>(h F q0h).mul (aM6 λG hG=>h G (q0f _ hG))
theorem ay1 {K:Nat}:∀ {L:List Pf},(∀ F ∈ L,FK K F)->∀ {A:Pf} {n:Nat},Lm A n->A.f n=1->Dv' A (Z4 L)->∃ Z,Mz ((4*K) ^ L.length) A n Z
 | [],_,A,n,hA,m1,d=>by
  obtain ⟨q,fq,e⟩:=d;obtain ⟨a,b,ha,hb,ab⟩:=K9 hA.fn fq (by rw [<- e];exact af9)
  have:=P5 ha hA;have n0:n=0:=⋯;subst n0;obtain ⟨X,Z,M⟩:=bf6 hA m1;refine ⟨Z,M.tz,M.ln,M.gc,M.ld,M.eq,aZ Z,1,λ_=>rfl,λk hk=>by unfold aZ;rw [q0d (by rw [M.ln];exact hk)];rfl,?_⟩
  match Z,M.ln with
  | [v],_ =>
   have g:=M.gc;have:i6 [v]=q0w v 0:=rfl;rw [this] at g
   show 0+v.natAbs<=1
   simp at g
   omega
 | F :: L,h,A,n,hA,m1,d=>by
  have hF:=h F q0h;obtain ⟨m,_,lm⟩:=hF.lm;have fL:=aM6 (L:=L) λG hG=>let ⟨_,_,l⟩:=(h G (q0f _ hG)).lm;l.fn;obtain ⟨A1,A2,f1,f2,e,d1,d2⟩:=aX8 hA.fn lm.fn fL (as3 hA) d;obtain ⟨a,b,ha,hb,ab⟩:=K9 f1 f2 (by rw [<- e];exact hA)
  obtain ⟨c,hc⟩:∃ c,c=A1.f a:=⟨_,rfl⟩;have c0:c ≠ 0:=by rw [hc];exact ha.ld
  have ci:=u9 c0;have cv:=q0j _ c0;have c0':c⁻¹ ≠ 0:=λz=>by rw [z] at cv;grind
  have top:A1.f a*A2.f b=1:=by
   have:=ab6 ha.dg hb.dg;rw [ab] at this;rw [<- this,<- m1,e];rfl
  have e2:A=(d5 c⁻¹*A1)*(d5 c*A2):=by
   rw [e];generalize d5 c⁻¹=i at *
   grind
  obtain ⟨Z1,M1⟩:=aV5 (A:=d5 c⁻¹*A1) hF (bb9 ha c0') (by rw [u8,<- hc];generalize c⁻¹=i at *;grind) (by
   obtain ⟨q,fq,eq⟩:=d1;exact ⟨d5 c*q,(t9 _).mul fq,by rw [eq];generalize d5 c⁻¹=i at *;grind⟩)
  obtain ⟨Z2,M2⟩:=ay1 (L:=L) (λG hG=>h G (q0f _ hG)) (A:=d5 c*A2) (bb9 hb c0) (by rw [u8,hc];exact top) (by
   obtain ⟨q,fq,eq⟩:=d2;exact ⟨d5 c⁻¹*q,(t9 _).mul fq,by rw [eq];generalize d5 c⁻¹=i at *;grind⟩)
  obtain ⟨V,MV,_⟩:=M1.mul M2;rw [<- e2,ab] at MV;refine ⟨V,?_⟩;rw [y0t,v0k,u0x];exact MV
structure Mn (p:Pf) (n:Nat):Prop where
 dg:Dg p.f (n+1)
 ld:p.f n=1
theorem Mn.lm {p:Pf} {n:Nat} (h:Mn p n):Lm p n:=⟨h.dg,by rw [h.ld];decide⟩
theorem U9:Mn 1 0:=⟨af9.dg,by rw [aa6,if_pos rfl]⟩
theorem Mn.mul {p q:Pf} {m n:Nat} (h:Mn p m) (k:Mn q n):Mn (p*q) (m+n):=⟨(h.lm.mul k.lm).dg,by
 show cv _ _ _=1;rw [ab6 h.dg k.dg,h.ld,k.ld];decide +kernel⟩
theorem N5.mn {x:List Rat × Nat} (F:N5 x):Mn (qp x.1) (x.1.length-1):=⟨F.lm.dg,F.ld⟩
theorem an5:∀ {fs:List (List Rat × Nat)},(∀ x ∈ fs,N5 x)->∀ j,Mn (aP (pfs fs) j) (nA fs j)
 | [],_,_=>U9
 | x :: r,h,j=>by
  have ih:=an5 (fs:=r) (λy hy=>h y (q0f _ hy)) j
  show Mn (if j<=x.2 then qp x.1*aP (pfs r) j else aP (pfs r) j) ((if j<=x.2 then x.1.length-1 else 0)+nA r j)
  split
  ·exact (h x q0h).mn.mul ih
  ·rw [y0v];exact ih
theorem ab2:∀ {fs:List (List Rat × Nat)},(∀ x ∈ fs,N5 x)->∀ j,Mn (eP (pfs fs) j) (nE fs j)
 | [],_,_=>U9
 | x :: r,h,j=>by
  have ih:=ab2 (fs:=r) (λy hy=>h y (q0f _ hy)) j
  show Mn (if x.2=j then qp x.1*eP (pfs r) j else eP (pfs r) j) ((if x.2=j then x.1.length-1 else 0)+nE r j)
  split
  ·exact (h x q0h).mn.mul ih
  ·rw [y0v];exact ih
theorem aV9 {p:Pf} {d:Nat} (h:Mn p d):∀ m,Mn (wP p m) (m*d)
 | 0=>by rw [m0z];exact U9
 | m+1=>by
  rw [u0j,v0s,g0s (m*d) d];exact h.mul (aV9 h m)
theorem bj0:∀ {fs:List (List Rat × Nat)},(∀ x ∈ fs,N5 x)->Mn (gP1 (pfs fs)) (nG fs)
 | [],_=>U9
 | x :: r,h=>(aV9 (h x q0h).mn (x.2-1)).mul (bj0 (fs:=r) λy hy=>h y (q0f _ hy))
theorem aE2:∀ {fs:List (List Rat × Nat)},(∀ x ∈ fs,N5 x)->Mn (fP (pfs fs)) (nF fs)
 | [],_=>U9
 | x :: r,h=>(aV9 (h x q0h).mn x.2).mul (aE2 (fs:=r) λy hy=>h y (q0f _ hy))
theorem bl0:∀ {fs:List (List Rat × Nat)},(∀ x ∈ fs,N5 x)->∀ j,Dg (sP (pfs fs) j).f (nA fs j)
 | [],_,_=>λk _=>y2 k
 | x :: r,h,j=>by
  have hr:=λy hy=>h y (q0f x hy);have i1:=bl0 (fs:=r) hr j;have ia:=an5 (fs:=r) hr j;have F:=(h x q0h);have l2:=F.len
  show Dg (if j<=x.2 then d5 ((x.2+1-j:Nat):Rat)*(dP (qp x.1)*aP (pfs r) j)+qp x.1*sP (pfs r) j else sP (pfs r) j).f ((if j<=x.2 then x.1.length-1 else 0)+nA r j)
  split
  ·have d1:Dg (dP (qp x.1)).f (x.1.length-1):=λk hk=>by
    show _*(qp x.1).f (k+1)=0;rw [ah7 x.1 (k+1) ⋯];grind
   intro k hk;have z1:(dP (qp x.1)*aP (pfs r) j).f k=0:=Dg.cv d1 ia.dg k ⋯;have z2:(qp x.1*sP (pfs r) j).f k=0:=Dg.cv (ah7 x.1) i1 k ⋯;rw [af5,u8,z1,z2];grind
  ·rw [y0v];exact i1
theorem bf5:∀ (fs:List (List Rat × Nat)) (j:Nat),j*nE fs j<=nF fs
 | [],_=>q0t _
 | x :: r,j=>by
  have ih:=bf5 r j;unfold nE nF;rw [v0g]
  split
  ·rename_i z;rw [z];omega
  ·omega
def nW:List (List Rat × Nat)->Nat->Nat
 | [],_=>0
 | x :: r,j=>(if j<=x.2 then (x.2+1-j)*(x.1.length-1) else 0)+nW r j
theorem bf4 {j:Nat} (h:1<=j):∀ fs,nW fs j<=nF fs
 | []=>q0t _
 | x :: r=>by
  have ih:=bf4 h r;unfold nW nF
  split
  ·have:(x.2+1-j)*(x.1.length-1)<=x.2*(x.1.length-1):=z0b _ ⋯
   omega
  ·omega
theorem bh1 {X:Nat} {T:Pf} (hyp:∀ A n,Mn A n->Dv' A T->∃ Z,Mz X A n Z) (j:Nat):∀ {fs:List (List Rat × Nat)},(∀ x ∈ fs,N5 x)->∀ {c:Pf} {k:Nat},Mn c k->Dv' (c*aP (pfs fs) j) T->∀ {Z},Mz X (c*aP (pfs fs) j) (k+nA fs j) Z->NL (nW fs j*(X*X)) (d5 (aZ Z (k+nA fs j):Rat)*(c*sP (pfs fs) j))
 | [],_,c,k,hc,hd,Z,M=>by
  have:d5 (aZ Z (k+nA [] j):Rat)*(c*sP (pfs []) j)=0:=by
   show _*(c*0)=(0:Pf);grind
  rw [this];exact NL.zero _
 | x :: r,h,c,k,hc,hd,Z,M=>by
  have hr:=λy hy=>h y (q0f x hy);have F:=(h x q0h).mn;have ia:=an5 (fs:=r) hr j;have ea:aP (pfs (x :: r)) j=if j<=x.2 then qp x.1*aP (pfs r) j else aP (pfs r) j:=rfl;have es:sP (pfs (x :: r)) j=if j<=x.2 then d5 ((x.2+1-j:Nat):Rat)*(dP (qp x.1)*aP (pfs r) j)+qp x.1*sP (pfs r) j else sP (pfs r) j:=rfl;have en:nA (x :: r) j=(if j<=x.2 then x.1.length-1 else 0)+nA r j:=rfl;have ew:nW (x :: r) j=(if j<=x.2 then (x.2+1-j)*(x.1.length-1) else 0)+nW r j:=rfl
  by_cases hj:j<=x.2
  ·rw [if_pos hj] at ea es en ew
   rw [ea,en] at M;rw [ea] at hd;rw [es,en,ew];obtain ⟨d,hdd⟩:∃ d,d=x.1.length-1:=⟨_,rfl⟩;rw [<- hdd] at M F;rw [<- hdd];obtain ⟨f,hf⟩:∃ f,f=qp x.1:=⟨_,rfl⟩;rw [<- hf] at M F hd;rw [<- hf];obtain ⟨a,haa⟩:∃ a,a=aP (pfs r) j:=⟨_,rfl⟩;have q:=hc.mul ia;rw [<- haa] at M hd q;rw [<- haa];have e1:c*(f*a)=f*(c*a):=by grind
   have e2:c*(f*a)=(c*a)*f:=by grind
   obtain ⟨Zf,Mf⟩:=hyp f d F (Dv'.trans ⟨c*a,q.lm.fn,e1⟩ hd);obtain ⟨Zq,Mq⟩:=hyp (c*a) _ q (Dv'.trans ⟨f,F.lm.fn,e2⟩ hd);obtain ⟨V,MV,_,lV⟩:=Mf.mul Mq;have nn:d+(k+nA r j)=k+(d+nA r j):=⋯;rw [<- e1,nn] at MV;have eZ:=M.uniq MV;rw [nn,<- eZ] at lV;have t2:=bh1 hyp j hr (c:=c*f) (k:=k+d) (hc.mul F) (by rw [show c*f*aP (pfs r) j=c*(f*a) by rw [haa];grind];exact hd) (Z:=Z) (by rw [show c*f*aP (pfs r) j=c*(f*a) by rw [haa];grind,show k+d+nA r j=k+(d+nA r j) by omega];exact M)
   rw [show k+d+nA r j=k+(d+nA r j) by omega] at t2
   have dZ:Dg (zp Zf).f (d+1):=by rw [<- Mf.ln];exact A6 Zf
   have t1:=((Mf.nl.d dZ).mul Mq.nl).scale ((x.2+1-j:Nat):Int);rw [q0r,Mf.eq,Mq.eq,bd3] at t1;have:=t1.add t2;rw [show (x.2+1-j)*(d*X*X)+nW r j*(X*X)=((x.2+1-j)*d+nW r j)*(X*X) by rw [u0j,v0a,v0a]] at this
   rw [lV,q0n,z8];rw [lV,q0n,z8] at this;refine Eq.mp (congrArg (NL _) ?_) this;rw [show (((x.2+1-j:Nat):Int):Rat)=((x.2+1-j:Nat):Rat) from rfl];generalize d5 ((x.2+1-j:Nat):Rat)=w;generalize d5 (aZ Zf d:Rat)=u;generalize d5 (aZ Zq (k+nA r j):Rat)=v;generalize sP (pfs r) j=s;generalize dP f=f'
   grind
  ·rw [if_neg hj] at ea es en ew
   rw [y0v] at en ew;rw [ea,en] at M;rw [ea] at hd;rw [es,en,ew];exact bh1 hyp j hr hc hd M
theorem aH9 {B X W:Nat} {a:Pf} (hB:0<B) (h:NL X (d5 ((B:Int):Rat)*a)) (hX:X<2 ^ W):OvP B W a:=λk=>by
 obtain ⟨z,n,e,f,s⟩:=h;have Bn:=ap1 hB;have h5:=q0j _ Bn;refine ⟨z k,?_,?_⟩
 ·have:=e k
  rw [u8] at this;rw [j0j,y0b,<- this];generalize ((B:Int):Rat)=y at *;generalize y⁻¹=x at *
  grind
 ·rcases z0z k n with y | y
  ·exact q0e (z0f (aL3 y) s) hX
  ·rw [f k y];exact y0k _
theorem Mz.nat {X n:Nat} {a:Pf} {Z:List Int} (M:Mz X a n Z):∃ B:Nat,0<B/\aZ Z n=(B:Int)/\B<=X:=by
 have h:=M.ld;refine ⟨(aZ Z n).toNat,⋯,⋯,?_⟩;have:=M.nl.at n;omega
theorem Mz.ov {X n W:Nat} {a:Pf} {Z:List Int} (M:Mz X a n Z) (h:X<2 ^ W):∃ B:Nat,0<B/\B<2 ^ W/\aZ Z n=(B:Int)/\OvP B W a:=by
 obtain ⟨B,hB,e,le⟩:=M.nat;refine ⟨B,hB,⋯,e,aH9 hB ?_ h⟩;have:=M.eq;rw [e] at this;rw [<- this];exact M.nl
theorem bd1 (fs:List (List Rat × Nat)) (h:∀ x ∈ fs,N5 x) (j:Nat):Dv' (eP (pfs fs) j) (aP (pfs fs) j):=⟨_,(an5 h (j+1)).lm.fn,at9 _ _⟩
theorem bd2 (fs:List (List Rat × Nat)) (h:∀ x ∈ fs,N5 x):∀ j,Dv' (aP (pfs fs) (j+1)) (aP (pfs fs) 1)
 | 0=>Dv'.refl _
 | j+1=>Dv'.trans ⟨_,(ab2 h (j+1)).lm.fn,by rw [at9 (pfs fs) (j+1)];grind⟩ (bd2 fs h j)
theorem aY8 {f q:Pf} (ff:Fn f) (fq:Fn q) (h:Cop f q):∀ m,Cop f (wP q m)
 | 0=>ad8 f
 | m+1=>Cop.mul ff fq (by
   have:∀ m,Fn (wP q m):=λm=>by
    induction m with
    | zero=>exact E3
    | succ m ih=>exact fq.mul ih
   exact this m) h (aY8 ff fq h m)
theorem aX2 {q:Pf} (fq:Fn q):∀ m,Fn (wP q m)
 | 0=>E3
 | m+1=>fq.mul (aX2 fq m)
theorem aM7:∀ {fs:List (Pf × Nat)},(∀ x ∈ fs,Fn x.1)->Fn (fP fs)
 | [],_=>E3
 | x :: r,h=>(aX2 (h x q0h) _).mul (aM7 λy hy=>h y (q0f _ hy))
theorem bg2 {q:Pf} (fq:Fn q):∀ {fs:List (Pf × Nat)},(∀ x ∈ fs,Fn x.1)->(∀ x ∈ fs,Cop q x.1)->Cop q (fP fs)
 | [],_,_=>ad8 q
 | x :: r,h,k=>Cop.mul fq (aX2 (h x q0h) _) (aM7 λy hy=>h y (q0f _ hy)) (aY8 fq (h x q0h) (k x q0h) _) (bg2 fq (λy hy=>h y (q0f _ hy)) λy hy=>k y (q0f _ hy))
theorem aL8:∀ {fs:List (Pf × Nat)},TF fs->∀ x ∈ fs,∃ R,Fn R/\fP fs=wP x.1 x.2*R/\Cop x.1 R
 | [],_,x,hx=>by simp at hx
 | y :: r,tf,x,hx=>by
  obtain ⟨fy,_,cr,tr⟩:=tf;rcases z0t.mp hx with z | z
  ·rw [z];exact ⟨fP r,aM7 tr.fn,rfl,bg2 fy tr.fn cr⟩
  ·obtain ⟨R,fR,e,c⟩:=aL8 tr x z
   exact ⟨wP y.1 y.2*R,(aX2 fy _).mul fR,by show wP y.1 y.2*fP r=_;rw [e];grind,Cop.mul (tr.fn x z) (aX2 fy _) fR (aY8 (tr.fn x z) fy (cr x z).symm _) c⟩
theorem bo0:∀ {fs:List (List Rat × Nat)},(∀ x ∈ fs,N5 x)->TF (pfs fs)->∀ {j},∀ T,Fn T->(∀ x ∈ fs,x.2=j->Dv' (qp x.1) T)->Dv' (eP (pfs fs) j) T
 | [],_,_,j,T,fT,_=>⟨T,fT,by show T=1*T;grind⟩
 | x :: r,ok,tf,j,T,fT,h=>by
  have okr:=λy hy=>ok y (q0f x hy);obtain ⟨fx,_,cr,tr⟩:=tf;obtain ⟨c,fc,e⟩:=bo0 okr tr (j:=j) T fT λy hy=>h y (q0f _ hy)
  show Dv' (if x.2=j then qp x.1*eP (pfs r) j else eP (pfs r) j) T
  split
  ·rename_i m1
   obtain ⟨u,v,fu,fv,e1⟩:=ao9 (ap0 fx (fs:=pfs r) tr.fn cr j) (bd1 r okr j) (ab2 okr j).lm.fn;obtain ⟨w,fw,ew⟩:=h x q0h m1;refine ⟨u*c+v*w,(fu.mul fc).add (fv.mul fw),?_⟩
   have:T=(u*qp x.1+v*eP (pfs r) j)*T:=by
    have e1':u*qp x.1+v*eP (pfs r) j=1:=e1;rw [e1'];grind
   grind
  ·exact ⟨c,fc,e⟩
structure J6 (fs:List (List Rat × Nat)):Prop where
 ok:∀ x ∈ fs,N5 x
 tf:TF (pfs fs)
 f13:nF fs<=13
 a7:nA fs 1<=7
 e5:∀ j,1<=j->nE fs j<=5
 dv:∀ A n,Mn A n->Dv' A (fP (pfs fs))->∃ Z,Mz (4096 ^ 6) A n Z
 da:∀ A n,Mn A n->Dv' A (aP (pfs fs) 1)->∃ Z,Mz (4096 ^ 3) A n Z
theorem bg6 {p F1 F2 F3:Pf} {n1 n2 n3:Nat} (h1:FK 1024 F1) (h2:FK 1024 F2) (h3:FK 1024 F3) (l1:Lm F1 n1) (l2:Lm F2 n2) (l3:Lm F3 n3) (m1:n1<=3) (m2:n2<=2) (m3:n3<=2) (hp:p=F1*(F2*F2)*(F3*(F3*F3))):∃ (fs:List (List Rat × Nat)) (κ:Rat),κ ≠ 0/\p=d5 κ*fP (pfs fs)/\J6 fs:=by
 have lp:Lm p (n1+(n2+n2)+(n3+(n3+n3))):=by rw [hp];exact (l1.mul (l2.mul l2)).mul (l3.mul (l3.mul l3))
 obtain ⟨fs,κ,k0,ep,tf,ok⟩:=dec _ p lp;have ki:=u9 k0;have mf:=aE2 ok
 have f13:nF fs<=13:=by
  have:=P5 lp (by rw [ep];exact bb9 mf.lm k0)
  omega
 have ef:fP (pfs fs)=d5 κ⁻¹*p:=by rw [ep];generalize d5 κ⁻¹=i at *;grind
 have dp:∀ A,Dv' A (fP (pfs fs))->Dv' A p:=λA d=>by rw [ep,show d5 κ*fP (pfs fs)=fP (pfs fs)*d5 κ by grind];exact d.mulr (t9 _)
 have dpL:∀ A,Dv' A p->Dv' A (Z4 [F1,F2,F2,F3,F3,F3]):=λA d=>by
  have e:Z4 [F1,F2,F2,F3,F3,F3]=p:=by rw [hp];show F1*(F2*(F2*(F3*(F3*(F3*1)))))=_;grind
  rw [e];exact d
 have dxp:∀ x ∈ fs,Dv' (qp x.1) p:=λx hx=>dp _ (aJ5 tf.fn (qp x.1,x.2) (z0y.mpr ⟨x,hx,rfl⟩) (ok x hx).m1);have f1:=l1.fn;have f2:=l2.fn;have f3:=l3.fn
 have one:∀ x ∈ fs,Dv' (qp x.1) (F1*F2) \/ Dv' (qp x.1) F3:=λx hx=>by
  have P:=(ok x hx).pr;have fx:=as6 x.1;have d:=dxp x hx;rw [hp] at d;have f33:=f3.mul (f3.mul f3);rcases ac7 fx P (f1.mul (f2.mul f2)) f33 d with y | y
  ·rcases ac7 fx P f1 (f2.mul f2) y with z | z
   ·exact .inl (z.mulr f2)
   ·have z2:Dv' (qp x.1) F2:=(ac7 fx P f2 f2 z).elim id id
    exact .inl (by rw [show F1*F2=F2*F1 by grind];exact z2.mulr f1)
  ·refine .inr ?_
   rcases ac7 fx P f3 (f3.mul f3) y with z | z
   ·exact z
   ·exact (ac7 fx P f3 f3 z).elim id id
 have dxT:∀ x ∈ fs,Dv' (qp x.1) (Z4 [F1,F2,F3]):=λx hx=>by
  rw [show Z4 [F1,F2,F3]=F1*F2*F3 by show F1*(F2*(F3*1))=_;grind]
  rcases one x hx with y | y
  ·exact y.mulr f3
  ·rw [show F1*F2*F3=F3*(F1*F2) by grind];exact y.mulr (f1.mul f2)
 have h1':∀ F ∈ [F1,F2,F3],FK 1024 F:=by
  intro F hF;simp only [z0t,List.not_mem_nil,or_false] at hF;rcases hF with z | z | z <;> rw [z] <;> assumption
 have h2':∀ F ∈ [F1,F2,F2,F3,F3,F3],FK 1024 F:=by
  intro F hF;simp only [z0t,List.not_mem_nil,or_false] at hF;rcases hF with z | z | z | z | z | z <;> rw [z] <;> assumption
 have fT:Fn (Z4 [F1,F2,F3]):=f1.mul (f2.mul (f3.mul E3))
 have aT:Dv' (aP (pfs fs) 1) (Z4 [F1,F2,F3]):=aU1 tf _ fT λx hx _=>by
  obtain ⟨y,hy,rfl⟩:=z0y.mp hx;exact dxT y hy
 have a7:nA fs 1<=7:=by
  obtain ⟨q,fq,e⟩:=aT;have lT:Lm (Z4 [F1,F2,F3]) (n1+(n2+(n3+0))):=l1.mul (l2.mul (l3.mul af9));obtain ⟨a,b,ha,hb,ab⟩:=K9 (an5 ok 1).lm.fn fq (by rw [<- e];exact lT)
  have:=P5 ha (an5 ok 1).lm;omega
 refine ⟨fs,κ,k0,ep,ok,tf,f13,a7,λj j1=>?_,λA n hA d=>ay1 h2' hA.lm hA.ld (dpL A (dp A d)),λA n hA d=>ay1 h1' hA.lm hA.ld (d.trans aT)⟩;rcases z0z j 3 with y | y
 ·have dd:∀ x ∈ fs,x.2=j->Dv' (qp x.1) (F1*F2):=λx hx xj=>by
   rcases one x hx with z | z
   ·exact z
   ·exfalso
    obtain ⟨R,fR,e,c⟩:=aL8 tf (qp x.1,x.2) (z0y.mpr ⟨x,hx,rfl⟩);have F:=ok x hx;obtain ⟨q,fq,eq⟩:=z;have c':=c.scale k0;have l2':=F.len;have no:=bh7 F.lm ⋯ c';have fn0:qp x.1 ≠ 0:=as3 F.lm;have fx:=as6 x.1;have hk:d5 κ*(wP (qp x.1) x.2*R)=F1*(F2*F2)*(F3*(F3*F3)):=by rw [<- hp,ep,e]
    rw [eq] at hk;have fk:=t9 κ;rw [xj] at hk;have j12:j=1 \/ j=2:=⋯;rcases j12 with z | z
    ·rw [z] at hk
     have hk':d5 κ*(qp x.1*1*R)=F1*(F2*F2)*(qp x.1*q*(qp x.1*q*(qp x.1*q))):=hk;have z0:qp x.1*(d5 κ*R-qp x.1*(F1*(F2*F2)*(q*(q*(qp x.1*q)))))=0:=by grind
     rcases an4 fx ((fk.mul fR).sub (fx.mul ((f1.mul (f2.mul f2)).mul (fq.mul (fq.mul (fx.mul fq)))))) z0 with w | w
     ·exact fn0 w
     ·exact no ⟨_,(f1.mul (f2.mul f2)).mul (fq.mul (fq.mul (fx.mul fq))),by grind⟩
    ·rw [z] at hk
     have hk':d5 κ*(qp x.1*(qp x.1*1)*R)=F1*(F2*F2)*(qp x.1*q*(qp x.1*q*(qp x.1*q))):=hk;have z0:(qp x.1*qp x.1)*(d5 κ*R-qp x.1*(F1*(F2*F2)*(q*(q*q))))=0:=by grind
     rcases an4 (fx.mul fx) ((fk.mul fR).sub (fx.mul ((f1.mul (f2.mul f2)).mul (fq.mul (fq.mul fq))))) z0 with w | w
     ·exact (an4 fx fx w).elim fn0 fn0
     ·exact no ⟨_,(f1.mul (f2.mul f2)).mul (fq.mul (fq.mul fq)),by grind⟩
  obtain ⟨q,fq,e⟩:=bo0 ok tf (j:=j) _ (f1.mul f2) dd;obtain ⟨a,b,ha,hb,ab⟩:=K9 (ab2 ok j).lm.fn fq (by rw [<- e];exact l1.mul l2)
  have:=P5 ha (ab2 ok j).lm;omega
 ·have:=bf5 fs j
  have:3*nE fs j<=j*nE fs j:=z0b _ y;omega
def bnd (B:Mt) (k i j:Nat):Mt:=λr c=>B (if r=k then i else r) (if c=k then j else c)
def mi (B:Mt) (k i j:Nat):Rat:=dt (k+1) (bnd B k i j)
inductive RwZ (H:Hp):List Addr->List (List Int)->Prop where
 | nil:RwZ H [] []
 | cons {p:Addr} {ps:List Addr} {L:List Int} {Ls:List (List Int)} (h:H p=some (.lst (L.map V.int))) (t:RwZ H ps Ls):RwZ H (p :: ps) (L :: Ls)
def zz (M:List (List Int)) (i j:Nat):Int:=aZ ((M[i]?).getD []) j
structure Eb (n:Nat) (A B:Mt) (at':Nat) (M:List (List Int)) (dv:Int):Prop where
 len:M.length=n
 row:∀ L ∈ M,L.length=n
 ent:∀ i j,at'<=i->i<n->at'<=j->j<n->((zz M i j:Int):Rat)=mi B at' i j
 zer:∀ i j,at'<=i->i<n->j<at'->zz M i j=0
 int:∀ r c,IsI (B r c)
 det:dt n B=dt n A
 led:∀ m,1<=m->m<=at'->dt m B ≠ 0
 div:((dv:Int):Rat)=dt at' B
def Sc (W:Nat) (B:Mt):Prop:=∃ b:Nat->Int,∀ r,0<b r/\(b r).natAbs<2 ^ W/\∀ c,∃ z:Int,((b r:Int):Rat)*B r c=(z:Rat)/\z.natAbs<2 ^ W
def qq (M:List (List Rat)) (i j:Nat):Rat:=aQ ((M[i]?).getD []) j
structure Ld (W n:Nat) (A B:Mt) (sg:Rat) (k:Nat) (M:List (List Rat)) (fd:Rat):Prop where
 len:M.length=n
 row:∀ L ∈ M,L.length=n
 ent:∀ i j,k<=i->i<n->k<=j->j<n->qq M i j*dt k B=mi B k i j
 zer:∀ i j,k<=i->i<n->j<k->qq M i j=0
 sc:Sc W B
 sgn:sg=1 \/ sg=-1
 det:dt n A=sg*dt n B
 led:∀ m,1<=m->m<=k->dt m B ≠ 0
 fnd:fd=sg*dt k B
end R
set_option maxRecDepth 100000
namespace L2
open PySem PySem.Spec PyProof.Rows
end L2
namespace R
open PySem L2 PyProof.Rows
def an9 (n:Nat) (h:n ≠ 0):Rat:=⟨1,n,h,by simp [v0e]⟩
theorem aF0 {n:Nat} (h:n ≠ 0):an9 n h*((n:Int):Rat)=1:=by
 have e:an9 n h=z0a 1 (n:Int):=(z0h (an9 n h)).symm;have nn:((n:Int):Rat) ≠ 0:=n9 ⋯;rw [e,j0j,y0b];have:=q0j _ nn;rw [show ((1:Int):Rat)=1 from rfl];generalize (((n:Int):Rat))⁻¹=x at *
 grind
def eL (fs:List (List Rat × Nat)) (j:Nat):List Rat:=(j0f (nE fs j+1)).map λk=>(eP (pfs fs) j).f k
theorem ag4 (fs:List (List Rat × Nat)) (j:Nat):(eL fs j).length=nE fs j+1:=by unfold eL;rw [q0m,j0e]
theorem aX7 {fs:List (List Rat × Nat)} (h:∀ x ∈ fs,N5 x) (j:Nat):qp (eL fs j)=eP (pfs fs) j:=Pf.ext λk=>by
 show aQ (eL fs j) k=_;unfold aQ eL;rcases z0z k (nE fs j+1) with y | y
 ·rw [q0q,j0d y];rfl
 ·rw [q0d (by rw [q0m,j0e];exact y),(ab2 h j).dg k y];rfl
theorem bo1 {fs:List (List Rat × Nat)} (h:∀ x ∈ fs,N5 x) (j:Nat):x9 (eL fs j) (eL fs j).length:=R1 λx hx=>by
 rw [ag4,z0u] at hx;unfold eL at hx;rw [q0q,j0d ⋯] at hx
 cases hx
 show (eP (pfs fs) j).f (nE fs j) ≠ 0;rw [(ab2 h j).ld];decide
def E8 (fs:List (List Rat × Nat)):Nat->List (List Rat × Nat)
 | 0=>[]
 | j+1=>E8 fs j ++ if nE fs (j+1)=0 then [] else [(eL fs (j+1),j+1)]
inductive G1 (X:Addr->Prop) (H:Hp):List V->List (List Rat × Nat)->Prop where
 | nil:G1 X H [] []
 | cons {p l:Addr} {xs:List V} {L:List Rat} {m:Nat} {vs:List V} {fs:List (List Rat × Nat)} (h:H p=some (.tup [.ref l,.int (m:Int)])) (e:H l=some (.lst xs)) (n:k5 H xs L) (f:X l) (t:G1 X H vs fs):G1 X H (.ref p :: vs) ((L,m) :: fs)
theorem G1.same {X:Addr->Prop} {H H':Hp} (s:d4 H H'):∀ {vs:List V} {fs:List (List Rat × Nat)},G1 X H vs fs->G1 X H' vs fs
 | _,_,.nil=>.nil
 | _,_,.cons h e n f t=>.cons (s _ _ h) (s _ _ e) (n.mono s.tups) f (t.same s)
theorem G1.length {X:Addr->Prop} {H:Hp}:∀ {vs:List V} {fs:List (List Rat × Nat)},G1 X H vs fs->vs.length=fs.length
 | _,_,.nil=>rfl
 | _,_,.cons _ _ _ _ t=>congrArg (· + 1) t.length
theorem G1.snoc {X:Addr->Prop} {H:Hp} {p l:Addr} {xs:List V} {L:List Rat} {m:Nat} (h:H p=some (.tup [.ref l,.int (m:Int)])) (e:H l=some (.lst xs)) (n:k5 H xs L) (f:X l):∀ {vs:List V} {fs:List (List Rat × Nat)},G1 X H vs fs->G1 X H (vs ++ [.ref p]) (fs ++ [(L,m)])
 | _,_,.nil=>.cons h e n f .nil
 | _,_,.cons h' e' n' f' t=>.cons h' e' n' f' (t.snoc h e n f)
theorem G1.over {X:Addr->Prop} {H:Hp} {D:Addr} {ys:List V} {o:HO} (hD:H D=some (.lst ys)) (nD:∀ l,X l->l ≠ D):∀ {vs:List V} {fs:List (List Rat × Nat)},G1 X H vs fs->G1 X (upd H D o) vs fs
 | _,_,.nil=>.nil
 | _,_,.cons h e n f t=>.cons (by rw [i7 (λz=>by rw [z,hD] at h;cases h)];exact h) (by rw [i7 (nD _ f)];exact e) (n.mono (C9.lst hD)) f (t.over hD nD)
theorem al3 (fs:List (List Rat × Nat)):∀ j,(E8 fs j).length<=j
 | 0=>q0t _
 | j+1=>by
  have:=al3 fs j
  show (E8 fs j ++ _).length<=_;rw [j0z]
  split <;> simp <;> omega
theorem aF9 {fs:List (List Rat × Nat)} {j:Nat} (h:nA fs (j+1)=0):∀ m,E8 fs (j+m)=E8 fs j
 | 0=>rfl
 | m+1=>by
  have ih:=aF9 h m
  have z:∀ i,nA fs (j+1+i)=0:=λi=>by
   induction i with
   | zero=>exact h
   | succ i ih2=>have:=aD9 fs (j+1+i);rw [show j+1+(i+1)=j+1+i+1 by omega];omega
  have e:=aD9 fs (j+1+m);have:=z m
  show E8 fs (j+m) ++ _=_;have hz:nE fs (j+m+1)=0:=by rw [show j+m+1=j+1+m by omega];omega
  have hz':nE fs (j.add m+1)=0:=hz;rw [if_pos hz',v0v];exact ih
theorem az0 {R P G:List Int} (e:zp R=zp P*zp G):ExZ R G:=⟨λk=>aZ P k,P.length,λk hk=>by show aZ P k=0;unfold aZ;rw [q0d hk];rfl,λk=>congrArg (λz=>Pf.f z k) e⟩
theorem aw0 {Qz P G:List Int} {n:Nat} (lG:G.length=n+1) (h0:aZ G n ≠ 0) (t1:k7 Qz Qz.length) (t2:k7 P P.length) (e:zp Qz*zp G=zp P*zp G):Qz=P:=by
 have dG:Dg (zp G).f (n+1):=by rw [<- lG];exact A6 G
 have:=aZ2 (f:=zp Qz) (g:=zp P) (m:=max Qz.length P.length) (λk hk=>A6 Qz k ⋯) (λk hk=>A6 P k ⋯) dG (T5 h0) e;exact aS3 t1 t2 λk=>aH0 this k
theorem Spl.cc2 {R Z:List Int} {e a s:Pf} {ne na We Wa Ws bG:Nat} {G P Q:List Int} {m:Rat} (S:Spl R Z e a s ne na We Wa Ws G P Q m) (h1:Wa<=76) (h2:Ws<=76) (h3:We<=bG) (hL:na+1<=8):CC G P Q (2 ^ 76) 81 8 ne bG:=by
 have C:=S.cc (W:=76) (c:=81) (L:=8) h1 h2 hL (by decide) (by decide)
 exact { C with bG:=λk=>q0b (C.bG k) (c5 h3) }
theorem aT4 {fs:List (List Rat × Nat)} (h:∀ x ∈ fs,N5 x) {i:Nat} {G:List Int} {n:Nat} (lG:G.length=nE fs i+1) (eG:∃ u:Rat,0<u/\zp G=d5 u*eP (pfs fs) i) (hn:aZ G (nE fs i)=(n:Int)) (n0:n ≠ 0):scl (an9 n n0) G=eL fs i:=by
 obtain ⟨u,u0,e⟩:=eG;have at':∀ k,zc G k=u*(eP (pfs fs) i).f k:=λk=>(congrArg (λz=>Pf.f z k) e).trans (u8 u _ k)
 have hu:((n:Int):Rat)=u:=by
  have:=at' (nE fs i);rw [(ab2 h i).ld] at this;unfold zc at this;rw [hn] at this;rw [this];grind
 have one:=aF0 n0;rw [hu] at one;refine u0g λk=>?_;unfold scl eL;rw [q0q,q0q];rcases z0z k (nE fs i+1) with y | y
 ·rw [j0d y,q0c ⋯]
  have h1:=at' k;unfold zc aZ at h1;rw [q0c ⋯] at h1
  show some (an9 n n0*((G[k]'⋯:Int):Rat))=some _;have h2:((G[k]'⋯:Int):Rat)=u*(eP (pfs fs) i).f k:=h1;rw [h2]
  congr 1
  generalize an9 n n0=x at *
  grind
 ·rw [q0d ⋯,q0d (by rw [j0e];exact y)];rfl
theorem aV4:∀ (fs:List (List Rat × Nat)) (j:Nat),j*nA fs j<=nF fs
 | [],_=>q0t _
 | x :: r,j=>by
  have ih:=aV4 r j;unfold nA nF;rw [v0g]
  split
  ·rename_i z
   have:j*(x.1.length-1)<=x.2*(x.1.length-1):=z0b _ z;omega
  ·omega
theorem J6.aj {fs:List (List Rat × Nat)} (T:J6 fs):∀ j,nA fs (j+1)<=7
 | 0=>T.a7
 | j+1=>by have:=T.aj j;have:=aD9 fs (j+1);omega
theorem ap2:(4096:Nat) ^ 6<2 ^ 73/\(4096:Nat) ^ 3<2 ^ 37/\13*(4096 ^ 3*4096 ^ 3)<2 ^ 76:=by decide +kernel
theorem J6.gov {fs:List (List Rat × Nat)} (T:J6 fs):∃ B,0<B/\OvP B 73 (gP1 (pfs fs)):=by
 obtain ⟨Z,M⟩:=T.dv _ _ (bj0 T.ok) ⟨_,(an5 T.ok 1).lm.fn,(aX4 (fs:=pfs fs) λx hx=>by
  obtain ⟨y,hy,rfl⟩:=z0y.mp hx;exact (T.ok y hy).m1).1⟩
 obtain ⟨B,hB,_,_,ov⟩:=M.ov ap2.1;exact ⟨B,hB,ov⟩
theorem J6.aov {fs:List (List Rat × Nat)} (T:J6 fs) (j:Nat):∃ B,0<B/\OvP B 37 (aP (pfs fs) (j+1))/\OvP B 76 (sP (pfs fs) (j+1)):=by
 obtain ⟨Z,M⟩:=T.da _ _ (an5 T.ok (j+1)) (bd2 fs T.ok j);obtain ⟨B,hB,_,e,ov⟩:=M.ov ap2.2.1;have e1:∀ p:Pf,1*p=p:=λp=>by grind
 have s:=bh1 T.da (j+1) T.ok (c:=1) (k:=0) U9 (by rw [e1];exact bd2 fs T.ok j) (Z:=Z) (by rw [e1,y0v];exact M)
 rw [e1,y0v,e] at s;refine ⟨B,hB,ov,aH9 hB s (q0e (z0b _ ?_) ap2.2.2)⟩;have:=bf4 (show 1<=j+1 by omega) fs
 have:=T.f13;omega
theorem J6.emz {fs:List (List Rat × Nat)} (T:J6 fs) (j:Nat):∃ Z,Mz (4096 ^ 3) (eP (pfs fs) (j+1)) (nE fs (j+1)) Z:=T.da _ _ (ab2 T.ok (j+1)) ((bd1 fs T.ok (j+1)).trans (bd2 fs T.ok j))
theorem J6.eov {fs:List (List Rat × Nat)} (T:J6 fs) (j:Nat):∃ B,0<B/\OvP B 37 (eP (pfs fs) (j+1)):=by
 obtain ⟨Z,M⟩:=T.emz j;obtain ⟨B,hB,_,_,ov⟩:=M.ov ap2.2.1;exact ⟨B,hB,ov⟩
theorem be5:bg4 81 8 170=true:=by decide +kernel
section
variable {P:Program} {w:World} {K:q0a} {mg:Str->Option Value} {base:Heap}
def aB5 (K:q0a):Sp:=λvs H Q _ => ∃ (a:Addr) (xs:List V) (ps:List Rat),vs=[.ref a]/\SqL K H a xs/\G3 K H xs ps/\ps ≠ []/\(∃ (fs:List (List Rat × Nat)) (κ:Rat),J6 fs/\κ ≠ 0/\qp ps=d5 κ*fP (pfs fs)/\x9 ps ps.length/\ClN 180 ps/\ps.length<=15/\∀ r ts H',d4 H H'->H r=none->H' r=some (.lst ts)->G1 (λl=>H l=none/\l ≠ r) H' ts (E8 fs 13)->Q (.ref r) H')
abbrev ac4:Stmt:=top 27
theorem v2:i8 ["p","wholes","incline","shared","left","along","parts","often","part"] ["p"] (d6 ac4):=by and_intros
theorem aO8 {f f1 f2 f3 f4 f5 f6:Addr} (d:Df K mg "parted" ac4 ["p"] f) (GD_lifted:Def P w K mg base CX0 3 "lifted" f1 ["p"] (ar4 K)) (G_whole_slope:Def P w K mg base CX0 1 "whole_slope" f2 ["wholes"] (aB3 K)) (G_whole_common:Def P w K mg base CX0 4 "whole_common" f3 ["one","other"] (aT0 K)) (G_whole_over:Def P w K mg base CX0 3 "whole_over" f4 ["one","other"] (aK6 K)) (G_whole_less:Def P w K mg base CX0 3 "whole_less" f5 ["one","other"] (aK7 K)) (G_lowered:Def P w K mg base CX0 3 "lowered" f6 ["scale","wholes"] (ar3 K)) (n_len:mg "len" = none):Def P w K mg base CX0 5 "parted" f ["p"] (aB5 K):=by
  have G_lifted:=GD_lifted;refine d.ok (N:=["p","wholes","incline","shared","left","along","parts","often","part"]) v2 (by rintro vs H Q E ⟨_,_,_,h,_⟩;rw [h];rfl) (λcdv A outer s H vs Q E hr h=>?_)
  obtain ⟨a,xs,ps,rfl,hS,hN,pn,kQ⟩:=h;have hu:=hr.units
  refine ⟨_, (c7 (w8 (N0 (J2 (pv 0) (fun _ => rfl))) (c9 aC9) m6)
      (c7 (d9 (i:=1) v2.nd rfl (Or.inl rfl) (k3 k9 (d7 G_lifted hr (b8 (pv 0) b9) e9) c6 (λ_ _=>rfl)))
      (c7 (d9 (i:=2) v2.nd rfl (Or.inl rfl) (d7 G_whole_slope hr (b8 (pv 1) b9) e9))
      (c7 (d9 (i:=3) v2.nd rfl (Or.inl rfl) (d7 G_whole_common hr (b8 (pv 1) (b8 (pv 2) b9)) e9))
      (c7 (d9 (i:=4) v2.nd rfl (Or.inl rfl) (d7 G_whole_over hr (b8 (pv 1) (b8 (pv 3) b9)) e9))
      (c7 (d9 (i:=5) v2.nd rfl (Or.inl rfl) (d7 G_whole_over hr (b8 (pv 2) (b8 (pv 3) b9)) e9))
      (c7 (d9 (i:=6) v2.nd rfl (Or.inl rfl) (z7 b9))
      (c7 (d9 (i:=7) v2.nd rfl (Or.inl rfl) c6)
      (c7 (F7 PassesOwn.never (i9 Z6 (f9 h9 rfl n_len (by decide +kernel) (b8 (pv 4) b9)) c6 (k4 _)) (c7 (aH5 (i:=7) v2.nd rfl (Or.inl rfl) c6 aW5)
      (c7 (d9 (i:=5) v2.nd rfl (Or.inl rfl) (d7 G_whole_less hr (b8 (pv 5) (b8 (d7 G_whole_slope hr (b8 (pv 4) b9) e9) b9)) e9))
      (c7 (d9 (i:=8) v2.nd rfl (Or.inl rfl) (d7 G_whole_common hr (b8 (pv 4) (b8 (pv 5) b9)) e9))
      (c7 (w8 (i9 Z6 (f9 h9 rfl n_len (by decide +kernel) (b8 (pv 8) b9)) c6 (k4 _)) (c9 (ac6 (aU7 PySem.F.plainAttrs_list PySem.F.slot_list_append PySem.F.type_list_append Q6 (pv 6) (b8 (y7 (b8 (d7 G_lowered hr (b8 (y7 (b8 c6 (b8 (k3 r6 (pv 8) (O8 E9 c6) (λ_ _=>rfl)) b9))) (b8 (pv 8) b9)) e9) (b8 (pv 7) b9))) b9)))) m6)
      (c7 (d9 (i:=4) v2.nd rfl (Or.inl rfl) (d7 G_whole_over hr (b8 (pv 4) (b8 (pv 8) b9)) e9))
      (c9 (d9 (i:=5) v2.nd rfl (Or.inl rfl) (d7 G_whole_over hr (b8 (pv 5) (b8 (pv 8) b9)) e9)))))))))
      (c9 (i5 (pv 6)))))))))))),?_⟩
  rw [show start ["p","wholes","incline","shared","left","along","parts","often","part"] [.ref a]=[some (.ref a),none,none,none,none,none,none,none,none] from rfl]
  have lx:=hN.length;refine d8 (λσ H1=>σ=[some (.ref a),none,none,none,none,none,none,none,none]/\H1=H) (λN hN'=>?_) ?_
  · simp! [ap3]
    refine ⟨_,.inl ⟨_,hS,rfl⟩,t7 (λh0=>pn ?_) (λh0=>hN' _ _ ⟨rfl,rfl⟩)⟩
    cases xs with
    | nil=>exact List.eq_nil_of_length_eq_zero lx.symm
    | cons=>cases h0
  rintro σ H1 ⟨rfl,rfl⟩;obtain ⟨fs,κ,T,κ0,eq,tl,cl,l15,k⟩:=kQ;refine d8 (λσ H2 => ∃ lw ws s',σ=[some (.ref a),some (.ref lw),none,none,none,none,none,none,none]/\d4 H1 H2/\H2 lw=some (.lst (ws.map V.int))/\(∀ v ∈ ws,Int.natAbs v<2 ^ 180)/\ws.length=ps.length/\s' ≠ 0/\ps=scl s' ws/\i6 ws=1) (λN hN'=>?_) ?_
  · subst_eqs
    refine ⟨a,xs,ps,rfl,hS,hN,180,cl,by decide,by decide,⋯,tl,λr rs l s' ws H2 s2 fl er ers el bs s0 wb wl e g=>?_⟩
    exact ⟨r,rfl,_,SqT.of er,_,rfl,hN' _ _ ⟨l,ws,s',rfl,s2,el,wb,wl,s0,e,g λz=>pn (List.eq_nil_of_length_eq_zero (by rw [<- wl,z];rfl))⟩⟩
  rintro σ H2 ⟨lw,ws,s',rfl,S2,ew,bw,wl,s0,es,gw⟩;have lps:=List.length_pos_iff.mpr pn;have wn:ws ≠ []:=λz=>by rw [z] at wl;simp at wl;omega
  have tw:k7 ws ws.length:=by
    refine ⟨Nat.le_refl _,λi v hi e=>?_,λhn v e=>?_⟩
    · have:=(List.getElem?_eq_some_iff.mp e).1;omega
    · have h1 : ps[ps.length - 1]? = some (s' * (v : Rat)) := by
        rw [es];unfold scl;rw [List.length_map,List.getElem?_map,e];rfl
      have h2:=tl.last ⋯ _ h1;exact λz=>h2 (by rw [z,Rat.intCast_zero];grind)
  obtain ⟨fg1,fg2⟩:=aX4 (fs:=pfs fs) λx hx=>by
    obtain ⟨y,hy,rfl⟩:=List.mem_map.mp hx;exact (T.ok y hy).m1
  have si:=u9 s0;have sn:s'⁻¹ ≠ 0:=λz=>by have:=Rat.mul_inv_cancel _ s0;rw [z] at this;grind
  obtain ⟨l0,hl0⟩:∃ l0,l0=κ*s'⁻¹:=⟨_,rfl⟩;have l00:l0 ≠ 0:=λz=>by rw [hl0] at z;rcases Rat.mul_eq_zero.mp z with y | y;exact κ0 y;exact sn y
  have ezw:zp ws=d5 l0*(gP1 (pfs fs)*aP (pfs fs) 1):=by
    have h1:d5 s'*zp ws=d5 κ*fP (pfs fs):=by rw [<- eq,es,bh4]
    rw [<- fg1,hl0,z8];generalize d5 s'⁻¹=y at *;generalize d5 s'=x at *;have:zp ws=y*(x*zp ws):=by grind
    rw [this,h1];grind
  have ezi:dP (zp ws)=d5 l0*(gP1 (pfs fs)*sP (pfs fs) 1):=by
    rw [ezw,bd3,<- fg1,fg2]
  have n1:=bf2 (fs:=fs) λx hx=>(T.ok x hx).m1;have f13:=T.f13;have a7:=T.a7;refine d8 (λσ H3 => ∃ li iz,σ=[some (.ref a),some (.ref lw),some (.ref li),none,none,none,none,none,none]/\d4 H1 H3/\H3 lw=some (.lst (ws.map V.int))/\H3 li=some (.lst (iz.map V.int))/\k7 iz iz.length/\iz.length=ws.length-1/\zp iz=dP (zp ws)/\∀ v ∈ iz,Int.natAbs v<2 ^ 185) (λN hN'=>?_) ?_
  · subst_eqs
    refine ⟨lw,ws,rfl,SqL.of ew,λv hv=>Nat.lt_of_lt_of_le (bw v hv) (c5 (by decide)),⋯,tw,λr zs H3 s3 f3 e3 l3 t3 a3 d3=>hN' _ _ ⟨r,zs,rfl,S2.trans s3,s3 _ _ ew,e3,t3,l3,d3,λv hv=>?_⟩⟩
    obtain ⟨k',hk,ek⟩:=List.getElem_of_mem hv;have h2:aZ zs k'=v:=by unfold aZ;rw [List.getElem?_eq_getElem hk,ek];rfl
    rw [<- h2,a3,Int.natAbs_mul,Int.natAbs_natCast,show 185=5+180 from rfl,Nat.pow_add];exact Nat.mul_lt_mul'' ⋯ (aG9 bw _)
  rintro σ H3 ⟨li,iz,rfl,S3,ew3,ei,ti,lii,zi,bi⟩;rw [ezi] at zi;have mG:=bj0 T.ok;have mA:=an5 T.ok 1;have sd:=bl0 T.ok 1;obtain ⟨Bg,hBg,og⟩:=T.gov;obtain ⟨Ba,hBa,oa,so⟩:=T.aov 0;obtain ⟨G,P',Q',m,S⟩:=aS7 ezw gw zi l00 hBg hBa og mG.dg mG.ld oa mA.dg mA.ld so sd;have CCg:=S.cc2 (bG:=170) ⋯ ⋯ ⋯ ⋯;have coP:Cop (zp P') (zp Q'):=by rw [S.eP,S.eQ];exact (aA2 T.tf 1).both S.m0 S.m0
  have bG:∀ v ∈ G,Int.natAbs v<2 ^ 170:=T3 CCg.bG;have lG:=S.lG;have gn:aZ G (nG fs) ≠ 0:=by have:=S.ld;omega
  refine d8 (λσ H4 => ∃ lg,σ=[some (.ref a),some (.ref lw),some (.ref li),some (.ref lg),none,none,none,none,none]/\d4 H3 H4/\H4 lg=some (.lst (G.map V.int))) (λN hN'=>?_) ?_
  · subst_eqs
    exact ⟨lw,li,ws,iz,G,P',Q',_,_,_,_,170,rfl,ew3,ei,CCg,tw,ti,S.eR,S.eZ,coP,S.ld,be5,⋯,λr H4 s4 f4 e4=>hN' _ _ ⟨r,rfl,s4,e4⟩⟩
  rintro σ H4 ⟨lg,rfl,s4,eg⟩;refine d8 (λσ H5 => ∃ ll,σ=[some (.ref a),some (.ref lw),some (.ref li),some (.ref lg),some (.ref ll),none,none,none,none]/\d4 H4 H5/\H5 ll=some (.lst (P'.map V.int))) (λN hN'=>?_) ?_
  · subst_eqs
    refine ⟨lw,lg,ws,G,nG fs,15,180,170,rfl,SqL.of (s4 _ _ ew3),SqL.of eg,⋯,lG,⋯,gn,tw,⋯,bw,bG,by decide,by decide,az0 S.eR,λlq Qz H5 s5 f5 e5 ql qt ez=>?_⟩
    have:=aw0 lG gn qt S.tP (by rw [<- ez];exact S.eR)
    rw [this] at e5;exact hN' _ _ ⟨lq,rfl,s5,e5⟩
  rintro σ H5 ⟨ll,rfl,s5,el⟩;refine d8 (λσ H6 => ∃ la,σ=[some (.ref a),some (.ref lw),some (.ref li),some (.ref lg),some (.ref ll),some (.ref la),none,none,none]/\d4 H5 H6/\H6 la=some (.lst (Q'.map V.int))) (λN hN'=>?_) ?_
  · subst_eqs
    have s45:=s4.trans s5;refine ⟨li,lg,iz,G,nG fs,15,185,170,rfl,SqL.of (s45 _ _ ei),SqL.of (s5 _ _ eg),⋯,lG,⋯,gn,ti,⋯,bi,bG,by decide,by decide,az0 S.eZ,λlq Qz H6 s6 f6 e6 ql qt ez=>?_⟩
    have:=aw0 lG gn qt S.tQ (by rw [<- ez];exact S.eZ)
    rw [this] at e6;exact hN' _ _ ⟨lq,rfl,s6,e6⟩
  rintro σ H6 ⟨la,rfl,s6,eal⟩;refine d8 (λσ H7 => ∃ lp,σ=[some (.ref a),some (.ref lw),some (.ref li),some (.ref lg),some (.ref ll),some (.ref la),some (.ref lp),none,none]/\d4 H6 H7/\H6 lp=none/\H7 lp=some (.lst [])) (λN hN'=>?_) ?_
  · subst_eqs
    exact ⟨by decide,λp hp=>hN' _ _ ⟨p,rfl,d4.new hp _,hp,c8⟩⟩
  rintro σ H7 ⟨lp,rfl,s7,flp,elp⟩;refine d8 (λσ H8=>σ=[some (.ref a),some (.ref lw),some (.ref li),some (.ref lg),some (.ref ll),some (.ref la),some (.ref lp),some (.int 0),none]/\H8=H7) (λN hN'=>?_) ?_
  · subst_eqs
    exact hN' _ _ ⟨rfl,rfl⟩
  rintro σ H8 ⟨rfl,rfl⟩;have S6:=S3.trans (s4.trans (s5.trans s6));have S8:=S6.trans s7;have H1lp:H1 lp=none:=S6.free flp;have llp:ll ≠ lp:=e8 (s6 _ _ el) flp;have lap:la ≠ lp:=e8 eal flp;obtain ⟨J,hJ⟩:∃ J:Nat->L2.St->Hp->Prop,∀ n σ H9,J n σ H9 ↔ ∃ (j:Nat) (ll la:Addr) (lf al:List Int) (l:Rat) (ts:List V) (o8:Option V),σ=[some (.ref a),some (.ref lw),some (.ref li),some (.ref lg),some (.ref ll),some (.ref la),some (.ref lp),some (.int (j:Int)),o8]/\d4 H1 H9/\(H9 ll=some (.lst (lf.map V.int))/\ll ≠ lp)/\(H9 la=some (.lst (al.map V.int))/\la ≠ lp)/\k7 lf lf.length/\k7 al al.length/\zp lf=d5 l*aP (pfs fs) (j+1)/\zp al=d5 l*sP (pfs fs) (j+1)/\i6 lf=1/\l ≠ 0/\lf.length=nA fs (j+1)+1/\al.length<=nA fs (j+1)/\(∀ k,(aZ lf k).natAbs<2 ^ 88)/\(∀ k,(aZ al k).natAbs<2 ^ 88)/\H9 lp=some (.lst ts)/\G1 (λl=>H1 l=none/\l ≠ lp) H9 ts (E8 fs j)/\j<=13/\n=14-j:=⟨_,λ_ _ _=>Iff.rfl⟩;refine d8 (λσ H9 => ∃ n j,nA fs (j+1)=0/\n=14-j/\j<=13/\J n σ H9) (λN hN'=>?_) ?_
  · show aa1 _ _ _ _ _
    refine aK4 J 14 ((hJ _ _ _).mpr ⟨0,ll,la,P',Q',m,[],none,rfl,S8,⟨s7 _ _ (s6 _ _ el),llp⟩,⟨s7 _ _ eal,lap⟩,S.tP,S.tQ,S.eP,S.eQ,S.gP,S.m0,S.lP,S.lQ,λk=>Nat.lt_of_lt_of_le (S.bP k) (c5 ⋯),λk=>Nat.lt_of_lt_of_le (S.bQ k) (c5 ⋯),elp,.nil,by decide,rfl⟩) ?_
    intro n σ H9 hm;obtain ⟨j,ll,la,lf,al,l,ts,o8,rfl,S9,⟨e1,n1'⟩,⟨e2,n2'⟩,t1,t2,z1,z2,g1,l0',len1,len2,b1,b2,ep,pr,j4,rfl⟩:=(hJ _ _ _).mp hm
    subst_eqs
    have aj:=T.aj j;have aj1:=T.aj (j+1);have nle:=aD9 fs (j+1);refine ⟨_,.inl (SqL.of e1),t7 (λhgt=>WhG.mk ?_) (λhgt=>hN' _ _ ⟨_,j,by rw [List.length_map] at hgt;omega,rfl,j4,hm⟩)⟩
    rw [List.length_map] at hgt
    have j3:j<=12:=by
      rcases Nat.lt_or_ge j 13 with y | y
      · omega
      · have h5:=aV4 fs (13+1)
        rw [show j=13 by omega] at len1
        omega
    have ptl:=pr.length;have dl:=al3 fs j;obtain ⟨e,he⟩:∃ e,e=eP (pfs fs) (j+1):=⟨_,rfl⟩;have z1':zp lf=d5 l*(eP (pfs fs) (j+1)*aP (pfs fs) (j+1+1)):=by rw [z1,at9]
    refine d8 (λσ H=>σ=[some (.ref a),some (.ref lw),some (.ref li),some (.ref lg),some (.ref ll),some (.ref la),some (.ref lp),some (.int ((j+1:Nat):Int)),o8]/\H=H9) (λN hN'=>?_) ?_
    · subst_eqs
      exact hN' _ _ ⟨by rw [Int.natCast_add];rfl,rfl⟩
    rintro σ H ⟨rfl,rfl⟩;refine d8 (λσ HA => ∃ lz zz,σ=[some (.ref a),some (.ref lw),some (.ref li),some (.ref lg),some (.ref ll),some (.ref lz),some (.ref lp),some (.int ((j+1:Nat):Int)),o8]/\d4 H HA/\H lz=none/\HA lz=some (.lst (zz.map V.int))/\k7 zz zz.length/\zz.length<=nA fs (j+1)/\zp zz=d5 l*(eP (pfs fs) (j+1)*sP (pfs fs) (j+1+1))/\∀ k,(aZ zz k).natAbs<2 ^ 95) (λN hN'=>?_) ?_
    · subst_eqs
      refine ⟨ll,lf,rfl,SqL.of e1,λv hv=>Nat.lt_of_lt_of_le (T3 b1 v hv) (c5 (by decide)),⋯,t1,λr zs H' s' f' e' l' t' a' d'=>?_⟩
      have bz:∀ k,(aZ zs k).natAbs<2 ^ 94:=λk=>by
        rcases Nat.lt_or_ge k lf.length with y | y
        · rw [a',Int.natAbs_mul,Int.natAbs_natCast,show 94=6+88 from rfl,Nat.pow_add]
          exact Nat.mul_lt_mul'' ⋯ (b1 _)
        · rw [a']
          have:aZ lf (k+1)=0:=by unfold aZ;rw [List.getElem?_eq_none ⋯];rfl
          rw [this,Int.mul_zero];exact Nat.two_pow_pos _
      refine ⟨la,r,al,zs,94,rfl,SqL.of (s' _ _ e2),SqL.of e',⋯,⋯,T3 bz,by decide,λr2 zz H2' s2' f2' e2' tz2 lz2 az2=>?_⟩
      refine hN' _ _ ⟨r2,zz,rfl,s'.trans s2',s'.free f2',e2',tz2,⋯,?_,λk=>?_⟩
      · have hz : zp zz = zp al - zp zs := Pf.ext fun k => by
          rw [af4]
          show zc zz k=zc al k-zc zs k;unfold zc;rw [az2,Rat.intCast_sub]
        rw [hz,d',z1,z2,bd3,<- aT3];grind
      · rw [az2]
        have h1:=b2 k;have h2:=bz k;have h3:(2:Nat) ^ 88<=2 ^ 94:=c5 (by decide)
        have h4:(2:Nat) ^ 95=2*2 ^ 94:=by rw [show 95=94+1 from rfl,Nat.pow_succ,Nat.mul_comm]
        rw [h4];generalize (2:Nat) ^ 94=y at *;generalize (2:Nat) ^ 88=y' at *;omega
    rintro σ HA ⟨lz,zz,rfl,sA,fz',ez,tz',lz',zz',bz'⟩;have mE:=ab2 T.ok (j+1);have mA2:=an5 T.ok (j+1+1);have sd2:=bl0 T.ok (j+1+1);obtain ⟨Be,hBe,oe⟩:=T.eov j;obtain ⟨Ba2,hBa2,oa2,so2⟩:=T.aov (j+1);obtain ⟨G2,P2,Q2,m2,S2'⟩:=aS7 z1' g1 zz' l0' hBe hBa2 oe mE.dg mE.ld oa2 mA2.dg mA2.ld so2 sd2;have CC2:=S2'.cc2 (bG:=170) ⋯ ⋯ ⋯ ⋯;have coP2:Cop (zp P2) (zp Q2):=by rw [S2'.eP,S2'.eQ];exact (aA2 T.tf (j+1+1)).both S2'.m0 S2'.m0
    have bG2:∀ v ∈ G2,Int.natAbs v<2 ^ 170:=T3 CC2.bG;have lG2:=S2'.lG;have gn2:aZ G2 (nE fs (j+1)) ≠ 0:=by have:=S2'.ld;omega
    have lzp:lz ≠ lp:=(e8 ep fz').symm;refine d8 (λσ HB => ∃ lpt,σ=[some (.ref a),some (.ref lw),some (.ref li),some (.ref lg),some (.ref ll),some (.ref lz),some (.ref lp),some (.int ((j+1:Nat):Int)),some (.ref lpt)]/\d4 HA HB/\HA lpt=none/\HB lpt=some (.lst (G2.map V.int))) (λN hN'=>?_) ?_
    · subst_eqs
      exact ⟨ll,lz,lf,zz,G2,P2,Q2,_,_,_,_,170,rfl,sA _ _ e1,ez,CC2,t1,tz',S2'.eR,S2'.eZ,coP2,S2'.ld,be5,⋯,λr HB sB fB eB=>hN' _ _ ⟨r,rfl,sB,fB,eB⟩⟩
    rintro σ HB ⟨lpt,rfl,sB,fB,eB⟩;have SB:=sA.trans sB;have lptp:lpt ≠ lp:=(e8 (sA _ _ ep) fB).symm;refine d8 (λσ HC => ∃ ts',σ=[some (.ref a),some (.ref lw),some (.ref li),some (.ref lg),some (.ref ll),some (.ref lz),some (.ref lp),some (.int ((j+1:Nat):Int)),some (.ref lpt)]/\d4 H1 HC/\HC ll=some (.lst (lf.map V.int))/\HC lz=some (.lst (zz.map V.int))/\HC lpt=some (.lst (G2.map V.int))/\HC lp=some (.lst ts')/\G1 (λl=>H1 l=none/\l ≠ lp) HC ts' (E8 fs (j+1))) (λN hN'=>?_) ?_
    · have lastv : (G2.map V.int)[(G2.map V.int).length - 1]? = some (.int (aZ G2 (nE fs (j + 1)))) := by
        rw [List.length_map,lG2,Nat.add_sub_cancel,List.getElem?_map,List.getElem?_eq_getElem ⋯];unfold aZ;rw [List.getElem?_eq_getElem ⋯];rfl
      have pB:=pr.same SB
      subst_eqs
      refine ⟨_,.inl (SqL.of eB),t7 (λhgt2=>?_) (λhgt2=>?_)⟩
      · rw [List.length_map] at hgt2
        obtain ⟨nl,hnl⟩:∃ n:Nat,aZ G2 (nE fs (j+1))=(n:Int):=⟨(aZ G2 (nE fs (j+1))).toNat,by have:=S2'.ld;omega⟩
        have nl0:nl ≠ 0:=by have:=S2'.ld;omega
        have nlb:nl<2 ^ 170:=by have:=CC2.bG (nE fs (j+1));rw [hnl,Int.natAbs_natCast] at this;exact this
        have eLL:scl (an9 nl nl0) G2=eL fs (j+1):=aT4 T.ok lG2 S2'.eG hnl nl0;refine ⟨.inl ⟨_,SqL.of (SB _ _ ep)⟩,_,SqL.of eB,_,R8 lastv,y3,λp hp=>?_⟩;have X1:=d4.new hp (.tup [.int 1,.int (aZ G2 (nE fs (j+1)))]);have g1':upd HB p (.tup [.int 1,.int (aZ G2 (nE fs (j+1)))]) p=some (.tup (v7 (an9 nl nl0))):=by rw [c8,hnl];rfl
        refine ⟨_,an9 nl nl0,lpt,G2,rfl,⟨p,rfl,SqT.of g1'⟩,SqL.of (X1 _ _ eB),Nat.lt_of_lt_of_le (show (an9 nl nl0).den<2 ^ 170 from nlb) (c5 (by decide)),Nat.lt_of_lt_of_le (show (1:Int).natAbs<2 ^ 1 by decide) (c5 (by decide)),λv hv=>Nat.lt_of_lt_of_le (bG2 v hv) (c5 (by decide)),⋯,λr xs' H' s' f' e' nu=>⟨y3,λp2 hp2=>?_⟩⟩
        have X2:=d4.new hp2 (.tup [.ref r,.int ((j+1:Nat):Int)]);have g2':upd H' p2 (.tup [.ref r,.int ((j+1:Nat):Int)]) p2=some (.tup [.ref r,.int ((j+1:Nat):Int)]):=c8;have SX:=SB.trans (X1.trans (s'.trans X2));have er':=X2 _ _ e';have nu':=nu.mono X2.tups;have ep':=SX _ _ ep;have rlp:r ≠ lp:=(e8 ((SB.trans X1) _ _ ep) f').symm;have H1r:H1 r=none:=S9.free (SB.free (X1.free f'));have gl1:=SX _ _ e1;have gl2:=(sB.trans (X1.trans (s'.trans X2))) _ _ ez;have gl3:=(X1.trans (s'.trans X2)) _ _ eB;have p2lp:p2 ≠ lp:=(e8 ((SB.trans (X1.trans s')) _ _ ep) hp2).symm;have pX:=pr.same SX;have SN:=S9.trans SX;generalize upd H' p2 (.tup [.ref r,.int ((j+1:Nat):Int)])=HX at *;refine ⟨ts,ep',ay4 ⋯,hN' _ _ ⟨ts ++ [.ref p2],rfl,SN.over H1lp _,by rw [i7 n1'];exact gl1,by rw [i7 lzp];exact gl2,by rw [i7 lptp];exact gl3,c8,?_⟩⟩
        show G1 _ _ _ (E8 fs j ++ _);rw [if_neg ⋯,<- eLL];exact G1.snoc (by rw [i7 p2lp];exact g2') (by rw [i7 rlp];exact er') (nu'.mono (C9.lst ep')) ⟨H1r,rlp⟩ (pX.over ep' λl hl=>hl.2)
      · rw [List.length_map] at hgt2
        refine hN' _ _ ⟨ts,rfl,S9.trans SB,SB _ _ e1,sB _ _ ez,eB,SB _ _ ep,?_⟩
        show G1 _ _ _ (E8 fs j ++ _);rw [if_pos ⋯,List.append_nil];exact pB
    rintro σ HC ⟨ts',rfl,SC,c1,c2,c3,c4,prC⟩;refine d8 (λσ HD => ∃ ll2,σ=[some (.ref a),some (.ref lw),some (.ref li),some (.ref lg),some (.ref ll2),some (.ref lz),some (.ref lp),some (.int ((j+1:Nat):Int)),some (.ref lpt)]/\d4 HC HD/\HC ll2=none/\HD ll2=some (.lst (P2.map V.int))) (λN hN'=>?_) ?_
    · subst_eqs
      refine ⟨ll,lpt,lf,G2,nE fs (j+1),15,88,170,rfl,SqL.of c1,SqL.of c3,⋯,lG2,⋯,gn2,t1,⋯,T3 b1,bG2,by decide,by decide,az0 S2'.eR,λlq Qz H5 s5 f5 e5 ql qt ez=>?_⟩
      have:=aw0 lG2 gn2 qt S2'.tP (by rw [<- ez];exact S2'.eR)
      rw [this] at e5;exact hN' _ _ ⟨lq,rfl,s5,f5,e5⟩
    rintro σ HD ⟨ll2,rfl,sD,fD,eD⟩
    subst_eqs
    refine ⟨lz,lpt,zz,G2,nE fs (j+1),15,95,170,rfl,SqL.of (sD _ _ c2),SqL.of (sD _ _ c3),⋯,lG2,⋯,gn2,tz',⋯,T3 bz',bG2,by decide,by decide,az0 S2'.eZ,λlq Qz HE sE fE eE ql qt ez=>?_⟩
    have:=aw0 lG2 gn2 qt S2'.tQ (by rw [<- ez];exact S2'.eZ)
    rw [this] at eE;have SDE:=sD.trans sE;exact WgN.mk (m':=14-(j+1)) ⋯ ((hJ _ _ _).mpr ⟨j+1,ll2,lq,P2,Q2,m2,ts',_,rfl,SC.trans SDE,⟨sE _ _ eD,(e8 c4 fD).symm⟩,⟨eE,(e8 (sD _ _ c4) fE).symm⟩,S2'.tP,S2'.tQ,S2'.eP,S2'.eQ,S2'.gP,S2'.m0,S2'.lP,S2'.lQ,λk=>Nat.lt_of_lt_of_le (S2'.bP k) (c5 ⋯),λk=>Nat.lt_of_lt_of_le (S2'.bQ k) (c5 ⋯),SDE _ _ c4,prC.same SDE,⋯,rfl⟩)
  rintro σ H9 ⟨n,j,nz,hn,jj4,h⟩;obtain ⟨j',ll,la,lf,al,l,ts,o8,rfl,S9,_,_,_,_,_,_,_,_,_,_,_,_,ep,pr,j4,hn'⟩:=(hJ _ _ _).mp h
  subst_eqs
  have jj:j'=j:=⋯;rw [jj] at pr;have ds:=aF9 nz (13-j);rw [show j+(13-j)=13 by omega] at ds
  rw [<- ds] at pr;exact k lp ts H9 S9 H1lp ep pr
abbrev R5:Stmt:=top 31
theorem J0:i8 ["_law_top","_law_bottom","_law_one","_law_other_here"] ["_law_top","_law_bottom"] (d6 R5):=by and_intros
theorem aD5 {f:Addr} (d:Df K mg "_law_low" R5 ["_law_top","_law_bottom"] f) (n_abs:mg "abs" = none):Def P w K mg base CX0 1 "_law_low" f ["_law_top","_law_bottom"] ah5:=by
  refine d.ok (N:=["_law_top","_law_bottom","_law_one","_law_other_here"]) J0 (λvs H Q E ⟨a,b,h,_⟩=>by rw [h];rfl) (λcdv A outer s H vs Q E hr h=>?_)
  obtain ⟨t,b,rfl,hb0,hb,k⟩:=h
  refine ⟨_, (c7 (d9 (i := 2) J0.nd rfl (Or.inl rfl) (f9 Q8 rfl n_abs (by decide +kernel) (b8 (pv 0) b9)))
      (c7 (d9 (i:=3) J0.nd rfl (Or.inl rfl) (f9 Q8 rfl n_abs (by decide +kernel) (b8 (pv 1) b9)))
      (c7 (F7 PassesOwn.never (i9 Z6 (pv 3) c6 (k4 _)) (c9 (aa5 (i:=2) (j:=3) rfl J0.nd rfl rfl (by decide) rfl rfl (b8 (pv 3) (b8 (f8 D7 (pv 2) (pv 3)) b9)) rfl)))
      (c7 (w8 (i9 am8 (pv 1) c6 (k4 _)) (c9 (d9 (i:=2) J0.nd rfl (Or.inl rfl) (f8 R7 c6 (pv 2)))) m6)
      (c9 (i5 (y7 (b8 (f8 z5 (pv 0) (pv 2)) (b8 (f8 z5 (pv 1) (pv 2)) b9))))))))),?_⟩
  rw [show start ["_law_top","_law_bottom","_law_one","_law_other_here"] [.int t,.int b]=[some (.int t),some (.int b),none,none] from rfl]
  subst_eqs
  refine aA5 (λσ H1=>H1=H/\∃ x y:Int,σ=[some (.int t),some (.int b),some (.int x),some (.int y)]/\0<=x/\0<=y/\Int.gcd x y=Int.gcd t b) (λσ _=>match σ with | [_,_,_,some (.int y)]=>y.natAbs | _=>0)
    ⟨rfl,_,_,rfl,by split <;> omega,by split <;> omega,?_⟩ ?_ ?_
  · have e1:(if t<0 then -t else t)=(t.natAbs:Int):=by split <;> omega
    have e2:(if b<0 then -b else b)=(b.natAbs:Int):=by split <;> omega
    rw [e1,e2,Int.gcd_eq_natAbs_gcd_natAbs,Int.gcd_eq_natAbs_gcd_natAbs];simp
  · rintro σ H1 ⟨rfl,x,y,rfl,hx,hy,hg⟩
    subst_eqs
    split
    · rename_i hy0
      exact ⟨⋯,hy,Int.fmod_nonneg_of_pos x hy0,by rw [aF4];exact hg,U8 x ⋯⟩
    · rename_i hy0
      have hy':y=0:=⋯;subst hy'
      have ex:x=(Int.gcd t b:Int):=by
        rw [Int.gcd_zero_right] at hg;omega
      have gp:=L4 (t:=t) hb0;have gl:=aJ3 (a:=t) hb0 hb
      by_cases hs:b<0
      · rw [if_pos hs]
        obtain ⟨e1,e2⟩:=ay3 (t:=t) (g:=0-x) hb0 (by rw [if_pos hs,ex];omega)
        have dv:∀ i,au2 i (0-x):=λi=>P3 ⋯ (by rw [show 0-x=-x by omega,Int.natAbs_neg,ex];exact O9 gl)
        refine ⟨dv _,dv _,y3,λr hr'=>?_⟩;exact k r _ (d4.new hr' _) (by rw [c8];unfold v7;rw [e1,e2])
      · rw [if_neg hs]
        obtain ⟨e1,e2⟩:=ay3 (t:=t) (g:=x) hb0 (by rw [if_neg hs,ex])
        have dv:∀ i,au2 i x:=λi=>P3 ⋯ (by rw [ex];exact O9 gl)
        refine ⟨dv _,dv _,y3,λr hr'=>?_⟩;exact k r _ (d4.new hr' _) (by rw [c8];unfold v7;rw [e1,e2])
  · intro σ H1 Q1 Q2 hQ h
    simp only [ipM,aC5,aC1,M0,D8,ah1,aF1,aC3,ah3,tSl,ag8,N6,aC2,aC4,O7,ai3,G0,List.map_cons,List.map_nil,Option.bind_none,Option.bind_some,Option.join_some,au4,aA9,aB1,tOr,aA7,Y9,tB,tOp,tUn,au8,tBM,K1,tC,tCB,au5,ap5,m9,aF5,N3,p9,N4,P6,aj0,au6,aA6,aA8,tIf,ah4,ag9,au7,ah2,ah0,U1,aB0,ipI,rI,rI0,rU,O6,aq2,aC6,ah6,rEq,rNe,aC7,aC8,ai1,ai0,ai2,ab5,Cx.nox,Cx.wish,List.getElem?_cons_zero,List.getElem?_cons_succ,List.set_cons_zero,List.set_cons_succ,Option.some.injEq,V.int.injEq,V.bl.injEq,V.ref.injEq,V.str.injEq,exists_eq_left',exists_eq_left,exists_and_left,true_and,and_true,List.cons.injEq,reduceCtorEq,Bool.false_eq_true,if_false,if_true,exists_const,↓reduceIte,tyV,List.length_cons,List.length_nil,exists_eq,List.append_nil,List.cons_append,List.nil_append,decide_eq_true_eq,not_true_eq_false,not_false_eq_true,Bool.not_eq_true',decide_eq_false_iff_not,Bool.not_true,Bool.not_false,and_assoc,false_and,false_or,or_false] at h ⊢;obtain ⟨v,e1,i,e2,e3⟩:=h;exact ⟨v,e1,i,e2,hQ _ _ e3⟩
abbrev R4:Stmt:=top 29
theorem E5:i8 ["_law_script","_law_at","_law_cell","_law_prime","_law_great"] ["_law_script","_law_at"] (d6 R4):=by and_intros
theorem aD4 {f:Addr} (d:Df K mg "_law_urn" R4 ["_law_script","_law_at"] f) (n_len:mg "len" = none) (n_abs:mg "abs" = none):Def P w K mg base CX0 1 "_law_urn" f ["_law_script","_law_at"] (be8 K):=by
 refine d.ok (N:=["_law_script","_law_at","_law_cell","_law_prime","_law_great"]) E5 (λvs H Q E ⟨x,y,p,h,_⟩=>by rw [h];rfl) (λcdv A outer s H vs Q E hr h=>?_)
 obtain ⟨a,ns,i,rfl,hS,h0,h64,k⟩:=h
 refine ⟨_,(c7 (d9 (i:=2) E5.nd rfl (z0r rfl) c6)
   (c7 (w8 (i9 am8 (pv 1) (f9 h9 rfl n_len (by decide +kernel) (b8 (pv 0) b9)) (k4 _)) (c9 (d9 (i:=2) E5.nd rfl (z0r rfl) (k3 r6 (pv 0) (pv 1) (λ_ _=>rfl)))) m6)
   (c7 (d9 (i:=3) E5.nd rfl (z0r rfl) (k3 k9 (y7 (b8 c6 (b8 c6 (b8 c6 (b8 c6 (b8 c6 (b8 c6 (b8 c6 (b8 c6 b9))))))))) (f8 D7 (pv 1) c6) (λ_ _=>rfl)))
   (c7 (d9 (i:=4) E5.nd rfl (z0r rfl) c6)
   (c7 (w8 (i9 aU8 (f9 Q8 rfl n_abs (by decide +kernel) (b8 (pv 2) b9)) (f8 U6 c6 c6) (k4 _)) (c9 (d9 (i:=4) E5.nd rfl (z0r rfl) (f9 Q8 rfl n_abs (by decide +kernel) (b8 (pv 2) b9)))) m6)
   (c9 (i5 (z7 (b8 (pv 4) (b8 (f8 D7 (f8 U6 (f8 F8 (f8 F8 (f8 D7 (pv 2) (pv 3)) (f8 m8 c6 (pv 1))) c6) c6) (pv 3)) (b8 (pv 3) b9))))))))))),?_⟩
 rw [show start ["_law_script","_law_at","_law_cell","_law_prime","_law_great"] [.ref a,.int i]=[some (.ref a),some (.int i),none,none,none] from rfl]
 refine d8 (λσ H1=>H1=H/\σ=[some (.ref a),some (.int i),some (.int 0),none,none]) (λN hN=>?_) ?_
 ·subst_eqs
  exact hN _ _ ⟨rfl,rfl⟩
 rintro σ H1 ⟨rfl,rfl⟩;refine d8 (λσ H2=>H2=H1/\∃ c:Int,σ=[some (.ref a),some (.int i),some (.int c),none,none]) (λN hN=>?_) ?_
 ·subst_eqs
  refine ⟨_,.inl hS,t7 (λhl=>?_) (λ_=>hN _ _ ⟨rfl,_,rfl⟩)⟩;obtain ⟨c,hc⟩:=aR0 (ns:=ns) h0 (by simpa using hl)
  exact ⟨_,hS,_,hc,hN _ _ ⟨rfl,c,rfl⟩⟩
 rintro σ H2 ⟨rfl,c,rfl⟩;obtain ⟨pr,hpr,p1,p2⟩:=aU4 h0;refine d8 (λσ H3=>d4 H2 H3/\σ=[some (.ref a),some (.int i),some (.int c),some (.int pr),none]) (λN hN=>?_) ?_
 ·subst_eqs
  exact ⟨by decide,λp hp=>⟨by decide,_,SqT.of c8,_,hpr,hN _ _ ⟨d4.new hp _,rfl⟩⟩⟩
 rintro σ H3 ⟨s1,rfl⟩;refine d8 (λσ H4=>H4=H3/\σ=[some (.ref a),some (.int i),some (.int c),some (.int pr),some (.int 0)]) (λN hN=>?_) ?_
 ·subst_eqs
  exact hN _ _ ⟨rfl,rfl⟩
 rintro σ H4 ⟨rfl,rfl⟩;refine d8 (λσ H5=>H5=H4/\∃ g:Int,0<=g/\σ=[some (.ref a),some (.int i),some (.int c),some (.int pr),some (.int g)]) (λN hN=>?_) ?_
 ·subst_eqs
  exact ⟨⟨by decide,by decide,by decide⟩,t7 (λ_=>hN _ _ ⟨rfl,_,by split <;> omega,rfl⟩) (λ_=>hN _ _ ⟨rfl,_,Int.le_refl _,rfl⟩)⟩
 rintro σ H5 ⟨rfl,g,hg,rfl⟩
 subst_eqs
 have m0:=y0g c (show 0<pr by omega)
 have m1:=v0b c (show 0<pr by omega)
 refine ⟨⋯,bi8 (by decide),⟨by decide,by decide,⋯⟩,⋯,by decide,λr hr'=>?_⟩
 refine k r _ (s1.trans (d4.new hr' _)) (s1.free hr') ⟨g,_,pr,c8,hg,y0g _ ⋯,?_,⋯,⋯⟩;have:=v0b ((c.fmod pr+65537*i+101) ^ (3:Int).toNat) (show 0<pr by omega)
 omega
abbrev O5:Stmt:=top 30
theorem ac3:i8 ["_law_urn_here","_law_many","_law_drawn"] ["_law_urn_here","_law_many"] (d6 O5):=by and_intros
theorem ax9 {f:Addr} (d:Df K mg "_law_draw" O5 ["_law_urn_here","_law_many"] f):Def P w K mg base CX0 1 "_law_draw" f ["_law_urn_here","_law_many"] M8:=by
  refine d.ok (N:=["_law_urn_here","_law_many","_law_drawn"]) ac3 (λvs H Q E ⟨x,y,h,_⟩=>by rw [h];rfl) (λcdv A outer s H vs Q E hr h=>?_)
  obtain ⟨u,n,rfl,⟨g,m,p,hu,g0,m0,m1,p0,p1⟩,n0,n1,k⟩:=h
  refine ⟨_, (c7 (w8 (i9 Z6 (k3 r6 (pv 0) c6 (fun _ _ => rfl)) c6 (k4 _)) (c7 (d9 (i := 2) ac3.nd rfl (Or.inl rfl) (f8 D7 (k3 r6 (pv 0) c6 (fun _ _ => rfl)) (pv 1)))
      (c7 (af3 (f8 z5 (k3 r6 (pv 0) c6 (λ_ _=>rfl)) (pv 1)) (aw6 (pv 0) c6 P7))
      (c9 (i5 (pv 2))))) m6)
      (c7 (af3 (f8 D7 (f8 F8 (f8 m8 (k3 r6 (pv 0) c6 (λ_ _=>rfl)) c6) c6) (k3 r6 (pv 0) c6 (λ_ _=>rfl))) (aw6 (pv 0) c6 P7))
      (c9 (i5 (f8 D7 (f8 z5 (f8 D7 (f8 U6 (f8 z5 (k3 r6 (pv 0) c6 (λ_ _=>rfl)) c6) c6) c6) c6) (pv 1)))))),?_⟩
  rw [show start ["_law_urn_here","_law_many","_law_drawn"] [.ref u,.int n]=[some (.ref u),some (.int n),none] from rfl]
  have L1:SqL K H u [.int g,.int m,.int p]:=SqL.of hu;have x0:∀ g m p:Int,atI [V.int g,.int m,.int p] 0=some (.int g):=λ_ _ _=>rfl;have x1:∀ g m p:Int,atI [V.int g,.int m,.int p] 1=some (.int m):=λ_ _ _=>rfl;have x2:∀ g m p:Int,atI [V.int g,.int m,.int p] 2=some (.int p):=λ_ _ _=>rfl
  subst_eqs
  have dn:∀ i,au2 i n:=λi=>P3 ⋯ (Nat.lt_of_lt_of_le (show n.natAbs<2 ^ 40 by omega) (c5 (by decide)))
  refine ⟨_,L1,_,x0 g m p,_,rfl,t7 (λhg=>?_) (λhg=>?_)⟩
  · refine ⟨_,L1,_,x0 g m p,_,rfl,⋯,_,L1,_,x0 g m p,_,rfl,dn _,_,hu,0,rfl,?_⟩
    exact k _ _ (Int.fmod_nonneg_of_pos _ n0) (Int.fmod_lt_of_pos _ n0) (q8.upd _ _ _) ⟨g.fdiv n,m,p,c8,Int.fdiv_nonneg g0 ⋯,m0,m1,p0,p1⟩
  · have q0:=Int.fmod_nonneg_of_pos (m*60013+12289) p0
    have q1:=Int.fmod_lt_of_pos (m*60013+12289) p0;have z:SqL K (upd H u (.lst [.int g,.int ((m*60013+12289).fmod p),.int p])) u [.int g,.int ((m*60013+12289).fmod p),.int p]:=SqL.of c8
    have d16:0<=((m*60013+12289).fmod p).fdiv 16/\((m*60013+12289).fmod p).fdiv 16<2 ^ 40:=by
      rw [Int.fdiv_eq_ediv_of_nonneg _ (by decide)]
      omega
    refine ⟨_,L1,_,x1 g m p,_,rfl,aE1 (by decide),_,L1,_,x2 g m p,_,rfl,⋯,_,hu,1,rfl,_,z,_,x1 _ _ _,_,rfl,P3 (by decide) (Nat.lt_of_lt_of_le (show (16:Int).natAbs<2 ^ 40 by decide) (c5 (by decide))),⟨by decide,by decide,⋯⟩,by decide,P3 (by decide) (Nat.lt_of_lt_of_le (show (8:Int).natAbs<2 ^ 40 by decide) (c5 (by decide))),⋯,?_⟩
    exact k _ _ (Int.fmod_nonneg_of_pos _ n0) (Int.fmod_lt_of_pos _ n0) (q8.upd _ _ _) ⟨g,_,p,c8,g0,q0,⋯,p0,p1⟩
abbrev O4:Stmt:=top 36
theorem av7:i8 ["_law_urn_here"] ["_law_urn_here"] (d6 O4):=by and_intros
theorem ax8 {f fd:Addr} (d:Df K mg "_law_kind" O4 ["_law_urn_here"] f) (G__law_draw:Def P w K mg base CX0 1 "_law_draw" fd ["_law_urn_here","_law_many"] M8):Def P w K mg base CX0 2 "_law_kind" f ["_law_urn_here"] aT2:=by
 refine d.ok (N:=["_law_urn_here"]) av7 (λvs H Q E ⟨u,h,_⟩=>by rw [h];rfl) (λcdv A outer s H vs Q E hr h=>?_)
 obtain ⟨u,rfl,hu,k⟩:=h;refine ⟨_,(c9 (i5 (k3 r6 (z7 (b8 c6 (b8 c6 (b8 c6 (b8 c6 (b8 c6 (b8 c6 (b8 c6 (b8 c6 b9))))))))) (d7 G__law_draw hr (b8 (pv 0) (b8 c6 b9)) e9) (λ_ _=>rfl)))),?_⟩;rw [show start ["_law_urn_here"] [.ref u]=[some (.ref u)] from rfl]
 simp! [M8]
 refine ⟨by decide,λl hl=>⟨W0 hu hl,by decide,by decide,λr H' r0 r1 sx hu'=>?_⟩⟩
 have e:=sx l _ c8 (al5 hu hl);have sx':q8 u H H':=q8.trans (d4.x (d4.new hl _) u) sx;have h3:r=0 \/ r=1 \/ r=2 \/ r=3 \/ r=4 \/ r=5 \/ r=6 \/ r=7:=⋯;rcases h3 with h | h | h | h | h | h | h | h <;> subst h <;> exact ⟨_,SqL.of e,_,rfl,k _ H' (by decide) sx' hu'⟩
abbrev G8:Stmt:=top 37
theorem U4:i8 ["_law_urn_here","_law_kind_here","_law_top"] ["_law_urn_here","_law_kind_here"] (d6 G8):=by and_intros
abbrev K6:Stmt:=top 43
theorem aq0:i8 ["_law_thing"] ["_law_thing"] (d6 K6):=by and_intros
theorem aq6 {f:Addr} (d:Df K mg "_law_whole" K6 ["_law_thing"] f) (n_isinstance:mg "isinstance" = none) (n_int:mg "int" = none) (n_bool:mg "bool" = none):Def P w K mg base CX0 1 "_law_whole" f ["_law_thing"] W4:=by
 refine d.ok (N:=["_law_thing"]) aq0 (λvs H Q E ⟨u,h,_⟩=>by rw [h];rfl) (λcdv A outer s H vs Q E hr h=>?_)
 obtain ⟨i,rfl,k⟩:=h;refine ⟨_,(c9 (i5 (aw8 (f9 E6 rfl n_isinstance (by decide +kernel) (b8 (pv 0) (b8 (X3 (v:=.ty "int") rfl n_int (by decide +kernel) rfl) b9))) (aH6 (bi2 (f9 E6 rfl n_isinstance (by decide +kernel) (b8 (pv 0) (b8 (X3 (v:=.ty "bool") rfl n_bool (by decide +kernel) rfl) b9)))))))),?_⟩
 rw [show start ["_law_thing"] [.int i]=[some (.int i)] from rfl]
 subst_eqs
 exact ⟨trivial,_,.of (.int i),_,aE8,bp9 ⟨trivial,_,.of (.int i),_,ay5,k⟩⟩
abbrev B9:Stmt:=top 44
theorem ac2:i8 ["_law_thing"] ["_law_thing"] (d6 B9):=by and_intros
theorem ad0 {f fw fl : Addr} (d : Df K mg "_law_is_number" B9 ["_law_thing"] f) (G__law_whole : Def P w K mg base CX0 1 "_law_whole" fw ["_law_thing"] W4) (G__law_low : Def P w K mg base CX0 1 "_law_low" fl ["_law_top", "_law_bottom"] ah5) (n_isinstance : mg "isinstance" = none) (n_tuple : mg "tuple" = none) (n_len : mg "len" = none) :
    Def P w K mg base CX0 2 "_law_is_number" f ["_law_thing"] (aL0 K):=by
  refine d.ok (N:=["_law_thing"]) ac2 (λvs H Q E ⟨u,q,h,_⟩=>by rw [h];rfl) (λcdv A outer s H vs Q E hr h=>?_)
  obtain ⟨x,q,rfl,⟨ap,rfl,hS⟩,hd,k⟩:=h;have hu:=hr.units
  refine ⟨_, (c7 (w8 (PW.pt (Q3 (N0 (R6 (f9 E6 rfl n_isinstance (by decide +kernel) (b8 (pv 0) (b8 (X3 (v := .ty "tuple") rfl n_tuple (by decide +kernel) rfl) b9))))) (Q3 (i9 bf1 (f9 h9 rfl n_len (by decide +kernel) (b8 (pv 0) b9)) c6 (k4 _)) (Q3 (N0 (R6 (d7 G__law_whole hr (b8 (k3 k9 (pv 0) c6 (fun _ _ => rfl)) b9) e9))) (af2 (N0 (R6 (d7 G__law_whole hr (b8 (k3 k9 (pv 0) c6 (fun _ _ => rfl)) b9) e9)))))))) (c9 (i5 U5)) m6)
      (c9 (i5 (aw8 (al0 Z6 (k3 k9 (pv 0) c6 (λ_ _=>rfl)) c6 (k4 _)) (aH6 (al0 (ax0 hu) (d7 G__law_low hr (b8 (k3 k9 (pv 0) c6 (λ_ _=>rfl)) (b8 (k3 k9 (pv 0) c6 (λ_ _=>rfl)) b9)) e9) (pv 0) (k4 _))))))),?_⟩
  rw [show start ["_law_thing"] [.ref ap]=[some (.ref ap)] from rfl]
  have dq:=n8 q;simp only [ipM,aC5,aC1,M0,D8,ah1,aF1,aC3,ah3,tSl,ag8,N6,aC2,aC4,O7,ai3,G0,List.map_cons,List.map_nil,Option.bind_none,Option.bind_some,Option.join_some,au4,aA9,aB1,tOr,aA7,Y9,tB,tOp,tUn,au8,tBM,K1,tC,tCB,au5,ap5,m9,aF5,N3,p9,N4,P6,aj0,au6,aA6,aA8,tIf,ah4,ag9,au7,ah2,ah0,U1,aB0,ipI,rI,rI0,rU,O6,aq2,aC6,ah6,rEq,rNe,aC7,aC8,ai1,ai0,ai2,ab5,Cx.nox,Cx.wish,List.getElem?_cons_zero,List.getElem?_cons_succ,List.set_cons_zero,List.set_cons_succ,Option.some.injEq,V.int.injEq,V.bl.injEq,V.ref.injEq,V.str.injEq,exists_eq_left',exists_eq_left,exists_and_left,true_and,and_true,List.cons.injEq,reduceCtorEq,Bool.false_eq_true,if_false,if_true,exists_const,↓reduceIte,tyV,List.length_cons,List.length_nil,exists_eq,List.append_nil,List.cons_append,List.nil_append,decide_eq_true_eq,not_true_eq_false,not_false_eq_true,Bool.not_eq_true',decide_eq_false_iff_not,Bool.not_true,Bool.not_false,and_assoc,false_and,false_or,or_false,W4,aO3];refine ⟨trivial,_,.sqt hS,_,aE7,?_⟩;simp only [ipM,aC5,aC1,M0,D8,ah1,aF1,aC3,ah3,tSl,ag8,N6,aC2,aC4,O7,ai3,G0,List.map_cons,List.map_nil,Option.bind_none,Option.bind_some,Option.join_some,au4,aA9,aB1,tOr,aA7,Y9,tB,tOp,tUn,au8,tBM,K1,tC,tCB,au5,ap5,m9,aF5,N3,p9,N4,P6,aj0,au6,aA6,aA8,tIf,ah4,ag9,au7,ah2,ah0,U1,aB0,ipI,rI,rI0,rU,O6,aq2,aC6,ah6,rEq,rNe,aC7,aC8,ai1,ai0,ai2,ab5,Cx.nox,Cx.wish,List.getElem?_cons_zero,List.getElem?_cons_succ,List.set_cons_zero,List.set_cons_succ,Option.some.injEq,V.int.injEq,V.bl.injEq,V.ref.injEq,V.str.injEq,exists_eq_left',exists_eq_left,exists_and_left,true_and,and_true,List.cons.injEq,reduceCtorEq,Bool.false_eq_true,if_false,if_true,exists_const,↓reduceIte,tyV,List.length_cons,List.length_nil,exists_eq,List.append_nil,List.cons_append,List.nil_append,decide_eq_true_eq,not_true_eq_false,not_false_eq_true,Bool.not_eq_true',decide_eq_false_iff_not,Bool.not_true,Bool.not_false,and_assoc,false_and,false_or,or_false,W4,aO3];refine ⟨_,.inr hS,?_⟩;simp only [ipM,aC5,aC1,M0,D8,ah1,aF1,aC3,ah3,tSl,ag8,N6,aC2,aC4,O7,ai3,G0,List.map_cons,List.map_nil,Option.bind_none,Option.bind_some,Option.join_some,au4,aA9,aB1,tOr,aA7,Y9,tB,tOp,tUn,au8,tBM,K1,tC,tCB,au5,ap5,m9,aF5,N3,p9,N4,P6,aj0,au6,aA6,aA8,tIf,ah4,ag9,au7,ah2,ah0,U1,aB0,ipI,rI,rI0,rU,O6,aq2,aC6,ah6,rEq,rNe,aC7,aC8,ai1,ai0,ai2,ab5,Cx.nox,Cx.wish,List.getElem?_cons_zero,List.getElem?_cons_succ,List.set_cons_zero,List.set_cons_succ,Option.some.injEq,V.int.injEq,V.bl.injEq,V.ref.injEq,V.str.injEq,exists_eq_left',exists_eq_left,exists_and_left,true_and,and_true,List.cons.injEq,reduceCtorEq,Bool.false_eq_true,if_false,if_true,exists_const,↓reduceIte,tyV,List.length_cons,List.length_nil,exists_eq,List.append_nil,List.cons_append,List.nil_append,decide_eq_true_eq,not_true_eq_false,not_false_eq_true,Bool.not_eq_true',decide_eq_false_iff_not,Bool.not_true,Bool.not_false,and_assoc,false_and,false_or,or_false,W4,aO3,v7];refine t7 (λhh=>absurd rfl hh) (λ_=>?_);refine ⟨_,hS,_,at0 q,_,rfl,_,hS,_,at1 q,_,rfl,_,hS,_,at1 q,_,rfl,?_⟩;rw [if_pos dq];refine ⟨_,hS,_,at0 q,_,hS,_,at1 q,_,_,rfl,⋯,hd,λr H' sm hr'=>?_⟩
  rw [Rat.num_divInt_den] at hr';refine ⟨J9 q,J9 q,rfl,ad4 (SqT.of hr'),ad4 (sm.tup hS),ay0 q q,aY1 q,?_⟩;rw [az1];exact k H' sm
def spOther:Sp:=λvs H Q _ => ∃ u kd,vs=[.ref u,.int kd]/\t6 H u/\∀ r q H',Sm q->q ≠ 0->q8 u H H'->t6 H' u->H' r=some (.tup (v7 q))->Q (.ref r) H'
abbrev K8:Stmt:=top 38
theorem Z3:i8 ["_law_urn_here","_law_kind_here","_law_found"] ["_law_urn_here","_law_kind_here"] (d6 K8):=by and_intros
def ae7 (K:q0a):Sp:=λvs H Q _ => ∃ a xs qs,vs=[.ref a]/\SqL K H a xs/\k5 H xs qs/\∀ m r H',x9 qs m->d4 H H'->H r=none->H' r=some (.lst (xs.take m))->Q (.ref r) H'
abbrev O0:Stmt:=top 39
theorem ac1:i8 ["_law_numbers","_law_found"] ["_law_numbers"] (d6 O0):=by and_intros
theorem bc2 {α:Type} {xs:List α} {x:α} (h:xs[xs.length-1]? = some x):atI xs (-1)=some x:=by
 have hp:xs.length-1<xs.length:=(q0s.mp h).1
 have e:ixN xs.length (-1)=some (xs.length-1):=by
  unfold ixN;rw [if_neg (by decide)]
  rw [if_pos ⋯]
  congr 1
  omega
 unfold atI;rw [e];exact h
theorem ax2 {f:Addr} (d:Df K mg "_law_trim" O0 ["_law_numbers"] f) (n_list:mg "list" = none):Def P w K mg base CX0 1 "_law_trim" f ["_law_numbers"] (ae7 K):=by
  refine d.ok (N:=["_law_numbers","_law_found"]) ac1 (λvs H Q E ⟨a,xs,qs,h,_⟩=>by rw [h];rfl) (λcdv A outer s H vs Q E hr h=>?_)
  obtain ⟨a,xs,qs,rfl,hS,hN,k⟩:=h;have hu:=hr.units
  refine ⟨_, (c7 (d9 (i := 1) ac1.nd rfl (Or.inl rfl) (C1 x8 rfl n_list (by decide +kernel) (b8 (pv 0) b9)))
      (c7 (F7 PassesOwn.never (PW.pt (aw1 (i9 (U7 hu) (pv 1) (z7 b9) (k4 _)) (ak8 (i9 ac8 (k3 k9 (k3 r6 (pv 1) (O8 E9 c6) (λ_ _=>rfl)) c6 (λ_ _=>rfl)) c6 (k4 _))))) (c9 (ac6 (aa7 PySem.F.plainAttrs_list PySem.F.slot_list_pop PySem.F.type_list_pop bi9 (pv 1)))))
      (c9 (i5 (pv 1))))),?_⟩
  rw [show start ["_law_numbers","_law_found"] [.ref a]=[some (.ref a),none] from rfl]
  subst_eqs
  refine ⟨_,.inl hS,λl hl=>?_⟩
  refine U0 (λσ H1=>σ=[some (.ref a),some (.ref l)]/\∃ m,m<=qs.length/\(∀ (i:Nat) (q:Rat),m<=i->qs[i]? = some q->q=0)/\d4 H H1/\H1 l=some (.lst (xs.take m))) (λσ H1=>match H1 l with | some (.lst ys)=>ys.length | _=>0)
    ⟨rfl,qs.length,Nat.le_refl _,λi q hi e=>?_,d4.new hl _,?_⟩ ?_
  · rw [List.getElem?_eq_none hi] at e;cases e
  · rw [c8,<- hN.length,List.take_length]
  · rintro σ H1 ⟨rfl,m,hm,hz,sm,e1⟩
    have hml:(xs.take m).length=m:=by rw [List.length_take,hN.length];omega
    subst_eqs
    refine ⟨by decide,λp hp=>?_⟩
    have n1:k5 H1 (xs.take m) (qs.take m):=(hN.mono sm.tups).take m;have pl:p ≠ l:=(e8 e1 hp).symm;have e2:upd H1 p (.lst []) l=some (.lst (xs.take m)):=by rw [i7 pl.symm];exact e1
    have n2:k5 (upd H1 p (.lst [])) (xs.take m) (qs.take m):=n1.mono (C9.new hp);refine ⟨x6 (qs.take m),x6 [],rfl,p7 (SqL.of e2) n2,p7 (SqL.of c8) .nil,F9 _ _,Nat.le_trans (G9 _) (by decide),?_⟩
    rw [C7]
    by_cases h0:m=0
    · subst h0
      simp only [List.take_zero,decide_true,Bool.not_true,Bool.false_eq_true,if_false];refine ⟨false,rfl,t7 (λh=>absurd h (by decide)) λ_=>k 0 l _ ⟨Nat.zero_le _,hz,λh=>absurd rfl h⟩ (sm.trans (d4.new hp _)) hl ?_⟩
      rw [e2]
    · have hlt:m-1<qs.length:=⋯
      have hne:qs.take m ≠ []:=λz=>by
        have:=congrArg List.length z;rw [List.length_take,List.length_nil] at this;omega
      simp only [hne,decide_false,Bool.not_false];obtain ⟨pv,hv,hpv⟩:=n2.get (i:=m-1) (q:=qs[m-1]) (by rw [List.getElem?_take_of_lt ⋯];exact List.getElem?_eq_getElem hlt)
      refine ⟨true,rfl,t7 (λ_=>?_) (λh=>absurd rfl h)⟩;refine ⟨_,SqL.of e2,_,bc2 (by rw [hml];exact hv),_,rfl,_,SqT.of hpv,_,at0 _,rfl,?_⟩
      refine t7 (λhn=>?_) (λhn=>?_)
      · have hn':qs[m-1].num=0:=V.int.inj hn
        refine WhB.mk ?_
        subst_eqs
        refine ⟨.inl ⟨_,SqL.of e2⟩,_,e2,_,by rw [hml];exact hv,WhN.mk ⟨rfl,m-1,⋯,λi q hi e=>?_,(sm.trans (d4.new hp _)).over hl _,?_⟩ ?_⟩
        · by_cases hi':i=m-1
          · subst hi'
            rw [List.getElem?_eq_getElem hlt] at e
            cases e
            exact Q4.mp hn'
          · exact hz i q ⋯ e
        · rw [c8,List.dropLast_eq_take,hml,List.take_take,Nat.min_eq_left ⋯]
        · rw [c8]
          simp only [e1,List.length_dropLast];omega
      · have hn':qs[m-1] ≠ 0:=λz=>hn (by rw [z];rfl)
        exact k m l _ ⟨hm,hz,λ_ q e=>by rw [List.getElem?_eq_getElem hlt] at e;cases e;exact hn'⟩ (sm.trans (d4.new hp _)) hl e2
def spDrawnPoly:Sp:=λvs H Q _ => ∃ u kd most,vs=[.ref u,.int kd,.int most]/\t6 H u/\0<=most/\most<1000/\∀ r xs qs q H',q8 u H H'->t6 H' u->H r=none->H' r=some (.lst xs)->k5 H' xs (qs ++ [q])->(∀ p ∈ qs,Sm p)->Sm q->q ≠ 0->(qs.length:Int)<=most->Q (.ref r) H'
abbrev w5:Stmt:=top 42
theorem aa4:i8 ["_law_urn_here","_law_kind_here","_law_most"] ["_law_urn_here","_law_kind_here","_law_most"] (d6 w5):=by and_intros
def aB6 (K:q0a):Sp:=λvs H Q _ => ∃ a xs qs,vs=[.ref a]/\H a=some (.lst xs)/\k5 H xs qs/\(∀ p ∈ qs,p.den<2 ^ 6000)/\xs.length<1000/\x9 qs qs.length/\∀ H',d4 H H'->Q (.bl true) H'
abbrev B4:Stmt:=top 45
theorem aj3:i8 ["_law_thing"] ["_law_thing"] (d6 B4):=by and_intros
theorem aj8 {f fd fn:Addr} (d:Df K mg "_law_is_poly" B4 ["_law_thing"] f) (G__law_is_number:Def P w K mg base CX0 2 "_law_is_number" fd ["_law_thing"] (aL0 K)) (G__law_trim:Def P w K mg base CX0 1 "_law_trim" fn ["_law_numbers"] (ae7 K))
  (n_isinstance:mg "isinstance" = none) (n_list:mg "list" = none) (n_all:mg "all" = none):Def P w K mg base CX0 3 "_law_is_poly" f ["_law_thing"] (aB6 K):=by
 refine d.ok (N:=["_law_thing"]) aj3 (λvs H Q E ⟨u,kd,mo,h,_⟩=>by rw [h];rfl) (λcdv A outer s H vs Q E hr h=>?_)
 obtain ⟨a,xs,qs,rfl,ha,hN,hs,hl,ht,k⟩:=h;have hu:=hr.units;refine ⟨_,(c9 (i5 (aw8 (f9 E6 rfl n_isinstance (by decide +kernel) (b8 (pv 0) (b8 (X3 (v:=.ty "list") rfl n_list (by decide +kernel) rfl) b9))) (aw8 (f9 (aZ4 rfl) rfl n_all (by decide +kernel) (b8 (D6 (Nc:=["_law_one"]) (caps:=[none]) rfl (T9.of (osc:=d6 B4) (N:=["_law_thing"]) (ks:=[]) rfl rfl rfl rfl A3 (by decide +kernel)) (v6 (pv 0)) (λC s₂ H₂ fp pins=>(i3 (i:=0) (show y0r (["_law_one"]:List Str) by decide +kernel) rfl (z0r rfl) (v0q rfl))) (λC s₂ H₂ fp pins=>(d7 G__law_is_number hr (b8 (pv 0) b9) e9))) b9)) (aH6 (al0 (ax0 hu) (d7 G__law_trim hr (b8 (pv 0) b9) e9) (pv 0) (k4 _))))))),?_⟩
 rw [show start ["_law_thing"] [.ref a]=[some (.ref a)] from rfl]
 subst_eqs
 refine ⟨trivial,_,.of (.lst ha),_,aq8,t7 (λ_=>?_) (λh=>absurd rfl h)⟩;refine ⟨⟨_,SqL.of ha⟩,λD hD=>?_⟩;have hDa:a ≠ D:=e8 ha hD;refine L9 xs (λi σ H2 => ∃ o,σ=[o]/\d4 H H2/\H2 D=some (.lst ((q0z i true).map V.bl))) ⟨_,rfl,d4.new hD _,c8⟩ (λi σ H2 _ ⟨o,_,s2,_⟩=>SqL.of (s2 _ _ ha)) ?_ ?_
 ·rintro i x σ H2 hx ⟨o,rfl,s2,e2⟩
  have hi:i<xs.length:=(q0s.mp hx).1;obtain ⟨p,q,rfl,hq,hp⟩:=hN.getV hx
  subst_eqs
  have sq:=hs q (z0c hq);refine ⟨_,q,rfl,⟨p,rfl,SqT.of (s2 _ _ hp)⟩,?_,λH3 s3=>?_⟩
  ·rw [q0r]
   exact sq
  ·refine D4.mk hi (s3 _ _ e2) (by simp;exact q0b (show i<1000 by omega) (by decide)) ⟨_,rfl,(s2.trans s3).over hD _,?_⟩
   rw [c8,List.replicate_succ',List.map_append];rfl
 ·rintro σ H2 ⟨o,rfl,s2,e2⟩
  subst_eqs
  refine ⟨_,SqL.of e2,t7 (λ_=>?_) (λh=>absurd (by simp) h)⟩
  have n2:=hN.mono s2.tups;refine ⟨a,xs,qs,rfl,SqL.of (s2 _ _ ha),n2,λm r H3 tl s3 hr' e3=>?_⟩;have em:=tl.uniq ht;subst em;have et:xs.take qs.length=xs:=by rw [<- hN.length,j0y]
  rw [et] at e3;refine ⟨x6 qs,x6 qs,rfl,p7 (SqL.of e3) (n2.mono s3.tups),p7 (SqL.of (s3 _ _ (s2 _ _ ha))) (n2.mono s3.tups),F9 _ _,z0f (G9 _) (by decide),?_⟩
  rw [C7];simp only [decide_true];exact k H3 (s2.trans s3)
structure BtN (k:Nat) (q:Rat):Prop where
 n:q.num.natAbs<2 ^ 20000
 d:q.den<2 ^ k
theorem BtN.d' {n:Nat} {q:Rat} (b:BtN n q):(q.den:Int).natAbs<2 ^ n:=by rw [q0r];exact b.d
theorem BdN.t {n:Nat} {q:Rat} (b:BdN n q) (h:n<=20000):BtN n q:=⟨q0b b.n (c5 h),b.d⟩
theorem k5.set {H:Hp}:∀ {vs:List V} {qs:List Rat} (k:Nat) {p:Addr} {q:Rat},k5 H vs qs->H p=some (.tup (v7 q))->k5 H (vs.set k (.ref p)) (qs.set k q)
 | _,_,_,_,_,.nil,_=>.nil
 | _,_,0,_,_,.cons _ t,h=>.cons h t
 | _,_,k+1,_,_,.cons h' t,h=>.cons h' (t.set k h)
theorem k5.rep {H:Hp} {p:Addr} {q:Rat} (h:H p=some (.tup (v7 q))):∀ n,k5 H (q0z n (.ref p)) (q0z n q)
 | 0=>.nil
 | n+1=>.cons h (k5.rep h n)
def M7 (K:q0a) (op:Rat->Rat->Rat):Sp:=λvs H Q _ => ∃ (x y:V) (p q:Rat) (m n:Nat),vs=[x,y]/\Num K H x p/\Num K H y q/\BtN m p/\BtN n q/\m+n<=6000/\aK3 H Q (op p q)
theorem bl2 {p q:Rat} {m n:Nat} (bp:BtN m p) (bq:BtN n q) (h:m+n<=6000):((p.den:Int)*q.den).natAbs<2 ^ 6000:=by
 rw [q0x];have:=j0g bp.d' bq.d';rw [<- j0v] at this;exact q0b this (c5 h)
theorem az5 (p q:Rat):(p.den:Int)*q.den ≠ 0:=Int.ne_of_gt (Int.mul_pos (n8 p) (n8 q))
abbrev O1:Stmt:=top 32
theorem av4:i8 ["_law_one","_law_other_here"] ["_law_one","_law_other_here"] (d6 O1):=by and_intros
theorem ax4 {f fl:Addr} (d:Df K mg "_law_plus" O1 ["_law_one","_law_other_here"] f) (G__law_low:Def P w K mg base CX0 1 "_law_low" fl ["_law_top","_law_bottom"] ah5):Def P w K mg base CX0 2 "_law_plus" f ["_law_one","_law_other_here"] (M7 K (· + ·)):=by
 refine d.ok (N:=["_law_one","_law_other_here"]) av4 (by rintro vs H Q E ⟨x,y,p,q,m,n,h,_⟩;rw [h];rfl) (λcdv A outer s H vs Q E hr h=>?_)
 obtain ⟨x,y,p,q,m,n,rfl,⟨ap,rfl,hp⟩,⟨aq,rfl,hq⟩,bp,bq,hmn,k⟩:=h;refine ⟨_,(c9 (i5 (d7 G__law_low hr (b8 (f8 F8 (f8 m8 (k3 k9 (pv 0) c6 (λ_ _=>rfl)) (k3 k9 (pv 1) c6 (λ_ _=>rfl))) (f8 m8 (k3 k9 (pv 1) c6 (λ_ _=>rfl)) (k3 k9 (pv 0) c6 (λ_ _=>rfl)))) (b8 (f8 m8 (k3 k9 (pv 0) c6 (λ_ _=>rfl)) (k3 k9 (pv 1) c6 (λ_ _=>rfl))) b9)) e9))),?_⟩;rw [show start ["_law_one","_law_other_here"] [.ref ap,.ref aq]=[some (.ref ap),some (.ref aq)] from rfl]
 subst_eqs
 refine ⟨_,hp,_,at0 p,_,hq,_,at1 q,_,rfl,_,rfl,C6 bp.n bq.d' ⋯,_,hq,_,at0 q,_,hp,_,at1 p,_,rfl,_,rfl,C6 bq.n bp.d' ⋯,_,hp,_,at1 p,_,hq,_,at1 q,_,rfl,_,rfl,C6 bp.d' bq.d' ⋯,?_⟩;refine ⟨_,_,rfl,az5 p q,bl2 bp bq hmn,?_⟩;rw [<- aK2];exact k
abbrev K7:Stmt:=top 34
theorem aq1:i8 ["_law_one","_law_other_here"] ["_law_one","_law_other_here"] (d6 K7):=by and_intros
theorem aq7 {f fl:Addr} (d:Df K mg "_law_times" K7 ["_law_one","_law_other_here"] f) (G__law_low:Def P w K mg base CX0 1 "_law_low" fl ["_law_top","_law_bottom"] ah5):Def P w K mg base CX0 2 "_law_times" f ["_law_one","_law_other_here"] (M7 K (· * ·)):=by
 refine d.ok (N:=["_law_one","_law_other_here"]) aq1 (by rintro vs H Q E ⟨x,y,p,q,m,n,h,_⟩;rw [h];rfl) (λcdv A outer s H vs Q E hr h=>?_)
 obtain ⟨x,y,p,q,m,n,rfl,⟨ap,rfl,hp⟩,⟨aq,rfl,hq⟩,bp,bq,hmn,k⟩:=h;refine ⟨_,(c9 (i5 (d7 G__law_low hr (b8 (f8 m8 (k3 k9 (pv 0) c6 (λ_ _=>rfl)) (k3 k9 (pv 1) c6 (λ_ _=>rfl))) (b8 (f8 m8 (k3 k9 (pv 0) c6 (λ_ _=>rfl)) (k3 k9 (pv 1) c6 (λ_ _=>rfl))) b9)) e9))),?_⟩;rw [show start ["_law_one","_law_other_here"] [.ref ap,.ref aq]=[some (.ref ap),some (.ref aq)] from rfl]
 subst_eqs
 refine ⟨_,hp,_,at0 p,_,hq,_,at0 q,_,rfl,_,rfl,C6 bp.n bq.n ⋯,_,hp,_,at1 p,_,hq,_,at1 q,_,rfl,_,rfl,C6 bp.d' bq.d' ⋯,?_⟩;refine ⟨_,_,rfl,az5 p q,bl2 bp bq hmn,?_⟩;rw [<- aI6];exact k
abbrev O3:Stmt:=top 33
theorem av6:i8 ["_law_one","_law_other_here"] ["_law_one","_law_other_here"] (d6 O3):=by and_intros
theorem ax7 {f fl:Addr} (d:Df K mg "_law_less" O3 ["_law_one","_law_other_here"] f) (G__law_low:Def P w K mg base CX0 1 "_law_low" fl ["_law_top","_law_bottom"] ah5):Def P w K mg base CX0 2 "_law_less" f ["_law_one","_law_other_here"] (M7 K (· - ·)):=by
 refine d.ok (N:=["_law_one","_law_other_here"]) av6 (by rintro vs H Q E ⟨x,y,p,q,m,n,h,_⟩;rw [h];rfl) (λcdv A outer s H vs Q E hr h=>?_)
 obtain ⟨x,y,p,q,m,n,rfl,⟨ap,rfl,hp⟩,⟨aq,rfl,hq⟩,bp,bq,hmn,k⟩:=h;refine ⟨_,(c9 (i5 (d7 G__law_low hr (b8 (f8 R7 (f8 m8 (k3 k9 (pv 0) c6 (λ_ _=>rfl)) (k3 k9 (pv 1) c6 (λ_ _=>rfl))) (f8 m8 (k3 k9 (pv 1) c6 (λ_ _=>rfl)) (k3 k9 (pv 0) c6 (λ_ _=>rfl)))) (b8 (f8 m8 (k3 k9 (pv 0) c6 (λ_ _=>rfl)) (k3 k9 (pv 1) c6 (λ_ _=>rfl))) b9)) e9))),?_⟩;rw [show start ["_law_one","_law_other_here"] [.ref ap,.ref aq]=[some (.ref ap),some (.ref aq)] from rfl]
 subst_eqs
 refine ⟨_,hp,_,at0 p,_,hq,_,at1 q,_,rfl,_,rfl,C6 bp.n bq.d' ⋯,_,hq,_,at0 q,_,hp,_,at1 p,_,rfl,_,rfl,C6 bq.n bp.d' ⋯,_,hp,_,at1 p,_,hq,_,at1 q,_,rfl,_,rfl,C6 bp.d' bq.d' ⋯,?_⟩;refine ⟨_,_,rfl,az5 p q,bl2 bp bq hmn,?_⟩;rw [<- aH4];exact k
def ae9 (K:q0a):Sp:=λvs H Q _ => ∃ (x:V) (c:Rat) (a:Addr) (xs:List V) (ps:List Rat) (m1 m2:Nat),vs=[x,.ref a]/\Num K H x c/\SqL K H a xs/\k5 H xs ps/\BtN m1 c/\(∀ q ∈ ps,BtN m2 q)/\m1+m2<=6000/\ps.length<=20 /\
 ∀ m r zs H',x9 (ps.map (c * ·)) m->d4 H H'->H r=none->H' r=some (.lst zs)->k5 H' zs ((ps.map (c * ·)).take m)->Q (.ref r) H'
abbrev w4:Stmt:=top 40
theorem aa3:i8 ["_law_number_here","_law_p"] ["_law_number_here","_law_p"] (d6 w4):=by and_intros
theorem Y6 {f fp f1:Addr} (d:Df K mg "_law_poly_often" w4 ["_law_number_here","_law_p"] f) (G__law_times:Def P w K mg base CX0 2 "_law_times" fp ["_law_one","_law_other_here"] (M7 K (· * ·))) (G__law_trim:Def P w K mg base CX0 1 "_law_trim" f1 ["_law_numbers"] (ae7 K)):Def P w K mg base CX0 3 "_law_poly_often" f ["_law_number_here","_law_p"] (ae9 K):=by
 refine d.ok (N:=["_law_number_here","_law_p"]) aa3 (λvs H Q E ⟨_,_,_,_,_,_,_,h,_⟩=>by rw [h];rfl) (λcdv A outer s H vs Q E hr h=>?_)
 obtain ⟨x,c,a,xs,ps,m1,m2,rfl,hx,hS,hN,bc,hs,hm,hl,k⟩:=h;refine ⟨_,(c9 (i5 (d7 G__law_trim hr (b8 (D6 (Nc:=["_law_number_here","_law_one"]) (caps:=[some 0,none]) rfl (T9.of (osc:=d6 w4) (N:=["_law_number_here","_law_p"]) (ks:=["_law_number_here"]) rfl rfl rfl rfl (A7 rfl A3) (by decide +kernel)) (v6 (pv 1)) (λC s₂ H₂ fp pins=>(i3 (i:=1) (show y0r (["_law_number_here","_law_one"]:List Str) by decide +kernel) rfl (z0r rfl) (v0q rfl))) (λC s₂ H₂ fp pins=>(d7 G__law_times hr (b8 (pv 0) (b8 (pv 1) b9)) e9))) b9) e9))),?_⟩
 rw [show start ["_law_number_here","_law_p"] [x,.ref a]=[some (x),some (.ref a)] from rfl]
 subst_eqs
 have lx:=hN.length;refine ⟨⟨_,hS⟩,λD hD=>?_⟩;refine L9 xs (λi σ H2 => ∃ o,σ=[some x,o]/\d4 H H2/\∃ zs,H2 D=some (.lst zs)/\k5 H2 zs ((ps.map (c * ·)).take i)) ⟨_,rfl,d4.new hD _,[],c8,.nil⟩ (λi σ H2 _ ⟨_,_,s2,_⟩=>s2.seq hS) ?_ ?_
 ·rintro i y σ H2 hy ⟨o,rfl,s2,zs,e2,n2⟩
  have hi:=(q0s.mp hy).1;obtain ⟨py,q,rfl,hq,hpy⟩:=hN.getV hy
  subst_eqs
  refine ⟨_,_,c,q,m1,m2,rfl,hx.same s2,⟨py,rfl,SqT.of (s2 _ _ hpy)⟩,bc,hs q (z0c hq),hm,λr H4 s4 e4=>?_⟩;refine D4.mk hi (s4 _ _ e2) ?_ ⟨_,rfl,(s2.trans s4).over hD _,_,c8,?_⟩
  ·rw [n2.length,j0b,q0m]
   exact q0e (show _<=20 by omega) (by decide)
  ·rw [C3 (show (ps.map (c * ·))[i]? = some (c*q) by rw [q0q,hq];rfl)]
   exact ((n2.mono s4.tups).append (.cons e4 .nil)).mono (C9.lst (s4 _ _ e2))
 ·rintro σ H2 ⟨o,rfl,s2,zs,e2,n2⟩
  have e7:(ps.map (c * ·)).take xs.length=ps.map (c * ·):=by
   rw [v0f (by rw [q0m];omega)]
  rw [e7] at n2;refine ⟨D,zs,_,rfl,SqL.of e2,n2,λm r H3 tl s3 hr e3=>?_⟩;exact k m r _ _ tl (s2.trans s3) (s2.free hr) e3 ((n2.take m).mono s3.tups)
def HB (P:Program) (w:World) (K:q0a) (mg:Str->Option Value) (base:Heap) (k:Nat) (x:Str) (st:Stmt) (f:Addr) (N:List Str) (sp:Sp):Prop:=∀ (cdv:Value) (A:Around) (outer:List Env) (s:Shared) (H:Hp) (vs:List V) (Q:VK) (E:XK),Q9 k (A.deeper (envOfC x (d6 st) s.heap.objs.size f cdv))->sp vs H Q E->∃ t,PSs (ab5 CX0 P w K mg base N x (d6 st) f cdv A outer s H E).nox (L8 st) t/\t { nx:=λ_ H'=>Q .non H',rt:=Q } (start N vs) H
def ak7 (K:q0a):Sp:=λvs H Q _ => ∃ (x y:V) (p q:Rat) (m n:Nat),vs=[x,y]/\Num K H x p/\Num K H y q/\BtN m p/\q ≠ 0/\q.num.natAbs<2 ^ n/\q.den<2 ^ 20000/\m+n<=6000/\aK3 H Q (p / q)
abbrev O2:Stmt:=top 35
theorem av5:i8 ["_law_one","_law_other_here"] ["_law_one","_law_other_here"] (d6 O2):=by and_intros
theorem ax5 {f fl:Addr} (d:Df K mg "_law_over" O2 ["_law_one","_law_other_here"] f) (G__law_low:Def P w K mg base CX0 1 "_law_low" fl ["_law_top","_law_bottom"] ah5):Def P w K mg base CX0 2 "_law_over" f ["_law_one","_law_other_here"] (ak7 K):=by
 refine d.ok (N:=["_law_one","_law_other_here"]) av5 (by rintro vs H Q E ⟨x,y,p,q,m,n,h,_⟩;rw [h];rfl) (λcdv A outer s H vs Q E hr h=>?_)
 obtain ⟨x,y,p,q,m,n,rfl,⟨ap,rfl,hp⟩,⟨aq,rfl,hq⟩,bp,q0,bq,bd,hmn,k⟩:=h;refine ⟨_,(c9 (i5 (d7 G__law_low hr (b8 (f8 m8 (k3 k9 (pv 0) c6 (λ_ _=>rfl)) (k3 k9 (pv 1) c6 (λ_ _=>rfl))) (b8 (f8 m8 (k3 k9 (pv 0) c6 (λ_ _=>rfl)) (k3 k9 (pv 1) c6 (λ_ _=>rfl))) b9)) e9))),?_⟩;rw [show start ["_law_one","_law_other_here"] [.ref ap,.ref aq]=[some (.ref ap),some (.ref aq)] from rfl]
 have bd':(q.den:Int).natAbs<2 ^ 20000:=by rw [q0r];exact bd
 subst_eqs
 refine ⟨_,hp,_,at0 p,_,hq,_,at1 q,_,rfl,_,rfl,C6 bp.n bd' ⋯,_,hp,_,at1 p,_,hq,_,at0 q,_,rfl,_,rfl,C6 bp.d' bq ⋯,?_⟩;refine ⟨_,_,rfl,y0m (Int.ne_of_gt (n8 p)) (λz=>q0 (Q4.mp z)),?_,?_⟩
 ·rw [q0x]
  have:=j0g bp.d' bq;rw [<- j0v] at this;exact q0b this (c5 hmn)
 ·rw [<- ab3]
  exact k
theorem aS1 {s:Rat} (hs:s ≠ 0) {ws:List Int} {m:Nat} (t:x9 (scl s ws) m):k7 ws m:=by
 have key:∀ (i:Nat) (v:Int),ws[i]? = some v->(scl s ws)[i]? = some (s*(v:Rat)):=λi v h=>by unfold scl;rw [q0q,h];rfl
 refine ⟨by have:=t.le;rw [B7] at this;exact this,λi v hi h=>?_,λhn v h z=>?_⟩
 ·have:=t.zero i _ hi (key i v h)
  have h1:=q0j _ hs
  have h2:(v:Rat)=0:=by
   generalize s⁻¹=u at *
   grind
  exact q0y.mp (by rw [h2,q0k])
 ·refine t.last hn _ (key _ v h) ?_
  rw [z,q0k];grind
def M6 (lead top:Int) (at':Nat) (L B:List Int):List Int:=(j0f L.length).map λk=>lead*aZ L k-if at'<=k then top*aZ B (k-at') else 0
theorem aB2 (lead top:Int) (L B:List Int) (h:B.length<=L.length) (k:Nat):aZ (M6 lead top (L.length-B.length) L B) k=lead*aZ L k-if L.length-B.length<=k then top*aZ B (k-(L.length-B.length)) else 0:=by
 by_cases hk:k<L.length
 ·unfold M6
  rw [aZ,q0q,j0d hk];rfl
 ·have h1:aZ L k=0:=by unfold aZ;rw [q0d ⋯];rfl
  have h2:aZ B (k-(L.length-B.length))=0:=by unfold aZ;rw [q0d ⋯];rfl
  have h3:aZ (M6 lead top (L.length-B.length) L B) k=0:=by unfold M6;rw [aZ,q0d (by simp;omega)];rfl
  rw [h1,h2,h3]
  split <;> simp
theorem aG7 {s:Rat} {g many:Int} (hm:many ≠ 0):(s*(many:Rat)⁻¹*(g:Rat)).num.natAbs<=s.num.natAbs*g.natAbs/\(s*(many:Rat)⁻¹*(g:Rat)).den<=s.den*many.natAbs:=by
 obtain ⟨q,hq,qn,qd⟩:=af1 (s:=s) (g:=g) hm;have:s*(many:Rat)⁻¹*(g:Rat)=q:=by rw [hq];grind
 rw [this];exact ⟨qn,qd⟩
theorem aN4 {t:Rat} {g:Int}:(t*(g:Rat)).num.natAbs<=t.num.natAbs*g.natAbs/\(t*(g:Rat)).den<=t.den:=by
 have h:=aG7 (s:=t) (g:=g) (many:=1) (by decide)
 have:t*((1:Int):Rat)⁻¹*(g:Rat)=t*(g:Rat):=by
  have h1:=q0j (1:Rat) (by decide)
  rw [show ((1:Int):Rat)=1 from rfl];generalize (1:Rat)⁻¹=u at *
  grind
 rw [this] at h;exact ⟨h.1,by simpa using h.2⟩
theorem bo5 {s t:Rat} {g many:Int} (hm:many ≠ 0) (ht:t ≠ 0):(s*(many:Rat)⁻¹*(g:Rat) / t).num.natAbs<=s.num.natAbs*g.natAbs*t.den/\(s*(many:Rat)⁻¹*(g:Rat) / t).den<=s.den*many.natAbs*t.num.natAbs:=by
 have h:=aG7 (s:=s) (g:=g) hm;generalize s*(many:Rat)⁻¹*(g:Rat)=q at *;rw [ab3];have hb:(q.den:Int)*t.num ≠ 0:=y0m (by have:=q.den_nz;omega) (λz=>ht (Q4.mp z))
 have h2:=G5 (t:=q.num*t.den) hb;rw [q0x,q0x,q0r,q0r] at h2;exact ⟨z0f h2.1 (z0b _ h.1),z0f h2.2 (z0b _ h.2)⟩
theorem al8 {s:Rat} {ws:List Int} {k:Nat} (h:k<ws.length):(scl s ws)[k]? = some (s*(aZ ws k:Rat)):=by
 unfold scl aZ;rw [q0q,q0c h];rfl
theorem y9 {a b m n k:Nat} (ha:a<2 ^ m) (hb:b<2 ^ n) (h:m+n<=k):a*b<2 ^ k:=by
 have:=j0g ha hb;rw [<- j0v] at this;exact q0b this (c5 h)
theorem ao1 {z:Int} (h:z ≠ 0):(z:Rat) ≠ 0:=λw=>h (q0y.mp (by rw [w,q0k]))
structure LR (H:Hp) (s:Rat) (A B:List Int) (w' wB i:Nat) (l:Addr) (zs:List V) (Lz:List Int) (many:Int) (H2:Hp):Prop where
 same:d4 H H2
 fl:H l=none
 el:H2 l=some (.lst zs)
 nz:k5 H2 zs (scl (s*(many:Rat)⁻¹) Lz)
 tz:k7 Lz Lz.length
 ll:Lz.length+i<=A.length
 li:i<=A.length-B.length+1
 m0:many ≠ 0
 mb:many.natAbs<2 ^ (i*wB+1)
 bz:∀ k,(aZ Lz k).natAbs<2 ^ (w'+i*(wB+1))
 rel:∃ (Qf:Nat->Rat) (lQ:Nat),Dg Qf lQ/\∀ k,(many:Rat)*zc A k=cv Qf (zc B) k+zc Lz k
def au9 (K:q0a):Sp:=λvs H Q _ => ∃ (a b:Addr) (xs ys:List V) (s t:Rat) (A B:List Int) (w wB d1 n1 d2 n2:Nat),vs=[.ref a,.ref b]/\SqL K H a xs/\H b=some (.lst ys)/\k5 H xs (scl s A)/\k5 H ys (scl t B)/\k7 A A.length/\k7 B B.length/\0<B.length/\A.length<=30/\B.length<=30/\s ≠ 0/\t ≠ 0 /\
 (∀ k,(aZ A k).natAbs<2 ^ w)/\(∀ k,(aZ B k).natAbs<2 ^ wB)/\s.den<2 ^ d1/\s.num.natAbs<2 ^ n1/\t.den<2 ^ d2/\t.num.natAbs<2 ^ n2/\d1+(A.length-B.length+1)*wB+1+(n2+wB)+d2<=6000/\2*(d1+(A.length-B.length+1)*wB+1)<=6000/\n1+(w+(A.length-B.length+1)*(wB+1))+d2+wB<=19000/\1<=d2 /\
 ∀ (r:Addr) (zs:List V) (Lz:List Int) (many:Int) (H':Hp),d4 H H'->H r=none->H' r=some (.lst zs)->k5 H' zs (scl (s*(many:Rat)⁻¹) Lz)->k7 Lz Lz.length->Lz.length<B.length->many ≠ 0->many.natAbs<2 ^ ((A.length-B.length+1)*wB+1)->(∀ k,(aZ Lz k).natAbs<2 ^ (w+(A.length-B.length+1)*(wB+1)))->(∃ (Qf:Nat->Rat) (lQ:Nat),Dg Qf lQ/\∀ k,(many:Rat)*zc A k=cv Qf (zc B) k+zc Lz k)->Q (.ref r) H'
abbrev B3:Stmt:=top 46
theorem F4:i8 ["_law_p","_law_q","_law_left","_law_often","_law_at"] ["_law_p","_law_q"] (d6 B3):=by and_intros
theorem ay8 {f f1 f2 f3 f4:Addr} (d:Df K mg "_law_rest" B3 ["_law_p","_law_q"] f) (G__law_over:Def P w K mg base CX0 2 "_law_over" f1 ["_law_one","_law_other_here"] (ak7 K)) (G__law_less:Def P w K mg base CX0 2 "_law_less" f2 ["_law_one","_law_other_here"] (M7 K (· - ·))) (G__law_times:Def P w K mg base CX0 2 "_law_times" f3 ["_law_one","_law_other_here"] (M7 K (· * ·))) (G__law_trim:Def P w K mg base CX0 1 "_law_trim" f4 ["_law_numbers"] (ae7 K)) (n_len:mg "len" = none) (n_list:mg "list" = none) (n_zip:mg "zip" = none):HB P w K mg base 2 "_law_rest" B3 f ["_law_p","_law_q","_law_left","_law_often","_law_at"] (au9 K):=by
  intro cdv A' outer s' H vs Q E hr h;obtain ⟨a,b,xs,ys,s,t,A,B,w',wB,d1,n1,d2,n2,rfl,hS,hb,hN,hN',tA,tB,hB,lA,lB,s0,t0,bA,bB,sd,sn,td,tn,c1,c2,c3,c4,k⟩:=h
  refine ⟨_, (c7 (d9 (i := 2) F4.nd rfl (Or.inl rfl) (C1 x8 rfl n_list (by decide +kernel) (b8 (pv 0) b9)))
      (c7 (F7 PassesOwn.never (i9 aU8 (f9 h9 rfl n_len (by decide +kernel) (b8 (pv 2) b9)) (f9 h9 rfl n_len (by decide +kernel) (b8 (pv 1) b9)) (k4 _)) (c7 (d9 (i:=3) F4.nd rfl (Or.inr rfl) (d7 G__law_over hr (b8 (k3 r6 (pv 2) (O8 E9 c6) (λ_ _=>rfl)) (b8 (k3 r6 (pv 1) (O8 E9 c6) (λ_ _=>rfl)) b9)) e9))
      (c7 (d9 (i:=4) F4.nd rfl (Or.inl rfl) (f8 R7 (f9 h9 rfl n_len (by decide +kernel) (b8 (pv 2) b9)) (f9 h9 rfl n_len (by decide +kernel) (b8 (pv 1) b9))))
      (c9 (d9 (i:=2) F4.nd rfl (Or.inl rfl) (d7 G__law_trim hr (b8 (D6 (Nc:=["_law_often","_law_a","_law_b"]) (caps:=[some 3,none,none]) rfl (T9.of (osc:=d6 B3) (N:=["_law_p","_law_q","_law_left","_law_often","_law_at"]) (ks:=["_law_often"]) rfl rfl rfl rfl (A7 rfl A3) (by decide +kernel)) (bi0 rfl n_zip (b8 (pv 2) (b8 (f8 aU9 (f8 aI0 (z7 (b8 (y7 (b8 c6 (b8 c6 b9))) b9)) (pv 4)) (pv 1)) b9))) (λC s₂ H₂ fp pins=>(show PG _ _ (N3 K 2 (p9 (m9 1) (p9 (m9 2) N4))) from by (refine E2 (n:=2) ?_ ?_ ?_ ?_;rfl;(refine j9 ?_ ?_ ?_;(exact (i3 (i:=1) (show List.Nodup (["_law_often","_law_a","_law_b"]:List Str) by decide +kernel) rfl (Or.inl rfl) (Or.inr rfl)));(refine j9 ?_ ?_ ?_;(exact (i3 (i:=2) (show List.Nodup (["_law_often","_law_a","_law_b"]:List Str) by decide +kernel) rfl (Or.inl rfl) (Or.inr rfl)));(exact y6);rfl);rfl);rfl;rfl))) (λC s₂ H₂ fp pins=>(d7 G__law_less hr (b8 (pv 1) (b8 (d7 G__law_times hr (b8 (pv 0) (b8 (pv 2) b9)) e9) b9)) e9))) b9) e9))))))
      (c9 (i5 (pv 2))))),?_⟩
  rw [show start ["_law_p","_law_q","_law_left","_law_often","_law_at"] [.ref a,.ref b]=[some (.ref a),some (.ref b),none,none,none] from rfl]
  obtain ⟨lead,hlead⟩:∃ z,z=aZ B (B.length-1):=⟨_,rfl⟩;have l0:lead ≠ 0:=by rw [hlead];exact v5 tB hB
  have lb:lead.natAbs<2 ^ wB:=by rw [hlead];exact bB _
  have ly:=hN'.length;rw [B7] at ly;have lx:=hN.length;rw [B7] at lx
  subst_eqs
  refine ⟨_,.inl hS,λl hl=>?_⟩;have Sl:=d4.new hl (.lst xs);refine U0 (λσ H3 => ∃ i l zs Lz many o3 o4,σ=[some (.ref a),some (.ref b),some (.ref l),o3,o4]/\LR H s A B w' wB i l zs Lz many H3) (V0 2) ⟨0,l,xs,A,1,_,_,rfl,⟨Sl,hl,c8,?_,tA,⋯,⋯,by decide,by rw [Nat.zero_mul];decide,by rw [Nat.zero_mul];exact bA,λ_=>0,0,λ_ _=>rfl,λk=>?_⟩⟩ ?_
  · have : s * ((1 : Int) : Rat)⁻¹ = s := by
      have h1:=Rat.mul_inv_cancel (1:Rat) (by decide)
      rw [show ((1:Int):Rat)=1 from rfl];generalize (1:Rat)⁻¹=u at *
      grind
    rw [this];exact hN.mono Sl.tups
  · rw [X5 (λ_=>rfl)]
    rw [show ((1:Int):Rat)=1 from rfl];grind
  clear hl Sl l;rintro σ H3 ⟨i,l,zs,Lz,many,o3,o4,rfl,R⟩;have hb3:H3 b=some (.lst ys):=R.same _ _ hb;have lz:=R.nz.length;rw [B7] at lz;simp only [Y9,tOp,tCB,P6,aj0,K1,rI0];refine ⟨_,rfl,l,rfl,_,.inl (SqL.of R.el),_,rfl,b,rfl,_,.inl (SqL.of hb3),_,_,rfl,rfl,_,rfl,?_⟩;rw [lz,ly];refine t7 (λhge=>WhB.mk ?_) (λhlt=>?_)
  · have hge' : B.length ≤ Lz.length := by
      have:(B.length:Int)<=(Lz.length:Int):=by simpa using hge
      omega
    have ll:=R.ll
    have im:i*wB+wB<=(A.length-B.length+1)*wB:=by
      rw [<- Nat.succ_mul];exact Nat.mul_le_mul_right _ ⋯
    have im2:i*(wB+1)+(wB+1)<=(A.length-B.length+1)*(wB+1):=by
      rw [<- Nat.succ_mul];exact Nat.mul_le_mul_right _ ⋯
    obtain ⟨top,htop⟩:∃ z,z=aZ Lz (Lz.length-1):=⟨_,rfl⟩;have top0:top ≠ 0:=by rw [htop];exact v5 R.tz ⋯
    have mi:=R.m0;have mb:=R.mb;have mli:many*lead ≠ 0:=Int.mul_ne_zero mi l0
    have mlb:(many*lead).natAbs<2 ^ ((i+1)*wB+1):=by
      rw [Int.natAbs_mul];have:=Nat.mul_lt_mul'' mb lb;rw [<- Nat.pow_add] at this;exact Nat.lt_of_lt_of_le this (c5 (by rw [Nat.succ_mul];omega))
    have topb:top.natAbs<2 ^ (w'+i*(wB+1)):=by rw [htop];exact R.bz _
    obtain ⟨pl,hpl,epl⟩:=R.nz.get (i:=Lz.length-1) (q:=s*(many:Rat)⁻¹*(top:Rat)) (by rw [al8 ⋯,htop])
    obtain ⟨pb,hpb,epb⟩:=(hN'.mono R.same.tups).get (i:=B.length-1) (q:=t*(lead:Rat)) (by rw [al8 ⋯,hlead])
    have mq:=ao1 mi;have lq:=ao1 l0;have mlq:=ao1 mli;have vb1:=aG7 (s:=s) (g:=top) mi;have vb0:=aN4 (t:=t) (g:=lead)
    have eml:((many*lead:Int):Rat)⁻¹=(many:Rat)⁻¹*(lead:Rat)⁻¹:=by
      have h1:=Rat.mul_inv_cancel _ mq;have h2:=Rat.mul_inv_cancel _ lq;have h3:=Rat.mul_inv_cancel _ mlq;rw [Rat.intCast_mul] at h3 ⊢;generalize (many:Rat)⁻¹=u at *;generalize (lead:Rat)⁻¹=v at *;generalize ((many:Rat)*(lead:Rat))⁻¹=x at *
      grind
    have eoft:s*(many:Rat)⁻¹*(top:Rat) / (t*(lead:Rat))=s*((many*lead:Int):Rat)⁻¹*(top:Rat) / t:=by
      have h2:=Rat.mul_inv_cancel _ lq;have h3:=Rat.mul_inv_cancel _ t0;rw [eml,Rat.div_def,Rat.div_def,Rat.inv_mul_rev];generalize (many:Rat)⁻¹=u at *;generalize (lead:Rat)⁻¹=v at *;generalize t⁻¹=x at *
      grind
    have vo:=bo5 (s:=s) (t:=t) (g:=top) mli t0;have i1:(i+1)*wB=i*wB+wB:=Nat.succ_mul _ _;have i2:(i+1)*(wB+1)=i*(wB+1)+(wB+1):=Nat.succ_mul _ _
    have q0:t*(lead:Rat) ≠ 0:=λz=>by
      have h2:=Rat.mul_inv_cancel _ lq;generalize (lead:Rat)⁻¹=v at *;exact t0 (by grind)
    subst_eqs
    refine ⟨zs,SqL.of R.el,_,R8 (x:=.ref pl) (by rw [lz];exact hpl),ys,SqL.of hb3,_,R8 (x:=.ref pb) (by rw [ly];exact hpb),?_⟩
    refine ⟨.ref pl,.ref pb,_,_,d1+(i*wB+1),n2+wB,rfl,⟨pl,rfl,SqT.of epl⟩,⟨pb,rfl,SqT.of epb⟩,⟨Nat.lt_of_le_of_lt vb1.1 (y9 sn topb ⋯),Nat.lt_of_le_of_lt vb1.2 (y9 sd mb ⋯)⟩,q0,Nat.lt_of_le_of_lt vb0.1 (y9 tn lb ⋯),Nat.lt_of_le_of_lt vb0.2 (Nat.lt_of_lt_of_le td (c5 ⋯)),⋯,λpo H4 S4 e4=>?_⟩;rw [eoft] at e4;obtain ⟨oft,hoft⟩:∃ q,q=s*((many*lead:Int):Rat)⁻¹*(top:Rat) / t:=⟨_,rfl⟩;rw [<- hoft] at e4 vo;have bo:BtN (d1+((i+1)*wB+1)+n2) oft:=⟨Nat.lt_of_le_of_lt vo.1 (y9 (y9 sn topb (Nat.le_refl _)) td ⋯),Nat.lt_of_le_of_lt vo.2 (y9 (y9 sd mlb (Nat.le_refl _)) tn (Nat.le_refl _))⟩;have T4:=R.same.trans S4;refine ⟨zs,.inl (SqL.of (S4 _ _ R.el)),ys,.inl (SqL.of (S4 _ _ hb3)),y3,λp hp=>⟨by decide,λp1 hp1=>?_⟩⟩
    have S5:=d4.new hp (.tup [.int 0,.int 1]);have S6:=d4.new hp1 (.lst [.ref p]);have eat:((zs.length:Int)-(ys.length:Int)).toNat=Lz.length-B.length:=by rw [lz,ly];omega
    refine ⟨_,c8,by rw [lz,ly];omega,by rw [lz,ly];omega,Nat.le_trans (show _<=100 by rw [eat];simp;omega) (by decide),λp2 hp2=>?_⟩
    rw [eat,List.flatten_replicate_singleton] at *;have S7:=d4.new hp2 (.lst (List.replicate (Lz.length-B.length) (.ref p)));have S47:=S4.trans (S5.trans (S6.trans S7));refine ⟨_,c8,ys,S47 _ _ hb3,Nat.le_trans (show _<=100 by rw [List.length_replicate,ly];omega) (by decide),λp3 hp3=>?_⟩
    have S8:=d4.new hp3 (.lst (List.replicate (Lz.length-B.length) (.ref p) ++ ys));have S48:=S47.trans S8;refine ⟨⟨zs,SqL.of (S48 _ _ R.el)⟩,⟨_,SqL.of c8⟩,λD hD=>?_⟩;have ep:(upd H4 p (.tup [.int 0,.int 1])) p=some (.tup (v7 0)):=c8;have nq:k5 (upd (upd (upd (upd H4 p (.tup [.int 0,.int 1])) p1 (.lst [.ref p])) p2 (.lst (List.replicate (Lz.length-B.length) (.ref p)))) p3 (.lst (List.replicate (Lz.length-B.length) (.ref p) ++ ys))) (List.replicate (Lz.length-B.length) (.ref p) ++ ys) (List.replicate (Lz.length-B.length) 0 ++ scl t B):=(k5.rep (S8 _ _ (S7 _ _ (S6 _ _ ep))) _).append (hN'.mono (R.same.trans S48).tups);have e48:(upd (upd (upd (upd H4 p (.tup [.int 0,.int 1])) p1 (.lst [.ref p])) p2 (.lst (List.replicate (Lz.length-B.length) (.ref p)))) p3 (.lst (List.replicate (Lz.length-B.length) (.ref p) ++ ys))) p3=some (.lst (List.replicate (Lz.length-B.length) (.ref p) ++ ys)):=c8;have eo8:=(S5.trans (S6.trans (S7.trans S8))) _ _ e4;have nz8:=R.nz.mono S48.tups;have el8:=S48 _ _ R.el;have T8:=R.same.trans S48;generalize upd (upd (upd (upd H4 p (.tup [.int 0,.int 1])) p1 (.lst [.ref p])) p2 (.lst (List.replicate (Lz.length-B.length) (.ref p)))) p3 (.lst (List.replicate (Lz.length-B.length) (.ref p) ++ ys))=H8 at *;have lzip:min zs.length (List.replicate (Lz.length-B.length) (V.ref p) ++ ys).length=Lz.length:=by rw [List.length_append,List.length_replicate,ly,lz];omega
    refine bl3 zs (List.replicate (Lz.length-B.length) (.ref p) ++ ys) (λj σ H9 => ∃ o1 o2,σ=[some (.ref po),o1,o2]/\ap4 H8 D ((scl (s*((many*lead:Int):Rat)⁻¹) (M6 lead top (Lz.length-B.length) Lz B)).take j) H9) ⟨_,_,rfl,ap4.start hD⟩ (by rintro j σ H9 ⟨_,_,_,T⟩;exact ⟨SqL.of (T.same _ _ el8),SqL.of (T.same _ _ e48)⟩) ?_ ?_
    · rintro j x y σ H9 pt hx hy ⟨o1,o2,rfl,T⟩ hpt
      have hj:j<Lz.length:=by have:=(List.getElem?_eq_some_iff.mp hx).1;omega
      obtain ⟨px,qx,rfl,hqx,epx⟩:=nz8.getV hx;obtain ⟨py,qy,rfl,hqy,epy⟩:=nq.getV hy;rw [al8 hj] at hqx
      cases hqx
      obtain ⟨cB,hcB⟩:∃ z,z=if Lz.length-B.length<=j then aZ B (j-(Lz.length-B.length)) else 0:=⟨_,rfl⟩
      have eqy:qy=t*(cB:Rat):=by
        rw [hcB]
        by_cases hat:Lz.length-B.length<=j
        · rw [if_pos hat]
          rw [List.getElem?_append_right (by rw [List.length_replicate];exact hat),List.length_replicate,al8 ⋯] at hqy
          exact (Option.some.inj hqy).symm
        · rw [if_neg hat]
          rw [List.getElem?_append_left (by rw [List.length_replicate];omega),List.getElem?_replicate,if_pos ⋯] at hqy
          rw [<- Option.some.inj hqy,Rat.intCast_zero];grind
      have cb:cB.natAbs<2 ^ wB:=by
        rw [hcB]
        split
        · exact bB _
        · exact Nat.two_pow_pos _
      have st:=d4.new hpt (.tup [.ref px,.ref py]);have S9:=T.same.trans st;have bx:=aG7 (s:=s) (g:=aZ Lz j) mi;have by':=aN4 (t:=t) (g:=cB)
      have tcb:(top*cB).natAbs<2 ^ (w'+i*(wB+1)+wB):=by rw [Int.natAbs_mul];exact y9 topb cb (Nat.le_refl _)
      have bp:=aG7 (s:=s) (g:=top*cB) mli
      have eprod:oft*qy=s*((many*lead:Int):Rat)⁻¹*((top*cB:Int):Rat):=by
        have h3:=Rat.mul_inv_cancel _ t0;rw [hoft,eqy,Rat.div_def,Rat.intCast_mul top cB];generalize ((many*lead:Int):Rat)⁻¹=u at *;generalize t⁻¹=x at *
        grind
      have eres:s*(many:Rat)⁻¹*(aZ Lz j:Rat)-oft*qy=s*((many*lead:Int):Rat)⁻¹*(aZ (M6 lead top (Lz.length-B.length) Lz B) j:Rat):=by
        have hst:aZ (M6 lead top (Lz.length-B.length) Lz B) j=lead*aZ Lz j-top*cB:=by
          rw [aB2 lead top Lz B hge',hcB]
          split <;> simp
        have h2:=Rat.mul_inv_cancel _ lq;rw [eprod,hst,Rat.intCast_sub,Rat.intCast_mul lead,eml];generalize (many:Rat)⁻¹=u at *;generalize (lead:Rat)⁻¹=x at *
        grind
      rw [<- eqy] at by'
      rw [<- eprod] at bp
      subst_eqs
      refine ⟨_,SqT.of c8,rfl,_,_,rfl,_,_,rfl,rfl,?_⟩;refine ⟨.ref po,.ref py,oft,qy,_,d2,rfl,⟨po,rfl,SqT.of (S9 _ _ eo8)⟩,⟨py,rfl,SqT.of (S9 _ _ epy)⟩,bo,⟨Nat.lt_of_le_of_lt by'.1 (y9 tn cb ⋯),Nat.lt_of_le_of_lt by'.2 td⟩,⋯,λpm H10 S10 e10=>?_⟩
      have bj:=R.bz j;refine ⟨.ref px,.ref pm,_,_,d1+(i*wB+1),d1+((i+1)*wB+1),rfl,⟨px,rfl,SqT.of (S10 _ _ (S9 _ _ epx))⟩,⟨pm,rfl,SqT.of e10⟩,⟨Nat.lt_of_le_of_lt bx.1 (y9 sn bj ⋯),Nat.lt_of_le_of_lt bx.2 (y9 sd mb ⋯)⟩,⟨Nat.lt_of_le_of_lt bp.1 (y9 sn tcb ⋯),Nat.lt_of_le_of_lt bp.2 (y9 sd mlb ⋯)⟩,⋯,λpr H11 S11 e11=>?_⟩
      dsimp only at e11
      rw [eres] at e11;obtain ⟨us,eu,lu,T'⟩:=T.add hD (st.trans (S10.trans S11)) e11;refine D4.mk (by rw [lzip];exact hj) eu ?_ ⟨_,_,rfl,?_⟩
      · rw [lu,List.length_take]
        exact Nat.lt_of_le_of_lt (show _<=100 by omega) (by decide)
      · rw [List.take_succ,al8 (by unfold M6;simp;exact hj)]
        exact T'
    · rintro σ H9 ⟨o1,o2,rfl,T⟩
      rw [lzip] at T;have lM:(M6 lead top (Lz.length-B.length) Lz B).length=Lz.length:=by unfold M6;simp
      rw [List.take_of_length_le (by rw [B7,lM];omega)] at T
      obtain ⟨s9,us,eu,nu⟩:=T
      have sg0:s*((many*lead:Int):Rat)⁻¹ ≠ 0:=λz=>by
        have h3:=Rat.mul_inv_cancel _ mlq;generalize ((many*lead:Int):Rat)⁻¹=u at *;exact s0 (by grind)
      refine ⟨D,us,_,rfl,SqL.of eu,nu,λm r H10 tl S10 fr er=>?_⟩;have tM:=aS1 sg0 tl;have lu:=nu.length;rw [B7,lM] at lu;have hat:=aB2 lead top Lz B hge';have mle:=tM.le;rw [lM] at mle
      have mlt:m<Lz.length:=by
        refine Classical.byContradiction λz=>?_;have hm:m=Lz.length:=⋯;have h1:=tM.last ⋯ _ (List.getElem?_eq_getElem ⋯);have h2:=hat (Lz.length-1);rw [if_pos ⋯,show Lz.length-1-(Lz.length-B.length)=B.length-1 by omega,<- htop,<- hlead] at h2
        have h3:aZ (M6 lead top (Lz.length-B.length) Lz B) (Lz.length-1)=(M6 lead top (Lz.length-B.length) Lz B)[m-1]'⋯:=by
          unfold aZ;rw [show Lz.length-1=m-1 by omega,List.getElem?_eq_getElem ⋯];rfl
        rw [h3,Int.mul_comm,Int.sub_self] at h2;exact h1 h2
      have lt':((M6 lead top (Lz.length-B.length) Lz B).take m).length=m:=by rw [List.length_take,lM];omega
      refine ⟨_,?_,rfl,i+1,r,us.take m,(M6 lead top (Lz.length-B.length) Lz B).take m,many*lead,_,_,rfl,⟨T8.trans (s9.trans S10),(T8.trans s9).free fr,er,?_,tM.self,by rw [lt'];omega,⋯,mli,mlb,λk=>?_,?_⟩⟩
      · show V0 2 _ _<V0 2 _ _
        unfold V0;simp only [List.getElem?_cons_succ,List.getElem?_cons_zero];rw [er,R.el];simp only [List.length_take];omega
      · have:=(nu.take m).mono S10.tups
        unfold scl at this ⊢;rw [List.map_take];exact this
      · rw [ae2 tM,hat]
        have h1:(lead*aZ Lz k).natAbs<2 ^ (wB+(w'+i*(wB+1))):=by rw [Int.natAbs_mul];exact y9 lb (R.bz k) (Nat.le_refl _)
        have h2:(if Lz.length-B.length<=k then top*aZ B (k-(Lz.length-B.length)) else 0).natAbs<2 ^ (wB+(w'+i*(wB+1))):=by
          split
          · rw [Int.natAbs_mul];exact y9 topb (bB _) ⋯
          · exact Nat.two_pow_pos _
        have h3:2 ^ (wB+(w'+i*(wB+1))+1)=2 ^ (w'+(i+1)*(wB+1)):=by congr 1;omega
        rw [<- h3,Nat.pow_succ];omega
      · obtain ⟨Qf,lQ,dQ,e⟩:=R.rel
        refine ⟨λj=>(lead:Rat)*Qf j+(if j=Lz.length-B.length then (top:Rat) else 0),max lQ (Lz.length-B.length+1),λk hk=>?_,λk=>?_⟩
        · show (lead:Rat)*Qf k+(if k=Lz.length-B.length then (top:Rat) else 0)=0
          rw [dQ k ⋯,if_neg ⋯];grind
        · have h1:=e k
          have h2:zc ((M6 lead top (Lz.length-B.length) Lz B).take m) k=(lead:Rat)*zc Lz k-if Lz.length-B.length<=k then (top:Rat)*zc B (k-(Lz.length-B.length)) else 0:=by
            unfold zc;rw [ae2 tM,hat,Rat.intCast_sub,Rat.intCast_mul]
            split
            · rw [Rat.intCast_mul]
            · rw [Rat.intCast_zero]
          rw [ab8 (λj=>(lead:Rat)*Qf j) (λj=>if j=Lz.length-B.length then (top:Rat) else 0),ab7,X7,h2,Rat.intCast_mul];have h3:(many:Rat)*(lead:Rat)*zc A k=(lead:Rat)*((many:Rat)*zc A k):=by grind
          rw [h3,h1]
          grind
  · have hlt' : Lz.length < B.length := by
      have:¬ (B.length:Int)<=(Lz.length:Int):=by simpa using hlt
      omega
    have h1:=Nat.mul_le_mul_right wB R.li;have h2:=Nat.mul_le_mul_right (wB+1) R.li
    subst_eqs
    exact k l zs Lz many H3 R.same R.fl R.el R.nz R.tz hlt' R.m0 (Nat.lt_of_lt_of_le R.mb (c5 ⋯)) (λk=>Nat.lt_of_lt_of_le (R.bz k) (c5 ⋯)) R.rel
theorem ax3 {f f1 f2 f3 f4:Addr} (d:Df K mg "_law_rest" B3 ["_law_p","_law_q"] f) (G__law_over:Def P w K mg base CX0 2 "_law_over" f1 ["_law_one","_law_other_here"] (ak7 K)) (G__law_less:Def P w K mg base CX0 2 "_law_less" f2 ["_law_one","_law_other_here"] (M7 K (· - ·))) (G__law_times:Def P w K mg base CX0 2 "_law_times" f3 ["_law_one","_law_other_here"] (M7 K (· * ·))) (G__law_trim:Def P w K mg base CX0 1 "_law_trim" f4 ["_law_numbers"] (ae7 K)) (n_len:mg "len" = none) (n_list:mg "list" = none) (n_zip:mg "zip" = none):Def P w K mg base CX0 3 "_law_rest" f ["_law_p","_law_q"] (au9 K) :=
 d.ok (N:=["_law_p","_law_q","_law_left","_law_often","_law_at"]) F4 (by rintro vs H Q E ⟨_,_,_,_,_,_,_,_,_,_,_,_,_,_,h,_⟩;rw [h];rfl) (ay8 d G__law_over G__law_less G__law_times G__law_trim n_len n_list n_zip)
theorem OvB.bt {B W e:Nat} {q:Rat} (h:OvB B W q) (hB:0<B) (hBe:B<2 ^ e) (hW:W<=20000):BtN e q:=by
 obtain ⟨v,rfl,b⟩:=h;have:=G5 (t:=v) (b:=(B:Int)) ⋯;rw [q0r] at this;exact ⟨q0e this.1 (q0b b (c5 hW)),q0e this.2 hBe⟩
def av0 (K:q0a):Sp:=λvs H Q _ => ∃ (a b:Addr) (xs ys:List V) (ps qs:List Rat) (B C V' W e:Nat),vs=[.ref a,.ref b]/\SqL K H a xs/\SqL K H b ys/\k5 H xs ps/\k5 H ys qs/\(∀ q ∈ ps,OvB B V' q)/\(∀ q ∈ qs,OvB C W q)/\0<B/\0<C/\B*C<2 ^ e/\1<=e/\2*e<=6000/\V'+W<=19000/\ps.length<=20/\qs.length<=20 /\
 ∀ m r zs H',x9 (J8 ps qs) m->(∀ q ∈ J8 ps qs,OvB (B*C) (V'+W+400) q)->d4 H H'->H r=none->H' r=some (.lst zs)->k5 H' zs ((J8 ps qs).take m)->Q (.ref r) H'
abbrev A4:Stmt:=top 41
theorem t4:i8 ["_law_p","_law_q","_law_found","_law_i","_law_one","_law_j","_law_other_here"] ["_law_p","_law_q"] (d6 A4):=by and_intros
theorem aa9 {f fp f1 f2:Addr} (d:Df K mg "_law_poly_times" A4 ["_law_p","_law_q"] f) (G__law_plus:Def P w K mg base CX0 2 "_law_plus" fp ["_law_one","_law_other_here"] (M7 K (· + ·))) (G__law_times:Def P w K mg base CX0 2 "_law_times" f1 ["_law_one","_law_other_here"] (M7 K (· * ·))) (G__law_trim:Def P w K mg base CX0 1 "_law_trim" f2 ["_law_numbers"] (ae7 K)) (n_len:mg "len" = none) (n_enumerate:mg "enumerate" = none):Def P w K mg base CX0 3 "_law_poly_times" f ["_law_p","_law_q"] (av0 K):=by
 refine d.ok (N:=["_law_p","_law_q","_law_found","_law_i","_law_one","_law_j","_law_other_here"]) t4 (by rintro vs H Q E ⟨_,_,_,_,_,_,_,_,_,_,_,h,_⟩;rw [h];rfl) (λcdv A outer s H vs Q E hr h=>?_)
 obtain ⟨a,b,xs,ys,ps,qs,B,C,V',W,e,rfl,hS,hS',hN,hN',hs,hs',hB,hC,hBC,he1,he,hVW,hl,hl',k⟩:=h;have hBCp:=j0q hB hC;have hBe:B<2 ^ e:=q0e (y0z _ hC) hBC;have hCe:C<2 ^ e:=q0e (j0p _ hB) hBC;have hu:=hr.units
 refine ⟨_,(c7 (w8 (PW.pt (Q3 (i9 (ax0 hu) (pv 0) (z7 b9) (k4 _)) (af2 (i9 (ax0 hu) (pv 1) (z7 b9) (k4 _))))) (c9 (i5 (z7 b9))) m6)
   (c7 (d9 (i:=2) t4.nd rfl (z0r rfl) (f8 aI0 (z7 (b8 (y7 (b8 c6 (b8 c6 b9))) b9)) (f8 R7 (f8 F8 (f9 h9 rfl n_len (by decide +kernel) (b8 (pv 0) b9)) (f9 h9 rfl n_len (by decide +kernel) (b8 (pv 1) b9))) c6)))
   (c7 (C2 PassesOwn.never rfl (X0 rfl n_enumerate (b8 (pv 0) b9)) (show PG _ _ (N3 K 2 (p9 (m9 3) (p9 (m9 4) N4))) from by (refine E2 (n:=2) ?_ ?_ ?_ ?_;rfl;(refine j9 ?_ ?_ ?_;(exact (i3 (i:=3) t4.nd rfl (z0r rfl)));(refine j9 ?_ ?_ ?_;(exact (i3 (i:=4) t4.nd rfl (z0r rfl)));(exact y6);rfl);rfl);rfl;rfl)) (c9 (C2 PassesOwn.never rfl (X0 rfl n_enumerate (b8 (pv 1) b9)) (show PG _ _ (N3 K 2 (p9 (m9 5) (p9 (m9 6) N4))) from by (refine E2 (n:=2) ?_ ?_ ?_ ?_;rfl;(refine j9 ?_ ?_ ?_;(exact (i3 (i:=5) t4.nd rfl (z0r rfl)));(refine j9 ?_ ?_ ?_;(exact (i3 (i:=6) t4.nd rfl (z0r rfl)));(exact y6);rfl);rfl);rfl;rfl)) (c9 (af3 (d7 G__law_plus hr (b8 (k3 r6 (pv 2) (f8 F8 (pv 3) (pv 5)) (λ_ _=>rfl)) (b8 (d7 G__law_times hr (b8 (pv 4) (b8 (pv 6) b9)) e9) b9)) e9) (aw6 (pv 2) (f8 F8 (pv 3) (pv 5)) P7))))))
   (c9 (i5 (d7 G__law_trim hr (b8 (pv 2) b9) e9)))))),?_⟩
 rw [show start ["_law_p","_law_q","_law_found","_law_i","_law_one","_law_j","_law_other_here"] [.ref a,.ref b]=[some (.ref a),some (.ref b),none,none,none,none,none] from rfl]
 subst_eqs
 have tl0:x9 ([]:List Rat) 0:=⟨q0t _,λi q _ e=>by simp at e,λh=>absurd rfl h⟩
 refine ⟨by decide,λp hp=>?_⟩
 have S1:=d4.new hp (.lst []);refine ⟨x6 ps,x6 [],rfl,p7 (S1.seq hS) (hN.mono S1.tups),p7 (SqL.of c8) .nil,F9 _ _,z0f (G9 _) (by decide),?_⟩
 rw [C7];refine ⟨_,rfl,t7 (λh=>⟨by decide,λr hr'=>?_⟩) (λh=>?_)⟩
 ·have e:J8 ps qs=[]:=by rw [J8,if_pos (.inl (by simpa using h))]
  rw [e] at k;exact k 0 r [] _ tl0 (by simp) (S1.trans (d4.new hr' _)) (S1.free hr') c8 .nil
 have np:ps ≠ []:=λz=>h (by simp [z])
 refine ⟨by decide,λp2 hp2=>?_⟩
 have S2:=S1.trans (d4.new hp2 (.lst []));refine ⟨x6 qs,x6 [],rfl,p7 (S2.seq hS') (hN'.mono S2.tups),p7 (SqL.of c8) .nil,F9 _ _,z0f (G9 _) (by decide),?_⟩
 rw [C7];refine ⟨_,rfl,t7 (λh=>⟨by decide,λr hr'=>?_⟩) (λh=>?_)⟩
 ·have e:J8 ps qs=[]:=by rw [J8,if_pos (.inr (by simpa using h))]
  rw [e] at k;exact k 0 r [] _ tl0 (by simp) (S2.trans (d4.new hr' _)) (S2.free hr') c8 .nil
 have nq:qs ≠ []:=λz=>h (by simp [z])
 have lx:=hN.length;have ly:=hN'.length;have lp:0<ps.length:=j0s.mpr np;have lq:0<qs.length:=j0s.mpr nq;refine ⟨y3,λp3 hp3=>⟨av1,λp4 hp4=>?_⟩⟩;have S3:=S2.trans (d4.new hp3 (.tup [.int 0,.int 1]));have S4:=S3.trans (d4.new hp4 (.lst [.ref p3]));refine ⟨_,.inl (S4.seq hS),_,.inl (S4.seq hS'),_,c8,⋯,⋯,?_,λl hl0=>?_⟩
 ·simp only [y0t,m0g]
  exact z0f (show _<=40 by omega) (by decide)
 have hz:(q0z ((xs.length:Int)+(ys.length:Int)-1).toNat [V.ref p3]).flatten=q0z (ps.length+qs.length-1) (V.ref p3):=by
  have e:((xs.length:Int)+(ys.length:Int)-1).toNat=ps.length+qs.length-1:=⋯;rw [e,List.flatten_replicate_singleton]
 rw [hz];have S5:=S4.trans (d4.new hl0 (.lst (q0z (ps.length+qs.length-1) (.ref p3))));have hlH:H l=none:=S4.free hl0;have ez:(upd (upd (upd (upd (upd H p (.lst [])) p2 (.lst [])) p3 (.tup [.int 0,.int 1])) p4 (.lst [.ref p3])) l (.lst (q0z (ps.length+qs.length-1) (.ref p3)))) p3=some (.tup (v7 0)):=d4.new hl0 _ _ _ (d4.new hp4 _ _ _ c8)
 refine ⟨_,rfl,a,rfl,⟨_,S5.seq hS⟩,V2 xs (λi σ H2 => ∃ o3 o4 o5 o6,σ=[some (.ref a),some (.ref b),some (.ref l),o3,o4,o5,o6]/\d4 H H2/\∃ zs,H2 l=some (.lst zs)/\k5 H2 zs (v4 0 (q0z (ps.length+qs.length-1) (0:Rat)) ps qs i)/\∀ v ∈ v4 0 (q0z (ps.length+qs.length-1) (0:Rat)) ps qs i,OvB (B*C) (V'+W+i*qs.length) v)
  ⟨_,_,_,_,rfl,S5,_,c8,k5.rep ez _,λv hv=>by rw [(List.mem_replicate.mp hv).2];exact OvB.zero _ _⟩ (λi σ H2 ⟨_,_,_,_,_,s2,_⟩=>s2.seq hS) ?_ ?_⟩
 ·rintro i x σ H2 r hx ⟨o3,o4,o5,o6,rfl,s2,zs,e2,n2,b2⟩ hr'
  obtain ⟨px,q,rfl,hq,hpx⟩:=hN.getV hx;have hi:=(q0s.mp hq).1;have sr:=d4.new hr' (.tup [.int i,.ref px]);refine ⟨_,_,rfl,SqT.of c8,rfl,_,_,rfl,_,_,rfl,rfl,?_⟩
  refine ⟨_,rfl,b,rfl,⟨_,(s2.trans sr).seq hS'⟩,V2 ys (λj σ H4 => ∃ o5 o6,σ=[some (.ref a),some (.ref b),some (.ref l),some (.int i),some (.ref px),o5,o6]/\d4 H H4/\∃ zs,H4 l=some (.lst zs)/\k5 H4 zs (p8 0 (v4 0 (q0z (ps.length+qs.length-1) (0:Rat)) ps qs i) i q qs j)/\∀ v ∈ p8 0 (v4 0 (q0z (ps.length+qs.length-1) (0:Rat)) ps qs i) i q qs j,OvB (B*C) (V'+W+(i*qs.length+j)) v)
   ⟨_,_,rfl,s2.trans sr,_,sr _ _ e2,n2.mono sr.tups,b2⟩ (λi σ H2 ⟨_,_,_,s2,_⟩=>s2.seq hS') ?_ ?_⟩
  ·rintro j y σ H4 t hy ⟨o5,o6,rfl,s4,zs4,e4,n4,b4⟩ ht
   obtain ⟨py,q',rfl,hq',hpy⟩:=hN'.getV hy;have hj:=(q0s.mp hq').1;have st:=d4.new ht (.tup [.int j,.ref py]);have e5:=st _ _ e4
   have hF:i+j<(p8 0 (v4 0 (q0z (ps.length+qs.length-1) (0:Rat)) ps qs i) i q qs j).length:=by
    rw [Q7,af6,u0p];omega
   have eg:=q0c hF;obtain ⟨pv,hv,hpv⟩:=(n4.mono st.tups).get eg;have ec:(i:Int)+(j:Int)=((i+j:Nat):Int):=⋯
   have hc:i*qs.length+j<400:=by
    have h1:i*qs.length<=19*qs.length:=z0b _ ⋯;omega
   subst_eqs
   have o1:=hs q (z0c hq);have o2:=hs' q' (z0c hq');have sq:=o1.bt hB hBe ⋯;have sq':=o2.bt hC hCe ⋯;refine ⟨_,SqT.of c8,rfl,_,_,rfl,_,_,rfl,rfl,_,rfl,_,SqL.of e5,_,(by rw [ec];exact X8 hv),?_⟩
   refine ⟨_,_,q,q',e,e,rfl,⟨px,rfl,SqT.of (st _ _ (s4 _ _ hpx))⟩,⟨py,rfl,SqT.of (st _ _ (s4 _ _ hpy))⟩,sq,sq',⋯,λr1 H5 s5 er1=>?_⟩;have bold:=b4 _ (y0w hF);refine ⟨_,_,_,_,e,e,rfl,⟨pv,rfl,SqT.of (s5 _ _ hpv)⟩,⟨r1,rfl,SqT.of er1⟩,bold.bt hBCp hBC ⋯,(o1.mul o2).bt hBCp hBC ⋯,⋯,λr2 H6 s6 er2=>?_⟩;have e6:=s6 _ _ (s5 _ _ e5);have lz:zs4.length=(p8 0 (v4 0 (q0z (ps.length+qs.length-1) (0:Rat)) ps qs i) i q qs j).length:=n4.length;have n6:k5 H6 zs4 (p8 0 (v4 0 (q0z (ps.length+qs.length-1) (0:Rat)) ps qs i) i q qs j):=((n4.mono st.tups).mono s5.tups).mono s6.tups
   have estep:p8 0 (v4 0 (q0z (ps.length+qs.length-1) (0:Rat)) ps qs i) i q qs (j+1)=E7 (p8 0 (v4 0 (q0z (ps.length+qs.length-1) (0:Rat)) ps qs i) i q qs j) (i+j) (q*q'):=by
    rw [p8,hq'];rfl
   refine ⟨_,rfl,_,e6,i+j,?_,(s4.trans (st.trans (s5.trans s6))).over hlH _,_,c8,?_,?_⟩
   ·rw [ec]
    unfold ixN;rw [if_pos ⋯,if_pos (by rw [lz];omega)]
    rfl
   ·rw [estep,<- Y4 _ _ _ _ eg]
    exact (n6.set (i+j) er2).mono (C9.lst e6)
   ·rw [estep]
    intro v hv';exact (aR2 hBCp b4 ((o1.mul o2).mono ⋯) v hv').mono ⋯
  ·rintro σ H4 ⟨o5,o6,rfl,s4,zs4,e4,n4,b4⟩
   refine ⟨_,_,_,_,rfl,s4,zs4,e4,?_,?_⟩
   ·rw [ly] at n4
    rw [v4,hq];exact n4
   ·rw [ly] at b4
    rw [v4,hq];intro v hv;refine (b4 v hv).mono ?_;have e:(i+1)*qs.length=i*qs.length+qs.length:=by grind
    omega
 ·rintro σ H2 ⟨o3,o4,o5,o6,rfl,s2,zs,e2,n2,b2⟩
  rw [lx] at n2 b2;have em:J8 ps qs=v4 0 (q0z (ps.length+qs.length-1) 0) ps qs ps.length:=by rw [J8,if_neg (by simp [np,nq])]
  rw [<- em] at n2 b2;refine ⟨_,rfl,l,zs,_,rfl,SqL.of e2,n2,λm r H3 tl s3 hr' e3=>?_⟩;refine k m r _ _ tl (λv hv=>(b2 v hv).mono ?_) (s2.trans s3) (s2.free hr') e3 ((n2.take m).mono s3.tups);have:ps.length*qs.length<=20*20:=j0c hl hl';omega
def NK (kd:Int) (q:Rat):Prop:=if kd=2 then BdN 40 q else if kd=0 then OvB 60 10 q else OvB 1 4 q
theorem bn0 {t d:Int} (h1:1<=d) (h6:d<=6) (h:t.natAbs<=9):OvB 60 10 (z0a t d):=by
 have h0:d=1 \/ d=2 \/ d=3 \/ d=4 \/ d=5 \/ d=6:=⋯;rcases h0 with rfl | rfl | rfl | rfl | rfl | rfl
 ·exact ⟨t*60,(z0n (by decide) (by decide)).mpr ⋯,⋯⟩
 ·exact ⟨t*30,(z0n (by decide) (by decide)).mpr ⋯,⋯⟩
 ·exact ⟨t*20,(z0n (by decide) (by decide)).mpr ⋯,⋯⟩
 ·exact ⟨t*15,(z0n (by decide) (by decide)).mpr ⋯,⋯⟩
 ·exact ⟨t*12,(z0n (by decide) (by decide)).mpr ⋯,⋯⟩
 ·exact ⟨t*10,(z0n (by decide) (by decide)).mpr ⋯,⋯⟩
theorem ov1 {t:Int} (h:t.natAbs<=9):OvB 1 4 (z0a t 1):=⟨t,rfl,⋯⟩
theorem NK.ovb0 {q:Rat} (h:NK 0 q):OvB 60 10 q:=by unfold NK at h;rw [if_neg (by decide),if_pos rfl] at h;exact h
theorem NK.ovb1 {q:Rat} (h:NK 1 q):OvB 1 4 q:=by unfold NK at h;rw [if_neg (by decide),if_neg (by decide)] at h;exact h
theorem bo6 {t b:Int} (hb:b ≠ 0) (h1:t.natAbs<=9) (h2:b.natAbs<=7):BdN 4 (z0a t b):=by
 have:=G5 (t:=t) hb;exact ⟨q0e this.1 ⋯,q0e this.2 ⋯⟩
def ae8:Sp:=λvs H Q _ => ∃ u kd,vs=[.ref u,.int kd]/\t6 H u/\∀ r q H',NK kd q->q8 u H H'->t6 H' u->H' r=some (.tup (v7 q))->Q (.ref r) H'
theorem ak0 {f fd fl:Addr} (d:Df K mg "_law_number" G8 ["_law_urn_here","_law_kind_here"] f) (G__law_draw:Def P w K mg base CX0 1 "_law_draw" fd ["_law_urn_here","_law_many"] M8) (G__law_low:Def P w K mg base CX0 1 "_law_low" fl ["_law_top","_law_bottom"] ah5) (n_int:mg "int" = none):Def P w K mg base CX0 2 "_law_number" f ["_law_urn_here","_law_kind_here"] ae8:=by
 refine d.ok (N:=["_law_urn_here","_law_kind_here","_law_top"]) U4 (λvs H Q E ⟨u,kd,h,_⟩=>by rw [h];rfl) (λcdv A outer s H vs Q E hr h=>?_)
 obtain ⟨u,kd,rfl,hu,k⟩:=h
 refine ⟨_,(c7 (w8 (i9 ac8 (pv 1) c6 (k4 _)) (c7 (d9 (i:=2) U4.nd rfl (z0r rfl) (f8 F8 (f8 m8 (d7 G__law_draw hr (b8 (pv 0) (b8 (f8 U6 c6 c6) b9)) e9) (f8 U6 c6 c6)) (d7 G__law_draw hr (b8 (pv 0) (b8 (f8 U6 c6 c6) b9)) e9)))
   (c9 (i5 (d7 G__law_low hr (b8 (f8 m8 (pv 2) (k3 r6 (z7 (b8 c6 (b8 (O8 E9 c6) b9))) (d7 G__law_draw hr (b8 (pv 0) (b8 c6 b9)) e9) (λ_ _=>rfl))) (b8 (f8 F8 c6 (f8 m8 (d7 G__law_draw hr (b8 (pv 0) (b8 (f8 U6 c6 c6) b9)) e9) (f8 U6 c6 c6))) b9)) e9)))) m6)
   (c9 (i5 (d7 G__law_low hr (b8 (f8 R7 (d7 G__law_draw hr (b8 (pv 0) (b8 c6 b9)) e9) c6) (b8 (f8 F8 c6 (f8 m8 (d7 G__law_draw hr (b8 (pv 0) (b8 c6 b9)) e9) (C1 aQ7 rfl n_int (by decide +kernel) (b8 (al0 ac8 (pv 1) c6 (k4 _)) b9)))) b9)) e9)))),?_⟩
 rw [show start ["_law_urn_here","_law_kind_here","_law_top"] [.ref u,.int kd]=[some (.ref u),some (.int kd),none] from rfl]
 have e10:(10:Int) ^ u0t 6=1000000:=by decide
 simp only [ipM,aC5,aC1,M0,D8,ah1,aF1,aC3,ah3,tSl,ag8,N6,aC2,aC4,O7,ai3,G0,j0x,m0v,Option.bind_none,Option.bind_some,Option.join_some,au4,aA9,aB1,tOr,aA7,Y9,tB,tOp,tUn,au8,tBM,K1,tC,tCB,au5,ap5,m9,aF5,N3,p9,N4,P6,aj0,au6,aA6,aA8,tIf,ah4,ag9,au7,ah2,ah0,U1,aB0,ipI,rI,rI0,rU,O6,aq2,aC6,ah6,rEq,rNe,aC7,aC8,ai1,ai0,ai2,ab5,Cx.nox,Cx.wish,g0y,y0y,u0b,v0c,Option.some.injEq,V.int.injEq,V.bl.injEq,V.ref.injEq,V.str.injEq,exists_eq_left',exists_eq_left,exists_and_left,true_and,and_true,List.cons.injEq,reduceCtorEq,g0f,if_false,if_true,exists_const,↓reduceIte,tyV,y0t,m0g,exists_eq,v0v,g0u,m0d,decide_eq_true_eq,not_true_eq_false,not_false_eq_true,g0n,decide_eq_false_iff_not,Bool.not_true,Bool.not_false,and_assoc,false_and,false_or,or_false,M8,aO3];refine t7 (λhk2=>?_) (λhk2=>?_)
 ·refine ⟨⟨by decide,by decide,by decide⟩,hu,by decide,by decide,λr2 H2 a2 b2 s2 u2=>?_⟩
  refine ⟨⟨by decide,by decide,by decide⟩,aE1 (by decide),⟨by decide,by decide,by decide⟩,u2,by decide,by decide,λr3 H3 a3 b3 s3 u3=>?_⟩
  refine ⟨by decide,λl hl=>⟨W0 u3 hl,by decide,by decide,λr4 H4 a4 b4 s4 u4=>?_⟩⟩
  have e:=s4 l _ c8 (al5 u3 hl);have b2':r2<1000000:=b2;have b3':r3<1000000:=b3;have sx:q8 u H H4:=s2.trans (s3.trans (q8.trans (d4.x (d4.new hl _) u) s4))
  have fin:∀ sg:Int,sg=1 \/ sg=-1->(bm4 10 6/\t6 H4 u/\0<(10:Int) ^ u0t 6/\(10:Int) ^ u0t 6<2 ^ 40/\∀ (r:Int) (H':Hp),0<=r->r<10 ^ u0t 6->q8 u H4 H'->t6 H' u ->
    bm4 10 6/\IntMulOk r (10 ^ u0t 6)/\ah5 [V.int ((r2*10 ^ u0t 6+r3)*sg),V.int (1+r*10 ^ u0t 6)] H' Q E0):=by
   intro sg hsg;refine ⟨⟨by decide,by decide,by decide⟩,u4,by decide,by decide,λr5 H5 a5 b5 s5 u5=>⟨⟨by decide,by decide,by decide⟩,aE1 (by decide),?_⟩⟩
   rw [e10] at b5 ⊢;refine ⟨_,_,rfl,⋯,q0b (show (1+r5*1000000).natAbs<2 ^ 64 by omega) (c5 (by decide)),λr H' sm hr'=>?_⟩
   refine k r _ H' (by unfold NK;rw [if_pos hk2];refine (bm6 ⋯ ?_ ⋯).bdN;rcases hsg with h | h <;> subst h <;> omega) (sx.trans (s5.trans (d4.x sm u))) (d4.urn sm u5) hr'
  have h3:r4=0 \/ r4=1:=⋯;rcases h3 with h | h <;> subst h
  ·exact ⟨_,SqL.of e,_,rfl,_,rfl,aE1 (by decide),fin 1 (.inl rfl)⟩
  ·exact ⟨_,SqL.of e,_,rfl,_,rfl,aE1 (by decide),fin (-1) (.inr rfl)⟩
 ·refine ⟨hu,by decide,by decide,λr2 H2 a2 b2 s2 u2=>⟨u2,by decide,by decide,λr3 H3 a3 b3 s3 u3=>⟨bi8 ⋯,?_⟩⟩⟩
  have hz:∃ z:Int,z=r3*(if kd=0 then 1 else 0)/\0<=z/\z<=5/\(kd ≠ 0->z=0):=by
   refine ⟨_,rfl,?_,?_,?_⟩
   ·split <;> omega
   ·split <;> omega
   ·intro h;rw [if_neg h,g0a]
  obtain ⟨z,ez,z0,z6,zk⟩:=hz;rw [<- ez];refine ⟨_,_,rfl,⋯,q0b (show (1+z).natAbs<2 ^ 64 by omega) (c5 (by decide)),λr H' sm hr'=>?_⟩
  exact k r _ H' (by
   unfold NK;rw [if_neg hk2]
   by_cases h0:kd=0
   ·rw [if_pos h0];exact bn0 ⋯ ⋯ ⋯
   ·rw [if_neg h0,zk h0];exact ov1 ⋯) (s2.trans (s3.trans (d4.x sm u))) (d4.urn sm u3) hr'
def al6:Sp:=λvs H Q _ => ∃ u kd,vs=[.ref u,.int kd]/\t6 H u/\∀ r q H',NK kd q->q ≠ 0->q8 u H H'->t6 H' u->H' r=some (.tup (v7 q))->Q (.ref r) H'
theorem an3 {f fd fl:Addr} (d:Df K mg "_law_other" K8 ["_law_urn_here","_law_kind_here"] f) (G__law_draw:Def P w K mg base CX0 1 "_law_draw" fd ["_law_urn_here","_law_many"] M8) (GD__law_number:Def P w K mg base CX0 2 "_law_number" fl ["_law_urn_here","_law_kind_here"] ae8):Def P w K mg base CX0 3 "_law_other" f ["_law_urn_here","_law_kind_here"] al6:=by
 refine d.ok (N:=["_law_urn_here","_law_kind_here","_law_found"]) Z3 (λvs H Q E ⟨u,kd,h,_⟩=>by rw [h];rfl) (λcdv A outer s H vs Q E hr h=>?_)
 obtain ⟨u,kd,rfl,hu,k⟩:=h;have G__law_number:=GD__law_number
 refine ⟨_,(c7 (d9 (i:=2) Z3.nd rfl (z0r rfl) (d7 G__law_number hr (b8 (pv 0) (b8 (pv 1) b9)) e9))
   (c7 (w8 (i9 ac8 (k3 k9 (pv 2) c6 (λ_ _=>rfl)) c6 (k4 _)) (c9 (i5 (y7 (b8 (f8 F8 c6 (d7 G__law_draw hr (b8 (pv 0) (b8 c6 b9)) e9)) (b8 c6 b9))))) m6)
   (c9 (i5 (pv 2))))),?_⟩
 rw [show start ["_law_urn_here","_law_kind_here","_law_found"] [.ref u,.int kd]=[some (.ref u),some (.int kd),none] from rfl]
 simp! [M8]
 refine ⟨u,kd,rfl,hu,λr q H1 sm s1 u1 e1=>?_⟩;refine ⟨r,rfl,_,SqT.of e1,_,at0 q,rfl,t7 (λ_=>?_) (λhn=>?_)⟩
 ·refine ⟨u1,by decide,by decide,λr2 H2 a2 b2 s2 u2=>⟨y3,λl hl=>?_⟩⟩
  have hd:=ab0 (n:=1+r2) (d:=1) (by decide) (by simp)
  refine k l (z0a (1+r2) 1) _ (by
   unfold NK
   split
   ·exact (bo6 (by decide) ⋯ (by decide)).mono (by decide)
   ·split
    ·exact bn0 (by decide) (by decide) ⋯
    ·exact ov1 ⋯) ?_ (s1.trans (s2.trans (d4.x (d4.new hl _) u))) (W0 u2 hl) ?_
  ·intro z
   rw [z] at hd;have:(0:Rat).num=0:=rfl;omega
  ·rw [c8]
   unfold v7;rw [hd.1,hd.2]
 ·refine k r q H1 sm (λz=>hn ?_) s1 u1 e1
  rw [z];rfl
def ac0:Sp:=λvs H Q _ => ∃ u kd most,vs=[.ref u,.int kd,.int most]/\t6 H u/\0<=most/\most<1000/\∀ r xs qs q H',q8 u H H'->t6 H' u->H r=none->H' r=some (.lst xs)->k5 H' xs (qs ++ [q])->(∀ p ∈ qs,NK kd p)->NK kd q->q ≠ 0->(qs.length:Int)<=most->Q (.ref r) H'
theorem Y7 {f fd fn fo:Addr} (d:Df K mg "_law_drawn_poly" w5 ["_law_urn_here","_law_kind_here","_law_most"] f) (G__law_draw:Def P w K mg base CX0 1 "_law_draw" fd ["_law_urn_here","_law_many"] M8) (GD__law_number:Def P w K mg base CX0 2 "_law_number" fn ["_law_urn_here","_law_kind_here"] ae8) (GD__law_other:Def P w K mg base CX0 3 "_law_other" fo ["_law_urn_here","_law_kind_here"] al6)
  (n_range:mg "range" = none):Def P w K mg base CX0 4 "_law_drawn_poly" f ["_law_urn_here","_law_kind_here","_law_most"] ac0:=by
 refine d.ok (N:=["_law_urn_here","_law_kind_here","_law_most"]) aa4 (λvs H Q E ⟨u,kd,mo,h,_⟩=>by rw [h];rfl) (λcdv A outer s H vs Q E hr h=>?_)
 obtain ⟨u,kd,most,rfl,hu,m0,m1,k⟩:=h;have G__law_number:=GD__law_number;have G__law_other:=GD__law_other;refine ⟨_,(c9 (i5 (f8 aU9 (D6 (Nc:=["_law_urn_here","_law_kind_here","_law_i"]) (caps:=[some 0,some 1,none]) rfl (T9.of (osc:=d6 w5) (N:=["_law_urn_here","_law_kind_here","_law_most"]) (ks:=["_law_urn_here","_law_kind_here"]) rfl rfl rfl rfl (A7 rfl (A7 rfl A3)) (by decide +kernel)) (W9 rfl n_range (b8 (d7 G__law_draw hr (b8 (pv 0) (b8 (f8 F8 (pv 2) c6) b9)) e9) b9)) (λC s₂ H₂ fp pins=>(i3 (i:=2) (show y0r (["_law_urn_here","_law_kind_here","_law_i"]:List Str) by decide +kernel) rfl (z0r rfl) (v0q rfl))) (λC s₂ H₂ fp pins=>(d7 G__law_number hr (b8 (pv 0) (b8 (pv 1) b9)) e9))) (z7 (b8 (d7 G__law_other hr (b8 (pv 0) (b8 (pv 1) b9)) e9) b9))))),?_⟩
 rw [show start ["_law_urn_here","_law_kind_here","_law_most"] [.ref u,.int kd,.int most]=[some (.ref u),some (.int kd),some (.int most)] from rfl]
 simp! [M8]
 refine ⟨hu,⋯,⋯,λr1 H1 a1 b1 s1 u1=>⟨⋯,⋯,λD hD=>?_⟩⟩;have hDu:D ≠ u:=al5 u1 hD
 refine aG2 (λi σ H2 => ∃ o,σ=[some (.ref u),some (.int kd),o]/\q8 u H1 H2/\t6 H2 u/\∃ xs qs,H2 D=some (.lst xs)/\k5 H2 xs qs/\qs.length=i/\∀ p ∈ qs,NK kd p)
  ⟨_,rfl,d4.x (d4.new hD _) u,W0 u1 hD,[],[],c8,.nil,rfl,by simp⟩ ?_ ?_
 ·rintro i σ H2 hi ⟨o,rfl,s2,u2,xs,qs,e,n,hl,hs⟩
  subst_eqs
  refine ⟨u,kd,rfl,u2,λrn q H3 sq s3 u3 e3=>?_⟩;have e4:=s3 D _ e hDu;refine D4.mk hi e4 (by rw [n.length,hl];exact q0b (show i<1000 by omega) (by decide)) ?_
  refine ⟨_,rfl,(s2.trans s3).over hD _,u3.other hDu,_,c8,qs ++ [q],((n.mono (s3.tups u2)).append (.cons e3 .nil)).mono (C9.lst e4),by simp [hl],λp hp=>?_⟩
  rcases v0u.mp hp with z | z
  ·exact hs p z
  ·rw [y0h.mp z];exact sq
 ·rintro σ H2 ⟨o,rfl,s2,u2,xs,qs,e,n,hl,hs⟩
  subst_eqs
  refine ⟨u,kd,rfl,u2,λro q H3 sq q0 s3 u3 e3=>⟨by decide,λp hp=>?_⟩⟩
  have e4:=s3 D _ e hDu;have pD:D ≠ p:=e8 e4 hp;refine ⟨_,(by rw [i7 pD];exact e4),_,c8,?_,λp2 hp2=>?_⟩
  ·rw [n.length,hl]
   exact z0f (show r1.toNat+1<=1001 by omega) (by decide)
  ·have hp3:=aD8 hp2
   have sx:q8 u H H3:=s1.trans (s2.trans s3);refine k p2 _ qs q _ ((sx.trans (d4.x (d4.new hp _) u)).trans (d4.x (d4.new hp2 _) u)) (W0 (W0 u3 hp) hp2) (sx.free u3 hp3) c8 ?_ hs sq q0 ⋯;exact (((n.mono (s3.tups u2)).append (.cons e3 .nil)).mono (C9.new hp)).mono (C9.new hp2)
theorem aQ2 {P0 Q0 A B:List Int} {L K c:Nat} (hP:P0.length<=L) (hQ:Q0.length+1<=L) (kP:∀ k,(aZ P0 k).natAbs<=K) (kQ:∀ k,(aZ Q0 k).natAbs<=K) (hK:1<=K) (hc:2*(2*L-5)*K<=2 ^ c) (hc1:1<=c)
  (eu:Eu (zc P0) (zc Q0) (zc A) (zc B) P0.length Q0.length A.length B.length) (lA:A.length<=L) (lB:B.length<A.length) (tB:k7 B B.length) (gB:B ≠ []->i6 B=1):∀ k,(aZ B k).natAbs<2 ^ (c*(2*(L-A.length)+1)):=by
 intro k
 have cpos:1<=c*(2*(L-A.length)+1):=by
  have:1*1<=c*(2*(L-A.length)+1):=j0c hc1 ⋯;omega
 have p1:2 ^ 1<=2 ^ (c*(2*(L-A.length)+1)):=v0n ⋯ cpos
 by_cases h0:B=[]
 ·subst h0
  show (0:Int).natAbs<_;simp only [Int.natAbs_zero];omega
 have bpos:0<B.length:=by
  cases B with
  | nil=>exact absurd rfl h0
  | cons=>simp
 by_cases h1:B.length=1
 ·obtain ⟨v,rfl⟩:∃ v,B=[v]:=by
   match B,h1 with
   | [v],_=>exact ⟨v,rfl⟩
  have g:=gB h0
  have gv:v.natAbs=1:=by
   have:i6 [v]=q0w v 0:=rfl;rw [this] at g
   simpa using g
  cases k with
  | zero =>
   show v.natAbs<_;omega
  | succ k =>
   show (0:Int).natAbs<_;simp only [Int.natAbs_zero];omega
 have hb:=Eu.bound (K:=K) eu lB bpos (gB h0) kP kQ hK rfl k;obtain ⟨N,hN⟩:∃ N,N=2*(L-A.length)+1:=⟨_,rfl⟩;obtain ⟨M,hM⟩:∃ M,M=(Q0.length-(A.length-1))+(P0.length-(A.length-1)):=⟨_,rfl⟩;rw [<- hM] at hb;have hle:M<=N:=⋯;have hp:(2*M*K) ^ (M-1)<=(2*N*K) ^ (N-1):=z0f (g0d (z0b _ (z0j 2 hle)) _) (v0n (j0q ⋯ ⋯) ⋯);rw [<- hN];refine q0e (z0f hb (j0c hle (z0j _ hp))) ?_;have h2:2*N*K<=2 ^ c:=z0f (z0b _ ⋯) hc;have e1:N=(N-1)+1:=⋯;have h3:(2*N*K) ^ N<=(2 ^ c) ^ N:=g0d h2 _;rw [<- Nat.pow_mul] at h3;refine q0b ?_ h3;have h4:0<(2*N*K) ^ (N-1):=q1c (j0q ⋯ ⋯);have h5:0<N*(K*(2*N*K) ^ (N-1)):=j0q ⋯ (j0q ⋯ h4)
 have h6:(2*N*K) ^ N=2*(N*(K*(2*N*K) ^ (N-1))):=by
  conv=>lhs;rw [e1,v0k]
  rw [<- e1];generalize (2*N*K) ^ (N-1)=y
  grind
 omega
theorem SgS.stepL {c d0 L K:Nat} {P0 Q0 A B C Rz:List Int} {s t s':Rat} {many g:Int} {Qf:Nat->Rat} {lQ:Nat} (S:SgS c d0 L K P0 Q0 s t A B) (hP:P0.length<=L) (hQ:Q0.length+1<=L) (kP:∀ k,(aZ P0 k).natAbs<=K) (kQ:∀ k,(aZ Q0 k).natAbs<=K) (hK:1<=K) (hc:2*(2*L-5)*K<=2 ^ c) (hc1:1<=c)
  (hB:0<B.length) (hm:many ≠ 0) (mb:many.natAbs<2 ^ ((A.length-B.length+1)*(c*(2*(L-A.length)+1))+1)) (dv:∀ k,(many:Rat)*zc A k=cv Qf (zc B) k+zc Rz k) (hQf:Dg Qf lQ)
  (hR:∀ k,aZ Rz k=g*aZ C k) (g0:g ≠ 0) (gb:g.natAbs<2 ^ (c*(2*(L-A.length)+1)+(A.length-B.length+1)*(c*(2*(L-A.length)+1)+1))) (tC:k7 C C.length) (lC:C.length<B.length) (gC:C ≠ []->i6 C=1) (es:s'=s*(g:Rat)*(many:Rat)⁻¹ \/ s'=- (s*(g:Rat)*(many:Rat)⁻¹)) :
  SgS c d0 L K P0 Q0 t s' B C:=by
 obtain ⟨x,hx⟩:∃ x,x=L-A.length:=⟨_,rfl⟩;obtain ⟨δ,hδ⟩:∃ δ,δ=A.length-B.length:=⟨_,rfl⟩;have lA:=S.lA;have lB:=S.lB;have xB:L-B.length=x+δ:=⋯;have hm':(many:Rat) ≠ 0:=λw=>hm (q0y.mp (by rw [w,q0k]))
 have hg':(g:Rat) ≠ 0:=λw=>g0 (q0y.mp (by rw [w,q0k]))
 have eu':Eu (zc P0) (zc Q0) (zc B) (zc C) P0.length Q0.length B.length C.length:=Eu.step S.eu ⋯ (A6 B) hB (T5 (v5 S.tB hB)) (A6 C) lC hm' hg' hQf λk=>by
  rw [dv k]
  congr 1
  unfold zc;rw [hR k,q0n]
 rw [<- hx,<- hδ] at mb gb;obtain ⟨q,hq,qn,qd⟩:=af1 (s:=s) (g:=g) hm
 have en:s'.num.natAbs=q.num.natAbs/\s'.den=q.den:=by
  rcases es with h | h
  ·rw [h,<- hq];exact ⟨rfl,rfl⟩
  ·rw [h,<- hq];exact ⟨by rw [show (-q).num=-q.num from rfl,Int.natAbs_neg],rfl⟩
 have sd:=S.sd;have sn:=S.sn;rw [<- hx] at sd sn;have st:=bd8 c x δ ⋯;have b1:=aQ9 c x δ ⋯;have b2:=aQ8 c x δ ⋯
 have dd:s'.den<2 ^ (d0+bF c (x+δ)):=by
  rw [en.2];refine q0e qd ?_;have:=j0g sd mb;rw [<- j0v] at this;exact q0b this (c5 ⋯)
 have dn:s'.num.natAbs<2 ^ (d0+2*bF c (x+δ)):=by
  rw [en.1];refine q0e qn ?_;have:=j0g sn gb;rw [<- j0v] at this;exact q0b this (c5 ⋯)
 have up:c*(2*x+1)<=c*(2*(x+δ)+1):=z0j _ ⋯;have bm:bF c x<=bF c (x+δ-1):=aA0 c ⋯
 have q0:q ≠ 0:=by
  rw [hq];intro w;have h1:=q0j _ S.s0;have h2:=q0j _ hg';have h3:=q0j _ hm'
  have h4:(1:Rat)=(s*(g:Rat)*(many:Rat)⁻¹)*(s⁻¹*(g:Rat)⁻¹*(many:Rat)):=by
   generalize s⁻¹=a at *;generalize (g:Rat)⁻¹=b at *;generalize (many:Rat)⁻¹=e at *
   grind
  rw [w] at h4;exact absurd h4 (by grind)
 refine ⟨S.tB,tC,⋯,lC,gC,eu',S.t0,?_,?_,?_,?_,?_,?_,?_⟩
 ·rcases es with h | h
  ·rw [h,<- hq];exact q0
  ·rw [h,<- hq];intro w;exact q0 (by grind)
 ·intro k
  rw [xB];have:=S.wB k;rw [<- hx] at this;exact q0b this (c5 up)
 ·exact aQ2 hP hQ kP kQ hK hc hc1 eu' ⋯ lC tC gC
 ·rw [xB]
  have:=S.td;rw [<- hx] at this;exact q0b this (c5 ⋯)
 ·rw [xB]
  have:=S.tn;rw [<- hx] at this;exact q0b this (c5 ⋯)
 ·rw [xB];exact dd
 ·rw [xB];exact dn
theorem aw2 {Lz:List Int} (tz:k7 Lz Lz.length):∃ (g:Int) (C:List Int),g ≠ 0/\C.length=Lz.length/\k7 C C.length/\(C ≠ []->i6 C=1)/\(∀ k,aZ Lz k=g*aZ C k)/\(∀ b,(∀ k,(aZ Lz k).natAbs<2 ^ b)->1<=b->g.natAbs<2 ^ b/\∀ k,(aZ C k).natAbs<2 ^ b)/\∀ s,scl (s*(g:Rat)) C=scl s Lz:=by
 by_cases hL:Lz=[]
 ·subst hL
  exact ⟨1,[],by decide,rfl,aS2,λz=>absurd rfl z,λk=>by rw [Int.one_mul],λb h h1=>⟨u0c ⋯,h⟩,λs=>rfl⟩
 have lpos:0<Lz.length:=j0s.mpr hL;have lead:=v5 tz lpos
 have g0:i6 Lz ≠ 0:=λz=>by
  refine lead ?_;have hl:Lz.length-1<Lz.length:=⋯;have:=r9 (y0w hl:Lz[Lz.length-1] ∈ Lz);rw [z] at this;unfold aZ;rw [q0c hl];exact g0w.mp this
 have e:=ao3 g0 λv hv=>r9 hv;refine ⟨((i6 Lz:Nat):Int),Lz.map λv=>v.fdiv ((i6 Lz:Nat):Int),⋯,q0m _,ak4 tz (q0m _) e,λ_=>ag1 rfl g0 (q0m _) e,e,λb hb h1=>⟨?_,λk=>?_⟩,λs=>u0g λk=>?_⟩
 ·have h1:=hb (Lz.length-1)
  rw [e,q0x] at h1;refine q0e (y0z _ (Nat.pos_of_ne_zero λz=>lead ?_)) h1;rw [e,Int.natAbs_eq_zero.mp z,g0a]
 ·have h1:=hb k
  rw [e,q0x] at h1;exact q0e (j0p _ ⋯) h1
 ·have h1:=e k
  unfold aZ at h1;unfold scl;rw [q0q,q0q];rw [q0q] at h1 ⊢
  cases hk:Lz[k]? with
  | none=>rfl
  | some v =>
   rw [hk] at h1;have h2:v=((i6 Lz:Nat):Int)*v.fdiv ((i6 Lz:Nat):Int):=h1
   show some (s*(((i6 Lz:Nat):Int):Rat)*((v.fdiv ((i6 Lz:Nat):Int):Int):Rat))=some (s*(v:Rat));have h3:(v:Rat)=(((i6 Lz:Nat):Int):Rat)*((v.fdiv ((i6 Lz:Nat):Int):Int):Rat):=by rw [<- q0n,<- h2]
   rw [h3]
   congr 1
   grind
def bp4:Bool:=(j0f 7).all λla=>(j0f la).all λlb =>
 let x:=6-la
 let d:=la-lb
 let w:=79*(2*x+1)
 let lw:=if lb=1 then 1 else w
 decide (lb=0 \/ (76+bF 79 (x-1)+(d+1)*lw+1+(76+2*bF 79 x+lw)+(76+bF 79 x)<=6000/\2*(76+bF 79 (x-1)+(d+1)*lw+1)<=6000/\76+2*bF 79 (x-1)+(w+(d+1)*(lw+1))+(76+bF 79 x)+lw<=19000))
theorem bm7:bp4=true:=by decide +kernel
theorem bh0 {la lb:Nat} (h1:la<=6) (h2:lb<la) (h3:0<lb):76+bF 79 (6-la-1)+(la-lb+1)*(if lb=1 then 1 else 79*(2*(6-la)+1))+1+(76+2*bF 79 (6-la)+(if lb=1 then 1 else 79*(2*(6-la)+1)))+(76+bF 79 (6-la))<=6000/\2*(76+bF 79 (6-la-1)+(la-lb+1)*(if lb=1 then 1 else 79*(2*(6-la)+1))+1)<=6000/\76+2*bF 79 (6-la-1)+(79*(2*(6-la)+1)+(la-lb+1)*((if lb=1 then 1 else 79*(2*(6-la)+1))+1))+(76+bF 79 (6-la))+(if lb=1 then 1 else 79*(2*(6-la)+1))<=19000:=by
 have h4:=u0m.mp bm7 la (v0h.mpr ⋯);have h5:=of_decide_eq_true (u0m.mp h4 lb (v0h.mpr h2));rcases h5 with z | z
 ·omega
 ·exact z
structure ShI (s t:Rat) (A B:List Int):Prop where
 s0:s ≠ 0
 t0:t ≠ 0
 tA:k7 A A.length
 tB:k7 B B.length
 pA:0<A.length
 lA:A.length<=6
 lB:B.length<=6
 cop:Cop (zp A) (zp B)
 st:B ≠ []->(∃ P0 Q0:List Int,P0.length<=6/\Q0.length+1<=6/\(∀ k,(aZ P0 k).natAbs<=2 ^ 75)/\(∀ k,(aZ Q0 k).natAbs<=2 ^ 75)/\SgS 79 76 6 (2 ^ 75) P0 Q0 s t A B) \/ (i6 B=1/\(∀ k,(aZ A k).natAbs<2 ^ 37)/\(∀ k,(aZ B k).natAbs<2 ^ 37)/\s.den<2 ^ 37/\s.num.natAbs<=1/\t.den<2 ^ 37/\t.num.natAbs<=1/\A.length<=B.length)
 fin:B=[]->s.den<2 ^ 1680/\s.num.natAbs<2 ^ 3280/\i6 A=1
theorem aG5 {A B Lz C:List Int} {many g:Int} {Qf:Nat->Rat} {lQ:Nat} (h:Cop (zp A) (zp B)) (m0:many ≠ 0) (dQ:Dg Qf lQ) (e:∀ k,(many:Rat)*zc A k=cv Qf (zc B) k+zc Lz k) (eg:∀ k,aZ Lz k=g*aZ C k):Cop (zp B) (zp C):=by
 obtain ⟨u,v,fu,fv,e1⟩:=h;have mi:=u9 (n9 m0)
 have hL:zp Lz=d5 (g:Rat)*zp C:=Pf.ext λk=>by
  rw [u8]
  show zc Lz k=_*zc C k;unfold zc;rw [eg,q0n]
 have hA:d5 (many:Rat)*zp A=⟨Qf⟩*zp B+d5 (g:Rat)*zp C:=Pf.ext λk=>by
  rw [u8,af5,<- hL];exact e k
 have fq:Fn ⟨Qf⟩:=⟨lQ,dQ⟩
 have h2:zp A=d5 (many:Rat)⁻¹*(⟨Qf⟩*zp B+d5 (g:Rat)*zp C):=by
  rw [<- hA];generalize d5 (many:Rat)⁻¹=i at *
  grind
 refine ⟨u*d5 (many:Rat)⁻¹*⟨Qf⟩+v,u*d5 (many:Rat)⁻¹*d5 (g:Rat),((fu.mul (t9 _)).mul fq).add fv,(fu.mul (t9 _)).mul (t9 _),?_⟩;rw [<- e1,h2];generalize d5 (many:Rat)⁻¹=i at *;generalize (⟨Qf⟩:Pf)=q at *;generalize d5 (g:Rat)=y at *
 grind
theorem aU5 {B:List Int} (h:B.length=1) (g:i6 B=1) (k:Nat):(aZ B k).natAbs<2 ^ 1:=by
 match B,h with
 | [v],_ =>
  have:i6 [v]=q0w v 0:=rfl;rw [this] at g
  cases k with
  | zero=>show v.natAbs<_;simp at g;omega
  | succ k=>show (0:Int).natAbs<_;decide
theorem ShI.next {s t:Rat} {A B:List Int} (I:ShI s t A B) (hB:B ≠ []):∃ w wB d1 n1 d2 n2,(∀ k,(aZ A k).natAbs<2 ^ w)/\(∀ k,(aZ B k).natAbs<2 ^ wB)/\s.den<2 ^ d1/\s.num.natAbs<2 ^ n1/\t.den<2 ^ d2/\t.num.natAbs<2 ^ n2/\d1+(A.length-B.length+1)*wB+1+(n2+wB)+d2<=6000/\2*(d1+(A.length-B.length+1)*wB+1)<=6000/\n1+(w+(A.length-B.length+1)*(wB+1))+d2+wB<=19000/\1<=d2 /\
  ∀ (Lz:List Int) (many:Int),k7 Lz Lz.length->Lz.length<B.length->many ≠ 0->many.natAbs<2 ^ ((A.length-B.length+1)*wB+1)->(∀ k,(aZ Lz k).natAbs<2 ^ (w+(A.length-B.length+1)*(wB+1)))->(∃ (Qf:Nat->Rat) (lQ:Nat),Dg Qf lQ/\∀ k,(many:Rat)*zc A k=cv Qf (zc B) k+zc Lz k)->∃ (t':Rat) (C:List Int),scl t' C=scl (s*(many:Rat)⁻¹) Lz/\C.length=Lz.length/\ShI t t' B C:=by
 have bpos:0<B.length:=j0s.mpr hB;rcases I.st hB with ⟨P0,Q0,lP,lQ0,kP,kQ,S⟩ | ⟨gB,bA,bB,sd,sn,td,tn,lAB⟩
 ·have slA:=S.lA
  have slB:=S.lB;have ok:=bh0 S.lA S.lB bpos;obtain ⟨wd,hwd⟩:∃ wd,wd=79*(2*(6-A.length)+1):=⟨_,rfl⟩;have swA:=S.wA;have swB:=S.wB;rw [<- hwd] at ok swA swB;obtain ⟨wB,hwB⟩:∃ wB,wB=if B.length=1 then 1 else wd:=⟨_,rfl⟩;rw [<- hwB] at ok;have wpos:79<=wd:=⋯;have wBle:wB<=wd:=by rw [hwB];split <;> omega
  have bB:∀ k,(aZ B k).natAbs<2 ^ wB:=λk=>by
   rw [hwB]
   by_cases h1:B.length=1
   ·rw [if_pos h1];exact aU5 h1 (S.gB hB) k
   ·rw [if_neg h1];exact swB k
  refine ⟨wd,wB,_,_,_,_,swA,bB,S.sd,S.sn,S.td,S.tn,ok.1,ok.2.1,ok.2.2,⋯,λLz many tz lt m0 mb bz rel=>?_⟩;obtain ⟨g,C,g0,lC,tC,gC,eg,bg,es⟩:=aw2 tz;obtain ⟨Qf,lQ,dQ,e⟩:=rel;have mSw:=z0j (A.length-B.length+1) wBle;have mSw1:=z0j (A.length-B.length+1) (show wB+1<=wd+1 by omega)
  have gb:=(bg (wd+(A.length-B.length+1)*(wd+1)) (λk=>q0b (bz k) (c5 ⋯)) ⋯).1;have mb':many.natAbs<2 ^ ((A.length-B.length+1)*wd+1):=q0b mb (c5 ⋯);rw [hwd] at gb mb';have hK:1<=2 ^ 75:=Nat.one_le_two_pow;have mq:=n9 m0;have gq:=n9 g0;have S':=SgS.stepL S lP lQ0 kP kQ hK (by decide) (by decide) bpos m0 mb' e dQ eg g0 gb tC ⋯ gC (.inl rfl)
  refine ⟨s*(g:Rat)*(many:Rat)⁻¹,C,by rw [<- es,show s*(g:Rat)*(many:Rat)⁻¹=s*(many:Rat)⁻¹*(g:Rat) by grind],lC,⟨S.t0,S'.t0,S.tB,tC,bpos,⋯,⋯,aG5 I.cop m0 dQ e eg,λ_=>.inl ⟨P0,Q0,lP,lQ0,kP,kQ,S'⟩,λ_=>⟨q0b S.td (c5 ?_),q0b S.tn (c5 ?_),S.gB hB⟩⟩⟩
  ·have:=aA0 79 (show 6-A.length<=4 by omega)
   have:bF 79 4=1600:=by decide
   omega
  ·have:=aA0 79 (show 6-A.length<=4 by omega)
   have:bF 79 4=1600:=by decide
   omega
 ·have lB:=I.lB
  have z0:A.length-B.length=0:=⋯;rw [z0];refine ⟨37,37,37,37,37,37,bA,bB,sd,q0e sn (by decide),td,q0e tn (by decide),by decide,by decide,by decide,by decide,λLz many tz lt m0 mb bz rel=>?_⟩
  obtain ⟨g,C,g0,lC,tC,gC,eg,bg,es⟩:=aw2 tz;obtain ⟨Qf,lQ,dQ,e⟩:=rel;obtain ⟨gb,bC⟩:=bg 75 bz (by decide)
  have mq:=n9 m0;have gq:=n9 g0;obtain ⟨q,hq,qn,qd⟩:=af1 (s:=s) (g:=g) m0
  have q0:q ≠ 0:=λw=>by
   have h1:=q0j _ I.s0;have h2:=q0j _ gq;have h3:=q0j _ mq;rw [hq] at w
   have h4:(1:Rat)=(s*(g:Rat)*(many:Rat)⁻¹)*(s⁻¹*(g:Rat)⁻¹*(many:Rat)):=by
    generalize s⁻¹=a at *;generalize (g:Rat)⁻¹=b at *;generalize (many:Rat)⁻¹=e at *
    grind
   rw [w] at h4;exact absurd h4 (by grind)
  have lt1:∀ x:Nat,75<=79*(2*x+1):=λx=>⋯;have bB75:∀ k,(aZ B k).natAbs<2 ^ 75:=λk=>q0b (bB k) (c5 (by decide))
  have dd:q.den<2 ^ 75:=q0e qd (by
   have:=j0g sd mb;rw [<- j0v] at this;exact this)
  have dn:q.num.natAbs<2 ^ 75:=q0e qn (q0e (z0b _ sn) (by rw [v0s];exact gb))
  refine ⟨q,C,by rw [<- es,hq,show s*(g:Rat)*(many:Rat)⁻¹=s*(many:Rat)⁻¹*(g:Rat) by grind],lC,⟨I.t0,q0,I.tB,tC,bpos,lB,⋯,aG5 I.cop m0 dQ e eg,λhC=>.inl ⟨B,C,lB,⋯,λk=>y0c (bB75 k),λk=>y0c (bC k),I.tB,tC,lB,⋯,gC,Eu.base,I.t0,q0,λk=>q0b (bB75 k) (c5 (lt1 _)),λk=>q0b (bC k) (c5 (lt1 _)),q0b td (c5 ⋯),q0e tn (u0c ⋯),q0b dd (c5 ⋯),q0b dn (c5 ⋯)⟩,λ_=>⟨q0b td (c5 (by decide)),q0e tn (u0c (by decide)),gB⟩⟩⟩
theorem ShI.last {s t:Rat} {A:List Int} (I:ShI s t A []):∃ v:Int,A=[v]/\v.natAbs=1:=by
 obtain ⟨u,v,fu,fv,e⟩:=I.cop;rw [aR4] at e;have e1:zp A*u=1:=by grind
 have ld:=v5 I.tA I.pA;have hA:Lm (zp A) (A.length-1):=⟨λk hk=>A6 A k ⋯,T5 ld⟩;obtain ⟨a,b,ha,hb,ab⟩:=K9 (Z8 A) fu (by rw [e1];exact af9)
 have:=P5 hA ha;have pA:=I.pA;have l1:A.length=1:=⋯;obtain ⟨_,_,g⟩:=I.fin rfl
 match A,l1 with
 | [v],_ =>
  have:i6 [v]=q0w v 0:=rfl;rw [this] at g;exact ⟨v,rfl,by simpa using g⟩
theorem aB7 {s t:Rat} {A B:List Int} (s0:s ≠ 0) (t0:t ≠ 0) (tA:k7 A A.length) (tB:k7 B B.length) (pA:0<A.length) (lA:A.length<=6) (lB:B.length<=6) (cop:Cop (zp A) (zp B)) (gB:i6 B=1) (nB:B ≠ []) (bA:∀ k,(aZ A k).natAbs<2 ^ 37) (bB:∀ k,(aZ B k).natAbs<2 ^ 40) (sd:s.den<2 ^ 37) (sn:s.num.natAbs<=1) (td:t.den<2 ^ 37) (tn:t.num.natAbs<2 ^ 40) (h:B.length<A.length \/ (A.length<=B.length/\(∀ k,(aZ B k).natAbs<2 ^ 37)/\t.num.natAbs<=1)):ShI s t A B:=by
 have lt1:∀ x:Nat,75<=79*(2*x+1):=λx=>⋯;have bA75:∀ k,(aZ A k).natAbs<2 ^ 75:=λk=>q0b (bA k) (c5 (by decide))
 have bB75:∀ k,(aZ B k).natAbs<2 ^ 75:=λk=>q0b (bB k) (c5 (by decide))
 refine ⟨s0,t0,tA,tB,pA,lA,lB,cop,λ_=>?_,λz=>absurd z nB⟩;rcases h with h | ⟨h1,h2,h3⟩
 ·exact .inl ⟨A,B,lA,⋯,λk=>y0c (bA75 k),λk=>y0c (bB75 k),tA,tB,lA,h,λ_=>gB,Eu.base,s0,t0,λk=>q0b (bA75 k) (c5 (lt1 _)),λk=>q0b (bB75 k) (c5 (lt1 _)),q0b sd (c5 ⋯),q0e sn (u0c ⋯),q0b td (c5 ⋯),q0b tn (c5 ⋯)⟩
 ·exact .inr ⟨gB,bA,h2,sd,sn,td,h3,h1⟩
def aB4 (K:q0a):Sp:=λvs H Q _ => ∃ (a b:Addr) (xs ys:List V) (s t:Rat) (A B:List Int),vs=[.ref a,.ref b]/\H a=some (.lst xs)/\H b=some (.lst ys)/\k5 H xs (scl s A)/\k5 H ys (scl t B)/\ShI s t A B/\∀ r us H',d4 H H'->H' r=some (.lst us)->k5 H' us [1]->Q (.ref r) H'
abbrev G7:Stmt:=top 47
theorem M9:i8 ["_law_p","_law_q","_law_one","_law_other_here"] ["_law_p","_law_q"] (d6 G7):=by and_intros
theorem an2 {f f1 f2 f3:Addr} (d:Df K mg "_law_shared" G7 ["_law_p","_law_q"] f) (G__law_rest:Def P w K mg base CX0 3 "_law_rest" f1 ["_law_p","_law_q"] (au9 K)) (G__law_over:Def P w K mg base CX0 2 "_law_over" f2 ["_law_one","_law_other_here"] (ak7 K)) (GD__law_poly_often:Def P w K mg base CX0 3 "_law_poly_often" f3 ["_law_number_here","_law_p"] (ae9 K)):Def P w K mg base CX0 4 "_law_shared" f ["_law_p","_law_q"] (aB4 K):=by
  have G__law_poly_often:=GD__law_poly_often;refine d.ok (N:=["_law_p","_law_q","_law_one","_law_other_here"]) M9 (by rintro vs H Q E ⟨_,_,_,_,_,_,_,_,h,_⟩;rw [h];rfl) (λcdv A' outer s' H vs Q E hr h=>?_)
  obtain ⟨a,b,xs,ys,s,t,A,B,rfl,ea,eb,na,nb,I0,k⟩:=h;have hu:=hr.units
  refine ⟨_, (c7 (aa5 (i := 2) (j := 3) rfl M9.nd rfl rfl (by decide) rfl rfl (b8 (pv 0) (b8 (pv 1) b9)) rfl)
      (c7 (F7 PassesOwn.never (i9 (U7 hu) (pv 3) (z7 b9) (k4 _)) (c9 (aa5 (i:=2) (j:=3) rfl M9.nd rfl rfl (by decide) rfl rfl (b8 (pv 3) (b8 (d7 G__law_rest hr (b8 (pv 2) (b8 (pv 3) b9)) e9) b9)) rfl)))
      (c9 (i5 (d7 G__law_poly_often hr (b8 (d7 G__law_over hr (b8 (y7 (b8 c6 (b8 c6 b9))) (b8 (k3 r6 (pv 2) (O8 E9 c6) (λ_ _=>rfl)) b9)) e9) (b8 (pv 2) b9)) e9))))),?_⟩
  rw [show start ["_law_p","_law_q","_law_one","_law_other_here"] [.ref a,.ref b]=[some (.ref a),some (.ref b),none,none] from rfl]
  subst_eqs
  obtain ⟨I,hI⟩:∃ I:L2.St->Hp->Prop,∀ σ H1,I σ H1 ↔ ∃ (l m:Addr) (us vs:List V) (s t:Rat) (A B:List Int),σ=[some (.ref a),some (.ref b),some (.ref l),some (.ref m)]/\d4 H H1/\H1 l=some (.lst us)/\H1 m=some (.lst vs)/\k5 H1 us (scl s A)/\k5 H1 vs (scl t B)/\ShI s t A B:=⟨_,λ_ _=>Iff.rfl⟩;refine U0 I (V0 3) ((hI _ _).mpr ⟨a,b,xs,ys,s,t,A,B,rfl,d4.refl _,ea,eb,na,nb,I0⟩) ?_;clear I0 na nb ea eb;rintro σ H1 hI1;obtain ⟨l,m,us,vs,s,t,A,B,rfl,S1,el,em,nu,nv,J⟩:=(hI _ _).mp hI1
  subst_eqs
  refine ⟨by decide,λpe hpe=>?_⟩
  have Se:=d4.new hpe (.lst []);refine ⟨x6 (scl t B),x6 [],rfl,p7 (SqL.of (Se _ _ em)) (nv.mono Se.tups),p7 (SqL.of c8) .nil,F9 _ _,Nat.le_trans (G9 _) (by decide),?_⟩
  rw [C7];refine ⟨_,rfl,t7 (λhB=>WhB.mk ?_) (λhB=>?_)⟩
  · have hB':B ≠ []:=λz=>by rw [z] at hB;simp [scl] at hB
    obtain ⟨w1,wB,d1,n1,d2,n2,bA,bB,sd,sn,td,tn,c1,c2,c3,c4,nx⟩:=J.next hB';have lA:=J.lA;have lB:=J.lB;have lv:=nv.length;rw [B7] at lv
    subst_eqs
    refine ⟨l,m,us,vs,s,t,A,B,w1,wB,d1,n1,d2,n2,rfl,SqL.of (Se _ _ el),Se _ _ em,nu.mono Se.tups,nv.mono Se.tups,J.tA,J.tB,List.length_pos_iff.mpr hB',⋯,⋯,J.s0,J.t0,bA,bB,sd,sn,td,tn,c1,c2,c3,c4,λr zs Lz many H2 s2 f2 e2 n2' tz lz m0 mb bz rel=>?_⟩;obtain ⟨t',C,eC,lC,J'⟩:=nx Lz many tz lz m0 mb bz rel;rw [<- eC] at n2';have S12:=Se.trans s2;refine ⟨_,?_,rfl,(hI _ _).mpr ⟨m,r,vs,zs,t,t',B,C,rfl,S1.trans S12,S12 _ _ em,e2,nv.mono S12.tups,n2',J'⟩⟩;have lz':=n2'.length;rw [B7] at lz'
    show V0 3 _ _<V0 3 _ _;unfold V0;simp only [List.getElem?_cons_succ,List.getElem?_cons_zero];rw [e2,em];simp only;omega
  · have hB' : B = [] := by
      cases B with
      | nil=>rfl
      | cons x r=>exact absurd (by simp [scl]) hB
    subst hB';obtain ⟨v,rfl,v1⟩:=J.last;obtain ⟨sd,sn,_⟩:=J.fin rfl;have vq:(v:Rat) ≠ 0:=n9 ⋯
    have q0:s*(v:Rat) ≠ 0:=λz=>by
      rcases Rat.mul_eq_zero.mp z with y | y
      · exact J.s0 y
      · exact vq y
    obtain ⟨pv,hpv,epv⟩:=nu.get (i:=0) (q:=s*(v:Rat)) rfl;have lu:=nu.length;rw [B7] at lu;have lu:us.length=1:=lu;have b1:=aN4 (t:=s) (g:=v);rw [v1,Nat.mul_one] at b1;obtain ⟨q,hq⟩:∃ q,q=s*(v:Rat):=⟨_,rfl⟩;have eS:scl s [v]=[q]:=by rw [hq];rfl
    rw [eS] at nu;rw [<- hq] at epv q0 b1;refine ⟨y3,λp hp=>?_⟩;have X:=Se.trans (d4.new hp (.tup [.int 1,.int 1]));have nm:q.num.natAbs<2 ^ 3280:=Nat.lt_of_le_of_lt b1.1 sn;have dn:q.den<2 ^ 1680:=Nat.lt_of_le_of_lt b1.2 sd;have qn0:q.num ≠ 0:=λz=>q0 (Q4.mp z);refine ⟨us,SqL.of (X _ _ el),.ref pv,R8 (by rw [lu];exact hpv),.ref p,.ref pv,1,q,1,3280,rfl,⟨p,rfl,SqT.of c8⟩,⟨pv,rfl,SqT.of (X.tups _ _ epv)⟩,⟨Nat.lt_of_lt_of_le (show (1:Int).natAbs<2 ^ 1 by decide) (c5 (by decide)),by decide⟩,q0,nm,Nat.lt_of_lt_of_le dn (c5 (by decide)),by decide,λpo H2 S2 e2=>?_⟩
    have cb:BtN 3280 (1 / q):=by
      rw [ab3];have:=G5 (t:=(1:Rat).num*q.den) (b:=((1:Rat).den:Int)*q.num) (Int.mul_ne_zero (by decide) qn0)
      rw [show (1:Rat).num=1 from rfl,show ((1:Rat).den:Int)=1 from rfl,Int.one_mul,Int.one_mul,Int.natAbs_natCast] at this;rw [show (1:Rat).num=1 from rfl,show ((1:Rat).den:Int)=1 from rfl,Int.one_mul,Int.one_mul];exact ⟨Nat.lt_of_le_of_lt this.1 (Nat.lt_of_lt_of_le dn (c5 (by decide))),Nat.lt_of_le_of_lt this.2 nm⟩
    have X2:=X.trans S2;refine ⟨.ref po,_,l,us,[q],3280,1680,rfl,⟨po,rfl,SqT.of e2⟩,SqL.of (X2 _ _ el),nu.mono X2.tups,cb,λy hy=>?_,by decide,(show 1<=20 by decide),λm' r zs H3 tl S3 f3 e3 n3=>?_⟩
    · rw [List.mem_singleton.mp hy]
      exact ⟨Nat.lt_of_lt_of_le nm (c5 (by decide)),dn⟩
    have e1:[q].map (1 / q * ·)=[1]:=by
      show [1 / q*q]=[1]
      congr 1
      rw [Rat.div_def];have:=Rat.mul_inv_cancel _ q0;generalize q⁻¹=i at *
      grind
    rw [e1] at tl n3;have t1:x9 [(1:Rat)] [(1:Rat)].length:=R1 λx hx=>by cases hx;decide
    rw [x9.uniq tl t1,List.take_length] at n3;exact k r zs H3 (S1.trans (X2.trans S3)) e3 n3
def dPt (x:List Rat × Nat):D:=.tup [x6 x.1,.v (.int (x.2:Int))]
def aG1 (fs:List (List Rat × Nat)):D:=.lst (fs.map dPt)
theorem G1.isDs {K:q0a} {X:Addr->Prop} {H:Hp}:∀ {vs:List V} {fs:List (List Rat × Nat)},G1 X H vs fs->V7 K H vs (fs.map dPt)
 | _,_,.nil=>.nil
 | _,_,.cons h e n _ t=>.cons (.tup (SqT.of h) (.cons (p7 (SqL.of e) n) (.cons (.v rfl) .nil))) t.isDs
theorem bk5 (x:List Rat × Nat):eqD (dPt x) (dPt x)=true:=by
 unfold dPt;rw [eqD,E4,E4,E4,C7]
 simp [eqD,eqV]
theorem aF7:∀ fs:List (List Rat × Nat),E4 (fs.map dPt) (fs.map dPt)=true
 | []=>by simp [E4]
 | x :: r=>by rw [j0x,E4,bk5,aF7 r];rfl
theorem bc9 (fs:List (List Rat × Nat)):eqD (aG1 fs) (aG1 fs)=true:=by unfold aG1;rw [eqD,aF7]
theorem bo3 (x:List Rat × Nat):dpD (dPt x)<=3:=by
 unfold dPt;have:=G9 x.1;rw [dpD,Y8,Y8,Y8,dpD];omega
theorem aG0:∀ fs:List (List Rat × Nat),Y8 (fs.map dPt)<=3
 | []=>by simp [Y8]
 | x :: r=>by
  have:=aG0 r;have:=bo3 x;rw [j0x,Y8];omega
theorem bk9 (fs:List (List Rat × Nat)):dpD (aG1 fs)<=60:=by
 unfold aG1;rw [dpD];have:=aG0 fs;omega
theorem G1.get {X:Addr->Prop} {H:Hp}:∀ {vs:List V} {fs:List (List Rat × Nat)} {i:Nat} {v:V},G1 X H vs fs->vs[i]? = some v->∃ p l xs L m,v=.ref p/\fs[i]? = some (L,m)/\H p=some (.tup [.ref l,.int (m:Int)])/\H l=some (.lst xs)/\k5 H xs L/\X l
 | _,_,_,_,.nil,e=>by simp at e
 | _,_,0,_,.cons h e' n f _,e=>by cases e;exact ⟨_,_,_,_,_,rfl,rfl,h,e',n,f⟩
 | _,_,i+1,_,.cons _ _ _ _ t,e=>t.get (i:=i) (by simpa using e)
structure bo8 (x:List Rat × Nat):Prop where
 tl:x9 x.1 x.1.length
 l2:2<=x.1.length
 l20:x.1.length<=20
 ld:x.1[x.1.length-1]? = some 1
 bd:∀ q ∈ x.1,BdN 200 q
def be9 (K:q0a):Sp:=λvs H Q _ => ∃ (r:Addr) (ts:List V) (X:Addr->Prop) (ds:List (List Rat × Nat)),vs=[.ref r]/\H r=some (.lst ts)/\G1 X H ts ds/\(∀ x ∈ ds,bo8 x/\1<=x.2)/\ds.Pairwise (λx y=>x.2<y.2)/\∀ H',d4 H H'->Q (.bl true) H'
abbrev F6:Stmt:=top 49
theorem D5:i8 ["_law_found","_law_least","_law_one"] ["_law_found"] (d6 F6):=by and_intros
theorem aj9 {f f1 f2:Addr} (d:Df K mg "_law_is_list" F6 ["_law_found"] f) (G__law_is_poly:Def P w K mg base CX0 3 "_law_is_poly" f1 ["_law_thing"] (aB6 K)) (G__law_whole:Def P w K mg base CX0 1 "_law_whole" f2 ["_law_thing"] W4) (n_isinstance:mg "isinstance" = none) (n_list:mg "list" = none) (n_tuple:mg "tuple" = none) (n_len:mg "len" = none):Def P w K mg base CX0 4 "_law_is_list" f ["_law_found"] (be9 K):=by
  refine d.ok (N:=["_law_found","_law_least","_law_one"]) D5 (by rintro vs H Q E ⟨_,_,_,_,h,_⟩;rw [h];rfl) (λcdv A outer s H vs Q E hr h=>?_)
  obtain ⟨r,ts,X,ds,rfl,er,pr,ok,rs,k⟩:=h;have hu:=hr.units
  refine ⟨_, (c7 (w8 (N0 (R6 (f9 E6 rfl n_isinstance (by decide +kernel) (b8 (pv 0) (b8 (X3 (v := .ty "list") rfl n_list (by decide +kernel) rfl) b9))))) (c9 (i5 U5)) m6)
      (c7 (d9 (i:=1) D5.nd rfl (Or.inl rfl) c6)
      (c7 (C2 PassesOwn.never rfl (v6 (pv 0)) (i3 (i:=2) D5.nd rfl (Or.inl rfl)) (c7 (w8 (PW.pt (Q3 (N0 (R6 (f9 E6 rfl n_isinstance (by decide +kernel) (b8 (pv 2) (b8 (X3 (v:=.ty "tuple") rfl n_tuple (by decide +kernel) rfl) b9))))) (Q3 (i9 bf1 (f9 h9 rfl n_len (by decide +kernel) (b8 (pv 2) b9)) c6 (k4 _)) (Q3 (N0 (R6 (d7 G__law_is_poly hr (b8 (k3 k9 (pv 2) c6 (λ_ _=>rfl)) b9) e9))) (af2 (N0 (R6 (d7 G__law_whole hr (b8 (k3 k9 (pv 2) c6 (λ_ _=>rfl)) b9) e9)))))))) (c9 (i5 U5)) m6)
      (c7 (w8 (PW.pt (Q3 (i9 am8 (f9 h9 rfl n_len (by decide +kernel) (b8 (k3 k9 (pv 2) c6 (λ_ _=>rfl)) b9)) c6 (k4 _)) (Q3 (i9 (U7 hu) (k3 r6 (k3 k9 (pv 2) c6 (λ_ _=>rfl)) (O8 E9 c6) (λ_ _=>rfl)) (y7 (b8 c6 (b8 c6 b9))) (k4 _)) (af2 (i9 bn1 (k3 k9 (pv 2) c6 (λ_ _=>rfl)) (pv 1) (k4 _)))))) (c9 (i5 U5)) m6)
      (c9 (d9 (i:=1) D5.nd rfl (Or.inl rfl) (k3 k9 (pv 2) c6 (λ_ _=>rfl)))))))
      (c9 (i5 U5))))),?_⟩
  rw [show start ["_law_found","_law_least","_law_one"] [.ref r]=[some (.ref r),none,none] from rfl]
  have idr:IsD K H (.ref r) (aG1 ds):=.lst (SqL.of er) pr.isDs;refine d8 (λσ H1=>σ=[some (.ref r),none,none]/\H1=H) (λN hN=>?_) ?_
  · subst_eqs
    exact ⟨trivial,_,idr.ty,_,aJ1 idr,t7 (λh=>by cases h) (λ_=>hN _ _ ⟨rfl,rfl⟩)⟩
  rintro σ H1 ⟨rfl,rfl⟩;refine d8 (λσ H1'=>σ=[some (.ref r),some (.int 0),none]/\H1'=H1) (λN hN=>?_) ?_
  · subst_eqs
    exact hN _ _ ⟨rfl,rfl⟩
  rintro σ H1' ⟨rfl,rfl⟩;obtain ⟨I,hI⟩:∃ I:Nat->L2.St->Hp->Prop,∀ i σ H2,I i σ H2 ↔ ∃ (n:Nat) (o:Option V),σ=[some (.ref r),some (.int (n:Int)),o]/\d4 H1' H2/\∀ y,ds[i]? = some y->n<y.2:=⟨_,λ_ _ _=>Iff.rfl⟩;refine d8 (λσ H2=>d4 H1' H2) (λN hN=>?_) ?_
  · refine ⟨_,rfl,r,rfl,⟨_,SqL.of er⟩,J4 (xs:=ts) I ((hI _ _ _).mpr ⟨0,_,rfl,d4.refl _,λy hy=>(ok y (List.mem_of_getElem? hy)).2⟩) (by intro i σ H2 _ h;obtain ⟨_,_,_,s2,_⟩:=(hI _ _ _).mp h;exact SqL.of (s2 _ _ er)) ?_ (λσ H2 h=>by obtain ⟨_,_,_,s2,_⟩:=(hI _ _ _).mp h;exact hN _ _ s2)⟩
    intro i x σ H2 hx h;obtain ⟨n,o,rfl,s2,lt⟩:=(hI _ _ _).mp h;obtain ⟨p,l,xs,L,m,rfl,ef,hp,hl,nL,_⟩:=(pr.same s2).get hx;obtain ⟨O,m1⟩:=ok _ (List.mem_of_getElem? ef);have l20:L.length<=20:=O.l20;have l2:2<=L.length:=O.l2;have lm:=lt _ ef;have lm:n<m:=lm;have ll:=nL.length;have idp:IsD K H2 (.ref p) (dPt (L,m)):=.tup (SqT.of hp) (.cons (p7 (SqL.of hl) nL) (.cons (.v rfl) .nil))
    subst_eqs
    refine ⟨trivial,_,idp.ty,_,aE9 idp,t7 (λh=>by cases h) (λ_=>⟨_,.inr (SqT.of hp),rfl,t7 (λh=>absurd rfl h) (λ_=>?_)⟩)⟩
    refine ⟨_,SqT.of hp,_,rfl,l,xs,L,rfl,hl,nL,λq hq=>Nat.lt_of_lt_of_le (O.bd q hq).d (c5 (by decide)),⋯,O.tl,λH3 s3=>⟨_,rfl,t7 (λh=>by cases h) (λ_=>?_)⟩⟩
    refine ⟨_,SqT.of (s3 _ _ hp),_,rfl,_,rfl,true,rfl,t7 (λh=>by cases h) (λ_=>?_)⟩
    refine ⟨_,SqT.of (s3 _ _ hp),_,rfl,l,rfl,_,.inl (SqL.of (s3 _ _ hl)),t7 (λh=>⋯) (λ_=>?_)⟩;obtain ⟨pv,hpv,epv⟩:=(nL.mono s3.tups).get O.ld;have hpv':xs[xs.length-1]? = some (.ref pv):=by rw [ll];exact hpv
    refine ⟨_,SqT.of (s3 _ _ hp),_,rfl,l,rfl,_,SqL.of (s3 _ _ hl),_,R8 hpv',y3,λp2 hp2=>?_⟩;have X2:=d4.new hp2 (.tup [.int 1,.int 1]);refine ⟨J9 1,J9 1,rfl,ad4 (SqT.of (X2 _ _ epv)),ad4 (SqT.of c8),ay0 _ _,aY1 _,?_⟩;rw [az1];refine ⟨false,rfl,t7 (λh=>absurd h (by decide)) (λ_=>?_)⟩
    have S3:=s3.trans X2;refine ⟨_,SqT.of (S3 _ _ hp),_,rfl,_,rfl,t7 (λh=>⋯) (λ_=>⟨_,SqT.of (S3 _ _ hp),_,rfl,(hI _ _ _).mpr ⟨m,_,rfl,s2.trans S3,λy hy=>?_⟩⟩)⟩;obtain ⟨h1,e1⟩:=List.getElem?_eq_some_iff.mp ef;obtain ⟨h2,e2⟩:=List.getElem?_eq_some_iff.mp hy;have:=List.pairwise_iff_getElem.mp rs i (i+1) h1 h2 ⋯;rw [e1,e2] at this;exact this
  rintro σ H2 S2
  subst_eqs
  exact k H2 S2
theorem aJ4 (x:List Rat × Nat):∀ (fs:List (List Rat × Nat)),fP (pfs (fs ++ [x]))=fP (pfs fs)*wP (qp x.1) x.2
 | []=>by show wP (qp x.1) x.2*1=1*wP (qp x.1) x.2;grind
 | y :: r=>by
  have ih:=aJ4 x r
  show wP (qp y.1) y.2*fP (pfs (r ++ [x]))=wP (qp y.1) y.2*fP (pfs r)*wP (qp x.1) x.2;rw [ih];grind
theorem aV3 (x:List Rat × Nat):∀ (fs:List (List Rat × Nat)),nF (fs ++ [x])=nF fs+x.2*(x.1.length-1)
 | []=>by show _+0=0+_;omega
 | y :: r=>by
  have:=aV3 x r
  show _+nF (r ++ [x])=_+nF r+_;omega
theorem bh6 {l:List Rat} {m:Nat} (t:x9 l m):qp (l.take m)=qp l:=Pf.ext λk=>be2 t k
theorem aX1 (gs:List (List Rat × Nat)):∀ (fs:List (List Rat × Nat)),fP (pfs (fs ++ gs))=fP (pfs fs)*fP (pfs gs)
 | []=>by show fP (pfs gs)=1*fP (pfs gs);grind
 | y :: r=>by
  have ih:=aX1 gs r
  show wP (qp y.1) y.2*fP (pfs (r ++ gs))=wP (qp y.1) y.2*fP (pfs r)*fP (pfs gs);rw [ih];grind
theorem aR9 (a b:Pf):∀ m,wP (a*b) m=wP a m*wP b m
 | 0=>by show (1:Pf)=1*1;grind
 | m+1=>by show a*b*wP (a*b) m=a*wP a m*(b*wP b m);rw [aR9 a b m];grind
theorem aH1:∀ m,wP 1 m=1
 | 0=>rfl
 | m+1=>by show 1*wP 1 m=1;rw [aH1 m];grind
theorem aS0 (a:Pf) (s:Nat):∀ t,wP a (t+s)=wP a t*wP a s
 | 0=>by rw [y0v];show _=1*_;grind
 | t+1=>by rw [show t+1+s=(t+s)+1 by omega];show a*wP a (t+s)=a*wP a t*wP a s;rw [aS0 a s t];grind
def lP:List (Pf × Nat)->Nat->Pf
 | [],_=>1
 | x :: r,n=>if x.2<=n then wP x.1 x.2*lP r n else lP r n
theorem aM2:∀ (fs:List (Pf × Nat)) (n:Nat),lP fs (n+1)=lP fs n*wP (eP fs (n+1)) (n+1)
 | [],n=>by show (1:Pf)=1*wP 1 (n+1);rw [aH1];grind
 | x :: r,n=>by
  have ih:=aM2 r n;unfold lP eP
  by_cases h:x.2=n+1
  ·rw [if_pos ⋯,if_neg ⋯,if_pos h,aR9,ih,h];grind
  ·rw [if_neg h]
   by_cases h2:x.2<=n
   ·rw [if_pos ⋯,if_pos h2,ih];grind
   ·rw [if_neg ⋯,if_neg h2,ih]
theorem aW2 {n:Nat}:∀ {fs:List (Pf × Nat)},(∀ x ∈ fs,x.2<=n)->lP fs n=fP fs
 | [],_=>rfl
 | x :: r,h=>by
  unfold lP fP;rw [if_pos (h x q0h),aW2 λy hy=>h y (q0f _ hy)]
theorem aM1:∀ {fs:List (Pf × Nat)},(∀ x ∈ fs,1<=x.2)->lP fs 0=1
 | [],_=>rfl
 | x :: r,h=>by
  have:=h x q0h;unfold lP;rw [if_neg ⋯,aM1 λy hy=>h y (q0f _ hy)]
theorem aY0 {fs:List (List Rat × Nat)} (ok:∀ x ∈ fs,N5 x):∀ n,fP (pfs (E8 fs n))=lP (pfs fs) n
 | 0=>(aM1 λx hx=>by
  obtain ⟨y,hy,rfl⟩:=z0y.mp hx;exact (ok y hy).m1).symm
 | n+1=>by
  rw [aM2,<- aY0 ok n]
  show fP (pfs (E8 fs n ++ _))=_
  split
  ·rename_i z
   have m:=ab2 ok (n+1);rw [z] at m;have e1:eP (pfs fs) (n+1)=1:=by rw [lm0 m.lm,m.ld,B5]
   rw [e1,aH1,v0v];grind
  ·rw [aJ4,aX7 ok]
theorem aL9:∀ {fs:List (List Rat × Nat)},(∀ x ∈ fs,N5 x)->∀ x ∈ fs,x.2<=nF fs
 | [],_,x,hx=>by simp at hx
 | y :: r,ok,x,hx=>by
  have l2:=(ok y q0h).len;unfold nF;rcases z0t.mp hx with z | z
  ·subst z
   have:x.2*1<=x.2*(x.1.length-1):=z0j _ ⋯;omega
  ·have:=aL9 (fs:=r) (λw hw=>ok w (q0f _ hw)) x z
   omega
theorem J6.fp {fs:List (List Rat × Nat)} (T:J6 fs):fP (pfs (E8 fs 13))=fP (pfs fs):=by
 rw [aY0 T.ok];refine aW2 λx hx=>?_;obtain ⟨y,hy,rfl⟩:=z0y.mp hx;have:=aL9 T.ok y hy;have:=T.f13
 show y.2<=13;omega
theorem P1 {fs:List (List Rat × Nat)} {x:List Rat × Nat}:∀ n,x ∈ E8 fs n->∃ j,j<n/\nE fs (j+1) ≠ 0/\x=(eL fs (j+1),j+1)
 | 0,h=>by cases h
 | n+1,h=>by
  rcases v0u.mp h with z | z
  ·obtain ⟨j,h1,h2,h3⟩:=P1 n z
   exact ⟨j,⋯,h2,h3⟩
  ·split at z
   ·cases z
   ·rename_i y
    exact ⟨n,⋯,y,y0h.mp z⟩
theorem aJ9 (fs:List (List Rat × Nat)):∀ n,(E8 fs n).Pairwise λx y=>x.2<y.2
 | 0=>.nil
 | n+1=>by
  refine List.pairwise_append.mpr ⟨aJ9 fs n,?_,λx hx y hy=>?_⟩
  ·split
   ·exact .nil
   ·exact List.pairwise_singleton _ _
  ·obtain ⟨j,h1,_,rfl⟩:=P1 n hx
   split at hy
   ·cases hy
   ·rw [y0h.mp hy]
    show j+1<n+1;omega
theorem bk8 {fs:List (List Rat × Nat)} (j k:Nat) (h:k<nE fs j+1):(eL fs j)[k]? = some ((eP (pfs fs) j).f k):=by
 unfold eL;rw [q0q,j0d h];rfl
theorem J6.eB {fs:List (List Rat × Nat)} (T:J6 fs) (j:Nat):∃ B,0<B/\B<2 ^ 37/\∀ q ∈ eL fs (j+1),OvB B 37 q:=by
 obtain ⟨Z,M⟩:=T.emz j;obtain ⟨B,hB,lB,_,ov⟩:=M.ov ap2.2.1;rw [<- aX7 T.ok] at ov;exact ⟨B,hB,lB,aH8 ov⟩
theorem J6.due {fs:List (List Rat × Nat)} (T:J6 fs):∀ x ∈ E8 fs 13,bo8 x/\1<=x.2:=λx hx=>by
 obtain ⟨j,h1,h2,rfl⟩:=P1 13 hx;have e5:=T.e5 (j+1) ⋯;obtain ⟨B,hB,lB,ov⟩:=T.eB j;refine ⟨⟨bo1 T.ok _,by show 2<=(eL fs (j+1)).length;rw [ag4];omega,by show (eL fs (j+1)).length<=20;rw [ag4];omega,?_,λq hq=>((ov q hq).bdN hB lB).mono (by decide)⟩,by show 1<=j+1;omega⟩
 show (eL fs (j+1))[(eL fs (j+1)).length-1]? = some 1;rw [ag4,z0u,bk8 _ _ ⋯,(ab2 T.ok (j+1)).ld]
theorem aX9 {fs:List (List Rat × Nat)} (T:J6 fs):∀ x ∈ E8 fs 13,Mn (qp x.1) (x.1.length-1):=λx hx=>by
 obtain ⟨j,h1,h2,rfl⟩:=P1 13 hx
 show Mn (qp (eL fs (j+1))) ((eL fs (j+1)).length-1);rw [aX7 T.ok,ag4,z0u];exact ab2 T.ok (j+1)
theorem bf7:∀ {ds:List (List Rat × Nat)},(∀ x ∈ ds,Mn (qp x.1) (x.1.length-1))->Mn (fP (pfs ds)) (nF ds)
 | [],_=>U9
 | x :: r,h=>(aV9 (h x q0h) x.2).mul (bf7 (ds:=r) λy hy=>h y (q0f _ hy))
theorem J6.nf {fs:List (List Rat × Nat)} (T:J6 fs):nF (E8 fs 13)<=13:=by
 have m:=bf7 (aX9 T);rw [T.fp] at m;have:=P5 m.lm (aE2 T.ok).lm;have:=T.f13;omega
theorem aV2:∀ {ds:List (List Rat × Nat)},(∀ x ∈ ds,1<=x.1.length)->smZ (ds.map λx=>((x.1.length:Int)-1)*(x.2:Int))=(nF ds:Int)
 | [],_=>rfl
 | x :: r,h=>by
  have h1:=h x q0h;have ih:=aV2 (ds:=r) λy hy=>h y (q0f _ hy)
  show ((x.1.length:Int)-1)*(x.2:Int)+smZ _=((x.2*(x.1.length-1)+nF r:Nat):Int);rw [ih,Int.natCast_add,z0s,show ((x.1.length-1:Nat):Int)=(x.1.length:Int)-1 by omega,z0k]
theorem bg1 (ds:List (List Rat × Nat)):Fn (fP (pfs ds)):=aM7 λx hx=>by
 obtain ⟨y,hy,rfl⟩:=z0y.mp hx;exact as6 _
theorem bl5 {ds:List (List Rat × Nat)} {m:Nat} {x:List Rat × Nat} (h:ds[m]? = some x):fP (pfs ds)=fP (pfs (ds.take m))*(wP (qp x.1) x.2*fP (pfs (ds.drop (m+1)))):=by
 obtain ⟨hl,e⟩:=q0s.mp h;have:=aX1 (ds.drop m) (ds.take m);rw [m0p,List.drop_eq_getElem_cons hl,e] at this;exact this
structure PrG (fs:List (List Rat × Nat)) (κ:Rat) (p:Pf) (n:Nat) (L:List Rat):Prop where
 tl:x9 L L.length
 e:qp L=d5 κ*p
 mn:Mn p n
 dv:Dv' p (fP (pfs fs))
theorem PrG.len {fs:List (List Rat × Nat)} {κ:Rat} {p:Pf} {n:Nat} {L:List Rat} (h:PrG fs κ p n L) (k0:κ ≠ 0):L.length=n+1:=by
 have ld:(qp L).f n=κ:=by rw [h.e,u8,h.mn.ld];grind
 have g2:n<L.length:=Classical.byContradiction λz=>by
  rw [ah7 L _ ⋯] at ld;exact k0 ld.symm
 rcases z0z (n+1) L.length with y | y
 ·exfalso
  have h1:=q0c (l:=L) (i:=L.length-1) ⋯;refine h.tl.last ⋯ _ h1 ?_;have h2:(qp L).f (L.length-1)=0:=by rw [h.e,u8,h.mn.dg _ ⋯];grind
  have h3:aQ L (L.length-1)=0:=h2;unfold aQ at h3;rw [h1] at h3;exact h3
 ·omega
theorem PrG.ov {fs:List (List Rat × Nat)} {κ:Rat} {p:Pf} {n Bk:Nat} {L:List Rat} (h:PrG fs κ p n L) (T:J6 fs) (ok:OvB Bk 1000 κ) (hB:0<Bk) (bk:Bk<2 ^ 1000):∃ B,0<B/\B<2 ^ 1073/\∀ q ∈ L,OvB B 1073 q:=by
 obtain ⟨Z,M⟩:=T.dv _ _ h.mn h.dv;obtain ⟨B,hB',lB,_,ov⟩:=M.ov ap2.1;refine ⟨Bk*B,j0q hB hB',?_,aH8 λk=>?_⟩
 ·rw [show 1073=1000+73 from rfl,j0v]
  exact j0g bk lB
 ·rw [h.e,u8];exact ok.mul (ov k)
def aT1 (K:q0a):Sp:=λvs H Q _ => ∃ (px:Addr) (κ:Rat) (r:Addr) (ts:List V) (X:Addr->Prop) (fs:List (List Rat × Nat)) (Bk:Nat),vs=[.ref px,.ref r]/\H px=some (.tup (v7 κ))/\κ ≠ 0/\OvB Bk 1000 κ/\0<Bk/\Bk<2 ^ 1000/\H r=some (.lst ts)/\G1 X H ts (E8 fs 13)/\J6 fs/\∀ r xs L H',d4 H H'->H' r=some (.lst xs)->k5 H' xs L->x9 L L.length->qp L=d5 κ*fP (pfs fs)->Q (.ref r) H'
abbrev J1:Stmt:=top 50
theorem y4:i8 ["_law_lead","_law_found","_law_many","_law_made_here","_law_part","_law_often","_law_turn"] ["_law_lead","_law_found"] (d6 J1):=by and_intros
theorem ax6 {f f1:Addr} (d:Df K mg "_law_made" J1 ["_law_lead","_law_found"] f) (G__law_poly_times:Def P w K mg base CX0 3 "_law_poly_times" f1 ["_law_p","_law_q"] (av0 K)) (n_range:mg "range" = none) (n_len:mg "len" = none) (n_sum:mg "sum" = none):Def P w K mg base CX0 4 "_law_made" f ["_law_lead","_law_found"] (aT1 K):=by
  refine d.ok (N:=["_law_lead","_law_found","_law_many","_law_made_here","_law_part","_law_often","_law_turn"]) y4 (by rintro vs H Q E ⟨_,_,_,_,_,_,_,h,_⟩;rw [h];rfl) (λcdv A outer s H vs Q E hr h=>?_)
  obtain ⟨px,κ,r,ts,X,fs,Bk,rfl,epx,κ0,oκ,hBk,bk,er,pr,T,k⟩:=h;have hu:=hr.units
  refine ⟨_, (c7 (d9 (i := 2) y4.nd rfl (Or.inl rfl) (f9 (aZ3 rfl) rfl n_sum (by decide +kernel) (b8 (D6 (Nc := ["_law_part", "_law_often"]) (caps := [none, none]) rfl (T9.of (osc := d6 J1) (N := ["_law_lead", "_law_found", "_law_many", "_law_made_here", "_law_part", "_law_often", "_law_turn"]) (ks := []) rfl rfl rfl rfl A3 (by decide +kernel)) (v6 (pv 1)) (fun C s₂ H₂ fp pins => (show PG _ _ (N3 K 2 (p9 (m9 0) (p9 (m9 1) N4))) from by (refine E2 (n := 2) ?_ ?_ ?_ ?_; rfl; (refine j9 ?_ ?_ ?_; (exact (i3 (i := 0) (show List.Nodup (["_law_part", "_law_often"] : List Str) by decide +kernel) rfl (Or.inl rfl) (Or.inr rfl))); (refine j9 ?_ ?_ ?_; (exact (i3 (i := 1) (show List.Nodup (["_law_part", "_law_often"] : List Str) by decide +kernel) rfl (Or.inl rfl) (Or.inr rfl))); (exact y6); rfl); rfl); rfl; rfl))) (fun C s₂ H₂ fp pins => (f8 m8 (f8 R7 (f9 (by exact h9 : T7 _ (.builtin "len") (aC5 K)) rfl n_len (by decide +kernel) (b8 (pv 0) b9)) c6) (pv 1)))) b9)))
      (c7 (w8 (i9 Z6 (pv 2) c6 (k4 _)) (c9 (i5 bi3)) m6)
      (c7 (d9 (i:=3) y4.nd rfl (Or.inl rfl) (z7 (b8 (pv 0) b9)))
      (c7 (C2 PassesOwn.never rfl (v6 (pv 1)) (show PG _ _ (N3 K 2 (p9 (m9 4) (p9 (m9 5) N4))) from by (refine E2 (n:=2) ?_ ?_ ?_ ?_;rfl;(refine j9 ?_ ?_ ?_;(exact (i3 (i:=4) y4.nd rfl (Or.inl rfl)));(refine j9 ?_ ?_ ?_;(exact (i3 (i:=5) y4.nd rfl (Or.inl rfl)));(exact y6);rfl);rfl);rfl;rfl)) (c9 (C2 PassesOwn.never rfl (W9 rfl n_range (b8 (pv 5) b9)) (i3 (i:=6) y4.nd rfl (Or.inl rfl)) (c9 (d9 (i:=3) y4.nd rfl (Or.inl rfl) (d7 G__law_poly_times hr (b8 (pv 3) (b8 (pv 4) b9)) e9))))))
      (c9 (i5 (pv 3))))))),?_⟩
  rw [show start ["_law_lead","_law_found","_law_many","_law_made_here","_law_part","_law_often","_law_turn"] [.ref px,.ref r]=[some (.ref px),some (.ref r),none,none,none,none,none] from rfl]
  obtain ⟨ds,hds⟩:∃ ds,ds=E8 fs 13:=⟨_,rfl⟩;rw [<- hds] at pr;refine d8 (λσ H1 => ∃ n:Int,σ=[some (.ref px),some (.ref r),some (.int n),none,none,none,none]/\d4 H H1/\n<=14) (λN hN=>?_) ?_
  · subst_eqs
    refine ⟨⟨_,SqL.of er⟩,λD hD=>?_⟩;obtain ⟨ks,hks⟩:∃ ks,ks=ds.map λx=>((x.1.length:Int)-1)*(x.2:Int):=⟨_,rfl⟩;have lk:ks.length=ds.length:=by rw [hks,List.length_map]
    refine L9 ts (λi σ H2 => ∃ o1 o2,σ=[o1,o2]/\d4 H H2/\H2 D=some (.lst ((ks.take i).map V.int))) ⟨_,_,rfl,d4.new hD _,c8⟩ (λi σ H2 _ ⟨_,_,_,s2,_⟩=>SqL.of (s2 _ _ er)) ?_ ?_
    · rintro i x σ H2 hx ⟨o1,o2,rfl,s2,e2⟩
      obtain ⟨p,l,xs,L,m,rfl,ef,hp,hl,nL,_⟩:=(pr.same s2).get hx
      subst_eqs
      have hi:=(List.getElem?_eq_some_iff.mp ef).1;have lx:=nL.length;obtain ⟨O,m1⟩:=T.due (L,m) (by rw [<- hds];exact List.mem_of_getElem? ef)
      have l20:L.length<=20:=O.l20
      have m13:m<=13:=by
        obtain ⟨j,hj,_,ej⟩:=P1 13 (show (L,m) ∈ E8 fs 13 by rw [<- hds];exact List.mem_of_getElem? ef)
        have:=(Prod.mk.inj ej).2;omega
      have hk:ks[i]? = some (((xs.length:Int)-1)*(m:Int)):=by rw [hks,List.getElem?_map,ef,lx];rfl
      refine ⟨_,SqT.of hp,rfl,_,_,rfl,_,_,rfl,rfl,l,rfl,xs,.inl (SqL.of hl),_,rfl,C6 (m:=10) (n:=10) ⋯ ⋯ (by decide),D4.mk (by have:=pr.length;omega) e2 (ay4 (by rw [List.length_map,List.length_take];have:=al3 fs 13;rw [<- hds] at this;omega)) ⟨_,_,rfl,s2.over hD _,?_⟩⟩
      rw [c8,C3 hk,List.map_append];rfl
    · rintro σ H2 ⟨o1,o2,rfl,s2,e2⟩
      rw [List.take_of_length_le (by have:=pr.length;omega)] at e2
      refine ⟨D,rfl,ks,SqL.of e2,hN _ _ ⟨_,rfl,s2,?_⟩⟩
      have hs:=aV2 (ds:=ds) λx hx=>by
        have:=(T.due x (by rw [<- hds];exact hx)).1.l2
        omega
      rw [<- hks] at hs;rw [hs];have:=T.nf;rw [<- hds] at this;omega
  rintro σ H1 ⟨n,rfl,S1,n14⟩;refine d8 (λσ H2=>σ=[some (.ref px),some (.ref r),some (.int n),none,none,none,none]/\H2=H1) (λN hN=>?_) ?_
  · subst_eqs
    exact t7 (λh=>⋯) (λ_=>hN _ _ ⟨rfl,rfl⟩)
  rintro σ H1' ⟨rfl,rfl⟩;refine d8 (λσ H2 => ∃ lm ms,σ=[some (.ref px),some (.ref r),some (.int n),some (.ref lm),none,none,none]/\d4 H1' H2/\H2 lm=some (.lst ms)/\k5 H2 ms [κ]) (λN hN=>?_) ?_
  · subst_eqs
    exact ⟨av1,λp hp=>hN _ _ ⟨p,_,rfl,d4.new hp _,c8,.cons ((d4.new hp _).tups _ _ (S1.tups _ _ epx)) .nil⟩⟩
  rintro σ H2 ⟨lm,ms,rfl,S2,em,nm⟩;have S12:=S1.trans S2;have er2:=S12 _ _ er;have pr2:=pr.same S12;have lts:=pr2.length;have t1:x9 [κ] [κ].length:=R1 λx hx=>by cases hx;exact κ0
  have q1:qp [κ]=d5 κ*1:=Pf.ext λk=>by
    rw [u8,aa6]
    match k with
    | 0=>show κ=κ*1;grind
    | k+1=>rw [if_neg ⋯];show (0:Rat)=κ*0;grind
  have eF:fP (pfs ds)=fP (pfs fs):=by rw [hds];exact T.fp
  obtain ⟨J,hJ⟩:∃ J:Nat->L2.St->Hp->Prop,∀ m σ H3,J m σ H3 ↔ ∃ (o4 o5 o6:Option V) (lm:Addr) (ms:List V) (L:List Rat),σ=[some (.ref px),some (.ref r),some (.int n),some (.ref lm),o4,o5,o6]/\d4 H2 H3/\H3 lm=some (.lst ms)/\k5 H3 ms L/\PrG fs κ (fP (pfs (ds.take m))) (nF (ds.take m)) L:=⟨_,λ_ _ _=>Iff.rfl⟩;refine d8 (λσ H3=>J ts.length σ H3) (λN hN=>?_) ?_
  · refine ⟨_,rfl,r,rfl,⟨_,SqL.of er2⟩,J4 (xs:=ts) J ((hJ _ _ _).mpr ⟨_,_,_,lm,ms,[κ],rfl,d4.refl _,em,nm,⟨t1,q1,U9,⟨_,bg1 fs,by show _=1*_;grind⟩⟩⟩) (by intro m σ H3 _ h;obtain ⟨_,_,_,_,_,_,_,s3,_⟩:=(hJ _ _ _).mp h;exact SqL.of (s3 _ _ er2)) ?_ (λσ H3 h=>hN _ _ h)⟩
    intro m x σ H3 hx h;obtain ⟨o4,o5,o6,lm,ms,L,rfl,s3,e3,n3,M⟩:=(hJ _ _ _).mp h;obtain ⟨p,l,ys,q,mm,rfl,ef,hp,hl,nq,_⟩:=(pr2.same s3).get hx;have hi:=(List.getElem?_eq_some_iff.mp ef).1;have hm:(q,mm) ∈ E8 fs 13:=by rw [<- hds];exact List.mem_of_getElem? ef
    obtain ⟨j,hj,_,ej⟩:=P1 13 hm;have eq':q=eL fs (j+1):=(Prod.mk.inj ej).1;have mmj:mm=j+1:=(Prod.mk.inj ej).2;obtain ⟨Bq,hBq,lBq,oq⟩:=T.eB j;rw [<- eq'] at oq;have O:=(T.due _ hm).1;have l20:q.length<=20:=O.l20;have l2:2<=q.length:=O.l2;have Mq:=aX9 T _ hm;have Mq:Mn (qp q) (q.length-1):=Mq;have cof:=bl5 ef;have cof:fP (pfs ds)=fP (pfs (ds.take m))*(wP (qp q) mm*fP (pfs (ds.drop (m+1)))):=cof;have tk:ds.take (m+1)=ds.take m ++ [(q,mm)]:=C3 ef;obtain ⟨Lq2,hLq2⟩:∃ Lq2:Nat->L2.St->Hp->Prop,∀ t σ H4,Lq2 t σ H4 ↔ ∃ (o6:Option V) (lm:Addr) (ms:List V) (L:List Rat),σ=[some (.ref px),some (.ref r),some (.int n),some (.ref lm),some (.ref l),some (.int (mm:Int)),o6]/\d4 H3 H4/\H4 lm=some (.lst ms)/\k5 H4 ms L/\(t<=mm->PrG fs κ (wP (qp q) t*fP (pfs (ds.take m))) (t*(q.length-1)+nF (ds.take m)) L):=⟨_,λ_ _ _=>Iff.rfl⟩;have w0:wP (qp q) 0*fP (pfs (ds.take m))=fP (pfs (ds.take m)):=by show (1:Pf)*_=_;grind
    refine ⟨_,_,rfl,SqT.of hp,rfl,_,_,rfl,_,_,rfl,rfl,_,rfl,_,rfl,⋯,⋯,ag2 Lq2 ((hLq2 _ _ _).mpr ⟨_,lm,ms,L,rfl,d4.refl _,e3,n3,λ_=>by rw [w0,Nat.zero_mul,Nat.zero_add];exact M⟩) ?_ ?_⟩
    · intro t σ H4 ht h4
      obtain ⟨o6,lm,ms,L,rfl,s4,e4,n4,M4⟩:=(hLq2 _ _ _).mp h4;have ht:t<mm:=⋯;have M4:=M4 ⋯
      subst_eqs
      have lL:=M4.len κ0;obtain ⟨B,hB,lB,ov⟩:=M4.ov T oκ hBk bk;have dm:=M4.mn
      have dle:t*(q.length-1)+nF (ds.take m)<=13:=by
        obtain ⟨y,fy,ey⟩:=M4.dv;obtain ⟨a,b,ha,hb,ab⟩:=K9 dm.lm.fn fy (by rw [<- ey];exact (aE2 T.ok).lm)
        have:=P5 ha dm.lm;have:=T.f13;omega
      have ew:wP (qp q) (t+1)*fP (pfs (ds.take m))=qp q*(wP (qp q) t*fP (pfs (ds.take m))):=by show qp q*wP (qp q) t*_=_;grind
      refine ⟨lm,l,ms,ys,L,q,B,Bq,1073,37,1110,rfl,SqL.of e4,SqL.of (s4 _ _ hl),n4,nq.mono s4.tups,ov,oq,hB,hBq,by rw [show 1110=1073+37 from rfl,Nat.pow_add];exact Nat.mul_lt_mul'' lB lBq,by decide,by decide,by decide,⋯,⋯,λm' r' zs H' tm' _ s' f' e' n'=>?_⟩
      refine (hLq2 _ _ _).mpr ⟨_,r',zs,_,rfl,s4.trans s',e',n',λhle=>⟨ak5 tm',?_,?_,?_⟩⟩
      · rw [bh6 tm',aU2,M4.e,ew];grind
      · rw [ew,Nat.add_mul,Nat.one_mul,show t*(q.length-1)+(q.length-1)+nF (ds.take m)=q.length-1+(t*(q.length-1)+nF (ds.take m)) by omega]
        exact Mq.mul dm
      · refine ⟨wP (qp q) (mm-(t+1))*fP (pfs (ds.drop (m+1))),(aV9 Mq _).lm.fn.mul (bg1 _),?_⟩
        rw [<- eF,cof];have:=aS0 (qp q) (mm-(t+1)) (t+1);rw [show t+1+(mm-(t+1))=mm by omega] at this
        rw [this];grind
    · intro σ H4 h4
      obtain ⟨o6,lm,ms,L,rfl,s4,e4,n4,M4⟩:=(hLq2 _ _ _).mp h4;have M4:=M4 ⋯;refine (hJ _ _ _).mpr ⟨_,_,_,lm,ms,L,rfl,s3.trans s4,e4,n4,?_⟩;have ef':fP (pfs (ds.take (m+1)))=wP (qp q) mm*fP (pfs (ds.take m)):=by rw [tk,aJ4];grind
      have en':nF (ds.take (m+1))=mm*(q.length-1)+nF (ds.take m):=by rw [tk,aV3];show _+mm*(q.length-1)=_;omega
      rw [show ((mm:Int)).toNat=mm by omega] at M4
      rw [ef',en'];exact M4
  rintro σ H3 h;obtain ⟨o4,o5,o6,lm,ms,L,rfl,s3,e3,n3,M⟩:=(hJ _ _ _).mp h;rw [lts,List.take_length,eF] at M
  subst_eqs
  exact k lm ms L H3 (S12.trans s3) e3 n3 M.tl M.e
def slp (qs:List Rat):List Rat:=(qs.mapIdx λi q=>((i:Int):Rat)*q).drop 1
theorem ba6 (qs:List Rat) (i:Nat):(slp qs)[i]? = (qs[i+1]?).map λq=>(((i+1:Nat):Int):Rat)*q:=by
 unfold slp;rw [List.getElem?_drop,m0s,g0s]
def ar5 (K:q0a):Sp:=λvs H Q _ => ∃ (a:Addr) (xs:List V) (qs:List Rat),vs=[.ref a]/\SqL K H a xs/\k5 H xs qs/\(∀ q ∈ qs,BdN 3000 q)/\qs.length<=100/\∀ r ys H',d4 H H'->H r=none->H' r=some (.lst ys)->k5 H' ys (slp qs)->Q (.ref r) H'
abbrev C5:Stmt:=top 48
theorem am0:i8 ["_law_p"] ["_law_p"] (d6 C5):=by and_intros
theorem an1 {f ft:Addr} (d:Df K mg "_law_sloped" C5 ["_law_p"] f) (G__law_times:Def P w K mg base CX0 2 "_law_times" ft ["_law_one","_law_other_here"] (M7 K (· * ·))) (n_enumerate:mg "enumerate" = none):Def P w K mg base CX0 3 "_law_sloped" f ["_law_p"] (ar5 K):=by
 refine d.ok (N:=["_law_p"]) am0 (by rintro vs H Q E ⟨a,xs,qs,h,_⟩;rw [h];rfl) (λcdv A outer s H vs Q E hr h=>?_)
 obtain ⟨a,xs,qs,rfl,hS,hN,hb,hl,k⟩:=h;refine ⟨_,(c9 (i5 (am6 av3 (D6 (Nc:=["_law_i","_law_one"]) (caps:=[none,none]) rfl (T9.of (osc:=d6 C5) (N:=["_law_p"]) (ks:=[]) rfl rfl rfl rfl A3 (by decide +kernel)) (X0 rfl n_enumerate (b8 (pv 0) b9)) (λC s₂ H₂ fp pins=>(show PG _ _ (N3 K 2 (p9 (m9 0) (p9 (m9 1) N4))) from by (refine E2 (n:=2) ?_ ?_ ?_ ?_;rfl;(refine j9 ?_ ?_ ?_;(exact (i3 (i:=0) (show y0r (["_law_i","_law_one"]:List Str) by decide +kernel) rfl (z0r rfl) (v0q rfl)));(refine j9 ?_ ?_ ?_;(exact (i3 (i:=1) (show y0r (["_law_i","_law_one"]:List Str) by decide +kernel) rfl (z0r rfl) (v0q rfl)));(exact y6);rfl);rfl);rfl;rfl))) (λC s₂ H₂ fp pins=>(d7 G__law_times hr (b8 (y7 (b8 (pv 0) (b8 c6 b9))) (b8 (pv 1) b9)) e9))) (aw3 c6) aw4))),?_⟩
 rw [show start ["_law_p"] [.ref a]=[some (.ref a)] from rfl]
 subst_eqs
 have hxl:=hN.length;refine ⟨⟨_,hS⟩,λD hD=>?_⟩;refine bd4 xs (λi σ H2 => ∃ o1 o2,σ=[o1,o2]/\d4 H H2/\∃ ys,H2 D=some (.lst ys)/\k5 H2 ys ((qs.mapIdx λi q=>((i:Int):Rat)*q).take i)) ⟨_,_,rfl,d4.new hD _,[],c8,.nil⟩ (by rintro i σ H2 ⟨_,_,_,s2,_⟩;exact s2.seq hS) ?_ ?_
 ·rintro i x σ H2 p1 hx ⟨o1,o2,rfl,s2,ys,e2,n2⟩ hp1
  obtain ⟨p,q,rfl,hq,hpn⟩:=hN.getV hx;have hi:=(q0s.mp hx).1;have s3:=d4.new hp1 (.tup [.int i,.ref p])
  subst_eqs
  refine ⟨_,SqT.of c8,rfl,_,_,rfl,_,_,rfl,rfl,y3,λp2 hp2=>?_⟩;have s4:=d4.new hp2 (.tup [.int i,.int 1])
  have e5:(upd (upd H2 p1 (.tup [.int i,.ref p])) p2 (.tup [.int i,.int 1])) p2=some (.tup (v7 (((i:Int)):Rat))):=by
   rw [c8];unfold v7;rw [v0w,v0x];rfl
  have bi:BtN 1 (((i:Int)):Rat):=⟨by rw [v0w,q0r];exact q0b (show i<2 ^ 10 by omega) (c5 (by decide)),by rw [v0x];decide⟩
  refine ⟨_,_,_,_,1,3000,rfl,⟨p2,rfl,SqT.of e5⟩,⟨p,rfl,SqT.of (s4 _ _ (s3 _ _ (s2 _ _ hpn)))⟩,bi,(hb q (z0c hq)).t (by decide),by decide,λp3 H5 s5 e6=>?_⟩
  have eD:=s5 _ _ (s4 _ _ (s3 _ _ e2));have hsl:(qs.mapIdx λi q=>((i:Int):Rat)*q)[i]? = some (((i:Int):Rat)*q):=by rw [m0s,hq];rfl
  refine D4.mk hi eD ?_ ⟨_,_,rfl,((s2.trans (s3.trans s4)).trans s5).over hD _,_,c8,?_⟩
  ·rw [n2.length,j0b]
   exact q0e (show _<=100 by omega) (by decide)
  ·rw [C3 hsl]
   exact ((((n2.mono (C9.new hp1)).mono s4.tups).mono s5.tups).append (.cons e6 .nil)).mono (C9.lst eD)
 ·rintro σ H2 ⟨o1,o2,rfl,s2,ys,e2,n2⟩
  rw [v0f (by rw [List.length_mapIdx];omega)] at n2
  refine ⟨D,rfl,_,SqL.of e2,λp hp=>?_⟩;rw [bd5];refine k p _ _ (s2.trans (d4.new hp _)) (s2.free hp) c8 ?_;exact (n2.drop 1).mono (C9.new hp)
theorem aY9:∀ {fs:List (List Rat × Nat)},(∀ x ∈ fs,N5 x)->TF (pfs fs)->∀ {i j:Nat},i ≠ j->Cop (eP (pfs fs) i) (eP (pfs fs) j)
 | [],_,_,_,_,_=>ad8 _
 | x :: r,ok,tf,i,j,ij=>by
  have okr:=λy hy=>ok y (q0f x hy);obtain ⟨fx,_,cr,tr⟩:=tf;have ih:=aY9 okr tr ij;have fe:=λj=>(ab2 okr j).lm.fn;have cx:=λj=>ao9 (ap0 fx (fs:=pfs r) tr.fn cr j) (bd1 r okr j) (fe j)
  show Cop (if x.2=i then qp x.1*eP (pfs r) i else eP (pfs r) i) (if x.2=j then qp x.1*eP (pfs r) j else eP (pfs r) j)
  split
  ·rw [if_neg ⋯]
   exact (Cop.mul (fe j) fx (fe i) (cx j).symm ih.symm).symm
  ·split
   ·exact Cop.mul (fe i) fx (fe j) (cx i).symm ih
   ·exact ih
theorem bl4 {fs:List (List Rat × Nat)} (ok:∀ x ∈ fs,N5 x) (tf:TF (pfs fs)) (j:Nat):Cop (eP (pfs fs) j) (dP (eP (pfs fs) j)):=by
 have fe:=(ab2 ok j).lm.fn;have fa:=(an5 ok (j+1)).lm.fn
 have fs':Fn (sP (pfs fs) (j+1)):=aX3 (λx hx=>by
  obtain ⟨y,hy,rfl⟩:=z0y.mp hx;exact as6 _) _
 have h1:=aA2 tf j;have h2:=(ao9 h1.symm (bd1 fs ok j) fe).symm;have e1:=aT3 (pfs fs) j;have e2:=at9 (pfs fs) j;rw [e2,ab4] at e1;have h3:=Cop.addl (c:=0-(sP (pfs fs) (j+1)+dP (aP (pfs fs) (j+1)))) (L6.sub (fs'.add fa.d)) h2
 have e3:sP (pfs fs) j+eP (pfs fs) j*(0-(sP (pfs fs) (j+1)+dP (aP (pfs fs) (j+1))))=dP (eP (pfs fs) j)*aP (pfs fs) (j+1):=by
  generalize dP (eP (pfs fs) j)=a at *;generalize dP (aP (pfs fs) (j+1))=b at *
  grind
 rw [e3] at h3;exact ao9 h3 ⟨_,fa,rfl⟩ fe.d
structure PtZ (L:List Rat) (p:Pf) (n:Nat) (Z:List Int):Prop where
 e:∃ s:Rat,L=scl s Z/\s ≠ 0/\s.den<2 ^ 37/\s.num.natAbs<=1
 tz:k7 Z Z.length
 ln:Z.length=n+1
 gc:i6 Z=1
 zp':∃ u:Rat,u ≠ 0/\zp Z=d5 u*p
 bd:∀ k,(aZ Z k).natAbs<2 ^ 37
theorem J6.ptz {fs:List (List Rat × Nat)} (T:J6 fs) (j:Nat):∃ Z,PtZ (eL fs (j+1)) (eP (pfs fs) (j+1)) (nE fs (j+1)) Z:=by
 obtain ⟨Z,M⟩:=T.emz j;obtain ⟨B,hB,eB,lB⟩:=M.nat;have b36:=ap2.2.1;have up:(0:Rat)<(aZ Z (nE fs (j+1)):Rat):=y0n.mpr M.ld;have un:(aZ Z (nE fs (j+1)):Rat) ≠ 0:=n9 (by have:=M.ld;omega)
 have B0:B ≠ 0:=⋯;refine ⟨Z,⟨_,(aT4 T.ok M.ln ⟨_,up,M.eq⟩ eB B0).symm,λz=>?_,q0e (show (an9 B B0).den<=_ from lB) b36,by show (1:Int).natAbs<=1;decide⟩,M.tz,M.ln,M.gc,⟨_,un,M.eq⟩,λk=>q0e (M.nl.at k) b36⟩
 have:=aF0 B0;rw [z] at this
 grind
theorem ba5 (s:Rat) (Z:List Int):slp (scl s Z)=scl s ((j0f (Z.length-1)).map λi=>((i+1:Nat):Int)*aZ Z (i+1)):=by
 refine u0g λk=>?_;rw [ba6];unfold scl;rw [q0q,q0q,q0q];rcases z0z k (Z.length-1) with y | y
 ·rw [j0d y,q0c ⋯]
  show some ((((k+1:Nat):Int):Rat)*(s*((Z[k+1]'⋯:Int):Rat)))=some (s*((((k+1:Nat):Int)*(Z[k+1]?.getD 0):Int):Rat));rw [q0c ⋯,q0n]
  show _=some (s*(_*((Z[k+1]'⋯:Int):Rat)))
  congr 1
  grind
 ·rw [q0d ⋯,q0d (by rw [j0e];exact y)];rfl
theorem ShI.slope {L:List Rat} {p:Pf} {n:Nat} {Z:List Int} (h:PtZ L p n Z) (n1:1<=n) (n5:n<=5) (c:Cop p (dP p)):∃ s t C,L=scl s Z/\slp L=scl t C/\ShI s t Z C:=by
 obtain ⟨s,e,s0,sd,sn⟩:=h.e;obtain ⟨u,u0,eu⟩:=h.zp';have lZ:=h.ln;obtain ⟨zs,hzs⟩:∃ zs:List Int,zs=(j0f (Z.length-1)).map λi=>((i+1:Nat):Int)*aZ Z (i+1):=⟨_,rfl⟩;have lz:zs.length=n:=by rw [hzs,q0m,j0e];omega
 have az:∀ j,aZ zs j=((j+1:Nat):Int)*aZ Z (j+1):=λj=>by
  rw [hzs];unfold aZ;rcases z0z j (Z.length-1) with y | y
  ·rw [q0q,j0d y];rfl
  ·rw [q0d (by rw [q0m,j0e];exact y),q0d ⋯]
   show (0:Int)=_*0;omega
 have tz:k7 zs zs.length:=by
  refine ⟨q0t _,λi v hi e=>?_,λhn v e=>?_⟩
  ·have:=(q0s.mp e).1;omega
  ·have h1:=az (zs.length-1)
   unfold aZ at h1;rw [e] at h1;have h1:v=((zs.length-1+1:Nat):Int)*aZ Z (zs.length-1+1):=h1;rw [h1];have lead:=v5 h.tz ⋯;rw [show zs.length-1+1=Z.length-1 by omega]
   exact y0m ⋯ lead
 obtain ⟨g,C,g0,lC,tC,gC,eg,bg,es⟩:=aw2 tz;have nC:C ≠ []:=λz=>by rw [z] at lC;simp at lC;omega
 have bz:∀ k,(aZ zs k).natAbs<2 ^ 40:=λk=>by
  rw [az,q0x,q0r,show 40=3+37 from rfl,j0v];rcases z0z k 6 with y | y
  ·exact j0g ⋯ (h.bd _)
  ·have:aZ Z (k+1)=0:=by unfold aZ;rw [q0d ⋯];rfl
   rw [this];exact j0q (by decide) (by decide)
 obtain ⟨gb,bC⟩:=bg 40 bz (by decide)
 have gq:=n9 g0
 have ezs:zp zs=dP (zp Z):=Pf.ext λk=>by
  show zc zs k=((k+1:Nat):Rat)*zc Z (k+1);unfold zc;rw [az,q0n];rfl
 have ezC:zp zs=d5 (g:Rat)*zp C:=Pf.ext λk=>by
  rw [u8]
  show zc zs k=_*zc C k;unfold zc;rw [eg,q0n]
 have co:Cop (zp Z) (zp C):=by
  have h1:=c.both u0 u0;rw [<- bd3,<- eu,<- ezs,ezC] at h1;have h2:=h1.scale (c:=(g:Rat)⁻¹) (λz=>by have:=q0j _ gq;rw [z] at this;grind)
  have gi:=u9 gq;rw [show d5 (g:Rat)⁻¹*(d5 (g:Rat)*zp C)=zp C by generalize d5 (g:Rat)⁻¹=i at *;grind] at h2
  exact h2
 have st0:s*(g:Rat) ≠ 0:=λz=>by
  rcases j0t.mp z with y | y
  ·exact s0 y
  ·exact gq y
 have b1:=aN4 (t:=s) (g:=g);refine ⟨s,s*(g:Rat),C,e,by rw [e,ba5,<- hzs,es],aB7 s0 st0 h.tz tC ⋯ ⋯ ⋯ co (gC nC) nC h.bd bC sd sn (q0e b1.2 sd) (q0e b1.1 (q0e (z0b _ sn) (by rw [v0s];exact gb))) (.inl ⋯)⟩
theorem ShI.two {L M:List Rat} {p q:Pf} {m n:Nat} {Z W:List Int} (h:PtZ L p m Z) (k:PtZ M q n W) (m5:m<=5) (n5:n<=5) (c:Cop p q):∃ s t,L=scl s Z/\M=scl t W/\ShI s t Z W:=by
 obtain ⟨s,e,s0,sd,sn⟩:=h.e;obtain ⟨t,e',t0,td,tn⟩:=k.e;obtain ⟨u,u0,eu⟩:=h.zp';obtain ⟨v,v0,ev⟩:=k.zp';have lZ:=h.ln;have lW:=k.ln;have co:Cop (zp Z) (zp W):=by rw [eu,ev];exact c.both u0 v0
 refine ⟨s,t,e,e',aB7 s0 t0 h.tz k.tz ⋯ ⋯ ⋯ co k.gc (λz=>by rw [z] at lW;simp at lW) h.bd (λi=>q0b (k.bd i) (c5 (by decide))) sd sn td (q0e tn (by decide)) ?_⟩
 rcases z0z W.length Z.length with y | y
 ·exact .inl y
 ·exact .inr ⟨y,k.bd,tn⟩
def aL1 (K:q0a):Sp:=λvs H Q _ => ∃ (r:Addr) (ts:List V) (X:Addr->Prop) (fs:List (List Rat × Nat)),vs=[.ref r]/\H r=some (.lst ts)/\G1 X H ts (E8 fs 13)/\J6 fs/\∀ H',d4 H H'->Q (.bl true) H'
abbrev C0:Stmt:=top 51
theorem t8:i8 ["_law_found","_law_place","_law_part","_law_often","_law_other_here","_law_many"] ["_law_found"] (d6 C0):=by and_intros
theorem ad1 {f f1 f2:Addr} (d:Df K mg "_law_are_apart" C0 ["_law_found"] f) (G__law_shared:Def P w K mg base CX0 4 "_law_shared" f1 ["_law_p","_law_q"] (aB4 K)) (G__law_sloped:Def P w K mg base CX0 3 "_law_sloped" f2 ["_law_p"] (ar5 K)) (n_enumerate:mg "enumerate" = none):Def P w K mg base CX0 5 "_law_are_apart" f ["_law_found"] (aL1 K):=by
  refine d.ok (N:=["_law_found","_law_place","_law_part","_law_often","_law_other_here","_law_many"]) t8 (by rintro vs H Q E ⟨_,_,_,_,h,_⟩;rw [h];rfl) (λcdv A outer s H vs Q E hr h=>?_)
  obtain ⟨r,ts,X,fs,rfl,er,pr,T,k⟩:=h;have hu:=hr.units
  refine ⟨_, (c7 (C2 PassesOwn.never rfl (X0 rfl n_enumerate (b8 (pv 0) b9)) (show PG _ _ (N3 K 2 (p9 (m9 1) (p9 (N3 K 2 (p9 (m9 2) (p9 (m9 3) N4))) N4))) from by (refine E2 (n := 2) ?_ ?_ ?_ ?_; rfl; (refine j9 ?_ ?_ ?_; (exact (i3 (i := 1) t8.nd rfl (Or.inl rfl))); (refine j9 ?_ ?_ ?_; (refine E2 (n := 2) ?_ ?_ ?_ ?_; rfl; (refine j9 ?_ ?_ ?_; (exact (i3 (i := 2) t8.nd rfl (Or.inl rfl))); (refine j9 ?_ ?_ ?_; (exact (i3 (i := 3) t8.nd rfl (Or.inl rfl))); (exact y6); rfl); rfl); rfl; rfl); (exact y6); rfl); rfl); rfl; rfl)) (c7 (w8 (i9 (U7 hu) (d7 G__law_shared hr (b8 (pv 2) (b8 (d7 G__law_sloped hr (b8 (pv 2) b9) e9) b9)) e9) (z7 (b8 (y7 (b8 c6 (b8 c6 b9))) b9)) (k4 _)) (c9 (i5 U5)) m6)
      (c9 (C2 PassesOwn.never rfl (v6 (am6 av3 (pv 0) aw4 (aw3 (pv 1)))) (show PG _ _ (N3 K 2 (p9 (m9 4) (p9 (m9 5) N4))) from by (refine E2 (n:=2) ?_ ?_ ?_ ?_;rfl;(refine j9 ?_ ?_ ?_;(exact (i3 (i:=4) t8.nd rfl (Or.inl rfl)));(refine j9 ?_ ?_ ?_;(exact (i3 (i:=5) t8.nd rfl (Or.inl rfl)));(exact y6);rfl);rfl);rfl;rfl)) (c9 (w8 (i9 (U7 hu) (d7 G__law_shared hr (b8 (pv 2) (b8 (pv 4) b9)) e9) (z7 (b8 (y7 (b8 c6 (b8 c6 b9))) b9)) (k4 _)) (c9 (i5 U5)) m6))))))
      (c9 (i5 U5))),?_⟩
  rw [show start ["_law_found","_law_place","_law_part","_law_often","_law_other_here","_law_many"] [.ref r]=[some (.ref r),none,none,none,none,none] from rfl]
  obtain ⟨ds,hds⟩:∃ ds,ds=E8 fs 13:=⟨_,rfl⟩;rw [<- hds] at pr;have lts:=pr.length;obtain ⟨I,hI⟩:∃ I:Nat->L2.St->Hp->Prop,∀ i σ H1,I i σ H1 ↔ ∃ o1 o2 o3 o4 o5,σ=[some (.ref r),o1,o2,o3,o4,o5]/\d4 H H1:=⟨_,λ_ _ _=>Iff.rfl⟩;refine d8 (λσ H1=>I ts.length σ H1) (λN hN=>?_) ?_
  · refine ⟨_,rfl,r,rfl,⟨_,SqL.of er⟩,V2 ts I ((hI _ _ _).mpr ⟨_,_,_,_,_,rfl,d4.refl _⟩) (by intro i σ H1 h;obtain ⟨_,_,_,_,_,_,s1⟩:=(hI _ _ _).mp h;exact SqL.of (s1 _ _ er)) ?_ (λσ H1 h=>hN _ _ h)⟩
    intro i x σ H1 pe hx h hpe;obtain ⟨o1,o2,o3,o4,o5,rfl,s1⟩:=(hI _ _ _).mp h;obtain ⟨p,l,xs,L,m,rfl,ef,hp,hl,nL,_⟩:=(pr.same s1).get hx;have Xe:=d4.new hpe (.tup [.int i,.ref p]);have hm:(L,m) ∈ E8 fs 13:=by rw [<- hds];exact List.mem_of_getElem? ef
    obtain ⟨j,hj,nj,ej⟩:=P1 13 hm;have eL':L=eL fs (j+1):=(Prod.mk.inj ej).1;have mj:m=j+1:=(Prod.mk.inj ej).2;have e5:=T.e5 (j+1) ⋯;obtain ⟨Z,PZ⟩:=T.ptz j;rw [<- eL'] at PZ;refine ⟨pe,_,rfl,SqT.of c8,rfl,_,_,rfl,_,_,rfl,p,_,rfl,SqT.of (Xe _ _ hp),rfl,_,_,rfl,_,_,rfl,rfl,rfl,?_⟩;have hl2:=Xe _ _ hl;have nL2:=nL.mono Xe.tups;have S2:=s1.trans Xe;generalize upd H1 pe (.tup [.int i,.ref p])=H2 at *;simp only [List.set_cons_zero,List.set_cons_succ];refine d8 (λσ H3=>σ=[some (.ref r),some (.int (i:Int)),some (.ref l),some (.int (m:Int)),o4,o5]/\d4 H2 H3) (λN hN=>?_) ?_
    · subst_eqs
      obtain ⟨s,t,C,es,et,J⟩:=ShI.slope PZ ⋯ ⋯ (bl4 T.ok T.tf (j+1));obtain ⟨Bq,hBq,lBq,oq⟩:=T.eB j;rw [<- eL'] at oq;have ll:L.length=nE fs (j+1)+1:=by rw [eL',ag4]
      refine ⟨l,xs,L,rfl,SqL.of hl2,nL2,λq hq=>((oq q hq).bdN hBq lBq).mono (by decide),⋯,λr1 ys H3 s3 f3 e3 n3=>?_⟩
      rw [et] at n3;have nL3:=nL2.mono s3.tups;rw [es] at nL3;refine ⟨l,r1,xs,ys,s,t,Z,C,rfl,s3 _ _ hl2,e3,nL3,n3,J,λr2 us H4 s4 e4 n4=>⟨y3,λp1 h1=>⟨av1,λp2 h2=>?_⟩⟩⟩;have X1:=d4.new h1 (.tup [.int 1,.int 1]);have X2:=d4.new h2 (.lst [.ref p1]);have X12:=X1.trans X2;refine ⟨x6 [1],x6 [1],rfl,p7 (SqL.of (X12 _ _ e4)) (n4.mono X12.tups),p7 (SqL.of c8) (.cons (X2 _ _ (show upd H4 p1 (.tup [.int 1,.int 1]) p1=some (.tup (v7 1)) from c8)) .nil),F9 _ _,Nat.le_trans (G9 _) (by decide),?_⟩
      rw [C7,decide_eq_true rfl];exact ⟨false,rfl,t7 (λh=>absurd h (by decide)) (λ_=>hN _ _ ⟨rfl,s3.trans (s4.trans X12)⟩)⟩
    rintro σ H3 ⟨rfl,s3⟩;have S3:=S2.trans s3;have pr3:=pr.same S3;refine ⟨_,rfl,_,rfl,i,rfl,r,ts,rfl,SqL.of (S3 _ _ er),λq hq=>?_⟩;have hi:=(List.getElem?_eq_some_iff.mp ef).1;rw [aG3 ts ⋯];have Xq:=d4.new hq (.lst (ts.take i));have S4:=S3.trans Xq;have er4:upd H3 q (.lst (ts.take i)) q=some (.lst (ts.take i)):=c8;have pr4:=pr.same S4;have hl4:=(s3.trans Xq) _ _ hl2;have nL4:=nL2.mono (s3.trans Xq).tups;generalize upd H3 q (.lst (ts.take i))=H4 at *;obtain ⟨J,hJ⟩:∃ J:Nat->L2.St->Hp->Prop,∀ v σ H5,J v σ H5 ↔ ∃ o4 o5,σ=[some (.ref r),some (.int (i:Int)),some (.ref l),some (.int (m:Int)),o4,o5]/\d4 H4 H5:=⟨_,λ_ _ _=>Iff.rfl⟩;refine ⟨q,rfl,⟨_,SqL.of er4⟩,J4 (xs:=ts.take i) J ((hJ _ _ _).mpr ⟨_,_,rfl,d4.refl _⟩) (by intro v σ H5 _ h;obtain ⟨_,_,_,s5⟩:=(hJ _ _ _).mp h;exact SqL.of (s5 _ _ er4)) ?_ (λσ H5 h=>by obtain ⟨_,_,rfl,s5⟩:=(hJ _ _ _).mp h;exact (hI _ _ _).mpr ⟨_,_,_,_,_,rfl,S4.trans s5⟩)⟩
    intro v x σ H5 hx5 h;obtain ⟨o4,o5,rfl,s5⟩:=(hJ _ _ _).mp h
    have hv:v<i:=by
      have:=(List.getElem?_eq_some_iff.mp hx5).1;rw [List.length_take] at this;omega
    rw [List.getElem?_take_of_lt hv] at hx5;obtain ⟨p5,l5,xs5,L5,m5,rfl,ef5,hp5,hl5,nL5,_⟩:=(pr4.same s5).get hx5;have hm5:(L5,m5) ∈ E8 fs 13:=by rw [<- hds];exact List.mem_of_getElem? ef5
    obtain ⟨j5,hj5,nj5,ej5⟩:=P1 13 hm5;have eL5:L5=eL fs (j5+1):=(Prod.mk.inj ej5).1;have mj5:m5=j5+1:=(Prod.mk.inj ej5).2
    have lt5:m5<m:=by
      obtain ⟨h1,e1⟩:=List.getElem?_eq_some_iff.mp ef5;obtain ⟨h2,e2⟩:=List.getElem?_eq_some_iff.mp ef;have pw:=aJ9 fs 13;rw [<- hds] at pw;have:=List.pairwise_iff_getElem.mp pw v i h1 h2 hv;rw [e1,e2] at this;exact this
    have e55:=T.e5 (j5+1) ⋯;obtain ⟨Z5,PZ5⟩:=T.ptz j5;rw [<- eL5] at PZ5;obtain ⟨s,t,es,et,Jn⟩:=ShI.two PZ PZ5 ⋯ ⋯ (aY9 T.ok T.tf (show j+1 ≠ j5+1 by omega))
    have nL5':=nL4.mono s5.tups;rw [es] at nL5';rw [et] at nL5
    subst_eqs
    refine ⟨_,SqT.of hp5,rfl,_,_,rfl,_,_,rfl,rfl,l,l5,xs,xs5,s,t,Z,Z5,rfl,s5 _ _ hl4,hl5,nL5',nL5,Jn,λr2 us H6 s6 e6 n6=>⟨y3,λp1 h1=>⟨av1,λp2 h2=>?_⟩⟩⟩;have X1:=d4.new h1 (.tup [.int 1,.int 1]);have X2:=d4.new h2 (.lst [.ref p1]);have X12:=X1.trans X2;refine ⟨x6 [1],x6 [1],rfl,p7 (SqL.of (X12 _ _ e6)) (n6.mono X12.tups),p7 (SqL.of c8) (.cons (X2 _ _ (show upd H6 p1 (.tup [.int 1,.int 1]) p1=some (.tup (v7 1)) from c8)) .nil),F9 _ _,Nat.le_trans (G9 _) (by decide),?_⟩
    rw [C7,decide_eq_true rfl];exact ⟨false,rfl,t7 (λh=>absurd h (by decide)) (λ_=>(hJ _ _ _).mpr ⟨_,_,rfl,s5.trans (s6.trans X12)⟩)⟩
  rintro σ H1 h;obtain ⟨_,_,_,_,_,rfl,S1⟩:=(hI _ _ _).mp h
  subst_eqs
  exact k H1 S1
end
end R
set_option maxRecDepth 100000
local macro_rules | `(tactic| simp_wf) => `(tactic| first | rfl | decide | exact .inl rfl | (intro _; rfl))
namespace R
open PySem L2 PyProof.Rows
theorem NK.o60 {kd:Int} {q:Rat} (h:NK kd q) (hk:kd=0 \/ kd=1):OvB 60 10 q:=by
 rcases hk with rfl | rfl
 ·exact h.ovb0
 ·exact h.ovb1.up (C:=60) (c:=6) (by decide) (by decide) (by decide)
structure DrQ (L:List Rat) (n:Nat):Prop where
 tl:x9 L L.length
 ne:L ≠ []
 len:L.length<=n+1
 ov:∀ q ∈ L,OvB 60 10 q
theorem DrQ.mono {L:List Rat} {m n:Nat} (h:DrQ L m) (l:m<=n):DrQ L n:=⟨h.tl,h.ne,by have:=h.len;omega,h.ov⟩
theorem DrQ.of {kd:Int} {qs:List Rat} {q:Rat} {n:Nat} (hk:kd=0 \/ kd=1) (h:∀ p ∈ qs,NK kd p) (hq:NK kd q) (q0:q ≠ 0) (l:qs.length<=n):DrQ (qs ++ [q]) n:=⟨R1 λx hx=>by
 rw [j0z,u0r,z0u,g0h (q0t _),q1a] at hx
 cases hx;exact q0,by simp,by simp;exact l,λp hp=>by
 rcases v0u.mp hp with z | z
 ·exact (h p z).o60 hk
 ·rw [y0h.mp z];exact hq.o60 hk⟩
theorem DrQ.z {L:List Rat} {n:Nat} (h:DrQ L n):∃ f:Nat->Int,(∀ k,(((60:Nat):Int):Rat)*(qp L).f k=(f k:Rat))/\(∀ k,(f k).natAbs<=1024)/\∀ k,L.length<=k->f k=0:=by
 obtain ⟨z,e,b⟩:=al1 (B:=60) (W:=10) (by decide) (bh5 h.ov)
 have e':∀ k,(((60:Nat):Int):Rat)*(qp L).f k=(z k:Rat):=λk=>by
  have h5:=q0j _ (ap1 (B:=60) (by decide))
  rw [e];generalize (((60:Nat):Int):Rat)⁻¹=i at *;generalize (((60:Nat):Int):Rat)=y at *
  grind
 exact ⟨z,e',λk=>y0c (b k),λk hk=>q0y.mp (by rw [<- e',ah7 L k hk,q0k];grind)⟩
theorem DrQ.lm {L:List Rat} {n:Nat} (h:DrQ L n):Lm (qp L) (L.length-1):=⟨λk hk=>ah7 L k (by have:=j0s.mpr h.ne;omega),by
 have lp:=j0s.mpr h.ne;have e:=q0c (l:=L) (i:=L.length-1) ⋯;have:=h.tl.last ⋯ _ e
 show aQ L _ ≠ 0;unfold aQ;rw [e];exact this⟩
theorem DrQ.fk {L:List Rat} {n:Nat} (h:DrQ L n) (n3:n<=3):FK 1024 (qp L):=by
 obtain ⟨f,e,b,_⟩:=h.z;exact ⟨⟨60,f,by decide,e,b⟩,_,by have:=h.len;omega,h.lm⟩
theorem DrQ.nl {L:List Rat} {n:Nat} (h:DrQ L n) (n3:n<=3):NL 4096 (d5 (((60:Nat):Int):Rat)*qp L):=by
 obtain ⟨f,e,b,z⟩:=h.z;refine ⟨f,4,λk=>by rw [u8,e],λk hk=>z k (by have:=h.len;omega),?_⟩
 have b0:=b 0;have b1:=b 1;have b2:=b 2;have b3:=b 3
 show 0+(f 0).natAbs+(f 1).natAbs+(f 2).natAbs+(f 3).natAbs<=4096;omega
theorem bb1 {A B C:List Rat} (ha:DrQ A 3) (hb:DrQ B 2) (hc:DrQ C 2):OvP 46656000000 73 (qp A*(qp B*qp B)*(qp C*(qp C*qp C))):=by
 have a:=ha.nl (by decide)
 have b:=hb.nl (by decide)
 have c:=hc.nl (by decide)
 have h:=(a.mul (b.mul b)).mul (c.mul (c.mul c));refine aH9 (by decide) (X:=4096 ^ 6) ?_ (by decide)
 have e:(((46656000000:Nat):Int):Rat)=(((60:Nat):Int):Rat)*((((60:Nat):Int):Rat)*(((60:Nat):Int):Rat))*((((60:Nat):Int):Rat)*((((60:Nat):Int):Rat)*(((60:Nat):Int):Rat))):=by decide +kernel
 rw [e,z8,z8,z8];have h2:=h.mono (show 4096*(4096*4096)*(4096*(4096*4096))<=4096 ^ 6 by decide)
 refine Eq.mp (congrArg (NL _) ?_) h2;generalize d5 (((60:Nat):Int):Rat)=x
 grind
structure ML (L:List Rat) (P:Pf) (B W N:Nat):Prop where
 tl:x9 L L.length
 e:qp L=P
 ov:∀ q ∈ L,OvB B W q
 dg:Dg P.f N
theorem bj2 {L:List Rat} {N:Nat} (t:x9 L L.length) (d:Dg (qp L).f N):L.length<=N:=Classical.byContradiction λz=>by
 have e:=q0c (l:=L) (i:=L.length-1) ⋯;have h1:=t.last ⋯ _ e;have h2:aQ L (L.length-1)=0:=d _ ⋯;unfold aQ at h2;rw [e] at h2;exact h1 h2
theorem ML.len {L:List Rat} {P:Pf} {B W N:Nat} (h:ML L P B W N):L.length<=N:=bj2 h.tl (by rw [h.e];exact h.dg)
theorem ML.mul {L M:List Rat} {P Q:Pf} {B C V W m n k:Nat} (h:ML L P B V m) (h':ML M Q C W n) (t:x9 (J8 L M) k) (ov:∀ q ∈ J8 L M,OvB (B*C) (V+W+400) q):ML ((J8 L M).take k) (P*Q) (B*C) (V+W+400) (m+n-1):=⟨ak5 t,by rw [bh6 t,aU2,h.e,h'.e],λq hq=>ov q (u0y hq),Dg.cv h.dg h'.dg⟩
theorem DrQ.ml {L:List Rat} {n:Nat} (h:DrQ L n):ML L (qp L) 60 10 (n+1):=⟨h.tl,rfl,h.ov,λk hk=>ah7 L k (by have:=h.len;omega)⟩
section
variable {P:Program} {w:World} {K:q0a} {mg:Str->Option Value} {base:Heap}
abbrev ar8:Stmt:=top 52
theorem A8:i8 ["_law_script","_law_at","_law_urn_here","_law_way","_law_kind_here","_law_often","_law_third","_law_p","_law_handed","_law_turn","_law_first","_law_second","_law_found","_law_part","_law_many"] ["_law_script"] (d6 ar8):=by and_intros
theorem bi4 {f g1 g2 g3 g4 g5 g6 g7 g8 g9 g10 g11:Addr} {fd:FuncData} (F:Fun K "law" "law" ar8 f fd) (G__law_urn:Def P w K mg base CX0 1 "_law_urn" g1 ["_law_script","_law_at"] (be8 K)) (G__law_draw:Def P w K mg base CX0 1 "_law_draw" g2 ["_law_urn_here","_law_many"] M8) (G__law_kind:Def P w K mg base CX0 2 "_law_kind" g3 ["_law_urn_here"] aT2) (GD__law_other:Def P w K mg base CX0 3 "_law_other" g4 ["_law_urn_here","_law_kind_here"] al6) (GD__law_drawn_poly:Def P w K mg base CX0 4 "_law_drawn_poly" g5 ["_law_urn_here","_law_kind_here","_law_most"] ac0) (G__law_poly_times:Def P w K mg base CX0 3 "_law_poly_times" g6 ["_law_p","_law_q"] (av0 K)) (GD__law_poly_often:Def P w K mg base CX0 3 "_law_poly_often" g7 ["_law_number_here","_law_p"] (ae9 K)) (G_parted:Def P w K mg base CX0 5 "parted" g8 ["p"] (aB5 K)) (G__law_is_list:Def P w K mg base CX0 4 "_law_is_list" g9 ["_law_found"] (be9 K)) (G__law_made:Def P w K mg base CX0 4 "_law_made" g10 ["_law_lead","_law_found"] (aT1 K)) (G__law_are_apart:Def P w K mg base CX0 5 "_law_are_apart" g11 ["_law_found"] (aL1 K))
  (n_range:mg "range" = none) (n_max:mg "max" = none) (n_min:mg "min" = none) (n_len:mg "len" = none) (n_list:mg "list" = none):V8 P w K mg base CX0 6 f fd ["_law_script"] (aK9 K):=by
 have G__law_other:=GD__law_other;have G__law_drawn_poly:=GD__law_drawn_poly;have G__law_poly_often:=GD__law_poly_often;refine F.ok (N:=["_law_script","_law_at","_law_urn_here","_law_way","_law_kind_here","_law_often","_law_third","_law_p","_law_handed","_law_turn","_law_first","_law_second","_law_found","_law_part","_law_many"]) A8 (λvs H Q E ⟨x,y,h,_⟩=>by rw [h];rfl) (λcdv A outer s H vs Q E hr h=>?_)
 obtain ⟨as,ns,rfl,hS,h63,k⟩:=h;have hu:=hr.units;refine ⟨_,(@c7 _ _ _ _ _ (@C2 _ _ _ _ _ _ _ _ PassesOwn.never rfl (@W9 _ _ _ _ _ _ rfl n_range (@b8 _ _ _ _ _ (@f9 _ _ _ _ _ _ _ _ _ (at4 rfl) rfl n_max (by decide +kernel) (@b8 _ _ _ _ _ c6 (@b8 _ _ _ _ _ (@f9 _ _ _ _ _ _ _ _ _ (aQ5 rfl) rfl n_min (by decide +kernel) (@b8 _ _ _ _ _ c6 (@b8 _ _ _ _ _ (@f9 _ _ _ _ _ _ _ _ _ h9 rfl n_len (by decide +kernel) (@b8 _ _ _ _ _ (pv 0) b9 (by simp_wf)) (by simp_wf) (by simp_wf) (by simp_wf) (by simp_wf)) b9 (by simp_wf)) (by simp_wf)) (by simp_wf) (by simp_wf) (by simp_wf) (by simp_wf)) b9 (by simp_wf)) (by simp_wf)) (by simp_wf) (by simp_wf) (by simp_wf) (by simp_wf)) b9 (by simp_wf)) (by simp_wf)) (i3 (i:=1) A8.nd rfl (z0r rfl)) (@c7 _ _ _ _ _ (@d9 _ _ 2 _ _ _ _ A8.nd rfl (z0r rfl) (@d7 _ _ _ _ _ _ _ _ _ _ _ _ _ _ G__law_urn hr (@b8 _ _ _ _ _ (pv 0) (@b8 _ _ _ _ _ (pv 1) b9 (by simp_wf)) (by simp_wf)) e9 (by simp_wf) (by simp_wf) (by simp_wf) (by simp_wf) (by simp_wf)) (by simp_wf) (by simp_wf)) (@c7 _ _ _ _ _ (@d9 _ _ 3 _ _ _ _ A8.nd rfl (z0r rfl) (@d7 _ _ _ _ _ _ _ _ _ _ _ _ _ _ G__law_draw hr (@b8 _ _ _ _ _ (pv 2) (@b8 _ _ _ _ _ c6 b9 (by simp_wf)) (by simp_wf)) e9 (by simp_wf) (by simp_wf) (by simp_wf) (by simp_wf) (by simp_wf)) (by simp_wf) (by simp_wf)) (@c7 _ _ _ _ _ (@d9 _ _ 4 _ _ _ _ A8.nd rfl (z0r rfl) (@f8 _ _ _ _ _ _ _ _ D7 (@d7 _ _ _ _ _ _ _ _ _ _ _ _ _ _ G__law_kind hr (@b8 _ _ _ _ _ (pv 2) b9 (by simp_wf)) e9 (by simp_wf) (by simp_wf) (by simp_wf) (by simp_wf) (by simp_wf)) c6) (by simp_wf) (by simp_wf)) (@c7 _ _ _ _ _ (@d9 _ _ 5 _ _ _ _ A8.nd rfl (z0r rfl) (@d7 _ _ _ _ _ _ _ _ _ _ _ _ _ _ G__law_other hr (@b8 _ _ _ _ _ (pv 2) (@b8 _ _ _ _ _ (pv 4) b9 (by simp_wf)) (by simp_wf)) e9 (by simp_wf) (by simp_wf) (by simp_wf) (by simp_wf) (by simp_wf)) (by simp_wf) (by simp_wf)) (@c7 _ _ _ _ _ (@aa5 _ _ 10 11 _ _ _ _ _ _ _ _ _ _ _ rfl A8.nd rfl rfl (by decide) rfl rfl (@b8 _ _ _ _ _ (@d7 _ _ _ _ _ _ _ _ _ _ _ _ _ _ G__law_drawn_poly hr (@b8 _ _ _ _ _ (pv 2) (@b8 _ _ _ _ _ (pv 4) (@b8 _ _ _ _ _ c6 b9 (by simp_wf)) (by simp_wf)) (by simp_wf)) e9 (by simp_wf) (by simp_wf) (by simp_wf) (by simp_wf) (by simp_wf)) (@b8 _ _ _ _ _ (@d7 _ _ _ _ _ _ _ _ _ _ _ _ _ _ G__law_drawn_poly hr (@b8 _ _ _ _ _ (pv 2) (@b8 _ _ _ _ _ (pv 4) (@b8 _ _ _ _ _ c6 b9 (by simp_wf)) (by simp_wf)) (by simp_wf)) e9 (by simp_wf) (by simp_wf) (by simp_wf) (by simp_wf) (by simp_wf)) b9 (by simp_wf)) (by simp_wf)) rfl (by simp_wf)) (@c7 _ _ _ _ _ (@d9 _ _ 6 _ _ _ _ A8.nd rfl (z0r rfl) (@d7 _ _ _ _ _ _ _ _ _ _ _ _ _ _ G__law_drawn_poly hr (@b8 _ _ _ _ _ (pv 2) (@b8 _ _ _ _ _ (pv 4) (@b8 _ _ _ _ _ c6 b9 (by simp_wf)) (by simp_wf)) (by simp_wf)) e9 (by simp_wf) (by simp_wf) (by simp_wf) (by simp_wf) (by simp_wf)) (by simp_wf) (by simp_wf)) (@c7 _ _ _ _ _ (@w8 _ _ _ _ _ _ _ _ (@i9 _ _ _ _ _ _ _ _ ac8 (pv 3) c6 (k4 _)) (@c9 _ _ _ (@d9 _ _ 10 _ _ _ _ A8.nd rfl (z0r rfl) (@C1 _ _ _ _ _ _ _ _ _ x8 rfl n_list (by decide +kernel) (@b8 _ _ _ _ _ (pv 11) b9 (by simp_wf)) (by simp_wf) (by simp_wf) (by simp_wf) (by simp_wf)) (by simp_wf) (by simp_wf))) m6) (@c7 _ _ _ _ _ (@w8 _ _ _ _ _ _ _ _ (@i9 _ _ _ _ _ _ _ _ ac8 (pv 3) c6 (k4 _)) (@c9 _ _ _ (@d9 _ _ 6 _ _ _ _ A8.nd rfl (z0r rfl) (@C1 _ _ _ _ _ _ _ _ _ x8 rfl n_list (by decide +kernel) (@b8 _ _ _ _ _ (pv 11) b9 (by simp_wf)) (by simp_wf) (by simp_wf) (by simp_wf) (by simp_wf)) (by simp_wf) (by simp_wf))) m6) (@c7 _ _ _ _ _ (@d9 _ _ 7 _ _ _ _ A8.nd rfl (z0r rfl) (@d7 _ _ _ _ _ _ _ _ _ _ _ _ _ _ G__law_poly_times hr (@b8 _ _ _ _ _ (pv 10) (@b8 _ _ _ _ _ (@d7 _ _ _ _ _ _ _ _ _ _ _ _ _ _ G__law_poly_times hr (@b8 _ _ _ _ _ (pv 11) (@b8 _ _ _ _ _ (pv 11) b9 (by simp_wf)) (by simp_wf)) e9 (by simp_wf) (by simp_wf) (by simp_wf) (by simp_wf) (by simp_wf)) b9 (by simp_wf)) (by simp_wf)) e9 (by simp_wf) (by simp_wf) (by simp_wf) (by simp_wf) (by simp_wf)) (by simp_wf) (by simp_wf)) (@c7 _ _ _ _ _ (@d9 _ _ 7 _ _ _ _ A8.nd rfl (z0r rfl) (@d7 _ _ _ _ _ _ _ _ _ _ _ _ _ _ G__law_poly_times hr (@b8 _ _ _ _ _ (pv 7) (@b8 _ _ _ _ _ (@d7 _ _ _ _ _ _ _ _ _ _ _ _ _ _ G__law_poly_times hr (@b8 _ _ _ _ _ (pv 6) (@b8 _ _ _ _ _ (@d7 _ _ _ _ _ _ _ _ _ _ _ _ _ _ G__law_poly_times hr (@b8 _ _ _ _ _ (pv 6) (@b8 _ _ _ _ _ (pv 6) b9 (by simp_wf)) (by simp_wf)) e9 (by simp_wf) (by simp_wf) (by simp_wf) (by simp_wf) (by simp_wf)) b9 (by simp_wf)) (by simp_wf)) e9 (by simp_wf) (by simp_wf) (by simp_wf) (by simp_wf) (by simp_wf)) b9 (by simp_wf)) (by simp_wf)) e9 (by simp_wf) (by simp_wf) (by simp_wf) (by simp_wf) (by simp_wf)) (by simp_wf) (by simp_wf)) (@c7 _ _ _ _ _ (@d9 _ _ 8 _ _ _ _ A8.nd rfl (z0r rfl) (@C1 _ _ _ _ _ _ _ _ _ x8 rfl n_list (by decide +kernel) (@b8 _ _ _ _ _ (pv 7) b9 (by simp_wf)) (by simp_wf) (by simp_wf) (by simp_wf) (by simp_wf)) (by simp_wf) (by simp_wf)) (@c9 _ _ _ (@C2 _ _ _ _ _ _ _ _ PassesOwn.never rfl (@W9 _ _ _ _ _ _ rfl n_range (@b8 _ _ _ _ _ c6 b9 (by simp_wf)) (by simp_wf)) (i3 (i:=9) A8.nd rfl (z0r rfl)) (@c7 _ _ _ _ _ (@d9 _ _ 12 _ _ _ _ A8.nd rfl (z0r rfl) (@d7 _ _ _ _ _ _ _ _ _ _ _ _ _ _ G_parted hr (@b8 _ _ _ _ _ (pv 8) b9 (by simp_wf)) e9 (by simp_wf) (by simp_wf) (by simp_wf) (by simp_wf) (by simp_wf)) (by simp_wf) (by simp_wf)) (@c7 _ _ _ _ _ (@w8 _ _ _ _ _ _ _ _ (@PW.pt _ _ _ (@Q3 _ _ _ _ _ _ _ (@N0 _ _ _ _ (@R6 _ _ _ (@d7 _ _ _ _ _ _ _ _ _ _ _ _ _ _ G__law_is_list hr (@b8 _ _ _ _ _ (pv 12) b9 (by simp_wf)) e9 (by simp_wf) (by simp_wf) (by simp_wf) (by simp_wf) (by simp_wf)) (by simp_wf))) (@Q3 _ _ _ _ _ _ _ (@i9 _ _ _ _ _ _ _ _ (U7 hu) (@d7 _ _ _ _ _ _ _ _ _ _ _ _ _ _ G__law_made hr (@b8 _ _ _ _ _ (@k3 _ _ _ _ _ _ _ r6 (pv 7) (@O8 _ _ _ _ _ _ E9 c6) (λ_ _=>rfl)) (@b8 _ _ _ _ _ (pv 12) b9 (by simp_wf)) (by simp_wf)) e9 (by simp_wf) (by simp_wf) (by simp_wf) (by simp_wf) (by simp_wf)) (pv 7) (k4 _)) (@Q3 _ _ _ _ _ _ _ (@N0 _ _ _ _ (@R6 _ _ _ (@d7 _ _ _ _ _ _ _ _ _ _ _ _ _ _ G__law_are_apart hr (@b8 _ _ _ _ _ (pv 12) b9 (by simp_wf)) e9 (by simp_wf) (by simp_wf) (by simp_wf) (by simp_wf) (by simp_wf)) (by simp_wf))) (@af2 _ _ _ _ (@i9 _ _ _ _ _ _ _ _ (U7 hu) (pv 8) (pv 7) (k4 _))))))) (@c9 _ _ _ (@i5 _ _ _ _ U5)) m6) (@c7 _ _ _ _ _ (@w8 _ _ _ _ _ _ _ _ (@i9 _ _ _ _ _ _ _ _ (U7 hu) (@d7 _ _ _ _ _ _ _ _ _ _ _ _ _ _ G_parted hr (@b8 _ _ _ _ _ (@d7 _ _ _ _ _ _ _ _ _ _ _ _ _ _ G__law_poly_often hr (@b8 _ _ _ _ _ (pv 5) (@b8 _ _ _ _ _ (pv 7) b9 (by simp_wf)) (by simp_wf)) e9 (by simp_wf) (by simp_wf) (by simp_wf) (by simp_wf) (by simp_wf)) b9 (by simp_wf)) e9 (by simp_wf) (by simp_wf) (by simp_wf) (by simp_wf) (by simp_wf)) (pv 12) (k4 _)) (@c9 _ _ _ (@i5 _ _ _ _ U5)) m6) (@c7 _ _ _ _ _ (@C2 _ _ _ _ _ _ _ _ PassesOwn.never rfl (@v6 _ _ _ _ (pv 12)) (show PG _ _ (N3 K 2 (p9 (m9 13) (p9 (m9 14) N4))) from by (refine E2 (n:=2) ?_ ?_ ?_ ?_;rfl;(refine j9 ?_ ?_ ?_;(exact (i3 (i:=13) A8.nd rfl (z0r rfl))) ;(refine j9 ?_ ?_ ?_;(exact (i3 (i:=14) A8.nd rfl (z0r rfl))) ;(exact y6) ;rfl) ;rfl) ;rfl;rfl)) (@c9 _ _ _ (@ac6 _ _ _ _ (@aU7 _ _ _ _ _ _ _ _ _ _ _ _ PySem.F.plainAttrs_list PySem.F.slot_list_append PySem.F.type_list_append Q6 (pv 13) (@b8 _ _ _ _ _ (@y7 _ _ _ _ _ (@b8 _ _ _ _ _ c6 (@b8 _ _ _ _ _ c6 b9 (by simp_wf)) (by simp_wf))) b9 (by simp_wf)) (by simp_wf) (by simp_wf) (by simp_wf) (by simp_wf) (by simp_wf)) (by simp_wf))) (by simp_wf)) (@c9 _ _ _ (@ac6 _ _ _ _ (@aa7 _ _ _ _ _ _ _ _ _ PySem.F.plainAttrs_list PySem.F.slot_list_clear PySem.F.type_list_clear aV8 (pv 12) (by simp_wf) (by simp_wf)) (by simp_wf))))))) (by simp_wf)))))))))))))) (by simp_wf)) (@c9 _ _ _ (@i5 _ _ _ _ U5))),?_⟩
 rw [show start ["_law_script","_law_at","_law_urn_here","_law_way","_law_kind_here","_law_often","_law_third","_law_p","_law_handed","_law_turn","_law_first","_law_second","_law_found","_law_part","_law_many"] [.ref as]=[some (.ref as),none,none,none,none,none,none,none,none,none,none,none,none,none,none] from rfl]
 have hlen:(((ns.map V.int).length:Nat):Int)=(ns.length:Int):=by rw [q0m]
 obtain ⟨I,hI⟩:∃ I:Nat->L2.St->Hp->Prop,∀ i σ H1,I i σ H1 ↔ ∃ o1 o2 o3 o4 o5 o6 o7 o8 o9 o10 o11 o12 o13 o14,σ=[some (.ref as),o1,o2,o3,o4,o5,o6,o7,o8,o9,o10,o11,o12,o13,o14]/\SqL K H1 as (ns.map V.int):=⟨_,λ_ _ _=>Iff.rfl⟩;refine ⟨_,rfl,as,_,rfl,.inl hS,2,_,rfl,1,_,rfl,_,rfl,?_,?_,ag2 I ((hI _ _ _).mpr ⟨_,_,_,_,_,_,_,_,_,_,_,_,_,_,rfl,hS⟩) ?_ ?_⟩
 ·rw [hlen];split <;> split <;> omega
 ·rw [hlen];split <;> split <;> omega
 ·intro i σ H1 hi hI1
  obtain ⟨o1,o2,o3,o4,o5,o6,o7,o8,o9,o10,o11,o12,o13,o14,rfl,hS1⟩:=(hI _ _ _).mp hI1;rw [hlen] at hi
  have hi4:i<2:=by
   revert hi
   split <;> split <;> omega
  simp only [m9,u0b,v0c];refine d8 (λσ H2 => ∃ u,σ=[some (.ref as),some (.int (0+(i:Int))),some (.ref u),o3,o4,o5,o6,o7,o8,o9,o10,o11,o12,o13,o14]/\d4 H1 H2/\H1 u=none/\t6 H2 u) (λN hN=>?_) ?_
  ·subst_eqs
   exact ⟨as,ns,_,rfl,hS1,⋯,⋯,λu H2 s2 hu0 hu2=>hN _ _ ⟨u,rfl,s2,hu0,hu2⟩⟩
  rintro σ H2 ⟨u,rfl,s2,fu,u2⟩;have sx2:=d4.x s2 u;refine d8 (λσ H3 => ∃ wy:Int,σ=[some (.ref as),some (.int (0+(i:Int))),some (.ref u),some (.int wy),o4,o5,o6,o7,o8,o9,o10,o11,o12,o13,o14]/\q8 u H1 H3/\t6 H3 u) (λN hN=>?_) ?_
  ·simp! [M8]
   exact ⟨u2,by decide,by decide,λr H3 _ _ s3 u3=>hN _ _ ⟨r,rfl,sx2.trans s3,u3⟩⟩
  clear sx2 u2 s2;rintro σ H3 ⟨wy,rfl,s3,u3⟩;refine d8 (λσ H4 => ∃ kd:Int,σ=[some (.ref as),some (.int (0+(i:Int))),some (.ref u),some (.int wy),some (.int kd),o5,o6,o7,o8,o9,o10,o11,o12,o13,o14]/\q8 u H1 H4/\t6 H4 u/\(kd=0 \/ kd=1)) (λN hN=>?_) ?_
  ·subst_eqs
   refine ⟨u,rfl,u3,λr H4 hr4 s4 u4=>⟨r,rfl,by decide,hN _ _ ⟨_,rfl,s3.trans s4,u4,?_⟩⟩⟩
   rcases hr4 with rfl | rfl | rfl
   ·exact .inl rfl
   ·exact .inr rfl
   ·exact .inl rfl
  clear s3 u3;rintro σ H4 ⟨kd,rfl,s4,u4,hk⟩;refine d8 (λσ H5 => ∃ ro c,σ=[some (.ref as),some (.int (0+(i:Int))),some (.ref u),some (.int wy),some (.int kd),some (.ref ro),o6,o7,o8,o9,o10,o11,o12,o13,o14]/\q8 u H1 H5/\t6 H5 u/\H5 ro=some (.tup (v7 c))/\c ≠ 0/\OvB 60 10 c) (λN hN=>?_) ?_
  ·subst_eqs
   exact ⟨u,kd,rfl,u4,λr q H5 nq q0 s5 u5 e5=>hN _ _ ⟨r,q,rfl,s4.trans s5,u5,e5,q0,nq.o60 hk⟩⟩
  clear s4 u4;rintro σ H5 ⟨ro,c,rfl,s5,u5,ec,c0,oc⟩;refine d8 (λσ H6 => ∃ lf ls xf xs F S,σ=[some (.ref as),some (.int (0+(i:Int))),some (.ref u),some (.int wy),some (.int kd),some (.ref ro),o6,o7,o8,o9,some (.ref lf),some (.ref ls),o12,o13,o14]/\q8 u H1 H6/\t6 H6 u/\H6 ro=some (.tup (v7 c))/\(H6 lf=some (.lst xf)/\lf ≠ u)/\(H6 ls=some (.lst xs)/\ls ≠ u)/\k5 H6 xf F/\k5 H6 xs S/\DrQ F 3/\DrQ S 2) (λN hN=>?_) ?_
  ·subst_eqs
   refine ⟨u,kd,3,rfl,u5,by decide,by decide,λr xs qs q H6 s6 u6 f6 e6 n6 b6 bq q0 l6=>⟨u,kd,2,rfl,u6,by decide,by decide,λr' xs' qs' q' H7 s7 u7 f7 e7 n7 b7 bq' q0' l7=>?_⟩⟩
   have ru:r ≠ u:=al5 u5 f6;have ru':r' ≠ u:=al5 u6 f7;have xu:=s7.tups u6;exact hN _ _ ⟨r,r',xs,xs',_,_,rfl,s5.trans (s6.trans s7),u7,s7.tups u6 _ _ (s6.tups u5 _ _ ec),⟨s7 _ _ e6 ru,ru⟩,⟨e7,ru'⟩,n6.mono xu,n7,.of hk b6 bq q0 ⋯,.of hk b7 bq' q0' ⋯⟩
  clear s5 u5 ec;rintro σ H6 ⟨lf,ls,xf,xs,Fq,Sq,rfl,s6,u6,ec,⟨ef,lfu⟩,⟨es,lsu⟩,nf,ns',dF,dS⟩;refine d8 (λσ H7 => ∃ lt xt T,σ=[some (.ref as),some (.int (0+(i:Int))),some (.ref u),some (.int wy),some (.int kd),some (.ref ro),some (.ref lt),o7,o8,o9,some (.ref lf),some (.ref ls),o12,o13,o14]/\q8 u H1 H7/\H7 ro=some (.tup (v7 c))/\H7 lf=some (.lst xf)/\H7 ls=some (.lst xs)/\H7 lt=some (.lst xt)/\k5 H7 xf Fq/\k5 H7 xs Sq/\k5 H7 xt T/\DrQ T 2) (λN hN=>?_) ?_
  ·subst_eqs
   refine ⟨u,kd,2,rfl,u6,by decide,by decide,λr xt qs q H7 s7 u7 f7 e7 n7 b7 bq q0 l7=>?_⟩
   have xu:=s7.tups u6;exact hN _ _ ⟨r,xt,_,rfl,s6.trans s7,xu _ _ ec,s7 _ _ ef lfu,s7 _ _ es lsu,e7,nf.mono xu,ns'.mono xu,n7,.of hk b7 bq q0 ⋯⟩
  clear s6 u6 ec ef es nf ns';rintro σ H7 ⟨lt,xt,Tq,rfl,s7,ec,ef,es,et,nf,ns',nt,dT⟩;refine d8 (λσ H8 => ∃ lf xf F,σ=[some (.ref as),some (.int (0+(i:Int))),some (.ref u),some (.int wy),some (.int kd),some (.ref ro),some (.ref lt),o7,o8,o9,some (.ref lf),some (.ref ls),o12,o13,o14]/\d4 H7 H8/\H8 lf=some (.lst xf)/\k5 H8 xf F/\DrQ F 3) (λN hN=>?_) ?_
  ·subst_eqs
   refine ⟨rfl,t7 (λ_=>⟨_,.inl (SqL.of es),λl hl=>?_⟩) (λ_=>hN _ _ ⟨lf,xf,Fq,rfl,d4.refl _,ef,nf,dF⟩)⟩;have X:=d4.new hl (.lst xs);exact hN _ _ ⟨l,xs,Sq,rfl,X,c8,ns'.mono X.tups,dS.mono (by decide)⟩
  rintro σ H8 ⟨lf,xf,Fq,rfl,s8,ef,nf,dF⟩;refine d8 (λσ H9 => ∃ lt xt T,σ=[some (.ref as),some (.int (0+(i:Int))),some (.ref u),some (.int wy),some (.int kd),some (.ref ro),some (.ref lt),o7,o8,o9,some (.ref lf),some (.ref ls),o12,o13,o14]/\d4 H8 H9/\H9 lt=some (.lst xt)/\k5 H9 xt T/\DrQ T 2) (λN hN=>?_) ?_
  ·subst_eqs
   refine ⟨rfl,t7 (λ_=>⟨_,.inl (SqL.of (s8 _ _ es)),λl hl=>?_⟩) (λ_=>hN _ _ ⟨lt,xt,Tq,rfl,d4.refl _,s8 _ _ et,nt.mono s8.tups,dT⟩)⟩;have X:=d4.new hl (.lst xs);exact hN _ _ ⟨l,xs,Sq,rfl,X,c8,(ns'.mono s8.tups).mono X.tups,dS⟩
  rintro σ H9 ⟨lt,xt,Tq,rfl,s9,et,nt,dT⟩;have s79:=s8.trans s9;have ef9:=s9 _ _ ef;have es9:=s79 _ _ es;have nf9:=nf.mono s9.tups;have ns9:=ns'.mono s79.tups;refine d8 (λσ HA => ∃ lp xp Pq,σ=[some (.ref as),some (.int (0+(i:Int))),some (.ref u),some (.int wy),some (.int kd),some (.ref ro),some (.ref lt),some (.ref lp),o8,o9,some (.ref lf),some (.ref ls),o12,o13,o14]/\d4 H9 HA/\HA lp=some (.lst xp)/\k5 HA xp Pq/\ML Pq (qp Fq*(qp Sq*qp Sq)) (60*(60*60)) (10+(10+10+400)+400) 8) (λN hN=>?_) ?_
  ·subst_eqs
   refine ⟨ls,ls,xs,xs,Sq,Sq,60,60,10,10,20,rfl,SqL.of es9,SqL.of es9,ns9,ns9,dS.ov,dS.ov,by decide,by decide,by decide,by decide,by decide,by decide,by have:=dS.len;omega,by have:=dS.len;omega,λm r zs HA tm om sA fA eA nA=>?_⟩
   have M1:=dS.ml.mul dS.ml tm om;refine ⟨lf,r,xf,zs,Fq,_,60,60*60,10,_,20,rfl,SqL.of (sA _ _ ef9),SqL.of eA,nf9.mono sA.tups,nA,dF.ov,M1.ov,by decide,by decide,by decide,by decide,by decide,by decide,by have:=dF.len;omega,by have:=M1.len;omega,λm r zs HB tm om sB fB eB nB=>?_⟩
   exact hN _ _ ⟨r,zs,_,rfl,sA.trans sB,eB,nB,dF.ml.mul M1 tm om⟩
  rintro σ HA ⟨lp,xp,Pq,rfl,sA,ep,np,MP⟩;refine d8 (λσ HB => ∃ lp xp Pq,σ=[some (.ref as),some (.int (0+(i:Int))),some (.ref u),some (.int wy),some (.int kd),some (.ref ro),some (.ref lt),some (.ref lp),o8,o9,some (.ref lf),some (.ref ls),o12,o13,o14]/\d4 HA HB/\HB lp=some (.lst xp)/\k5 HB xp Pq/\x9 Pq Pq.length/\qp Pq=qp Fq*(qp Sq*qp Sq)*(qp Tq*(qp Tq*qp Tq))) (λN hN=>?_) ?_
  ·subst_eqs
   have etA:=sA _ _ et;have ntA:=nt.mono sA.tups;refine ⟨lt,lt,xt,xt,Tq,Tq,60,60,10,10,20,rfl,SqL.of etA,SqL.of etA,ntA,ntA,dT.ov,dT.ov,by decide,by decide,by decide,by decide,by decide,by decide,by have:=dT.len;omega,by have:=dT.len;omega,λm r zs HB tm om sB fB eB nB=>?_⟩
   have M1:=dT.ml.mul dT.ml tm om;refine ⟨lt,r,xt,zs,Tq,_,60,60*60,10,_,20,rfl,SqL.of (sB _ _ etA),SqL.of eB,ntA.mono sB.tups,nB,dT.ov,M1.ov,by decide,by decide,by decide,by decide,by decide,by decide,by have:=dT.len;omega,by have:=M1.len;omega,λm r zs HC tm om sC fC eC nC=>?_⟩
   have M2:=dT.ml.mul M1 tm om;have sBC:=sB.trans sC;refine ⟨lp,r,xp,zs,Pq,_,_,_,_,_,40,rfl,SqL.of (sBC _ _ ep),SqL.of eC,np.mono sBC.tups,nC,MP.ov,M2.ov,by decide,by decide,by decide,by decide,by decide,by decide,by have:=MP.len;omega,by have:=M2.len;omega,λm r zs HD tm om sD fD eD nD=>?_⟩
   have M3:=MP.mul M2 tm om;exact hN _ _ ⟨r,zs,_,rfl,sBC.trans sD,eD,nD,M3.tl,M3.e⟩
  clear np MP ep;rintro σ HB ⟨lp,xp,Pq,rfl,sB,ep,np,tp,eqp⟩;obtain ⟨fs,κ,κ0,eκ,T⟩:=bg6 (dF.fk (by decide)) (dS.fk (by decide)) (dT.fk (by decide)) dF.lm dS.lm dT.lm (by have:=dF.len;omega) (by have:=dS.len;omega) (by have:=dT.len;omega) eqp
  have PG:PrG fs κ (fP (pfs fs)) (nF fs) Pq:=⟨tp,eκ,aE2 T.ok,Dv'.refl _⟩;have lP:=PG.len κ0;have f13:=T.f13;have ovP:∀ q ∈ Pq,OvB 46656000000 73 q:=aH8 (by rw [eqp];exact bb1 dF dS dT)
  have Pn:Pq ≠ []:=λz=>by rw [z] at lP;cases lP
  have cl:ClN 180 Pq:=at3 (B:=46656000000) (W:=180) (by decide) (by decide) λq hq=>(ovP q hq).mono (by decide)
  have lx:=np.length
  obtain ⟨pk,hpk,epk⟩:∃ pk,xp[xp.length-1]? = some (.ref pk)/\HB pk=some (.tup (v7 κ)):=by
   have h1:Pq[Pq.length-1]? = some κ:=by
    have h2:(qp Pq).f (nF fs)=κ:=by rw [eκ,u8,(aE2 T.ok).ld];grind
    have h3:aQ Pq (nF fs)=κ:=h2;unfold aQ at h3;rw [lP,z0u];rw [q0c ⋯] at h3 ⊢;exact congrArg some h3
   obtain ⟨pk,h4,h5⟩:=np.get h1;exact ⟨pk,by rw [lx];exact h4,h5⟩
  have oκ:OvB 46656000000 1000 κ:=by
   have h1:κ ∈ Pq:=by
    have h2:(qp Pq).f (nF fs)=κ:=by rw [eκ,u8,(aE2 T.ok).ld];grind
    have h3:aQ Pq (nF fs)=κ:=h2;unfold aQ at h3;rw [q0c ⋯] at h3;rw [<- h3];exact y0w _
   exact (ovP _ h1).mono (by decide)
  refine d8 (λσ HC => ∃ lh,σ=[some (.ref as),some (.int (0+(i:Int))),some (.ref u),some (.int wy),some (.int kd),some (.ref ro),some (.ref lt),some (.ref lp),some (.ref lh),o9,some (.ref lf),some (.ref ls),o12,o13,o14]/\d4 HB HC/\HC lh=some (.lst xp)) (λN hN=>?_) ?_
  ·subst_eqs
   exact ⟨xp,.inl (SqL.of ep),λp0 hp0=>hN _ _ ⟨p0,rfl,d4.new hp0 _,c8⟩⟩
  rintro σ HC ⟨lh,rfl,sC,eh⟩;have sAC:=sA.trans (sB.trans sC);have ecC:HC ro=some (.tup (v7 c)):=(s79.trans sAC).tups _ _ ec;have epC:=sC _ _ ep;have npC:=np.mono sC.tups;have epkC:=sC.tups _ _ epk;obtain ⟨B,hB⟩:∃ B:Nat->L2.St->Hp->Prop,∀ t σ HD,B t σ HD ↔ ∃ o9 o12 o13 o14,σ=[some (.ref as),some (.int (0+(i:Int))),some (.ref u),some (.int wy),some (.int kd),some (.ref ro),some (.ref lt),some (.ref lp),some (.ref lh),o9,some (.ref lf),some (.ref ls),o12,o13,o14]/\d4 HC HD:=⟨_,λ_ _ _=>Iff.rfl⟩;refine ⟨2,rfl,by decide,by decide,ag2 B ((hB _ _ _).mpr ⟨_,_,_,_,rfl,d4.refl _⟩) ?_ ?_⟩
  ·intro t σ HD ht hBD
   obtain ⟨o9,o12,o13,o14,rfl,sD⟩:=(hB _ _ _).mp hBD;simp only [m9,u0b,v0c];refine d8 (λσ HE => ∃ r ts,σ=[some (.ref as),some (.int (0+(i:Int))),some (.ref u),some (.int wy),some (.int kd),some (.ref ro),some (.ref lt),some (.ref lp),some (.ref lh),some (.int (0+(t:Int))),some (.ref lf),some (.ref ls),some (.ref r),o13,o14]/\d4 HD HE/\HD r=none/\HE r=some (.lst ts)/\G1 (λl=>HD l=none/\l ≠ r) HE ts (E8 fs 13)) (λN hN=>?_) ?_
   ·subst_eqs
    exact ⟨lh,xp,Pq,rfl,SqL.of (sD _ _ eh),(npC.mono sD.tups).toC,Pn,fs,κ,T,κ0,eκ,tp,cl,⋯,λr ts HE sE fr er pr=>hN _ _ ⟨r,ts,rfl,sE,fr,er,pr⟩⟩
   rintro σ HE ⟨r,ts,rfl,sE,fr,er,pr⟩;refine d8 (λσ HF=>σ=[some (.ref as),some (.int (0+(i:Int))),some (.ref u),some (.int wy),some (.int kd),some (.ref ro),some (.ref lt),some (.ref lp),some (.ref lh),some (.int (0+(t:Int))),some (.ref lf),some (.ref ls),some (.ref r),o13,o14]/\d4 HE HF) (λN hN=>?_) ?_
   ·subst_eqs
    have sDE:=sD.trans sE;refine ⟨r,ts,_,_,rfl,er,pr,T.due,aJ9 fs 13,λHF sF=>⟨true,rfl,t7 (λz=>by cases z) (λ_=>?_)⟩⟩
    have sDF:=sDE.trans sF;refine ⟨xp,SqL.of (sDF _ _ epC),_,R8 hpk,?_⟩;refine ⟨pk,κ,r,ts,_,fs,46656000000,rfl,sDF.tups _ _ epkC,κ0,oκ,by decide,by decide,sF _ _ er,pr.same sF,T,λr2 ys Lq2 HG sG eG nG tG qG=>?_⟩
    have eL:Lq2=Pq:=bg7 tG tp λk=>by
     have:=congrArg (λz=>Pf.f z k) (qG.trans eκ.symm);exact this
    have sDG:=sDF.trans sG;rw [eL] at nG;have ndn:∀ (HG:Hp),d4 HC HG->IsD K HG (.ref lp) (x6 Pq):=λHG s=>p7 (SqL.of (s _ _ epC)) (npC.mono s.tups);refine ⟨x6 Pq,x6 Pq,rfl,p7 (SqL.of eG) nG,ndn _ sDG,F9 _ _,z0f (G9 _) (by decide),?_⟩
    rw [C7,decide_eq_true rfl];refine ⟨false,rfl,t7 (λh=>absurd h (by decide)) (λ_=>?_)⟩
    have sFG:=sF.trans sG;refine ⟨r,ts,_,fs,rfl,sFG _ _ er,pr.same sFG,T,λHH sH=>⟨true,rfl,t7 (λz=>by cases z) (λ_=>?_)⟩⟩
    have sDH:=sDG.trans sH;refine ⟨x6 Pq,x6 Pq,rfl,p7 (SqL.of (sDH _ _ eh)) (npC.mono sDH.tups),ndn _ sDH,F9 _ _,z0f (G9 _) (by decide),?_⟩
    rw [C7,decide_eq_true rfl];exact ⟨false,rfl,t7 (λh=>absurd h (by decide)) (λ_=>hN _ _ ⟨rfl,sFG.trans sH⟩)⟩
   rintro σ HF ⟨rfl,sF⟩;refine d8 (λσ HG=>σ=[some (.ref as),some (.int (0+(i:Int))),some (.ref u),some (.int wy),some (.int kd),some (.ref ro),some (.ref lt),some (.ref lp),some (.ref lh),some (.int (0+(t:Int))),some (.ref lf),some (.ref ls),some (.ref r),o13,o14]/\d4 HF HG) (λN hN=>?_) ?_
   ·subst_eqs
    have sDF:=sD.trans (sE.trans sF)
    have ck0:c*κ ≠ 0:=λz=>by
     rcases j0t.mp z with y | y
     ·exact c0 y
     ·exact κ0 y
    refine ⟨.ref ro,c,lp,xp,Pq,10,180,rfl,⟨ro,rfl,SqT.of (sDF.tups _ _ ecC)⟩,SqL.of (sDF _ _ epC),npC.mono sDF.tups,(oc.bdN (by decide) (by decide)).t (by decide),λq hq=>(((ovP q hq).mono (show 73<=180 by decide)).bdN (by decide) (by decide)).t (by decide),by decide,⋯,λm r1 zs HG tm sG fG eG nG=>?_⟩
    have e2:qp (Pq.map (c * ·))=d5 c*qp Pq:=Pf.ext λk=>by
     rw [u8]
     show aQ (Pq.map (c * ·)) k=c*aQ Pq k
     unfold aQ;rw [q0q]
     cases Pq[k]? with
     | none=>show (0:Rat)=c*0;grind
     | some v=>rfl
    have e3:qp ((Pq.map (c * ·)).take m)=d5 (c*κ)*fP (pfs fs):=by rw [bh6 tm,e2,eκ,z8];grind
    have PG2:PrG fs (c*κ) (fP (pfs fs)) (nF fs) ((Pq.map (c * ·)).take m):=⟨ak5 tm,e3,aE2 T.ok,Dv'.refl _⟩
    have l2:=PG2.len ck0
    have cl2:ClN 180 ((Pq.map (c * ·)).take m):=at3 (B:=60*46656000000) (W:=180) (by decide) (by decide) λq hq=>by
     obtain ⟨v,hv,rfl⟩:=z0y.mp (u0y hq);exact (oc.mul (ovP v hv)).mono (by decide)
    refine ⟨r1,zs,_,rfl,SqL.of eG,nG.toC,λz=>(by rw [z] at l2;cases l2),fs,c*κ,T,ck0,e3,ak5 tm,cl2,⋯,λr2 ts2 HH sH fH eH pH=>?_⟩
    have sGH:=sG.trans sH;have sFH:=sF.trans sGH;refine ⟨aG1 (E8 fs 13),aG1 (E8 fs 13),rfl,.lst (SqL.of eH) pH.isDs,.lst (SqL.of (sFH _ _ er)) (pr.same sFH).isDs,aD6 _,bk9 _,?_⟩;rw [bc9];exact ⟨false,rfl,t7 (λh=>absurd h (by decide)) (λ_=>hN _ _ ⟨rfl,sGH⟩)⟩
   rintro σ HG ⟨rfl,sG⟩;have sEG:=sF.trans sG;have erG:=sEG _ _ er;have pG:=pr.same sEG;have lts:=pG.length;have dl:=al3 fs 13;have S9G:=sE.trans sEG;refine d8 (λσ HJ => ∃ o13 o14,σ=[some (.ref as),some (.int (0+(i:Int))),some (.ref u),some (.int wy),some (.int kd),some (.ref ro),some (.ref lt),some (.ref lp),some (.ref lh),some (.int (0+(t:Int))),some (.ref lf),some (.ref ls),some (.ref r),o13,o14]/\d4 HD HJ/\HJ r=some (.lst ts)) (λN hN=>?_) ?_
   ·obtain ⟨Cv,hC⟩:∃ Cv:Nat->L2.St->Hp->Prop,∀ v σ HJ,Cv v σ HJ ↔ ∃ o13 o14,σ=[some (.ref as),some (.int (0+(i:Int))),some (.ref u),some (.int wy),some (.int kd),some (.ref ro),some (.ref lt),some (.ref lp),some (.ref lh),some (.int (0+(t:Int))),some (.ref lf),some (.ref ls),some (.ref r),o13,o14]/\d4 HD HJ/\C9 HG HJ/\HJ r=some (.lst ts)/\∀ l xs,HD l=none->l ≠ r->HG l=some (.lst xs)->∃ ys,HJ l=some (.lst ys)/\ys.length<=xs.length+v:=⟨_,λ_ _ _=>Iff.rfl⟩
    refine ⟨_,rfl,r,rfl,⟨_,SqL.of erG⟩,J4 (xs:=ts) Cv ((hC _ _ _).mpr ⟨_,_,rfl,S9G,C9.refl _,erG,λl xs _ _ e=>⟨xs,e,⋯⟩⟩) (by intro v σ HJ _ h;obtain ⟨_,_,_,_,_,e,_⟩:=(hC _ _ _).mp h;exact SqL.of e) ?_ (λσ HJ h=>by obtain ⟨o13,o14,rfl,sJ,_,eJ,_⟩:=(hC _ _ _).mp h;exact hN _ _ ⟨_,_,rfl,sJ,eJ⟩)⟩
    intro v x σ HJ hx hC';obtain ⟨o13,o14,rfl,sJ,tpJ,eJ,allJ⟩:=(hC _ _ _).mp hC';have hv:=(q0s.mp hx).1;obtain ⟨p,l,zs,q,mm,rfl,ef',hp,hl,nq,fl⟩:=pG.get hx;obtain ⟨ys,ey,ly⟩:=allJ l zs fl.1 fl.2 hl;have lz:=nq.length;have lq20:=(T.due _ (z0c ef')).1.l20;have lq20:q.length<=20:=lq20
    subst_eqs
    refine ⟨_,SqT.of (tpJ _ _ hp),rfl,_,_,rfl,_,_,rfl,rfl,.inl ⟨_,SqL.of ey⟩,y3,λp6 hp6=>?_⟩;have X6:=d4.new hp6 (.tup [.int 1,.int 2]);have ey':=X6 _ _ ey;refine ⟨l,rfl,ys,ey',ay4 ⋯,(hC _ _ _).mpr ⟨_,_,rfl,(sJ.trans X6).over fl.1 _,(tpJ.trans X6.tups).trans (C9.lst ey'),by rw [i7 fl.2.symm];exact X6 _ _ eJ,λl' xs' f' n' e'=>?_⟩⟩
    by_cases hll:l'=l
    ·subst hll
     rw [hl] at e'
     cases e'
     exact ⟨_,c8,by rw [j0z,u0r];omega⟩
    ·obtain ⟨ys',ey2,ly2⟩:=allJ l' xs' f' n' e'
     exact ⟨ys',by rw [i7 hll];exact X6 _ _ ey2,⋯⟩
   rintro σ HJ ⟨o13,o14,rfl,sJ,eJ⟩
   subst_eqs
   exact ⟨.inl ⟨_,SqL.of eJ⟩,r,ts,rfl,rfl,eJ,(hB _ _ _).mpr ⟨_,_,_,_,rfl,sD.trans (sJ.over fr _)⟩⟩
  ·intro σ HD hBD
   obtain ⟨o9,o12,o13,o14,rfl,sD⟩:=(hB _ _ _).mp hBD;exact (hI _ _ _).mpr ⟨_,_,_,_,_,_,_,_,_,_,_,_,_,_,rfl,(s7.trans (d4.x (s79.trans (sAC.trans sD)) u)).seq fu hS1⟩
 ·intro σ H1 hI1
  obtain ⟨o1,o2,o3,o4,o5,o6,o7,o8,o9,o10,o11,o12,o13,o14,rfl,_⟩:=(hI _ _ _).mp hI1
  subst_eqs
  exact k _
end
end R
set_option maxRecDepth 100000
namespace PySem.W.Fast
def tw11708940899983063072:=0
def tw5283492757150662118:=0
def tw9664906891434841445:=0
def tw17521008545677716384:=0
def tw13520481268457729148:=0
def tw5275094782186433258:=0
def tw2445866719058158731:=0
def tw16809939788046895337:=0
def tw5370543413938316301:=0
def tw1510265159659970905:=0
def tw6843934298090234813:=0
def tw2419603676745405385:=0
def tw15523567384954267270:=0
def tw10202877699425030493:=0
def tw13111797515951737103:=0
def tw15947304909182459075:=0
def tw9102534006446655632:=0
def tw13247618057395209058:=0
def tw16508163217120267590:=0
def tw12485750628594940066:=0
def tw4181130510928436239:=0
def tw9605978485002733958:=0
def tw11394002992114249499:=0
def tw5106198671173210625:=0
def tw9045199964634005268:=0
def tw5616438043488857050:=0
def tw14211081627291026603:=0
def tw9713773398430954460:=0
def tw6325051985575075975:=0
def tw6787154028855990688:=0
def tw5928829549252615172:=0
def tw11294180469475374689:=0
def tw10763861699963157845:=0
def tw1899008836245806494:=0
def tw10135541648471416541:=0
def tw11903702797350589236:=0
def tw7215837051874815567:=0
def tw13101940945281123463:=0
def tw272779243315913283:=0
def tw6120051194704986372:=0
def tw10767861749089755689:=0
def tw12929545784293870383:=0
def tw13253159488779571125:=0
def tw11601851773316891272:=0
def tw511679784734917825:=0
def tw31605387866291495:=0
def tw9477669847412668291:=0
def tw9541470447383131200:=0
def tw12718084670692926249:=0
def tw12049260258502510165:=0
def tw17147089079392581283:=0
def tw115047535943970243:=0
def tw8770060299955663966:=0
def tw3726759572211595203:=0
def tw10979181181415971765:=0
def tw11500513746109212846:=0
def tw6592403564672629356:=0
def tw5258946271632678061:=0
def tw16481120226091822377:=0
def tw17555367343539388426:=0
def tw11805458854468213917:=0
def tw8983027281964248660:=0
def tw6371867426943988348:=0
def tw2982046707296963913:=0
def tw4494215187594454946:=0
def tw8103515561083399203:=0
def tw8900247092552025365:=0
def tw2926274828394090004:=0
def tw12877435772278346564:=0
def tw3792882842963079434:=0
def tw7923836902301015861:=0
def tw3484565611121504579:=0
def tw3886672848031342547:=0
def tw1480048724065033407:=0
def tw4042587142763940541:=0
def tw12135851459975137301:=0
def tw18041358982249451035:=0
def tw14813923076918598174:=0
def tw3527263865934812228:=0
def tw1953924170580860798:=0
def tw3746502292252895895:=0
def tw5289065804076880170:=0
def tw9152925662947089402:=0
def tw609857004556097178:=0
def tw17545999849005980752:=0
def tw16223859015657187287:=0
def tw9588628027777916445:=0
def tw16599023014090029706:=0
def tw17916871530550825817:=0
def tw17940235151050807636:=0
def tw3189353873941260279:=0
def tw8133964939029540243:=0
def tw1677187448493073290:=0
def tw1207195204303154508:=0
def tw6190822557889451130:=0
def tw7467354398620092183:=0
def tw1613249221384630052:=0
def tw6819230128245234508:=0
def tw4876464878797321321:=0
def tw7727844976793849759:=0
def tw9155420454152490763:=0
def tw14939703504443529039:=0
def tw13488631559725330839:=0
def tw4134099352674294184:=0
def tw1039818642899924446:=0
def tw12790011980226150992:=0
def tw15375758098319198866:=0
def tw1162719185885348822:=0
def tw16034332308185099805:=0
def tw17792055851131559098:=0
def tw5201586819119499508:=0
def tw11918232279235176393:=0
def tw6998907781318564343:=0
def tw3291050102234562755:=0
def tw11684021027536925075:=0
def tw17817359616755498585:=0
def tw2964210241979753987:=0
def tw4096273001238416133:=0
def tw10279281226752568691:=0
def tw7155516285100897579:=0
def tw2766692460228130569:=0
def tw2455782387211712040:=0
def tw12657602634602555265:=0
def tw9099821520737068816:=0
def tw6042522565174994214:=0
def tw16367612315393473524:=0
def tw12420021182495214883:=0
def tw9908976146455086665:=0
def tw17660868366458781195:=0
def tw6563779089404561001:=0
def tw5969528114468305360:=0
def tw15034938239001754302:=0
def tw17856906027706380286:=0
def tw17867242761415592988:=0
def tw18372529937091914714:=0
def tw3444955209484517895:=0
def tw9535100170046173823:=0
def tw14980618279647237299:=0
def tw16376962118509523928:=0
def tw2961658335245900437:=0
def tw7850272132174150489:=0
def tw9249833459623154908:=0
def tw14524230362872293218:=0
def tw9371648440979364402:=0
def tw10118821269911504886:=0
def tw16363415845982073748:=0
def tw1266956105293627294:=0
def tw9918410595925086684:=0
def tw11004518088805231397:=0
def tw13251921209406504804:=0
def tw9083441097194967291:=0
def tw3866410995617575630:=0
def tw14992914251060293808:=0
def tw14266383578594417581:=0
def tw2270509956499965384:=0
def tw2708533717580306301:=0
def tw12084420672216773436:=0
def tw16198413952513032130:=0
def tw4882929131728454229:=0
def tw8092008544330944181:=0
def tw6531101983613427792:=0
def tw7577846789573467776:=0
def tw6321614906156529248:=0
def tw16966452867473820664:=0
def tw9524814381463481813:=0
def tw6768023190469988487:=0
def tw1340377509677489591:=0
def tw14343242728237423527:=0
def tw8302654280836342199:=0
def tw14822179295181839509:=0
def tw3424851541719521320:=0
def tw3797541905514135870:=0
def tw8403387483198439856:=0
def tw6010740369764482819:=0
def tw98095351170920276:=0
def tw18241670945691819352:=0
def tw8706205824357896610:=0
def tw1704363387761480265:=0
def tw18419545362441832883:=0
def tw7950043535333353455:=0
def tw6462374388047051675:=0
def tw3057136339907431021:=0
def tw15604052457438453810:=0
def tw2858486006435527136:=0
def tw4463610605452842403:=0
def tw1191190319711579697:=0
def tw14520895911250346350:=0
def tw13610508710034865033:=0
end PySem.W.Fast
namespace R
open PySem L2 PyProof.Rows
section
variable {l:m0e} {w:World} {K:q0a} {h:Heap} {mg:Str->Option Value}
structure Gd (K:q0a) (nm:Str) (st:Stmt) (f:Addr):Prop where
 a:j0a K mainGlobals nm=some (some (.ref f))
 F:∃ fd,Fun K nm nm st f fd
theorem Gd.df {nm:Str} {st:Stmt} {f:Addr} {ps:List Str} (X:K.In h) (G:h.Ns mainGlobals mg) (g:Gd K nm st f) (hb:∀ (kV doc pm:Value) (an:Option Addr) (cdv ct:Value) (us:List Value),us.length=ps.length->bindArgs (y0s nm nm (X4 st) (L8 st) (d6 st) .none kV doc pm an cdv ct) ⟨us,[]⟩=pure (ps.zip us)):Df K mg nm st ps f:=by
 obtain ⟨a,_,F⟩:=g;exact ⟨⟨_,F,F.binds hb⟩,v0p X G a⟩
theorem bj3 {us:List Value} {n:Nat} (h:us.length=n+1):∃ a r,us=a :: r/\r.length=n:=by
 cases us with
 | nil=>cases h
 | cons a r=>exact ⟨a,r,rfl,Nat.succ.inj h⟩
theorem bn7 {us:List Value} (h:us.length=0):us=[]:=g0b h
theorem K0 {us:List Value} (h:us.length=1):∃ a0,us=[a0]:=by
 obtain ⟨_,_,rfl,g⟩:=bj3 h;obtain ⟨rfl⟩:=bn7 g;exact ⟨_,rfl⟩
theorem A5 {us:List Value} (h:us.length=2):∃ a0,∃ a1,us=[a0,a1]:=by
 obtain ⟨_,_,rfl,g⟩:=bj3 h;obtain ⟨_,rfl⟩:=K0 g;exact ⟨_,_,rfl⟩
theorem bn6 {us:List Value} (h:us.length=3):∃ a0,∃ a1,∃ a2,us=[a0,a1,a2]:=by
 obtain ⟨_,_,rfl,g⟩:=bj3 h;obtain ⟨_,_,rfl⟩:=A5 g;exact ⟨_,_,_,rfl⟩
theorem bl7 {fa f_common_divisor f_content_of f_cleared f_lifted f_divisor_for_all f_lowered f_trimmed f_whole_divided f_whole_scaled f_whole_sum f_whole_less f_whole_over f_over_content f_whole_slope f_whole_common f_parted f__law_low f__law_urn f__law_draw f__law_kind f__law_number f__law_whole f__law_is_number f__law_other f__law_trim f__law_drawn_poly f__law_is_poly f__law_plus f__law_times f__law_less f__law_poly_often f__law_over f__law_rest f__law_poly_times f__law_shared f__law_is_list f__law_made f__law_sloped f__law_are_apart f_law:Addr} {t_SHORT:Tok} {t_LONG:Tok} {A_ONE:Addr} {td_ONE:Option Addr} {ts_ONE:Array (Option Value)} {tn_ONE:Nat} {tt0_ONE tt1_ONE:Tok}
  (X:K.In h) (G:h.Ns mainGlobals mg) (hfa:mg "law" = some (.ref fa))
  (g_common_divisor:Gd K "common_divisor" B8 f_common_divisor)
  (g_content_of:Gd K "content_of" K5 f_content_of)
  (g_cleared:Gd K "cleared" P9 f_cleared)
  (g_lifted:Gd K "lifted" P8 f_lifted)
  (g_divisor_for_all:Gd K "divisor_for_all" v9 f_divisor_for_all)
  (g_lowered:Gd K "lowered" W8 f_lowered)
  (g_trimmed:Gd K "trimmed" W7 f_trimmed)
  (g_whole_divided:Gd K "whole_divided" v8 f_whole_divided)
  (g_whole_scaled:Gd K "whole_scaled" A9 f_whole_scaled)
  (g_whole_sum:Gd K "whole_sum" N9 f_whole_sum)
  (g_whole_less:Gd K "whole_less" K4 f_whole_less)
  (g_whole_over:Gd K "whole_over" K3 f_whole_over)
  (g_over_content:Gd K "over_content" B2 f_over_content)
  (g_whole_slope:Gd K "whole_slope" C4 f_whole_slope)
  (g_whole_common:Gd K "whole_common" F5 f_whole_common)
  (g_parted:Gd K "parted" ac4 f_parted)
  (g__law_low:Gd K "_law_low" R5 f__law_low)
  (g__law_urn:Gd K "_law_urn" R4 f__law_urn)
  (g__law_draw:Gd K "_law_draw" O5 f__law_draw)
  (g__law_kind:Gd K "_law_kind" O4 f__law_kind)
  (g__law_number:Gd K "_law_number" G8 f__law_number)
  (g__law_whole:Gd K "_law_whole" K6 f__law_whole)
  (g__law_is_number:Gd K "_law_is_number" B9 f__law_is_number)
  (g__law_other:Gd K "_law_other" K8 f__law_other)
  (g__law_trim:Gd K "_law_trim" O0 f__law_trim)
  (g__law_drawn_poly:Gd K "_law_drawn_poly" w5 f__law_drawn_poly)
  (g__law_is_poly:Gd K "_law_is_poly" B4 f__law_is_poly)
  (g__law_plus:Gd K "_law_plus" O1 f__law_plus)
  (g__law_times:Gd K "_law_times" K7 f__law_times)
  (g__law_less:Gd K "_law_less" O3 f__law_less)
  (g__law_poly_often:Gd K "_law_poly_often" w4 f__law_poly_often)
  (g__law_over:Gd K "_law_over" O2 f__law_over)
  (g__law_rest:Gd K "_law_rest" B3 f__law_rest)
  (g__law_poly_times:Gd K "_law_poly_times" A4 f__law_poly_times)
  (g__law_shared:Gd K "_law_shared" G7 f__law_shared)
  (g__law_is_list:Gd K "_law_is_list" F6 f__law_is_list)
  (g__law_made:Gd K "_law_made" J1 f__law_made)
  (g__law_sloped:Gd K "_law_sloped" C5 f__law_sloped)
  (g__law_are_apart:Gd K "_law_are_apart" C0 f__law_are_apart)
  (g_law:Gd K "law" ar8 f_law)
  (z_abs:j0a K mainGlobals "abs" = some none)
  (z_all:j0a K mainGlobals "all" = some none)
  (z_bool:j0a K mainGlobals "bool" = some none)
  (z_enumerate:j0a K mainGlobals "enumerate" = some none)
  (z_int:j0a K mainGlobals "int" = some none)
  (z_isinstance:j0a K mainGlobals "isinstance" = some none)
  (z_len:j0a K mainGlobals "len" = some none)
  (z_list:j0a K mainGlobals "list" = some none)
  (z_max:j0a K mainGlobals "max" = some none)
  (z_min:j0a K mainGlobals "min" = some none)
  (z_range:j0a K mainGlobals "range" = some none)
  (z_sum:j0a K mainGlobals "sum" = some none)
  (z_tuple:j0a K mainGlobals "tuple" = some none)
  (z_zip:j0a K mainGlobals "zip" = some none)
  (y_SHORT:j0a K mainGlobals "SHORT" = some (some (.int 6000 t_SHORT)))
  (y_LONG:j0a K mainGlobals "LONG" = some (some (.int 1000 t_LONG)))
  (y_ONE:j0a K mainGlobals "ONE" = some (some (.ref A_ONE)))
  (u_ONE:K.lookup A_ONE=some ⟨.type "tuple",td_ONE,.seq #[.int 1 tt0_ONE,.int 1 tt1_ONE] tn_ONE,ts_ONE⟩) :
  ∃ fd:FuncData,(∀ (s:Shared) (v:Value),BindsTo s fd ⟨[v],[]⟩ [("_law_script",v)])/\∀ base:Heap,K.In base->base.Ns mainGlobals mg->V8 l.prog w K mg base CX0 6 fa fd ["_law_script"] (aK9 K):=by
 have e:=hfa.symm.trans (v0p X G g_law.a)
 cases e
 obtain ⟨_,F_law⟩:=g_law.F;obtain ⟨oc,od,kV,doc,pm,an,cdv,ct,osl,rfl,_,_⟩:=F_law.ex;have d_common_divisor:Df K mg "common_divisor" B8 ["one","other"] f_common_divisor:=g_common_divisor.df X G λ_ _ _ _ _ _ us hl=>by obtain ⟨_,_,rfl⟩:=A5 hl;rfl
 have d_content_of:Df K mg "content_of" K5 ["wholes"] f_content_of:=g_content_of.df X G λ_ _ _ _ _ _ us hl=>by obtain ⟨_,rfl⟩:=K0 hl;rfl
 have d_cleared:Df K mg "cleared" P9 ["numbers"] f_cleared:=g_cleared.df X G λ_ _ _ _ _ _ us hl=>by obtain ⟨_,rfl⟩:=K0 hl;rfl
 have d_lifted:Df K mg "lifted" P8 ["p"] f_lifted:=g_lifted.df X G λ_ _ _ _ _ _ us hl=>by obtain ⟨_,rfl⟩:=K0 hl;rfl
 have d_divisor_for_all:Df K mg "divisor_for_all" v9 ["wholes","bottom"] f_divisor_for_all:=g_divisor_for_all.df X G λ_ _ _ _ _ _ us hl=>by obtain ⟨_,_,rfl⟩:=A5 hl;rfl
 have d_lowered:Df K mg "lowered" W8 ["scale","wholes"] f_lowered:=g_lowered.df X G λ_ _ _ _ _ _ us hl=>by obtain ⟨_,_,rfl⟩:=A5 hl;rfl
 have d_trimmed:Df K mg "trimmed" W7 ["wholes"] f_trimmed:=g_trimmed.df X G λ_ _ _ _ _ _ us hl=>by obtain ⟨_,rfl⟩:=K0 hl;rfl
 have d_whole_divided:Df K mg "whole_divided" v8 ["one","other"] f_whole_divided:=g_whole_divided.df X G λ_ _ _ _ _ _ us hl=>by obtain ⟨_,_,rfl⟩:=A5 hl;rfl
 have d_whole_scaled:Df K mg "whole_scaled" A9 ["factor","wholes"] f_whole_scaled:=g_whole_scaled.df X G λ_ _ _ _ _ _ us hl=>by obtain ⟨_,_,rfl⟩:=A5 hl;rfl
 have d_whole_sum:Df K mg "whole_sum" N9 ["one","other"] f_whole_sum:=g_whole_sum.df X G λ_ _ _ _ _ _ us hl=>by obtain ⟨_,_,rfl⟩:=A5 hl;rfl
 have d_whole_less:Df K mg "whole_less" K4 ["one","other"] f_whole_less:=g_whole_less.df X G λ_ _ _ _ _ _ us hl=>by obtain ⟨_,_,rfl⟩:=A5 hl;rfl
 have d_whole_over:Df K mg "whole_over" K3 ["one","other"] f_whole_over:=g_whole_over.df X G λ_ _ _ _ _ _ us hl=>by obtain ⟨_,_,rfl⟩:=A5 hl;rfl
 have d_over_content:Df K mg "over_content" B2 ["wholes"] f_over_content:=g_over_content.df X G λ_ _ _ _ _ _ us hl=>by obtain ⟨_,rfl⟩:=K0 hl;rfl
 have d_whole_slope:Df K mg "whole_slope" C4 ["wholes"] f_whole_slope:=g_whole_slope.df X G λ_ _ _ _ _ _ us hl=>by obtain ⟨_,rfl⟩:=K0 hl;rfl
 have d_whole_common:Df K mg "whole_common" F5 ["one","other"] f_whole_common:=g_whole_common.df X G λ_ _ _ _ _ _ us hl=>by obtain ⟨_,_,rfl⟩:=A5 hl;rfl
 have d_parted:Df K mg "parted" ac4 ["p"] f_parted:=g_parted.df X G λ_ _ _ _ _ _ us hl=>by obtain ⟨_,rfl⟩:=K0 hl;rfl
 have d__law_low:Df K mg "_law_low" R5 ["_law_top","_law_bottom"] f__law_low:=g__law_low.df X G λ_ _ _ _ _ _ us hl=>by obtain ⟨_,_,rfl⟩:=A5 hl;rfl
 have d__law_urn:Df K mg "_law_urn" R4 ["_law_script","_law_at"] f__law_urn:=g__law_urn.df X G λ_ _ _ _ _ _ us hl=>by obtain ⟨_,_,rfl⟩:=A5 hl;rfl
 have d__law_draw:Df K mg "_law_draw" O5 ["_law_urn_here","_law_many"] f__law_draw:=g__law_draw.df X G λ_ _ _ _ _ _ us hl=>by obtain ⟨_,_,rfl⟩:=A5 hl;rfl
 have d__law_kind:Df K mg "_law_kind" O4 ["_law_urn_here"] f__law_kind:=g__law_kind.df X G λ_ _ _ _ _ _ us hl=>by obtain ⟨_,rfl⟩:=K0 hl;rfl
 have d__law_number:Df K mg "_law_number" G8 ["_law_urn_here","_law_kind_here"] f__law_number:=g__law_number.df X G λ_ _ _ _ _ _ us hl=>by obtain ⟨_,_,rfl⟩:=A5 hl;rfl
 have d__law_whole:Df K mg "_law_whole" K6 ["_law_thing"] f__law_whole:=g__law_whole.df X G λ_ _ _ _ _ _ us hl=>by obtain ⟨_,rfl⟩:=K0 hl;rfl
 have d__law_is_number:Df K mg "_law_is_number" B9 ["_law_thing"] f__law_is_number:=g__law_is_number.df X G λ_ _ _ _ _ _ us hl=>by obtain ⟨_,rfl⟩:=K0 hl;rfl
 have d__law_other:Df K mg "_law_other" K8 ["_law_urn_here","_law_kind_here"] f__law_other:=g__law_other.df X G λ_ _ _ _ _ _ us hl=>by obtain ⟨_,_,rfl⟩:=A5 hl;rfl
 have d__law_trim:Df K mg "_law_trim" O0 ["_law_numbers"] f__law_trim:=g__law_trim.df X G λ_ _ _ _ _ _ us hl=>by obtain ⟨_,rfl⟩:=K0 hl;rfl
 have d__law_drawn_poly:Df K mg "_law_drawn_poly" w5 ["_law_urn_here","_law_kind_here","_law_most"] f__law_drawn_poly:=g__law_drawn_poly.df X G λ_ _ _ _ _ _ us hl=>by obtain ⟨_,_,_,rfl⟩:=bn6 hl;rfl
 have d__law_is_poly:Df K mg "_law_is_poly" B4 ["_law_thing"] f__law_is_poly:=g__law_is_poly.df X G λ_ _ _ _ _ _ us hl=>by obtain ⟨_,rfl⟩:=K0 hl;rfl
 have d__law_plus:Df K mg "_law_plus" O1 ["_law_one","_law_other_here"] f__law_plus:=g__law_plus.df X G λ_ _ _ _ _ _ us hl=>by obtain ⟨_,_,rfl⟩:=A5 hl;rfl
 have d__law_times:Df K mg "_law_times" K7 ["_law_one","_law_other_here"] f__law_times:=g__law_times.df X G λ_ _ _ _ _ _ us hl=>by obtain ⟨_,_,rfl⟩:=A5 hl;rfl
 have d__law_less:Df K mg "_law_less" O3 ["_law_one","_law_other_here"] f__law_less:=g__law_less.df X G λ_ _ _ _ _ _ us hl=>by obtain ⟨_,_,rfl⟩:=A5 hl;rfl
 have d__law_poly_often:Df K mg "_law_poly_often" w4 ["_law_number_here","_law_p"] f__law_poly_often:=g__law_poly_often.df X G λ_ _ _ _ _ _ us hl=>by obtain ⟨_,_,rfl⟩:=A5 hl;rfl
 have d__law_over:Df K mg "_law_over" O2 ["_law_one","_law_other_here"] f__law_over:=g__law_over.df X G λ_ _ _ _ _ _ us hl=>by obtain ⟨_,_,rfl⟩:=A5 hl;rfl
 have d__law_rest:Df K mg "_law_rest" B3 ["_law_p","_law_q"] f__law_rest:=g__law_rest.df X G λ_ _ _ _ _ _ us hl=>by obtain ⟨_,_,rfl⟩:=A5 hl;rfl
 have d__law_poly_times:Df K mg "_law_poly_times" A4 ["_law_p","_law_q"] f__law_poly_times:=g__law_poly_times.df X G λ_ _ _ _ _ _ us hl=>by obtain ⟨_,_,rfl⟩:=A5 hl;rfl
 have d__law_shared:Df K mg "_law_shared" G7 ["_law_p","_law_q"] f__law_shared:=g__law_shared.df X G λ_ _ _ _ _ _ us hl=>by obtain ⟨_,_,rfl⟩:=A5 hl;rfl
 have d__law_is_list:Df K mg "_law_is_list" F6 ["_law_found"] f__law_is_list:=g__law_is_list.df X G λ_ _ _ _ _ _ us hl=>by obtain ⟨_,rfl⟩:=K0 hl;rfl
 have d__law_made:Df K mg "_law_made" J1 ["_law_lead","_law_found"] f__law_made:=g__law_made.df X G λ_ _ _ _ _ _ us hl=>by obtain ⟨_,_,rfl⟩:=A5 hl;rfl
 have d__law_sloped:Df K mg "_law_sloped" C5 ["_law_p"] f__law_sloped:=g__law_sloped.df X G λ_ _ _ _ _ _ us hl=>by obtain ⟨_,rfl⟩:=K0 hl;rfl
 have d__law_are_apart:Df K mg "_law_are_apart" C0 ["_law_found"] f__law_are_apart:=g__law_are_apart.df X G λ_ _ _ _ _ _ us hl=>by obtain ⟨_,rfl⟩:=K0 hl;rfl
 have n_abs:=z0q X G z_abs;have n_all:=z0q X G z_all;have n_bool:=z0q X G z_bool;have n_enumerate:=z0q X G z_enumerate;have n_int:=z0q X G z_int;have n_isinstance:=z0q X G z_isinstance;have n_len:=z0q X G z_len;have n_list:=z0q X G z_list;have n_max:=z0q X G z_max;have n_min:=z0q X G z_min;have n_range:=z0q X G z_range;have n_sum:=z0q X G z_sum;have n_tuple:=z0q X G z_tuple;have n_zip:=z0q X G z_zip;have c_SHORT:=v0p X G y_SHORT;have c_LONG:=v0p X G y_LONG;have c_ONE:=v0p X G y_ONE;have t_ONE:∀ H:Hp,SqT K H A_ONE [.int 1,.int 1]:=λH=>.inr ⟨_,_,_,u_ONE,rfl,rfl,(show 2<=sizeLine by decide),(.cons ⟨_,rfl⟩ (.cons ⟨_,rfl⟩ .nil))⟩
 refine ⟨y0s "law" "law" (X4 ar8) (L8 ar8) (d6 ar8) .none kV doc pm an cdv ct,λs v=>.of_eq rfl,λbase _ _=>?_⟩
 have G_common_divisor:=ac9 (P:=l.prog) (w:=w) (base:=base) d_common_divisor ⟨_,c_SHORT⟩ n_abs;have G_content_of:=aq5 (P:=l.prog) (w:=w) (base:=base) d_content_of G_common_divisor;have G_cleared:=aI3 (P:=l.prog) (w:=w) (base:=base) d_cleared G_common_divisor;have GD_lifted:=aI5 (P:=l.prog) (w:=w) (base:=base) d_lifted G_cleared G_content_of c_ONE t_ONE;have G_divisor_for_all:=aa8 (P:=l.prog) (w:=w) (base:=base) d_divisor_for_all G_common_divisor c_LONG n_max;have G_lowered:=aI2 (P:=l.prog) (w:=w) (base:=base) d_lowered G_divisor_for_all G_common_divisor;have G_trimmed:=aI1 (P:=l.prog) (w:=w) (base:=base) d_trimmed n_len;have GD_whole_divided:=ad2 (P:=l.prog) (w:=w) (base:=base) d_whole_divided G_trimmed n_len n_max n_list n_abs n_enumerate;have G_whole_scaled:=aj5 (P:=l.prog) (w:=w) (base:=base) d_whole_scaled G_trimmed;have G_whole_sum:=ax1 (P:=l.prog) (w:=w) (base:=base) d_whole_sum G_trimmed n_len n_list n_enumerate;have G_whole_less:=aq4 (P:=l.prog) (w:=w) (base:=base) d_whole_less G_whole_sum G_whole_scaled;have G_whole_over:=aq3 (P:=l.prog) (w:=w) (base:=base) d_whole_over GD_whole_divided;have G_over_content:=aj7 (P:=l.prog) (w:=w) (base:=base) d_over_content G_content_of n_list;have G_whole_slope:=an0 (P:=l.prog) (w:=w) (base:=base) d_whole_slope n_len n_range;have G_whole_common:=aj6 (P:=l.prog) (w:=w) (base:=base) d_whole_common GD_whole_divided G_over_content G_whole_scaled;have G_parted:=aO8 (P:=l.prog) (w:=w) (base:=base) d_parted GD_lifted G_whole_slope G_whole_common G_whole_over G_whole_less G_lowered n_len;have G__law_low:=aD5 (P:=l.prog) (w:=w) (base:=base) d__law_low n_abs;have G__law_urn:=aD4 (P:=l.prog) (w:=w) (base:=base) d__law_urn n_len n_abs;have G__law_draw:=ax9 (P:=l.prog) (w:=w) (base:=base) d__law_draw;have G__law_kind:=ax8 (P:=l.prog) (w:=w) (base:=base) d__law_kind G__law_draw;have G__law_whole:=aq6 (P:=l.prog) (w:=w) (base:=base) d__law_whole n_isinstance n_int n_bool;have G__law_is_number:=ad0 (P:=l.prog) (w:=w) (base:=base) d__law_is_number G__law_whole G__law_low n_isinstance n_tuple n_len;have G__law_trim:=ax2 (P:=l.prog) (w:=w) (base:=base) d__law_trim n_list;have G__law_is_poly:=aj8 (P:=l.prog) (w:=w) (base:=base) d__law_is_poly G__law_is_number G__law_trim n_isinstance n_list n_all;have G__law_plus:=ax4 (P:=l.prog) (w:=w) (base:=base) d__law_plus G__law_low;have G__law_times:=aq7 (P:=l.prog) (w:=w) (base:=base) d__law_times G__law_low;have G__law_less:=ax7 (P:=l.prog) (w:=w) (base:=base) d__law_less G__law_low;have GD__law_poly_often:=Y6 (P:=l.prog) (w:=w) (base:=base) d__law_poly_often G__law_times G__law_trim;have G__law_over:=ax5 (P:=l.prog) (w:=w) (base:=base) d__law_over G__law_low;have G__law_rest:=ax3 (P:=l.prog) (w:=w) (base:=base) d__law_rest G__law_over G__law_less G__law_times G__law_trim n_len n_list n_zip;have G__law_poly_times:=aa9 (P:=l.prog) (w:=w) (base:=base) d__law_poly_times G__law_plus G__law_times G__law_trim n_len n_enumerate;have GD__law_number:=ak0 (P:=l.prog) (w:=w) (base:=base) d__law_number G__law_draw G__law_low n_int
 have GD__law_other:=an3 (P:=l.prog) (w:=w) (base:=base) d__law_other G__law_draw GD__law_number;have GD__law_drawn_poly:=Y7 (P:=l.prog) (w:=w) (base:=base) d__law_drawn_poly G__law_draw GD__law_number GD__law_other n_range;have G__law_shared:=an2 (P:=l.prog) (w:=w) (base:=base) d__law_shared G__law_rest G__law_over GD__law_poly_often;have G__law_is_list:=aj9 (P:=l.prog) (w:=w) (base:=base) d__law_is_list G__law_is_poly G__law_whole n_isinstance n_list n_tuple n_len;have G__law_made:=ax6 (P:=l.prog) (w:=w) (base:=base) d__law_made G__law_poly_times n_range n_len n_sum;have G__law_sloped:=an1 (P:=l.prog) (w:=w) (base:=base) d__law_sloped G__law_times n_enumerate;have G__law_are_apart:=ad1 (P:=l.prog) (w:=w) (base:=base) d__law_are_apart G__law_shared G__law_sloped n_enumerate;exact bi4 (P:=l.prog) (w:=w) (base:=base) F_law G__law_urn G__law_draw G__law_kind GD__law_other GD__law_drawn_poly G__law_poly_times GD__law_poly_often G_parted G__law_is_list G__law_made G__law_are_apart n_range n_max n_min n_len n_list
end
theorem bp2 {l:m0e} {q:Program} {loose:List Str} {XP:(Str->Option Value)->Heap->Prop} {YP:World->Heap->Prop} {d:DefRec} {K:Params->q0a} (hn:l.most=some 63) (hdf:d.params.defaults=[])
  (hY:∀ (w:World) (h:Heap),YP w h->(K w.params).In h)
  (F:∀ (w:World) (mg:Str->Option Value) (fa:Addr) (h:Heap),(K w.params).In h->h.Ns mainGlobals mg->mg d.name=some (.ref fa) ->
   ∃ fd:FuncData,(∀ (s:Shared) (u:Value),BindsTo s fd ⟨[u],[]⟩ [("_law_script",u)])/\∀ base:Heap,(K w.params).In base->base.Ns mainGlobals mg->V8 l.prog w (K w.params) mg base CX0 6 fa fd ["_law_script"] (aK9 (K w.params))) :
  PySem.W.WalkO q loose XP YP l.row.toRowW d [] (λf vs=>PySem.call f vs) :=
 L2.aK5 (n:=63) (k:=6) (x := "_law_script") (CX:=λ_=>CX0) (sp:=λw=>aK9 (K w.params)) hn (by decide) hdf ⟨rfl,by decide,by decide⟩ hY F (λ_ _ a ns hl _ hS=>⟨a,ns,rfl,hS,hl,λ_=>rfl⟩) λ_ _ _ _ _ z=>z
end R
local macro_rules | `(tactic|left) => `(tactic|exact ⟨by k_is, _, L2.bk4 (by k_is) (by k_is) (by k_is)⟩)
local macro_rules | `(tactic|right) => `(tactic|exact ⟨by k_is, by k_exc, by (refine ⟨?_, ?_, ?_, ?_, ?_, ?_⟩ <;> first | k_is | kernel_rfl)⟩)
open PySem PySem.W PyProof.Rows
set_option maxRecDepth 100000 in
theorem PySem.Challenge.cw_restward_k07_parts_of_any_holds : PySem.Challenge.rw_restward_k07_parts_of_any.Holds := by
  w_on;o_law;k_head;(case hw=>w_witness2)
  k_fill
  refine R.bp2 (l:=PySem.Challenge.rw_restward_k07_parts_of_any) rfl rfl (λw h Y=>PySem.W.kIn_of Y) ?F
  case F =>
    intro w mg fa h KX G hmg
    refine' R.bl7 KX G hmg ?g_common_divisor ?g_content_of ?g_cleared ?g_lifted ?g_divisor_for_all ?g_lowered ?g_trimmed ?g_whole_divided ?g_whole_scaled ?g_whole_sum ?g_whole_less ?g_whole_over ?g_over_content ?g_whole_slope ?g_whole_common ?g_parted ?g__law_low ?g__law_urn ?g__law_draw ?g__law_kind ?g__law_number ?g__law_whole ?g__law_is_number ?g__law_other ?g__law_trim ?g__law_drawn_poly ?g__law_is_poly ?g__law_plus ?g__law_times ?g__law_less ?g__law_poly_often ?g__law_over ?g__law_rest ?g__law_poly_times ?g__law_shared ?g__law_is_list ?g__law_made ?g__law_sloped ?g__law_are_apart ?g_law ?z_abs ?z_all ?z_bool ?z_enumerate ?z_int ?z_isinstance ?z_len ?z_list ?z_max ?z_min ?z_range ?z_sum ?z_tuple ?z_zip ?y_SHORT ?y_LONG ?y_ONE ?u_ONE
    (case g_common_divisor=>left)
    (case g_content_of=>left)
    (case g_cleared=>left)
    (case g_lifted=>left)
    (case g_divisor_for_all=>left)
    (case g_lowered=>left)
    (case g_trimmed=>left)
    (case g_whole_divided=>left)
    (case g_whole_scaled=>left)
    (case g_whole_sum=>left)
    (case g_whole_less=>left)
    (case g_whole_over=>left)
    (case g_over_content=>left)
    (case g_whole_slope=>left)
    (case g_whole_common=>left)
    (case g_parted=>left)
    (case g__law_low=>left)
    (case g__law_urn=>left)
    (case g__law_draw=>left)
    (case g__law_kind=>left)
    (case g__law_number=>left)
    (case g__law_whole=>left)
    (case g__law_is_number=>left)
    (case g__law_other=>left)
    (case g__law_trim=>left)
    (case g__law_drawn_poly=>left)
    (case g__law_is_poly=>left)
    (case g__law_plus=>left)
    (case g__law_times=>left)
    (case g__law_less=>left)
    (case g__law_poly_often=>left)
    (case g__law_over=>left)
    (case g__law_rest=>left)
    (case g__law_poly_times=>left)
    (case g__law_shared=>left)
    (case g__law_is_list=>left)
    (case g__law_made=>left)
    (case g__law_sloped=>left)
    (case g__law_are_apart=>left)
    (case g_law=>left)
    (case z_abs=>k_is)
    (case z_all=>k_is)
    (case z_bool=>k_is)
    (case z_enumerate=>k_is)
    (case z_int=>k_is)
    (case z_isinstance=>k_is)
    (case z_len=>k_is)
    (case z_list=>k_is)
    (case z_max=>k_is)
    (case z_min=>k_is)
    (case z_range=>k_is)
    (case z_sum=>k_is)
    (case z_tuple=>k_is)
    (case z_zip=>k_is)
    (case y_SHORT=>k_is)
    (case y_LONG=>k_is)
    (case y_ONE=>k_is);(case u_ONE=>k_is)
