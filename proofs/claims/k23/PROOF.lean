import PyProof.Rows.All
import Wide.All
import OpenK.AllK
import Wide.FinOn
import PyProof.EqAt
import PyProof.EqKinds
import PyProof.TupleCall
import KE.KTryMore
import KE.KIsNot
import PyProof.MeetsStr
import PyProof.Rows.RuleM_int
import PyProof.CompFree
import PyProof.WalksEnum
import PyProof.EnumMake
import PyProof.NeKinds
import PyProof.ConsumeWalk
import PyProof.CompMap
import PyProof.Rows.EqBoolInt
import KE.IntBitsLaws
import PyProof.ZipIter
import PyProof.Rows.ZipGen
import PyProof.MinMaxWalk
import PyProof.WalkInts
import PyProof.Rows.CallKwBuiltin
import PyProof.CompUse
import KE.KRevIter
import PyProof.Rows.Range3
import PyProof.NsDelKeeps
import PyProof.SumAny
import PyProof.TupleIter
import PyProof.WalksMore
import PyProof.ListRange
import PyProof.CollectStr
import PyProof.TupleOfStr
import PySem.Challenge.RW_restward_k23_whole_signs_stay
open PySem.W renaming Frag→q0a,kitOne→z0c,mg_none_of→z0t,nsIn→j0e,kia_one→j0x,keepIn→y0w,fnOf→v0h,findIn→u0g,mg_of→u0n,methodObj→g0j,instObj→g0y,OpenLaw→m0a,cellsFrom_some→m0e,lookIn→m0j,codeIn→m0k
open List renaming length_map→q0b,getElem?_eq_getElem→q0c,getElem?_eq_some_iff→q0d,getElem?_map→q0e,mem_of_getElem?→q0g,mem_append_right→q0k,size_toArray→q0q,length_take→q0t,range→q0z,replicate→z0a,map_cons→z0b,mem_cons_of_mem→z0d,Nodup→z0f,length_range→z0h,length_cons→z0j,mem_map→z0k,mem_cons_self→z0m,length_append→z0n,getElem?_cons_zero→z0q,getElem?_cons_succ→z0r,getElem?_range→z0y,set_cons_zero→j0a,set_cons_succ→j0b,getElem?_append_left→j0f,cons_append→j0j,getElem?_eq_none→j0k,getElem?_append_right→j0m,append_nil→j0n,length_set→j0p,nil_append→j0q,mem_cons→j0v,length_nil→j0y,map_nil→y0c,length_drop→y0f,mem_singleton→y0j,map_append→y0q,take_of_length_le→y0s,take_length→y0t,countP_cons→y0x,foldl_cons→v0a,mem_of_mem_take→v0d,mem_or_eq_of_mem_set→v0e,mem_range→v0f,lookup_cons→v0j,replicate_succ→v0k,length_zipWith→v0n,take_succ→v0u,getElem_of_mem→u0b,mem_append→u0c,zipWith→u0f,flatten_cons→u0h,getElem?_set→u0k,zipWith_cons_cons→u0m,length_replicate→u0q,getElem?_zipWith→u0t,mem_iff_getElem?→u0u,mem_append_left→u0w,nodup_cons→u0y,countP_map→g0d,filterMap_cons→g0f,all_cons→g0h,ext_getElem?→g0m,getElem?_zip_eq_some→g0n,getElem?_take_of_lt→g0s,map_map→g0t,getElem?_replicate→g0w,of_mem_zip→g0z,range_succ→m0c,getElem?_set_self→m0d,range_succ_eq_map→m0g,length_singleton→m0m,getElem?_set_ne→m0n,getElem?_mapIdx→m0p,map_congr_left→m0v,zipWith_append→m0w
open Nat renaming lt_of_lt_of_le→q0f,lt_of_le_of_lt→q0m,le_refl→q0n,ne_of_lt→q0u,le_trans→q0y,lt_or_ge→z0x,zero_le→z0z,pow_add→j0d,mul_lt_mul''→j0h,pow_lt_pow_right→y0b,mul_le_mul→y0e,lt_succ_self→y0h,lt_irrefl→y0k,le_succ→y0m,mul_pos→y0u,le_mul_of_pos_left→y0y,le_of_lt→v0g,mul_le_mul_left→v0m,le_mul_of_pos_right→v0p,lt_succ_of_lt→v0q,ne_of_gt→v0s,pow_le_pow_right→v0w,mul_le_mul_right→v0z,le_of_dvd→u0a,mul_comm→u0e,le_add_right→u0p,lcm→u0s,two_pow_pos→u0z,pow_succ→g0a,eq_zero_or_pos→g0g,eq_of_mul_eq_mul_left→g0p,mul_succ→g0u,add_sub_cancel_left→g0x,dvd_trans→m0s,mul_assoc→m0t,succ_mul→m0y,Coprime→q1a,mul_add→q1c
open PySem.Heap renaming lt_size→q0h,get?_push_of_some→q0j,get?_push_size→z0u,size_push→j0w,SameBut→g0r,get?_update_other→m0f
open Bool renaming false_ne_true→q0p,false_eq_true→z0s,not_eq_true'→z0v,not_false→y0d,and_eq_true→y0g,not_true→y0n,eq_iff_iff→u0x,or_eq_true→m0b
open Int renaming gcd→q0r,natAbs_natCast→q0v,natAbs_mul→z0g,natCast_mul→j0c,natAbs→j0u,natCast_dvd_natCast→y0a,fmod_nonneg_of_pos→y0r,mul_ne_zero→y0v,fmod_lt_of_pos→y0z,gcd_dvd_right→v0r,natAbs_dvd_natAbs→v0t,gcd_dvd_left→v0x,toNat→u0v,mul_le_mul_of_nonneg_right→g0c,mul_le_mul_of_nonneg_left→g0e,natAbs_add_le→g0k,eq_of_mul_eq_mul_left→g0q,zero_mul→g0v,natAbs_of_nonneg→m0q,mul_comm→m0z,mul_pos→q1b
open Rat renaming intCast_mul→q0s,divInt→q0x,divInt_eq_divInt_iff→z0e,mul_inv_cancel→z0w,mul_eq_zero→j0g,num_divInt_den→j0z,intCast_add→y0p,divInt_mul_divInt→v0b,intCast_inj→v0c,mul_nonneg→v0v,intCast_zero→v0y,divInt_eq_div→u0j,divInt_add_divInt→u0r,mul_comm→g0b,div_def→m0h,lt_iff→m0r,intCast_natCast→m0x
open Or renaming inl→q0w,inr→z0p
open Option renaming bind_none→j0r,bind_some→j0s,join_some→j0t,isSome_iff_exists→u0d
open Array renaming length_toList→m0u
set_option Elab.async false
set_option linter.all false
local macro_rules | `(def $i:declId $s:optDeclSig $v:declVal) => `(noncomputable def $i:declId $s:optDeclSig $v:declVal)
local macro_rules | `(abbrev $i:declId $s:optDeclSig $v:declVal) => `(noncomputable abbrev $i:declId $s:optDeclSig $v:declVal)
local macro_rules | `(⋯) => `(by omega)
set_option maxHeartbeats 0
noncomputable section
-- CHANGE: your row's module here,as the last of these rows
set_option maxRecDepth 100000
namespace L2
open PySem PySem.Spec PyProof.Rows

abbrev Key:=Sum Int Str
def keyIs:Key->Value->Bool
 | .inl k,v=>Value.isInt k v
 | .inr x,v=>Value.isStrOf x v
def keyH (w:World):Key->Int
 | .inl k=>hashInt k
 | .inr x=>hashStr w x
theorem keyIs_shape:∀ {k:Key} {v:Value},keyIs k v=true->(∃ i t,k=Sum.inl i/\v=Value.int i t) \/ (∃ x t,k=Sum.inr x/\v=Value.str x t)
 | .inl i,v,h=>by
  obtain ⟨t,e⟩:=Value.isInt_shape (k:=i) (v:=v) h;exact .inl ⟨i,t,rfl,e⟩
 | .inr x,v,h=>by
  obtain ⟨t,e⟩:=Value.isStrOf_shape (x:=x) (v:=v) h;exact .inr ⟨x,t,rfl,e⟩
theorem key_ll (a b:Int):decide ((Sum.inl a:Key)=Sum.inl b)=(a == b):=by
 by_cases e:a=b
 ·subst e;simp
 ·have h:¬ (Sum.inl a:Key)=Sum.inl b:=λq=>e (Sum.inl.inj q)
  rw [decide_eq_false h];exact (beq_eq_false_iff_ne.mpr e).symm
theorem key_rr (a b:Str):decide ((Sum.inr a:Key)=Sum.inr b)=decide (a=b):=by
 by_cases e:a=b
 ·subst e;simp
 ·have h:¬ (Sum.inr a:Key)=Sum.inr b:=λq=>e (Sum.inr.inj q)
  rw [decide_eq_false h,decide_eq_false e]
theorem key_lr (a:Int) (b:Str):decide ((Sum.inl a:Key)=Sum.inr b)=false:=decide_eq_false (λq=>nomatch q)
theorem key_rl (a:Str) (b:Int):decide ((Sum.inr a:Key)=Sum.inl b)=false:=decide_eq_false (λq=>nomatch q)

def mixKind (prog:Program) (w:World):PySem.KeyKind prog w Key where
 is:=keyIs
 hash:=keyH w
 inj:=λv a b ha hb=>by
  rcases keyIs_shape ha with ⟨i,t,rfl,rfl⟩ | ⟨x,t,rfl,rfl⟩
  ·rcases keyIs_shape hb with ⟨j,u,rfl,e⟩ | ⟨y,u,rfl,e⟩
   ·injection e with e1 _;rw [e1]
   ·exact nomatch e
  ·rcases keyIs_shape hb with ⟨j,u,rfl,e⟩ | ⟨y,u,rfl,e⟩
   ·exact nomatch e
   ·injection e with e1 _;rw [e1]
 byValue:=λk v h=>by
  rcases keyIs_shape h with ⟨i,t,rfl,rfl⟩ | ⟨x,t,rfl,rfl⟩ <;> rfl
 pyHash:=λhv h=>by
  rcases keyIs_shape hv with ⟨i,t,rfl,rfl⟩ | ⟨x,t,rfl,rfl⟩
  ·exact wpAny_pyHash_int h
  ·exact wpAny_pyHash_str h
 eqBool:=λhu hv h=>by
  rcases keyIs_shape hu with ⟨i,t,rfl,rfl⟩ | ⟨x,t,rfl,rfl⟩
  ·rcases keyIs_shape hv with ⟨j,u,rfl,rfl⟩ | ⟨y,u,rfl,rfl⟩
   ·rw [key_ll] at h;exact wpAny_eqBool_int h
   ·rw [key_lr] at h;exact SeqAt.EqAt.int_str i t y u _ _ _ _ h
  ·rcases keyIs_shape hv with ⟨j,u,rfl,rfl⟩ | ⟨y,u,rfl,rfl⟩
   ·rw [key_rl] at h;exact SeqAt.EqAt.str_int x t j u _ _ _ _ h
   ·rw [key_rr] at h;exact wpAny_eqBool_str h
 «strs» := λk x t v h=>by
  rcases keyIs_shape h with ⟨i,u,rfl,e⟩ | ⟨y,u,rfl,e⟩
  ·exact nomatch e
  ·injection e with e1 _
   subst e1
   cases v <;> rfl

end L2

namespace L2
open PySem PySem.Spec PyProof.Rows

inductive V where
 | non | bl (b:Bool) | int (i:Int) | str (x:Str) | byt (b:Array UInt8) | flt (b:UInt64) | ref (a:Addr) | ty (n:String)
 deriving DecidableEq

def RelV:V->Value->Prop
 | .non,u=>u=Value.none
 | .bl b,u=>u=Value.bool b
 | .int i,u => ∃ t,u=Value.int i t
 | .str x,u => ∃ t,u=Value.str x t
 | .byt b,u => ∃ t,u=Value.bytes b t
 | .flt b,u => ∃ t,u=Value.float b t
 | .ref a,u=>u=Value.ref a
 | .ty n,u=>u=Value.type n

abbrev Vals:List V->List Value->Prop:=Paired RelV
theorem Vals.length {xs:List V} {us:List Value} (r:Vals xs us):xs.length=us.length:=Paired.length r
theorem Vals.get:∀ {xs:List V} {us:List Value} {i:Nat} {x:V},Vals xs us->xs[i]? = some x->∃ u,us[i]? = some u/\RelV x u
 | _,_,_,_,.nil,e=>by simp at e
 | _,_,0,_,.cons r _,e=>by simp at e;subst e;exact ⟨_,rfl,r⟩
 | _,_,i+1,x,.cons _ t,e=>by
  obtain ⟨u,h1,h2⟩:=Vals.get (i:=i) (x:=x) t (by simpa using e)
  exact ⟨u,by simpa using h1,h2⟩
theorem Vals.set {x:V} {u:Value} (r:RelV x u):∀ {xs:List V} {us:List Value} (i:Nat),Vals xs us->Vals (xs.set i x) (us.set i u)
 | _,_,_,.nil=>.nil
 | _,_,0,.cons _ t=>.cons r t
 | _,_,i+1,.cons q t=>.cons q (Vals.set r i t)
theorem Vals.append:∀ {xs ys:List V} {us ws:List Value},Vals xs us->Vals ys ws->Vals (xs ++ ys) (us ++ ws)
 | _,_,_,_,.nil,s=>s
 | _,_,_,_,.cons r t,s=>.cons r (Vals.append t s)
theorem Vals.take:∀ {xs:List V} {us:List Value} (n:Nat),Vals xs us->Vals (xs.take n) (us.take n)
 | _,_,0,_=>.nil
 | _,_,_+1,.nil=>.nil
 | _,_,n+1,.cons r t=>.cons r (Vals.take n t)
theorem Vals.drop:∀ {xs:List V} {us:List Value} (n:Nat),Vals xs us->Vals (xs.drop n) (us.drop n)
 | _,_,0,r=>r
 | _,_,_+1,.nil=>.nil
 | _,_,n+1,.cons _ t=>Vals.drop n t
def RelO:Option V->Option Value->Prop
 | some v,some u=>RelV v u
 | none,none=>True
 | _,_=>False
def KV {κ:Type}:List (κ × V)->List (κ × Value)->Prop:=Paired λ(p:κ × V) (q:κ × Value)=>p.1=q.1/\RelV p.2 q.2

def kV:Key->V
 | .inl i=>.int i
 | .inr x=>.str x

inductive HO where
  | lst (xs:List V)
  | tup (xs:List V)
  | dK (kvs:List (Key × V)) | dT (kvs:List (List Key × V))
  | set (S:Int->Bool) (n:Nat)
  | ins (C dx:Addr) (fs:List (Str × V))
  | own (x:Addr)
  | xd (fs:List (Str × V))
  | met (f x:Addr)
  | rng (lo hi:Int)
  | frz (o:Obj) (u:HO)
  | tbl (ps:Array Value)
  | ext (φ:Heap->Prop)

abbrev Hp:=Addr->Option HO
def upd (H:Hp) (a:Addr) (o:HO):Hp:=λb=>if b=a then some o else H b
theorem upd_same {H:Hp} {a:Addr} {o:HO}:upd H a o a=some o:=by unfold upd;rw [if_pos rfl]
theorem upd_ne {H:Hp} {a b:Addr} {o:HO} (h:b ≠ a):upd H a o b=H b:=by unfold upd;rw [if_neg h]
theorem ne_of {H:Hp} {a b:Addr} {o u:HO} (h:H a=some o) (h':H b=some u) (d:o ≠ u):a ≠ b:=by
 intro e;subst e;rw [h] at h';exact d (Option.some.inj h')
theorem ne_of_none {H:Hp} {a b:Addr} {o:HO} (h:H a=some o) (h':H b=none):a ≠ b:=by
 intro e;subst e;rw [h] at h';cases h'

section
variable (P:Program) (w:World)
def ObjOk (H:Hp) (h:Heap) (a:Addr):HO->Prop
 | .lst xs=>xs.length<=sizeLine/\∃ (its:List Value) (n:Nat),Vals xs its/\h.get? a=some { cls:=.type "list",data:=.seq its.toArray n }
 | .tup xs=>xs.length<=sizeLine/\∃ its:List Value,Vals xs its/\IsTup h a its.toArray
 | .dK kvs=>kvs.length<=sizeLine/\(a == sysModules)=false/\∃ vs,KV kvs vs/\h.DictOf (mixKind P w) a vs
 | .dT kvs=>kvs.length<=sizeLine/\(a == sysModules)=false/\∃ xs:List (List Key × Addr × Value),
   Paired (λ(p:List Key × V) (q:List Key × Addr × Value)=>p.1=q.1/\H q.2.1=some (.tup (p.1.map kV))/\RelV p.2 q.2.2) kvs xs /\
   ∃ o es ep,h.get? a=some o/\o.ExactDict/\o.data=.dict es ep/\es.toList=xs.map (entryOfKey (tupleKind (mixKind P w)))/\(xs.map (·.1)).Nodup
 | .set S n=>h.SetOf (intKind P w) a S n
 | .ins C dx fs=>H dx=some (.own a)/\fs.length<=1000/\dx ≠ a/\h.get? a=some (g0y C dx) /\
   ∃ mA,h.Ns1 dx mA/\(∀ f,RelO (fs.lookup f) (mA f))/\PySem.Within mA (fs.map (·.1))
 | .own _ => ∃ o,h.get? a=some o
 | .xd fs => ∃ mA,h.Ns1 a mA/\∀ f,RelO (fs.lookup f) (mA f)
 | .rng lo hi => ∃ t u v,h.get? a=some { cls:=.type "range",data:=.fields #[.int lo t,.int hi u,.int 1 v] }
 | .frz o u=>h.get? a=some o/\ObjOk H h a u
 | .tbl ps=>h.get? a=some { cls:=.none,data:=.fields ps }
 | .met f x=>h.get? a=some (g0j (.ref f) (.ref x))
 | .ext φ=>φ h/\(∃ o,h.get? a=some o)/\∀ h1 h2:Heap,φ h1->(∀ o,h1.get? a=some o->h2.get? a=some o)->φ h2
def HOk (H:Hp) (h:Heap):Prop:=∀ a o,H a=some o->ObjOk P w H h a o
end

section
variable {P:Program} {w:World} {H H':Hp} {h h':Heap} {a:Addr} {o:HO}
theorem ObjOk.lt (x:ObjOk P w H h a o):a<h.objs.size:=by
 cases o with
 | lst xs=>obtain ⟨_,_,_,_,e⟩:=x;exact q0h e
 | tup xs=>obtain ⟨_,_,_,p⟩:=x;exact p.lt
 | dK kvs=>obtain ⟨_,_,_,_,o,_,_,e,_⟩:=x;exact q0h e
 | dT kvs=>obtain ⟨_,_,_,_,o,_,_,e,_⟩:=x;exact q0h e
 | set S n=>obtain ⟨o,_,_,_,e,_⟩:=x;exact q0h e
 | ins C dx fs=>obtain ⟨_,_,_,e,_⟩:=x;exact q0h e
 | own y=>obtain ⟨_,e⟩:=x;exact q0h e
 | xd fs=>obtain ⟨_,⟨_,_,_,e,_⟩,_⟩:=x;exact q0h e
 | rng lo hi=>obtain ⟨_,_,_,e⟩:=x;exact q0h e
 | frz ob u=>obtain ⟨e,_⟩:=x;exact q0h e
 | tbl ps=>exact q0h (show h.get? a=some _ from x)
 | met f y=>exact q0h (show h.get? a=some _ from x)
 | ext φ=>obtain ⟨_,⟨_,e⟩,_⟩:=x;exact q0h e
theorem Paired.mapP {α β:Type} {F G:α->β->Prop}:∀ {l₁:List α} {l₂:List β},Paired F l₁ l₂->(∀ a b,F a b->G a b)->Paired G l₁ l₂
 | _,_,.nil,_=>.nil
 | _,_,.cons r t,f=>.cons (f _ _ r) (Paired.mapP t f)
theorem ObjOk.stay (x:ObjOk P w H h a o) (k:∀ b u,(b=a \/ H b=some (.own a))->h.get? b=some u->h'.get? b=some u)
  (ho:∀ b,H b=some (.own a)->H' b=some (.own a)) (ht:∀ b xs,H b=some (.tup xs)->H' b=some (.tup xs)):ObjOk P w H' h' a o:=by
 induction o with
 | lst xs=>obtain ⟨z,its,n,r,e⟩:=x;exact ⟨z,its,n,r,k _ _ (.inl rfl) e⟩
 | tup xs=>obtain ⟨z,its,r,ob,e,c⟩:=x;exact ⟨z,its,r,ob,k _ _ (.inl rfl) e,c⟩
 | dK kvs=>obtain ⟨z,y,vs,r,ob,es,ep,e,c⟩:=x;exact ⟨z,y,vs,r,ob,es,ep,k _ _ (.inl rfl) e,c⟩
 | dT kvs =>
  obtain ⟨z,y,xs,r,ob,es,ep,e,c⟩:=x;exact ⟨z,y,xs,Paired.mapP r λp q z=>⟨z.1,ht _ _ z.2.1,z.2.2⟩,ob,es,ep,k _ _ (.inl rfl) e,c⟩
 | set S n=>obtain ⟨ob,es,ep,t,e,c⟩:=x;exact ⟨ob,es,ep,t,k _ _ (.inl rfl) e,c⟩
 | ins C dx fs =>
  obtain ⟨d,z,ne,e,mA,⟨od,es,ep,e2,c⟩,r⟩:=x;exact ⟨ho _ d,z,ne,k _ _ (.inl rfl) e,mA,⟨od,es,ep,k _ _ (.inr d) e2,c⟩,r⟩
 | own y=>obtain ⟨ob,e⟩:=x;exact ⟨ob,k _ _ (.inl rfl) e⟩
 | xd fs=>obtain ⟨mA,⟨od,es,ep,e,c⟩,r⟩:=x;exact ⟨mA,⟨od,es,ep,k _ _ (.inl rfl) e,c⟩,r⟩
 | rng lo hi=>obtain ⟨t,u,v,e⟩:=x;exact ⟨t,u,v,k _ _ (.inl rfl) e⟩
 | frz ob u ih=>obtain ⟨e,q⟩:=x;exact ⟨k _ _ (.inl rfl) e,ih q⟩
 | tbl ps =>
  have e:h.get? a=some { cls:=.none,data:=.fields ps }:=x
  show h'.get? a=some { cls:=.none,data:=.fields ps };exact k a _ (.inl rfl) e
 | met f y =>
  have e:h.get? a=some (g0j (.ref f) (.ref y)):=x
  show h'.get? a=some (g0j (.ref f) (.ref y));exact k a _ (.inl rfl) e
 | ext φ=>obtain ⟨p,⟨o,e⟩,st⟩:=x;exact ⟨st _ _ p λo q=>k _ _ (.inl rfl) q,⟨o,k _ _ (.inl rfl) e⟩,st⟩
theorem HOk.lt (x:HOk P w H h) (e:H a=some o):a<h.objs.size:=(x a o e).lt
theorem HOk.fresh (x:HOk P w H h) (e:h.objs.size<=a):H a=none:=by
 cases q:H a with
 | none=>rfl
 | some u=>exact absurd (q0f (x.lt q) e) (y0k _)
theorem HOk.kept (x:HOk P w H h) (k:∀ b u,h.get? b=some u->h'.get? b=some u):HOk P w H h':=λa o e =>
 (x a o e).stay (λb u _ q=>k b u q) (λ_ q=>q) λ_ _ q=>q
theorem HOk.laid (x:HOk P w H h) (k:∀ b u,h.get? b=some u->h'.get? b=some u) (hp:h.objs.size<=a) (new:ObjOk P w (upd H a o) h' a o):HOk P w (upd H a o) h':=λb u e=>by
 have hn:=x.fresh hp
 by_cases hb:b=a
 ·subst hb;rw [upd_same] at e;cases e;exact new
 ·rw [upd_ne hb] at e
  exact (x b u e).stay (λc v _ q=>k c v q) (λc q=>by rw [upd_ne (ne_of_none q hn)];exact q) λc xs q=>by rw [upd_ne (ne_of_none q hn)];exact q
end

def Rd (H:Hp) (a:Addr) (u:HO):Prop:=H a=some u \/ ∃ o,H a=some (.frz o u)
theorem Rd.ok {P:Program} {w:World} {H:Hp} {h:Heap} {a:Addr} {u:HO} (r:Rd H a u) (x:HOk P w H h):ObjOk P w H h a u:=by
 rcases r with r | ⟨o,r⟩
 ·exact x a u r
 ·obtain ⟨_,q⟩:=x a _ r
  exact q
def Mut:Option HO->Prop
 | some (.lst _)=>True
 | some (.dK _)=>True
 | some (.dT _)=>True
 | some (.set _ _)=>True
 | some (.ins _ _ _)=>True
 | some (.ext _)=>True
 | _=>False
section
variable {P:Program} {w:World} {H:Hp} {h h':Heap} {x e:Addr} {o':HO}
theorem HOk.write (ok:HOk P w H h) (mu:Mut (H x)) (he:e=x \/ H e=some (.own x)) (k:∀ b u,b ≠ e->h.get? b=some u->h'.get? b=some u) (heo:∃ u,h'.get? e=some u)
  (new:ObjOk P w (upd H x o') h' x o'):HOk P w (upd H x o') h':=λb u q=>by
 have nown:∀ c y,H c=some (.own y)->c ≠ x:=λc y r z=>by subst z;rw [r] at mu;exact mu
 have ntup:∀ c xs,H c=some (.tup xs)->c ≠ x:=λc xs r z=>by subst z;rw [r] at mu;exact mu
 by_cases hb:b=x
 ·subst hb;rw [upd_same] at q;cases q;exact new
 ·rw [upd_ne hb] at q
  by_cases hbe:b=e
  ·have q':H b=some (.own x):=by
    rcases he with z | z
    ·exact absurd (hbe.trans z) hb
    ·rw [hbe];exact z
   rw [q] at q';cases q';obtain ⟨v,hv⟩:=heo;exact ⟨v,by rw [hbe];exact hv⟩
  ·refine (ok b u q).stay (λc v hc r=>k c v ?_ r) (λc r=>by rw [upd_ne (nown c b r)];exact r) λc xs r=>by rw [upd_ne (ntup c xs r)];exact r
   rcases hc with rfl | hc
   ·exact hbe
   ·rintro rfl
    rcases he with z | z
    ·exact nown c b hc z
    ·rw [hc] at z;cases z;exact hb rfl
end

structure Un (fs ex:List Addr) (H H':Hp) (h h':Heap):Prop where
 keep:∀ b o,h.get? b=some o->H b=none->b ∉ fs->b ∉ ex->h'.get? b=some o
 slot:∀ b o,h.get? b=some o->H b=none->b ∈ fs->b ∉ ex->∃ sl,h'.get? b=some { o with slots:=sl }
 free:∀ b o,h.get? b=some o->H b=none->b ∉ ex->H' b=none
 there:∀ b o,h.get? b=some o->b ∉ ex->∃ o',h'.get? b=some o'
 tups:∀ b xs,H b=some (.tup xs)->H' b=some (.tup xs)
 frzs:∀ b o u,H b=some (.frz o u)->H' b=some (.frz o u)
 tbls:∀ b ps,H b=some (.tbl ps)->∃ more,H' b=some (.tbl (ps ++ more))
section
variable {fs fs' ex ex':List Addr} {H H1 H2:Hp} {h h1 h2 h':Heap} {a x e:Addr} {o:HO}
theorem Un.any (u:Un fs ex H H1 h h1) {b:Addr} {ob:Obj} (q:h.get? b=some ob) (n:H b=none) (hx:b ∉ ex):∃ sl,h1.get? b=some { ob with slots:=sl }:=by
 by_cases hb:b ∈ fs
 ·exact u.slot b ob q n hb hx
 ·exact ⟨ob.slots,u.keep b ob q n hb hx⟩
theorem Un.kept (k:∀ b u,h.get? b=some u->h'.get? b=some u):Un fs ex H H h h' :=
 ⟨λb ob q _ _ _=>k b ob q,λb ob q _ _ _=>⟨ob.slots,k b ob q⟩,λ_ _ _ n _=>n,λb ob q _=>⟨ob,k b ob q⟩,λ_ _ q=>q,λ_ _ _ q=>q,λ_ ps q=>⟨#[],by rw [q];simp⟩⟩
theorem Un.refl:Un fs ex H H h h:=Un.kept λ_ _ q=>q
theorem Un.laid (k:∀ b u,h.get? b=some u->h'.get? b=some u) (hp:h.objs.size<=a) (hn:H a=none):Un fs ex H (upd H a o) h h' where
 keep:=λb u q _ _ _=>k b u q
 slot:=λb u q _ _ _=>⟨u.slots,k b u q⟩
 free:=λb u q n _=>by rw [upd_ne (q0u (q0f (q0h q) hp))];exact n
 there:=λb u q _=>⟨u,k b u q⟩
 tups:=λb xs q=>by rw [upd_ne (ne_of_none q hn)];exact q
 frzs:=λb u xs q=>by rw [upd_ne (ne_of_none q hn)];exact q
 tbls:=λb ps q=>⟨#[],by rw [upd_ne (ne_of_none q hn),q];simp⟩
theorem Un.write (mu:Mut (H x)) (he:e=x \/ H e=some (.own x)) (k:∀ b u,b ≠ e->h.get? b=some u->h'.get? b=some u) (heo:∃ u,h'.get? e=some u):Un fs ex H (upd H x o) h h':=by
 have hx:∀ b,H b=none->b ≠ x:=λb n z=>by subst z;rw [n] at mu;exact mu
 have hb:∀ b,H b=none->b ≠ e:=λb n z=>by
  subst z;rcases he with r | r
  ·exact hx b n r
  ·rw [n] at r;cases r
 have hm:∀ b u,H b=some u->¬ Mut (some u)->b ≠ x:=λb u q nm z=>by subst z;rw [q] at mu;exact nm mu
 refine ⟨λb u q n _ _=>k b u (hb b n) q,λb u q n _ _=>⟨u.slots,k b u (hb b n) q⟩,λb u q n _=>by rw [upd_ne (hx b n)];exact n,λb u q _=>?_,
  λb xs q=>by rw [upd_ne (hm b _ q λz=>z)];exact q,λb u xs q=>by rw [upd_ne (hm b _ q λz=>z)];exact q,λb ps q=>⟨#[],by rw [upd_ne (hm b _ q λz=>z),q];simp⟩⟩
 by_cases hbe:b=e
 ·subst hbe;exact heo
 ·exact ⟨u,k b u hbe q⟩
end

def trk (h:Heap) (H:Hp):List Addr:=(q0z h.objs.size).filter λa=>(H a).isSome
def hidT (h:Heap) (H:Hp):Heap:=PySem.W.hideAll h (trk h H)
theorem hidT_size (h:Heap) (H:Hp):(hidT h H).objs.size=h.objs.size:=PySem.W.hideAll_size _ _
theorem hidT_get {h:Heap} {H:Hp} {b:Addr} {o:Obj} (e:h.get? b=some o) (n:H b=none):(hidT h H).get? b=some o :=
 PySem.W.hideAll_get _ e λhm=>by
  have q:(H b).isSome=true:=(List.mem_filter.mp hm).2;rw [n] at q;simp at q
theorem of_hidT {h:Heap} {H:Hp} {b:Addr} {o:Obj} (e:(hidT h H).get? b=some o):h.get? b=some o/\H b=none:=by
 have e':h.get? b=some o:=PySem.W.of_hideAll (trk h H) e;refine ⟨e',?_⟩
 cases q:H b with
 | none=>rfl
 | some x =>
  have hm:b ∈ trk h H:=List.mem_filter.mpr ⟨v0f.mpr (q0h e'),by simp [q]⟩
  have z:(hidT h H).get? b=none:=PySem.W.hideAll_none (trk h H) hm;rw [z] at e;cases e

def allNews (g h:Heap) (L:Addr):List (Addr × Obj):=(q0z h.objs.size).filterMap λa=>if a=L \/ (g.get? a).isSome=true then none else (h.get? a).map λo=>(a,o)
def rest (g h:Heap) (L d:Addr):List (Addr × Obj):=(allNews g h L).filter λp=>decide (p.1 ≠ d)
end L2

namespace L2
open PySem PySem.Spec PyProof.Rows

structure Mod (K:q0a) (mg:Str->Option Value) (base:Heap):Prop where
 kin:K.In base
 glob:base.Ns mainGlobals mg
 blt:∃ mb,base.Ns builtinsNs mb/\∀ x:Str,x ≠ "__name__"->mb x=bootBuiltins x
 nolimit:base.NoLimit

structure Cx where
 prog:Program
 w:World
 K:q0a
 mg:Str->Option Value
 base:Heap
 A:Around
 N:List Str
 s₀:Shared
 H₀:Hp
 env:Env
 outer:List Env
 stack:List Env
 ex:List Addr
 fn:Str->Bool
 calm:Bool
 pn:List (Addr × Obj)
 xe:Value->Shared->Prop
def frs (l:List Env):List Addr:=l.filterMap (·.frame)
abbrev Cx.fs (X:Cx):List Addr:=frs X.outer

def Vis (sc:Scope) (x:Str):Prop:=sc.names.lookup x=some .local \/ sc.names.lookup x=some .cell \/ sc.names.lookup x=some .free
def Loc (sc:Scope) (x:Str):Prop:=sc.names.lookup x=some .local \/ sc.names.lookup x=some .cell
def Look (env:Env) (h:Heap) (m:Str->Option Value) (x:Str) (u:Value):Prop :=
 (env.kindOf x=some .local/\m x=some u) \/ ((env.kindOf x=some .cell \/ env.kindOf x=some .free)/\∃ c,env.cells.lookup x=some c/\h.IsCell c (some u))

structure Cx.Ok (X:Cx):Prop where
 mod:Mod X.K X.mg X.base
 kind:X.env.scope.kind=.function
 glob:X.env.globals=mainGlobals
 blt:X.env.builtins=builtinsNs
 above:X.s₀.heap.objs.size<=X.env.locals
 inj:∀ x y c,X.env.cells.lookup x=some c->X.env.cells.lookup y=some c->x=y
 has:∀ x,(X.env.kindOf x=some .cell \/ X.env.kindOf x=some .free)->∃ c,X.env.cells.lookup x=some c
 cab:∀ x c,X.fn x=true->X.env.cells.lookup x=some c->X.s₀.heap.objs.size<=c
 hd:X.calm=true->X.A.handled=none
 frames:X.A.frames=some X.stack
 stk:X.stack=X.outer \/ (X.stack=X.env :: X.outer/\X.env.frame=some X.env.locals)
 exf:∀ b ∈ X.ex,b ≠ X.env.locals/\∀ x c,X.env.cells.lookup x=some c->c ≠ b
 bs:∀ b o,X.base.get? b=some o->X.s₀.heap.get? b=some o/\X.H₀ b=none
 bsz:X.base.objs.size<=X.s₀.heap.objs.size
 noex:∀ b o,X.base.get? b=some o->b ∉ X.ex
 exfs:∀ b ∈ X.ex,b ∉ X.fs
 funs:X.s₀.heap.FunFrames X.base X.outer
 frf:∀ b ∈ X.fs,X.H₀ b=none

structure Inv (X:Cx) (pins:List (Addr × Obj)) (σ:List (Option V)) (H:Hp) (s:Shared):Prop where
 ok:X.Ok
 os:s.os=X.s₀.os
 bare:AllBare s.gens
 base:Un X.fs X.ex X.H₀ H X.s₀.heap s.heap
 loc:∃ m,s.heap.Ns X.env.locals m/\∀ (i:Nat) (x:Str) (v:V),X.N[i]? = some x->σ[i]? = some (some v)->Vis X.env.scope x->∃ u,RelV v u/\Look X.env s.heap m x u
 cell:∀ x c,X.env.cells.lookup x=some c->∃ v,s.heap.IsCell c v
 free:H X.env.locals=none
 freeC:∀ x c,X.env.cells.lookup x=some c->H c=none
 pin:∀ p ∈ X.pn ++ pins,s.heap.get? p.1=some p.2/\H p.1=none/\p.1 ≠ X.env.locals/\p.1 ∉ X.fs/\∀ v,p.2.data ≠ .cell v
 hok:HOk X.prog X.w H s.heap
 len:σ.length=X.N.length

section
variable {X:Cx} {pins:List (Addr × Obj)} {σ:List (Option V)} {H H':Hp} {s:Shared} {h':Heap}

theorem Cx.Ok.nofr (ok:X.Ok) {b:Addr} {o:Obj} (e:X.base.get? b=some o):b ∉ X.fs:=λhb=>by
 have:=(ok.funs.mem hb).1;rw [e] at this;cases this
theorem Inv.bs (I:Inv X pins σ H s):∀ b o,X.base.get? b=some o->s.heap.get? b=some o/\H b=none:=λb o e =>
 ⟨I.base.keep b o (I.ok.bs b o e).1 (I.ok.bs b o e).2 (I.ok.nofr e) (I.ok.noex b o e),I.base.free b o (I.ok.bs b o e).1 (I.ok.bs b o e).2 (I.ok.noex b o e)⟩
theorem Inv.bk (I:Inv X pins σ H s):∀ b o,X.base.get? b=some o->s.heap.get? b=some o:=λb o e=>(I.bs b o e).1
theorem Inv.mod (I:Inv X pins σ H s):Mod X.K X.mg X.base:=I.ok.mod
theorem Inv.kIn (I:Inv X pins σ H s):X.K.In s.heap:=I.ok.mod.kin.keeps I.bk
theorem Inv.lt (I:Inv X pins σ H s):X.env.locals<s.heap.objs.size:=let ⟨_,hn,_⟩:=I.loc;hn.lt
theorem Inv.sz (I:Inv X pins σ H s):X.s₀.heap.objs.size<=s.heap.objs.size:=q0y I.ok.above (v0g I.lt)
theorem Inv.nofs (I:Inv X pins σ H s) {a:Addr} (h:s.heap.objs.size<=a):a ∉ X.fs:=λhb=>by
 obtain ⟨_,o,ho,_⟩:=I.ok.funs.mem hb;exact absurd (q0f (q0h ho) (q0y I.sz h)) (y0k _)
theorem Inv.cne (I:Inv X pins σ H s):∀ x c,X.env.cells.lookup x=some c->c ≠ X.env.locals:=λx c e z=>by
 obtain ⟨v,o,ho,hd⟩:=I.cell x c e;obtain ⟨m,⟨o',es,ep,ho',hd',_⟩,_⟩:=I.loc;rw [z,ho'] at ho;cases ho;rw [hd'] at hd;cases hd
theorem Inv.funs (I:Inv X pins σ H s):s.heap.FunFrames X.base X.outer:=by
 have all:∀ (l:List Env),(∀ b ∈ frs l,b ∈ X.fs)->X.s₀.heap.FunFrames X.base l->s.heap.FunFrames X.base l:=by
  intro l
  induction l with
  | nil=>intro _ _;trivial
  | cons env r ih =>
   intro hs hl;obtain ⟨hk,⟨L,o,hf,hn,ho,hd⟩,hr⟩:=hl;have hL:L ∈ X.fs:=hs L (by unfold frs;rw [g0f,hf];exact z0m)
   obtain ⟨sl,e⟩:=I.base.slot L o ho (I.ok.frf L hL) hL λz=>I.ok.exfs L z hL;exact ⟨hk,⟨L,_,hf,hn,e,hd⟩,ih (λb hb=>hs b (by unfold frs;rw [g0f,hf];exact z0d _ hb)) hr⟩
 exact all X.outer (λ_ hb=>hb) I.ok.funs

theorem Inv.stack (I:Inv X pins σ H s):s.heap.FunFrames X.base X.stack:=by
 rcases I.ok.stk with e | ⟨e,hf⟩
 ·rw [e];exact I.funs
 ·rw [e]
  obtain ⟨m,hn,_⟩:=I.loc;refine .cons (by rw [I.ok.kind];decide) hf hn ?_ I.funs
  exact Heap.get?_none_of_le (q0y I.ok.bsz I.ok.above)
theorem Inv.stkSub (I:Inv X pins σ H s):∀ b ∈ frs X.stack,b ∈ X.env.locals :: X.fs:=λb hb=>by
 rcases I.ok.stk with e | ⟨e,hf⟩
 ·rw [e] at hb;exact z0d _ hb
 ·rw [e] at hb
  unfold frs at hb;rw [g0f,hf] at hb;exact hb
theorem Inv.stkFree (I:Inv X pins σ H s):∀ b ∈ frs X.stack,H b=none:=λb hb=>by
 rcases j0v.mp (I.stkSub b hb) with e | hb
 ·rw [e];exact I.free
 ·obtain ⟨_,o,ho,_⟩:=I.ok.funs.mem hb
  exact I.base.free b o ho (I.ok.frf b hb) λz=>I.ok.exfs b z hb

theorem Inv.step {g':Array GenState} {t':Nat} {d':Drawn} {ch:List Addr} (I:Inv X pins σ H s)
  (hch:∀ b ∈ ch,(b ∈ X.ex \/ X.s₀.heap.objs.size<=b)/\b ≠ X.env.locals/\(∀ x c,X.env.cells.lookup x=some c->c ≠ b)/\∀ p ∈ X.pn ++ pins,p.1 ≠ b)
  (keep:∀ b o,b ≠ X.env.locals->b ∉ X.fs->b ∉ ch->s.heap.get? b=some o->H b=none->h'.get? b=some o)
  (slot:∀ b o,b ≠ X.env.locals->b ∈ X.fs->b ∉ ch->s.heap.get? b=some o->H b=none->∃ sl,h'.get? b=some { o with slots:=sl }) (free:∀ b o,b ∉ ch->s.heap.get? b=some o->H b=none->H' b=none)
  (there:∀ b o,b ∉ ch->s.heap.get? b=some o->∃ o',h'.get? b=some o')
  (tups:∀ b xs,H b=some (.tup xs)->H' b=some (.tup xs)) (frzs:∀ b o u,H b=some (.frz o u)->H' b=some (.frz o u)) (tbls:∀ b ps,H b=some (.tbl ps)->∃ more,H' b=some (.tbl (ps ++ more)))
  (ns:∀ m,s.heap.Ns X.env.locals m->h'.Ns X.env.locals m) (hok:HOk X.prog X.w H' h') (hg:AllBare g') :
  Inv X pins σ H' { s with heap:=h',gens:=g',drawn:=d',toks:=t' }:=by
 have neL:∀ b o,X.s₀.heap.get? b=some o->b ≠ X.env.locals:=λb o e=>q0u (q0f (q0h e) I.ok.above)
 have neC:∀ b o,X.s₀.heap.get? b=some o->b ∉ X.ex->b ∉ ch:=λb o e hx hb=>by
  rcases (hch b hb).1 with z | z
  ·exact hx z
  ·exact absurd (q0f (q0h e) z) (y0k _)
 have cellK:∀ x c,X.env.cells.lookup x=some c->∀ v,s.heap.IsCell c v->h'.IsCell c v:=λx c e v ⟨o,ho,hd⟩=>by
  have nch:c ∉ ch:=λz=>(hch c z).2.2.1 x c e rfl
  by_cases hc:c ∈ X.fs
  ·obtain ⟨sl,q⟩:=slot c o (I.cne x c e) hc nch ho (I.freeC x c e)
   exact ⟨_,q,hd⟩
  ·exact ⟨o,keep c o (I.cne x c e) hc nch ho (I.freeC x c e),hd⟩
 refine ⟨I.ok,I.os,hg,⟨λb o e n hb hx=>?_,λb o e n hb hx=>?_,λb o e n hx=>?_,λb o e hx=>?_,λb xs e=>tups b xs (I.base.tups b xs e),λb o xs e=>frzs b o xs (I.base.frzs b o xs e),λb ps e=>?_⟩,?_,λx c e=>?_,?_,λx c e=>?_,λp hp=>?_,hok,I.len⟩
 ·exact keep b o (neL b o e) hb (neC b o e hx) (I.base.keep b o e n hb hx) (I.base.free b o e n hx)
 ·obtain ⟨sl,e1⟩:=I.base.slot b o e n hb hx
  obtain ⟨sl',e2⟩:=slot b _ (neL b o e) hb (neC b o e hx) e1 (I.base.free b o e n hx);exact ⟨sl',e2⟩
 ·obtain ⟨o',e1⟩:=I.base.there b o e hx
  exact free b o' (neC b o e hx) e1 (I.base.free b o e n hx)
 ·obtain ⟨o',e1⟩:=I.base.there b o e hx
  exact there b o' (neC b o e hx) e1
 ·obtain ⟨m1,e1⟩:=I.base.tbls b ps e
  obtain ⟨m2,e2⟩:=tbls b _ e1;exact ⟨m1 ++ m2,by rw [e2,Array.append_assoc]⟩
 ·obtain ⟨m,hn,hl⟩:=I.loc
  refine ⟨m,ns m hn,λi x v e1 e2 e3=>?_⟩;obtain ⟨u,r,l⟩:=hl i x v e1 e2 e3;refine ⟨u,r,?_⟩;rcases l with l | ⟨k,c,e,z⟩
  ·exact .inl l
  ·exact .inr ⟨k,c,e,cellK x c e _ z⟩
 ·obtain ⟨v,z⟩:=I.cell x c e
  exact ⟨v,cellK x c e v z⟩
 ·obtain ⟨m,⟨o,_,_,ho,_⟩,_⟩:=I.loc
  exact free _ o (λz=>(hch _ z).2.1 rfl) ho I.free
 ·obtain ⟨v,o,ho,hd⟩:=I.cell x c e
  exact free c o (λz=>(hch c z).2.2.1 x c e rfl) ho (I.freeC x c e)
 ·obtain ⟨e,n,ne,nf,d⟩:=I.pin p hp
  have nch:p.1 ∉ ch:=λz=>(hch p.1 z).2.2.2 p hp rfl;exact ⟨keep p.1 p.2 ne nf nch e n,free p.1 p.2 nch e n,ne,nf,d⟩
theorem Inv.un {t':Nat} (I:Inv X pins σ H s) (u:Un X.fs [] H H' s.heap h') (hok:HOk X.prog X.w H' h'):Inv X pins σ H' { s with heap:=h',toks:=t' }:=by
 obtain ⟨m,⟨o,es,ep,ho,r⟩,_⟩:=id I.loc;obtain ⟨sl,hL⟩:=u.any ho I.free (by simp)
 exact I.step (g':=s.gens) (d':=s.drawn) (ch:=[]) (λ_ z=>nomatch z) (λb o _ hb _ e n=>u.keep b o e n hb (by simp)) (λb o _ hb _ e n=>u.slot b o e n hb (by simp)) (λb o _ e n=>u.free b o e n (by simp)) (λb o _ e=>u.there b o e (by simp)) u.tups u.frzs u.tbls (λm' hm=>by
  obtain ⟨o',es',ep',ho',r'⟩:=hm;rw [ho] at ho';cases ho';exact ⟨_,es',ep',hL,r'⟩) hok I.bare
theorem Inv.call {g':Array GenState} {t':Nat} {d':Drawn} {ch:List Addr} (I:Inv X pins σ H s) (u:Un (frs X.stack) ch H H' s.heap h') (hok:HOk X.prog X.w H' h') (hg:AllBare g')
  (hch:∀ b ∈ ch,(b ∈ X.ex \/ X.s₀.heap.objs.size<=b)/\b ≠ X.env.locals/\(∀ x c,X.env.cells.lookup x=some c->c ≠ b)/\∀ p ∈ X.pn ++ pins,p.1 ≠ b) :
  Inv X pins σ H' { s with heap:=h',gens:=g',drawn:=d',toks:=t' }:=by
 obtain ⟨m,⟨o,es,ep,ho,r⟩,_⟩:=id I.loc;obtain ⟨sl,hL⟩:=u.any ho I.free λz=>(hch _ z).2.1 rfl
 exact I.step (ch:=ch) hch (λb o hL hb hc e n=>u.keep b o e n (λz=>(j0v.mp (I.stkSub b z)).elim hL hb) hc) (λb o _ _ hc e n=>u.any e n hc) (λb o hc e n=>u.free b o e n hc) (λb o hc e=>u.there b o e hc) u.tups u.frzs u.tbls (λm' hm=>by
  obtain ⟨o',es',ep',ho',r'⟩:=hm;rw [ho] at ho';cases ho';exact ⟨_,es',ep',hL,r'⟩) hok hg
theorem Inv.turned {t':Nat} {it:Addr} (I:Inv X pins σ H s) (k:∀ b o,b ≠ it->s.heap.get? b=some o->h'.get? b=some o) (hn:H it=none) (hL:it ≠ X.env.locals)
  (h1:it ∈ X.ex \/ X.s₀.heap.objs.size<=it) (h2:∀ x c,X.env.cells.lookup x=some c->c ≠ it) (h3:∀ p ∈ X.pn ++ pins,p.1 ≠ it):Inv X pins σ H { s with heap:=h',toks:=t' }:=by
 have nit:∀ b u,H b=some u->b ≠ it:=λb u e z=>by rw [z,hn] at e;cases e
 refine I.step (g':=s.gens) (d':=s.drawn) (ch:=[it]) (λb hb=>?_) (λb o _ _ hc e _=>k b o (λz=>hc (by simp [z])) e) (λb o _ _ hc e _=>⟨o.slots,k b o (λz=>hc (by simp [z])) e⟩) (λ_ _ _ _ n=>n)
  (λb o hc e=>⟨o,k b o (λz=>hc (by simp [z])) e⟩) (λ_ _ e=>e) (λ_ _ _ e=>e) (λb ps e=>⟨#[],by rw [e];simp⟩) (λm hm=>?_) (λb u e=>?_) I.bare
 ·have e:b=it:=by simpa using hb
  subst e;exact ⟨h1,hL,h2,h3⟩
 ·obtain ⟨o,es,ep,ho,r⟩:=hm
  exact ⟨o,es,ep,k _ o (Ne.symm hL) ho,r⟩
 ·refine (I.hok b u e).stay (λc v hc q=>k c v ?_ q) (λ_ q=>q) λ_ _ q=>q
  rcases hc with z | z
  ·rw [z];exact nit b u e
  ·exact nit c _ z
theorem Inv.tok (I:Inv X pins σ H s) (t:Nat):Inv X pins σ H { s with toks:=t }:=I.un (h':=s.heap) (t':=t) Un.refl I.hok
theorem Inv.kept {t':Nat} (I:Inv X pins σ H s) (k:∀ b u,s.heap.get? b=some u->h'.get? b=some u):Inv X pins σ H { s with heap:=h',toks:=t' }:=I.un (Un.kept k) (I.hok.kept k)
theorem Inv.laid {a:Addr} {o:HO} {t':Nat} (I:Inv X pins σ H s) (k:∀ b u,s.heap.get? b=some u->h'.get? b=some u) (hp:s.heap.objs.size<=a) (new:ObjOk X.prog X.w (upd H a o) h' a o) :
  Inv X pins σ (upd H a o) { s with heap:=h',toks:=t' }:=I.un (Un.laid k hp (I.hok.fresh hp)) (I.hok.laid k hp new)
theorem Inv.write {x e:Addr} {o:HO} {t':Nat} (I:Inv X pins σ H s) (mu:Mut (H x)) (he:e=x \/ H e=some (.own x)) (k:∀ b u,b ≠ e->s.heap.get? b=some u->h'.get? b=some u) (heo:∃ u,h'.get? e=some u)
  (new:ObjOk X.prog X.w (upd H x o) h' x o):Inv X pins σ (upd H x o) { s with heap:=h',toks:=t' }:=I.un (Un.write mu he k heo) (I.hok.write mu he k heo new)
theorem Inv.pins_of {pins':List (Addr × Obj)} (I:Inv X pins σ H s) (h:∀ p ∈ pins',s.heap.get? p.1=some p.2/\H p.1=none/\p.1 ≠ X.env.locals/\p.1 ∉ X.fs/\∀ v,p.2.data ≠ .cell v):Inv X pins' σ H s :=
 ⟨I.ok,I.os,I.bare,I.base,I.loc,I.cell,I.free,I.freeC,λp hp=>(u0c.mp hp).elim (λz=>I.pin p (u0w _ z)) (h p),I.hok,I.len⟩

theorem nodup_ix {N:List Str} (hN:N.Nodup) {i j:Nat} {x:Str} (a:N[i]? = some x) (b:N[j]? = some x):i=j:=by
 obtain ⟨h1,e1⟩:=q0d.mp a;obtain ⟨h2,e2⟩:=q0d.mp b;exact (List.getElem_inj hN).mp (e1.trans e2.symm)

theorem store_ok2 {M:Model} {A:Around} {E:Value->Shared->Prop} {i:Nat} {x:Str} {v:V} {u:Value} {Q:Unit->Shared->Prop} (I:Inv X pins σ H s) (hN:X.N.Nodup) (hi:X.N[i]? = some x) (hx:Loc X.env.scope x) (r:RelV v u)
  (h:∀ s',Inv X pins (σ.set i (some v)) H s'->(∃ a,g0r a s.heap s'.heap/\(a=X.env.locals \/ X.env.cells.lookup x=some a))->Q () s') (hf:X.fn x=true \/ X.env.scope.names.lookup x=some .local:=by first | exact .inl rfl | exact .inr rfl | assumption):wpAny M A (storeName X.env x u) Q E s:=by
 obtain ⟨m,hn,hl⟩:=id I.loc;have hcls:(X.env.scope.kind == .class || (X.env.scope.kind == .module && X.env.locals != X.env.globals))=false:=by rw [I.ok.kind];rfl
 have hiσ:i<σ.length:=by rw [I.len];exact (q0d.mp hi).1
 have cne:=I.cne
 have tracked:∀ {a:Addr} {h':Heap},(∃ o,s.heap.get? a=some o/\H a=none)->g0r a s.heap h'->HOk X.prog X.w H h':=fun {a h'} ha hs b ob e=>by
  obtain ⟨_,_,hfree⟩:=ha;refine (I.hok b ob e).stay (λc w' hc q=>(hs.2 c ?_).trans q) (λ_ q=>q) λ_ _ q=>q;rintro rfl;rcases hc with rfl | hc
  ·rw [hfree] at e;cases e
  ·rw [hfree] at hc;cases hc
 rcases hx with hk | hk
 ·refine wpAny_storeName_local hk hn (λh' hn' hs=>?_) hcls
  obtain ⟨oL,_,_,hoL,_⟩:=id hn;refine h _ ⟨I.ok,I.os,I.bare,⟨λb o e n hb hx=>?_,λb o e n hb hx=>?_,I.base.free,λb o e hx=>?_,I.base.tups,I.base.frzs,I.base.tbls⟩,⟨_,hn',λj y v' e1 e2 e3=>?_⟩,λy c e=>?_,I.free,I.freeC,λp hp=>?_,tracked ⟨oL,hoL,I.free⟩ hs,by simpa using I.len⟩ ⟨_,hs,.inl rfl⟩
  ·exact (hs.2 b (q0u (q0f (q0h e) I.ok.above))).trans (I.base.keep b o e n hb hx)
  ·obtain ⟨sl,e1⟩:=I.base.slot b o e n hb hx
   exact ⟨sl,(hs.2 b (q0u (q0f (q0h e) I.ok.above))).trans e1⟩
  ·obtain ⟨o',e1⟩:=I.base.there b o e hx
   exact ⟨o',(hs.2 b (q0u (q0f (q0h e) I.ok.above))).trans e1⟩
  ·by_cases hj:j=i
   ·subst hj
    rw [hi] at e1;cases e1;rw [m0d hiσ] at e2
    cases e2
    exact ⟨u,r,.inl ⟨hk,by simp⟩⟩
   ·rw [m0n (Ne.symm hj)] at e2
    obtain ⟨u',r',q⟩:=hl j y v' e1 e2 e3;refine ⟨u',r',?_⟩;rcases q with ⟨k,e⟩ | ⟨k,c,e,z⟩
    ·refine .inl ⟨k,?_⟩
     have:y ≠ x:=λe=>hj (nodup_ix hN e1 (e ▸ hi))
     simp [this,e]
    ·exact .inr ⟨k,c,e,z.sameBut hs (cne y c e)⟩
  ·obtain ⟨w',z⟩:=I.cell y c e
   exact ⟨w',z.sameBut hs (cne y c e)⟩
  ·obtain ⟨e,n,ne,nf,d⟩:=I.pin p hp
   exact ⟨(hs.2 p.1 ne).trans e,n,ne,nf,d⟩
 ·have hfn:X.fn x=true:=by
   rcases hf with z | z
   ·exact z
   ·rw [z] at hk;cases hk
  obtain ⟨c,hc⟩:=I.ok.has x (.inl hk);obtain ⟨w',z⟩:=I.cell x c hc;refine wpAny_storeName_cell I.ok.kind hk hc z (λh' hc' hs=>?_);obtain ⟨oc,hoc,hocd⟩:=id z;refine h { s with heap:=h' } ⟨I.ok,I.os,I.bare,⟨λb o e n hb hx=>?_,λb o e n hb hx=>?_,I.base.free,λb o e hx=>?_,I.base.tups,I.base.frzs,I.base.tbls⟩,⟨m,hn.sameBut hs (Ne.symm (cne x c hc)),λj y v' e1 e2 e3=>?_⟩,λy c' e=>?_,I.free,I.freeC,λp hp=>?_,tracked ⟨oc,hoc,I.freeC x c hc⟩ hs,by simpa using I.len⟩ ⟨c,hs,.inr hc⟩
  ·exact (hs.2 b (q0u (q0f (q0h e) (I.ok.cab x c hfn hc)))).trans (I.base.keep b o e n hb hx)
  ·obtain ⟨sl,e1⟩:=I.base.slot b o e n hb hx
   exact ⟨sl,(hs.2 b (q0u (q0f (q0h e) (I.ok.cab x c hfn hc)))).trans e1⟩
  ·obtain ⟨o',e1⟩:=I.base.there b o e hx
   exact ⟨o',(hs.2 b (q0u (q0f (q0h e) (I.ok.cab x c hfn hc)))).trans e1⟩
  ·by_cases hj:j=i
   ·subst hj
    rw [hi] at e1;cases e1;rw [m0d hiσ] at e2
    cases e2
    exact ⟨u,r,.inr ⟨.inl hk,c,hc,hc'⟩⟩
   ·rw [m0n (Ne.symm hj)] at e2
    obtain ⟨u',r',q⟩:=hl j y v' e1 e2 e3;refine ⟨u',r',?_⟩;rcases q with q | ⟨k,c',e,z'⟩
    ·exact .inl q
    ·refine .inr ⟨k,c',e,z'.sameBut hs ?_⟩
     rintro rfl;exact hj (nodup_ix hN e1 (I.ok.inj _ _ _ e hc ▸ hi))
  ·by_cases hcc:c'=c
   ·subst hcc;exact ⟨_,hc'⟩
   ·obtain ⟨w2,z2⟩:=I.cell y c' e
    exact ⟨w2,z2.sameBut hs hcc⟩
  ·obtain ⟨e,n,ne,nf,d⟩:=I.pin p hp
   refine ⟨(hs.2 p.1 ?_).trans e,n,ne,nf,d⟩;intro q;rw [q,hoc] at e;have q':oc=p.2:=Option.some.inj e;exact d w' (by rw [<- q'];exact hocd)
theorem store_ok {M:Model} {A:Around} {E:Value->Shared->Prop} {i:Nat} {x:Str} {v:V} {u:Value} {Q:Unit->Shared->Prop} (I:Inv X pins σ H s) (hN:X.N.Nodup) (hi:X.N[i]? = some x) (hx:Loc X.env.scope x) (r:RelV v u)
  (h:∀ s',Inv X pins (σ.set i (some v)) H s'->Q () s') (hf:X.fn x=true \/ X.env.scope.names.lookup x=some .local:=by first | exact .inl rfl | exact .inr rfl | assumption):wpAny M A (storeName X.env x u) Q E s :=
 store_ok2 I hN hi hx r (λs' I' _=>h s' I') hf
theorem Inv.call' {s':Shared} {ch:List Addr} (I:Inv X pins σ H s) (ho:s'.os=s.os) (u:Un (frs X.stack) ch H H' s.heap s'.heap) (hok:HOk X.prog X.w H' s'.heap) (hg:AllBare s'.gens)
  (hch:∀ b ∈ ch,(b ∈ X.ex \/ X.s₀.heap.objs.size<=b)/\b ≠ X.env.locals/\(∀ x c,X.env.cells.lookup x=some c->c ≠ b)/\∀ p ∈ X.pn ++ pins,p.1 ≠ b):Inv X pins σ H' s':=by
 obtain ⟨h',g',d',t',o'⟩:=s';have e:o'=s.os:=ho;subst e;exact I.call (g':=g') (t':=t') (d':=d') u hok hg hch
end

abbrev XK:=Value->Option Addr->Hp->Prop
abbrev St:=List (Option V)
abbrev VK:=V->Hp->Prop
abbrev TE:=St->Hp->VK->Prop
abbrev TT:=St->Hp->(Bool->Hp->Prop)->Prop
abbrev TA:=St->Hp->(List V->Hp->Prop)->Prop
structure Ends where
 nx:St->Hp->Prop
 rt:VK
 bk:St->Hp->Prop:=λ_ _=>False
 ct:St->Hp->Prop:=λ_ _=>False
abbrev TS:=Ends->St->Hp->Prop

def EP (X:Cx) (pins:List (Addr × Obj)) (σ:St) (Q:VK) (u:Value) (s':Shared):Prop:=∃ v H',Inv X pins σ H' s'/\RelV v u/\Q v H'
def TP (X:Cx) (pins:List (Addr × Obj)) (σ:St) (Q:Bool->Hp->Prop) (b:Bool) (s':Shared):Prop:=∃ H',Inv X pins σ H' s'/\Q b H'
def AP (X:Cx) (pins:List (Addr × Obj)) (σ:St) (Q:List V->Hp->Prop) (us:List Value) (s':Shared):Prop:=∃ vs H',Inv X pins σ H' s'/\Vals vs us/\Q vs H'
def SP (X:Cx) (pins:List (Addr × Obj)) (D:Ends) (f:Flow) (s':Shared):Prop :=
 match f with
 | .next => ∃ σ' H',Inv X pins σ' H' s'/\D.nx σ' H'
 | .brk => ∃ σ' H',Inv X pins σ' H' s'/\D.bk σ' H'
 | .cont => ∃ σ' H',Inv X pins σ' H' s'/\D.ct σ' H'
 | .ret u => ∃ v σ' H',Inv X pins σ' H' s'/\RelV v u/\D.rt v H'

def PE (X:Cx) (e:Expr) (t:TE):Prop :=
 ∀ (pins:List (Addr × Obj)) (s:Shared) (σ:St) (H:Hp) (Q:VK),Inv X pins σ H s->t σ H Q->wpAny (model X.prog X.w) X.A (eval e X.env) (EP X pins σ Q) X.xe s
def PT (X:Cx) (e:Expr) (t:TT):Prop :=
 ∀ (pins:List (Addr × Obj)) (s:Shared) (σ:St) (H:Hp) (Q:Bool->Hp->Prop),Inv X pins σ H s->t σ H Q->wpAny (model X.prog X.w) X.A (isTrue e X.env (eval e X.env)) (TP X pins σ Q) X.xe s
def PW (X:Cx) (e:Expr) (t:TT):Prop :=
 ∀ (whole:Sem Value) (pins:List (Addr × Obj)) (s:Shared) (σ:St) (H:Hp) (Q:Bool->Hp->Prop),Inv X pins σ H s->t σ H Q->wpAny (model X.prog X.w) X.A (isTrue e X.env whole) (TP X pins σ Q) X.xe s
theorem PW.pt {X:Cx} {e:Expr} {t:TT} (h:PW X e t):PT X e t:=h _
def PA (X:Cx) (es:List Expr) (t:TA):Prop :=
 ∀ (pos:Pos) (pins:List (Addr × Obj)) (s:Shared) (σ:St) (H:Hp) (Q:List V->Hp->Prop),Inv X pins σ H s->t σ H Q->wpAny (model X.prog X.w) X.A (spliced (backTo pos (starEach es X.env))) (AP X pins σ Q) X.xe s
def PS (X:Cx) (st:Stmt) (t:TS):Prop :=
 ∀ (pins:List (Addr × Obj)) (s:Shared) (σ:St) (H:Hp) (D:Ends),Inv X pins σ H s->t D σ H->wpAny (model X.prog X.w) X.A (exec st X.env) (SP X pins D) X.xe s
def PSs (X:Cx) (st:List Stmt) (t:TS):Prop :=
 ∀ (pins:List (Addr × Obj)) (s:Shared) (σ:St) (H:Hp) (D:Ends),Inv X pins σ H s->t D σ H->wpAny (model X.prog X.w) X.A (execs st X.env) (SP X pins D) X.xe s
theorem thn {α:Type} {t:Sem α} {Q Q':α->Shared->Prop} {M:Model} {A:Around} {E:Value->Shared->Prop} {s:Shared} (h:wpAny M A t Q E s) (hQ:∀ a s,Q a s->Q' a s):wpAny M A t Q' E s:=wpAny_mono h hQ λ_ _ x=>x
end L2

namespace L2
open PySem PySem.Spec PyProof.Rows
section
variable {X:Cx}

def tVar (i:Nat):TE:=λσ H Q => ∃ v,σ[i]? = some (some v)/\Q v H
def tC (v:V):TE:=λ_ H Q=>Q v H
theorem pe_var {i:Nat} {x:Str} {pos:Pos} (hN:X.N[i]? = some x) (hv:Vis X.env.scope x) (hd:(x == ("__debug__" : Str))=false:=by decide) (hcd:(x == ("__classdict__" : Str))=false:=by decide):PE X (.Name x pos) (tVar i):=by
 intro pins s σ H Q I h;obtain ⟨v,e,h⟩:=h;obtain ⟨m,hn,hl⟩:=I.loc;obtain ⟨u,r,l⟩:=hl i x v hN e hv;have fin:EP X pins σ Q u s:=⟨v,H,I,r,h⟩;rcases l with ⟨hk,hm⟩ | ⟨hk,c,hc,hcell⟩
 ·exact wpAny_Name (wpAny_loadName_local I.ok.kind hk hn hm fin) hd
 ·rcases hk with hk | hk
  ·exact wpAny_Name (wpAny_loadName_cell I.ok.kind hk hc hcell fin) hd
  ·exact wpAny_Name (wpAny_loadName_free I.ok.kind hk hc hcell fin hcd) hd
theorem pe_int {i j pos}:PE X (.Constant (.int i) j pos) (tC (.int i)):=λ_ _ _ H _ I h=>wpAny_Constant_int ⟨.int i,H,I.tok _,⟨_,rfl⟩,h⟩
theorem pe_bl {b j pos}:PE X (.Constant (.bool b) j pos) (tC (.bl b)):=λ_ _ _ H _ I h=>Constant_bool ⟨.bl b,H,I,rfl,h⟩
theorem pe_non {j pos}:PE X (.Constant .none j pos) (tC .non):=λ_ _ _ H _ I h=>Constant_none ⟨.non,H,I,rfl,h⟩
def Gl (X:Cx) (x:Str):Prop:=X.env.kindOf x=some .globalImplicit
theorem ld_glob {E:Value->Shared->Prop} {pins:List (Addr × Obj)} {s:Shared} {σ:St} {H:Hp} {x:Str} {u:Value} {pos:Pos} {Q:Value->Shared->Prop} (I:Inv X pins σ H s) (hg:Gl X x) (hm:X.mg x=some u) (h:Q u s)
  (hd:(x == ("__debug__" : Str))=false:=by decide):wpAny (model X.prog X.w) X.A (eval (.Name x pos) X.env) Q E s :=
 Calls.Name_function_global I.ok.kind hg (Calls.loadGlobal_global (by rw [I.ok.glob];exact I.mod.glob.keeps I.bk) hm h) hd
theorem ld_blt {E:Value->Shared->Prop} {pins:List (Addr × Obj)} {s:Shared} {σ:St} {H:Hp} {x:Str} {u:Value} {pos:Pos} {Q:Value->Shared->Prop} (I:Inv X pins σ H s) (hg:Gl X x) (hm:X.mg x=none) (hv:bootBuiltins x=some u) (h:Q u s)
  (hn:x ≠ "__name__" := by decide) (hd:(x == ("__debug__" : Str))=false:=by decide):wpAny (model X.prog X.w) X.A (eval (.Name x pos) X.env) Q E s:=by
 obtain ⟨mb,h1,h2⟩:=I.mod.blt;exact Calls.Name_function_global I.ok.kind hg (Calls.loadGlobal_builtin (by rw [I.ok.glob];exact I.mod.glob.keeps I.bk) hm (by rw [I.ok.blt];exact h1.keeps I.bk) ((h2 x hn).trans hv) h) hd
theorem pe_glob {x:Str} {v:V} {u:Value} {pos:Pos} (hg:Gl X x) (hm:X.mg x=some u) (r:RelV v u) (hd:(x == ("__debug__" : Str))=false:=by decide):PE X (.Name x pos) (tC v) :=
 λ_ _ _ H _ I h=>ld_glob I hg hm ⟨v,H,I,r,h⟩ hd
theorem pe_bltn {x:Str} {v:V} {u:Value} {pos:Pos} (hg:Gl X x) (hm:X.mg x=none) (hv:bootBuiltins x=some u) (r:RelV v u) (hn:x ≠ "__name__" := by decide) (hd:(x == ("__debug__" : Str))=false:=by decide):PE X (.Name x pos) (tC v) :=
 λ_ _ _ H _ I h=>ld_blt I hg hm hv ⟨v,H,I,r,h⟩ hn hd

variable {a b:Expr} {ta tb:TE} {pos:Pos}
def PC (X:Cx) (op:CmpOp) (a b:Expr) (t:TE):Prop :=
 ∀ (pins:List (Addr × Obj)) (s:Shared) (σ:St) (H:Hp) (Q:VK),Inv X pins σ H s->t σ H Q ->
  wpAny (model X.prog X.w) X.A (eval a X.env) (λv s₁=>wpAny (model X.prog X.w) X.A (eval b X.env) (λu s₂=>wpAny (model X.prog X.w) X.A (compareOp op v u) (EP X pins σ Q) X.xe s₂) X.xe s₁) X.xe s
def tB (t:TE):TT:=λσ H Q=>t σ H λx H1 => ∃ c,x=.bl c/\Q c H1
theorem pt_val {e:Expr} {t:TE} (h:PE X e t) (he:∀ whole,isTrue e X.env whole=(do let v <- whole;standAt e.pos;holding [v] (truthy v)):=by intro _;rfl):PT X e (tB t):=by
 intro pins s σ H Q I hw;refine isTrue_plain (thn (h pins s σ H _ I hw) λv s1 zq=>?_) (he _);obtain ⟨x,H1,I1,r1,q1⟩:=zq;obtain ⟨d,rfl,q⟩:=q1
 cases r1
 exact wpAny_truthy_bool ⟨H1,I1,q⟩

variable {tA tB':TT} {rest:List Expr}
def tAnd (t u:TT):TT:=λσ H Q=>t σ H λc H1=>if c=true then u σ H1 Q else Q false H1
def tOr (t u:TT):TT:=λσ H Q=>t σ H λc H1=>if c=true then Q true H1 else u σ H1 Q
def tNot (t:TT):TT:=λσ H Q=>t σ H λc H1=>Q (!c) H1
theorem pw_and1 (ha:PT X a tA):PW X (.BoolOp .And [a] pos) tA:=by
 intro wh pins s σ H Q I h;refine isTrue_and (thn (ha pins s σ H Q I h) λc s1 e=>?_)
 cases c with
 | true=>exact isTrue_and_nil e
 | false=>exact e
theorem pw_or1 (ha:PT X a tA):PW X (.BoolOp .Or [a] pos) tA:=by
 intro wh pins s σ H Q I h;refine isTrue_or (thn (ha pins s σ H Q I h) λc s1 e=>?_)
 cases c with
 | false=>exact isTrue_or_nil e
 | true=>exact e
theorem pw_and (ha:PT X a tA) (hb:PW X (.BoolOp .And (b :: rest) pos) tB'):PW X (.BoolOp .And (a :: b :: rest) pos) (tAnd tA tB'):=by
 intro wh pins s σ H Q I h;refine isTrue_and (thn (ha pins s σ H _ I h) λc s1 zq=>?_);obtain ⟨H1,I1,q1⟩:=zq
 cases c with
 | true=>exact hb wh pins s1 σ H1 Q I1 q1
 | false=>exact ⟨H1,I1,q1⟩
theorem pw_or (ha:PT X a tA) (hb:PW X (.BoolOp .Or (b :: rest) pos) tB'):PW X (.BoolOp .Or (a :: b :: rest) pos) (tOr tA tB'):=by
 intro wh pins s σ H Q I h;refine isTrue_or (thn (ha pins s σ H _ I h) λc s1 zq=>?_);obtain ⟨H1,I1,q1⟩:=zq
 cases c with
 | true=>exact ⟨H1,I1,q1⟩
 | false=>exact hb wh pins s1 σ H1 Q I1 q1
theorem pt_not (ha:PT X a tA):PT X (.UnaryOp .Not a pos) (tNot tA):=by
 intro pins s σ H Q I h;exact isTrue_not (ha pins s σ H (λc H1=>Q (!c) H1) I h)
def tAndV (ta tb:TE):TE:=λσ H Q=>ta σ H λx H1 => ∃ c,x=.bl c/\if c=true then tb σ H1 Q else Q (.bl false) H1
def tOrV (ta tb:TE):TE:=λσ H Q=>ta σ H λx H1 => ∃ c,x=.bl c/\if c=true then Q (.bl true) H1 else tb σ H1 Q
def tNotV (ta:TE):TE:=λσ H Q=>ta σ H λx H1 => ∃ c,x=.bl c/\Q (.bl (!c)) H1
theorem pe_one {op} {t:TE} (h:PE X a t):PE X (.BoolOp op [a] pos) t:=λpins s σ H Q I hw=>BoolOp_one (h pins s σ H Q I hw)
theorem pe_and (ha:PE X a ta) (hb:PE X (.BoolOp .And (b :: rest) pos) tb):PE X (.BoolOp .And (a :: b :: rest) pos) (tAndV ta tb):=by
 intro pins s σ H Q I h;refine BoolOp_and (thn (ha pins s σ H _ I h) λv s1 zq=>?_);obtain ⟨x,H1,I1,r1,q1⟩:=zq;obtain ⟨c,rfl,q1⟩:=q1
 cases r1
 refine wpAny_truthy_bool ?_
 cases c with
 | true=>exact hb pins s1 σ H1 Q I1 q1
 | false=>exact ⟨.bl false,H1,I1,rfl,q1⟩
theorem pe_or (ha:PE X a ta) (hb:PE X (.BoolOp .Or (b :: rest) pos) tb):PE X (.BoolOp .Or (a :: b :: rest) pos) (tOrV ta tb):=by
 intro pins s σ H Q I h;refine BoolOp_or (thn (ha pins s σ H _ I h) λv s1 zq=>?_);obtain ⟨x,H1,I1,r1,q1⟩:=zq;obtain ⟨c,rfl,q1⟩:=q1
 cases r1
 refine wpAny_truthy_bool ?_
 cases c with
 | false=>exact hb pins s1 σ H1 Q I1 q1
 | true=>exact ⟨.bl true,H1,I1,rfl,q1⟩
theorem pe_not (ha:PE X a ta):PE X (.UnaryOp .Not a pos) (tNotV ta):=by
 intro pins s σ H Q I h;refine UnaryOp_ (thn (ha pins s σ H _ I h) λv s1 zq=>?_);obtain ⟨x,H1,I1,r1,q1⟩:=zq;obtain ⟨c,rfl,q1⟩:=q1
 cases r1
 exact not_of (wpAny_truthy_bool ⟨.bl (!c),H1,I1,rfl,q1⟩)
def tIf (t:TT) (ta tb:TE):TE:=λσ H Q=>t σ H λc H1=>if c=true then ta σ H1 Q else tb σ H1 Q
theorem pe_ifExp {c:Expr} (hc:PT X c tA) (ha:PE X a ta) (hb:PE X b tb):PE X (.IfExp c a b pos) (tIf tA ta tb):=by
 intro pins s σ H Q I h;refine wpAny_IfExp (thn (hc pins s σ H _ I h) λd s1 zq=>?_);obtain ⟨H1,I1,q1⟩:=zq
 cases d with
 | true=>exact ha pins s1 σ H1 Q I1 q1
 | false=>exact hb pins s1 σ H1 Q I1 q1
end
end L2

namespace L2
open PySem PySem.Spec PyProof.Rows

def SqL (K:q0a) (H:Hp) (a:Addr) (xs:List V):Prop :=
 Rd H a (.lst xs) \/
  ∃ (o:Obj) (its:Array Value) (n:Nat),K.lookup a=some o/\o.cls=.type "list"/\o.dict=none/\o.data=.seq its n/\its.size<=sizeLine/\Vals xs its.toList
def SqT (K:q0a) (H:Hp) (a:Addr) (xs:List V):Prop :=
 Rd H a (.tup xs) \/
  ∃ (o:Obj) (its:Array Value) (n:Nat),K.lookup a=some o/\o.cls=.type "tuple"/\o.data=.seq its n/\its.size<=sizeLine/\Vals xs its.toList
def absV:Value->Option V
 | .none=>some .non
 | .bool b=>some (.bl b)
 | .int i _=>some (.int i)
 | .str x _=>some (.str x)
 | .bytes b _=>some (.byt b)
 | .float b _=>some (.flt b)
 | .ref a=>some (.ref a)
 | .type n=>some (.ty n)
 | _=>none
theorem RelV.abs {x:V} {u:Value} (r:RelV x u):absV u=some x:=by
 cases x with
 | non=>cases r;rfl
 | bl _=>cases r;rfl
 | int _=>obtain ⟨t,rfl⟩:=r;rfl
 | str _=>obtain ⟨t,rfl⟩:=r;rfl
 | byt _=>obtain ⟨t,rfl⟩:=r;rfl
 | flt _=>obtain ⟨t,rfl⟩:=r;rfl
 | ref _=>cases r;rfl
 | ty _=>cases r;rfl
theorem RelV.inj {x y:V} {u:Value} (r:RelV x u) (q:RelV y u):x=y:=Option.some.inj (r.abs.symm.trans q.abs)
theorem Vals.inj:∀ {xs ys:List V} {us:List Value},Vals xs us->Vals ys us->xs=ys
 | _,_,_,.nil,.nil=>rfl
 | _,_,_,.cons r t,.cons r' t'=>by rw [r.inj r',Vals.inj t t']
section
variable {X:Cx} {pins:List (Addr × Obj)} {σ:St} {H:Hp} {s:Shared} {a:Addr} {xs ys:List V}
theorem SqL.of {K:q0a} (h:H a=some (.lst xs)):SqL K H a xs:=.inl (.inl h)
theorem SqT.of {K:q0a} (h:H a=some (.tup xs)):SqT K H a xs:=.inl (.inl h)
theorem Inv.list (I:Inv X pins σ H s) (h:SqL X.K H a xs):∃ its:List Value,Vals xs its/\PlainL s.heap a its.toArray/\xs.length<=sizeLine:=by
 rcases h with h | ⟨o,its,n,hk,hc,hd,hs,hz,r⟩
 ·obtain ⟨z,its,n,r,e⟩:=h.ok I.hok
  exact ⟨its,r,⟨_,n,e,rfl,rfl,rfl⟩,z⟩
 ·refine ⟨its.toList,r,⟨o,n,I.kIn a o hk,hc,hd,by simpa using hs⟩,?_⟩
  have e:=r.length;simp only [m0u] at e;omega
theorem Inv.tuple (I:Inv X pins σ H s) (h:SqT X.K H a xs):∃ its:List Value,Vals xs its/\IsTup s.heap a its.toArray/\xs.length<=sizeLine:=by
 rcases h with h | ⟨o,its,n,hk,hc,hs,hz,r⟩
 ·obtain ⟨z,its,r,p⟩:=h.ok I.hok
  exact ⟨its,r,p,z⟩
 ·refine ⟨its.toList,r,⟨o,I.kIn a o hk,hc,n,by simpa using hs⟩,?_⟩
  have e:=r.length;simp only [m0u] at e;omega
theorem Inv.list_inj (I:Inv X pins σ H s) (h:SqL X.K H a xs) (h':SqL X.K H a ys):xs=ys:=by
 obtain ⟨its,r,⟨o,n,e,_,_,d⟩,_⟩:=I.list h;obtain ⟨its',r',⟨o',n',e',_,_,d'⟩,_⟩:=I.list h';rw [e] at e';cases e';rw [d] at d'
 injection d' with d1 _
 have:its=its':=by simpa using congrArg Array.toList d1
 subst this;exact r.inj r'
theorem Inv.tuple_inj (I:Inv X pins σ H s) (h:SqT X.K H a xs) (h':SqT X.K H a ys):xs=ys:=by
 obtain ⟨its,r,⟨o,e,_,n,d⟩,_⟩:=I.tuple h;obtain ⟨its',r',⟨o',e',_,n',d'⟩,_⟩:=I.tuple h';rw [e] at e';cases e';rw [d] at d'
 injection d' with d1 _
 have:its=its':=by simpa using congrArg Array.toList d1
 subst this;exact r.inj r'
end

abbrev Cx.wish (X:Cx) (E:Value->Shared->Prop):Cx:={ X with xe:=E }
abbrev Cx.nox (X:Cx):Cx:=X.wish λ_ _=>False
theorem Cx.Ok.wish {X:Cx} (ok:X.Ok) (E:Value->Shared->Prop):(X.wish E).Ok :=
 ⟨ok.mod,ok.kind,ok.glob,ok.blt,ok.above,ok.inj,ok.has,ok.cab,ok.hd,ok.frames,ok.stk,ok.exf,ok.bs,ok.bsz,ok.noex,ok.exfs,ok.funs,ok.frf⟩
theorem Cx.Ok.unwish {X:Cx} {E:Value->Shared->Prop} (ok:(X.wish E).Ok):X.Ok :=
 ⟨ok.mod,ok.kind,ok.glob,ok.blt,ok.above,ok.inj,ok.has,ok.cab,ok.hd,ok.frames,ok.stk,ok.exf,ok.bs,ok.bsz,ok.noex,ok.exfs,ok.funs,ok.frf⟩
section
variable {X:Cx} {pins:List (Addr × Obj)} {σ:St} {H:Hp} {s:Shared} {E:Value->Shared->Prop}
theorem Inv.wish (I:Inv X pins σ H s) (E:Value->Shared->Prop):Inv (X.wish E) pins σ H s:=⟨I.ok.wish E,I.os,I.bare,I.base,I.loc,I.cell,I.free,I.freeC,I.pin,I.hok,I.len⟩
theorem Inv.unwish (I:Inv (X.wish E) pins σ H s):Inv X pins σ H s:=⟨I.ok.unwish,I.os,I.bare,I.base,I.loc,I.cell,I.free,I.freeC,I.pin,I.hok,I.len⟩
theorem SP.unwish {D:Ends} {f:Flow} {s':Shared} (h:SP (X.wish E) pins D f s'):SP X pins D f s':=by
 cases f with
 | next=>obtain ⟨σ',H',I,q⟩:=h;exact ⟨σ',H',I.unwish,q⟩
 | brk=>obtain ⟨σ',H',I,q⟩:=h;exact ⟨σ',H',I.unwish,q⟩
 | cont=>obtain ⟨σ',H',I,q⟩:=h;exact ⟨σ',H',I.unwish,q⟩
 | ret u=>obtain ⟨v,σ',H',I,r,q⟩:=h;exact ⟨v,σ',H',I.unwish,r,q⟩
theorem PSs.nox {st:List Stmt} {t:TS} (h:PSs X.nox st t):PSs X st t:=λpins s σ H D I hw =>
 wpAny_mono (h pins s σ H D (I.wish _) hw) (λ_ _ q=>q.unwish) λ_ _ z=>False.elim z
end

section
variable {X:Cx} {st:Stmt} {rest:List Stmt} {t u:TS} {e:Expr} {te:TE} {pos:Pos}
def tNext:TS:=λD σ H=>D.nx σ H
def tSeq (t u:TS):TS:=λD σ H=>t { D with nx:=u D } σ H
theorem pss_nil:PSs X [] tNext:=λ_ _ σ H _ I h=>wpAny_execs_nil ⟨σ,H,I,h⟩
theorem pss_cons (h1:PS X st t) (h2:PSs X rest u):PSs X (st :: rest) (tSeq t u):=by
 intro pins s σ H D I h;refine wpAny_execs_cons (thn (h1 pins s σ H { D with nx:=u D } I h) λf s1 q=>?_)
 cases f with
 | next =>
  obtain ⟨σ',H',I',q⟩:=q;exact h2 pins s1 σ' H' D I' q
 | ret v=>exact q
 | brk=>exact q
 | cont=>exact q
theorem pss_one (h1:PS X st t):PSs X [st] t:=by
 intro pins s σ H D I h;refine wpAny_execs_cons (thn (h1 pins s σ H D I h) λf s1 q=>?_)
 cases f with
 | next=>exact wpAny_execs_nil q
 | ret v=>exact q
 | brk=>exact q
 | cont=>exact q
theorem Inv.quiet {pins:List (Addr × Obj)} {σ:St} {H:Hp} {s:Shared} (I:Inv X pins σ H s):interactive X.env=false:=by simp [interactive,I.ok.kind]
def tDrop (te:TE):TS:=λD σ H=>te σ H λ_ H1=>D.nx σ H1
theorem ps_expr (he:PE X e te) (hs:swapsWith e none pos.line X.env=pure false:=by rfl):PS X (.Expr e pos) (tDrop te):=by
 intro pins s σ H D I h;exact wpAny_Expr_any (thn (he pins s σ H _ I h) λv s1 ⟨x,H1,I1,r1,q1⟩=>⟨σ,H1,I1,q1⟩) I.quiet hs
def tRet (te:TE):TS:=λD σ H=>te σ H D.rt
theorem ps_ret (he:PE X e te):PS X (.Return (some e) pos) (tRet te):=by
 intro pins s σ H D I h;exact wpAny_Return_some (thn (he pins s σ H _ I h) λv s1 ⟨x,H1,I1,r1,q1⟩=>⟨x,σ,H1,I1,r1,q1⟩)
def tIfS (c:TT) (t u:TS):TS:=λD σ H=>c σ H λb H1=>if b=true then t D σ H1 else u D σ H1
theorem ps_if {c:Expr} {a b:List Stmt} {tc:TT} (hc:PT X c tc) (ha:PSs X a t) (hb:PSs X b u):PS X (.If c a b pos) (tIfS tc t u):=by
 intro pins s σ H D I h;refine wpAny_If (thn (hc pins s σ H _ I h) λd s1 zq=>?_);obtain ⟨H1,I1,q1⟩:=zq
 cases d with
 | true=>exact ha pins s1 σ H1 D I1 q1
 | false=>exact hb pins s1 σ H1 D I1 q1
def tNever:TS:=λ_ _ _=>False
theorem ps_never:PS X st tNever:=λ_ _ _ _ _ _ h=>h.elim
end

abbrev TG:=V->St->Hp->(St->Hp->Prop)->Prop
abbrev TGs:=List V->St->Hp->(St->Hp->Prop)->Prop
def PG (X:Cx) (target:Expr) (t:TG):Prop :=
 ∀ (pins:List (Addr × Obj)) (s:Shared) (σ:St) (H:Hp) (v:V) (u:Value) (Q:St->Hp->Prop),Inv X pins σ H s->RelV v u->t v σ H Q ->
  wpAny (model X.prog X.w) X.A (assign target X.env u) (λ_ s' => ∃ σ' H',Inv X pins σ' H' s'/\Q σ' H') X.xe s
def PGs (X:Cx) (ts:List Expr) (t:TGs):Prop :=
 ∀ (pins:List (Addr × Obj)) (s:Shared) (σ:St) (H:Hp) (vs:List V) (us:List Value) (Q:St->Hp->Prop),Inv X pins σ H s->Vals vs us->t vs σ H Q ->
  wpAny (model X.prog X.w) X.A (assignInOrder ((assignEach ts X.env).map (·.2)) us) (λ_ s' => ∃ σ' H',Inv X pins σ' H' s'/\Q σ' H') X.xe s
abbrev TSet:=V->V->V->Hp->(Hp->Prop)->Prop
def PSet (X:Cx) (t:TSet):Prop :=
 ∀ (pins:List (Addr × Obj)) (s:Shared) (σ:St) (H:Hp) (o i v:V) (ov iv u:Value) (Q:Hp->Prop),Inv X pins σ H s->RelV o ov->RelV i iv->RelV v u->t o i v H Q ->
  wpAny (model X.prog X.w) X.A (setItem ov iv u) (λ_ s' => ∃ H',Inv X pins σ H' s'/\Q H') X.xe s
section
variable {X:Cx} {pos:Pos}
def gName (i:Nat):TG:=λv σ H Q=>Q (σ.set i (some v)) H
theorem pg_name {i:Nat} {x:Str} (hN:X.N.Nodup) (hi:X.N[i]? = some x) (hx:Loc X.env.scope x) (hf:X.fn x=true \/ X.env.scope.names.lookup x=some .local:=by first | exact .inl rfl | exact .inr rfl | assumption):PG X (.Name x pos) (gName i):=by
 intro pins s σ H v u Q I r h;exact wpAny_assign_Name (store_ok I hN hi hx r (λs' I'=>⟨_,H,I',h⟩) hf)
def gNil:TGs:=λvs σ H Q=>vs=[]/\Q σ H
def gCons (t:TG) (u:TGs):TGs:=λvs σ H Q => ∃ v r,vs=v :: r/\t v σ H λσ' H'=>u r σ' H' Q
theorem pgs_nil:PGs X [] gNil:=by
 intro pins s σ H vs us Q I r h;obtain ⟨e,h⟩:=h;subst e
 cases r
 exact assignInOrder_nil ⟨σ,H,I,h⟩
theorem pgs_cons {e:Expr} {es:List Expr} {t:TG} {u:TGs} (h1:PG X e t) (h2:PGs X es u)
  (hs:(assignEach (e :: es) X.env).map (·.2)=assign e X.env :: (assignEach es X.env).map (·.2):=by rfl):PGs X (e :: es) (gCons t u):=by
 intro pins s σ H vs us Q I r h;obtain ⟨v,vr,e1,h⟩:=h;subst e1
 cases r with
 | cons r rr =>
  rw [hs];refine assignInOrder_cons (thn (h1 pins s σ H _ _ _ I r h) λ_ s1 zq=>?_);obtain ⟨σ1,H1,I1,q1⟩:=zq;exact h2 pins s1 σ1 H1 _ _ Q I1 rr q1
def gTup (K:q0a) (n:Nat) (t:TGs):TG:=λv σ H Q => ∃ a xs,v=.ref a/\SqT K H a xs/\xs.length=n/\t xs σ H Q
theorem pg_tup {es:List Expr} {k:Nat} {t:TGs} {n:Nat} (hc:X.calm=true) (h:PGs X es t)
  (hn:(assignEach es X.env).length=n:=by rfl) (hst:(assignEach es X.env).findIdx? (·.1)=none:=by rfl):PG X (.Tuple es k pos) (gTup X.K n t):=by
 intro pins s σ H v u Q I r hw;obtain ⟨a,xs,e1,hq,hl,hw⟩:=hw;subst e1
 cases r
 obtain ⟨its,rv,ht,hz⟩:=I.tuple hq;refine assign_Tuple_tuple (I.ok.hd hc) ht (by simp [hn,<- hl,rv.length]) hst λh' hx=>?_
 have I1:Inv X pins σ H { s with heap:=h' }:=I.kept (t':=s.toks) λb o e=>hx b o (q0u (q0h e)) e;exact h pins _ σ H xs _ Q I1 (by simpa using rv) hw
def gSub (to ti:TE) (t:TSet):TG:=λv σ H Q=>to σ H λo H1=>ti σ H1 λi H2=>t o i v H2 λH3=>Q σ H3
theorem pg_sub {o i:Expr} {to ti:TE} {t:TSet} (ho:PE X o to) (hi:PE X i ti) (hs:PSet X t)
  (ha:∀ v,assign (.Subscript o i pos) X.env v=(do
   let ov <- holding [v] (eval o X.env)
   let iv <- holding [v,ov] (eval i X.env)
   standAt pos
   holding [v,ov,iv] (setItem ov iv v)
   release [v,ov,iv] []):=by intro _;rfl):PG X (.Subscript o i pos) (gSub to ti t):=by
 intro pins s σ H v u Q I r h;rw [ha];refine wpAny_bind (wpAny_holding (thn (ho pins s σ H _ I h) λov s1 zq=>?_));obtain ⟨x,H1,I1,r1,q1⟩:=zq;refine wpAny_bind (wpAny_holding (thn (hi pins s1 σ H1 _ I1 q1) λiv s2 zq=>?_));obtain ⟨y,H2,I2,r2,q2⟩:=zq;refine wpAny_bind (wpAny_standAt (wpAny_bind (wpAny_holding (thn (hs pins s2 σ H2 x y v ov iv u _ I2 r1 r2 r q2) λ_ s3 zq=>?_))));obtain ⟨H3,I3,q3⟩:=zq;exact wpAny_release ⟨σ,H3,I3,q3⟩
def tAsg (te:TE) (g:TG):TS:=λD σ H=>te σ H λx H1=>g x σ H1 D.nx
theorem ps_asg {tg e : Expr} {te : TE} {g : TG} (he : PE X e te) (hg : PG X tg g) (hs : swapsWithSole [tg] e pos.line X.env = pure false := by rfl) (hw : swappedStores [tg] e X.env = pure none := by rfl)
    (h1:(assignEach [tg] X.env).map (·.2)=[assign tg X.env]:=by rfl):PS X (.Assign [tg] e pos) (tAsg te g):=by
  intro pins s σ H D I h;refine wpAny_Assign_stores (thn (he pins s σ H _ I h) λv s1 zq=>?_) hs hw;obtain ⟨x,H1,I1,r1,q1⟩:=zq;rw [h1];exact thn (hg pins s1 σ H1 x v _ I1 r1 q1) λ_ s2 q=>q
theorem ps_set {i:Nat} {x:Str} {e:Expr} {te:TE} {pos':Pos} (hN:X.N.Nodup) (hi:X.N[i]? = some x) (hx:Loc X.env.scope x) (he:PE X e te) (hs:swapsWith e (some (.Name x pos')) pos.line X.env=pure false:=by rfl) (hf:X.fn x=true \/ X.env.scope.names.lookup x=some .local:=by first | exact .inl rfl | exact .inr rfl | assumption) :
  PS X (.Assign [.Name x pos'] e pos) (tAsg te (gName i)):=by
 intro pins s σ H D I h;refine wpAny_Assign_Name (thn (he pins s σ H _ I h) λv s1 zq=>?_) hs;obtain ⟨y,H1,I1,r1,q1⟩:=zq;exact store_ok I1 hN hi hx r1 (λs2 I2=>⟨_,H1,I2,q1⟩) hf
def tPar (i j:Nat) (ta:TA):TS:=λD σ H=>ta σ H λvs H1 => ∃ v w,vs=[v,w]/\D.nx ((σ.set i (some v)).set j (some w)) H1
theorem ps_par {i j:Nat} {x y:Str} {a b:Expr} {ta:TA} {px py pt:Pos} {kt k2 pt2} (hc:X.calm=true) (hN:X.N.Nodup) (hi:X.N[i]? = some x) (hj:X.N[j]? = some y) (hij:i ≠ j)
  (hx:X.env.scope.names.lookup x=some .local) (hy:X.env.scope.names.lookup y=some .local) (ha:PA X [a,b] ta)
  (hw:swappedStores [.Tuple [.Name x px,.Name y py] kt pt] (.Tuple [a,b] k2 pt2) X.env=pure (some [x,y]))
  (hs:swapsWithSole [.Tuple [.Name x px,.Name y py] kt pt] (.Tuple [a,b] k2 pt2) pos.line X.env=pure false:=by rfl) :
  PS X (.Assign [.Tuple [.Name x px,.Name y py] kt pt] (.Tuple [a,b] k2 pt2) pos) (tPar i j ta):=by
 intro pins s σ H D I h;rw [exec_Assign_arm];refine wpAny_bind (wpAny_standAt ?_);rw [hs];refine wpAny_bind (wpAny_pure ?_);rw [if_neg (by decide)]
 refine wpAny_bind (Tuple_ (thn (ha _ pins s σ H _ I h) λus s1 zq=>?_));obtain ⟨vs,H1,I1,r1,q1⟩:=zq;obtain ⟨v,w,e1,q1⟩:=q1;subst e1
 obtain ⟨u1,u2,rfl,rv,rw'⟩:∃ u1 u2,us=[u1,u2]/\RelV v u1/\RelV w u2:=by
  cases r1 with
  | cons p q =>
   cases q with
   | cons p' q' =>
    cases q'
    exact ⟨_,_,rfl,p,p'⟩
 refine wpAny_newObj_type ?_ (by show 2<=sizeLine;decide)
 have I2:Inv X pins σ H1 { s1 with heap:=s1.heap.push { cls:=.type "tuple",data:=.seq [u1,u2].toArray } }:=I1.kept (t':=s1.toks) λb o e=>q0j _ e
 rw [hw];refine wpAny_bind (wpAny_pure ?_)
 show wpAny (model X.prog X.w) X.A (do rule "assign.swapped-stores";let items <- unpackItems (.ref s1.heap.objs.size) 2 none;assignInOrder [λv=>bindName X.env y v,λv=>bindName X.env x v] items.reverse;pure Flow.next) _ _ _
 refine wpAny_bind (wpAny_rule (wpAny_bind (unpackItems_tuple (items:=#[u1,u2]) (I.ok.hd hc) (IsTup.new s1.heap _) λh' hx'=>?_)));have I3:=I2.kept (h':=h') (t':=s1.toks) λb o e=>hx' b o (q0u (q0h e)) e
 show wpAny _ _ (assignInOrder [λv=>bindName X.env y v,λv=>bindName X.env x v] [u2,u1] >>= λ_=>pure Flow.next) _ _ _;refine wpAny_bind (assignInOrder_cons (wpAny_bindName (store_ok I3 hN hj (.inl hy) rw' (λs2 I4=>?_) (.inr hy))));refine assignInOrder_cons (wpAny_bindName (store_ok I4 hN hi (.inl hx) rv (λs3 I5=>assignInOrder_nil (wpAny_pure ?_)) (.inr hx)));rw [List.set_comm _ _ (Ne.symm hij)] at I5;exact ⟨_,H1,I5,q1⟩

def tWhile (c:TT) (tb:TS):TS:=λD σ H => ∃ W:Nat->St->Hp->Prop,(∃ m,W m σ H)/\∀ m σ H,W m σ H ->
 c σ H λb H1=>if b=true then ∃ N:St->Hp->Prop,(∀ σ' H',N σ' H'->∃ m',m'<m/\W m' σ' H')/\tb { D with nx:=N,ct:=N,bk:=D.nx } σ H1 else D.nx σ H1
theorem ps_while {c:Expr} {body:List Stmt} {tc:TT} {tb:TS} (hp:PassesOwn (model X.prog X.w) X.A X.env X.xe) (hc:PT X c tc) (hb:PSs X body tb):PS X (.While c body [] pos) (tWhile tc tb):=by
 intro pins s σ H D I h;obtain ⟨W,⟨m0,w0⟩,turn⟩:=h;refine wpAny_While (codeAny_whileLoop (λn s' => ∃ σ' H',Inv X pins σ' H' s'/\W n σ' H') ?_ m0 ⟨σ,H,I,w0⟩);rintro n s1 ⟨σ1,H1,I1,w1⟩;refine wpAny_passesOwn hp (thn (hc pins s1 σ1 H1 _ I1 (turn n σ1 H1 w1)) λb s2 zq=>?_);obtain ⟨H2,I2,q2⟩:=zq
 cases b with
 | true =>
  obtain ⟨N,hN,q2⟩:=q2;rw [if_pos rfl];refine wpAny_passesOwn hp (thn (hb pins s2 σ1 H2 _ I2 q2) λf s3 q3=>?_)
  cases f with
  | next =>
   obtain ⟨σ3,H3,I3,n3⟩:=q3;obtain ⟨m',hm,w3⟩:=hN σ3 H3 n3;exact ⟨m',hm,σ3,H3,I3,w3⟩
  | cont =>
   obtain ⟨σ3,H3,I3,n3⟩:=q3;obtain ⟨m',hm,w3⟩:=hN σ3 H3 n3;exact ⟨m',hm,σ3,H3,I3,w3⟩
  | brk=>exact q3
  | ret v=>exact q3
 | false =>
  rw [if_neg q0p];exact wpAny_execs_nil ⟨σ1,H2,I2,q2⟩
end

structure It where
 go:Nat->Hp->Prop
 yld:Nat->Hp->V->Hp->Prop
 stop:Nat->Hp->Prop
def FpOk (X:Cx) (pins:List (Addr × Obj)) (H:Hp) (b:Addr):Prop :=
 H b=none/\b ≠ X.env.locals/\b ∉ X.fs/\(b ∈ X.ex \/ X.s₀.heap.objs.size<=b)/\(∀ x c,X.env.cells.lookup x=some c->c ≠ b)/\∀ p ∈ X.pn ++ pins,p.1 ≠ b
theorem Inv.fpOk {X:Cx} {pins:List (Addr × Obj)} {σ:St} {H H':Hp} {s:Shared} {b:Addr} (I:Inv X pins σ H s) (hb:s.heap.objs.size<=b) (hn:H' b=none):FpOk X pins H' b:=by
 refine ⟨hn,v0s (q0f I.lt hb),I.nofs hb,.inr (q0y I.sz hb),λx c e z=>?_,λp hp z=>?_⟩
 ·obtain ⟨v,q⟩:=I.cell x c e
  exact absurd (q0f q.lt (by rw [z];exact hb)) (y0k _)
 ·exact absurd (q0f (q0h (I.pin p hp).1) (by rw [z];exact hb)) (y0k _)
structure Turn (P:Program) (w:World) (K:q0a) (tg:Expr) (J:It) (fp:List Addr) (it:Addr) (tn:Nat->Heap->Prop):Prop where
 mem:it ∈ fp
 obj:∀ i h,tn i h->∀ b ∈ fp,∃ o,h.get? b=some o/\∀ v,o.data ≠ .cell v
 keep:∀ i h h',tn i h->(∀ b ∈ fp,∀ o,h.get? b=some o->h'.get? b=some o)->tn i h'
 item:∀ (X:Cx),X.prog=P->X.w=w->X.K=K->X.calm=true->∀ (i:Nat) (pins:List (Addr × Obj)) (s:Shared) (σ:St) (H:Hp) (E:Value->Shared->Prop),Inv X pins σ H s->(∀ b ∈ fp,FpOk X pins H b)->tn i s.heap->J.go i H ->
  wpAny (model P w) X.A (pyNext (.ref it)) (λr s1 => ∃ u,r=some u /\
   wpAny (model P w) X.A (letOwnedTupleGo tg (.ref it) u) (λ_ s2 => ∃ x H',Inv X pins σ H' s2/\RelV x u/\J.yld i H x H'/\tn (i+1) s2.heap/\∀ b ∈ fp,H' b=none) E s1) E s
 done:∀ (X:Cx),X.prog=P->X.w=w->X.K=K->X.calm=true->∀ (i:Nat) (pins:List (Addr × Obj)) (s:Shared) (σ:St) (H:Hp) (E:Value->Shared->Prop),Inv X pins σ H s->(∀ b ∈ fp,FpOk X pins H b)->tn i s.heap->J.stop i H ->
  wpAny (model P w) X.A (pyNext (.ref it)) (λr s1=>r=none/\Inv X pins σ H s1) E s
 self:∀ (A:Around) (i:Nat) (s:Shared) (Q:Value->Shared->Prop) (E:Value->Shared->Prop),tn i s.heap->Q (.ref it) s->wpAny (model P w) A (pyIter (.ref it)) Q E s
abbrev TI:=St->Hp->(It->Hp->Prop)->Prop
def PIE (X:Cx) (pins:List (Addr × Obj)) (σ:St) (tg:Expr) (R:It->Hp->Prop) (itv:Value) (s2:Shared):Prop :=
 ∃ (it:Addr) (fp:List Addr) (tn:Nat->Heap->Prop) (J:It) (H':Hp),itv=.ref it/\Inv X pins σ H' s2/\Turn X.prog X.w X.K tg J fp it tn/\tn 0 s2.heap/\(∀ b ∈ fp,FpOk X pins H' b)/\R J H'
def PI (X:Cx) (tg iter:Expr) (wi:TI):Prop :=
 ∀ (pins:List (Addr × Obj)) (s:Shared) (σ:St) (H:Hp) (R:It->Hp->Prop),Inv X pins σ H s->wi σ H R ->
  wpAny (model X.prog X.w) X.A (eval iter X.env) (λv s1=>wpAny (model X.prog X.w) X.A (pyIter v) (PIE X pins σ tg R) X.xe s1) X.xe s

theorem go_of {M : Model} {A : Around} {E : Value → Shared → Prop} {s : Shared} {tg : Expr} {it : Addr} {u : Value} {o : Obj} {n : String} {vs : Array Value} {Q : Unit → Shared → Prop} (ho : s.heap.get? it = some o) (hc : o.cls = .type n) (hd : o.data = .fields vs)
    (hn:["enumerate","zip","dict_itemiterator","dict_reverseitemiterator","odict_iterator","itertools.zip_longest","itertools.pairwise"].contains n=false) (hQ:Q () s):wpAny M A (letOwnedTupleGo tg (.ref it) u) Q E s:=by
  unfold letOwnedTupleGo
  cases tg <;> first
    | exact wpAny_pure hQ
    | (cases u <;> first
        | exact wpAny_pure hQ
        | (refine wpAny_bind (wpAny_load ho ?_)
           rw [hc,hd]
           show wpAny M A (if (["enumerate","zip","dict_itemiterator","dict_reverseitemiterator","odict_iterator","itertools.zip_longest","itertools.pairwise"].contains n && vs[0]? == some (rawInt _))=true then _ else _) Q E s
           rw [if_neg (by intro h;rw [hn,Bool.false_and] at h;cases h)]
           exact wpAny_pure hQ))

def Itl (K:q0a) (a:Addr):It :=
 ⟨λi H => ∃ xs x,SqL K H a xs/\xs[i]? = some x,λi H x H'=>H'=H/\∀ xs,SqL K H a xs->xs[i]? = some x,λi H => ∃ xs,SqL K H a xs/\xs.length<=i⟩
def Itt (K:q0a) (a:Addr):It :=
 ⟨λi H => ∃ xs x,SqT K H a xs/\xs[i]? = some x,λi H x H'=>H'=H/\∀ xs,SqT K H a xs->xs[i]? = some x,λi H => ∃ xs,SqT K H a xs/\xs.length<=i⟩
def Itr (lo:Int) (n:Nat):It:=⟨λi _=>i<n,λi H x H'=>H'=H/\x=.int (lo+i),λi _=>n<=i⟩
theorem turn_list {P:Program} {w:World} {K:q0a} {tg:Expr} (a it:Addr):Turn P w K tg (Itl K a) [it] it (λi h=>h.IsListIter it a i) where
 mem:=by simp
 obj:=λi h st b hb=>by
  have e:b=it:=by simpa using hb
  subst e;obtain ⟨o,e,c,d⟩:=st;exact ⟨o,e,λv z=>by rw [d] at z;cases z⟩
 keep:=λi h h' st k=>st.at λo e=>k it (by simp) o e
 item:=by
  intro X hP hw hK hc i pins s σ H E I hf st hg;subst hP hw hK;obtain ⟨xs,x,hq,hx⟩:=hg;obtain ⟨its,rv,p,hz⟩:=I.list hq;obtain ⟨u,hu,ru⟩:=rv.get hx;obtain ⟨f0,f1,f2,f3,f4,f5⟩:=hf it (by simp)
  refine wpAny_pyNext_list_item st p.isList (x:=u) (by simpa using hu) λh' st' sb=>?_
  have I1:Inv X pins σ H { s with heap:=h' }:=I.turned (t':=s.toks) (λb o hb e=>(sb.2 b hb).trans e) f0 f1 f3 f4 f5;obtain ⟨o,e,c,d⟩:=id st';exact ⟨u,rfl,go_of (s:={ s with heap:=h' }) e c d (by decide) ⟨x,H,I1,ru,⟨rfl,λys hy=>by rw [I.list_inj hy hq];exact hx⟩,st',λb hb=>(hf b hb).1⟩⟩
 done:=by
  intro X hP hw hK hc i pins s σ H E I hf st hg;subst hP hw hK;obtain ⟨xs,hq,hx⟩:=hg;obtain ⟨its,rv,p,hz⟩:=I.list hq;obtain ⟨f0,f1,f2,f3,f4,f5⟩:=hf it (by simp)
  have hl:=rv.length;exact wpAny_pyNext_list_end (I.ok.hd hc) st p.isList (by simp;omega) λh' eb=>⟨rfl,I.turned (t':=s.toks) (λb o hb e=>eb b o hb e) f0 f1 f3 f4 f5⟩
 self:=λ_ _ _ _ _ st h=>wpAny_pyIter_listiter st h
theorem turn_tuple {P:Program} {w:World} {K:q0a} {tg:Expr} (a it:Addr):Turn P w K tg (Itt K a) [it] it (λi h=>h.IsTupleIter it a i) where
 mem:=by simp
 obj:=λi h st b hb=>by
  have e:b=it:=by simpa using hb
  subst e;obtain ⟨o,e,c,d⟩:=st;exact ⟨o,e,λv z=>by rw [d] at z;cases z⟩
 keep:=λi h h' st k=>st.at λo e=>k it (by simp) o e
 item:=by
  intro X hP hw hK hc i pins s σ H E I hf st hg;subst hP hw hK;obtain ⟨xs,x,hq,hx⟩:=hg;obtain ⟨its,rv,p,hz⟩:=I.tuple hq;obtain ⟨u,hu,ru⟩:=rv.get hx;obtain ⟨f0,f1,f2,f3,f4,f5⟩:=hf it (by simp)
  refine wpAny_pyNext_tuple_item st (show s.heap.IsTuple a its.toArray from p) (x:=u) (by simpa using hu) λh' st' sb=>?_
  have I1:Inv X pins σ H { s with heap:=h' }:=I.turned (t':=s.toks) (λb o hb e=>(sb.2 b hb).trans e) f0 f1 f3 f4 f5;obtain ⟨o,e,c,d⟩:=id st';exact ⟨u,rfl,go_of (s:={ s with heap:=h' }) e c d (by decide) ⟨x,H,I1,ru,⟨rfl,λys hy=>by rw [I.tuple_inj hy hq];exact hx⟩,st',λb hb=>(hf b hb).1⟩⟩
 done:=by
  intro X hP hw hK hc i pins s σ H E I hf st hg;subst hP hw hK;obtain ⟨xs,hq,hx⟩:=hg;obtain ⟨its,rv,p,hz⟩:=I.tuple hq;obtain ⟨f0,f1,f2,f3,f4,f5⟩:=hf it (by simp)
  have hl:=rv.length;exact wpAny_pyNext_tuple_end (I.ok.hd hc) st (show s.heap.IsTuple a its.toArray from p) (by simp;omega) λh' eb=>⟨rfl,I.turned (t':=s.toks) (λb o hb e=>eb b o hb e) f0 f1 f3 f4 f5⟩
 self:=λ_ _ _ _ _ st h=>wpAny_pyIter_tupleiter st h
theorem turn_range {P:Program} {w:World} {K:q0a} {tg:Expr} (it:Addr) (lo:Int) (n:Nat):Turn P w K tg (Itr lo n) [it] it (λi h=>IsRangeIter h it (lo+(i:Nat)*1) ((n:Int)-(i:Nat)) 1) where
 mem:=by simp
 obj:=λi h st b hb=>by
  have e:b=it:=by simpa using hb
  subst e
  exact ⟨_,st,λv z=>by
   have z':Data.fields _=Data.cell v:=z
   cases z'⟩
 keep:=λi h h' st k=>k it (by simp) _ st
 item:=by
  intro X hP hw hK hc i pins s σ H E I hf st hg;subst hP hw hK;obtain ⟨f0,f1,f2,f3,f4,f5⟩:=hf it (by simp)
  have W:=Walks.range (prog:=X.prog) (w:=X.w) (I.ok.hd hc) it lo 1 n;refine W.item i s _ _ hg st λv h' tk hv st' kk=>?_;obtain ⟨t,rfl⟩:=hv;have I1:Inv X pins σ H { s with heap:=h',toks:=tk }:=I.turned (λb o hb e=>kk b o (by simpa using hb) e) f0 f1 f3 f4 f5
  refine ⟨_,rfl,go_of (s:={ s with heap:=h',toks:=tk }) (n := "range_iterator") st' rfl rfl (by decide) ⟨.int (lo+i),H,I1,⟨t,?_⟩,⟨rfl,rfl⟩,st',λb hb=>(hf b hb).1⟩⟩
  rw [Int.mul_one]
 done:=by
  intro X hP hw hK hc i pins s σ H E I hf st hg;subst hP hw hK;obtain ⟨f0,f1,f2,f3,f4,f5⟩:=hf it (by simp)
  exact wpAny_pyNext_range_end (I.ok.hd hc) st (by have:n<=i:=hg;omega) λh' eb=>⟨rfl,I.turned (t':=s.toks) (λb o hb e=>eb b o hb e) f0 f1 f3 f4 f5⟩
 self:=λ_ _ _ _ _ st h=>wpAny_pyIter_rangeiter st h
end L2

namespace L2
open PySem PySem.Spec PyProof.Rows
section
variable {X:Cx} {tg:Expr}
def iList (K:q0a) (tl:TE):TI:=λσ H R=>tl σ H λx H1 => ∃ a,x=.ref a/\(∃ xs,SqL K H1 a xs)/\R (Itl K a) H1
def iTup (K:q0a) (tl:TE):TI:=λσ H R=>tl σ H λx H1 => ∃ a,x=.ref a/\(∃ xs,SqT K H1 a xs)/\R (Itt K a) H1
theorem pi_list {l:Expr} {tl:TE} (hl:PE X l tl):PI X tg l (iList X.K tl):=by
 intro pins s σ H R I h;refine thn (hl pins s σ H _ I h) λv s1 zq=>?_;obtain ⟨x,H1,I1,r1,q1⟩:=zq;obtain ⟨a,e,⟨xs,hq⟩,q⟩:=q1;subst e
 cases r1
 obtain ⟨its,rv,p,hz⟩:=I1.list hq;refine wpAny_pyIter_list p.isList ?_;refine ⟨s1.heap.objs.size,[s1.heap.objs.size],_,_,H1,rfl,I1.kept (t':=s1.toks) λb o e=>q0j _ e,turn_list a _,⟨_,z0u _ rfl,rfl,rfl⟩,λb hb=>?_,q⟩;have e:b=s1.heap.objs.size:=by simpa using hb
 subst e;exact I1.fpOk (q0n _) (I1.hok.fresh (q0n _))
theorem pi_tup {l:Expr} {tl:TE} (hl:PE X l tl):PI X tg l (iTup X.K tl):=by
 intro pins s σ H R I h;refine thn (hl pins s σ H _ I h) λv s1 zq=>?_;obtain ⟨x,H1,I1,r1,q1⟩:=zq;obtain ⟨a,e,⟨xs,hq⟩,q⟩:=q1;subst e
 cases r1
 obtain ⟨its,rv,p,hz⟩:=I1.tuple hq;refine wpAny_pyIter_tuple (show s1.heap.IsTuple a its.toArray from p) ?_;refine ⟨s1.heap.objs.size,[s1.heap.objs.size],_,_,H1,rfl,I1.kept (t':=s1.toks) λb o e=>q0j _ e,turn_tuple a _,⟨_,z0u _ rfl,rfl,rfl⟩,λb hb=>?_,q⟩;have e:b=s1.heap.objs.size:=by simpa using hb
 subst e;exact I1.fpOk (q0n _) (I1.hok.fresh (q0n _))
theorem range_it {pins:List (Addr × Obj)} {σ:St} {H:Hp} {s:Shared} {R:It->Hp->Prop} {E:Value->Shared->Prop} {lo hi:Int} {t u v:Tok} {tk:Nat} (I:Inv X pins σ H s) (h1:-(2 ^ 62)<=lo) (h2:lo<2 ^ 62) (h3:-(2 ^ 62)<=hi) (h4:hi<2 ^ 62)
  (q:R (Itr lo (hi-lo).toNat) H):wpAny (model X.prog X.w) X.A (pyIter (.ref s.heap.objs.size)) (PIE X pins σ tg R) E { s with heap:=s.heap.push { cls:=.type "range",data:=.fields #[.int lo t,.int hi u,.int 1 v] },toks:=tk }:=by
 refine wpAny_pyIter_range (IsRange.new ..) (small_one h1 h2 h3 h4) ?_;have I1:Inv X pins σ H { s with heap:=s.heap.push { cls:=.type "range",data:=.fields #[.int lo t,.int hi u,.int 1 v] },toks:=tk }:=I.kept λb o e=>q0j _ e
 refine ⟨(s.heap.push { cls:=.type "range",data:=.fields #[.int lo t,.int hi u,.int 1 v] }).objs.size,[(s.heap.push { cls:=.type "range",data:=.fields #[.int lo t,.int hi u,.int 1 v] }).objs.size],_,_,H,rfl,
  I1.kept (t':=tk) λb o e=>q0j _ e,turn_range _ lo (hi-lo).toNat,?_,λb hb=>?_,q⟩
 ·have e1:lo+((0:Nat):Int)*1=lo:=by simp
  have e2:(((hi-lo).toNat:Nat):Int)-((0:Nat):Int)=Builtin.Range.rangeSize lo hi 1:=by rw [rangeSize_one];split <;> omega
  show IsRangeIter _ _ (lo+((0:Nat):Int)*1) ((((hi-lo).toNat:Nat):Int)-((0:Nat):Int)) 1;rw [e1,e2];exact z0u _ rfl
 ·have e:b=(s.heap.push { cls:=.type "range",data:=.fields #[.int lo t,.int hi u,.int 1 v] }).objs.size:=by simpa using hb
  subst e;exact I1.fpOk (q0n _) (I1.hok.fresh (q0n _))
def iRng1 (ta:TA):TI:=λσ H R=>ta σ H λvs H1 => ∃ j:Int,vs=[.int j]/\-(2 ^ 62)<=j/\j<2 ^ 62/\R (Itr 0 j.toNat) H1
def iRng2 (ta:TA):TI:=λσ H R=>ta σ H λvs H1 => ∃ i j:Int,vs=[.int i,.int j]/\(-(2 ^ 62)<=i/\i<2 ^ 62/\-(2 ^ 62)<=j/\j<2 ^ 62)/\R (Itr i (j-i).toNat) H1
theorem pi_range1 {a:Expr} {ta:TA} {p pos:Pos} (hg:Gl X "range") (hm:X.mg "range" = none) (ha:PA X [a] ta) (hs:starEach [a] X.env=[(false,eval a X.env)]:=by rfl):PI X tg (.Call (.Name "range" p) [a] [] pos) (iRng1 ta):=by
 intro pins s σ H R I h;refine Call_ (ld_blt I hg hm boot_range (PyProof.Rows.callWith_type1 (thn (ha pos pins s σ H _ I h) λus s1 zq=>?_) hs rfl));obtain ⟨vs,H1,I1,r1,q1⟩:=zq;obtain ⟨j,e,q1,q2,q⟩:=q1;subst e
 cases r1 with
 | cons r rr =>
  cases rr
  obtain ⟨t,rfl⟩:=r;exact call_range_1 (range_it I1 ⋯ ⋯ q1 q2 (by simpa using q))
theorem pi_range2 {a b:Expr} {ta:TA} {p pos:Pos} (hg:Gl X "range") (hm:X.mg "range" = none) (ha:PA X [a,b] ta) (hs:starEach [a,b] X.env=[(false,eval a X.env),(false,eval b X.env)]:=by rfl) (hs2:starEach [b] X.env=[(false,eval b X.env)]:=by rfl) :
  PI X tg (.Call (.Name "range" p) [a,b] [] pos) (iRng2 ta):=by
 intro pins s σ H R I h;refine Call_ (ld_blt I hg hm boot_range (PyProof.Rows.callWith_type1 (thn (ha pos pins s σ H _ I h) λus s1 zq=>?_) (by rw [hs,hs2]) (by rw [hs2];rfl)))
 obtain ⟨vs,H1,I1,r1,q1⟩:=zq;obtain ⟨i,j,e,⟨q1,q2,q3,q4⟩,q⟩:=q1;subst e
 cases r1 with
 | cons r rr =>
  cases rr with
  | cons r' rr =>
   cases rr
   obtain ⟨t,rfl⟩:=r;obtain ⟨t',rfl⟩:=r';exact call_range_2 (range_it I1 q1 q2 q3 q4 q)

def tFor (wi:TI) (g:TG) (tb:TS):TS:=λD σ H=>wi σ H λJ H1 => ∃ W:Nat->Nat->St->Hp->Prop,(∃ m,W 0 m σ H1)/\∀ i m σ H,W i m σ H ->
 (J.stop i H/\D.nx σ H) \/ (J.go i H/\∃ N:St->Hp->Prop,(∀ σ' H',N σ' H'->∃ m',m'<m/\W (i+1) m' σ' H')/\∀ x H',J.yld i H x H'->g x σ H' λσ2 H2=>tb { D with nx:=N,ct:=N,bk:=D.nx } σ2 H2)
def pinsAt (fp:List Addr) (h:Heap):List (Addr × Obj):=fp.filterMap λb=>(h.get? b).map λo=>(b,o)
theorem mem_pinsAt {fp:List Addr} {h:Heap} {b:Addr} {o:Obj} (hb:b ∈ fp) (e:h.get? b=some o):(b,o) ∈ pinsAt fp h:=List.mem_filterMap.mpr ⟨b,hb,by rw [e];rfl⟩
theorem of_pinsAt {fp:List Addr} {h:Heap} {p:Addr × Obj} (hp:p ∈ pinsAt fp h):p.1 ∈ fp/\h.get? p.1=some p.2:=by
 obtain ⟨b,hb,e⟩:=List.mem_filterMap.mp hp
 cases q:h.get? b with
 | none=>rw [q] at e;cases e
 | some o =>
  rw [q] at e;have e':(b,o)=p:=Option.some.inj e;subst e';exact ⟨hb,q⟩
theorem Inv.pinned {pins:List (Addr × Obj)} {σ:St} {H:Hp} {s:Shared} {fp:List Addr} (I:Inv X pins σ H s) (hf:∀ b ∈ fp,FpOk X pins H b) (ho:∀ b ∈ fp,∃ o,s.heap.get? b=some o/\∀ v,o.data ≠ .cell v):Inv X (pins ++ pinsAt fp s.heap) σ H s :=
 I.pins_of λp hp=>(u0c.mp hp).elim (λz=>I.pin p (q0k _ z)) λz=>by
  obtain ⟨hb,e⟩:=of_pinsAt z;obtain ⟨f0,f1,f2,_⟩:=hf p.1 hb;obtain ⟨o,e',d⟩:=ho p.1 hb;rw [e] at e';cases e';exact ⟨e,f0,f1,f2,d⟩
theorem Inv.unpinned {pins pl:List (Addr × Obj)} {σ:St} {H:Hp} {s:Shared} (I:Inv X (pins ++ pl) σ H s):Inv X pins σ H s:=I.pins_of λp hp=>I.pin p (q0k _ (u0w _ hp))
theorem ps_for {iter:Expr} {body:List Stmt} {wi:TI} {g:TG} {tb:TS} {pos:Pos} (hp:PassesOwn (model X.prog X.w) X.A X.env X.xe) (hc:X.calm=true) (hi:PI X tg iter wi) (hg:PG X tg g) (hb:PSs X body tb)
  (hs:∀ x,foldedSetIterable iter X.env x=pure x:=by intro _;rfl):PS X (.For tg iter body [] pos) (tFor wi g tb):=by
 intro pins s σ H D I h;refine wpAny_For (thn (hi pins s σ H _ I h) λv s1 h1=>thn h1 λitv s2 h2=>?_) hs;obtain ⟨it,fp,tn,J,H2,e,I2,T,st2,f2,W,⟨m0,w0⟩,turn⟩:=h2;subst e
 -- what stays true of the iterator's objects through the loop
 have stat:∀ {H':Hp},(∀ b ∈ fp,H' b=none)->∀ b ∈ fp,FpOk X pins H' b:=λhn b hb=>⟨hn b hb,(f2 b hb).2⟩;refine codeAny_forLoop_any (λn s' => ∃ i σ' H',Inv X pins σ' H' s'/\tn i s'.heap/\(∀ b ∈ fp,H' b=none)/\W i n σ' H') ?_ m0 ⟨0,σ,H2,I2,st2,λb hb=>(f2 b hb).1,w0⟩;rintro n s3 ⟨i,σ3,H3,I3,st3,fr3,w3⟩;rcases turn i n σ3 H3 w3 with ⟨stop,qn⟩ | ⟨go,N,hN,step⟩
 ·refine wpAny_passesOwn hp (thn (T.done X rfl rfl rfl hc i pins s3 σ3 H3 X.xe I3 (stat fr3) st3 stop) λr s4 zq=>?_)
  obtain ⟨hr,I4⟩:=zq;subst hr;exact wpAny_execs_nil ⟨σ3,H3,I4,qn⟩
 ·refine wpAny_passesOwn hp (thn (T.item X rfl rfl rfl hc i pins s3 σ3 H3 X.xe I3 (stat fr3) st3 go) λr s4 zq=>?_)
  obtain ⟨u,hr,h4⟩:=zq;subst hr;refine wpAny_passesOwn hp (thn h4 λ_ s5 zq=>?_);obtain ⟨x,H5,I5,r5,y5,st5,fr5⟩:=zq;have I5':=I5.pinned (stat fr5) (T.obj _ _ st5);refine wpAny_passesOwn hp (thn (hg _ s5 σ3 H5 x u _ I5' r5 (step x H5 y5)) λ_ s6 zq=>?_);obtain ⟨σ6,H6,I6,q6⟩:=zq;refine wpAny_passesOwn hp (thn (hb _ s6 σ6 H6 _ I6 q6) λf s7 q7=>?_)
  have again:∀ {σ7:St} {H7:Hp},Inv X (pins ++ pinsAt fp s5.heap) σ7 H7 s7->N σ7 H7->∃ m,m<n/\∃ i σ' H',Inv X pins σ' H' s7/\tn i s7.heap/\(∀ b ∈ fp,H' b=none)/\W i m σ' H':=fun {σ7 H7} I7 n7=>by
   obtain ⟨m',hm,w7⟩:=hN σ7 H7 n7;refine ⟨m',hm,i+1,σ7,H7,I7.unpinned,T.keep _ _ _ st5 λb hb o e=>(I7.pin (b,o) (q0k _ (q0k _ (mem_pinsAt hb e)))).1,λb hb=>?_,w7⟩;obtain ⟨o,e,d⟩:=T.obj _ _ st5 b hb;exact (I7.pin (b,o) (q0k _ (q0k _ (mem_pinsAt hb e)))).2.1
  cases f with
  | next=>obtain ⟨σ7,H7,I7,n7⟩:=q7;exact again I7 n7
  | cont=>obtain ⟨σ7,H7,I7,n7⟩:=q7;exact again I7 n7
  | brk=>obtain ⟨σ7,H7,I7,q7⟩:=q7;exact ⟨σ7,H7,I7.unpinned,q7⟩
  | ret v=>obtain ⟨x7,σ7,H7,I7,r7,q7⟩:=q7;exact ⟨x7,σ7,H7,I7.unpinned,r7,q7⟩
end

theorem for_list {K:q0a} {a:Addr} {xs:List V} {g:TG} {tb:TS} {D:Ends} {σ:St} {H:Hp} (Pv:Nat->St->Hp->Prop) (h0:Pv 0 σ H) (hl:∀ i σ H,i<=xs.length->Pv i σ H->SqL K H a xs)
  (hs:∀ i x σ H,xs[i]? = some x->Pv i σ H->g x σ H λσ2 H2=>tb { D with nx:=Pv (i+1),ct:=Pv (i+1),bk:=D.nx } σ2 H2) (hd:∀ σ H,Pv xs.length σ H->D.nx σ H) :
  ∃ W:Nat->Nat->St->Hp->Prop,(∃ m,W 0 m σ H)/\∀ i m σ H,W i m σ H ->
   ((Itl K a).stop i H/\D.nx σ H) \/ ((Itl K a).go i H/\∃ N:St->Hp->Prop,(∀ σ' H',N σ' H'->∃ m',m'<m/\W (i+1) m' σ' H')/\∀ x H',(Itl K a).yld i H x H'->g x σ H' λσ2 H2=>tb { D with nx:=N,ct:=N,bk:=D.nx } σ2 H2):=by
 refine ⟨λi m σ H=>m=xs.length-i/\i<=xs.length/\Pv i σ H,⟨xs.length,by simp,z0z _,h0⟩,?_⟩
 rintro i m σ H ⟨rfl,hi,p⟩;have q:=hl i σ H hi p
 by_cases hlt:i<xs.length
 ·refine .inr ⟨⟨xs,xs[i],q,by simp [hlt]⟩,Pv (i+1),λσ' H' p'=>⟨xs.length-(i+1),⋯,rfl,hlt,p'⟩,λx H' y=>?_⟩
  obtain ⟨e,y⟩:=y;subst e;exact hs i x σ _ (y xs q) p
 ·have e:i=xs.length:=⋯
  subst e;exact .inl ⟨⟨xs,q,q0n _⟩,hd σ H p⟩
theorem for_range {lo:Int} {n:Nat} {g:TG} {tb:TS} {D:Ends} {σ:St} {H:Hp} (Pv:Nat->St->Hp->Prop) (h0:Pv 0 σ H)
  (hs:∀ i σ H,i<n->Pv i σ H->g (.int (lo+i)) σ H λσ2 H2=>tb { D with nx:=Pv (i+1),ct:=Pv (i+1),bk:=D.nx } σ2 H2) (hd:∀ σ H,Pv n σ H->D.nx σ H) :
  ∃ W:Nat->Nat->St->Hp->Prop,(∃ m,W 0 m σ H)/\∀ i m σ H,W i m σ H ->
   ((Itr lo n).stop i H/\D.nx σ H) \/ ((Itr lo n).go i H/\∃ N:St->Hp->Prop,(∀ σ' H',N σ' H'->∃ m',m'<m/\W (i+1) m' σ' H')/\∀ x H',(Itr lo n).yld i H x H'->g x σ H' λσ2 H2=>tb { D with nx:=N,ct:=N,bk:=D.nx } σ2 H2):=by
 refine ⟨λi m σ H=>m=n-i/\i<=n/\Pv i σ H,⟨n,by simp,z0z _,h0⟩,?_⟩
 rintro i m σ H ⟨rfl,hi,p⟩
 by_cases hlt:i<n
 ·refine .inr ⟨hlt,Pv (i+1),λσ' H' p'=>⟨n-(i+1),⋯,rfl,hlt,p'⟩,λx H' y=>?_⟩
  obtain ⟨e,y⟩:=y;subst e y;exact hs i σ _ hlt p
 ·have e:i=n:=⋯
  subst e;exact .inl ⟨q0n _,hd σ H p⟩
theorem while_by {c:TT} {tb:TS} {D:Ends} {σ:St} {H:Hp} (Pv:St->Hp->Prop) (μ:St->Hp->Nat) (h0:Pv σ H)
  (hs:∀ σ H,Pv σ H->c σ H λb H1=>if b=true then tb { D with nx:=λσ' H'=>Pv σ' H'/\μ σ' H'<μ σ H,ct:=λσ' H'=>Pv σ' H'/\μ σ' H'<μ σ H,bk:=D.nx } σ H1 else D.nx σ H1)
  (mono:∀ σ H Q Q',(∀ b H1,Q b H1->Q' b H1)->c σ H Q->c σ H Q'):tWhile c tb D σ H:=by
 refine ⟨λm σ H=>m=μ σ H/\Pv σ H,⟨_,rfl,h0⟩,?_⟩;rintro m σ H ⟨rfl,p⟩;refine mono σ H _ _ (λb H1 q=>?_) (hs σ H p)
 cases b with
 | true=>exact ⟨_,λσ' H' ⟨p',l⟩=>⟨_,l,rfl,p'⟩,q⟩
 | false=>exact q
end L2

namespace L2
open PySem PySem.Spec PyProof.Rows

abbrev R2:=V->V->Hp->VK->Prop
def OpR (X:Cx) (f:Value->Value->Sem Value) (r:R2):Prop :=
 ∀ (pins:List (Addr × Obj)) (s:Shared) (σ:St) (H:Hp) (x y:V) (v u:Value) (Q:VK),Inv X pins σ H s->RelV x v->RelV y u->r x y H Q ->
  wpAny (model X.prog X.w) X.A (f v u) (EP X pins σ Q) X.xe s
def UnR (X:Cx) (f:Value->Sem Value) (r:V->Hp->VK->Prop):Prop :=
 ∀ (pins:List (Addr × Obj)) (s:Shared) (σ:St) (H:Hp) (x:V) (v:Value) (Q:VK),Inv X pins σ H s->RelV x v->r x H Q ->
  wpAny (model X.prog X.w) X.A (f v) (EP X pins σ Q) X.xe s
def CallR (X:Cx) (f:Value) (r:List V->Hp->VK->Prop):Prop :=
 ∀ (pins:List (Addr × Obj)) (s:Shared) (σ:St) (H:Hp) (xs:List V) (us:List Value) (Q:VK),Inv X pins σ H s->Vals xs us->r xs H Q ->
  wpAny (model X.prog X.w) X.A (call f us) (EP X pins σ Q) X.xe s
def TruR (X:Cx) (r:V->Hp->(Bool->Hp->Prop)->Prop):Prop :=
 ∀ (pins:List (Addr × Obj)) (s:Shared) (σ:St) (H:Hp) (x:V) (v:Value) (Q:Bool->Hp->Prop),Inv X pins σ H s->RelV x v->r x H Q ->
  wpAny (model X.prog X.w) X.A (truthy v) (TP X pins σ Q) X.xe s

def tOp (r:R2) (ta tb:TE):TE:=λσ H Q=>ta σ H λx H1=>tb σ H1 λy H2=>r x y H2 Q
def tUn (r:V->Hp->VK->Prop) (ta:TE):TE:=λσ H Q=>ta σ H λx H1=>r x H1 Q
def rI (C:Int->Int->Prop) (g:Int->Int->V):R2:=λx y H Q => ∃ i j,x=.int i/\y=.int j/\C i j/\Q (g i j) H
def rI0 (g:Int->Int->V):R2:=λx y H Q => ∃ i j,x=.int i/\y=.int j/\Q (g i j) H
def rU (g:Int->V):V->Hp->VK->Prop:=λx H Q => ∃ i,x=.int i/\Q (g i) H

section
variable {X:Cx} {a b c:Expr} {ta tb tc:TE} {pos:Pos}

theorem binT (ha:PE X a ta) (hb:PE X b tb) {pins:List (Addr × Obj)} {s:Shared} {σ:St} {H:Hp} {R:V->V->Hp->Prop} (I:Inv X pins σ H s)
  (h:ta σ H λx H1=>tb σ H1 λy H2=>R x y H2) {Q:Value->Shared->Prop} {f:Value->Value->Sem Value}
  (hf:∀ v u s2 x y H2,Inv X pins σ H2 s2->RelV x v->RelV y u->R x y H2->wpAny (model X.prog X.w) X.A (f v u) Q X.xe s2) :
  wpAny (model X.prog X.w) X.A (eval a X.env) (λv s₁=>wpAny (model X.prog X.w) X.A (eval b X.env) (λu s₂=>wpAny (model X.prog X.w) X.A (f v u) Q X.xe s₂) X.xe s₁) X.xe s:=by
 refine thn (ha pins s σ H _ I h) λv s1 zq=>?_;obtain ⟨x,H1,I1,r1,q1⟩:=zq;refine thn (hb pins s1 σ H1 _ I1 q1) λu s2 zq=>?_;obtain ⟨y,H2,I2,r2,q2⟩:=zq;exact hf v u s2 x y H2 I2 r1 r2 q2

theorem pe_op {op:Operator} {r:R2} (ho:OpR X (binaryOp op) r) (ha:PE X a ta) (hb:PE X b tb):PE X (.BinOp a op b pos) (tOp r ta tb):=by
 intro pins s σ H Q I h;exact wpAny_BinOp (binT ha hb I h λv u s2 x y H2 I2 rx ry q=>ho pins s2 σ H2 x y v u Q I2 rx ry q)
theorem pe_un {op:UnaryOp} {r:V->Hp->VK->Prop} (ho:UnR X (unaryOp op) r) (ha:PE X a ta):PE X (.UnaryOp op a pos) (tUn r ta):=by
 intro pins s σ H Q I h;exact UnaryOp_ (thn (ha pins s σ H _ I h) λv s1 ⟨x,H1,I1,r1,q1⟩=>ho pins s1 σ H1 x v Q I1 r1 q1)
theorem opI {f:Value->Value->Sem Value} {C:Int->Int->Prop} {g:Int->Int->Int}
  (rule:∀ (i j:Int) (t u:Tok) (s:Shared) (Q:Value->Shared->Prop) (E:Value->Shared->Prop),C i j->Q (.int (g i j) s.toks) { s with toks:=s.toks+1 }->wpAny (model X.prog X.w) X.A (f (.int i t) (.int j u)) Q E s) :
  OpR X f (rI C λi j=>.int (g i j)):=by
 intro pins s σ H x y v u Q I rx ry h;obtain ⟨i,j,rfl,rfl,hc,q⟩:=h;obtain ⟨t,rfl⟩:=rx;obtain ⟨t',rfl⟩:=ry;exact rule i j t t' s _ _ hc ⟨.int (g i j),H,I.tok _,⟨_,rfl⟩,q⟩
theorem opI0 {f:Value->Value->Sem Value} {g:Int->Int->Int}
  (rule:∀ (i j:Int) (t u:Tok) (s:Shared) (Q:Value->Shared->Prop) (E:Value->Shared->Prop),Q (.int (g i j) s.toks) { s with toks:=s.toks+1 }->wpAny (model X.prog X.w) X.A (f (.int i t) (.int j u)) Q E s) :
  OpR X f (rI0 λi j=>.int (g i j)):=by
 intro pins s σ H x y v u Q I rx ry h;obtain ⟨i,j,rfl,rfl,q⟩:=h;obtain ⟨t,rfl⟩:=rx;obtain ⟨t',rfl⟩:=ry;exact rule i j t t' s _ _ ⟨.int (g i j),H,I.tok _,⟨_,rfl⟩,q⟩
theorem opB0 {f:Value->Value->Sem Value} {g:Int->Int->Bool}
  (rule:∀ (i j:Int) (t u:Tok) (s:Shared) (Q:Value->Shared->Prop) (E:Value->Shared->Prop),Q (.bool (g i j)) s->wpAny (model X.prog X.w) X.A (f (.int i t) (.int j u)) Q E s) :
  OpR X f (rI0 λi j=>.bl (g i j)):=by
 intro pins s σ H x y v u Q I rx ry h;obtain ⟨i,j,rfl,rfl,q⟩:=h;obtain ⟨t,rfl⟩:=rx;obtain ⟨t',rfl⟩:=ry;exact rule i j t t' s _ _ ⟨.bl (g i j),H,I,rfl,q⟩

def CPow (i j:Int):Prop:=0<=j/\j<=1000000/\i.natAbs<2 ^ 64
theorem op_add:OpR X (binaryOp .Add) (rI0 λi j=>.int (i+j)):=opI0 λ_ _ _ _ _ _ _ q=>add_int q
theorem op_sub:OpR X (binaryOp .Sub) (rI0 λi j=>.int (i-j)):=opI0 λ_ _ _ _ _ _ _ q=>sub_int q
theorem op_modN:OpR X (binaryOp .Mod) (rI (λ_ j=>j ≠ 0) λi j=>.int (i.fmod j)):=opI λ_ _ _ _ _ _ _ hc q=>mod_int' hc q
theorem op_pow:OpR X (binaryOp .Pow) (rI CPow λi j=>.int (i ^ j.toNat)):=opI λ_ _ _ _ _ _ _ hc q=>pow_int_small hc.1 hc.2.1 hc.2.2 q
theorem unI {f:Value->Sem Value} {g:Int->Int}
  (rule:∀ (i:Int) (t:Tok) (s:Shared) (Q:Value->Shared->Prop) (E:Value->Shared->Prop),Q (.int (g i) s.toks) { s with toks:=s.toks+1 }->wpAny (model X.prog X.w) X.A (f (.int i t)) Q E s) :
  UnR X f (rU λi=>.int (g i)):=by
 intro pins s σ H x v Q I rx h;obtain ⟨i,rfl,q⟩:=h;obtain ⟨t,rfl⟩:=rx;exact rule i t s _ _ ⟨.int (g i),H,I.tok _,⟨_,rfl⟩,q⟩
theorem un_neg:UnR X (unaryOp .USub) (rU λi=>.int (-i)):=unI λ_ _ _ _ _ q=>neg_int q

def scal:V->V->Bool
 | .non,.non=>true | .non,.int _=>true | .int _,.non=>true | .non,.bl _=>true | .bl _,.non=>true | .non,.str _=>true | .str _,.non=>true
 | .int _,.int _=>true | .bl _,.bl _=>true | .str _,.str _=>true | .byt _,.byt _=>true
 | .int _,.str _=>true | .str _,.int _=>true | .bl _,.str _=>true | .str _,.bl _=>true
 | _,_=>false
def rEq:R2:=λx y H Q=>scal x y=true/\Q (.bl (decide (x=y))) H
def rNe:R2:=λx y H Q=>scal x y=true/\Q (.bl (!decide (x=y))) H

theorem dec_int {i j:Int}:decide (V.int i=V.int j)=(i == j):=by
 rw [u0x]
 simp
theorem dec_bl {i j:Bool}:decide (V.bl i=V.bl j)=(i == j):=by
 rw [u0x]
 simp
theorem dec_str {i j:Str}:decide (V.str i=V.str j)=(i == j):=by
 rw [u0x]
 simp
theorem dec_byt {i j:Array UInt8}:decide (V.byt i=V.byt j)=(i.toList == j.toList):=by
 rw [u0x]
 cases i
 cases j
 simp

theorem fin_bl {pins:List (Addr × Obj)} {σ:St} {H:Hp} {s:Shared} {Q:VK} {k k':Bool} (I:Inv X pins σ H s) (q:Q (.bl k) H) (e:k=k'):EP X pins σ Q (.bool k') s:=by
 subst e;exact ⟨.bl k,H,I,rfl,q⟩
theorem op_eq:OpR X (compareOp .Eq) rEq:=by
 intro pins s σ H x y v u Q I rx ry h;obtain ⟨hs,q⟩:=h
 cases x with
 | non =>
  cases rx
  cases y with
  | non=>cases ry;exact PySem.EqNone.eq_none_none (fin_bl I q (by simp))
  | bl j=>cases ry;exact PySem.EqNone.eq_none_bool (fin_bl I q (by simp))
  | int j=>obtain ⟨t',rfl⟩:=ry;exact PySem.EqNone.eq_none_int (fin_bl I q (by simp))
  | str j=>obtain ⟨t',rfl⟩:=ry;exact PySem.EqNone.eq_none_str (fin_bl I q (by simp))
  | _=>exact absurd (show false=true from hs) q0p
 | bl i =>
  cases rx
  cases y with
  | non=>cases ry;exact PySem.EqNone.eq_bool_none (fin_bl I q (by simp))
  | bl j=>cases ry;exact eq_bool (fin_bl I q dec_bl)
  | str j=>obtain ⟨t',rfl⟩:=ry;exact PySem.EqMixed.eq_bool_str (fin_bl I q (by simp))
  | _=>exact absurd (show false=true from hs) q0p
 | int i =>
  obtain ⟨t,rfl⟩:=rx
  cases y with
  | non=>cases ry;exact PySem.EqNone.eq_int_none (fin_bl I q (by simp))
  | int j=>obtain ⟨t',rfl⟩:=ry;exact eq_int (fin_bl I q dec_int)
  | str j=>obtain ⟨t',rfl⟩:=ry;exact PySem.EqMixed.eq_int_str (fin_bl I q (by simp))
  | _=>exact absurd (show false=true from hs) q0p
 | str i =>
  obtain ⟨t,rfl⟩:=rx
  cases y with
  | non=>cases ry;exact PySem.EqNone.eq_str_none (fin_bl I q (by simp))
  | bl j=>cases ry;exact PySem.EqMixed.eq_str_bool (fin_bl I q (by simp))
  | int j=>obtain ⟨t',rfl⟩:=ry;exact PySem.EqMixed.eq_str_int (fin_bl I q (by simp))
  | str j=>obtain ⟨t',rfl⟩:=ry;exact eq_str (fin_bl I q dec_str)
  | _=>exact absurd (show false=true from hs) q0p
 | byt i =>
  obtain ⟨t,rfl⟩:=rx
  cases y with
  | byt j=>obtain ⟨t',rfl⟩:=ry;exact PySem.W.eq_bytes (fin_bl I q dec_byt)
  | _=>exact absurd (show false=true from hs) q0p
 | _=>cases y <;> exact absurd (show false=true from hs) q0p
theorem op_ne:OpR X (compareOp .NotEq) rNe:=by
 intro pins s σ H x y v u Q I rx ry h;obtain ⟨hs,q⟩:=h
 cases x with
 | non =>
  cases rx
  cases y with
  | non=>cases ry;exact PySem.EqNone.ne_none_none (fin_bl I q (by simp))
  | bl j=>cases ry;exact PySem.EqNone.ne_none_bool (fin_bl I q (by simp))
  | int j=>obtain ⟨t',rfl⟩:=ry;exact PySem.EqNone.ne_none_int (fin_bl I q (by simp))
  | str j=>obtain ⟨t',rfl⟩:=ry;exact PySem.EqNone.ne_none_str (fin_bl I q (by simp))
  | _=>exact absurd (show false=true from hs) q0p
 | bl i =>
  cases rx
  cases y with
  | non=>cases ry;exact PySem.EqNone.ne_bool_none (fin_bl I q (by simp))
  | bl j=>cases ry;exact ne_bool (fin_bl I q (congrArg not dec_bl))
  | str j=>obtain ⟨t',rfl⟩:=ry;exact PySem.EqMixed.ne_bool_str (fin_bl I q (by simp))
  | _=>exact absurd (show false=true from hs) q0p
 | int i =>
  obtain ⟨t,rfl⟩:=rx
  cases y with
  | non=>cases ry;exact PySem.EqNone.ne_int_none (fin_bl I q (by simp))
  | int j=>obtain ⟨t',rfl⟩:=ry;exact ne_int (fin_bl I q (congrArg not dec_int))
  | str j=>obtain ⟨t',rfl⟩:=ry;exact PySem.EqMixed.ne_int_str (fin_bl I q (by simp))
  | _=>exact absurd (show false=true from hs) q0p
 | str i =>
  obtain ⟨t,rfl⟩:=rx
  cases y with
  | non=>cases ry;exact PySem.EqNone.ne_str_none (fin_bl I q (by simp))
  | bl j=>cases ry;exact PySem.EqMixed.ne_str_bool (fin_bl I q (by simp))
  | int j=>obtain ⟨t',rfl⟩:=ry;exact PySem.EqMixed.ne_str_int (fin_bl I q (by simp))
  | str j=>obtain ⟨t',rfl⟩:=ry;exact ne_str (fin_bl I q (congrArg not dec_str))
  | _=>exact absurd (show false=true from hs) q0p
 | byt i =>
  obtain ⟨t,rfl⟩:=rx
  cases y with
  | byt j=>obtain ⟨t',rfl⟩:=ry;exact PySem.W.ne_bytes (fin_bl I q (congrArg not dec_byt))
  | _=>exact absurd (show false=true from hs) q0p
 | _=>cases y <;> exact absurd (show false=true from hs) q0p

theorem op_lt:OpR X (compareOp .Lt) (rI0 λi j=>.bl (decide (i<j))):=opB0 λ_ _ _ _ _ _ _ q=>lt_int q
theorem op_gt:OpR X (compareOp .Gt) (rI0 λi j=>.bl (decide (j<i))):=opB0 λ_ _ _ _ _ _ _ q=>gt_int q
theorem op_ge:OpR X (compareOp .GtE) (rI0 λi j=>.bl (decide (j<=i))):=opB0 λ_ _ _ _ _ _ _ q=>ge_int q
theorem op_notN:OpR X (compareOp .IsNot) (λx y H Q=>y=.non/\Q (.bl (!decide (x=.non))) H):=by
 intro pins s σ H x y v u Q I rx ry h;obtain ⟨rfl,q⟩:=h
 cases ry
 refine isnot_none_gen (fin_bl I q ?_)
 cases x <;> first
  | (cases rx;rfl)
  | (obtain ⟨t,rfl⟩:=rx;rfl)

theorem nomark (b:Expr) {op:CmpOp} (h:op ≠ .In:=by decide) (h2:op ≠ .NotIn:=by decide):behindInMarks op b=false:=by
 have e1:(op == CmpOp.In)=false:=by cases op <;> first | rfl | exact absurd rfl h
 have e2:(op == CmpOp.NotIn)=false:=by cases op <;> first | rfl | exact absurd rfl h2
 cases b <;> simp [behindInMarks,e1,e2]
theorem pe_cmpR {op:CmpOp} {r:R2} (ho:OpR X (compareOp op) r) (ha:PE X a ta) (hb:PE X b tb) (hm:behindInMarks op b=false):PE X (.Compare a [op] [b] pos) (tOp r ta tb):=by
 intro pins s σ H Q I h;exact wpAny_Compare1 (binT ha hb I h λv u s2 x y H2 I2 rx ry q=>ho pins s2 σ H2 x y v u Q I2 rx ry q) hm
def tTest (t:TE):TT:=λσ H Q=>t σ H λx H' => ∃ k,x=.bl k/\Q k H'
theorem pt_cmpR {op:CmpOp} {r:R2} (ho:OpR X (compareOp op) r) (ha:PE X a ta) (hb:PE X b tb) (hm:behindInMarks op b=false):PT X (.Compare a [op] [b] pos) (tTest (tOp r ta tb)):=by
 intro pins s σ H Q I h
 refine wpAny_isTrue_Compare1 (thn (ha pins s σ H _ I h) λv s1 ⟨x,H1,I1,r1,q1⟩=>thn (hb pins s1 σ H1 _ I1 q1) λu s2 ⟨y,H2,I2,r2,q2⟩ =>
  thn (ho pins s2 σ H2 x y v u _ I2 r1 r2 q2) λc s3 ⟨z,H3,I3,r3,k,e,q3⟩=>?_) hm
 subst e
 cases r3
 exact wpAny_truthy_bool ⟨H3,I3,q3⟩
def TruV (K:q0a) (x:V) (H:Hp) (k:Bool):Prop :=
 match x with
 | .non=>k=false
 | .bl b=>k=b
 | .int i=>k=(i != 0)
 | .str y=>y.length<=sizeLine/\k=((y.length:Int) != 0)
 | .byt y=>y.size<=sizeLine/\k=((y.size:Int) != 0)
 | .ref p=>(∃ xs,SqL K H p xs/\k = !xs.isEmpty) \/ (∃ xs,SqT K H p xs/\k = !xs.isEmpty) \/ ∃ kvs,H p=some (.dK kvs)/\k = !kvs.isEmpty
 | _=>False
theorem isEmpty_kv {κ:Type} {kvs:List (κ × V)} {vs:List (κ × Value)} (r:KV kvs vs):(!vs.isEmpty) = !kvs.isEmpty:=by
 cases r <;> rfl
theorem isEmpty_of {xs:List V} {its:List Value} (r:Vals xs its):(!its.toArray.isEmpty) = !xs.isEmpty:=by
 cases r <;> simp
theorem line63:(sizeLine:Nat)<2 ^ 63:=by rw [sizeLine_eq];decide
theorem tru_ok:TruR X (λx H Q => ∃ k,TruV X.K x H k/\Q k H):=by
 intro pins s σ H x v Q I rx h;obtain ⟨k,e,q⟩:=h;have hl:=line63;have hs:sizeLine=16777216:=sizeLine_eq
 cases x with
 | non =>
  cases rx
  have e':k=false:=e;subst e';exact truthy_none ⟨H,I,q⟩
 | bl b =>
  cases rx
  have e':k=b:=e;subst e';exact wpAny_truthy_bool ⟨H,I,q⟩
 | int i =>
  obtain ⟨t,rfl⟩:=rx;have e':k=(i != 0):=e;subst e';exact PySem.P.truthy_int ⟨H,I,q⟩
 | str y =>
  obtain ⟨t,rfl⟩:=rx;obtain ⟨hy,e'⟩:y.length<=sizeLine/\k=((y.length:Int) != 0):=e;subst e';exact PySem.P.truthy_str ⋯ ⟨H,I.tok _,q⟩
 | byt y =>
  obtain ⟨t,rfl⟩:=rx;obtain ⟨hy,e'⟩:y.size<=sizeLine/\k=((y.size:Int) != 0):=e;subst e';exact PySem.W.truthy_bytes ⋯ ⟨H,I.tok _,q⟩
 | ref p =>
  cases rx
  have e':(∃ xs,SqL X.K H p xs/\k = !xs.isEmpty) \/ (∃ xs,SqT X.K H p xs/\k = !xs.isEmpty) \/ ∃ kvs,H p=some (.dK kvs)/\k = !kvs.isEmpty:=e;rcases e' with ⟨xs,hx,e'⟩ | ⟨xs,hx,e'⟩ | ⟨kvs,hx,e'⟩
  ·subst e'
   obtain ⟨its,r,pl,hz⟩:=I.list hx;have hlen:=r.length;exact wpAny_truthy_list pl.isList (by simp only [q0q];omega) ⟨H,I.tok _,by rw [isEmpty_of r];exact q⟩
  ·subst e'
   obtain ⟨its,r,pl,hz⟩:=I.tuple hx;have hlen:=r.length;exact truthy_tuple pl (by simp only [q0q];omega) ⟨H,I.tok _,by rw [isEmpty_of r];exact q⟩
  ·subst e'
   obtain ⟨hz,hS,vs,r,m⟩:kvs.length<=sizeLine/\(p == sysModules)=false/\∃ vs,KV kvs vs/\s.heap.DictOf (mixKind X.prog X.w) p vs:=I.hok p _ hx;have hlen:kvs.length=vs.length:=Paired.length r;exact wpAny_truthy_dict hS m ⋯ ⟨H,I.tok _,by rw [isEmpty_kv r];exact q⟩
 | _=>exact (show False from e).elim
theorem pt_truth (ha:PE X a ta) (he:∀ whole,isTrue a X.env whole=(do let v <- whole;standAt a.pos;holding [v] (truthy v))) :
  PT X a (λσ H Q=>ta σ H λx H' => ∃ k,TruV X.K x H' k/\Q k H'):=by
 intro pins s σ H Q I h;exact isTrue_plain (thn (ha pins s σ H _ I h) λv s1 ⟨x,H1,I1,r1,q1⟩=>tru_ok pins s1 σ H1 x v Q I1 r1 q1) (he _)

theorem vals1 {x:V} {us:List Value} (r:Vals [x] us):∃ u,us=[u]/\RelV x u:=by
 cases r with
 | cons r1 r2=>cases r2;exact ⟨_,rfl,r1⟩
theorem vals2 {x y:V} {us:List Value} (r:Vals [x,y] us):∃ u w',us=[u,w']/\RelV x u/\RelV y w':=by
 cases r with
 | cons r1 r2 =>
  cases r2 with
  | cons r3 r4=>cases r4;exact ⟨_,_,rfl,r1,r3⟩
theorem call_abs:CallR X (.builtin "abs") (λxs H Q => ∃ i,xs=[.int i]/\Q (.int (if i<0 then -i else i)) H):=by
 intro pins s σ H xs us Q I r h;obtain ⟨i,rfl,q⟩:=h;obtain ⟨u,rfl,t,rfl⟩:=vals1 r;exact call_abs_int λu tk=>⟨.int (if i<0 then -i else i),H,I.tok _,⟨_,rfl⟩,q⟩
theorem call_max2 (hc:X.calm=true):CallR X (.builtin "max") (λxs H Q => ∃ i j,xs=[.int i,.int j]/\Q (.int (if j > i then j else i)) H):=by
 intro pins s σ H xs us Q I r h;obtain ⟨i,j,rfl,q⟩:=h;obtain ⟨u,w',rfl,⟨t,rfl⟩,⟨t',rfl⟩⟩:=vals2 r;refine max_two_ints (I.ok.hd hc) λh' tk k=>⟨_,H,I.kept k,?_,q⟩
 by_cases hj:j > i
 ·rw [if_pos hj,if_pos hj];exact ⟨_,rfl⟩
 ·rw [if_neg hj,if_neg hj];exact ⟨_,rfl⟩
theorem call_min2 (hc:X.calm=true):CallR X (.builtin "min") (λxs H Q => ∃ i j,xs=[.int i,.int j]/\Q (.int (if j<i then j else i)) H):=by
 intro pins s σ H xs us Q I r h;obtain ⟨i,j,rfl,q⟩:=h;obtain ⟨u,w',rfl,⟨t,rfl⟩,⟨t',rfl⟩⟩:=vals2 r;refine min_two_ints (I.ok.hd hc) λh' tk k=>⟨_,H,I.kept k,?_,q⟩
 by_cases hj:j<i
 ·rw [if_pos hj,if_pos hj];exact ⟨_,rfl⟩
 ·rw [if_neg hj,if_neg hj];exact ⟨_,rfl⟩
theorem call_int1:CallR X (.type "int") (λxs H Q=>(∃ i,xs=[.int i]/\Q (.int i) H) \/ ∃ k,xs=[.bl k]/\Q (.int (if k then 1 else 0)) H):=by
 intro pins s σ H xs us Q I r h;rcases h with ⟨i,rfl,q⟩ | ⟨k,rfl,q⟩
 ·obtain ⟨u,rfl,t,rfl⟩:=vals1 r
  exact call_int_int ⟨.int i,H,I,⟨_,rfl⟩,q⟩
 ·obtain ⟨u,rfl,r1⟩:=vals1 r
  cases r1
  exact call_int_bool ⟨.int (if k then 1 else 0),H,I.tok _,⟨_,rfl⟩,q⟩
end
end L2

namespace L2
open PySem PySem.Spec PyProof.Rows

structure ObjM (h:Heap) (x dx C:Addr) (mA:Str->Option Value):Prop where
 obj:h.get? x=some (g0y C dx)
 ns:h.Ns1 dx mA
 ne:dx ≠ x

theorem lookIn_ns {h:Heap} {dx:Addr} {mA:Str->Option Value} (n:h.Ns1 dx mA):∃ od,h.get? dx=some od/\∀ name,m0j name od=some (mA name):=by
 obtain ⟨o,es,ep,ho,hd,hk,_,hm⟩:=n;refine ⟨o,ho,λname=>?_⟩;have e:=hm name;unfold nsFind findBy at e;rw [<- Array.find?_toList] at e;unfold m0j;rw [hd]
 dsimp only
 split
 ·rename_i y q
  rw [q] at e;exact congrArg some e
 ·rename_i q
  rw [q] at e
  have a:es.toList.any (·.refKey)=false:=by
   rw [List.any_eq_false];intro y hy;obtain ⟨z,t,hkey⟩:=hk y (Array.mem_toList_iff.mp hy)
   simp [DictEntry.refKey,hkey]
  have a':¬ es.toList.any (·.refKey)=true:=by rw [a];exact q0p
  rw [if_neg a'];exact congrArg some e

theorem ObjM.look {h:Heap} {x dx C:Addr} {mA:Str->Option Value} (I:ObjM h x dx C mA):∃ od,PySem.W.InstAt h x (g0y C dx) C (some od)/\∀ name,m0j name od=some (mA name) :=
 let ⟨od,ho,hl⟩:=lookIn_ns I.ns
 ⟨od,⟨I.obj,rfl,rfl,ho⟩,hl⟩

section
variable {prog:Program} {w:World} {A:Around} {E:Value->Shared->Prop} {s:Shared} {K:q0a} {x dx C f:Addr} {mA:Str->Option Value} {name:Str} {v:Value}

end

section
variable {P:Program} {w:World} {H H':Hp} {h h':Heap} {a C dx:Addr} {fs fs':List (Str × V)}
theorem ins_get (hok:HOk P w H h) (e:H a=some (.ins C dx fs)):∃ mA,ObjM h a dx C mA/\(∀ f,RelO (fs.lookup f) (mA f))/\PySem.Within mA (fs.map (·.1))/\fs.length<=1000/\H dx=some (.own a):=by
 obtain ⟨d,z,ne,ob,mA,n,r,q⟩:=(show ObjOk P w H h a (.ins C dx fs) from hok a _ e);exact ⟨mA,⟨ob,n,ne⟩,r,q,z,d⟩
end

structure Cls (K:q0a) (C:Addr):Prop where
 pg:PySem.W.plainGet K C Str.empty=true
 hd:PySem.W.hasDictIn K C=true
 po:PySem.W.plainOver K C=true
 sa:u0g K (.ref C) "__setattr__" = some (some (.builtin "object.__setattr__"))
theorem Cls.get {K:q0a} {C:Addr} (c:Cls K C) (f:Str):PySem.W.plainGet K C f=true:=c.pg
structure Con (K:q0a) (C:Addr) (f:Str) (v:V) (u:Value):Prop where
 at_:u0g K (.ref C) f=some (some u)
 rel:RelV v u
 get:PySem.W.specialIn K u "__get__" = some none
 cp:PySem.W.copiedNames.contains f=false
structure Meth (K:q0a) (C:Addr) (m:Str) (f:Addr):Prop where
 at_:u0g K (.ref C) m=some (some (.ref f))
 fn:PySem.W.isFn K (.ref f)=true
 kp:y0w K (.ref f)=true

section
variable {X:Cx} {pins:List (Addr × Obj)} {σ:St} {H:Hp} {s:Shared} {a C dx:Addr} {fs:List (Str × V)} {f:Str} {v:V} {A:Around} {E:Value->Shared->Prop}

end

section
variable {X:Cx} {o e value:Expr} {f:Str} {pos pos' tpos:Pos} {ta tv:TE}
end

section
variable {X:Cx} {pins:List (Addr × Obj)} {σ:St} {H:Hp} {s:Shared} {A:Around} {E:Value->Shared->Prop} {Q:Value->Shared->Prop} {c:Value} {b:Bool}
inductive TyOf (K:q0a) (H:Hp):V->Value->Prop where
 | non:TyOf K H .non (.type "NoneType")
 | bl (x:Bool):TyOf K H (.bl x) (.type "bool")
 | int (i:Int):TyOf K H (.int i) (.type "int")
 | str (x:Str):TyOf K H (.str x) (.type "str")
 | flt (x:UInt64):TyOf K H (.flt x) (.type "float")
 | lst {a:Addr} {xs:List V} (e:H a=some (.lst xs)):TyOf K H (.ref a) (.type "list")
 | frz {a:Addr} {o:Obj} {xs:List V} (e:H a=some (.frz o (.lst xs))):TyOf K H (.ref a) (.type "list")
 | tup {a:Addr} {xs:List V} (e:H a=some (.tup xs)):TyOf K H (.ref a) (.type "tuple")
 | dK {a:Addr} {kvs:List (Key × V)} (e:H a=some (.dK kvs)):TyOf K H (.ref a) (.type "dict")
 | dT {a:Addr} {kvs:List (List Key × V)} (e:H a=some (.dT kvs)):TyOf K H (.ref a) (.type "dict")
 | ins {a C dx:Addr} {fs:List (Str × V)} (e:H a=some (.ins C dx fs)) (cl:Cls K C) (ha:u0g K (.ref C) "__class__" = some (some (.builtin "object.__class__")))
   (hn:PySem.W.specialIn K (.builtin "object.__class__") "__get__" = some (some (.builtin "getset_descriptor.__get__"))) (htk:PySem.W.takesIn K (.builtin "object.__class__")=some true)
   (hm:PySem.W.mroIn K C (.type "object")=some true):TyOf K H (.ref a) (.ref C)
theorem isinst_ok {x:V} {u t:Value} (I:Inv X pins σ H s) (rx:RelV x u) (ty:TyOf X.K H x t) (e:z0c X.K t c=some b) (h:∀ tk,Q (.bool b) { s with toks:=tk }) :
  wpAny (model X.prog X.w) A (call (.builtin "isinstance") [u,c]) Q E s:=by
 cases ty with
 | non=>cases (show u=Value.none from rx);exact j0x PySem.W.kitx_none I.kIn True.intro e (λz=>nomatch z) h
 | bl y=>cases (show u=Value.bool y from rx);exact j0x PySem.W.kitx_bool I.kIn True.intro e (λz=>nomatch z) h
 | int i=>obtain ⟨t,q⟩:=(show ∃ t,u=Value.int i t from rx);cases q;exact j0x PySem.W.kitx_int I.kIn True.intro e (λz=>nomatch z) h
 | str y=>obtain ⟨t,q⟩:=(show ∃ t,u=Value.str y t from rx);cases q;exact j0x PySem.W.kitx_str I.kIn True.intro e (λz=>nomatch z) h
 | flt y=>obtain ⟨t,q⟩:=(show ∃ t,u=Value.float y t from rx);cases q;exact j0x PySem.W.kitx_float I.kIn True.intro e (λz=>nomatch z) h
 | @lst a xs ea =>
  cases (show u=Value.ref a from rx)
  obtain ⟨_,_,n,_,h1⟩:=(show ObjOk X.prog X.w H s.heap a (.lst xs) from I.hok a _ ea);exact j0x PySem.W.kitx_list I.kIn ⟨_,h1,rfl⟩ e (λz=>nomatch z) h
 | @frz a ob xs ea =>
  cases (show u=Value.ref a from rx)
  obtain ⟨_,_,_,n,_,h1⟩:=(show ObjOk X.prog X.w H s.heap a (.frz ob (.lst xs)) from I.hok a _ ea);exact j0x PySem.W.kitx_list I.kIn ⟨_,h1,rfl⟩ e (λz=>nomatch z) h
 | @tup a xs ea =>
  cases (show u=Value.ref a from rx)
  obtain ⟨_,_,_,p⟩:=(show ObjOk X.prog X.w H s.heap a (.tup xs) from I.hok a _ ea);obtain ⟨o,h1,h2,_⟩:=p;exact j0x PySem.W.kitx_tuple I.kIn ⟨o,h1,h2⟩ e (λz=>nomatch z) h
 | @dK a kvs ea =>
  cases (show u=Value.ref a from rx)
  obtain ⟨_,_,vs,_,p⟩:=(show ObjOk X.prog X.w H s.heap a (.dK kvs) from I.hok a _ ea);obtain ⟨o,es,ep,h1,h2,_⟩:=p;exact j0x PySem.W.kitx_dict I.kIn ⟨o,h1,h2.1⟩ e (λz=>nomatch z) h
 | @dT a kvs ea =>
  cases (show u=Value.ref a from rx)
  obtain ⟨_,_,xs,_,o,es,ep,h1,h2,_⟩:=(show ObjOk X.prog X.w H s.heap a (.dT kvs) from I.hok a _ ea);exact j0x PySem.W.kitx_dict I.kIn ⟨o,h1,h2.1⟩ e (λz=>nomatch z) h
 | @ins a C dx fs ea cl ha hn htk hm =>
  cases (show u=Value.ref a from rx)
  obtain ⟨mA,O,_⟩:=ins_get I.hok ea;obtain ⟨od,J,_⟩:=O.look;exact j0x (PySem.W.kitx_own (cl.get _) cl.hd ha hn htk hm) I.kIn J e (λz=>nomatch z) h
end
end L2

namespace L2
open PySem PySem.Spec PyProof.Rows

structure Room (k:Nat) (A:Around):Prop where
 hd:A.handled=none
 dp:A.depth+3*k+5<recursionLimit
 un:A.units+16*k+200<cLine
theorem Room.mono {j k:Nat} {A:Around} (r:Room k A) (h:j<=k):Room j A:=⟨r.hd,by have:=r.dp;omega,by have:=r.un;omega⟩
theorem Room.deeper {k:Nat} {A:Around} (r:Room (k+1) A) (env:Env):Room k (A.deeper env) :=
 ⟨r.hd,by have:=r.dp;show A.depth+1+3*k+5<_;omega,by have:=r.un;show A.units+3+16*k+200<_;omega⟩
theorem Room.depth {k:Nat} {A:Around} (r:Room k A):A.depth<recursionLimit:=by have:=r.dp;omega
theorem Room.units {k:Nat} {A:Around} (r:Room k A):A.units+64<cLine:=by have:=r.un;omega
def tNil:TA:=λ_ H Q=>Q [] H
def tCons (ta:TE) (tr:TA):TA:=λσ H Q=>ta σ H λx H1=>tr σ H1 λxs H2=>Q (x :: xs) H2
section
variable {X:Cx} {e:Expr} {es:List Expr} {te:TE} {t:TA} {pos:Pos}
theorem pa_nil:PA X [] tNil:=λ_ _ _ _ H Q I h=>Calls.spliced_nil ⟨[],H,I,.nil,h⟩
theorem pa_cons (ha:PE X e te) (hr:PA X es t) (hs:starEach (e :: es) X.env=(false,eval e X.env) :: starEach es X.env:=by rfl):PA X (e :: es) (tCons te t):=by
 intro pos pins s σ H Q I h;rw [hs]
 show wpAny _ _ (spliced ((false,eval e X.env) :: backTo pos (starEach es X.env))) _ _ s;refine Calls.spliced_cons (thn (ha pins s σ H _ I h) λu s1 zq=>?_);obtain ⟨x,H1,I1,r1,q1⟩:=zq;refine thn (hr pos pins s1 σ H1 _ I1 q1) λus s2 zq=>?_;obtain ⟨xs,H2,I2,r2,q2⟩:=zq;exact ⟨x :: xs,H2,I2,.cons r1 r2,q2⟩

def tTup (t:TA):TE:=λσ H Q=>t σ H λxs H1=>xs.length<=sizeLine/\∀ p,H1 p=none->Q (.ref p) (upd H1 p (.tup xs))
def tLst (t:TA):TE:=λσ H Q=>t σ H λxs H1=>xs.length<=sizeLine/\∀ p,H1 p=none->Q (.ref p) (upd H1 p (.lst xs))
theorem pe_tup {x1} (h:PA X es t):PE X (.Tuple es x1 pos) (tTup t):=by
 intro pins s σ H Q I hq;refine wpAny_Tuple_spliced (thn (h pos pins s σ H _ I hq) λus s1 ⟨xs,H1,I1,r,z,q⟩=>⟨by rw [<- r.length];exact z,?_⟩)
 have hf:H1 s1.heap.objs.size=none:=I1.hok.fresh (q0n _);refine ⟨.ref s1.heap.objs.size,upd H1 s1.heap.objs.size (.tup xs),I1.laid (t':=s1.toks) (λb u e=>q0j _ e) (q0n _) ?_,rfl,q _ hf⟩;exact ⟨z,us,r,⟨_,z0u _ rfl,rfl,_,rfl⟩⟩
theorem pe_lst (h:PA X es t):PE X (.List es pos) (tLst t):=by
 intro pins s σ H Q I hq;refine wpAny_List_spliced (thn (h pos pins s σ H _ I hq) λus s1 ⟨xs,H1,I1,r,z,q⟩=>⟨by rw [<- r.length];exact z,?_⟩)
 have hf:H1 s1.heap.objs.size=none:=I1.hok.fresh (q0n _);refine ⟨.ref s1.heap.objs.size,upd H1 s1.heap.objs.size (.lst xs),I1.laid (t':=s1.toks) (λb u e=>q0j _ e) (q0n _) ?_,rfl,q _ hf⟩;exact ⟨z,us,0,r,z0u _ rfl⟩
end

abbrev Sp:=List V->Hp->VK->XK->Prop
abbrev CXT:=List Env->Hp->Shared->XK->Value->Shared->Prop

structure Env0 (P:Program) (w:World) (K:q0a) (mg:Str->Option Value) (base:Heap) (A:Around) (outer:List Env) (s:Shared) (H:Hp):Prop where
 frames:A.frames=some outer
 mod:Mod K mg base
 bs:∀ b o,base.get? b=some o->s.heap.get? b=some o/\H b=none
 bsz:base.objs.size<=s.heap.objs.size
 funs:s.heap.FunFrames base outer
 frf:∀ b ∈ frs outer,H b=none
 hok:HOk P w H s.heap
 bare:AllBare s.gens
def CE (outer:List Env) (P:Program) (w:World) (H:Hp) (s:Shared) (Q:VK) (u:Value) (s':Shared):Prop :=
 ∃ v H',s'.os=s.os/\AllBare s'.gens/\Un (frs outer) [] H H' s.heap s'.heap/\HOk P w H' s'.heap/\RelV v u/\Q v H'
def CR (CX:CXT) (outer:List Env) (P:Program) (w:World) (H:Hp) (s:Shared) (Q:VK) (E:XK) (r:Result) (s':Shared):Prop :=
 match r with
 | .ok (.ret u)=>CE outer P w H s Q u s'
 | .ok _=>False
 | .error e=>CX outer H s E e s'
structure FnOk (P:Program) (w:World) (K:q0a) (mg:Str->Option Value) (base:Heap) (CX:CXT) (k:Nat) (f:Addr) (fd:FuncData) (ps:List Str) (sp:Sp):Prop where
 len:∀ vs H Q E,sp vs H Q E->vs.length=ps.length
 run:∀ (A:Around) (outer:List Env) (s:Shared) (H:Hp) (args:Args) (us:List Value) (vs:List V) (Q:VK) (E:XK),Room k A->Env0 P w K mg base A outer s H->BindsTo s fd args (ps.zip us)->Vals vs us->sp vs H Q E ->
  codeAny (model P w) A (.call (.ref f) args) (CR CX outer P w H s Q E) s
theorem FnOk.mono {P:Program} {w:World} {K:q0a} {mg:Str->Option Value} {base:Heap} {CX:CXT} {j k:Nat} {f:Addr} {fd:FuncData} {ps:List Str} {sp:Sp} (F:FnOk P w K mg base CX j f fd ps sp) (h:j<=k) :
  FnOk P w K mg base CX k f fd ps sp:=⟨F.len,λA outer s H args us vs Q E hr=>F.run A outer s H args us vs Q E (hr.mono h)⟩
section
variable {X:Cx} {pins:List (Addr × Obj)} {σ:St} {H:Hp} {s s':Shared}
theorem Inv.env0 (I:Inv X pins σ H s):Env0 X.prog X.w X.K X.mg X.base X.A X.stack s H :=
 ⟨I.ok.frames,I.ok.mod,I.bs,q0y I.ok.bsz I.sz,I.stack,I.stkFree,I.hok,I.bare⟩
theorem Inv.after {Q:VK} {u:Value} (I:Inv X pins σ H s) (h:CE X.stack X.prog X.w H s Q u s'):EP X pins σ Q u s':=by
 obtain ⟨v,H',os,bare,un,hok,r,q⟩:=h;obtain ⟨hh,g,d,t,os'⟩:=s';obtain rfl:os'=s.os:=os;exact ⟨v,H',I.call (h':=hh) (g':=g) (d':=d) (t':=t) (ch:=[]) un hok bare (λb z=>absurd z (by simp)),r,q⟩
end

def tCall (sp:Sp) (dvs:List V) (E:XK) (t:TA):TE:=λσ H Q=>t σ H λvs H1=>sp (vs ++ dvs) H1 Q E
def Binds (K:q0a) (fd:FuncData) (ps:List Str) (ds:List Value):Prop :=
 ∀ (s:Shared) (us:List Value),K.In s.heap->(us ++ ds).length=ps.length->BindsTo s fd ⟨us,[]⟩ (ps.zip (us ++ ds))
theorem Binds.all {K:q0a} {fd:FuncData} {ps:List Str} (h:∀ us:List Value,us.length=ps.length->bindArgs fd ⟨us,[]⟩=pure (ps.zip us)):Binds K fd ps []:=λs us _ hl=>by
 rw [j0n] at hl ⊢;exact .of_eq (h us hl)

def Passes (CX:CXT) (X:Cx) (E:XK):Prop:=∀ (pins:List (Addr × Obj)) (σ:St) (H:Hp) (s:Shared) (e:Value) (s':Shared),Inv X pins σ H s->CX X.stack H s E e s'->X.xe e s'

section
variable {X:Cx} {CX:CXT} {k:Nat} {f C:Addr} {fd:FuncData} {ps:List Str} {sp:Sp} {dvs:List V} {ds:List Value} {E:XK} {x m:Str} {p pos apos:Pos} {e o:Expr} {es:List Expr} {ta:TE} {t:TA}

theorem run_fn {pins:List (Addr × Obj)} {σ:St} {H:Hp} {s:Shared} {Q:VK} {us:List Value} {vs:List V} (F:FnOk X.prog X.w X.K X.mg X.base CX k f fd ps sp) (hr:Room k X.A) (hb:Binds X.K fd ps ds) (hd:Vals dvs ds) (hx:Passes CX X E)
  (I:Inv X pins σ H s) (r:Vals vs us) (h:sp (vs ++ dvs) H Q E):wpAny (model X.prog X.w) X.A (call (.ref f) us) (EP X pins σ Q) X.xe s:=by
 have r2:Vals (vs ++ dvs) (us ++ ds):=r.append hd;have hl:(us ++ ds).length=ps.length:=by rw [<- r2.length];exact F.len _ _ _ _ h
 refine wpAny_call (codeAny_mono (F.run X.A X.stack s H ⟨us,[]⟩ (us ++ ds) (vs ++ dvs) Q E hr I.env0 (hb s us I.kIn hl) r2 h) λr s' hq=>?_)
 cases r with
 | error e=>exact hx pins σ H s e s' I hq
 | ok fl =>
  cases fl with
  | ret u=>exact I.after hq
  | next=>exact False.elim hq
  | brk=>exact False.elim hq
  | cont=>exact False.elim hq

theorem pe_call (F:FnOk X.prog X.w X.K X.mg X.base CX k f fd ps sp) (hr:Room k X.A) (hg:Gl X x) (hm:X.mg x=some (.ref f)) (hk:y0w X.K (.ref f)=true) (hb:Binds X.K fd ps ds) (hd:Vals dvs ds) (hx:Passes CX X E)
  (ha:PA X (e :: es) t) (hdb:(x == ("__debug__" : Str))=false:=by decide) (he:starEach (e :: es) X.env=(false,eval e X.env) :: starEach es X.env:=by rfl) (hpl:(backTo pos (starEach es X.env)).any (·.1)=false:=by rfl) :
  PE X (.Call (.Name x p) (e :: es) [] pos) (tCall sp dvs E t):=by
 intro pins s σ H Q I h;refine wpAny_Call_Name_kw (ld_glob I hg hm ?_ hdb);refine PySem.W.callWith_K (h₀:=X.base) I.ok.mod.kin hk (thn (ha pos pins s σ H _ I h) λus s1 ⟨vs,H1,I1,r,q⟩=>⟨I1.kIn,?_⟩) he hpl;exact run_fn F hr hb hd hx I1 r q
structure Mk (K:q0a) (C f:Addr):Prop where
 makes:PySem.W.makesIn K C=true
 init:u0g K (.ref C) "__init__" = some (some (.ref f))
 fn:PySem.W.isFn K (.ref f)=true
 kp:y0w K (.ref C)=true

end

section
variable {X:Cx} {CX:CXT} {k:Nat} {f C:Addr} {fd:FuncData} {ps ks:List Str} {sp:Sp} {E:XK} {x m:Str} {p pos apos kpos:Pos} {e o:Expr} {es:List Expr} {kws:List Keyword} {te ta:TE} {t tk:TA} {nm:Option Str}
structure KBinds (K:q0a) (fd:FuncData) (ps ks:List Str) (g:List Value->List Value->List Value) (gV:List V->List V->List V):Prop where
 to:∀ (s:Shared) (us ws:List Value),K.In s.heap->(g us ws).length=ps.length->BindsTo s fd ⟨us,ks.zip ws⟩ (ps.zip (g us ws))
 rel:∀ {vs:List V} {us:List Value} {zs:List V} {ws:List Value},Vals vs us->Vals zs ws->Vals (gV vs zs) (g us ws)
variable {g:List Value->List Value->List Value} {gV:List V->List V->List V}
end

structure FnScope (N P:List Str) (sc:Scope):Prop where
 kind:sc.kind=.function
 co:sc.isCoroutine=false
 gen:sc.isGenerator=false
 nd:N.Nodup
 pre:N.take P.length=P
 par:∀ x ∈ P,sc.names.lookup x=some .local \/ sc.names.lookup x=some .cell
 nofree:∀ y ∈ sc.names,y.2 ≠ .free

theorem bindL_out {kindOf:Str->Option NameKind} {x:Str}:∀ {binds:List (Str × Value)} {m:Str->Option Value},(∀ v,(x,v) ∉ binds)->bindL kindOf binds m x=m x
 | [],_,_=>rfl
 | (n,v) :: r,m,h=>by
  unfold bindL;rw [bindL_out λw hw=>h w (z0d _ hw)]
  split
  ·have:x ≠ n:=by rintro rfl;exact h v z0m
   simp [this]
  ·rfl
theorem bindC_out {kindOf:Str->Option NameKind} {x:Str}:∀ {binds:List (Str × Value)} {m:Str->Option Value},(∀ v,(x,v) ∉ binds)->bindC kindOf binds m x=m x
 | [],_,_=>rfl
 | (n,v) :: r,m,h=>by
  unfold bindC;rw [bindC_out λw hw=>h w (z0d _ hw)]
  split
  ·rfl
  ·have:x ≠ n:=by rintro rfl;exact h v z0m
   simp [this]
theorem bindL_get {kindOf:Str->Option NameKind} {x:Str} {v:Value}:∀ {P:List Str} {vs:List Value} {i:Nat} {m:Str->Option Value},P.Nodup->P[i]? = some x->vs[i]? = some v->kindOf x=some .local ->
  bindL kindOf (P.zip vs) m x=some v
 | [],_,_,_,_,h,_,_=>by simp at h
 | _ :: _,[],_,_,_,_,h,_=>by simp at h
 | p :: P,w :: vs,0,m,nd,h1,h2,hk=>by
  simp at h1 h2;subst h1;subst h2
  show bindL kindOf ((p,w) :: P.zip vs) m p=_;unfold bindL;rw [bindL_out λv hv=>(u0y.mp nd).1 (g0z hv).1,if_pos hk]
  simp
 | p :: P,w :: vs,i+1,m,nd,h1,h2,hk=>by
  show bindL kindOf ((p,w) :: P.zip vs) m x=_;unfold bindL;exact bindL_get (i:=i) (u0y.mp nd).2 (by simpa using h1) (by simpa using h2) hk
theorem bindC_get {kindOf:Str->Option NameKind} {x:Str} {v:Value}:∀ {P:List Str} {vs:List Value} {i:Nat} {m:Str->Option Value},P.Nodup->P[i]? = some x->vs[i]? = some v->kindOf x ≠ some .local ->
  bindC kindOf (P.zip vs) m x=some v
 | [],_,_,_,_,h,_,_=>by simp at h
 | _ :: _,[],_,_,_,_,h,_=>by simp at h
 | p :: P,w :: vs,0,m,nd,h1,h2,hk=>by
  simp at h1 h2;subst h1;subst h2
  show bindC kindOf ((p,w) :: P.zip vs) m p=_;unfold bindC;rw [bindC_out λv hv=>(u0y.mp nd).1 (g0z hv).1,if_neg hk]
  simp
 | p :: P,w :: vs,i+1,m,nd,h1,h2,hk=>by
  show bindC kindOf ((p,w) :: P.zip vs) m x=_;unfold bindC;exact bindC_get (i:=i) (u0y.mp nd).2 (by simpa using h1) (by simpa using h2) hk

def start (N:List Str) (vs:List V):St:=vs.map some ++ z0a (N.length-vs.length) none

def cxOf (CX:CXT) (P:Program) (w:World) (K:q0a) (mg:Str->Option Value) (base:Heap) (N:List Str) (qual:Str) (scope:Scope) (f:Addr) (cd:Value) (A:Around) (outer:List Env) (s:Shared) (H:Hp) (E:XK):Cx where
 prog:=P
 w:=w
 K:=K
 mg:=mg
 base:=base
 A:=A.deeper (envOfC qual scope s.heap.objs.size f cd)
 N:=N
 s₀:=s
 H₀:=H
 env:=envOfC qual scope s.heap.objs.size f cd
 outer:=outer
 stack:=envOfC qual scope s.heap.objs.size f cd :: outer
 ex:=[]
 calm:=true
 fn:=λ_=>true
 pn:=[]
 xe:=λe s'=>wpAny (model P w) (A.deeper (envOfC qual scope s.heap.objs.size f cd)) (leaving (envOfC qual scope s.heap.objs.size f cd) e) (λ_ s''=>CX outer H s E e s'') (λe' s''=>CX outer H s E e' s'') s'

theorem cell_has {sc:Scope} {n:Nat} {x:Str} (h:sc.names.lookup x=some .cell):∃ c,(cellsFrom n sc.names []).lookup x=some c:=by
 have q:=m0e sc.names n [] (.inl h);exact u0d.mp q

theorem inv_start {CX:CXT} {P:Program} {w:World} {K:q0a} {mg:Str->Option Value} {base:Heap} {N ps:List Str} {qual:Str} {scope:Scope} {f:Addr} {cd:Value} {A:Around} {outer:List Env} {s s1:Shared} {H:Hp} {E:XK} {us:List Value} {vs:List V}
  (S:FnScope N ps scope) (hd:A.handled=none) (e0:Env0 P w K mg base A outer s H) (hl:vs.length=ps.length) (r:Vals vs us)
  (x:InCallC s s.heap.objs.size (bindL (envOfC qual scope s.heap.objs.size f cd).kindOf (ps.zip us) λ_=>none) (cellsFrom (s.heap.objs.size+1) scope.names []) (bindC (envOfC qual scope s.heap.objs.size f cd).kindOf (ps.zip us) λ_=>none) s1) :
  Inv (cxOf CX P w K mg base N qual scope f cd A outer s H E) [] (start N vs) H s1:=by
 have hpl:ps.length<=N.length:=by have:=congrArg List.length S.pre;rw [q0t] at this;omega
 obtain ⟨h1,tk,rfl,hk⟩:=x.done;have noA:∀ b:Addr,b ∉ (cxOf CX P w K mg base N qual scope f cd A outer s H E).ex:=λb z=>absurd (show b ∈ ([]:List Addr) from z) (by simp)
 refine ⟨⟨e0.mod,S.kind,rfl,rfl,q0n _,λy z c h1 h2=>?_,λy hy=>?_,λy c _ h=>?_,λ_=>hd,Around.frames_deeper e0.frames,.inr ⟨rfl,rfl⟩,λb z=>absurd z (noA b),e0.bs,e0.bsz,λb _ _=>noA b,λb z=>absurd z (noA b),e0.funs,e0.frf⟩,
  rfl,e0.bare,Un.kept hk,⟨_,x.toInCall.ns,λi y v h1 h2 h3=>?_⟩,λy c h=>⟨_,x.cell y c h⟩,e0.hok.fresh (q0n _),λy c h=>?_,λp hp=>absurd (show p ∈ ([]:List (Addr × Obj)) from hp) (by simp),e0.hok.kept hk,?_⟩
 ·exact name_of_addr x.apart (PySem.mem_of_lookup h1) (PySem.mem_of_lookup h2)
 ·have hy:scope.names.lookup y=some .cell \/ scope.names.lookup y=some .free:=hy
  rcases hy with hy | hy
  ·exact cell_has hy
  ·exact absurd rfl (S.nofree _ (PySem.mem_of_lookup hy))
 ·exact v0g (x.above y c (PySem.mem_of_lookup h))
 ·have hi:i<vs.length:=by
   unfold start at h2
   by_cases hi:i<vs.length
   ·exact hi
   ·rw [j0m (by simpa using hi)] at h2
    rw [g0w] at h2
    split at h2 <;> cases h2
  have ha:vs[i]? = some v:=by
   unfold start at h2;rw [j0f (by simpa using hi),q0e] at h2
   cases e:vs[i]? with
   | none=>rw [e] at h2;cases h2
   | some a=>rw [e] at h2;cases h2;rfl
  obtain ⟨u,hu,rv⟩:=r.get ha
  have hp:ps[i]? = some y:=by
   rw [<- S.pre,g0s ⋯];exact h1
  have ndP:ps.Nodup:=by rw [<- S.pre];exact S.nd.sublist (List.take_sublist _ _)
  refine ⟨u,rv,?_⟩;rcases S.par y (q0g hp) with k | k
  ·exact .inl ⟨k,bindL_get ndP hp hu k⟩
  ·obtain ⟨c,e⟩:=cell_has (n:=s.heap.objs.size+1) k
   refine .inr ⟨.inl k,c,e,?_⟩;have q:=x.cell y c e;rw [bindC_get ndP hp hu (by show scope.names.lookup y ≠ _;rw [k];decide)] at q
   exact q
 ·exact e0.hok.fresh (v0g (x.above y c (PySem.mem_of_lookup h)))
 ·unfold start
  show _=N.length;rw [z0n,q0b,u0q];omega

theorem fn_of {CX:CXT} {P:Program} {w:World} {K:q0a} {mg:Str->Option Value} {base:Heap} {k:Nat} {f:Addr} {name qual:Str} {params:Arguments} {body:List Stmt} {scope:Scope} {dV kV doc pm cdv ct oc:Value} {an od:Option Addr}
  {osl:Array (Option Value)} {N ps:List Str} {sp:Sp} (lk:K.lookup f=some ⟨oc,od,.func (v0h name qual params body scope dV kV doc pm an cdv ct),osl⟩) (hcd:m0k K cdv qual=true) (S:FnScope N ps scope)
  (len:∀ vs H Q E,sp vs H Q E->vs.length=ps.length)
  (hbody:∀ (A:Around) (outer:List Env) (s:Shared) (H:Hp) (vs:List V) (Q:VK) (E:XK),Room k (A.deeper (envOfC qual scope s.heap.objs.size f cdv))->sp vs H Q E ->
   ∃ t,PSs (cxOf CX P w K mg base N qual scope f cdv A outer s H E) body t/\t { nx:=λ_ H'=>Q .non H',rt:=Q } (start N vs) H) :
  FnOk P w K mg base CX (k+1) f (v0h name qual params body scope dV kV doc pm an cdv ct) ps sp:=by
 refine ⟨len,λA outer s H args us vs Q E hr e0 hb r hsp=>?_⟩;have hl:=len _ _ _ _ hsp;have KX:K.In s.heap:=e0.mod.kin.keeps λb o e=>(e0.bs b o e).1;have lim:s.heap.NoLimit:=e0.mod.nolimit.keeps λb o e=>(e0.bs b o e).1
 have hkind:∀ y ∈ ps.zip us,scope.names.lookup y.1=some .local \/ (scope.names.lookup y.1=some .cell/\((cellsFrom (s.heap.objs.size+1) scope.names []).lookup y.1).isSome=true):=λ⟨n,v⟩ hy=>by
  rcases S.par n (g0z hy).1 with q | q
  ·exact .inl q
  ·exact .inr ⟨q,m0e _ _ _ (.inl q)⟩
 refine codeAny_call_function hr.depth (KX _ _ lk) rfl S.co S.gen rfl (PySem.W.codeRec_of KX hcd) (hb _ _ _ _ ?_);refine wpAny_newFunctionEnv_cells S.kind hkind λenv he s1 x=>?_;subst he;refine ⟨lim.keeps x.toInCall.keep,codeAny_func ?_⟩;obtain ⟨t,ht,hq⟩:=hbody A outer s H vs Q E (hr.deeper _) hsp;have I:Inv (cxOf CX P w K mg base N qual scope f cdv A outer s H E) [] (start N vs) H s1:=inv_start S hr.hd e0 hl r x;refine wpAny_mono (ht [] s1 (start N vs) H _ I hq) (λfl s' hs=>?_) λe s' hs=>hs
 have fin:∀ {σ':St} {H':Hp} {v:V} {u:Value},Inv (cxOf CX P w K mg base N qual scope f cdv A outer s H E) [] σ' H' s'->RelV v u->Q v H'->CE outer P w H s Q u s' :=
  fun {σ' H' v u} J rv q=>⟨v,H',J.os,J.bare,J.base,J.hok,rv,q⟩
 cases fl with
 | ret u =>
  obtain ⟨v,σ',H',J,rv,q⟩:=hs;exact fin J rv q
 | next =>
  obtain ⟨σ',H',J,q⟩:=hs;exact fin (v:=V.non) (u:=Value.none) J rfl q
 | brk =>
  obtain ⟨_,_,_,q⟩:=hs;exact False.elim q
 | cont =>
  obtain ⟨_,_,_,q⟩:=hs;exact False.elim q
end L2

namespace L2
open PySem PySem.Spec PyProof.Rows
section
variable {X:Cx} {x:Str} {p pos:Pos} {e:Expr} {es:List Expr} {t:TA} {id T:String} {r:List V->Hp->VK->Prop}

def tCB (r:List V->Hp->VK->Prop) (t:TA):TE:=λσ H Q=>t σ H λvs H1=>r vs H1 Q
theorem pe_callB (hc : CallR X (.builtin id) r) (hg : Gl X x) (hm : X.mg x = none) (hv : bootBuiltins x = some (.builtin id)) (ha : PA X (e :: es) t) (hn : x ≠ "__name__" := by decide) (hdb : (x == ("__debug__" : Str)) = false := by decide)
    (he:starEach (e :: es) X.env=(false,eval e X.env) :: starEach es X.env:=by rfl) (hpl:(backTo pos (starEach es X.env)).any (·.1)=false:=by rfl):PE X (.Call (.Name x p) (e :: es) [] pos) (tCB r t):=by
  intro pins s σ H Q I h;refine wpAny_Call_Name_kw (ld_blt I hg hm hv ?_ hn hdb);exact PyProof.Rows.callWith_builtin1 (thn (ha pos pins s σ H _ I h) λus s1 ⟨vs,H1,I1,r1,q1⟩=>hc pins s1 σ H1 vs us Q I1 r1 q1) he hpl
theorem pe_callTy (hc : CallR X (.type T) r) (hg : Gl X x) (hm : X.mg x = none) (hv : bootBuiltins x = some (.type T)) (ha : PA X (e :: es) t) (hn : x ≠ "__name__" := by decide) (hdb : (x == ("__debug__" : Str)) = false := by decide)
    (he:starEach (e :: es) X.env=(false,eval e X.env) :: starEach es X.env:=by rfl) (hpl:(backTo pos (starEach es X.env)).any (·.1)=false:=by rfl):PE X (.Call (.Name x p) (e :: es) [] pos) (tCB r t):=by
  intro pins s σ H Q I h;refine wpAny_Call_Name_kw (ld_blt I hg hm hv ?_ hn hdb);exact PyProof.Rows.callWith_type1 (thn (ha pos pins s σ H _ I h) λus s1 ⟨vs,H1,I1,r1,q1⟩=>hc pins s1 σ H1 vs us Q I1 r1 q1) he hpl
end
end L2

namespace HT
open PySem PyProof.Rows

section
open PySem.SeqAt
open PySem.AutoSeq1 (wpAny_loadPart')
open PySem.MeetsSeq PySem.MeetsSeq2 PySem.MeetsSeq3

end

section
variable {prog:Program} {w:World} {A:Around} {E:Value->Shared->Prop} {s:Shared}

def sIx (n d:Nat):Option Int->Nat
 | none=>d
 | some v=>if v<0 then (v+(n:Int)).toNat else min v.toNat n
end
end HT

namespace L2
open PySem PySem.Spec PyProof.Rows

abbrev TO:=St->Hp->(Option Int->Hp->Prop)->Prop
def PO (X:Cx) (e:Option Expr) (t:TO):Prop :=
 ∀ (pins:List (Addr × Obj)) (s:Shared) (σ:St) (H:Hp) (Q:Option Int->Hp->Prop),Inv X pins σ H s->t σ H Q ->
  wpAny (model X.prog X.w) X.A (evalPart e X.env) (λu s' => ∃ o H',Inv X pins σ H' s'/\IsPart u o/\Q o H') X.xe s
def tNoPart:TO:=λ_ H Q=>Q none H
def tPart (t:TE):TO:=λσ H Q=>t σ H λx H1 => ∃ i,x=.int i/\Q (some i) H1

section
variable {X:Cx} {e:Expr} {te:TE} {lo hi:Option Expr} {tl th:TO} {pos p2:Pos}

theorem po_none:PO X none tNoPart:=by
 intro pins s σ H Q I h;rw [evalPart_none];exact wpAny_pure ⟨none,H,I,.none,h⟩
theorem po_some (h:PE X e te):PO X (some e) (tPart te):=by
 intro pins s σ H Q I hw;rw [evalPart_some];refine thn (h pins s σ H _ I hw) λu s1 zq=>?_;obtain ⟨x,H1,I1,r1,q1⟩:=zq;obtain ⟨i,rfl,q⟩:=q1;obtain ⟨t,rfl⟩:=r1;exact ⟨some i,H1,I1,.int i t,q⟩

def SlR (X:Cx) (r:V->Option Int->Option Int->Hp->VK->Prop):Prop :=
 ∀ (pins:List (Addr × Obj)) (s:Shared) (σ:St) (H:Hp) (x:V) (v vl vu:Value) (lo hi:Option Int) (sl:Addr) (Q:VK),Inv X pins σ H s->RelV x v->s.heap.IsSliceOf sl vl vu .none->IsPart vl lo->IsPart vu hi->r x lo hi H Q ->
  ∃ T id,typeLookup (.type T) "__getitem__" = pure (some (.builtin id))/\s.TypeIs v T/\wpAny (model X.prog X.w) X.A (getItem v (.ref sl)) (EP X pins σ Q) X.xe s
def tSl (r:V->Option Int->Option Int->Hp->VK->Prop) (te:TE) (tl th:TO):TE:=λσ H Q=>te σ H λx H1=>tl σ H1 λl H2=>th σ H2 λu H3=>r x l u H3 Q
theorem pe_slice {r:V->Option Int->Option Int->Hp->VK->Prop} (hr:SlR X r) (he:PE X e te) (hl:PO X lo tl) (hu:PO X hi th):PE X (.Subscript e (.Slice lo hi none p2) pos) (tSl r te tl th):=by
 intro pins s σ H Q I h;refine Subscript_ (thn (he pins s σ H _ I h) λv s1 zq=>?_);obtain ⟨x,H1,I1,r1,q1⟩:=zq;refine wpAny_Slice (thn (hl pins s1 σ H1 _ I1 q1) λvl s2 ⟨l,H2,I2,pl,q2⟩=>thn (hu pins s2 σ H2 _ I2 q2) λvu s3 zq=>?_);obtain ⟨u,H3,I3,pu,q3⟩:=zq;rw [evalPart_none];refine wpAny_pure ?_;have I4:Inv X pins σ H3 { s3 with heap:=s3.heap.push { cls:=.type "slice",data:=.fields #[vl,vu,.none] } }:=I3.kept (t':=s3.toks) λb ob q=>q0j _ q
 obtain ⟨T,id,hT,ht,hg⟩:=hr pins { s3 with heap:=s3.heap.push { cls:=.type "slice",data:=.fields #[vl,vu,.none] } } σ H3 x v vl vu l u s3.heap.objs.size Q I4 r1 (Heap.IsSliceOf.new ..) pl pu q3
 show wpAny (model X.prog X.w) X.A (subscriptTail e (.Slice lo hi none p2) v (.ref s3.heap.objs.size)) (EP X pins σ Q) X.xe { s3 with heap:=s3.heap.push { cls:=.type "slice",data:=.fields #[vl,vu,.none] } }
 exact tail_any (ops:=[.ref s3.heap.objs.size,v]) ht hT hg (by with_unfolding_all rfl)

def cutV (xs:List V) (lo hi:Option Int):List V:=(xs.drop (HT.sIx xs.length 0 lo)).take (HT.sIx xs.length xs.length hi-HT.sIx xs.length 0 lo)
theorem cutV_length (xs:List V) (lo hi:Option Int):(cutV xs lo hi).length<=xs.length:=by
 unfold cutV;rw [q0t,y0f];omega
end
end L2

namespace L2
open PySem PySem.Spec PyProof.Rows

def ixN (n:Nat) (i:Int):Option Nat:=if 0<=i then (if i<n then some i.toNat else none) else if -(n:Int)<=i then some (i+n).toNat else none
def atI {α:Type} (xs:List α) (i:Int):Option α:=(ixN xs.length i).bind λj=>xs[j]?
theorem ixN_seq {n:Nat} {i:Int} {j:Nat} (h:ixN n i=some j):seqIndex? i n=some j/\j<n/\-(n:Int)<=i/\i<n:=by
 unfold ixN at h
 by_cases h0:0<=i
 ·rw [if_pos h0] at h
  by_cases h1:i<n
  ·rw [if_pos h1] at h
   have e:i.toNat=j:=Option.some.inj h;exact ⟨by rw [seqIndex_of h0 h1,e],⋯,⋯,h1⟩
  ·rw [if_neg h1] at h;cases h
 ·rw [if_neg h0] at h
  by_cases h1:-(n:Int)<=i
  ·rw [if_pos h1] at h
   have e:(i+n).toNat=j:=Option.some.inj h;exact ⟨by rw [seqIndex_neg ⋯ h1,e],⋯,h1,⋯⟩
  ·rw [if_neg h1] at h;cases h
theorem atI_get {α:Type} {xs:List α} {i:Int} {v:α} (h:atI xs i=some v):∃ j,seqIndex? i xs.length=some j/\xs[j]? = some v/\j<xs.length/\-(xs.length:Int)<=i/\i<xs.length:=by
 unfold atI at h
 cases e:ixN xs.length i with
 | none=>rw [e] at h;cases h
 | some j =>
  rw [e] at h;obtain ⟨h1,h2,h3,h4⟩:=ixN_seq e;exact ⟨j,h1,h,h2,h3,h4⟩
theorem atI_nat {α:Type} {xs:List α} {j:Nat} {v:α} (h:xs[j]? = some v):atI xs (j:Int)=some v:=by
 have hj:j<xs.length:=(q0d.mp h).1
 have e:ixN xs.length (j:Int)=some j:=by
  unfold ixN;rw [if_pos ⋯,if_pos ⋯];simp
 unfold atI;rw [e];exact h
def PlainIx (b:Expr):Prop:=∀ o i,subscripted b false o i=operate [o,i] (getItem o i)
def IxR (X:Cx) (r:R2):Prop :=
 ∀ (value slice:Expr) (pins:List (Addr × Obj)) (s:Shared) (σ:St) (H:Hp) (x y:V) (v u:Value) (Q:VK),Inv X pins σ H s->RelV x v->RelV y u->r x y H Q ->
  subscripted slice false v u=operate [v,u] (getItem v u)->wpAny (model X.prog X.w) X.A (subscriptTail value slice v u) (EP X pins σ Q) X.xe s
def MtR (X:Cx) (id:String) (r:V->List V->Hp->VK->Prop):Prop :=
 ∀ (pins:List (Addr × Obj)) (s:Shared) (σ:St) (H:Hp) (x:V) (xs:List V) (v:Value) (us:List Value) (Q:VK),Inv X pins σ H s->RelV x v->Vals xs us->r x xs H Q ->
  wpAny (model X.prog X.w) X.A (call (.builtin id) (v :: us)) (EP X pins σ Q) X.xe s
section
variable {X:Cx} {a b:Expr} {ta tb:TE} {pos:Pos}
theorem pe_ix {r:R2} (hr:IxR X r) (ha:PE X a ta) (hb:PE X b tb) (hs:PlainIx b):PE X (.Subscript a b pos) (tOp r ta tb):=by
 intro pins s σ H Q I h;exact Subscript_ (binT ha hb I h λv u s2 x y H2 I2 rx ry q=>hr a b pins s2 σ H2 x y v u Q I2 rx ry q (hs _ _))

def rIxL (K:q0a):R2:=λx y H Q => ∃ p xs i v,x=.ref p/\y=.int i/\SqL K H p xs/\atI xs i=some v/\Q v H
def rIxT (K:q0a):R2:=λx y H Q => ∃ p xs i v,x=.ref p/\y=.int i/\SqT K H p xs/\atI xs i=some v/\Q v H
theorem ix_list:IxR X (rIxL X.K):=by
 intro value slice pins s σ H x y v u Q I rx ry h hs;obtain ⟨p,xs,i,z,rfl,rfl,hq,he,q⟩:=h
 cases rx
 obtain ⟨t,rfl⟩:=ry;obtain ⟨its,r,pl,hz⟩:=I.list hq;obtain ⟨j,h1,h2,h3,h4,h5⟩:=atI_get he;obtain ⟨w,ew,rw'⟩:=r.get h2;have hl:=r.length;have hn:=line63;have fin:EP X pins σ Q w s:=⟨z,H,I,rw',q⟩
 by_cases h0:0<=i
 ·have hj:i.toNat=j:=by
   rw [seqIndex_of h0 h5] at h1;exact Option.some.inj h1
  exact item_listR pl.isList h0 ⋯ (by rw [hj];simpa using ew) fin hs
 ·have hj:(i+(its.toArray.size:Int)).toNat=j:=by
   rw [seqIndex_neg ⋯ h4] at h1;rw [q0q,<- hl];exact Option.some.inj h1
  exact subscriptTail_builtinR (x:=w) pl.isList.typeIs slot_list_getitem.lookup
   (wpAny_getItem_list_neg (Q:=λr s'=>r=w/\EP X pins σ Q r s') pl.isList ⋯ (by rw [q0q] <;> omega) ⋯ (by rw [hj];simpa using ew) ⟨rfl,fin⟩) hs
theorem ix_tup:IxR X (rIxT X.K):=by
 intro value slice pins s σ H x y v u Q I rx ry h hs;obtain ⟨p,xs,i,z,rfl,rfl,hq,he,q⟩:=h
 cases rx
 obtain ⟨t,rfl⟩:=ry;obtain ⟨its,r,pl,hz⟩:=I.tuple hq;obtain ⟨j,h1,h2,h3,h4,h5⟩:=atI_get he;obtain ⟨w,ew,rw'⟩:=r.get h2;have hl:=r.length;have hn:=line63;have fin:EP X pins σ Q w s:=⟨z,H,I,rw',q⟩
 exact subscriptTail_builtinR (x:=w) pl.typeIs slot_tuple_getitem.lookup
  (getItem_tuple (j:=j) (Q:=λr s'=>r=w/\EP X pins σ Q r s') pl ⋯ ⋯ (by rw [q0q,<- hl];exact h1) (by simpa using ew) ⟨rfl,fin⟩) hs
theorem mapSeq_set (its:List Value) (n j:Nat) (u:Value):Obj.mapSeq (·.setIfInBounds j u) { cls:=.type "list",data:=.seq its.toArray n }={ cls:=.type "list",data:=.seq (its.set j u).toArray n }:=by
 simp [Obj.mapSeq]
theorem Inv.lst {pins:List (Addr × Obj)} {σ:St} {H:Hp} {s:Shared} {p:Addr} {xs:List V} (I:Inv X pins σ H s) (h:H p=some (.lst xs)) :
  ∃ (its:List Value) (n:Nat),Vals xs its/\s.heap.get? p=some { cls:=.type "list",data:=.seq its.toArray n }/\xs.length<=sizeLine:=by
 obtain ⟨z,its,n,r,e⟩:=I.hok p _ h;exact ⟨its,n,r,e,z⟩
theorem Inv.lstUpd {pins:List (Addr × Obj)} {σ:St} {H:Hp} {s:Shared} {p:Addr} {xs ys:List V} {its its':List Value} {n n':Nat} {f:Obj->Obj} (I:Inv X pins σ H s) (h:H p=some (.lst xs))
  (ho:s.heap.get? p=some { cls:=.type "list",data:=.seq its.toArray n }) (hf:f { cls:=.type "list",data:=.seq its.toArray n }={ cls:=.type "list",data:=.seq its'.toArray n' }) (r:Vals ys its') (hz:ys.length<=sizeLine) (t:Nat) :
  Inv X pins σ (upd H p (.lst ys)) { s with heap:=s.heap.update p f,toks:=t }:=by
 have e:(s.heap.update p f).get? p=some { cls:=.type "list",data:=.seq its'.toArray n' }:=by
  rw [Heap.get?_update_self f ho (by rw [hf] <;> rfl),hf]
 refine I.write (x:=p) (e:=p) (by rw [h];trivial) (.inl rfl) (λb u hb q=>(m0f _ _ (Ne.symm hb)).trans q) ⟨_,e⟩ ?_
 exact ⟨hz,its',n',r,e⟩
def rSetL:V->V->V->Hp->(Hp->Prop)->Prop:=λo i v H Q => ∃ p xs k j,o=.ref p/\i=.int k/\H p=some (.lst xs)/\ixN xs.length k=some j/\Q (upd H p (.lst (xs.set j v)))
theorem set_list:PSet X rSetL:=by
 intro pins s σ H o i v ov iv u Q I ro ri rv h;obtain ⟨p,xs,k,j,rfl,rfl,hp,hj,q⟩:=h
 cases ro
 obtain ⟨t,rfl⟩:=ri;obtain ⟨its,n,r,ho,hz⟩:=I.lst hp;obtain ⟨h1,h2,h3,h4⟩:=ixN_seq hj;have hl:=r.length;have hn:=line63
 have I':Inv X pins σ (upd H p (.lst (xs.set j v))) { s with heap:=s.heap.update p (Obj.mapSeq (·.setIfInBounds j u)) } :=
  I.lstUpd hp ho (mapSeq_set its n j u) (r.set rv j) (by rw [j0p];exact hz) s.toks
 by_cases h0:0<=k
 ·have hk:k.toNat=j:=by
   rw [seqIndex_of h0 h4] at h1;exact Option.some.inj h1
  exact PySem.W.ki_setAt ho h0 ⋯ (by rw [q0q,<- hl];exact h4) (by rw [hk];exact ⟨_,I',q⟩)
 ·have hk:(k+(its.toArray.size:Int)).toNat=j:=by
   rw [seqIndex_neg ⋯ h3] at h1;rw [q0q,<- hl];exact Option.some.inj h1
  exact PySem.W.ki_setBack ho ⋯ (by rw [q0q,<- hl];exact h3) ⋯ (by rw [hk];exact ⟨_,I',q⟩)

theorem slice_bounds (lo hi:Option Int) (n:Nat):(sliceBounds lo hi none n).1=((HT.sIx n 0 lo:Nat):Int)/\(sliceBounds lo hi none n).2.1=((HT.sIx n n hi:Nat):Int)/\(sliceBounds lo hi none n).2.2=1:=by
 refine ⟨?_,?_,rfl⟩
 ·cases lo with
  | none=>simp [sliceBounds,HT.sIx]
  | some i =>
   simp only [sliceBounds,HT.sIx,Option.getD_none,show (1:Int) > 0 by decide,if_true]
   by_cases h:i<0
   ·simp only [h,if_true] <;> omega
   ·simp only [h,if_false] <;> omega
 ·cases hi with
  | none=>simp [sliceBounds,HT.sIx]
  | some i =>
   simp only [sliceBounds,HT.sIx,Option.getD_none,show (1:Int) > 0 by decide,if_true]
   by_cases h:i<0
   ·simp only [h,if_true] <;> omega
   ·simp only [h,if_false] <;> omega
theorem slicePick_cut (its:List Value) (lo hi:Option Int):slicePick its.toArray lo hi none=((its.drop (HT.sIx its.length 0 lo)).take (HT.sIx its.length its.length hi-HT.sIx its.length 0 lo)).toArray:=by
 obtain ⟨h1,h2,h3⟩:=slice_bounds lo hi its.toArray.size;unfold slicePick;rw [h1,h2,h3];simp only [sliceRange_one,pick_run,q0q] <;> rfl
def rSlL (K:q0a):V->Option Int->Option Int->Hp->VK->Prop:=λx lo hi H Q => ∃ a xs,x=.ref a/\SqL K H a xs/\∀ p,H p=none->Q (.ref p) (upd H p (.lst (cutV xs lo hi)))
theorem sl_list:SlR X (rSlL X.K):=by
 intro pins s σ H x v vl vu lo hi sl Q I rx hs pl pu h;obtain ⟨a,xs,rfl,hx,q⟩:=h
 cases rx
 obtain ⟨its,r,ht,hz⟩:=I.list hx;have hlen:=r.length;refine ⟨"list",_,slot_list_getitem.lookup,ht.isList.typeIs,?_⟩
 refine wpAny_getItem_list_slice ht.isList hs pl pu .none (by simp) ?_ (by rw [q0q] <;> omega)
 rw [slicePick_cut,<- hlen];refine ⟨.ref s.heap.objs.size,_,I.laid (t':=s.toks) (o:=.lst (cutV xs lo hi)) (λb ob q=>q0j _ q) (q0n _) ?_,rfl,q _ (I.hok.fresh (q0n _))⟩;exact ⟨q0y (cutV_length xs lo hi) hz,_,0,(r.drop (HT.sIx xs.length 0 lo)).take (HT.sIx xs.length xs.length hi-HT.sIx xs.length 0 lo),z0u _ rfl⟩

def flatV:V->Bool
 | .non=>true
 | .bl _=>true
 | .int _=>true
 | .str _=>true
 | _=>false
def eqV:V->V->Bool
 | .non,.non=>true
 | .bl a,.bl b=>a == b
 | .bl a,.int b=>(if a then 1 else 0) == b
 | .int a,.bl b=>a == (if b then 1 else 0)
 | .int a,.int b=>a == b
 | .str a,.str b=>a == b
 | _,_=>false
theorem eqAt_V {A:Around} {s:Shared} {y x:V} {u v:Value} (ry:RelV y u) (rx:RelV x v) (fy:flatV y=true) (fx:flatV x=true):SeqAt.EqAt A s u v (eqV y x):=by
 cases y with
 | non =>
  cases ry
  cases x with
  | non=>cases rx;exact SeqAt.EqAt.same _
  | bl b=>cases rx;exact SeqAt.EqAt.none_bool b
  | int b=>obtain ⟨t,rfl⟩:=rx;exact SeqAt.EqAt.none_int b t
  | str b=>obtain ⟨t,rfl⟩:=rx;exact SeqAt.EqAt.none_str b t
  | _=>exact absurd (show false=true from fx) q0p
 | bl a =>
  cases ry
  cases x with
  | non=>cases rx;exact SeqAt.EqAt.bool_none a
  | bl b=>cases rx;exact SeqAt.EqAt.bool_bool a b
  | int b=>obtain ⟨t,rfl⟩:=rx;exact SeqAt.EqAt.bool_int a b t
  | str b=>obtain ⟨t,rfl⟩:=rx;exact SeqAt.EqAt.bool_str a b t
  | _=>exact absurd (show false=true from fx) q0p
 | int a =>
  obtain ⟨t',rfl⟩:=ry
  cases x with
  | non=>cases rx;exact SeqAt.EqAt.int_none a t'
  | bl b=>cases rx;exact SeqAt.EqAt.int_bool a t' b
  | int b=>obtain ⟨t,rfl⟩:=rx;exact SeqAt.EqAt.int_int a t' b t
  | str b=>obtain ⟨t,rfl⟩:=rx;exact SeqAt.EqAt.int_str a t' b t
  | _=>exact absurd (show false=true from fx) q0p
 | str a =>
  obtain ⟨t',rfl⟩:=ry
  cases x with
  | non=>cases rx;exact SeqAt.EqAt.str_none a t'
  | bl b=>cases rx;exact SeqAt.EqAt.str_bool a t' b
  | int b=>obtain ⟨t,rfl⟩:=rx;exact SeqAt.EqAt.str_int a t' b t
  | str b=>obtain ⟨t,rfl⟩:=rx;exact SeqAt.EqAt.str_str a t' b t
  | _=>exact absurd (show false=true from fx) q0p
 | _=>exact absurd (show false=true from fy) q0p
def eqU (x:V) (u:Value):Bool:=match u with
 | .none=>eqV .non x
 | .bool b=>eqV (.bl b) x
 | .int i _=>eqV (.int i) x
 | .str z _=>eqV (.str z) x
 | _=>false
theorem eqU_of {x y:V} {u:Value} (r:RelV y u) (f:flatV y=true):eqU x u=eqV y x:=by
 cases y with
 | non=>cases r;rfl
 | bl b=>cases r;rfl
 | int i=>obtain ⟨t,rfl⟩:=r;rfl
 | str z=>obtain ⟨t,rfl⟩:=r;rfl
 | _=>exact absurd (show false=true from f) q0p
theorem mem_eqAt {A:Around} {s:Shared} {x:V} {v:Value} (rx:RelV x v) (fx:flatV x=true):∀ {xs:List V} {us:List Value},Vals xs us->xs.all flatV=true->∀ u ∈ us,SeqAt.EqAt A s u v (eqU x u)
 | _,_,.nil,_=>λu hu=>by cases hu
 | y :: xs,u :: us,.cons r t,f=>λu' hu=>by
  rw [g0h,y0g] at f;rcases j0v.mp hu with rfl | hu
  ·rw [eqU_of r f.1];exact eqAt_V r rx f.1 fx
  ·exact mem_eqAt rx fx t f.2 u' hu
theorem call_len_seq:CallR X (.builtin "len") (λxs H Q => ∃ p ys,xs=[.ref p]/\(SqL X.K H p ys \/ SqT X.K H p ys)/\Q (.int ys.length) H):=by
 intro pins s σ H xs us Q I r h;obtain ⟨p,ys,rfl,hq,q⟩:=h;obtain ⟨u,rfl,rx⟩:=vals1 r
 cases rx
 have hn:=line63;rcases hq with hq | hq
 ·obtain ⟨its,r',pl,hz⟩:=I.list hq
  have hlen:=r'.length;exact Calls.call_len_list pl.isList (by simp only [q0q] <;> omega) ⟨.int ys.length,H,I.tok _,⟨s.toks+1,by rw [q0q,hlen]⟩,q⟩
 ·obtain ⟨its,r',pl,hz⟩:=I.tuple hq
  have hlen:=r'.length;exact len_tuple pl (by simp only [q0q] <;> omega) ⟨.int ys.length,H,I.tok _,⟨s.toks+1,by rw [q0q,hlen]⟩,q⟩
theorem call_list_of:CallR X (.type "list") (λxs H Q => ∃ p ys,xs=[.ref p]/\(SqL X.K H p ys \/ SqT X.K H p ys)/\∀ l,H l=none->Q (.ref l) (upd H l (.lst ys))):=by
 intro pins s σ H xs us Q I r h;obtain ⟨p,ys,rfl,hq,q⟩:=h;obtain ⟨u,rfl,rx⟩:=vals1 r
 cases rx
 have fin:∀ (its:List Value),Vals ys its->ys.length<=sizeLine->∀ (h':Heap) (c':Nat),(∀ b o',s.heap.get? b=some o'->h'.get? b=some o') ->
   h'.get? s.heap.objs.size=some { cls:=.type "list",dict:=none,data:=.seq its.toArray c',slots:=#[] }->EP X pins σ Q (.ref s.heap.objs.size) { s with heap:=h' }:=λits r' hz h' c' kp e =>
  ⟨.ref s.heap.objs.size,_,I.laid (t':=s.toks) kp (q0n _) (show ObjOk X.prog X.w _ h' _ (.lst ys) from ⟨hz,its,c',r',e⟩),rfl,q _ (I.hok.fresh (q0n _))⟩
 rcases hq with hq | hq
 ·obtain ⟨its,r',pl,hz⟩:=I.list hq
  have hlen:=r'.length;obtain ⟨o,ho,hc,n,hd⟩:=pl.isList;exact call_list_seq p (.inl rfl) ho hc hd (λh' c' kp e=>fin its r' hz h' c' kp e) (by simp only [q0q] <;> omega)
 ·obtain ⟨its,r',pl,hz⟩:=I.tuple hq
  have hlen:=r'.length;obtain ⟨o,ho,hc,n,hd⟩:=pl;exact call_list_seq p (.inr rfl) ho hc hd (λh' c' kp e=>fin its r' hz h' c' kp e) (by simp only [q0q] <;> omega)
def tyV (K:PySem.W.Frag) (T:String) (x:V) (H:Hp):Prop:=match x with
  | .str _=>T = "str"
  | .int _=>T = "int"
  | .ref p => (T = "list" ∧ ∃ xs, SqL K H p xs) ∨ (T = "tuple" ∧ ∃ o, K.lookup p = some o ∧ o.cls = .type "tuple" ∧ o.dict = none) ∨
      (T = "dict"/\((∃ kvs,H p=some (.dK kvs)) \/ ∃ kvs,H p=some (.dT kvs))) \/ (T = "set"/\∃ S n,H p=some (.set S n))
  | _=>False
theorem tyV_is {pins:List (Addr × Obj)} {σ:St} {H:Hp} {s:Shared} {T:String} {x:V} {v:Value} (I:Inv X pins σ H s) (r:RelV x v) (ty:tyV X.K T x H) :
  s.TypeIs v T/\∀ a,v=.ref a->∃ ob,s.heap.get? a=some ob/\ob.dict=none:=by
 cases x with
 | str z =>
  obtain ⟨t,rfl⟩:=r
  cases (show T = "str" from ty)
  exact ⟨typeIs_str s z t,λ_ e=>nomatch e⟩
 | int i =>
  obtain ⟨t,rfl⟩:=r
  cases (show T = "int" from ty)
  exact ⟨typeIs_int s i t,λ_ e=>nomatch e⟩
 | ref p =>
  cases r
  rcases ty with ⟨rfl,xs,hq⟩ | ⟨rfl,o,hk,hc,hd⟩ | ⟨rfl,hk⟩ | ⟨rfl,S,n,hk⟩
  ·obtain ⟨its,_,pl,_⟩:=I.list hq
   refine ⟨pl.isList.typeIs,λa e=>?_⟩
   cases e
   obtain ⟨o,n,e,c,hd,_⟩:=pl;exact ⟨o,e,hd⟩
  ·refine ⟨⟨o,I.kIn p o hk,hc⟩,λa e=>?_⟩
   cases e
   exact ⟨o,I.kIn _ o hk,hd⟩
  ·have z:∃ o,s.heap.get? p=some o/\o.ExactDict:=by
    rcases hk with ⟨kvs,hk⟩ | ⟨kvs,hk⟩
    ·obtain ⟨_,_,_,_,o,_,_,e,ex,_⟩:=I.hok p _ hk
     exact ⟨o,e,ex⟩
    ·obtain ⟨_,_,_,_,o,_,_,e,ex,_⟩:=I.hok p _ hk
     exact ⟨o,e,ex⟩
   obtain ⟨o,e,ex⟩:=z;refine ⟨⟨o,e,ex.1⟩,λa e2=>?_⟩
   cases e2
   exact ⟨o,e,ex.2.1⟩
  ·obtain ⟨o,_,_,_,e,ex,_⟩:=I.hok p _ hk
   refine ⟨⟨o,e,ex.1⟩,λa e2=>?_⟩
   cases e2
   exact ⟨o,e,ex.2.1⟩
 | _=>exact False.elim ty
def tBM0 (K:q0a) (T:String) (r:V->List V->Hp->VK->Prop) (to:TE):TE:=λσ H Q=>to σ H λx H1=>tyV K T x H1/\r x [] H1 Q
def tBM (K:q0a) (T:String) (r:V->List V->Hp->VK->Prop) (to:TE) (t:TA):TE:=λσ H Q=>to σ H λx H1=>tyV K T x H1/\t σ H1 λxs H2=>r x xs H2 Q
variable {o e:Expr} {es:List Expr} {to:TE} {t:TA} {name:Str} {apos cpos:Pos} {T id:String} {r:V->List V->Hp->VK->Prop}
theorem pe_bm0 (pa:PlainAttrs T) (slot:Slot T name id) (hty:typeOf (.builtin id)=pure (.type "method_descriptor")) (hm:MtR X id r) (ho:PE X o to)
  (hbase:attributeBase o name X.env (eval o X.env)=eval o X.env:=by rfl) (hline:(apos.endLine == cpos.line)=true:=by rfl):PE X (.Call (.Attribute o name apos) [] [] cpos) (tBM0 X.K T r to):=by
 intro pins s σ H Q I h;refine wpAny_Call_method0_late hbase hline (thn (ho pins s σ H _ I h) λv s1 zq=>?_);obtain ⟨x,H1,I1,r1,ty,q1⟩:=zq;obtain ⟨h1,h2⟩:=tyV_is I1 r1 ty;exact ⟨T,id,pa,slot,hty,h1,h2,Calls.callWith_builtin rfl (PySem.evalArgs_none (hm pins s1 σ H1 x [] v [] Q I1 r1 .nil q1))⟩
theorem pe_bm (pa:PlainAttrs T) (slot:Slot T name id) (hty:typeOf (.builtin id)=pure (.type "method_descriptor")) (hm:MtR X id r) (ho:PE X o to) (ha:PA X (e :: es) t)
  (hbase:attributeBase o name X.env (eval o X.env)=eval o X.env:=by rfl)
  (hfew:((backTo cpos (starEach (e :: es) X.env)).all (λx => !x.1) && (backToKw cpos (keywordEach [] X.env)).all (λx=>x.1.isSome)
   && decide ((e :: es).length+([]:List Keyword).length+(if ([]:List Keyword).isEmpty then 0 else 1)<30))=true:=by rfl)
  (hline:(apos.endLine == cpos.line)=true:=by rfl) (hs:starEach (e :: es) X.env=(false,eval e X.env) :: starEach es X.env:=by rfl) (hplain:(backTo cpos (starEach es X.env)).any (·.1)=false:=by rfl) :
  PE X (.Call (.Attribute o name apos) (e :: es) [] cpos) (tBM X.K T r to t):=by
 intro pins s σ H Q I h;refine wpAny_Call_method_late hbase hfew hline rfl (thn (ho pins s σ H _ I h) λv s1 zq=>?_);obtain ⟨x,H1,I1,r1,ty,q1⟩:=zq;obtain ⟨h1,h2⟩:=tyV_is I1 r1 ty;refine ⟨T,id,pa,slot,hty,h1,h2,?_⟩;have hA:=ha cpos pins s1 σ H1 _ I1 q1;rw [hs] at hA ⊢;refine Calls.callWith_builtin (by show (false || (backTo cpos (starEach es X.env)).any (·.1))=false;rw [hplain] <;> rfl) (Calls.evalArgs_plain ?_)
 refine thn hA λus s2 zq=>?_;obtain ⟨vs,H2,I2,r2,q2⟩:=zq;exact hm pins s2 σ H2 x vs v us Q I2 r1 r2 q2
end
end L2

namespace L2
open PySem PySem.Spec PyProof.Rows

def MtM (X:Cx) (id:String) (r:V->List V->Hp->VK->Prop):Prop :=
 ∀ (pins:List (Addr × Obj)) (s:Shared) (σ:St) (H:Hp) (x:V) (xs:List V) (v:Value) (us:List Value) (Q:VK),Inv X pins σ H s->RelV x v->Vals xs us->r x xs H Q ->
  wpAny (model X.prog X.w) X.A (call (.builtin id) (v :: us)) (EP X pins σ Q) X.xe s

theorem Vals.one:∀ {x:V} {us:List Value},Vals [x] us->∃ u,us=[u]/\RelV x u
 | _,_,.cons r .nil=>⟨_,rfl,r⟩
theorem Vals.two:∀ {x y:V} {us:List Value},Vals [x,y] us->∃ u v,us=[u,v]/\RelV x u/\RelV y v
 | _,_,_,.cons r (.cons q .nil)=>⟨_,_,rfl,r,q⟩
theorem Vals.zero:∀ {us:List Value},Vals [] us->us=[]
 | _,.nil=>rfl
theorem Vals.rep {xs:List V} {us:List Value} (h:Vals xs us):∀ k:Nat,Vals (z0a k xs).flatten (z0a k us).flatten
 | 0=>.nil
 | k+1=>by
  rw [v0k,v0k,u0h,u0h];exact Vals.append h (Vals.rep h k)
theorem foldl_rep (its:List Value):∀ (k:Nat) (acc:List Value),
  List.foldl (λx1 x2=>x1 ++ x2) acc.toArray (z0a k its.toArray)=(acc ++ (z0a k its).flatten).toArray
 | 0,acc=>by simp
 | k+1,acc=>by
  have e:acc.toArray ++ its.toArray=(acc ++ its).toArray:=by simp
  have e2:(acc ++ its) ++ (z0a k its).flatten=acc ++ (z0a (k+1) its).flatten:=by
   rw [v0k,u0h,List.append_assoc]
  rw [<- e2,<- foldl_rep its k (acc ++ its),<- e,v0k,v0a]

section
variable {X:Cx} {pins:List (Addr × Obj)} {σ:St} {H:Hp} {s:Shared} {l b:Addr} {xs ys zs:List V}

theorem Inv.lset {its its':List Value} {n:Nat} {f:Array Value->Array Value} {t':Nat} (I:Inv X pins σ H s) (hH:H l=some (.lst xs))
  (e:s.heap.get? l=some { cls:=.type "list",data:=.seq its.toArray n }) (hf:f its.toArray=its'.toArray) (hv:Vals ys its') (hz:ys.length<=sizeLine) :
  Inv X pins σ (upd H l (.lst ys)) { s with heap:=s.heap.update l (Obj.mapSeq f),toks:=t' }:=by
 have q:=PySem.IsL.update e f;rw [hf] at q;refine I.write (x:=l) (e:=l) (by rw [hH];exact trivial) (.inl rfl) (λb' u hb hu=>(m0f s.heap (Obj.mapSeq f) (Ne.symm hb)).trans hu) ⟨_,q⟩ ?_
 exact ⟨hz,its',_,hv,q⟩
theorem Inv.lnew {its:List Value} {t':Nat} (I:Inv X pins σ H s) (hv:Vals ys its) (hz:ys.length<=sizeLine) :
  Inv X pins σ (upd H s.heap.objs.size (.lst ys)) { s with heap:=s.heap.push { cls:=.type "list",data:=.seq its.toArray },toks:=t' } :=
 I.laid (λ_ _ q=>q0j _ q) (q0n _) ⟨hz,its,0,hv,z0u _ rfl⟩
theorem Inv.fresh (I:Inv X pins σ H s):H s.heap.objs.size=none:=I.hok.fresh (q0n _)
theorem Inv.lstM (I:Inv X pins σ H s) (hH:H l=some (.lst xs)):xs.length<=sizeLine/\∃ (its:List Value) (n:Nat),Vals xs its/\xs.length=its.length/\s.heap.get? l=some { cls:=.type "list",data:=.seq its.toArray n }:=by
 obtain ⟨z,its,n,r,e⟩:=I.hok l _ hH;exact ⟨z,its,n,r,r.length,e⟩

theorem notLongL {n:Nat} (h:n<=sizeLine):Builtin.List.listTooLong n=false:=by
 unfold Builtin.List.listTooLong;exact decide_eq_false ⋯
end

section
variable {X:Cx}

def rAppend:V->List V->Hp->VK->Prop:=λx vs H Q => ∃ l xs y,x=.ref l/\vs=[y]/\H l=some (.lst xs)/\xs.length<sizeLine/\Q .non (upd H l (.lst (xs ++ [y])))
theorem mt_append:MtM X "list.append" rAppend:=by
 intro pins s σ H x vs v us Q I rx rv h;obtain ⟨l,xs,y,rfl,rfl,hH,hz,q⟩:=h
 cases rx
 obtain ⟨u,rfl,ru⟩:=rv.one;obtain ⟨z,its,n,r,hl,e⟩:=I.lstM hH;refine call_meets F.slot_list_append ⟨_,e,rfl⟩ F.entry_list_append (F.args_list_append_2 _ _) (PySem.list_append l its.toArray n u (by rw [q0q];omega)) ⟨e,?_⟩
 refine ⟨.non,_,I.lset (its':=its ++ [u]) hH e (by simp) (r.append (.cons ru .nil)) ?_,rfl,q⟩
 rw [z0n,m0m];omega

def rExtend:V->List V->Hp->VK->Prop:=λx vs H Q => ∃ l b xs zs,x=.ref l/\vs=[.ref b]/\H l=some (.lst xs)/\H b=some (.lst zs)/\xs.length+zs.length<=sizeLine/\Q .non (upd H l (.lst (xs ++ zs)))
def rCat:R2:=λx y H Q => ∃ l b xs zs,x=.ref l/\y=.ref b/\H l=some (.lst xs)/\H b=some (.lst zs)/\xs.length+zs.length<=sizeLine/\∀ p,H p=none->Q (.ref p) (upd H p (.lst (xs ++ zs)))
theorem op_cat:OpR X (binaryOp .Add) rCat:=by
 intro pins s σ H x y v u Q I rx ry h;obtain ⟨l,b,xs,zs,rfl,rfl,hH,hB,hz,q⟩:=h
 cases rx
 cases ry
 obtain ⟨z,its,n,r,hl,e⟩:=I.lstM hH;obtain ⟨z2,its2,n2,r2,hl2,e2⟩:=I.lstM hB;refine PySem.P.add_list e e2 ?_ (by rw [q0q,q0q];omega)
 have ea:its.toArray ++ its2.toArray=(its ++ its2).toArray:=by simp
 rw [ea];exact ⟨.ref _,_,I.lnew (t':=s.toks) (r.append r2) (by rw [z0n];omega),rfl,q _ I.fresh⟩
def rRep:R2:=λx y H Q => ∃ l k xs,x=.ref l/\y=.int k/\H l=some (.lst xs)/\-(2 ^ 63)<=k/\k<2 ^ 63/\xs.length*k.toNat<=sizeLine /\
 ∀ p,H p=none->Q (.ref p) (upd H p (.lst (z0a k.toNat xs).flatten))
theorem len_rep {α:Type} (xs:List α) (k:Nat):(z0a k xs).flatten.length=k*xs.length:=by
 induction k with
 | zero=>simp
 | succ k ih=>rw [v0k,u0h,z0n,ih,m0y,Nat.add_comm]
theorem op_rep:OpR X (binaryOp .Mult) rRep:=by
 intro pins s σ H x y v u Q I rx ry h;obtain ⟨l,k,xs,rfl,rfl,hH,h1,h2,hz,q⟩:=h
 cases rx
 obtain ⟨t,rfl⟩:=ry;obtain ⟨z,its,n,r,hl,e⟩:=I.lstM hH;have hlen:its.toArray.size*k.toNat<=sizeLine:=by rw [q0q,<- hl];exact hz
 have hcap:¬ its.toArray.size*k.toNat > (2 ^ 63-1) / 8:=by
  have:(sizeLine:Nat)<=(2 ^ 63-1) / 8:=by decide
  omega
 have hfit:¬ (!Builtin.List.listFitsIndex k)=true:=by
  rw [fitsIndex_both h1 h2];exact q0p
 have hlong:¬ Builtin.List.listTooLong (its.toArray.size*k.toNat)=true:=by
  rw [notLongL hlen];exact q0p
 have hnew:List.foldl (λx1 x2=>x1 ++ x2) #[] (z0a (if its.toArray.isEmpty=true then 0 else k.toNat) its.toArray)=(z0a k.toNat its).flatten.toArray:=by
  have f0:∀ m:Nat,List.foldl (λx1 x2=>x1 ++ x2) #[] (z0a m its.toArray)=(z0a m its).flatten.toArray:=λm=>by
   have:=foldl_rep its m [];rw [j0q] at this;exact this
  rw [f0]
  cases its with
  | nil=>simp
  | cons a r'=>rw [if_neg (by simp)]
 refine wpAny_binaryOp_repeat_ref (T := "list") (U := "int") (by decide) ⟨_,e,rfl⟩ (λs'=>typeIs_int s' k t) noFill_list_mul F.fills_int_mul F.slot_int_rmul repeat_list F.slot_int_index.lookup
  (call_meets F.slot_int_rmul (typeIs_int s k t) F.entry_int_rmul (F.args_int_rmul_2 _ _) (int___rmul___int_list k t l its.toArray n)
   ⟨e,rfl,⟨_,e,rfl⟩,call_meets F.slot_list_mul ⟨_,e,rfl⟩ F.entry_list_mul (F.args_list_mul_2 _ _) (AutoListH.list___mul___list_int_3 l its.toArray n k t hfit hcap hlong) ⟨e,?_⟩⟩)
 rw [hnew];exact ⟨.ref _,_,I.lnew (t':=s.toks) (r.rep k.toNat) (by rw [len_rep,u0e];exact hz),rfl,q _ I.fresh⟩

end

section
variable {prog:Program} {w:World} {A:Around} {E:Value->Shared->Prop} {s:Shared}
end

section
variable {X:Cx}
end
end L2

namespace Att
open PySem PySem.W PySem.Calls PyProof.Rows

theorem ints_of_wellAll {P:Params} {h:Heap}:∀ (ns:List Int) (vs:List Value),WellAll P h vs (ns.map WData.int)->IntsAre vs ns:=by
 intro ns
 induction ns with
 | nil =>
  intro vs w;rw [y0c] at w
  cases w
  exact .nil
 | cons n ns ih =>
  intro vs w;rw [z0b] at w
  cases w with
  | cons a b =>
   cases a
   exact .cons _ _ (ih _ b)

theorem script_of {l:OpenLaw} {n:Nat} (hn:l.most=some n) {P:Params} {h:Heap} {args:List WData} {vals:List Value}
  (hpre:l.row.toRowW.claim.pre args=true) (hwl:WellAll P h vals args) :
  ∃ a vs ns,vals=[Value.ref a]/\args=[WData.list (ns.map WData.int)]/\h.get? a=some { cls:=.type "list",data:=.seq vs.toArray }/\IntsAre vs ns/\ns.length<=n:=by
 have hsh:WShape.hasAll [] args [.list .int]=true:=(pre_splitW hpre).1;have hc:l.pre.holds [] { args:=args }=true:=(pre_splitW hpre).2;obtain ⟨d,r,rfl,h1,h2⟩:=hasAllW_cons hsh;obtain rfl:=hasAllW_nil h2;obtain ⟨xs,rfl,h3⟩:=hasW_list h1;obtain ⟨ns,rfl⟩:=items_int h3
 have hlen:ns.length<=n:=by
  unfold OpenLaw.pre at hc
  have h4:(WTm.not (.lt (.lit (.int (n:Int))) (.len (.arg 0)))).holds [] { args:=[.list (ns.map .int)] }=true:=by
   have h4:=(holds_andW hc).1;rw [hn] at h4;exact h4
  have h5:=condW_of h4 (w_not (w_lt w_lit (w_len_list (w_arg rfl))));rw [q0b] at h5;refine Nat.le_of_not_lt λq=>?_;have q':(n:Int)<((ns.length:Nat):Int):=⋯
  first
   | (rw [decide_eq_true q'] at h5;exact absurd h5 (by decide))
   | (simp at h5;omega)
 cases hwl with
 | cons w1 w2 =>
  cases w2
  cases w1 with
  | list ho hall=>exact ⟨_,_,ns,rfl,rfl,ho,ints_of_wellAll ns _ hall,hlen⟩

theorem post_true (l:OpenLaw) (args:List WData):l.row.toRowW.claim.post args (.bool true) args=true :=
 postW_of (r:=l.row.toRowW) (X:=(true == true))
  (show WShape.has [] (.bool true) .bool=true by first | rfl | decide | simp [WShape.has,WShape.arms,WShape.armsAll])
  (show (WTm.eq .res (.lit (.bool true))).value [] { args:=args,res:=some (.bool true),after:=args }=some (.bool (true == true)) from w_eq_bool (w_res rfl) w_lit) rfl

theorem attach_call {l:OpenLaw} {n:Nat} {q:Program} {loose:List Str} {XP:(Str->Option Value)->Heap->Prop} {YP:World->Heap->Prop} {d:DefRec}
  (hn:l.most=some n) (hdf:d.params.defaults=[])
  (call:∀ (w:World) (s₀ s₁:Shared) (mg mb:Str->Option Value) (fa:Addr) (o:Obj) (pm cd doc:Value) (a:Addr) (vs:List Value) (ns:List Int),
   Ground q loose [] XP w s₀ mg mb s₁.heap->YP w s₁.heap ->
   s₁.heap.get? fa=some o->o.data=.func (docDef d.name d.params d.body d.scope pm cd doc)->s₁.heap.CodeRec cd d.name->mg d.name=some (.ref fa) ->
   s₁.heap.get? a=some { cls:=.type "list",data:=.seq vs.toArray }->IntsAre vs ns->ns.length<=n->s₁.gens = #[] ->
   codeAny (model l.prog w) callerA (.call (.ref fa) ⟨[.ref a],[]⟩) (λr s'=>r=.ok (.ret (.bool true))/\OldK s₁.heap s'.heap/\s'.os=s₁.os/\AllBare s'.gens) s₁) :
  WalkO q loose XP YP l.row.toRowW d [] (λf vs=>PySem.call f vs):=by
 intro w s₀ s₁ mg mb G Y fa o pm cd doc dV kV ho hd hcd hD hmg hg args vals as hpre hlay hrd hwl hlo;obtain rfl:dV=.none:=Dflts.none hD hdf;obtain rfl:kV=.none:=Dflts.noKw hD;obtain ⟨a,vs,ns,rfl,rfl,hobj,hints,hlen⟩:=script_of hn hpre hwl;refine enter_call (codeAny_mono (call w s₀ s₁ mg mb fa o pm cd doc a vs ns G Y ho (fd_plain hd) hcd hmg hobj hints hlen hg) λr s' hq=>?_);obtain ⟨rfl,h2,h3,h4⟩:=hq;exact ⟨.inl ⟨.bool true,.bool true,[],rfl,λ_=>rfl,.bool true,post_true l _,λ_=>⟨List.Pairwise.nil,λ_ hm=>(nomatch hm)⟩⟩,h2,h3,h4⟩

section
variable {prog:Program} {w:World} {A:Around} {E:Value->Shared->Prop} {s:Shared} {K:Frag}

end
end Att

namespace L2
open PySem PySem.Spec PyProof.Rows

theorem vals_ints:∀ {vs:List Value} {ns:List Int},IntsAre vs ns->Vals (ns.map V.int) vs
 | _,_,.nil=>.nil
 | _,_,.cons n t h=>.cons ⟨t,rfl⟩ (vals_ints h)

def Only (H:Hp):Prop:=∀ b,H b=none \/ ∃ o xs,H b=some (.frz o (.lst xs))

theorem law_call {P:Program} {w:World} {K:q0a} {mg mb:Str->Option Value} {CX:CXT} {k:Nat} {fa a:Addr} {fd:FuncData} {x:Str} {sp:Sp} {s₁:Shared} {vs:List Value} {ns:List Int}
  (KX:K.In s₁.heap) (hns:s₁.heap.Ns mainGlobals mg) (hb:s₁.heap.Ns builtinsNs mb) (hbb:∀ x:Str,x ≠ "__name__"->mb x=bootBuiltins x) (hlim:s₁.heap.NoLimit) (hg:s₁.gens = #[])
  (ha:s₁.heap.get? a=some { cls:=.type "list",data:=.seq vs.toArray }) (hi:IntsAre vs ns) (hl:ns.length<=sizeLine) (hr:Room k callerA)
  (F:∀ base:Heap,K.In base->base.Ns mainGlobals mg->FnOk P w K mg base CX k fa fd [x] sp) (hbind:∀ (s:Shared) (u:Value),BindsTo s fd ⟨[u],[]⟩ [(x,u)])
  (hsp:∀ H:Hp,Only H->SqL K H a (ns.map V.int)->sp [.ref a] H (λv _=>v=.bl true) λ_ _ _=>False)
  (hCX:∀ H e s',CX [] H s₁ (λ_ _ _=>False) e s'->False) :
  codeAny (model P w) callerA (.call (.ref fa) ⟨[.ref a],[]⟩) (λr s'=>r=.ok (.ret (.bool true))/\OldK s₁.heap s'.heap/\s'.os=s₁.os/\AllBare s'.gens) s₁:=by
 have rv:=vals_ints hi;have lenV:=hi.length
 -- from an abstract heap in which nothing but the script may be tracked
 have core:∀ H:Hp,Only H->SqL K H a (ns.map V.int)->HOk P w H s₁.heap->(∀ b,H b ≠ none->b=a)->(H a ≠ none->K.lookup a=none) ->
   codeAny (model P w) callerA (.call (.ref fa) ⟨[.ref a],[]⟩) (λr s'=>r=.ok (.ret (.bool true))/\OldK s₁.heap s'.heap/\s'.os=s₁.os/\AllBare s'.gens) s₁:=by
  intro H hO hS hok hA hK;have base_of:∀ {b:Addr} {o:Obj},s₁.heap.get? b=some o->H b=none->(hidT s₁.heap H).get? b=some o:=λe n=>hidT_get e n
  have noA:∀ {b:Addr} {o:Obj} {es:Array DictEntry} {ep:Nat},s₁.heap.get? b=some o->o.data=.dict es ep->H b=none:=fun {b o es ep} e d=>by
   cases q:H b with
   | none=>rfl
   | some u =>
    have e':b=a:=hA b (by rw [q];simp)
    subst e';rw [ha] at e;cases e;have d':Data.seq vs.toArray _=Data.dict es ep:=d
    cases d'
  have nsK:∀ {b:Addr} {m:Str->Option Value},s₁.heap.Ns b m->(hidT s₁.heap H).Ns b m:=fun {b m} ⟨o,es,ep,e,d,r⟩=>⟨o,es,ep,base_of e (noA e d),d,r⟩
  have hKb:K.In (hidT s₁.heap H):=λb o e=>base_of (KX b o e) (by
   cases q:H b with
   | none=>rfl
   | some u =>
    have e':b=a:=hA b (by rw [q];simp)
    subst e';rw [hK (by rw [q];simp)] at e;cases e)
  have hM:Mod K mg (hidT s₁.heap H):=⟨hKb,nsK hns,⟨mb,nsK hb,hbb⟩,let ⟨mc,h1,h2⟩:=hlim;⟨mc,nsK h1,h2⟩⟩;have e0:Env0 P w K mg (hidT s₁.heap H) callerA [] s₁ H:=⟨rfl,hM,λb o e=>of_hidT e,Nat.le_of_eq (hidT_size _ _),trivial,λb hb=>absurd (show b ∈ ([]:List Addr) from hb) (by simp),hok,.of_eq hg⟩
  refine codeAny_mono ((F _ hKb (nsK hns)).run callerA [] s₁ H ⟨[.ref a],[]⟩ [.ref a] [.ref a] _ _ hr e0 (hbind s₁ (.ref a)) (.cons rfl .nil) (hsp H hO hS)) λr s' h=>?_
  cases r with
  | error e=>exact (hCX H e s' h).elim
  | ok fl =>
   cases fl with
   | next=>exact False.elim h
   | brk=>exact False.elim h
   | cont=>exact False.elim h
   | ret u =>
    obtain ⟨v,H',os,bare,un,hok',r',q⟩:=h;have q':v=.bl true:=q;subst q';obtain rfl:u=Value.bool true:=r';refine ⟨rfl,OldK.of_keep λb o e=>?_,os,bare⟩
    cases q:H b with
    | none=>exact un.keep b o e q (by intro z;exact absurd (show b ∈ ([]:List Addr) from z) (by simp)) (by simp)
    | some u =>
     rcases hO b with z | ⟨ob,xs,z⟩
     ·rw [q] at z;cases z
     ·have z2:=un.frzs b ob _ z
      obtain ⟨e1,_⟩:=hok b _ z;obtain ⟨e2,_⟩:=hok' b _ z2;rw [e] at e1;cases e1;exact e2
 cases hk:K.lookup a with
 | some o =>
  -- the script is one of the module's own objects
  have e:=KX a o hk;rw [ha] at e
  cases e
  refine core (λ_=>none) (λ_=>.inl rfl) (.inr ⟨_,vs.toArray,_,hk,rfl,rfl,rfl,by rw [q0q,lenV];exact hl,by simpa using rv⟩) (λb u z=>by have z':(none:Option HO)=some u:=z;cases z') (λb z=>absurd rfl z) λz=>absurd rfl z
 | none =>
  refine core (λb=>if b=a then some (.frz { cls:=.type "list",data:=.seq vs.toArray } (.lst (ns.map V.int))) else none) (λb=>?_) (.inl (.inr ⟨{ cls:=.type "list",data:=.seq vs.toArray },if_pos rfl⟩)) (λb u z=>?_) (λb z=>?_) λ_=>hk
  ·by_cases hb:b=a
   ·exact .inr ⟨_,_,if_pos hb⟩
   ·exact .inl (if_neg hb)
  ·by_cases hb:b=a
   ·have z':=(if_pos hb).symm.trans z
    cases z'
    subst hb;exact ⟨ha,by rw [q0b];exact hl,vs,_,rv,ha⟩
   ·have z':=(if_neg hb).symm.trans z
    cases z'
  ·by_cases hb:b=a
   ·exact hb
   ·exact absurd (if_neg hb) z
end L2

namespace L2
open PySem PySem.Spec PyProof.Rows

abbrev KOf {K:q0a} {h:Heap} (_:K.In h):q0a:=K

theorem walk_of {l:m0a} {n k:Nat} {q:Program} {loose:List Str} {XP:(Str->Option Value)->Heap->Prop} {YP:World->Heap->Prop} {d:DefRec} {K:Params->q0a} {CX:World->CXT} {sp:World->Sp} {x:Str}
  (hn:l.most=some n) (hn2:n<=sizeLine) (hdf:d.params.defaults=[]) (hr:Room k callerA)
  (hY:∀ (w:World) (h:Heap),YP w h->(K w.params).In h)
  (F:∀ (w:World) (mg:Str->Option Value) (fa:Addr) (h:Heap),(K w.params).In h->h.Ns mainGlobals mg->mg d.name=some (.ref fa) ->
   ∃ fd:FuncData,(∀ (s:Shared) (u:Value),BindsTo s fd ⟨[u],[]⟩ [(x,u)]) /\
    ∀ base:Heap,(K w.params).In base->base.Ns mainGlobals mg->FnOk l.prog w (K w.params) mg base (CX w) k fa fd [x] (sp w))
  (hsp:∀ (w:World) (H:Hp) (a:Addr) (ns:List Int),ns.length<=n->Only H->SqL (K w.params) H a (ns.map V.int)->sp w [.ref a] H (λv _=>v=.bl true) λ_ _ _=>False)
  (hCX:∀ (w:World) (H:Hp) (s:Shared) (e:Value) (s':Shared),CX w [] H s (λ_ _ _=>False) e s'->False) :
  PySem.W.WalkO q loose XP YP l.row.toRowW d [] (λf vs=>PySem.call f vs):=by
 refine Att.attach_call hn hdf λw s₀ s₁ mg mb fa o pm cd doc a vs ns G Y ho hd hcd hmg hobj hints hlen hg=>?_;have KX:=hY w _ Y;obtain ⟨fd,hb,hF⟩:=F w mg fa _ KX G.T.g hmg;exact law_call KX G.T.g G.T.b G.T.builtins G.T.nolimit hg hobj hints (q0y hlen hn2) hr hF hb (λH hO hS=>hsp w H a ns hlen hO hS) λH e s'=>hCX w H s₁ e s'
end L2


namespace L2
open PySem PySem.Spec PyProof.Rows

def defArgs (s:Stmt):Arguments:=match s with
 | .FunctionDef _ a _ _ _ _ _ _ _ _=>a
 | _=>{ posonlyargs:=[],args:=[],vararg:=none,kwonlyargs:=[],kw_defaults:=[],kwarg:=none,defaults:=[] }
def defBody (s:Stmt):List Stmt:=match s with
 | .FunctionDef _ _ b _ _ _ _ _ _ _=>b
 | _=>[]
def defScope (s:Stmt):Scope:=match s with
 | .FunctionDef _ _ _ _ _ _ sc _ _ _=>sc
 | _=>{ kind:=.function,names:=[],isGenerator:=false,isCoroutine:=false }

abbrev CX0:CXT:=λ_ _ _ _ _ _=>False
abbrev E0:XK:=λ_ _ _=>False
theorem pass0 {X:Cx}:Passes CX0 X E0:=λ_ _ _ _ _ _ _ h=>h.elim

structure Fun (K:q0a) (x qual:Str) (st:Stmt) (f:Addr) (fd:FuncData):Prop where
 ex:∃ (oc:Value) (od:Option Addr) (kV doc pm:Value) (an:Option Addr) (cdv ct:Value) (osl:Array (Option Value)),
  fd=v0h x qual (defArgs st) (defBody st) (defScope st) .none kV doc pm an cdv ct/\K.lookup f=some ⟨oc,od,.func fd,osl⟩/\m0k K cdv qual=true
 kp:y0w K (.ref f)=true
section
variable {P:Program} {w:World} {K:q0a} {mg:Str->Option Value} {base:Heap}
theorem Fun.ok {x qual:Str} {st:Stmt} {f:Addr} {fd:FuncData} {N ps:List Str} {k:Nat} {sp:Sp} (F:Fun K x qual st f fd) (S:FnScope N ps (defScope st)) (len:∀ vs H Q E,sp vs H Q E->vs.length=ps.length)
  (hbody:∀ (cdv:Value) (A:Around) (outer:List Env) (s:Shared) (H:Hp) (vs:List V) (Q:VK) (E:XK),Room k (A.deeper (envOfC qual (defScope st) s.heap.objs.size f cdv))->sp vs H Q E ->
   ∃ t,PSs (cxOf CX0 P w K mg base N qual (defScope st) f cdv A outer s H E).nox (defBody st) t/\t { nx:=λ_ H'=>Q .non H',rt:=Q } (start N vs) H):FnOk P w K mg base CX0 (k+1) f fd ps sp:=by
 obtain ⟨oc,od,kV,doc,pm,an,cdv,ct,osl,rfl,lk,hcd⟩:=F.ex;refine fn_of lk hcd S len λA outer s H vs Q E hr hsp=>?_;obtain ⟨t,h,q⟩:=hbody cdv A outer s H vs Q E hr hsp;exact ⟨t,h.nox,q⟩
theorem Fun.binds {x qual:Str} {st:Stmt} {f:Addr} {fd:FuncData} {ps:List Str} (F:Fun K x qual st f fd)
  (h:∀ (kV doc pm:Value) (an:Option Addr) (cdv ct:Value) (us:List Value),us.length=ps.length->bindArgs (v0h x qual (defArgs st) (defBody st) (defScope st) .none kV doc pm an cdv ct) ⟨us,[]⟩=pure (ps.zip us)):Binds K fd ps []:=by
 obtain ⟨oc,od,kV,doc,pm,an,cdv,ct,osl,rfl,lk,hcd⟩:=F.ex;exact .all (h kV doc pm an cdv ct)
theorem fun_mk {x qual:Str} {st:Stmt} {f:Addr} {oc:Value} {od an:Option Addr} {osl:Array (Option Value)} {kV doc pm cdv ct:Value} (l:K.lookup f=some ⟨oc,od,.func (v0h x qual (defArgs st) (defBody st) (defScope st) .none kV doc pm an cdv ct),osl⟩)
  (c:m0k K cdv qual=true) (k:y0w K (.ref f)=true):Fun K x qual st f (v0h x qual (defArgs st) (defBody st) (defScope st) .none kV doc pm an cdv ct):=⟨⟨oc,od,kV,doc,pm,an,cdv,ct,osl,rfl,l,c⟩,k⟩
end
section
variable {X:Cx}
theorem pv (i : Nat) {x : Str} {pos : Pos} (hN : X.N[i]? = some x := by rfl) (hv : Vis X.env.scope x := by first | exact Or.inl rfl | exact Or.inr (Or.inl rfl) | exact Or.inr (Or.inr rfl)) (hd : (x == ("__debug__" : Str)) = false := by decide)
    (hcd:(x == ("__classdict__" : Str))=false:=by decide):PE X (.Name x pos) (tVar i):=pe_var hN hv hd hcd
end

theorem iteT {A B:Prop} (h:A):if true=true then A else B:=by
 rw [if_pos rfl];exact h
theorem ite2 {c A B:Prop} [Decidable c] (h1:c->A) (h2:¬ c->B):if c then A else B:=by
 by_cases h:c
 ·rw [if_pos h]
  exact h1 h
 ·rw [if_neg h]
  exact h2 h
def Same (H H':Hp):Prop:=∀ b o,H b=some o->H' b=some o
theorem Same.refl (H:Hp):Same H H:=λ_ _ h=>h
theorem Same.trans {H H1 H2:Hp} (a:Same H H1) (b:Same H1 H2):Same H H2:=λc o h=>b c o (a c o h)
theorem Same.free {H H':Hp} (e:Same H H') {l:Addr} (h:H' l=Option.none):H l=Option.none:=by
 cases q:H l with
 | none=>rfl
 | some o =>
  rw [e l o q] at h
  cases h
theorem Same.seq {K:q0a} {H H':Hp} {a:Addr} {xs:List V} (e:Same H H') (h:SqL K H a xs):SqL K H' a xs:=by
 rcases h with (h | ⟨o,h⟩) | h
 ·exact .inl (.inl (e _ _ h))
 ·exact .inl (.inr ⟨o,e _ _ h⟩)
 ·exact .inr h

end L2

set_option maxRecDepth 100000
namespace L2
open PySem PySem.Spec PyProof.Rows

section
variable {P:Program} {w:World} {H:Hp} {h:Heap} {a:Addr} {o:HO}
end

def CXR (P:Program) (w:World):CXT:=λouter H s E e s' => ∃ (a:Addr) (cls a0:Value) (H':Hp) (B:Heap),e=.ref a/\s'.os=s.os/\AllBare s'.gens /\
 Heap.FlyingW B outer a cls a0 s'.heap/\(∀ b o,s.heap.get? b=some o->H b=none->b ∉ frs outer->B.get? b=some o)/\(∀ b o,s.heap.get? b=some o->b ∉ frs outer->∃ o',B.get? b=some o') /\
 HOk P w H' B/\Un (frs outer) [] H H' s.heap s'.heap/\H' a=none/\E cls none H'

section
variable {CX:CXT} {P:Program} {w:World} {K:q0a} {mg:Str->Option Value} {base:Heap} {N:List Str} {qual:Str} {scope:Scope} {f:Addr} {cd:Value} {A:Around} {outer:List Env} {s₀:Shared} {H₀:Hp} {E:XK}
end

structure OwnX (K:q0a) (C:Addr) (bm:List Value) (newId:String):Prop where
 ok:PySem.W.excIn K C bm newId=true
section
variable {X:Cx} {x:Str} {C:Addr} {bm:List Value} {newId B initId:String} {e:Expr} {es:List Expr} {te:TA} {np cpos pos:Pos} {R:Value->Hp->Prop}
end
end L2

set_option maxRecDepth 100000
namespace L2
open PySem PySem.Spec PyProof.Rows

section
variable {X:Cx} {pins:List (Addr × Obj)} {σ:St} {H H':Hp} {s s':Shared}
def Exc (cls:Value) (a:Addr):HO:=.ext λh => ∃ o vs,h.get? a=some o/\o.cls=cls/\o.data=.fields vs
end

abbrev Cx.body (X:Cx) (xe:Value->Shared->Prop) (pn:List (Addr × Obj)):Cx:={ X with xe:=xe,pn:=pn }
abbrev Cx.suite (X:Cx) (a:Addr):Cx:={ X with A:=X.A.mark (some (.ref a)),calm:=false,xe:=λ_ _=>False }
section
variable {X:Cx}
end
end L2

set_option maxRecDepth 100000
namespace L2
open PySem PySem.Spec PyProof.Rows

structure RoomX (k:Nat) (A:Around):Prop where
 dp:A.depth+3*k+5<recursionLimit
 un:A.units+16*k+200<cLine
structure FnOkX (P:Program) (w:World) (K:q0a) (mg:Str->Option Value) (base:Heap) (k:Nat) (f:Addr) (fd:FuncData) (ps:List Str) (sp:Sp):Prop where
 len:∀ vs H Q E,sp vs H Q E->vs.length=ps.length
 run:∀ (A:Around) (outer:List Env) (s:Shared) (H:Hp) (args:Args) (us:List Value) (vs:List V) (Q:VK) (E:XK),RoomX k A->Env0 P w K mg base A outer s H->BindsTo s fd args (ps.zip us)->Vals vs us->sp vs H Q E ->
  codeAny (model P w) A (.call (.ref f) args) (CR CX0 outer P w H s Q E) s
section
variable {X:Cx} {CX:CXT} {k:Nat} {f:Addr} {fd:FuncData} {ps:List Str} {sp:Sp} {E:XK} {x:Str} {p pos:Pos} {e:Expr} {es:List Expr} {t:TA}
structure FnV (P:Program) (w:World) (K:q0a) (mg:Str->Option Value) (base:Heap) (k:Nat) (f:Addr) (sp:Sp):Prop where
 ex:∃ fd ps,FnOk P w K mg base (CXR P w) k f fd ps sp/\Binds K fd ps []
 kp:y0w K (.ref f)=true
end
end L2

-- the class of an exception,isinstance,great numbers
set_option maxRecDepth 100000
namespace L2
open PySem PySem.W PySem.Spec PyProof.Rows Builtin Builtin.ObjectAttr Builtin.Getset_descriptor
section
variable {prog:Program} {w:World} {A:Around} {E:Value->Shared->Prop} {s:Shared} {K:Frag} {a C:Addr} {o:Obj}
theorem exc_class_get {R:Result->Shared->Prop} {tp:Value} (X:K.In s.heap) (hx:s.heap.get? a=some o) (hc:o.cls=.ref C) (hm:mroIn K C (.type "object")=some true)
  (h:R (.ok (.ret (.ref C))) s):codeAny (model prog w) A (.call (.builtin "getset_descriptor.__get__") ⟨[.builtin "object.__class__",.ref a,tp],[]⟩) R s:=by
 obtain ⟨hh,g,dr,t,os⟩:=s;have L0:Looks (model prog w) hh (typeOf (.ref a)) (.ref C):=hc ▸ (Looks.ld hx).andThen .now;have L1:=looks_mroIn (M:=model prog w) X hm;refine codeAny_call_builtin KF.slot_gs.plain KF.entry_gs (KF.slot_gs.check _ _ _ _ _ _ _ _ KF.type_class (KF.args_gs _ _ _) ?_);unfold Builtin.«getset_descriptor.__get__» descrGet;rw [dga_obj];refine wpAny_bind (wpAny_pure ?_);unfold descrGetter descrCheckInstance descrNameAndClass isInstance;simp only [KF.owner_class]
 repeat lk
 refine ⟨Code.quiet_builtin _ (by decide +kernel),codeAny_builtin KF.entry_class ?_⟩
 unfold Builtin.«object.__class__» shownTypeOf
 repeat lk
 exact h
theorem exc_entry {tk:Tok} {Q:Fin->Shared->Prop} (X:K.In s.heap) (hx:s.heap.get? a=some o) (hc:o.cls=.ref C) (g3:findIn K (.ref C) "__class__" = some (some (.builtin "object.__class__"))) (hm:mroIn K C (.type "object")=some true)
  (hq:Q (.done (.ret (.ref C))) s):wpAny (model prog w) A (Builtin.«object.__getattribute__» ⟨[.ref a,.str "__class__" tk],[]⟩) Q E s:=by
 obtain ⟨hh,g,dr,t,os⟩:=s;have L0:Looks (model prog w) hh (typeOf (.ref a)) (.ref C):=hc ▸ (Looks.ld hx).andThen .now;have L1:=looks_findIn (M:=model prog w) X g3;have f5:typeOf (.builtin "object.__class__")=pure (.type "getset_descriptor"):=KF.type_class
 have f6:=F.slot_gs_get.lookup;have f7:=F.slot_gs_set.lookup
 repeat (any_goals (first | assumption | (with_reducible refine wpAny_loadPart_at hx ?_;rw [hc]) | with_reducible refine L1.at ?_ | wp_step))
 refine exc_class_get X hx hc hm ?_
 repeat (any_goals (first | assumption | wp_step))
theorem exc_check {M:Model} {nameV:Value} {Q:Unit->Shared->Prop} (X:K.In s.heap) (hx:s.heap.get? a=some o) (hc:o.cls=.ref C) (hmB:mroIn K C (.type "BaseException")=some true) (hq:Q () s) :
  wpAny M A (checkBuiltinCall "BaseException.__getattribute__" ⟨[.ref a,nameV],[]⟩) Q E s:=by
 obtain ⟨hh,g,d,t,os⟩:=s;have L3:=looks_mroIn (M:=M) X hmB;have hk:builtinKind "BaseException.__getattribute__" = some .slot:=by decide +kernel
 have hsplit:splitId "BaseException.__getattribute__" = some ("BaseException","__getattribute__"):=by decide +kernel
 have ha:=F.args_bexc_ga (.ref a) nameV;simp only [checkBuiltinCall,hk,hsplit];refine wpAny_bind ?_
 ·unfold isInstance
  repeat (first | (with_reducible refine wpAny_loadPart_at hx ?_;rw [hc]) | with_reducible refine L3.at ?_ | wp_step)
  exact hq
theorem exc_class {Q:Option Value->Shared->Prop} (X:K.In s.heap) (hx:s.heap.get? a=some o) (hc:o.cls=.ref C) (g1:findIn K (.ref C) "__getattribute__" = some (some (.builtin "BaseException.__getattribute__"))) (g2:findIn K (.ref C) "__getattr__" = some none)
  (g3:findIn K (.ref C) "__class__" = some (some (.builtin "object.__class__"))) (hm:mroIn K C (.type "object")=some true) (hmB:mroIn K C (.type "BaseException")=some true) 
  (h:Q (some (.ref C)) { s with toks:=s.toks+1 }):wpAny (model prog w) A (getAttr? (.ref a) "__class__") Q E s:=by
 obtain ⟨hh,g,d,t,os⟩:=s;have L0:Looks (model prog w) hh (typeOf (.ref a)) (.ref C):=hc ▸ (Looks.ld hx).andThen .now;have L1:=looks_findIn (M:=model prog w) X g1;have L2:=looks_findIn (M:=model prog w) X g2;have L3:=looks_mroIn (M:=model prog w) X hmB;unfold getAttr? getAttrBy? getAttrBy;refine wpAny_bind (wpAny_mkText (wpAny_bind (wpAny_attempt (wpAny_holding (wpAny_bind (L0.at (wpAny_bind (L1.at ?_))))))));have hx2:(Value.builtin "BaseException.__getattribute__" == Value.builtin "object.__getattribute__")=false:=by decide +kernel
 have hx1:(onTheHeap (Value.ref C) && Value.builtin "BaseException.__getattribute__" == Value.builtin "object.__getattribute__")=false:=by rw [hx2];rfl
 show wpAny _ _ (if (onTheHeap (Value.ref C) && Value.builtin "BaseException.__getattribute__" == Value.builtin "object.__getattribute__")=true then _ else _) _ _ _
 rw [if_neg (by rw [hx1];decide)]
 have f3:=PySem.F.attr_ValueError.ga.bind (.ref a);have hx0:(false && onTheHeap (Value.builtin "BaseException.__getattribute__"))=false:=rfl
 unfold getAttrByItsOwn hookBefore
 repeat (any_goals (first | assumption | (with_reducible refine wpAny_loadPart_at hx ?_;rw [hc]) | with_reducible refine L1.at ?_ | with_reducible refine L2.at ?_ | wp_step))
 refine codeAny_call_builtin PySem.F.attr_ValueError.ga.plain F.entry_bexc_ga (exc_check X hx hc hmB (exc_entry X hx hc g3 hm ?_))
 dsimp only
 unfold handedOut;exact wpAny_pure (wpAny_pure h)

structure ExcCls (K:Frag) (C:Addr):Prop where
 cl:(clsIn K C).isSome=true
 g1:findIn K (.ref C) "__getattribute__" = some (some (.builtin "BaseException.__getattribute__"))
 g2:findIn K (.ref C) "__getattr__" = some none
 g3:findIn K (.ref C) "__class__" = some (some (.builtin "object.__class__"))
 hm:mroIn K C (.type "object")=some true
 hB:mroIn K C (.type "BaseException")=some true
theorem kitx_exc (c:ExcCls K C):KitX K (.ref a) (.ref C) (λh => ∃ o,h.get? a=some o/\o.cls=.ref C) where
 ty:=λ_ _ _ ⟨o,hx,hc⟩=>hc ▸ (Looks.ld hx).andThen .now
 it:=λ_ _ X _=>by
  obtain ⟨cdD,hcD⟩:=u0d.mp c.cl;unfold clsIn at hcD
  split at hcD
  ·rename_i c' d' cd' sl' ho
   intro A' Q' E' s' k q;unfold isType loadHead;exact wpAny_bind (wpAny_loadPart (k _ _ (X _ _ ho)) (wpAny_pure q))
  ·cases hcD
 ne:=λh tp dd its n sl X htp=>by
  obtain ⟨cdD,hcD⟩:=u0d.mp c.cl;refine Bool.eq_false_iff.mpr λq=>?_;have e:C=tp:=Value.ref.inj (beq_iff_eq.mp q);subst e;unfold clsIn at hcD
  split at hcD
  ·rename_i c' d' cd' sl' ho
   have z:=(X _ _ ho).symm.trans htp
   cases z
  ·cases hcD
 ca:=λX ⟨o,hx,hc⟩ k=>exc_class X hx hc c.g1 c.g2 c.g3 c.hm c.hB k
end

section
variable {X:Cx}
def clsV:V->Value
 | .ty n=>.type n
 | .ref a=>.ref a
 | _=>.none
def isC:V->Prop
 | .ty _=>True
 | .ref _=>True
 | _=>False
inductive TyX (K:Frag) (H:Hp):V->Value->Prop where
 | of {x:V} {t:Value} (h:TyOf K H x t):TyX K H x t
 | exc {a C:Addr} (e:H a=some (Exc (.ref C) a)) (c:ExcCls K C):TyX K H (.ref a) (.ref C)
 | sqt {a:Addr} {xs:List V} (h:SqT K H a xs):TyX K H (.ref a) (.type "tuple")
 | sql {a:Addr} {xs:List V} (h:SqL K H a xs):TyX K H (.ref a) (.type "list")
def rIsI (K:Frag):List V->Hp->VK->Prop:=λxs H Q => ∃ x c t b,xs=[x,c]/\isC c/\TyX K H x t/\kitOne K t (clsV c)=some b/\Q (.bl b) H
theorem call_isinst:CallR X (.builtin "isinstance") (rIsI X.K):=by
 intro pins s σ H us vs Q I r h;obtain ⟨x,c,t,b,rfl,ic,ty,e,q⟩:=h;obtain ⟨u,cu,rfl,rx,rc⟩:=Vals.two r
 have ec:cu=clsV c:=by
  cases c with
  | ty n=>exact rc
  | ref a=>exact rc
  | _=>exact False.elim ic
 subst ec;have fin:∀ tk,EP X pins σ Q (.bool b) { s with toks:=tk }:=λtk=>⟨.bl b,H,I.tok tk,rfl,q⟩
 cases ty with
 | of ty=>exact isinst_ok I rx ty e fin
 | @exc a C ea cl =>
  cases (show u=Value.ref a from rx)
  obtain ⟨⟨o,_,h1,h2,_⟩,_⟩:=(show ObjOk X.prog X.w H s.heap a (Exc (.ref C) a) from I.hok a _ ea);exact kia_one (kitx_exc cl) I.kIn ⟨o,h1,h2⟩ e (λz=>nomatch z) fin
 | @sqt a xs h =>
  cases (show u=Value.ref a from rx)
  obtain ⟨_,_,⟨o,h1,h2,_⟩,_⟩:=I.tuple h;exact kia_one kitx_tuple I.kIn ⟨o,h1,h2⟩ e (λz=>nomatch z) fin
 | @sql a xs h =>
  cases (show u=Value.ref a from rx)
  obtain ⟨_,_,⟨o,n,h1,h2,_⟩,_⟩:=I.list h;exact kia_one kitx_list I.kIn ⟨o,h1,h2⟩ e (λz=>nomatch z) fin

theorem op_mulB:OpR X (binaryOp .Mult) (rI IntMulOk λi j=>.int (i*j)):=opI λ_ _ _ _ _ _ _ hc q=>mul_int q hc
def CDivB (_ j:Int):Prop:=j ≠ 0/\j.natAbs.log2<9000
theorem op_fdivB:OpR X (binaryOp .FloorDiv) (rI CDivB λi j=>.int (i.fdiv j)):=opI λ_ _ _ _ _ _ _ hc q=>floordiv_int hc.1 q (.inl (PyProof.noPylong_of_log2 hc.2))
end
end L2

set_option maxRecDepth 100000
namespace L2
open PySem PySem.Spec PyProof.Rows

inductive D where
 | v (x:V)
 | tup (ds:List D)
 | lst (ds:List D)
mutual
def eqD:D->D->Bool
 | .v x,.v y=>eqV x y
 | .tup a,.tup b=>eqDs a b
 | .lst a,.lst b=>eqDs a b
 | _,_=>false
def eqDs:List D->List D->Bool
 | [],[]=>true
 | x :: xs,y :: ys=>eqD x y && eqDs xs ys
 | _,_=>false
end
mutual
def okD:D->D->Bool
 | .v _,.v _=>true
 | .tup a,.tup b=>okDs a b
 | .lst a,.lst b=>okDs a b
 | _,_=>false
def okDs:List D->List D->Bool
 | x :: xs,y :: ys=>okD x y && okDs xs ys
 | _,_=>true
end
mutual
def dpD:D->Nat
 | .v _=>0
 | .tup a=>dpDs a+1
 | .lst a=>dpDs a+1
def dpDs:List D->Nat
 | []=>0
 | x :: xs=>max (dpD x) (dpDs xs)
end
mutual
inductive IsD (K:q0a) (H:Hp):V->D->Prop where
 | v {x:V} (f:flatV x=true):IsD K H x (.v x)
 | tup {p:Addr} {xs:List V} {ds:List D} (h:SqT K H p xs) (t:IsDs K H xs ds):IsD K H (.ref p) (.tup ds)
 | lst {p:Addr} {xs:List V} {ds:List D} (h:SqL K H p xs) (t:IsDs K H xs ds):IsD K H (.ref p) (.lst ds)
inductive IsDs (K:q0a) (H:Hp):List V->List D->Prop where
 | nil:IsDs K H [] []
 | cons {x:V} {xs:List V} {d:D} {ds:List D} (h:IsD K H x d) (t:IsDs K H xs ds):IsDs K H (x :: xs) (d :: ds)
end
theorem IsDs.length {K:q0a} {H:Hp}:∀ {xs:List V} {ds:List D},IsDs K H xs ds->xs.length=ds.length
 | _,_,.nil=>rfl
 | _,_,.cons _ t=>congrArg (· + 1) t.length
theorem eqV_refl:∀ {x:V},flatV x=true->eqV x x=true
 | .non,_=>rfl
 | .bl a,_=>by simp [eqV]
 | .int a,_=>by simp [eqV]
 | .str a,_=>by simp [eqV]
 | .byt _,h=>absurd (show false=true from h) q0p
 | .flt _,h=>absurd (show false=true from h) q0p
 | .ref _,h=>absurd (show false=true from h) q0p
 | .ty _,h=>absurd (show false=true from h) q0p
section
variable {X:Cx} {pins:List (Addr × Obj)} {σ:St} {H:Hp} {s:Shared}
mutual
theorem eqD_same (I:Inv X pins σ H s):∀ {x:V} {d d':D},IsD X.K H x d->IsD X.K H x d'->okD d d'=true->eqD d d'=true
 | _,_,_,.v f,b,_=>by
  cases b with
  | v _=>rw [eqD];exact eqV_refl f
  | tup _ _=>exact absurd (show false=true from f) q0p
  | lst _ _=>exact absurd (show false=true from f) q0p
 | _,_,_,.tup h t,b,ok=>by
  cases b with
  | v f=>exact absurd (show false=true from f) q0p
  | tup h' t' =>
   have e:=I.tuple_inj h h';subst e;rw [eqD];rw [okD] at ok;exact eqDs_same I t t' ok
  | lst _ _=>simp [okD] at ok
 | _,_,_,.lst h t,b,ok=>by
  cases b with
  | v f=>exact absurd (show false=true from f) q0p
  | tup _ _=>simp [okD] at ok
  | lst h' t' =>
   have e:=I.list_inj h h';subst e;rw [eqD];rw [okD] at ok;exact eqDs_same I t t' ok
theorem eqDs_same (I:Inv X pins σ H s):∀ {xs:List V} {ds ds':List D},IsDs X.K H xs ds->IsDs X.K H xs ds'->okDs ds ds'=true->eqDs ds ds'=true
 | _,_,_,.nil,b,_=>by cases b;rw [eqDs]
 | _,_,_,.cons h t,b,ok=>by
  cases b with
  | cons h' t' =>
   rw [okDs,y0g] at ok;rw [eqDs,eqD_same I h h' ok.1,eqDs_same I t t' ok.2];rfl
end
def eqAtI (ds ds':List D) (j:Nat):Bool:=match ds[j]?,ds'[j]? with
 | some d,some d'=>eqD d d'
 | _,_=>true
theorem all_range_succ (n:Nat) (e:Nat->Bool):(q0z (n+1)).all e=(e 0 && (q0z n).all λj=>e (j+1)):=by
 rw [m0g,g0h,List.all_map];rfl
theorem all_eqAtI:∀ (ds ds':List D),((q0z (min ds.length ds'.length)).all (eqAtI ds ds') && ds.length == ds'.length)=eqDs ds ds'
 | [],[]=>by rw [eqDs];rfl
 | [],_ :: _=>by simp [eqDs]
 | _ :: _,[]=>by simp [eqDs]
 | x :: xs,y :: ys=>by
  have ih:=all_eqAtI xs ys;rw [eqDs,<- ih];have e1:min (x :: xs).length (y :: ys).length=min xs.length ys.length+1:=by simp only [z0j];omega
  rw [e1,all_range_succ]
  have e2:((x :: xs).length == (y :: ys).length)=(xs.length == ys.length):=by
   by_cases h:xs.length=ys.length <;> simp [h]
  rw [e2,Bool.and_assoc];rfl
theorem all_eqAtI_len (ds ds':List D) (h:ds.length=ds'.length):(q0z ds.length).all (eqAtI ds ds')=eqDs ds ds':=by
 rw [<- all_eqAtI,<- h,Nat.min_self];simp
theorem eqDs_len:∀ (ds ds':List D),ds.length ≠ ds'.length->eqDs ds ds'=false
 | [],[],h=>absurd rfl h
 | [],_ :: _,_=>by simp [eqDs]
 | _ :: _,[],_=>by simp [eqDs]
 | x :: xs,y :: ys,h=>by
  rw [eqDs,eqDs_len xs ys (λe=>h (by simp [e]))];simp
theorem rcAt_tup0 (I:Inv X pins σ H s) {p p':Addr} {xs ys:List V} {ds ds':List D} {A:Around} (h:SqT X.K H p xs) (t:IsDs X.K H xs ds) (h':SqT X.K H p' ys) (t':IsDs X.K H ys ds') (hu:A.units<cLine)
  (q:∀ {us vs:List Value},Vals xs us->Vals ys vs->∀ (j:Nat) (h1:j<us.length) (h2:j<vs.length),SeqAt.EqAt A.in1 s us[j] vs[j] (eqAtI ds ds' j)):SeqAt.RcAt A s (.ref p) (.ref p') (eqDs ds ds'):=by
  obtain ⟨its,r1,i1,_⟩:=I.tuple h;obtain ⟨its',r2,i2,_⟩:=I.tuple h';have z:=SeqAt.RcAt.tuples (A:=A) (items:=its.toArray) (items2:=its'.toArray) (e:=eqAtI ds ds') i1 i2 hu (λj h1 h2=>q r1 r2 j (by simpa using h1) (by simpa using h2))
  have e1:its.toArray.size=ds.length:=by rw [q0q,<- r1.length,t.length]
  have e2:its'.toArray.size=ds'.length:=by rw [q0q,<- r2.length,t'.length]
  rw [e1,e2,all_eqAtI] at z;exact z
theorem rcAt_lst0 (I:Inv X pins σ H s) {p p':Addr} {xs ys:List V} {ds ds':List D} {A:Around} (h:SqL X.K H p xs) (t:IsDs X.K H xs ds) (h':SqL X.K H p' ys) (t':IsDs X.K H ys ds') (hu:A.units<cLine)
  (q:∀ {us vs:List Value},Vals xs us->Vals ys vs->∀ (j:Nat) (h1:j<us.length) (h2:j<vs.length),SeqAt.EqAt A.in1 s us[j] vs[j] (eqAtI ds ds' j)):SeqAt.RcAt A s (.ref p) (.ref p') (eqDs ds ds'):=by
  obtain ⟨its,r1,i1,_⟩:=I.list h;obtain ⟨its',r2,i2,_⟩:=I.list h';have e1:its.toArray.size=ds.length:=by rw [q0q,<- r1.length,t.length]
  have e2:its'.toArray.size=ds'.length:=by rw [q0q,<- r2.length,t'.length]
  by_cases hl:ds.length=ds'.length
  ·have z:=SeqAt.RcAt.lists (A:=A) (items:=its.toArray) (items2:=its'.toArray) (e:=eqAtI ds ds') i1.isList i2.isList (by rw [e1,e2,hl]) hu (λj h1 h2=>q r1 r2 j (by simpa using h1) (by simpa using h2))
   rw [e1,all_eqAtI_len ds ds' hl] at z;exact z
  ·rw [eqDs_len ds ds' hl]
   exact SeqAt.RcAt.lists_lengths i1.isList i2.isList (by rw [e1,e2];simpa using hl) hu
mutual
theorem eqAt_D (I:Inv X pins σ H s):∀ {x y:V} {d d':D} {u v:Value} {A:Around},IsD X.K H x d->IsD X.K H y d'->okD d d'=true->RelV x u->RelV y v->A.units+dpD d<cLine->SeqAt.EqAt A s u v (eqD d d')
 | _,_,_,_,_,_,_,.v f,b,ok,r,r',_=>by
  cases b with
  | v f'=>rw [eqD];exact eqAt_V r r' f f'
  | tup _ _=>simp [okD] at ok
  | lst _ _=>simp [okD] at ok
 | _,_,_,_,u,v,A,.tup (p:=p) h t,b,ok,r,r',hu=>by
  cases b with
  | v _=>simp [okD] at ok
  | @tup p' _ _ h' t' =>
   cases (show u=Value.ref p from r)
   cases (show v=Value.ref p' from r')
   by_cases hp:p=p'
   ·subst hp
    rw [eqD_same I (.tup h t) (.tup h' t') ok];exact SeqAt.EqAt.same _
   ·rw [okD] at ok
    rw [dpD] at hu;rw [eqD];exact SeqAt.EqAt.of_refs hp (rcAt_tup0 I h t h' t' ⋯ λr1 r2 j h1 h2=>eqAts_D (A:=A.in1) I t t' ok r1 r2 (by show A.units+1+_<_;omega) j h1 h2)
  | lst _ _=>simp [okD] at ok
 | _,_,_,_,u,v,A,.lst (p:=p) h t,b,ok,r,r',hu=>by
  cases b with
  | v _=>simp [okD] at ok
  | tup _ _=>simp [okD] at ok
  | @lst p' _ _ h' t' =>
   cases (show u=Value.ref p from r)
   cases (show v=Value.ref p' from r')
   by_cases hp:p=p'
   ·subst hp
    rw [eqD_same I (.lst h t) (.lst h' t') ok];exact SeqAt.EqAt.same _
   ·rw [okD] at ok
    rw [dpD] at hu;rw [eqD];exact SeqAt.EqAt.of_refs hp (rcAt_lst0 I h t h' t' ⋯ λr1 r2 j h1 h2=>eqAts_D (A:=A.in1) I t t' ok r1 r2 (by show A.units+1+_<_;omega) j h1 h2)
theorem eqAts_D (I:Inv X pins σ H s):∀ {xs ys:List V} {ds ds':List D} {us vs:List Value} {A:Around},IsDs X.K H xs ds->IsDs X.K H ys ds'->okDs ds ds'=true->Vals xs us->Vals ys vs->A.units+dpDs ds<cLine ->
  ∀ (j:Nat) (h1:j<us.length) (h2:j<vs.length),SeqAt.EqAt A s us[j] vs[j] (eqAtI ds ds' j)
 | _,_,_,_,_,_,_,.nil,_,_,r,_,_=>λj h1 _=>by cases r;exact absurd h1 (Nat.not_lt_zero _)
 | _,_,_,_,_,_,A,.cons h t,b,ok,r,r',hu=>λj h1 h2=>by
  cases b with
  | nil=>cases r';exact absurd h2 (Nat.not_lt_zero _)
  | cons h' t' =>
   cases r with
   | cons r rs =>
    cases r' with
    | cons r' rs' =>
     rw [okDs,y0g] at ok;rw [dpDs] at hu
     cases j with
     | zero=>exact eqAt_D I h h' ok.1 r r' ⋯
     | succ j=>exact eqAts_D I t t' ok.2 rs rs' ⋯ j (by simpa using h1) (by simpa using h2)
end
def D.isV:D->Bool
 | .v _=>true
 | _=>false
end
end L2

set_option maxRecDepth 100000
namespace L2
open PySem PySem.Spec PyProof.Rows
section
variable {X:Cx}
def rBitLen:V->List V->Hp->VK->Prop:=λx vs H Q => ∃ i,x=.int i/\vs=[]/\Q (.int (Builtin.Int.intBits i)) H
theorem mt_bitlen:MtM X "int.bit_length" rBitLen:=by
 intro pins s σ H x vs v us Q I rx rv h;obtain ⟨i,rfl,rfl,q⟩:=h;obtain ⟨t,rfl⟩:=rx
 cases Vals.zero rv
 exact call_int_bit_length ⟨.int _,H,I.tok _,⟨_,rfl⟩,q⟩
theorem count_eqU {x:V}:∀ {xs:List V} {us:List Value},Vals xs us->xs.all flatV=true->us.countP (eqU x)=xs.countP λy=>eqV y x
 | _,_,.nil,_=>rfl
 | y :: xs,u :: us,.cons r t,f=>by
  rw [g0h,y0g] at f;rw [y0x,y0x,eqU_of r f.1,count_eqU t f.2]
def rCount:V->List V->Hp->VK->Prop:=λx vs H Q => ∃ l xs y,x=.ref l/\vs=[y]/\H l=some (.lst xs)/\flatV y=true/\xs.all flatV=true/\Q (.int (xs.countP λz=>eqV z y)) H
theorem mt_count:MtM X "list.count" rCount:=by
 intro pins s σ H x vs v us Q I rx rv h;obtain ⟨l,xs,y,rfl,rfl,hH,fy,fx,q⟩:=h
 cases rx
 obtain ⟨u,rfl,ru⟩:=rv.one;obtain ⟨z,its,n,r,hl,e⟩:=I.lstM hH;refine call_meets F.slot_list_count ⟨_,e,rfl⟩ F.entry_list_count (F.args_list_count_2 _ _) (SeqAt.list_countAt l its.toArray n none #[] u (eqU y)) ⟨e,λw hw=>mem_eqAt ru fy r fx w (by simpa using hw),?_⟩
 refine ⟨.int _,H,I.tok _,⟨_,rfl⟩,?_⟩;rw [show its.toArray.toList=its from rfl,count_eqU r fx];exact q
end
end L2

set_option maxRecDepth 100000
namespace L2
open PySem PySem.Spec PyProof.Rows

structure Df (K:q0a) (mg:Str->Option Value) (x:Str) (st:Stmt) (ps:List Str) (f:Addr):Prop where
 ex:∃ fd,Fun K x x st f fd/\Binds K fd ps []
 m:mg x=some (.ref f)
structure Def (P:Program) (w:World) (K:q0a) (mg:Str->Option Value) (base:Heap) (CX:CXT) (k:Nat) (x:Str) (f:Addr) (ps:List Str) (sp:Sp):Prop where
 ex:∃ fd,FnOk P w K mg base CX k f fd ps sp/\Binds K fd ps []
 m:mg x=some (.ref f)
 kp:y0w K (.ref f)=true
structure DefX (P:Program) (w:World) (K:q0a) (mg:Str->Option Value) (base:Heap) (k:Nat) (x:Str) (f:Addr) (ps:List Str) (sp:Sp):Prop where
 ex:∃ fd,FnOkX P w K mg base k f fd ps sp/\Binds K fd ps []
 m:mg x=some (.ref f)
 kp:y0w K (.ref f)=true
section
variable {P:Program} {w:World} {K:q0a} {mg:Str->Option Value} {base:Heap} {k:Nat} {x:Str} {f:Addr} {ps N:List Str} {sp:Sp} {st:Stmt} {CX:CXT}
theorem Df.ok (d:Df K mg x st ps f) (S:FnScope N ps (defScope st)) (len:∀ vs H Q E,sp vs H Q E->vs.length=ps.length)
  (hbody:∀ (cdv:Value) (A:Around) (outer:List Env) (s:Shared) (H:Hp) (vs:List V) (Q:VK) (E:XK),Room k (A.deeper (envOfC x (defScope st) s.heap.objs.size f cdv))->sp vs H Q E ->
   ∃ t,PSs (cxOf CX0 P w K mg base N x (defScope st) f cdv A outer s H E).nox (defBody st) t/\t { nx:=λ_ H'=>Q .non H',rt:=Q } (start N vs) H):Def P w K mg base CX0 (k+1) x f ps sp:=by
 obtain ⟨fd,F,b⟩:=d.ex;exact ⟨⟨fd,F.ok S len hbody,b⟩,d.m,F.kp⟩
end
section
variable {X:Cx} {CX:CXT} {k j:Nat} {f:Addr} {ps:List Str} {sp:Sp} {E:XK} {x:Str} {p pos:Pos} {e:Expr} {es:List Expr} {t:TA}
def tDef (sp:Sp) (E:XK) (t:TA):TE:=λσ H Q=>t σ H λvs H1=>sp vs H1 Q E
theorem pe_def (d : Def X.prog X.w X.K X.mg X.base CX j x f ps sp) (hr : Room k X.A) (ha : PA X (e :: es) t) (hx : Passes CX X E) (hj : j ≤ k := by decide) (hg : Gl X x := by rfl)
    (hdb:(x == ("__debug__" : Str))=false:=by decide) (he:starEach (e :: es) X.env=(false,eval e X.env) :: starEach es X.env:=by rfl) (hpl:(backTo pos (starEach es X.env)).any (·.1)=false:=by rfl) :
    PE X (.Call (.Name x p) (e :: es) [] pos) (tDef sp E t):=by
  obtain ⟨fd,F,b⟩:=d.ex;have z:=pe_call (E:=E) (es:=es) (e:=e) (p:=p) (pos:=pos) (F.mono hj) hr hg d.m d.kp b .nil hx ha hdb he hpl;intro pins s σ H Q I h;refine z pins s σ H Q I ?_;unfold tCall
  simpa only [List.append_nil,tDef] using h
end
theorem Same.new {H:Hp} {p:Addr} (h:H p=none) (o:HO):Same H (upd H p o):=λb u q=>by rw [upd_ne (ne_of_none q h)];exact q
theorem Same.tup {K:q0a} {H H':Hp} {a:Addr} {xs:List V} (e:Same H H') (h:SqT K H a xs):SqT K H' a xs:=by
 rcases h with h | h
 ·rcases h with h | ⟨o,h⟩
  ·exact .inl (.inl (e _ _ h))
  ·exact .inl (.inr ⟨o,e _ _ h⟩)
 ·exact .inr h
end L2

set_option maxRecDepth 100000
namespace L2
open PySem PySem.Spec PyProof.Rows

section
variable {prog:Program} {w:World} {A:Around} {R:Result->Shared->Prop} {s:Shared}
theorem comp_loop {elt target iter:Expr} {scope:Scope} {pos:Pos} {it acc:Value} {env:Env} (I:Nat->Shared->Prop)
  (turn:∀ n s,I n s->wpAny (model prog w) A (pyNext it) (λr s₁=>match r with
   | none=>R (.ok .next) s₁
   | some v=>wpAny (model prog w) A (letOwnedTupleGo target it v) (λ_ s₁'=>wpAny (model prog w) A (assign target env v) (λ_ s₂=>wpAny (model prog w) A (eval elt env) (λx s₃ =>
     wpAny (model prog w) A (call (.builtin "list.append") [acc,x]) (λ_ s₄ => ∃ m,m<n/\I m s₄) (λ_ _=>False) s₃)
     (λ_ _=>False) s₂) (λ_ _=>False) s₁') (λ_ _=>False) s₁) (λ_ _=>False) s)
  (n:Nat) (h:I n s) :
  codeAny (model prog w) A (.compLoop (.ListComp elt [⟨target,iter,[],0⟩] scope pos) 0 it acc env) R s:=by
 refine codeAny_loop rfl I (λn s hI=>?_) n h
 show wpAny _ _ ((compTurn (.ListComp elt [⟨target,iter,[],0⟩] scope pos) 0 it acc env).onRaise (λx=>do noteFrame x env;theTreesLotGoes x)) _ _ s
 refine wpAny_noted ?_;rw [compTurn_list1];have no:∀ {P:Value->Shared->Prop} (e:Value) (s:Shared),False->P e s:=λ_ _ h=>h.elim;refine wpAny_bind (wpAny_standAt (wpAny_bind (wpAny_mono (turn n s hI) (λr s₁ h₁=>?_) no)))
 cases r with
 | none=>exact wpAny_pure h₁
 | some v =>
  refine wpAny_bind (wpAny_mono h₁ (λ_ s₁' h₁'=>?_) no)
  exact wpAny_bind (wpAny_mono h₁' (λ_ s₂ h₂=>wpAny_bind (wpAny_bind (wpAny_mono h₂ (λx s₃ h₃=>wpAny_bind (wpAny_mono h₃
   (λ_ s₄ h₄=>wpAny_pure (wpAny_pure ⟨rfl,h₄⟩)) no)) no))) no)
end

abbrev Cx.block (X:Cx) (scope:Scope) (cl:List (Str × Addr)) (C:Addr) (Nc:List Str) (s₂:Shared) (H₂:Hp) (fp:List Addr) (pins:List (Addr × Obj)):Cx :=
 { X with N:=Nc,s₀:=s₂,H₀:=H₂,env:=compEnvC scope cl C X.env,outer:=X.stack,ex:=fp,fn:=λ_=>false,pn:=X.pn ++ pins,xe:=λ_ _=>False }
def capSt (caps:List (Option Nat)) (σ:St):St:=caps.map λo=>o.bind λj=>(σ[j]?).join
def tComp (wi:TI) (caps:List (Option Nat)) (g:TG) (te:TE):TE:=λσ H Q=>wi σ H λJ H1 => ∀ D,H1 D=none->∃ W:Nat->Nat->St->Hp->Prop,(∃ m,W 0 m (capSt caps σ) (upd H1 D (.lst []))) /\
 ∀ i m σc H2,W i m σc H2->(J.stop i H2/\Q (.ref D) H2) \/
  (J.go i H2/\∀ x H3,J.yld i H2 x H3->g x σc H3 λσ4 H4=>te σ4 H4 λy H5 => ∃ ys,H5 D=some (.lst ys)/\ys.length<sizeLine/\∃ m',m'<m/\W (i+1) m' σ4 (upd H5 D (.lst (ys ++ [y]))))
section
variable {X:Cx}
structure Caps (X:Cx) (scope:Scope) (cl:List (Str × Addr)) (Nc:List Str) (caps:List (Option Nat)):Prop where
 clos:closureFor scope X.env=pure cl
 sub:∀ x c,cl.lookup x=some c->X.env.cells.lookup x=some c
 has:∀ x,(relabel scope X.env).names.lookup x=some .cell \/ (relabel scope X.env).names.lookup x=some .free->∃ c,cl.lookup x=some c
 nocell:∀ x ∈ scope.names,x.2 ≠ .cell
 kind:scope.kind=.function
 names:∀ x ∈ scope.names,x.2=.local->scope.names.lookup x.1=some .local
 len:caps.length=Nc.length
 cap:∀ (i j:Nat) (x:Str),caps[i]? = some (some j)->Nc[i]? = some x->X.N[j]? = some x/\Vis X.env.scope x/\X.env.kindOf x ≠ some .local/\((relabel scope X.env).names.lookup x=some .cell \/ (relabel scope X.env).names.lookup x=some .free)
theorem Inv.sameC {pins:List (Addr × Obj)} {σ:St} {H H':Hp} {s s':Shared} {h'':Heap} {fp:List Addr} {C:Addr} (I:Inv X pins σ H s) (hf:∀ b ∈ fp,FpOk X pins H b) (os:s'.os=s.os) (bare:AllBare s'.gens)
  (un:Un (frs X.stack) fp H H' s.heap s'.heap) (hok:HOk X.prog X.w H' s'.heap) (hC:s.heap.objs.size<=C) (hCn:H' C=none) (sb:g0r C s'.heap h''):Inv X pins σ H' { s' with heap:=h'' }:=by
 have ne:∀ b o,s.heap.get? b=some o->b ≠ C:=λb o e=>q0u (q0f (q0h e) hC);refine I.call' (s':={ s' with heap:=h'' }) (ch:=fp) os ⟨λb o e n h1 h2=>(sb.2 b (ne b o e)).trans (un.keep b o e n h1 h2),λb o e n h1 h2=>?_,un.free,λb o e h2=>?_,un.tups,un.frzs,un.tbls⟩ (λb u e=>?_) bare (λb hb=>?_)
 ·obtain ⟨sl,z⟩:=un.slot b o e n h1 h2
  exact ⟨sl,(sb.2 b (ne b o e)).trans z⟩
 ·obtain ⟨o',z⟩:=un.there b o e h2
  exact ⟨o',(sb.2 b (ne b o e)).trans z⟩
 ·refine (hok b u e).stay (λc v hc q=>(sb.2 c ?_).trans q) (λ_ q=>q) λ_ _ q=>q
  rintro rfl;rcases hc with rfl | hc
  ·rw [hCn] at e;cases e
  ·rw [hCn] at hc;cases hc
 ·obtain ⟨_,f1,_,f3,f4,f5⟩:=hf b hb
  exact ⟨f3,f1,f4,f5⟩
theorem pe_comp {elt tg iter:Expr} {scope:Scope} {pos:Pos} {cl:List (Str × Addr)} {Nc:List Str} {caps:List (Option Nat)} {wi:TI} {g:TG} {te:TE} (hc:X.calm=true) (cp:Caps X scope cl Nc caps) (hi:PI X tg iter wi)
  (hg:∀ C s₂ H₂ fp pins,PG (X.block scope cl C Nc s₂ H₂ fp pins) tg g) (he:∀ C s₂ H₂ fp pins,PE (X.block scope cl C Nc s₂ H₂ fp pins) elt te) (hs:∀ x,foldedSetIterable iter X.env x=pure x:=by intro _;rfl) :
  PE X (.ListComp elt [⟨tg,iter,[],0⟩] scope pos) (tComp wi caps g te):=by
 intro pins s σ H Q I h;rw [eval_ListComp];refine wpAny_comprehension_free (use:=none) rfl hs cp.clos cp.kind cp.names ?_;refine thn (hi pins s σ H _ I h) λv s1 h1=>thn h1 λitv s2 h2=>?_;obtain ⟨it,fp,tn,J,H2,e,I2,T,st2,f2,hW⟩:=h2;subst e;refine wpAny_newObj_type ?_ (by show 0<=sizeLine;exact z0z _)
 refine wpAny_newFunctionEnv cp.nocell (by intro y hy;simp at hy) (λh4 hns hsb=>?_) cp.kind
 dsimp only at hns hsb ⊢
 generalize hH3:s2.heap.push { cls:=.type "list",dict:=none,data:=.seq ([]:List Value).toArray }=H3 at hns hsb ⊢
 have hCe:H3.objs.size=s2.heap.objs.size+1:=by rw [<- hH3,j0w]
 have below:∀ b o,s2.heap.get? b=some o->b ≠ H3.objs.size:=λb o e=>by rw [hCe];exact q0u (v0q (q0h e))
 have old:∀ b o,s2.heap.get? b=some o->h4.get? b=some o:=λb o e=>hsb.extBut b o (below b o e) (q0j _ (hH3 ▸ q0j _ e))
 have hD:h4.get? s2.heap.objs.size=some { cls:=.type "list",dict:=none,data:=.seq ([]:List Value).toArray } :=
  hsb.extBut _ _ (by rw [hCe];exact q0u (y0h _)) (q0j _ (hH3 ▸ z0u _ rfl))
 have hDn:H2 s2.heap.objs.size=none:=I2.fresh;have hCn:H2 H3.objs.size=none:=I2.hok.fresh (by rw [hCe];exact y0m _)
 have hCs:s2.heap.objs.size<=H3.objs.size:=by rw [hCe];exact y0m _
 have hDC:s2.heap.objs.size ≠ H3.objs.size:=by rw [hCe];exact q0u (y0h _)
 have fpl:∀ b ∈ fp,∃ o,s2.heap.get? b=some o:=λb hb=>let ⟨o,e,_⟩:=T.obj _ _ st2 b hb;⟨o,e⟩;have fpC:∀ b ∈ fp,b ≠ H3.objs.size:=λb hb=>let ⟨o,e⟩:=fpl b hb;below b o e;have fpD:∀ b ∈ fp,b ≠ s2.heap.objs.size:=λb hb=>let ⟨o,e⟩:=fpl b hb;q0u (q0h e);have stkN:∀ b,b ≠ X.env.locals->b ∉ X.fs->b ∉ frs X.stack:=λb h1 h2 z=>(j0v.mp (I2.stkSub b z)).elim h1 h2;obtain ⟨W,⟨m0,w0⟩,turn⟩:=hW s2.heap.objs.size hDn
 have okB:(X.block scope cl H3.objs.size Nc s2 H2 fp pins).Ok:=by
  refine ⟨I2.ok.mod,?_,I2.ok.glob,I2.ok.blt,hCs,λx y c h1 h2=>I2.ok.inj x y c (cp.sub x c h1) (cp.sub y c h2),λx hx=>cp.has x hx,λx c h=>(by cases h),I2.ok.hd,I2.ok.frames,.inl rfl,λb hb=>⟨fpC b hb,λx c h=>(f2 b hb).2.2.2.2.1 x c (cp.sub x c h)⟩,I2.bs,q0y I2.ok.bsz I2.sz,λb o e hb=>?_,λb hb=>stkN b (f2 b hb).2.1 (f2 b hb).2.2.1,I2.stack,I2.stkFree⟩
  ·exact cp.kind
  ·rcases (f2 b hb).2.2.2.1 with z | z
   ·exact I2.ok.noex b o e z
   ·exact absurd (q0f (q0h e) (q0y I2.ok.bsz z)) (y0k _)
 have hokB:HOk X.prog X.w (upd H2 s2.heap.objs.size (.lst [])) h4:=I2.hok.laid old (q0n _) ⟨z0z _,[],_,.nil,hD⟩
 have IB:Inv (X.block scope cl H3.objs.size Nc s2 H2 fp pins) [] (capSt caps σ) (upd H2 s2.heap.objs.size (.lst [])) { s2 with heap:=h4,toks:=s2.toks+([]:List (Str × Value)).length }:=by
  refine ⟨okB,rfl,I2.bare,Un.laid old (q0n _) hDn,⟨_,hns,λi x v e1 e2 e3=>?_⟩,λx c e=>?_,(show upd H2 s2.heap.objs.size (.lst []) H3.objs.size=none by rw [upd_ne (Ne.symm hDC)];exact hCn),λx c e=>?_,λp hp=>?_,hokB,?_⟩
  ·unfold capSt at e2
   rw [q0e] at e2
   cases hcap:caps[i]? with
   | none=>rw [hcap] at e2;cases e2
   | some o =>
    rw [hcap] at e2
    cases o with
    | none=>cases e2
    | some j =>
     have hj:σ[j]? = some (some v):=by
      have e2':(σ[j]?).join=some v:=Option.some.inj e2
      cases q:σ[j]? with
      | none=>rw [q] at e2';cases e2'
      | some z=>rw [q] at e2';exact congrArg some e2'
     obtain ⟨n1,n2,n3,n4⟩:=cp.cap i j x hcap e1;obtain ⟨m,hm,hl⟩:=I2.loc;obtain ⟨u,r,q⟩:=hl j x v n1 hj n2;rcases q with ⟨k,_⟩ | ⟨k,c,ec,z⟩
     ·exact absurd k n3
     ·obtain ⟨c',ec'⟩:=cp.has x n4
      have:=cp.sub x c' ec';rw [ec] at this;cases this;obtain ⟨oc,ho,hd⟩:=z;exact ⟨u,r,.inr ⟨n4,c,ec',oc,old _ _ ho,hd⟩⟩
  ·obtain ⟨v,oc,ho,hd⟩:=I2.cell x c (cp.sub x c e)
   exact ⟨v,oc,old _ _ ho,hd⟩
  ·obtain ⟨v,oc,ho,hd⟩:=I2.cell x c (cp.sub x c e)
   rw [upd_ne (q0u (q0h ho))];exact I2.freeC x c (cp.sub x c e)
  ·have hp':p ∈ X.pn ++ pins:=by simpa using hp
   obtain ⟨e1,e2,e3,e4,e5⟩:=I2.pin p hp';exact ⟨old _ _ e1,by rw [upd_ne (q0u (q0h e1))];exact e2,below _ _ e1,stkN _ e3 e4,e5⟩
  ·show (capSt caps σ).length=Nc.length
   unfold capSt;rw [q0b];exact cp.len
 have stat:∀ {H':Hp},(∀ b ∈ fp,H' b=none)->∀ b ∈ fp,FpOk (X.block scope cl H3.objs.size Nc s2 H2 fp pins) [] H' b:=λhn b hb =>
  ⟨hn b hb,fpC b hb,stkN b (f2 b hb).2.1 (f2 b hb).2.2.1,.inl hb,λx c h=>(f2 b hb).2.2.2.2.1 x c (cp.sub x c h),λp hp=>(f2 b hb).2.2.2.2.2 p (by simpa using hp)⟩
 have loop:∀ s5:Shared,s5={ s2 with heap:=h4,toks:=s2.toks+([]:List (Str × Value)).length } ->
   codeAny (model X.prog X.w) X.A (.compLoop (.ListComp elt [⟨tg,iter,[],0⟩] scope pos) 0 (.ref it) (.ref s2.heap.objs.size) (compEnvC scope cl H3.objs.size X.env))
    (compPost (model X.prog X.w) X.A X.xe none (EP X pins σ Q) (.ref s2.heap.objs.size) H3.objs.size) s5:=by
  rintro s5 rfl;refine comp_loop (λn s' => ∃ i σ' H',Inv (X.block scope cl H3.objs.size Nc s2 H2 fp pins) [] σ' H' s'/\tn i s'.heap/\(∀ b ∈ fp,H' b=none)/\W i n σ' H') ?_ m0 ⟨0,_,_,IB,T.keep _ _ _ st2 λb hb o e=>old b o e,λb hb=>by rw [upd_ne (fpD b hb)];exact (f2 b hb).1,w0⟩
  rintro n s6 ⟨i,σ6,H6,I6,st6,fr6,w6⟩;rcases turn i n σ6 H6 w6 with ⟨stop,qn⟩ | ⟨go,step⟩
  ·refine thn (T.done (X.block scope cl H3.objs.size Nc s2 H2 fp pins) rfl rfl rfl hc i [] s6 σ6 H6 _ I6 (stat fr6) st6 stop) λr s7 zq=>?_
   obtain ⟨hr,I7⟩:=zq;subst hr;obtain ⟨m7,hn7,_⟩:=id I7.loc;exact ⟨m7,hn7,λh' sb=>⟨.ref s2.heap.objs.size,H6,I2.sameC f2 I7.os I7.bare I7.base I7.hok hCs I7.free sb,rfl,qn⟩⟩
  ·refine thn (T.item (X.block scope cl H3.objs.size Nc s2 H2 fp pins) rfl rfl rfl hc i [] s6 σ6 H6 _ I6 (stat fr6) st6 go) λr s7 zq=>?_
   obtain ⟨u,hr,h7⟩:=zq;subst hr;refine thn h7 λ_ s8 zq=>?_;obtain ⟨x,H8,I8,r8,y8,st8,fr8⟩:=zq;have I8':=I8.pinned (stat fr8) (T.obj _ _ st8);refine thn (hg _ _ _ _ _ _ s8 σ6 H8 x u _ I8' r8 (step x H8 y8)) λ_ s9 zq=>?_;obtain ⟨σ9,H9,I9,q9⟩:=zq;refine thn (he _ _ _ _ _ _ s9 σ9 H9 _ I9 q9) λu10 s10 zq=>?_;obtain ⟨v10,H10,I10,r10,ys,hys,hlen,m',hm',w'⟩:=zq;refine thn (mt_append _ s10 σ9 H10 (.ref s2.heap.objs.size) [v10] (.ref s2.heap.objs.size) [u10] (λ_ H11=>H11=upd H10 s2.heap.objs.size (.lst (ys ++ [v10]))) I10 rfl (.cons r10 .nil) ⟨_,ys,v10,rfl,rfl,hys,hlen,rfl⟩) λ_ s11 zq=>?_;obtain ⟨_,H11,I11,_,hH11⟩:=zq;subst hH11;refine ⟨m',hm',i+1,σ9,_,I11.unpinned,T.keep _ _ _ st8 λb hb o e=>(I11.pin (b,o) (q0k _ (q0k _ (mem_pinsAt hb e)))).1,λb hb=>?_,w'⟩;obtain ⟨o,e,d⟩:=T.obj _ _ st8 b hb;exact (I11.pin (b,o) (q0k _ (q0k _ (mem_pinsAt hb e)))).2.1
 exact codeAny_compStart_list (loop _ rfl) (T.self _ 0 _ _ _ (T.keep _ _ _ st2 λb hb o e=>old b o e) (loop _ rfl))
end
end L2

set_option maxRecDepth 100000
namespace L2
open PySem PySem.Spec PyProof.Rows
def relabelS (scope osc:Scope):List (Str × NameKind):=scope.names.map λ(n,k)=>if (k == .free && osc.kind == .function && osc.names.lookup n == some .cell) then (n,.cell) else (n,k)
def isCF (o:Option NameKind):Bool:=o == some .cell || o == some .free
def capsOk (scope osc:Scope) (N ks Nc:List Str) (caps:List (Option Nat)):Bool :=
 ((relabelS scope osc).all λy => !(y.2 == .cell || y.2 == .free) || ks.contains y.1) && (scope.names.all λy=>y.2 != .cell) && scope.kind == .function &&
 (scope.names.all λy=>y.2 != .local || scope.names.lookup y.1 == some .local) && caps.length == Nc.length &&
 ((caps.zip Nc).all λp=>match p.1 with
  | none=>true
  | some j=>N[j]? == some p.2 && isCF (osc.names.lookup p.2) && isCF ((relabelS scope osc).lookup p.2))
theorem lookup_mem {α β:Type} [BEq α] [LawfulBEq α]:∀ {l:List (α × β)} {x:α} {v:β},l.lookup x=some v->(x,v) ∈ l
 | [],_,_,h=>by simp at h
 | (a,b) :: r,x,v,h=>by
  rw [v0j] at h
  split at h
  ·rename_i e
   have:=eq_of_beq e;subst this
   cases h
   exact z0m
  ·exact z0d _ (lookup_mem h)
theorem lookup_of_key {β:Type}:∀ {l:List (Str × β)} {x:Str},x ∈ l.map (·.1)->∃ c,l.lookup x=some c
 | [],_,h=>by simp at h
 | (a,b) :: r,x,h=>by
  rw [v0j]
  by_cases e:x=a
  ·subst e;exact ⟨b,by simp⟩
  ·have:(x == a)=false:=by simpa using e
   rw [this];rcases j0v.mp h with z | z
   ·exact absurd z e
   ·exact lookup_of_key z
theorem isCF_or {o:Option NameKind} (h:isCF o=true):o=some .cell \/ o=some .free:=by
 unfold isCF at h;simp only [m0b,beq_iff_eq] at h;exact h
theorem Caps.of {X:Cx} {scope osc:Scope} {cl:List (Str × Addr)} {N ks Nc:List Str} {caps:List (Option Nat)} (clos:closureFor scope X.env=pure cl) (hN:X.N=N) (hosc:X.env.scope=osc) (hks:cl.map (·.1)=ks)
  (sub:∀ x c,cl.lookup x=some c->X.env.cells.lookup x=some c) (ok:capsOk scope osc N ks Nc caps=true):Caps X scope cl Nc caps:=by
 unfold capsOk at ok;simp only [y0g,List.all_eq_true,beq_iff_eq,m0b,z0v,bne_iff_ne,ne_eq] at ok;obtain ⟨⟨⟨⟨⟨o1,o2⟩,o3⟩,o4⟩,o5⟩,o6⟩:=ok;have er:(relabel scope X.env).names=relabelS scope osc:=by subst hosc;rfl
 have kof:∀ x,X.env.kindOf x=osc.names.lookup x:=λx=>by subst hosc;rfl
 refine ⟨clos,sub,λx h=>?_,λx hx=>o2 x hx,o3,λx hx hl=>?_,o5,λi j x h1 h2=>?_⟩
 ·rw [er] at h
  refine lookup_of_key ?_;rw [hks]
  have key:∀ k,(relabelS scope osc).lookup x=some k->(k=.cell \/ k=.free)->x ∈ ks:=λk hk hcf=>by
   rcases o1 (x,k) (lookup_mem hk) with z | z
   ·rcases hcf with rfl | rfl <;> simp at z
   ·simpa using z
  rcases h with h | h
  ·exact key _ h (.inl rfl)
  ·exact key _ h (.inr rfl)
 ·rcases o4 x hx with z | z
  ·exact absurd hl z
  ·exact z
 ·have hm:(some j,x) ∈ caps.zip Nc:=by
   have:(caps.zip Nc)[i]? = some (some j,x):=by
    rw [g0n];exact ⟨h1,h2⟩
   exact q0g this
  have z:=o6 _ hm;simp only [y0g,beq_iff_eq] at z;obtain ⟨⟨z1,z2⟩,z3⟩:=z;have c2:=isCF_or z2;have c3:=isCF_or z3;refine ⟨by rw [hN];exact z1,?_,?_,?_⟩
  ·rw [hosc]
   rcases c2 with c | c
   ·exact .inr (.inl c)
   ·exact .inr (.inr c)
  ·rw [kof]
   rcases c2 with c | c <;> rw [c] <;> decide
  ·rw [er];exact c3
end L2

set_option maxRecDepth 100000
namespace L2
open PySem PySem.Spec PyProof.Rows

section
variable {X:Cx} {pins:List (Addr × Obj)} {σ:St} {H:Hp} {s:Shared}
theorem Inv.turnLaid {h':Heap} {t':Nat} {fp:List Addr} {a:Addr} {o:HO} (I:Inv X pins σ H s) (hf:∀ b ∈ fp,FpOk X pins H b)
  (k:∀ b u,b ∉ fp->s.heap.get? b=some u->h'.get? b=some u) (hp:s.heap.objs.size<=a) (new:ObjOk X.prog X.w (upd H a o) h' a o):Inv X pins σ (upd H a o) { s with heap:=h',toks:=t' }:=by
 have hn:H a=none:=I.hok.fresh hp;have nf:∀ b u,H b=some u->b ∉ fp:=λb u e z=>by rw [(hf b z).1] at e;cases e
 have ne:∀ b u,s.heap.get? b=some u->b ≠ a:=λb u e=>q0u (q0f (q0h e) hp)
 refine I.step (g':=s.gens) (d':=s.drawn) (ch:=fp) (λb hb=>?_) (λb o _ _ hc e _=>k b o hc e) (λb o _ _ hc e _=>⟨o.slots,k b o hc e⟩) (λb o _ e n=>by rw [upd_ne (ne b o e)];exact n)
  (λb o hc e=>⟨o,k b o hc e⟩) (λb xs e=>by rw [upd_ne (ne_of_none e hn)];exact e) (λb o u e=>by rw [upd_ne (ne_of_none e hn)];exact e) (λb ps e=>⟨#[],by rw [upd_ne (ne_of_none e hn),e];simp⟩) (λm hm=>?_) (λb u e=>?_) I.bare
 ·obtain ⟨_,f1,_,f3,f4,f5⟩:=hf b hb
  exact ⟨f3,f1,f4,f5⟩
 ·obtain ⟨o,es,ep,ho,r⟩:=hm
  exact ⟨o,es,ep,k _ o (λz=>(hf _ z).2.1 rfl) ho,r⟩
 ·by_cases hb:b=a
  ·subst hb;rw [upd_same] at e;cases e;exact new
  ·rw [upd_ne hb] at e
   refine (I.hok b u e).stay (λc v hc q=>k c v ?_ q) (λc q=>by rw [upd_ne (ne_of_none q hn)];exact q) λc xs q=>by rw [upd_ne (ne_of_none q hn)];exact q
   rcases hc with z | z
   ·rw [z];exact nf b u e
   ·exact nf c _ z
end

def Ite (K:q0a) (a:Addr):It :=
 ⟨λi H => ∃ xs x,SqL K H a xs/\xs[i]? = some x,λi H y H' => ∀ xs,SqL K H a xs->∃ x p,xs[i]? = some x/\H p=none/\y=.ref p/\H'=upd H p (.tup [.int i,x]),λi H => ∃ xs,SqL K H a xs/\xs.length<=i⟩
theorem turn_enum {P:Program} {w:World} {K:q0a} {elts:List Expr} {k:Nat} {tpos:Pos} (a e it:Addr) (hei:e ≠ it) :
  Turn P w K (.Tuple elts k tpos) (Ite K a) [e,it] e (λi h=>(∃ old,IsEnum h e it ((i:Nat):Int) old)/\h.IsListIter it a i) where
 mem:=by simp
 obj:=λi h st b hb=>by
  obtain ⟨⟨old,he⟩,hit⟩:=st;rcases (by simpa using hb:b=e \/ b=it) with z | z
  ·subst z
   exact ⟨_,he,λv z=>by cases z⟩
  ·subst z
   obtain ⟨o,e,c,d⟩:=hit;exact ⟨o,e,λv z=>by rw [d] at z;cases z⟩
 keep:=λi h h' st k=>⟨let ⟨old,he⟩:=st.1;⟨old,k e (by simp) _ he⟩,st.2.at λo e=>k it (by simp) o e⟩
 item:=by
  intro X hP hw hK hc i pins s σ H E I hf st hg;subst hP hw hK;obtain ⟨xs,x,hq,hx⟩:=hg;obtain ⟨its,rv,p,hz⟩:=I.list hq;obtain ⟨u,hu,ru⟩:=rv.get hx;obtain ⟨⟨old,he⟩,hit⟩:=st;have helt:e<s.heap.objs.size:=q0h he;have hilt:it<s.heap.objs.size:=by obtain ⟨_,x,_⟩:=id hit;exact q0h x
  refine wpAny_pyNext_enum_item he hit p.isList (x:=u) (by simpa using hu) hei λh' ho hit' hT hsz kk=>?_
  refine ⟨_,rfl,?_⟩;refine wpAny_letOwnedTupleGo_enum (s:={ s with heap:=h',toks:=s.toks+1 }) ho λh'' he' sb=>?_;have hT':h''.get? s.heap.objs.size=some { cls:=.type "tuple",data:=.seq #[.int i s.toks,u] }:=(sb.2 _ (v0s helt)).trans hT
  refine ⟨.ref s.heap.objs.size,upd H s.heap.objs.size (.tup [.int i,x]),I.turnLaid (fp:=[e,it]) (t':=s.toks+1) hf (λb v hb q=>?_) (q0n _) ?_,rfl,?_,?_,λb hb=>?_⟩
  ·have h1:b ≠ e:=λz=>hb (by simp [z])
   have h2:b ≠ it:=λz=>hb (by simp [z])
   exact (sb.2 b h1).trans (kk b v h1 h2 q)
  ·exact ⟨(show 2<=sizeLine by decide +kernel),[.int i s.toks,u],.cons ⟨_,rfl⟩ (.cons ru .nil),_,hT',rfl,_,rfl⟩
  ·intro ys hy
   rw [I.list_inj hy hq];exact ⟨x,_,hx,I.fresh,rfl,rfl⟩
  ·refine ⟨⟨u,by have:=he';simpa using this⟩,hit'.at λo q=>(sb.2 it hei.symm).trans q⟩
  ·have hlt:b<s.heap.objs.size:=by
    rcases (by simpa using hb:b=e \/ b=it) with z | z
    ·rw [z];exact helt
    ·rw [z];exact hilt
   rw [upd_ne (q0u hlt)];exact (hf b hb).1
 done:=by
  intro X hP hw hK hc i pins s σ H E I hf st hg;subst hP hw hK;obtain ⟨xs,hq,hx⟩:=hg;obtain ⟨its,rv,p,hz⟩:=I.list hq;obtain ⟨⟨old,he⟩,hit⟩:=st;obtain ⟨f0,f1,f2,f3,f4,f5⟩:=hf it (by simp)
  have hl:=rv.length;exact wpAny_pyNext_enum_end (I.ok.hd hc) he hit p.isList (by simp;omega) λh' eb=>⟨rfl,I.turned (t':=s.toks) (λb o hb e=>eb b o hb e) f0 f1 f3 f4 f5⟩
 self:=λ_ _ _ _ _ st h=>by
  obtain ⟨⟨old,he⟩,_⟩:=st;exact wpAny_pyIter_enum he h
section
variable {X:Cx}
def iEnum (K:q0a) (ta:TA):TI:=λσ H R=>ta σ H λvs H1 => ∃ a,vs=[.ref a]/\(∃ xs,SqL K H1 a xs)/\R (Ite K a) H1
theorem pi_enum {elts:List Expr} {k:Nat} {tpos:Pos} {l:Expr} {ta:TA} {p pos:Pos} (hg:Gl X "enumerate") (hm:X.mg "enumerate" = none) (ha:PA X [l] ta) (hs:starEach [l] X.env=[(false,eval l X.env)]:=by rfl) :
  PI X (.Tuple elts k tpos) (.Call (.Name "enumerate" p) [l] [] pos) (iEnum X.K ta):=by
 intro pins s σ H R I h;refine Call_ (ld_blt I hg hm (u:=.type "enumerate") (by decide +kernel) (PyProof.Rows.callWith_type1 (thn (ha pos pins s σ H _ I h) λus s1 ⟨vs,H1,I1,r1,q1⟩=>?_) hs rfl))
 obtain ⟨a,e,⟨xs,hq⟩,q⟩:=q1;subst e;obtain ⟨u,rfl,rx⟩:=vals1 r1
 cases rx
 obtain ⟨its,rv,p,hz⟩:=I1.list hq;refine call_enumerate_list p.isList λh' he hit hsz kk=>?_;refine wpAny_pyIter_enum he ?_;have I2:Inv X pins σ H1 { s1 with heap:=h' }:=I1.kept (t':=s1.toks) kk;refine ⟨s1.heap.objs.size+1,[s1.heap.objs.size+1,s1.heap.objs.size],_,_,H1,rfl,I2,turn_enum a _ _ (Nat.succ_ne_self _),⟨⟨_,he⟩,hit⟩,λb hb=>?_,q⟩
 have hb':s1.heap.objs.size<=b:=by
  rcases (by simpa using hb:b=s1.heap.objs.size+1 \/ b=s1.heap.objs.size) with z | z
  ·rw [z];exact y0m _
  ·rw [z];exact q0n _
 obtain ⟨f0,f1,f2,f3,f4,f5⟩:=I1.fpOk (H':=H1) hb' (I1.hok.fresh hb');exact ⟨f0,f1,f2,f3,f4,f5⟩
end

section
variable {prog:Program} {w:World} {A:Around} {R:Result->Shared->Prop} {s:Shared}
end
def tCompIf (wi:TI) (caps:List (Option Nat)) (g:TG) (tt:TT) (te:TE):TE:=λσ H Q=>wi σ H λJ H1 => ∀ D,H1 D=none->∃ W:Nat->Nat->St->Hp->Prop,(∃ m,W 0 m (capSt caps σ) (upd H1 D (.lst []))) /\
 ∀ i m σc H2,W i m σc H2->(J.stop i H2/\Q (.ref D) H2) \/
  (J.go i H2/\∀ x H3,J.yld i H2 x H3->g x σc H3 λσ4 H4=>tt σ4 H4 λb H4'=>if b=true then te σ4 H4' λy H5 => ∃ ys,H5 D=some (.lst ys)/\ys.length<sizeLine/\∃ m',m'<m/\W (i+1) m' σ4 (upd H5 D (.lst (ys ++ [y])))
   else ∃ m',m'<m/\W (i+1) m' σ4 H4')
section
variable {X:Cx}
end
end L2

set_option maxRecDepth 100000
namespace L2
open PySem PySem.Spec PyProof.Rows
section
variable {X:Cx}
theorem all_range_get (bs:List Bool):(q0z bs.length).all (λi=>(bs[i]?).getD true)=bs.all id:=by
 induction bs with
 | nil=>rfl
 | cons b bs ih =>
  rw [z0j,all_range_succ,g0h,<- ih];rfl
theorem call_all (hc:X.calm=true):CallR X (.builtin "all") (λxs H Q => ∃ (p:Addr) (bs:List Bool),xs=[.ref p]/\SqL X.K H p (bs.map V.bl)/\Q (.bl (bs.all id)) H):=by
 intro pins s σ H xs us Q I r h;obtain ⟨p,bs,rfl,hq,q⟩:=h;obtain ⟨u,rfl,rx⟩:=vals1 r
 cases rx
 obtain ⟨its,r',pl,hz⟩:=I.list hq;have hlen:its.length=bs.length:=by rw [<- r'.length,q0b]
 have hp:p ≠ s.heap.objs.size:=by
  obtain ⟨o,ho,_⟩:=pl.isList;exact q0u (q0h ho)
 refine call_all_walk (wpAny_pyIter_list pl.isList ?_);refine ⟨s.heap.objs.size,_,_,_,_,_,λi=>(bs[i]?).getD true,rfl,Walks.list (A:=X.A.in1) (I.ok.hd hc) _ p hp its.toArray,⟨⟨_,z0u _ rfl,rfl,rfl⟩,pl.isList.at λo e=>q0j _ e⟩,?_,?_⟩
 ·intro i v s' Q' E' hv hQ
  have hv':its[i]? = some v:=by simpa using hv
  have hi:i<bs.length:=by rw [<- hlen];exact (q0d.mp hv').1
  obtain ⟨u,hu,ru⟩:=r'.get (i:=i) (x:=.bl bs[i]) (by rw [q0e,q0c hi];rfl)
  rw [hv'] at hu
  cases hu
  cases ru
  simp only [q0c hi] at hQ;exact wpAny_truthy_bool hQ
 ·intro h' tk kk
  have e:(q0z its.toArray.size).all (λi=>(bs[i]?).getD true)=bs.all id:=by rw [q0q,hlen,all_range_get]
  rw [e];refine ⟨.bl _,H,I.kept (t':=tk) λb o e=>kk b o ?_ (q0j _ e),rfl,q⟩;intro z;have:b=s.heap.objs.size:=by simpa using z
  exact absurd (q0h e) (by rw [this];exact y0k _)

def rNeD (K:q0a):R2:=λx y H Q => ∃ d d',d.isV=false/\IsD K H x d/\IsD K H y d'/\okD d d'=true/\dpD d<=60/\Q (.bl (!eqD d d')) H
theorem op_neD (hu:X.A.units+64<cLine):OpR X (compareOp .NotEq) (rNeD X.K):=by
 intro pins s σ H x y v u Q I rx ry h;obtain ⟨d,d',nf,h1,h2,ok,dp,q⟩:=h;have fin:EP X pins σ Q (.bool (!eqD d d')) s:=⟨.bl _,H,I,rfl,q⟩
 cases h1 with
 | v f =>
  cases h2 with
  | v f'=>exact absurd (show true=false from nf) (by decide)
  | tup _ _=>simp [okD] at ok
  | lst _ _=>simp [okD] at ok
 | @tup p xs ds h t =>
  cases h2 with
  | v f'=>simp [okD] at ok
  | @tup p' ys ds' h' t' =>
   cases (show v=Value.ref p from rx)
   cases (show u=Value.ref p' from ry)
   rw [okD] at ok;rw [dpD] at dp;rw [eqD] at fin;obtain ⟨its,r1,i1,_⟩:=I.tuple h;obtain ⟨its',r2,i2,_⟩:=I.tuple h';have q':∀ (j:Nat) (h1:j<its.length) (h2:j<its'.length),SeqAt.EqAt X.A.in1 s its[j] its'[j] (eqAtI ds ds' j):=λj h1 h2=>eqAts_D (A:=X.A.in1) I t t' ok r1 r2 (by show X.A.units+1+_<_;omega) j h1 h2
   have z:=SeqAt.RcNeAt.tuples (A:=X.A) (items:=its.toArray) (items2:=its'.toArray) (e:=eqAtI ds ds') i1 i2 ⋯ (λj h1 h2=>q' j (by simpa using h1) (by simpa using h2))
   have e1:its.toArray.size=ds.length:=by rw [q0q,<- r1.length,t.length]
   have e2:its'.toArray.size=ds'.length:=by rw [q0q,<- r2.length,t'.length]
   rw [e1,e2,all_eqAtI] at z;exact PySem.EqBoolInt.of_rcne z fin
  | lst _ _=>simp [okD] at ok
 | @lst p xs ds h t =>
  cases h2 with
  | v f'=>simp [okD] at ok
  | tup _ _=>simp [okD] at ok
  | @lst p' ys ds' h' t' =>
   cases (show v=Value.ref p from rx)
   cases (show u=Value.ref p' from ry)
   rw [okD] at ok;rw [dpD] at dp;rw [eqD] at fin;obtain ⟨its,r1,i1,_⟩:=I.list h;obtain ⟨its',r2,i2,_⟩:=I.list h';have q':∀ (j:Nat) (h1:j<its.length) (h2:j<its'.length),SeqAt.EqAt X.A.in1 s its[j] its'[j] (eqAtI ds ds' j):=λj h1 h2=>eqAts_D (A:=X.A.in1) I t t' ok r1 r2 (by show X.A.units+1+_<_;omega) j h1 h2
   have e1:its.toArray.size=ds.length:=by rw [q0q,<- r1.length,t.length]
   have e2:its'.toArray.size=ds'.length:=by rw [q0q,<- r2.length,t'.length]
   by_cases hl:ds.length=ds'.length
   ·have z:=SeqAt.RcNeAt.lists (A:=X.A) (items:=its.toArray) (items2:=its'.toArray) (e:=eqAtI ds ds') i1.isList i2.isList (by rw [e1,e2,hl]) ⋯ (λj h1 h2=>q' j (by simpa using h1) (by simpa using h2))
    rw [e1,all_eqAtI_len ds ds' hl] at z;exact PySem.EqBoolInt.of_rcne z fin
   ·rw [eqDs_len ds ds' hl] at fin
    exact PySem.EqBoolInt.of_rcne (SeqAt.RcNeAt.lists_lengths (A:=X.A) i1.isList i2.isList (by rw [e1,e2];simpa using hl) ⋯) fin

end
def CompN (D:Addr) (n:Nat) (Pv:Nat->St->Hp->Prop) (i:Nat) (σ4:St) (y:V) (H5:Hp):Prop :=
 ∃ ys,H5 D=some (.lst ys)/\ys.length<sizeLine/\∃ m',m'<n-i/\(m'=n-(i+1)/\i+1<=n/\Pv (i+1) σ4 (upd H5 D (.lst (ys ++ [y]))))
theorem CompN.mk {D:Addr} {n:Nat} {Pv:Nat->St->Hp->Prop} {i:Nat} {σ4:St} {y:V} {H5:Hp} {ys:List V} (hi:i<n) (h:H5 D=some (.lst ys)) (hl:ys.length<sizeLine) (p:Pv (i+1) σ4 (upd H5 D (.lst (ys ++ [y])))):CompN D n Pv i σ4 y H5 :=
 ⟨ys,h,hl,_,⋯,rfl,hi,p⟩
section
variable {K:q0a} {a D:Addr} {xs:List V} {g:TG} {te:TE} {σ0:St} {H0:Hp} {Q:VK}
theorem comp_list (Pv:Nat->St->Hp->Prop) (h0:Pv 0 σ0 H0) (hl:∀ i σ H,i<=xs.length->Pv i σ H->SqL K H a xs)
  (hs:∀ i x σ H,xs[i]? = some x->Pv i σ H->g x σ H λσ4 H4=>te σ4 H4 λy H5=>CompN D xs.length Pv i σ4 y H5) (hd:∀ σ H,Pv xs.length σ H->Q (.ref D) H) :
  ∃ W:Nat->Nat->St->Hp->Prop,(∃ m,W 0 m σ0 H0)/\∀ i m σc H2,W i m σc H2->((Itl K a).stop i H2/\Q (.ref D) H2) \/
   ((Itl K a).go i H2/\∀ x H3,(Itl K a).yld i H2 x H3->g x σc H3 λσ4 H4=>te σ4 H4 λy H5 => ∃ ys,H5 D=some (.lst ys)/\ys.length<sizeLine/\∃ m',m'<m/\W (i+1) m' σ4 (upd H5 D (.lst (ys ++ [y])))):=by
 refine ⟨λi m σ H=>m=xs.length-i/\i<=xs.length/\Pv i σ H,⟨xs.length,by simp,z0z _,h0⟩,?_⟩
 rintro i m σ H ⟨rfl,hi,p⟩;have q:=hl i σ H hi p
 by_cases hlt:i<xs.length
 ·refine .inr ⟨⟨xs,xs[i],q,q0c hlt⟩,?_⟩
  rintro x H3 ⟨rfl,hx⟩;exact hs i x σ _ (hx xs q) p
 ·have e:i=xs.length:=⋯
  subst e;exact .inl ⟨⟨xs,q,q0n _⟩,hd σ H p⟩
theorem comp_tup (Pv:Nat->St->Hp->Prop) (h0:Pv 0 σ0 H0) (hl:∀ i σ H,i<=xs.length->Pv i σ H->SqT K H a xs)
  (hs:∀ i x σ H,xs[i]? = some x->Pv i σ H->g x σ H λσ4 H4=>te σ4 H4 λy H5=>CompN D xs.length Pv i σ4 y H5) (hd:∀ σ H,Pv xs.length σ H->Q (.ref D) H) :
  ∃ W:Nat->Nat->St->Hp->Prop,(∃ m,W 0 m σ0 H0)/\∀ i m σc H2,W i m σc H2->((Itt K a).stop i H2/\Q (.ref D) H2) \/
   ((Itt K a).go i H2/\∀ x H3,(Itt K a).yld i H2 x H3->g x σc H3 λσ4 H4=>te σ4 H4 λy H5 => ∃ ys,H5 D=some (.lst ys)/\ys.length<sizeLine/\∃ m',m'<m/\W (i+1) m' σ4 (upd H5 D (.lst (ys ++ [y])))):=by
 refine ⟨λi m σ H=>m=xs.length-i/\i<=xs.length/\Pv i σ H,⟨xs.length,by simp,z0z _,h0⟩,?_⟩
 rintro i m σ H ⟨rfl,hi,p⟩;have q:=hl i σ H hi p
 by_cases hlt:i<xs.length
 ·refine .inr ⟨⟨xs,xs[i],q,q0c hlt⟩,?_⟩
  rintro x H3 ⟨rfl,hx⟩;exact hs i x σ _ (hx xs q) p
 ·have e:i=xs.length:=⋯
  subst e;exact .inl ⟨⟨xs,q,q0n _⟩,hd σ H p⟩
theorem comp_range {lo:Int} {n:Nat} (Pv:Nat->St->Hp->Prop) (h0:Pv 0 σ0 H0)
  (hs:∀ i σ H,i<n->Pv i σ H->g (.int (lo+i)) σ H λσ4 H4=>te σ4 H4 λy H5=>CompN D n Pv i σ4 y H5) (hd:∀ σ H,Pv n σ H->Q (.ref D) H) :
  ∃ W:Nat->Nat->St->Hp->Prop,(∃ m,W 0 m σ0 H0)/\∀ i m σc H2,W i m σc H2->((Itr lo n).stop i H2/\Q (.ref D) H2) \/
   ((Itr lo n).go i H2/\∀ x H3,(Itr lo n).yld i H2 x H3->g x σc H3 λσ4 H4=>te σ4 H4 λy H5 => ∃ ys,H5 D=some (.lst ys)/\ys.length<sizeLine/\∃ m',m'<m/\W (i+1) m' σ4 (upd H5 D (.lst (ys ++ [y])))):=by
 refine ⟨λi m σ H=>m=n-i/\i<=n/\Pv i σ H,⟨n,by simp,z0z _,h0⟩,?_⟩
 rintro i m σ H ⟨rfl,hi,p⟩
 by_cases hlt:i<n
 ·refine .inr ⟨hlt,?_⟩
  rintro x H3 ⟨rfl,rfl⟩;exact hs i σ _ hlt p
 ·have e:i=n:=⋯
  subst e;exact .inl ⟨q0n _,hd σ H p⟩
end
end L2

namespace R
theorem num_den_of {n d:Int} (hd:0<d) (hc:q0r n d=1):(q0x n d).num=n/\((q0x n d).den:Int)=d:=by
 obtain ⟨k,rfl⟩:∃ k:Nat,d=k:=⟨d.toNat,⋯⟩;have hk:k ≠ 0:=⋯
 have hc':n.natAbs.Coprime k:=by
  rw [Int.gcd_eq_natAbs_gcd_natAbs] at hc
  simpa [q1a] using hc
 have e:(⟨n,k,hk,hc'⟩:Rat)=q0x n k:=Rat.mk_eq_divInt;rw [<- e];exact ⟨rfl,rfl⟩
theorem eq_of_divInt {n d t b:Int} (hd:0<d) (hc:q0r n d=1) (hb:b ≠ 0) (h:n*b=t*d):n=(q0x t b).num/\d=((q0x t b).den:Int):=by
 have e:q0x n d=q0x t b:=(z0e ⋯ hb).mpr h;obtain ⟨h1,h2⟩:=num_den_of hd hc;rw [e] at h1 h2;exact ⟨h1.symm,h2.symm⟩
theorem fdiv_of_mul {g n:Int} (hg:g ≠ 0):(g*n).fdiv g=n:=by
 rw [m0z];exact Int.mul_fdiv_cancel n hg
theorem gcd_pos {t b:Int} (hb:b ≠ 0):0<q0r t b:=Int.gcd_pos_of_ne_zero_right t hb
theorem coprime_parts {t b n d:Int} (hb:b ≠ 0) (h1:t=(q0r t b:Int)*n) (h2:b=(q0r t b:Int)*d):q0r n d=1:=by
 have hg:=gcd_pos (t:=t) hb
 have e:q0r ((q0r t b:Int)*n) ((q0r t b:Int)*d)=q0r t b*q0r n d:=by
  rw [Int.gcd_mul_left];simp
 rw [<- h1,<- h2] at e;exact g0p hg (by rw [<- e,Nat.mul_one])
theorem low_eq {t b g:Int} (hb:b ≠ 0) (hg:g=if b<0 then -(Int.gcd t b:Int) else (Int.gcd t b:Int)):t.fdiv g=(Rat.divInt t b).num/\b.fdiv g=((Rat.divInt t b).den:Int):=by
  have hp:(0:Int)<Int.gcd t b:=by have:=gcd_pos (t:=t) hb;omega
  obtain ⟨n,hn⟩:=Int.gcd_dvd_left t b;obtain ⟨d,hd⟩:=Int.gcd_dvd_right t b;have hc:=coprime_parts hb hn hd
  by_cases hs:b<0
  · rw [if_pos hs] at hg
    subst hg;have hg0:(-(Int.gcd t b:Int)) ≠ 0:=⋯;have e1:t=-(Int.gcd t b:Int)*(-n):=by rw [Int.neg_mul_neg];exact hn
    have e2:b=-(Int.gcd t b:Int)*(-d):=by rw [Int.neg_mul_neg];exact hd
    have f1 : t.fdiv (-(Int.gcd t b : Int)) = -n := by conv => lhs; arg 1; rw [e1]
                                                       exact fdiv_of_mul hg0
    have f2 : b.fdiv (-(Int.gcd t b : Int)) = -d := by conv => lhs; arg 1; rw [e2]
                                                       exact fdiv_of_mul hg0
    rw [f1,f2]
    have hd0:0 < -d:=by
      rcases Int.lt_or_le d 0 with z | z
      · omega
      · have:=Int.mul_nonneg (Int.le_of_lt hp) z;omega
    refine eq_of_divInt hd0 (by rw [Int.gcd_neg,Int.neg_gcd];exact hc) hb ?_
    conv=>lhs;rw [hd]
    conv=>rhs;rw [hn]
    generalize (Int.gcd t b:Int)=g
    grind
  · rw [if_neg hs] at hg
    subst hg;have hg0:((Int.gcd t b:Int)) ≠ 0:=⋯
    have f1 : t.fdiv (Int.gcd t b : Int) = n := by conv => lhs; arg 1; rw [hn]
                                                   exact fdiv_of_mul hg0
    have f2 : b.fdiv (Int.gcd t b : Int) = d := by conv => lhs; arg 1; rw [hd]
                                                   exact fdiv_of_mul hg0
    rw [f1,f2]
    have hd0:0<d:=by
      rcases Int.lt_or_le 0 d with z | z
      · exact z
      · have:=Int.mul_nonneg (Int.le_of_lt hp) (show 0<=-d by omega);rw [Int.mul_neg] at this;omega
    refine eq_of_divInt hd0 hc hb ?_
    conv=>lhs;rw [hd]
    conv=>rhs;rw [hn]
    generalize (Int.gcd t b:Int)=g
    grind
theorem rat_den_pos (q:Rat):(0:Int)<q.den:=by have:=q.den_nz;omega
theorem add_divInt (p q:Rat):p+q=q0x (p.num*q.den+q.num*p.den) (p.den*q.den):=by
 have h1:=rat_den_pos p;have h2:=rat_den_pos q
 conv=>lhs;rw [<- j0z p,<- j0z q]
 exact u0r _ _ ⋯ ⋯
theorem mul_divInt (p q:Rat):p*q=q0x (p.num*q.num) (p.den*q.den):=by
 conv=>lhs;rw [<- j0z p,<- j0z q]
 exact v0b _ _
theorem gcd_fmod (a b:Int):q0r b (a.fmod b)=q0r a b:=by
 have e:=Int.mul_fdiv_add_fmod a b;rw [Int.gcd_comm a b]
 conv=>rhs;rw [<- e]
 rw [show b*a.fdiv b+a.fmod b=a.fmod b+a.fdiv b*b by rw [m0z,Int.add_comm]]
 simp
theorem natAbs_fmod_lt (a:Int) {b:Int} (hb:b ≠ 0):(a.fmod b).natAbs<b.natAbs:=by
 rcases Int.lt_or_le b 0 with h | h
 ·have e:=Int.neg_fmod_neg a b
  have h1:=y0r (-a) (show 0 < -b by omega)
  have h2:=y0z (-a) (show 0 < -b by omega)
  omega
 ·have h1:=y0r a (show 0<b by omega)
  have h2:=y0z a (show 0<b by omega)
  omega
end R

set_option maxRecDepth 100000
namespace R
open PySem L2 PyProof.Rows
section
variable {P:Program} {w:World} {K:q0a} {mg:Str->Option Value} {base:Heap}
theorem intBits_lt {a:Int} {m:Nat} (h:a.natAbs<2 ^ m):Builtin.Int.intBits a<=m:=by
 unfold Builtin.Int.intBits
 split
 ·exact z0z _
 ·rename_i hz
  have h0:a.natAbs ≠ 0:=by
   intro z;have:a=0:=⋯
   simp [this] at hz
  have:=(Nat.log2_lt h0).mpr h;omega
theorem mulOk {a b:Int} {m n:Nat} (ha:a.natAbs<2 ^ m) (hb:b.natAbs<2 ^ n) (h:m+n<=134217728:=by decide):IntMulOk a b:=IntMulOk.of_le (intBits_lt ha) (intBits_lt hb) h
theorem divOk {j:Int} (h0:j ≠ 0) (h:j.natAbs<2 ^ 9000):CDivB i j:=⟨h0,(Nat.log2_lt ⋯).mpr h⟩
theorem pow_le_pow2 {m n:Nat} (h:m<=n):2 ^ m<=2 ^ n:=v0w (by decide) h
theorem lt_up {a:Nat} {m n:Nat} (h:a<2 ^ m) (hm:m<=n:=by decide):a<2 ^ n:=q0f h (pow_le_pow2 hm)
def numV (q:Rat):List V:=[.int q.num,.int (q.den:Int)]
structure Bd (q:Rat):Prop where
 n:q.num.natAbs<2 ^ 3000
 d:q.den<2 ^ 3000
def Num (K:q0a) (H:Hp) (v:V) (q:Rat):Prop:=∃ p,v=.ref p/\SqT K H p (numV q)
def NumRes (H:Hp) (Q:VK) (q:Rat):Prop:=∀ r H',Same H H'->H' r=some (.tup (numV q))->Q (.ref r) H'
theorem small2:(2:Nat)<=sizeLine:=by decide
theorem small1:(1:Nat)<=sizeLine:=by decide
theorem gcd_lt {a b:Int} {n:Nat} (hb:b ≠ 0) (h:b.natAbs<n):((q0r a b:Nat):Int).natAbs<n:=by
 have h1:q0r a b ∣ b.natAbs:=by
  have:=v0t.mpr (v0r a b)
  simpa using this
 have h2:=u0a ⋯ h1;simp only [q0v];omega
theorem fdiv_le {a g:Int} (hg:0<g) (hd:g ∣ a):(a.fdiv g).natAbs<=a.natAbs:=by
 obtain ⟨n,rfl⟩:=hd;rw [fdiv_of_mul ⋯,z0g];exact y0y _ ⋯
theorem at0 (q:Rat):atI (numV q) 0=some (.int q.num):=rfl
theorem at1 (q:Rat):atI (numV q) 1=some (.int (q.den:Int)):=rfl
theorem mulS {a b:Int} (h:a.natAbs<2 ^ 64):IntMulOk a b:=IntMulOk.of_left (intBits_lt h)
theorem mulS' {a b:Int} (h:b.natAbs<2 ^ 64):IntMulOk a b:=IntMulOk.of_right (intBits_lt h)
def spLow:Sp:=λvs H Q _ => ∃ t b:Int,vs=[.int t,.int b]/\b ≠ 0/\b.natAbs<2 ^ 6000/\NumRes H Q (q0x t b)
def UrnAt (H:Hp) (u:Addr):Prop:=∃ g m p:Int,H u=some (.lst [.int g,.int m,.int p])/\0<=g/\0<=m/\m<2 ^ 40/\0<p/\p<2 ^ 40
def SameX (u:Addr) (H H':Hp):Prop:=∀ b o,H b=some o->b ≠ u->H' b=some o
theorem Same.x {H H':Hp} (s:Same H H') (u:Addr):SameX u H H':=λb o h _=>s b o h
theorem SameX.trans {u:Addr} {H H1 H2:Hp} (a:SameX u H H1) (b:SameX u H1 H2):SameX u H H2:=λc o h n=>b c o (a c o h n) n
theorem SameX.upd (u:Addr) (H:Hp) (o:HO):SameX u H (upd H u o):=λb p h n=>by rw [upd_ne n];exact h
theorem Same.urn {H H':Hp} {u:Addr} (s:Same H H') (h:UrnAt H u):UrnAt H' u:=let ⟨g,m,p,h1,r⟩:=h;⟨g,m,p,s _ _ h1,r⟩
def spUrn (K:q0a):Sp:=λvs H Q _ => ∃ (a:Addr) (ns:List Int) (k:Int),vs=[.ref a,.int k]/\SqL K H a (ns.map V.int)/\0<=k/\k<64/\∀ r H',Same H H'->H r=none->UrnAt H' r->Q (.ref r) H'
def primes:List V:=[.int 1899999979,.int 1899998977,.int 1899997949,.int 1899996929,.int 1899995927,.int 1899994903,.int 1899993877,.int 1899992839]
theorem prime_at {k:Int} (h0:0<=k):∃ p:Int,atI primes (k.fmod 8)=some (.int p)/\1899992839<=p/\p<=1899999979:=by
 have h1:=y0r k (show (0:Int)<8 by decide)
 have h2:=y0z k (show (0:Int)<8 by decide)
 have h3:k.fmod 8=0 \/ k.fmod 8=1 \/ k.fmod 8=2 \/ k.fmod 8=3 \/ k.fmod 8=4 \/ k.fmod 8=5 \/ k.fmod 8=6 \/ k.fmod 8=7:=⋯;rcases h3 with h | h | h | h | h | h | h | h <;> rw [h] <;> exact ⟨_,rfl,by decide,by decide⟩
theorem at_script {ns:List Int} {k:Int} (h0:0<=k) (h:k<(ns.length:Int)):∃ v:Int,atI (ns.map V.int) k=some (.int v):=by
 have hk:k.toNat<ns.length:=⋯;have ek:k=((k.toNat:Nat):Int):=⋯;have q:atI (ns.map V.int) ((k.toNat:Nat):Int)=some (.int ns[k.toNat]):=atI_nat (by rw [q0e,q0c hk] <;> rfl)
 rw [<- ek] at q;exact ⟨_,q⟩
def spDraw:Sp:=λvs H Q _ => ∃ (u:Addr) (n:Int),vs=[.ref u,.int n]/\UrnAt H u/\0<n/\n<2 ^ 40/\∀ r H',0<=r->r<n->SameX u H H'->UrnAt H' u->Q (.int r) H'
structure Sm (q:Rat):Prop where
 n:q.num.natAbs<=10 ^ 12
 d:q.den<=10 ^ 12
theorem divInt_le {t b:Int} (hb:b ≠ 0):(q0x t b).num.natAbs<=t.natAbs/\(q0x t b).den<=b.natAbs:=by
 have hp:=gcd_pos (t:=t) hb;obtain ⟨e1,e2⟩:=low_eq (t:=t) (b:=b) (g:=if b<0 then -(q0r t b:Int) else (q0r t b:Int)) hb rfl
 have key:∀ x:Int,(q0r t b:Int) ∣ x->(x.fdiv (if b<0 then -(q0r t b:Int) else (q0r t b:Int))).natAbs<=x.natAbs:=by
  rintro x ⟨n,hn⟩
  split
  ·have:x=-(q0r t b:Int)*(-n):=by rw [Int.neg_mul_neg];exact hn
   rw [this,fdiv_of_mul ⋯,z0g];exact y0y _ ⋯
  ·rw [hn,fdiv_of_mul ⋯,z0g]
   exact y0y _ ⋯
 have k1:=key t (v0x t b);have k2:=key b (v0r t b);rw [e1] at k1;rw [e2] at k2;exact ⟨k1,⋯⟩
theorem sm_of {t b:Int} (hb:b ≠ 0) (h1:t.natAbs<=10 ^ 12) (h2:b.natAbs<=10 ^ 12):Sm (q0x t b):=by
 obtain ⟨e1,e2⟩:=divInt_le (t:=t) hb;exact ⟨⋯,⋯⟩
theorem urn_ne {H:Hp} {u l:Addr} (hu:UrnAt H u) (hl:H l=none):l ≠ u:=by
 obtain ⟨g,m,p,h,r⟩:=hu;exact (ne_of_none h hl).symm
theorem urn_new {H:Hp} {u l:Addr} {o:HO} (hu:UrnAt H u) (hl:H l=none):UrnAt (upd H l o) u:=by
 obtain ⟨g,m,p,h,r⟩:=hu;exact ⟨g,m,p,by rw [upd_ne (ne_of_none h hl)];exact h,r⟩
def spNumber:Sp:=λvs H Q _ => ∃ u kd,vs=[.ref u,.int kd]/\UrnAt H u/\∀ r q H',Sm q->SameX u H H'->UrnAt H' u->H' r=some (.tup (numV q))->Q (.ref r) H'
def spWhole:Sp:=λvs H Q _ => ∃ i:Int,vs=[.int i]/\Q (.bl true) H
theorem kit_int_int:z0c K (.type "int") (.type "int")=some true:=by unfold z0c;rw [if_pos (by decide)]
theorem kit_int_bool:z0c K (.type "int") (.type "bool")=some false:=by kernel_rfl
theorem kit_tup_tup:z0c K (.type "tuple") (.type "tuple")=some true:=by unfold z0c;rw [if_pos (by decide)]
def dNum (q:Rat):D:=.tup [.v (.int q.num),.v (.int (q.den:Int))]
theorem isD_num {H:Hp} {a:Addr} {q:Rat} (h:SqT K H a (numV q)):IsD K H (.ref a) (dNum q):=.tup h (.cons (.v rfl) (.cons (.v rfl) .nil))
theorem eqD_num (q:Rat):eqD (dNum q) (dNum q)=true:=by simp [dNum,eqD,eqDs,eqV]
theorem okD_num (p q:Rat):okD (dNum p) (dNum q)=true:=by simp [dNum,okD,okDs]
end
end R

set_option maxRecDepth 100000
namespace R
open PySem L2 PyProof.Rows
inductive Nums (H:Hp):List V->List Rat->Prop where
 | nil:Nums H [] []
 | cons {p:Addr} {q:Rat} {vs:List V} {qs:List Rat} (h:H p=some (.tup (numV q))) (t:Nums H vs qs):Nums H (.ref p :: vs) (q :: qs)
def TupS (H H':Hp):Prop:=∀ b xs,H b=some (.tup xs)->H' b=some (.tup xs)
theorem _root_.L2.Same.tups {H H':Hp} (s:Same H H'):TupS H H':=λb xs h=>s b _ h
theorem SameX.tups {u:Addr} {H H':Hp} (s:SameX u H H') (hu:UrnAt H u):TupS H H':=λb xs h=>by
 obtain ⟨g,m,p,e,_⟩:=hu;exact s b _ h (ne_of h e (by intro z;cases z))
theorem TupS.lst {H:Hp} {a:Addr} {xs:List V} {o:HO} (h:H a=some (.lst xs)):TupS H (upd H a o):=λb ys e=>by
 rw [upd_ne (ne_of e h (by intro z;cases z))];exact e
theorem Nums.mono {H H':Hp} (e:TupS H H'):∀ {vs:List V} {qs:List Rat},Nums H vs qs->Nums H' vs qs
 | _,_,.nil=>.nil
 | _,_,.cons h t=>.cons (e _ _ h) (t.mono e)
theorem Nums.length {H:Hp}:∀ {vs:List V} {qs:List Rat},Nums H vs qs->vs.length=qs.length
 | _,_,.nil=>rfl
 | _,_,.cons _ t=>congrArg (· + 1) t.length
theorem Nums.append {H:Hp}:∀ {vs ws:List V} {qs rs:List Rat},Nums H vs qs->Nums H ws rs->Nums H (vs ++ ws) (qs ++ rs)
 | _,_,_,_,.nil,b=>b
 | _,_,_,_,.cons h t,b=>.cons h (t.append b)
theorem Nums.get {H:Hp}:∀ {vs:List V} {qs:List Rat} {i:Nat} {q:Rat},Nums H vs qs->qs[i]? = some q->∃ p,vs[i]? = some (.ref p)/\H p=some (.tup (numV q))
 | _,_,_,_,.nil,e=>by simp at e
 | _,_,0,_,.cons h t,e=>by
  have:=Option.some.inj e;subst this;exact ⟨_,rfl,h⟩
 | _,_,i+1,_,.cons h t,e=>by
  obtain ⟨p,e1,e2⟩:=t.get (i:=i) (by simpa using e)
  exact ⟨p,by simpa using e1,e2⟩
theorem Nums.getV {H:Hp}:∀ {vs:List V} {qs:List Rat} {i:Nat} {v:V},Nums H vs qs->vs[i]? = some v->∃ p q,v=.ref p/\qs[i]? = some q/\H p=some (.tup (numV q))
 | _,_,_,_,.nil,e=>by simp at e
 | _,_,0,_,.cons h t,e=>by
  have:=Option.some.inj e;subst this;exact ⟨_,_,rfl,rfl,h⟩
 | _,_,i+1,_,.cons h t,e=>by
  obtain ⟨p,q,e0,e1,e2⟩:=t.getV (i:=i) (by simpa using e)
  exact ⟨p,q,e0,by simpa using e1,e2⟩
theorem Nums.isDs {K:q0a} {H:Hp}:∀ {vs:List V} {qs:List Rat},Nums H vs qs->IsDs K H vs (qs.map dNum)
 | _,_,.nil=>.nil
 | _,_,.cons h t=>.cons (isD_num (SqT.of h)) t.isDs
theorem rat_ext {p q:Rat} (h1:p.num=q.num) (h2:p.den=q.den):p=q:=by
 cases p;cases q;simp at h1 h2;subst h1 h2;rfl
theorem eqD_nums (p q:Rat):eqD (dNum p) (dNum q)=decide (p=q):=by
 by_cases h:p=q
 ·subst h;rw [eqD_num];simp
 ·rw [decide_eq_false h]
  simp only [dNum,eqD,eqDs,eqV,Bool.and_true]
  by_cases h1:p.num=q.num
  ·have h2:p.den ≠ q.den:=λz=>h (rat_ext h1 z)
   have:((p.den:Int) == (q.den:Int))=false:=by
    rw [beq_eq_false_iff_ne];intro z;exact h2 ⋯
   rw [this,Bool.and_false]
  ·have:(p.num == q.num)=false:=by rw [beq_eq_false_iff_ne];exact h1
   rw [this,Bool.false_and]
theorem eqDs_nums:∀ ps qs:List Rat,eqDs (ps.map dNum) (qs.map dNum)=decide (ps=qs)
 | [],[]=>by simp [eqDs]
 | [],_ :: _=>by simp [eqDs]
 | _ :: _,[]=>by simp [eqDs]
 | p :: ps,q :: qs=>by
  rw [z0b,z0b,eqDs,eqD_nums,eqDs_nums ps qs]
  by_cases h1:p=q <;> by_cases h2:ps=qs <;> simp [h1,h2]
theorem okDs_nums:∀ ps qs:List Rat,okDs (ps.map dNum) (qs.map dNum)=true
 | [],[]=>by simp [okDs]
 | [],_ :: _=>by simp [okDs]
 | _ :: _,[]=>by simp [okDs]
 | p :: ps,q :: qs=>by rw [z0b,z0b,okDs,okD_num,okDs_nums ps qs];rfl
theorem dpDs_nums:∀ qs:List Rat,dpDs (qs.map dNum)<=1
 | []=>by simp [dpDs]
 | q :: qs=>by
  have h1:dpD (dNum q)<=1:=by simp [dNum,dpD,dpDs]
  have h2:=dpDs_nums qs;rw [z0b,dpDs];omega
def dList (qs:List Rat):D:=.lst (qs.map dNum)
theorem isD_list {K:q0a} {H:Hp} {a:Addr} {vs:List V} {qs:List Rat} (h:SqL K H a vs) (n:Nums H vs qs):IsD K H (.ref a) (dList qs):=.lst h n.isDs
theorem eqD_list (ps qs:List Rat):eqD (dList ps) (dList qs)=decide (ps=qs):=by unfold dList;rw [eqD,eqDs_nums]
theorem okD_list (ps qs:List Rat):okD (dList ps) (dList qs)=true:=by unfold dList;rw [okD,okDs_nums]
theorem dp_list (qs:List Rat):dpD (dList qs)<=2:=by unfold dList;rw [dpD];have:=dpDs_nums qs;omega
structure IsTl (qs:List Rat) (m:Nat):Prop where
 le:m<=qs.length
 zero:∀ (i:Nat) (q:Rat),m<=i->qs[i]? = some q->q=0
 last:m ≠ 0->∀ q,qs[m-1]? = some q->q ≠ 0
theorem cut_take (vs:List V) {m:Nat} (h:m<=vs.length):cutV vs none (some (m:Int))=vs.take m:=by
 unfold cutV;have e1:HT.sIx vs.length 0 none=0:=by simp [HT.sIx]
 have e2:HT.sIx vs.length vs.length (some (m:Int))=m:=by
  simp only [HT.sIx]
  split <;> omega
 rw [e1,e2];simp
end R

set_option maxRecDepth 100000
namespace L2
open PySem PySem.Spec PyProof.Rows
theorem Same.over {H H1:Hp} {l:Addr} (s:Same H H1) (hl:H l=none) (o:HO):Same H (upd H1 l o):=λb u h=>by
 rw [upd_ne (ne_of_none h hl)];exact s b u h
def CompW (J:It) (D:Addr) (σ0:St) (H0:Hp) (g:TG) (te:TE) (Q:VK):Prop:=∃ W:Nat->Nat->St->Hp->Prop,(∃ m,W 0 m σ0 H0) /\
 ∀ i m σc H2,W i m σc H2->(J.stop i H2/\Q (.ref D) H2) \/
  (J.go i H2/\∀ x H3,J.yld i H2 x H3->g x σc H3 λσ4 H4=>te σ4 H4 λy H5 => ∃ ys,H5 D=some (.lst ys)/\ys.length<sizeLine/\∃ m',m'<m/\W (i+1) m' σ4 (upd H5 D (.lst (ys ++ [y]))))
theorem tComp_eq (wi:TI) (caps:List (Option Nat)) (g:TG) (te:TE):tComp wi caps g te=λσ H Q=>wi σ H λJ H1 => ∀ D,H1 D=none->CompW J D (capSt caps σ) (upd H1 D (.lst [])) g te Q:=rfl
def CompWI (J:It) (D:Addr) (σ0:St) (H0:Hp) (g:TG) (tt:TT) (te:TE) (Q:VK):Prop:=∃ W:Nat->Nat->St->Hp->Prop,(∃ m,W 0 m σ0 H0) /\
 ∀ i m σc H2,W i m σc H2->(J.stop i H2/\Q (.ref D) H2) \/
  (J.go i H2/\∀ x H3,J.yld i H2 x H3->g x σc H3 λσ4 H4=>tt σ4 H4 λb H4'=>if b=true then te σ4 H4' λy H5 => ∃ ys,H5 D=some (.lst ys)/\ys.length<sizeLine/\∃ m',m'<m/\W (i+1) m' σ4 (upd H5 D (.lst (ys ++ [y])))
   else ∃ m',m'<m/\W (i+1) m' σ4 H4')
theorem tCompIf_eq (wi:TI) (caps:List (Option Nat)) (g:TG) (tt:TT) (te:TE):tCompIf wi caps g tt te=λσ H Q=>wi σ H λJ H1 => ∀ D,H1 D=none->CompWI J D (capSt caps σ) (upd H1 D (.lst [])) g tt te Q:=rfl
section
variable {K:q0a} {a D:Addr} {xs:List V} {g:TG} {te:TE} {σ0:St} {H0:Hp} {Q:VK}
theorem cw_list (xs:List V) (Pv:Nat->St->Hp->Prop) (h0:Pv 0 σ0 H0) (hl:∀ i σ H,i<=xs.length->Pv i σ H->SqL K H a xs)
  (hs:∀ i x σ H,xs[i]? = some x->Pv i σ H->g x σ H λσ4 H4=>te σ4 H4 λy H5=>CompN D xs.length Pv i σ4 y H5) (hd:∀ σ H,Pv xs.length σ H->Q (.ref D) H):CompW (Itl K a) D σ0 H0 g te Q:=comp_list Pv h0 hl hs hd
theorem cw_tup (xs:List V) (Pv:Nat->St->Hp->Prop) (h0:Pv 0 σ0 H0) (hl:∀ i σ H,i<=xs.length->Pv i σ H->SqT K H a xs)
  (hs:∀ i x σ H,xs[i]? = some x->Pv i σ H->g x σ H λσ4 H4=>te σ4 H4 λy H5=>CompN D xs.length Pv i σ4 y H5) (hd:∀ σ H,Pv xs.length σ H->Q (.ref D) H):CompW (Itt K a) D σ0 H0 g te Q:=comp_tup Pv h0 hl hs hd
theorem cw_range {lo:Int} {n:Nat} (Pv:Nat->St->Hp->Prop) (h0:Pv 0 σ0 H0)
  (hs:∀ i σ H,i<n->Pv i σ H->g (.int (lo+i)) σ H λσ4 H4=>te σ4 H4 λy H5=>CompN D n Pv i σ4 y H5) (hd:∀ σ H,Pv n σ H->Q (.ref D) H):CompW (Itr lo n) D σ0 H0 g te Q:=comp_range Pv h0 hs hd
end
theorem sub_nil {cells:List (Str × Addr)}:∀ (x:Str) (c:Addr),([]:List (Str × Addr)).lookup x=some c->cells.lookup x=some c:=λx c h=>by cases h
theorem sub_cons {cells cl:List (Str × Addr)} {k:Str} {a:Addr} (h:cells.lookup k=some a) (r:∀ (x:Str) (c:Addr),cl.lookup x=some c->cells.lookup x=some c):∀ (x:Str) (c:Addr),((k,a) :: cl).lookup x=some c->cells.lookup x=some c:=λx c e=>by
 rw [v0j] at e
 split at e
 ·rename_i q
  have:=eq_of_beq q;subst this
  cases e
  exact h
 ·exact r x c e
end L2
namespace R
open PySem L2 PyProof.Rows
theorem SameX.over {u:Addr} {H H1:Hp} {l:Addr} (s:SameX u H H1) (hl:H l=none) (o:HO):SameX u H (L2.upd H1 l o):=λb x h n=>by
 rw [upd_ne (ne_of_none h hl)];exact s b x h n
theorem SameX.free {u:Addr} {H H':Hp} {l:Addr} (s:SameX u H H') (hu:UrnAt H' u) (h:H' l=none):H l=none:=by
 cases e:H l with
 | none=>rfl
 | some o =>
  by_cases q:l=u
  ·subst q
   obtain ⟨_,_,_,z,_⟩:=hu;rw [z] at h;cases h
  ·rw [s l o e q] at h;cases h
theorem UrnAt.other {H:Hp} {u l:Addr} {o:HO} (h:UrnAt H u) (ne:l ≠ u):UrnAt (upd H l o) u:=by
 obtain ⟨g,m,p,e,r⟩:=h;exact ⟨g,m,p,by rw [upd_ne ne.symm];exact e,r⟩
end R

set_option maxRecDepth 100000
namespace L2
open PySem PySem.Spec PyProof.Rows

def Itz (K:PySem.W.Frag) (a b:Addr):It :=
  ⟨λi H => ∃ xs ys x y,SqL K H a xs/\SqL K H b ys/\xs[i]? = some x/\ys[i]? = some y,
   λi H v H' => ∀ xs ys,SqL K H a xs->SqL K H b ys->∃ x y p,xs[i]? = some x/\ys[i]? = some y/\H p=none/\v=.ref p/\H'=upd H p (.tup [x,y]),
   λi H => ∃ xs ys,SqL K H a xs/\SqL K H b ys/\(xs.length<=i \/ ys.length<=i)⟩
theorem turn_zip {P:Program} {w:World} {K:q0a} {elts:List Expr} {k:Nat} {tpos:Pos} (a b z TI TO i1 i2:Addr) (D:ZipApart z TI TO i1 i2 a b) :
  Turn P w K (.Tuple elts k tpos) (Itz K a b) [z,TI,TO,i1,i2] z (λi h=>IsZip h z TI TO .none/\IsPair h TI (.ref i1) (.ref i2)/\(∃ a b,IsPair h TO a b)/\h.IsListIter i1 a i/\h.IsListIter i2 b i) where
 mem:=by simp
 obj:=λi h st c hc=>by
  obtain ⟨hz,hTI,⟨p,q,hTO⟩,h1,h2⟩:=st;rcases (by simpa using hc:c=z \/ c=TI \/ c=TO \/ c=i1 \/ c=i2) with e | e | e | e | e <;> subst e
  ·exact ⟨_,hz,λv z=>by cases z⟩
  ·exact ⟨_,hTI,λv z=>by cases z⟩
  ·exact ⟨_,hTO,λv z=>by cases z⟩
  ·obtain ⟨o,e,c,d⟩:=h1
   exact ⟨o,e,λv z=>by rw [d] at z;cases z⟩
  ·obtain ⟨o,e,c,d⟩:=h2
   exact ⟨o,e,λv z=>by rw [d] at z;cases z⟩
 keep:=λi h h' st k=>by
  obtain ⟨hz,hTI,⟨p,q,hTO⟩,h1,h2⟩:=st;exact ⟨k z (by simp) _ hz,k TI (by simp) _ hTI,⟨p,q,k TO (by simp) _ hTO⟩,h1.at λo e=>k i1 (by simp) o e,h2.at λo e=>k i2 (by simp) o e⟩
 item:=by
  intro X hP hw hK hc i pins s σ H E I hf st hg;subst hP hw hK;obtain ⟨xs,ys,x,y,hq,hq',hx,hy⟩:=hg;obtain ⟨its,rv,p,hlz⟩:=I.list hq;obtain ⟨its',rv',p',hlz'⟩:=I.list hq';obtain ⟨u,hu,ru⟩:=rv.get hx;obtain ⟨u',hu',ru'⟩:=rv'.get hy;obtain ⟨hz,hTI,⟨pa,pb,hTO⟩,h1,h2⟩:=st;have zlt:z<s.heap.objs.size:=q0h hz;refine wpAny_pyNext_zip_item D hz hTI hTO h1 h2 p.isList p'.isList (x:=u) (y:=u') (by simpa using hu) (by simpa using hu') λh' a1 a2 a3 a4 a5 a6 kk=>?_
  refine ⟨_,rfl,?_⟩;refine wpAny_letOwnedTupleGo_zip (s:={ s with heap:=h' }) a1 λh'' hz'' sb=>?_;have up:∀ c o,c ≠ z->h'.get? c=some o->h''.get? c=some o:=λc o n q=>(sb.2 c n).trans q;have hT':h''.get? s.heap.objs.size=some { cls:=.type "tuple",data:=.seq #[u,u'] }:=up _ _ (v0s zlt) a5
  refine ⟨.ref s.heap.objs.size,upd H s.heap.objs.size (.tup [x,y]),I.turnLaid (fp:=[z,TI,TO,i1,i2]) (t':=s.toks) hf (λc v hb q=>?_) (q0n _) ?_,rfl,?_,?_,λc hb=>?_⟩
  ·have n1:c ≠ z:=λe=>hb (by simp [e])
   have n2:c ≠ TO:=λe=>hb (by simp [e])
   have n3:c ≠ i1:=λe=>hb (by simp [e])
   have n4:c ≠ i2:=λe=>hb (by simp [e])
   exact up c v n1 (kk c v n1 n2 n3 n4 q)
  ·exact ⟨(show 2<=sizeLine by decide +kernel),[u,u'],.cons ru (.cons ru' .nil),_,hT',rfl,_,rfl⟩
  ·intro vs ws hv hw
   rw [I.list_inj hv hq,I.list_inj hw hq'];exact ⟨x,y,_,hx,hy,I.fresh,rfl,rfl⟩
  ·refine ⟨hz'',up _ _ D.TIz (kk _ _ D.TIz D.TITO D.TIi1 D.TIi2 hTI),⟨u,u',up _ _ D.TOz a2⟩,a3.at λo q=>up _ o D.i1z q,a4.at λo q=>up _ o D.i2z q⟩
  ·have hlt:c<s.heap.objs.size:=by
    have l1:i1<s.heap.objs.size:=by obtain ⟨_,e,_⟩:=h1;exact q0h e
    have l2:i2<s.heap.objs.size:=by obtain ⟨_,e,_⟩:=h2;exact q0h e
    rcases (by simpa using hb:c=z \/ c=TI \/ c=TO \/ c=i1 \/ c=i2) with e | e | e | e | e <;> rw [e]
    ·exact zlt
    ·exact q0h hTI
    ·exact q0h hTO
    ·exact l1
    ·exact l2
   rw [upd_ne (q0u hlt)];exact (hf c hb).1
 done:=by
  intro X hP hw hK hc i pins s σ H E I hf st hg;subst hP hw hK;obtain ⟨xs,ys,hq,hq',hend⟩:=hg;obtain ⟨its,rv,p,hlz⟩:=I.list hq;obtain ⟨its',rv',p',hlz'⟩:=I.list hq';obtain ⟨hz,hTI,⟨pa,pb,hTO⟩,h1,h2⟩:=st;have l1:=rv.length;have l2:=rv'.length;refine wpAny_pyNext_zip_end (I.ok.hd hc) D hz hTI hTO h1 h2 p.isList p'.isList ?_ λh' kk=>⟨rfl,?_⟩
  ·rcases hend with e | e
   ·exact .inl (by simp;omega)
   ·exact .inr (by simp;omega)
  ·have nf:∀ b u,H b=some u->b ∉ [z,TI,TO,i1,i2]:=λb u e q=>by rw [(hf b q).1] at e;cases e
   have k:∀ b u,b ∉ [z,TI,TO,i1,i2]->s.heap.get? b=some u->h'.get? b=some u:=λc o hb q=>kk c o (λe=>hb (by simp [e])) (λe=>hb (by simp [e])) (λe=>hb (by simp [e])) (λe=>hb (by simp [e])) q
   refine I.step (t':=s.toks) (g':=s.gens) (d':=s.drawn) (ch:=[z,TI,TO,i1,i2]) (λb hb=>?_) (λb o _ _ hc e _=>k b o hc e) (λb o _ _ hc e _=>⟨o.slots,k b o hc e⟩) (λb o _ e n=>n)
    (λb o hc e=>⟨o,k b o hc e⟩) (λb xs e=>e) (λb o u e=>e) (λb ps e=>⟨#[],by rw [e];simp⟩) (λm hm=>?_) (λb u e=>?_) I.bare
   ·obtain ⟨_,f1,_,f3,f4,f5⟩:=hf b hb
    exact ⟨f3,f1,f4,f5⟩
   ·obtain ⟨o,es,ep,ho,r⟩:=hm
    exact ⟨o,es,ep,k _ o (λq=>(hf _ q).2.1 rfl) ho,r⟩
   ·refine (I.hok b u e).stay (λc v hc q=>k c v ?_ q) (λc q=>q) λc xs q=>q
    rcases hc with q | q
    ·rw [q];exact nf b u e
    ·exact nf c _ q
 self:=λ_ _ _ _ _ st h=>wpAny_pyIter_zip st.1 h
section
variable {X:Cx}
def iZip (K:q0a) (ta:TA):TI:=λσ H R=>ta σ H λvs H1 => ∃ a b,vs=[.ref a,.ref b]/\(∃ xs,SqL K H1 a xs)/\(∃ ys,SqL K H1 b ys)/\R (Itz K a b) H1
theorem pi_zip {elts:List Expr} {k:Nat} {tpos:Pos} {l l':Expr} {ta:TA} {p pos:Pos} (hg:Gl X "zip") (hm:X.mg "zip" = none) (ha:PA X [l,l'] ta) (hs:starEach [l,l'] X.env=[(false,eval l X.env),(false,eval l' X.env)]:=by rfl) (hs2:starEach [l'] X.env=[(false,eval l' X.env)]:=by rfl) :
  PI X (.Tuple elts k tpos) (.Call (.Name "zip" p) [l,l'] [] pos) (iZip X.K ta):=by
 intro pins s σ H R I h;refine Call_ (ld_blt I hg hm (u:=.type "zip") (by decide +kernel) (PyProof.Rows.callWith_type1 (thn (ha pos pins s σ H _ I h) λus s1 ⟨vs,H1,I1,r1,q1⟩=>?_) (by rw [hs,hs2]) (by rw [hs2];rfl)))
 obtain ⟨a,b,e,⟨xs,hq⟩,⟨ys,hq'⟩,q⟩:=q1;subst e;obtain ⟨u,u',rfl,rx,rx'⟩:=Vals.two r1
 cases rx
 cases rx'
 obtain ⟨its,rv,p,hz⟩:=I1.list hq;obtain ⟨its',rv',p',hz'⟩:=I1.list hq';have a1:a<s1.heap.objs.size:=by obtain ⟨_,e,_⟩:=p.isList;exact q0h e
 have a2:b<s1.heap.objs.size:=by obtain ⟨_,e,_⟩:=p'.isList;exact q0h e
 refine call_zip_2 p.isList p'.isList λh' hz hTI hTO hi1 hi2 hsz kk=>?_;refine wpAny_pyIter_zip hz ?_;have I2:Inv X pins σ H1 { s1 with heap:=h' }:=I1.kept (t':=s1.toks) kk;refine ⟨_,_,_,_,H1,rfl,I2,turn_zip a b _ _ _ _ _ (zipApart_new a1 a2),⟨hz,hTI,⟨_,_,hTO⟩,hi1,hi2⟩,λc hb=>?_,q⟩
 have hb':s1.heap.objs.size<=c:=by
  rcases (by simpa using hb:c=s1.heap.objs.size+4 \/ c=s1.heap.objs.size+2 \/ c=s1.heap.objs.size+3 \/ c=s1.heap.objs.size \/ c=s1.heap.objs.size+1) with e | e | e | e | e <;> rw [e]
  ·exact u0p _ _
  ·exact u0p _ _
  ·exact u0p _ _
  ·exact q0n _
  ·exact u0p _ _
 obtain ⟨f0,f1,f2,f3,f4,f5⟩:=I1.fpOk (H':=H1) hb' (I1.hok.fresh hb');exact ⟨f0,f1,f2,f3,f4,f5⟩
end
end L2

set_option maxRecDepth 100000
namespace L2
open PySem PySem.Spec PyProof.Rows
section
variable {prog:Program} {w:World} {A:Around} {E:Value->Shared->Prop} {s:Shared}
variable {R:Result->Shared->Prop} {I:Addr} {fp wr:List Addr} {n:Nat} {P:Nat->Value->Prop} {St:Nat->Heap->Prop}
end
section
variable {X:Cx}
end
end L2

set_option maxRecDepth 100000
namespace R
open PySem L2 PyProof.Rows
structure BdN (k:Nat) (q:Rat):Prop where
 n:q.num.natAbs<2 ^ k
 d:q.den<2 ^ k
theorem BdN.mono {m n:Nat} {q:Rat} (h:BdN m q) (l:m<=n):BdN n q:=⟨q0f h.n (pow_le_pow2 l),q0f h.d (pow_le_pow2 l)⟩
theorem Sm.bdN {q:Rat} (s:Sm q):BdN 40 q:=⟨q0m s.n (by decide),q0m s.d (by decide)⟩
theorem BdN.mul {m n:Nat} {p q:Rat} (a:BdN m p) (b:BdN n q):BdN (m+n) (p*q):=by
 rw [mul_divInt];have hb:(p.den:Int)*q.den ≠ 0:=Int.ne_of_gt (q1b (rat_den_pos p) (rat_den_pos q));obtain ⟨e1,e2⟩:=divInt_le (t:=p.num*q.num) hb;rw [z0g] at e1 e2;refine ⟨q0m e1 ?_,q0m e2 ?_⟩
 ·rw [j0d];exact j0h a.n b.n
 ·rw [j0d,q0v,q0v];exact j0h a.d b.d
structure SmW (q:Rat):Prop where
 n:q.num.natAbs<2 ^ 42
 d:q.den<2 ^ 40
section
variable {α β:Type}
end
def scl (s:Rat) (ws:List Int):List Rat:=ws.map λw:Int=>s*(w:Rat)
def lcmL (qs:List Rat):Nat:=qs.foldl (λb q=>u0s b q.den) 1
theorem lcmL_snoc (qs:List Rat) (q:Rat):lcmL (qs ++ [q])=u0s (lcmL qs) q.den:=by simp [lcmL]
theorem foldlcm_dvd:∀ (qs:List Rat) (b m:Nat),b ∣ m->(∀ q ∈ qs,q.den ∣ m)->qs.foldl (λb q=>u0s b q.den) b ∣ m
 | [],_,_,h,_=>h
 | q :: qs,b,m,h,k=>foldlcm_dvd qs _ m (Nat.lcm_dvd h (k q z0m)) λr hr=>k r (z0d _ hr)
theorem lcmL_dvd {qs:List Rat} {m:Nat} (h:∀ q ∈ qs,q.den ∣ m):lcmL qs ∣ m:=foldlcm_dvd qs 1 m (Nat.one_dvd _) h
theorem foldlcm_self:∀ (qs:List Rat) (b:Nat),b ∣ qs.foldl (λb q=>u0s b q.den) b
 | [],_=>Nat.dvd_refl _
 | q :: qs,b=>m0s (Nat.dvd_lcm_left _ _) (foldlcm_self qs _)
theorem foldlcm_mem:∀ (qs:List Rat) (b:Nat) (q:Rat),q ∈ qs->q.den ∣ qs.foldl (λb q=>u0s b q.den) b
 | r :: qs,b,q,h=>by
  rcases j0v.mp h with e | e
  ·subst e;exact m0s (Nat.dvd_lcm_right _ _) (foldlcm_self qs _)
  ·exact foldlcm_mem qs _ q e
theorem den_dvd {qs:List Rat} {q:Rat} (h:q ∈ qs):q.den ∣ lcmL qs:=foldlcm_mem qs 1 q h
def gcdL (ws:List Int):Nat:=ws.foldl (λc w=>q0r w c) 0
theorem gcdL_snoc (ws:List Int) (w:Int):gcdL (ws ++ [w])=q0r w (gcdL ws):=by simp [gcdL]
theorem foldgcd_dvd:∀ (ws:List Int) (c:Nat),(ws.foldl (λc w=>q0r w c) c ∣ c)/\∀ w ∈ ws,((ws.foldl (λc w=>q0r w c) c:Nat):Int) ∣ w
 | [],c=>⟨Nat.dvd_refl _,by simp⟩
 | w :: ws,c=>by
  obtain ⟨h1,h2⟩:=foldgcd_dvd ws (q0r w c);have a1:q0r w c ∣ c:=by have:=v0r w (c:Int);exact y0a.mp this
  refine ⟨m0s h1 a1,λv hv=>?_⟩;rcases j0v.mp hv with e | e
  ·subst e
   exact Int.dvd_trans (y0a.mpr h1) (v0x v (c:Int))
  ·exact h2 v e
theorem gcdL_dvd {ws:List Int} {w:Int} (h:w ∈ ws):((gcdL ws:Nat):Int) ∣ w:=(foldgcd_dvd ws 0).2 w h
theorem foldgcd_one:∀ (ws:List Int),ws.foldl (λc w=>q0r w c) 1=1
 | []=>rfl
 | w :: ws=>by
  rw [v0a];have:q0r w ((1:Nat):Int)=1:=by simp
  rw [this,foldgcd_one ws]
theorem gcdL_one {ws:List Int} (i:Nat) (h:gcdL (ws.take i)=1):gcdL ws=1:=by
 have e:ws=ws.take i ++ ws.drop i:=(List.take_append_drop i ws).symm;rw [e];unfold gcdL at h ⊢;rw [List.foldl_append,h,foldgcd_one]
def wholesOf (B:Nat) (qs:List Rat):List Int:=qs.map λq=>q.num*(B:Int).fdiv (q.den:Int)
theorem whole_eq {B:Nat} {q:Rat} (hB:0<B) (h:q.den ∣ B):q=q0x (q.num*(B:Int).fdiv (q.den:Int)) B:=by
 obtain ⟨e,he⟩:=h;have hd:(q.den:Int) ≠ 0:=by have:=q.den_nz;omega
 have e1:(B:Int).fdiv (q.den:Int)=(e:Int):=by
  rw [he,j0c];exact fdiv_of_mul hd
 rw [e1]
 conv=>lhs;rw [<- j0z q]
 rw [z0e hd ⋯,he,j0c]
 grind
end R
namespace L2
open PySem PySem.Spec PyProof.Rows
section
variable {K:q0a} {a b D:Addr} {xs ys:List V} {g:TG} {te:TE} {σ0:St} {H0:Hp} {Q:VK}
theorem cw_zip (xs ys:List V) (Pv:Nat->St->Hp->Prop) (h0:Pv 0 σ0 H0) (hl:∀ i σ H,Pv i σ H->SqL K H a xs/\SqL K H b ys)
  (hs:∀ i x y σ H p,xs[i]? = some x->ys[i]? = some y->Pv i σ H->H p=none->g (.ref p) σ (upd H p (.tup [x,y])) λσ4 H4=>te σ4 H4 λv H5=>CompN D (min xs.length ys.length) Pv i σ4 v H5)
  (hd:∀ σ H,Pv (min xs.length ys.length) σ H->Q (.ref D) H):CompW (Itz K a b) D σ0 H0 g te Q:=by
 refine ⟨λi m σ H=>m=min xs.length ys.length-i/\i<=min xs.length ys.length/\Pv i σ H,⟨_,rfl,z0z _,h0⟩,?_⟩;rintro i m σ H ⟨rfl,hi,p⟩;obtain ⟨q,q'⟩:=hl i σ H p
 by_cases hlt:i<min xs.length ys.length
 ·have h1:i<xs.length:=⋯
  have h2:i<ys.length:=⋯;refine .inr ⟨⟨xs,ys,xs[i],ys[i],q,q',q0c h1,q0c h2⟩,?_⟩;intro v H3 hy;obtain ⟨x,y,r,e1,e2,hr,rfl,rfl⟩:=hy xs ys q q';exact hs i x y σ _ r e1 e2 p hr
 ·have e:i=min xs.length ys.length:=⋯
  subst e;exact .inl ⟨⟨xs,ys,q,q',⋯⟩,hd σ H p⟩
theorem cw_enum (xs:List V) (Pv:Nat->St->Hp->Prop) (h0:Pv 0 σ0 H0) (hl:∀ i σ H,Pv i σ H->SqL K H a xs)
  (hs:∀ i x σ H p,xs[i]? = some x->Pv i σ H->H p=none->g (.ref p) σ (upd H p (.tup [.int i,x])) λσ4 H4=>te σ4 H4 λv H5=>CompN D xs.length Pv i σ4 v H5)
  (hd:∀ σ H,Pv xs.length σ H->Q (.ref D) H):CompW (Ite K a) D σ0 H0 g te Q:=by
 refine ⟨λi m σ H=>m=xs.length-i/\i<=xs.length/\Pv i σ H,⟨_,rfl,z0z _,h0⟩,?_⟩;rintro i m σ H ⟨rfl,hi,p⟩;have q:=hl i σ H p
 by_cases hlt:i<xs.length
 ·refine .inr ⟨⟨xs,xs[i],q,q0c hlt⟩,?_⟩
  intro x H3 hy;obtain ⟨y,r,hy1,hr,rfl,rfl⟩:=hy xs q;exact hs i y σ _ r hy1 p hr
 ·have e:i=xs.length:=⋯
  subst e;exact .inl ⟨⟨xs,q,q0n _⟩,hd σ H p⟩
theorem for_enum {tb:TS} {E:Ends} {σ:St} {H:Hp} (xs:List V) (Pv:Nat->St->Hp->Prop) (h0:Pv 0 σ H) (hl:∀ i σ H,Pv i σ H->SqL K H a xs)
  (hs:∀ i x σ H p,xs[i]? = some x->Pv i σ H->H p=none->g (.ref p) σ (upd H p (.tup [.int i,x])) λσ2 H2=>tb { E with nx:=Pv (i+1),ct:=Pv (i+1),bk:=E.nx } σ2 H2) (hd:∀ σ H,Pv xs.length σ H->E.nx σ H) :
  ∃ W:Nat->Nat->St->Hp->Prop,(∃ m,W 0 m σ H)/\∀ i m σ H,W i m σ H ->
   ((Ite K a).stop i H/\E.nx σ H) \/ ((Ite K a).go i H/\∃ N:St->Hp->Prop,(∀ σ' H',N σ' H'->∃ m',m'<m/\W (i+1) m' σ' H')/\∀ x H',(Ite K a).yld i H x H'->g x σ H' λσ2 H2=>tb { E with nx:=N,ct:=N,bk:=E.nx } σ2 H2):=by
 refine ⟨λi m σ H=>m=xs.length-i/\i<=xs.length/\Pv i σ H,⟨_,rfl,z0z _,h0⟩,?_⟩;rintro i m σ H ⟨rfl,hi,p⟩;have q:=hl i σ H p
 by_cases hlt:i<xs.length
 ·refine .inr ⟨⟨xs,xs[i],q,q0c hlt⟩,Pv (i+1),λσ' H' n=>⟨_,⋯,rfl,hlt,n⟩,?_⟩
  intro x H3 hy;obtain ⟨y,r,hy1,hr,rfl,rfl⟩:=hy xs q;exact hs i y σ _ r hy1 p hr
 ·have e:i=xs.length:=⋯
  subst e;exact .inl ⟨⟨xs,q,q0n _⟩,hd σ H p⟩
end
section
variable {X:Cx}
end
end L2

set_option maxRecDepth 100000
namespace R
open PySem L2 PyProof.Rows
def sumTo (f:Nat->Rat):Nat->Rat
 | 0=>0
 | n+1=>sumTo f n+f n
theorem sumTo_first (f:Nat->Rat):∀ n,sumTo f (n+1)=f 0+sumTo (λi=>f (i+1)) n
 | 0=>by simp only [sumTo];grind
 | n+1=>by
  rw [sumTo,sumTo_first f n,sumTo];grind
theorem sumTo_congr {f g:Nat->Rat}:∀ {n},(∀ i,i<n->f i=g i)->sumTo f n=sumTo g n
 | 0,_=>rfl
 | n+1,h=>by rw [sumTo,sumTo,sumTo_congr λi hi=>h i ⋯,h n ⋯]
def term (p q:List Rat) (k i:Nat):Rat:=if i<=k then (p[i]?).getD 0*(q[k-i]?).getD 0 else 0
end R
namespace L2
theorem seq_cut {t R:TS} {D:Ends} {σ:St} {H:Hp} (P:St->Hp->Prop) (first:∀ N:St->Hp->Prop,(∀ σ H,P σ H->N σ H)->t { D with nx:=N } σ H) (rest:∀ σ H,P σ H->R D σ H):tSeq t R D σ H:=first _ rest
end L2

set_option maxRecDepth 100000
namespace R
section
variable {α:Type} [Lean.Grind.CommRing α]
def syn (c:α):List α->List α
 | []=>[]
 | a :: p=>match syn c p with
  | []=>[a]
  | h :: t=>(a+c*h) :: h :: t
def pass (c:α) (k:Nat) (l:List α):List α:=l.take k ++ syn c (l.drop k)
end
end R

set_option maxRecDepth 100000
namespace R
open PySem L2 PyProof.Rows
structure Bd6 (q:Rat):Prop where
 n:q.num.natAbs<2 ^ 6000
 d:q.den<2 ^ 6000
theorem foldlcm_pos:∀ (qs:List Rat) (b:Nat),0<b->0<qs.foldl (λb q=>u0s b q.den) b
 | [],b,h=>h
 | q :: qs,b,h=>foldlcm_pos qs _ (Nat.lcm_pos h (by have:=q.den_nz;omega))
theorem lcmL_pos (qs:List Rat):0<lcmL qs:=foldlcm_pos qs 1 (by decide)
end R

set_option maxRecDepth 100000
namespace L2
open PySem PySem.Spec PyProof.Rows
theorem ns_nocell {h:Heap} {a:Addr} {m:Str->Option Value} {o:Obj} (n:h.Ns a m) (e:h.get? a=some o) (v:Option Value) (z:o.data=.cell v):False:=by
 obtain ⟨o',es,ep,e',r⟩:=n;rw [e] at e'
 cases e'
 have d:=r.1;rw [d] at z;cases z
section
variable {X:Cx}
theorem ps_setComp {elt tg iter:Expr} {scope:Scope} {pos spos py:Pos} {y:Str} {i₀:Nat} {cl:List (Str × Addr)} {Nc:List Str} {caps:List (Option Nat)} {wi:TI} {g:TG} {te:TE} (hN:X.N.Nodup) (hi₀:X.N[i₀]? = some y) (hx:Loc X.env.scope y) (hc:X.calm=true) (cp:Caps X scope cl Nc caps) (hi:PI X tg iter wi)
  (hg:∀ C s₂ H₂ fp pins,PG (X.block scope cl C Nc s₂ H₂ fp pins) tg g) (he:∀ C s₂ H₂ fp pins,PE (X.block scope cl C Nc s₂ H₂ fp pins) elt te) (hs:∀ x,foldedSetIterable iter X.env x=pure x:=by intro _;rfl) (hsw:swapsWith (.ListComp elt [⟨tg,iter,[],0⟩] scope pos) (some (.Name y py)) spos.line X.env=pure true:=by rfl)
  (hf:X.fn y=true \/ X.env.scope.names.lookup y=some .local:=by first | exact .inl rfl | exact .inr rfl | assumption) :
  PS X (.Assign [.Name y py] (.ListComp elt [⟨tg,iter,[],0⟩] scope pos) spos) (tAsg (tComp wi caps g te) (gName i₀)):=by
 intro pins s σ H DD I h;rw [exec_Assign_Name_used _ _ _ _ hsw];refine wpAny_bind (wpAny_standAt (wpAny_bind ?_))
 show wpAny _ X.A (do let _ <- comprehension (.ListComp elt [⟨tg,iter,[],0⟩] scope pos) scope X.env _ (newList []) false (eval iter X.env) (some (assign (.Name y py) X.env))) _ _ s
 refine wpAny_bind (wpAny_mono (wpAny_comprehension_free (use:=some (assign (.Name y py) X.env)) (Q:=λ_ s'=>SP X pins DD .next s') rfl hs cp.clos cp.kind cp.names ?_) (λ_ s' hq=>wpAny_pure (wpAny_pure hq)) λ_ _ e=>e);refine thn (hi pins s σ H _ I h) λv s1 h1=>thn h1 λitv s2 h2=>?_;obtain ⟨it,fp,tn,J,H2,e,I2,T,st2,f2,hW⟩:=h2;subst e;refine wpAny_newObj_type ?_ (by show 0<=sizeLine;exact z0z _)
 refine wpAny_newFunctionEnv cp.nocell (by intro y hy;simp at hy) (λh4 hns hsb=>?_) cp.kind
 dsimp only at hns hsb ⊢
 generalize hH3:s2.heap.push { cls:=.type "list",dict:=none,data:=.seq ([]:List Value).toArray }=H3 at hns hsb ⊢
 have hCe:H3.objs.size=s2.heap.objs.size+1:=by rw [<- hH3,j0w]
 have below:∀ b o,s2.heap.get? b=some o->b ≠ H3.objs.size:=λb o e=>by rw [hCe];exact q0u (v0q (q0h e))
 have old:∀ b o,s2.heap.get? b=some o->h4.get? b=some o:=λb o e=>hsb.extBut b o (below b o e) (q0j _ (hH3 ▸ q0j _ e))
 have hD:h4.get? s2.heap.objs.size=some { cls:=.type "list",dict:=none,data:=.seq ([]:List Value).toArray } :=
  hsb.extBut _ _ (by rw [hCe];exact q0u (y0h _)) (q0j _ (hH3 ▸ z0u _ rfl))
 have hDn:H2 s2.heap.objs.size=none:=I2.fresh;have hCn:H2 H3.objs.size=none:=I2.hok.fresh (by rw [hCe];exact y0m _)
 have hCs:s2.heap.objs.size<=H3.objs.size:=by rw [hCe];exact y0m _
 have hDC:s2.heap.objs.size ≠ H3.objs.size:=by rw [hCe];exact q0u (y0h _)
 have fpl:∀ b ∈ fp,∃ o,s2.heap.get? b=some o:=λb hb=>let ⟨o,e,_⟩:=T.obj _ _ st2 b hb;⟨o,e⟩;have fpC:∀ b ∈ fp,b ≠ H3.objs.size:=λb hb=>let ⟨o,e⟩:=fpl b hb;below b o e;have fpD:∀ b ∈ fp,b ≠ s2.heap.objs.size:=λb hb=>let ⟨o,e⟩:=fpl b hb;q0u (q0h e);have stkN:∀ b,b ≠ X.env.locals->b ∉ X.fs->b ∉ frs X.stack:=λb h1 h2 z=>(j0v.mp (I2.stkSub b z)).elim h1 h2;obtain ⟨W,⟨m0,w0⟩,turn⟩:=hW s2.heap.objs.size hDn
 have okB:(X.block scope cl H3.objs.size Nc s2 H2 fp pins).Ok:=by
  refine ⟨I2.ok.mod,?_,I2.ok.glob,I2.ok.blt,hCs,λx y c h1 h2=>I2.ok.inj x y c (cp.sub x c h1) (cp.sub y c h2),λx hx=>cp.has x hx,λx c h=>(by cases h),I2.ok.hd,I2.ok.frames,.inl rfl,λb hb=>⟨fpC b hb,λx c h=>(f2 b hb).2.2.2.2.1 x c (cp.sub x c h)⟩,I2.bs,q0y I2.ok.bsz I2.sz,λb o e hb=>?_,λb hb=>stkN b (f2 b hb).2.1 (f2 b hb).2.2.1,I2.stack,I2.stkFree⟩
  ·exact cp.kind
  ·rcases (f2 b hb).2.2.2.1 with z | z
   ·exact I2.ok.noex b o e z
   ·exact absurd (q0f (q0h e) (q0y I2.ok.bsz z)) (y0k _)
 have hokB:HOk X.prog X.w (upd H2 s2.heap.objs.size (.lst [])) h4:=I2.hok.laid old (q0n _) ⟨z0z _,[],_,.nil,hD⟩
 have IB:Inv (X.block scope cl H3.objs.size Nc s2 H2 fp pins) [] (capSt caps σ) (upd H2 s2.heap.objs.size (.lst [])) { s2 with heap:=h4,toks:=s2.toks+([]:List (Str × Value)).length }:=by
  refine ⟨okB,rfl,I2.bare,Un.laid old (q0n _) hDn,⟨_,hns,λi x v e1 e2 e3=>?_⟩,λx c e=>?_,(show upd H2 s2.heap.objs.size (.lst []) H3.objs.size=none by rw [upd_ne (Ne.symm hDC)];exact hCn),λx c e=>?_,λp hp=>?_,hokB,?_⟩
  ·unfold capSt at e2
   rw [q0e] at e2
   cases hcap:caps[i]? with
   | none=>rw [hcap] at e2;cases e2
   | some o =>
    rw [hcap] at e2
    cases o with
    | none=>cases e2
    | some j =>
     have hj:σ[j]? = some (some v):=by
      have e2':(σ[j]?).join=some v:=Option.some.inj e2
      cases q:σ[j]? with
      | none=>rw [q] at e2';cases e2'
      | some z=>rw [q] at e2';exact congrArg some e2'
     obtain ⟨n1,n2,n3,n4⟩:=cp.cap i j x hcap e1;obtain ⟨m,hm,hl⟩:=I2.loc;obtain ⟨u,r,q⟩:=hl j x v n1 hj n2;rcases q with ⟨k,_⟩ | ⟨k,c,ec,z⟩
     ·exact absurd k n3
     ·obtain ⟨c',ec'⟩:=cp.has x n4
      have:=cp.sub x c' ec';rw [ec] at this;cases this;obtain ⟨oc,ho,hd⟩:=z;exact ⟨u,r,.inr ⟨n4,c,ec',oc,old _ _ ho,hd⟩⟩
  ·obtain ⟨v,oc,ho,hd⟩:=I2.cell x c (cp.sub x c e)
   exact ⟨v,oc,old _ _ ho,hd⟩
  ·obtain ⟨v,oc,ho,hd⟩:=I2.cell x c (cp.sub x c e)
   rw [upd_ne (q0u (q0h ho))];exact I2.freeC x c (cp.sub x c e)
  ·have hp':p ∈ X.pn ++ pins:=by simpa using hp
   obtain ⟨e1,e2,e3,e4,e5⟩:=I2.pin p hp';exact ⟨old _ _ e1,by rw [upd_ne (q0u (q0h e1))];exact e2,below _ _ e1,stkN _ e3 e4,e5⟩
  ·show (capSt caps σ).length=Nc.length
   unfold capSt;rw [q0b];exact cp.len
 have stat:∀ {H':Hp},(∀ b ∈ fp,H' b=none)->∀ b ∈ fp,FpOk (X.block scope cl H3.objs.size Nc s2 H2 fp pins) [] H' b:=λhn b hb =>
  ⟨hn b hb,fpC b hb,stkN b (f2 b hb).2.1 (f2 b hb).2.2.1,.inl hb,λx c h=>(f2 b hb).2.2.2.2.1 x c (cp.sub x c h),λp hp=>(f2 b hb).2.2.2.2.2 p (by simpa using hp)⟩
 have loop:∀ s5:Shared,s5={ s2 with heap:=h4,toks:=s2.toks+([]:List (Str × Value)).length } ->
   codeAny (model X.prog X.w) X.A (.compLoop (.ListComp elt [⟨tg,iter,[],0⟩] scope pos) 0 (.ref it) (.ref s2.heap.objs.size) (compEnvC scope cl H3.objs.size X.env))
    (compPost (model X.prog X.w) X.A X.xe (some (assign (.Name y py) X.env)) (λ_ s'=>SP X pins DD .next s') (.ref s2.heap.objs.size) H3.objs.size) s5:=by
  rintro s5 rfl;refine comp_loop (λn s' => ∃ i σ' H',Inv (X.block scope cl H3.objs.size Nc s2 H2 fp pins) [] σ' H' s'/\tn i s'.heap/\(∀ b ∈ fp,H' b=none)/\W i n σ' H') ?_ m0 ⟨0,_,_,IB,T.keep _ _ _ st2 λb hb o e=>old b o e,λb hb=>by rw [upd_ne (fpD b hb)];exact (f2 b hb).1,w0⟩
  rintro n s6 ⟨i,σ6,H6,I6,st6,fr6,w6⟩;rcases turn i n σ6 H6 w6 with ⟨stop,qn⟩ | ⟨go,step⟩
  ·refine thn (T.done (X.block scope cl H3.objs.size Nc s2 H2 fp pins) rfl rfl rfl hc i [] s6 σ6 H6 _ I6 (stat fr6) st6 stop) λr s7 zq=>?_
   obtain ⟨hr,I7⟩:=zq;subst hr;obtain ⟨m7,hn7,_⟩:=id I7.loc;have Io:Inv X pins σ H6 s7:=I2.sameC (h'':=s7.heap) f2 I7.os I7.bare I7.base I7.hok hCs I7.free ⟨rfl,λ_ _=>rfl⟩;have fC:FpOk X pins H6 H3.objs.size:=I2.fpOk hCs I7.free;have fC':∀ b ∈ [H3.objs.size],FpOk X pins H6 b:=λb hb=>by rw [y0j.mp hb];exact fC
   obtain ⟨oC,esC,epC,hoC,restC⟩:=id hn7
   have obC:∀ b ∈ [H3.objs.size],∃ o,s7.heap.get? b=some o/\∀ v,o.data ≠ .cell v:=λb hb=>by
    rw [y0j.mp hb];exact ⟨oC,hoC,λv z=>ns_nocell hn7 hoC v z⟩
   have Ip:=Io.pinned fC' obC
   show wpAny (model X.prog X.w) X.A (assign (.Name y py) X.env (.ref s2.heap.objs.size)) _ _ s7;refine thn (pg_name (pos:=py) hN hi₀ hx hf _ s7 σ H6 (.ref s2.heap.objs.size) (.ref s2.heap.objs.size) DD.nx Ip rfl qn) λ_ s9 zq=>?_;obtain ⟨σ9,H9,I9,q9⟩:=zq;have keepC:=(I9.pin (H3.objs.size,oC) (q0k _ (q0k _ (mem_pinsAt (by simp) hoC)))).1
   have H9C:=(I9.pin (H3.objs.size,oC) (q0k _ (q0k _ (mem_pinsAt (by simp) hoC)))).2.1
   refine ⟨m7,hn7.at' λo e=>by rw [hoC] at e;cases e;exact keepC,λh' sb=>?_⟩
   obtain ⟨_,g1,g2,g3,g4,g5⟩:=fC;exact ⟨σ9,H9,I9.unpinned.turned (t':=s9.toks) (λb o hb e=>(sb.2 b hb).trans e) H9C g1 g3 g4 g5,q9⟩
  ·refine thn (T.item (X.block scope cl H3.objs.size Nc s2 H2 fp pins) rfl rfl rfl hc i [] s6 σ6 H6 _ I6 (stat fr6) st6 go) λr s7 zq=>?_
   obtain ⟨u,hr,h7⟩:=zq;subst hr;refine thn h7 λ_ s8 zq=>?_;obtain ⟨x,H8,I8,r8,y8,st8,fr8⟩:=zq;have I8':=I8.pinned (stat fr8) (T.obj _ _ st8);refine thn (hg _ _ _ _ _ _ s8 σ6 H8 x u _ I8' r8 (step x H8 y8)) λ_ s9 zq=>?_;obtain ⟨σ9,H9,I9,q9⟩:=zq;refine thn (he _ _ _ _ _ _ s9 σ9 H9 _ I9 q9) λu10 s10 zq=>?_;obtain ⟨v10,H10,I10,r10,ys,hys,hlen,m',hm',w'⟩:=zq;refine thn (mt_append _ s10 σ9 H10 (.ref s2.heap.objs.size) [v10] (.ref s2.heap.objs.size) [u10] (λ_ H11=>H11=upd H10 s2.heap.objs.size (.lst (ys ++ [v10]))) I10 rfl (.cons r10 .nil) ⟨_,ys,v10,rfl,rfl,hys,hlen,rfl⟩) λ_ s11 zq=>?_;obtain ⟨_,H11,I11,_,hH11⟩:=zq;subst hH11;refine ⟨m',hm',i+1,σ9,_,I11.unpinned,T.keep _ _ _ st8 λb hb o e=>(I11.pin (b,o) (q0k _ (q0k _ (mem_pinsAt hb e)))).1,λb hb=>?_,w'⟩;obtain ⟨o,e,d⟩:=T.obj _ _ st8 b hb;exact (I11.pin (b,o) (q0k _ (q0k _ (mem_pinsAt hb e)))).2.1
 exact codeAny_compStart_list (loop _ rfl) (T.self _ 0 _ _ _ (T.keep _ _ _ st2 λb hb o e=>old b o e) (loop _ rfl))
end
end L2

set_option maxRecDepth 100000
namespace L2
open PySem PySem.Spec PyProof.Rows

section
variable {X:Cx}
end
end L2

set_option maxRecDepth 100000
namespace L2
open PySem PySem.Spec PyProof.Rows
section
variable {X:Cx}
end
section
variable {X:Cx} {tg:Expr}
end
end L2

set_option maxRecDepth 100000
namespace L2
open PySem PySem.Spec PyProof.Rows
def rLen (K:q0a):List V->Hp->VK->Prop:=λxs H Q => ∃ p ys,xs=[.ref p]/\(SqL K H p ys \/ SqT K H p ys)/\Q (.int ys.length) H
end L2

set_option maxRecDepth 100000
namespace L2
open PySem PySem.Spec PyProof.Rows
section
variable {X:Cx} {pins:List (Addr × Obj)} {σ:St} {H:Hp} {s:Shared}
end
section
variable {X:Cx}
end
end L2

set_option maxRecDepth 100000
namespace L2
open PySem PySem.Spec PyProof.Rows
def smZ:List Int->Int
 | []=>0
 | a :: l=>a+smZ l
theorem smZ_append:∀ (l m:List Int),smZ (l ++ m)=smZ l+smZ m
 | [],m=>by simp [smZ]
 | a :: l,m=>by rw [j0j,smZ,smZ,smZ_append l m];omega
theorem preSum_take (ns:List Int):∀ k,k<=ns.length->preSum (λi=>(ns[i]?).getD 0) k=smZ (ns.take k)
 | 0,_=>by rw [List.take_zero];rfl
 | k+1,h=>by
  have hk:ns[k]? = some (ns[k]'⋯):=q0c _;rw [v0u,hk,smZ_append,<- preSum_take ns k ⋯]
  show preSum (λi=>(ns[i]?).getD 0) k+(ns[k]?).getD 0=preSum (λi=>(ns[i]?).getD 0) k+(ns[k]'⋯+0);rw [hk,Int.add_zero];rfl
def rSum (K:q0a):List V->Hp->VK->Prop:=λxs H Q => ∃ (p:Addr) (ns:List Int),xs=[.ref p]/\SqL K H p (ns.map V.int)/\Q (.int (smZ ns)) H
section
variable {X:Cx}
theorem call_sum (hc:X.calm=true):CallR X (.builtin "sum") (rSum X.K):=by
 intro pins s σ H xs us Q I r h;obtain ⟨p,ns,rfl,hq,q⟩:=h;obtain ⟨u,rfl,rx⟩:=vals1 r
 cases rx
 obtain ⟨its,r',pl,hz⟩:=I.list hq;have hlen:its.length=ns.length:=by rw [<- r'.length,q0b]
 have hp:p ≠ s.heap.objs.size:=by
  obtain ⟨o,ho,_⟩:=pl.isList;exact q0u (q0h ho)
 refine call_sum_walkAnyS (wpAny_pyIter_list pl.isList ?_);refine ⟨s.heap.objs.size,_,_,_,_,_,_,λi=>(ns[i]?).getD 0,rfl,(Walks.list (A:=X.A.in1) (I.ok.hd hc) _ p hp its.toArray).toS,⟨⟨_,z0u _ rfl,rfl,rfl⟩,pl.isList.at λo e=>q0j _ e⟩,?_,?_,?_⟩
 ·intro b hb
  have hb':b=s.heap.objs.size \/ b=p:=by simpa using hb
  show b<(s.heap.push _).objs.size;rw [j0w];rcases hb' with z | z
  ·rw [z];exact y0h _
  ·obtain ⟨o,ho,_⟩:=pl.isList
   rw [z];exact v0q (q0h ho)
 ·intro i v hv
  have hv':its[i]? = some v:=by simpa using hv
  have hi:i<ns.length:=by rw [<- hlen];exact (q0d.mp hv').1
  obtain ⟨u,hu,ru⟩:=r'.get (i:=i) (x:=.int ns[i]) (by rw [q0e,q0c hi];rfl)
  rw [hv'] at hu
  cases hu
  obtain ⟨t,rfl⟩:=(show ∃ t,v=Value.int ns[i] t from ru);exact ⟨t,by show _=Value.int ((ns[i]?).getD 0) t;rw [q0c hi];rfl⟩
 ·intro s' t' mv
  have e:preSum (λi=>(ns[i]?).getD 0) its.toArray.size=smZ ns:=by
   rw [q0q,hlen,preSum_take ns _ (q0n _),y0t]
  rw [e];obtain ⟨h',g',d',tk',o'⟩:=s';obtain ⟨m1,m2,m3,m4,m5⟩:=mv;have m2':g'=s.gens:=m2;have m3':d'=s.drawn:=m3;have m4':o'=s.os:=m4;subst m2' m3' m4';refine ⟨.int _,H,?_,⟨_,rfl⟩,q⟩;refine I.kept (t':=tk') (h':=h') λb o e=>m1 b o ?_ (q0j _ e);intro z;have:b=s.heap.objs.size:=by simpa using z
  exact absurd (q0h e) (by rw [this];exact y0k _)
end
def rLst (K:q0a):List V->Hp->VK->Prop:=λxs H Q => ∃ p ys,xs=[.ref p]/\(SqL K H p ys \/ SqT K H p ys)/\∀ l,H l=none->Q (.ref l) (upd H l (.lst ys))
end L2

set_option maxRecDepth 100000
namespace L2
open PySem PySem.Spec PyProof.Rows

theorem wpAny_newFunctionEnv_own {M:Model} {A:Around} {E:Value->Shared->Prop} {s:Shared} {scope:Scope} {globals:Addr} {cl:List (Str × Addr)} {qual:Str} {func:Option Addr} {code:Value} {outer:Env} {Q:Env->Shared->Prop}
  (hQ:Q { scope,locals:=s.heap.objs.size,globals,cells:=cellsFrom (s.heap.objs.size+1) scope.names cl,qual,func,code:=outer.code,frame:=outer.frame,builtins:=outer.builtins }
   { s with heap:=pushCells (s.heap.push { cls:=.type "dict",data:=.dict #[] }) scope.names }) :
  wpAny M A (newFunctionEnv scope globals cl [] qual func code (some outer)) Q E s:=by
 simp only [newFunctionEnv,Option.isSome_some,if_true];refine wpAny_bind (wpAny_alloc ?_);refine wpAny_bind (wpAny_layCells _ (λname kind cells=>by cases hkc:kind == NameKind.cell <;> simp [hkc]) _ _ _ _ ?_)
 rw [show ({ s with heap:=s.heap.push { cls:=.type "dict",data:=.dict #[] } }:Shared).heap.objs.size=s.heap.objs.size+1 from j0w ..]
 rw [List.forIn_nil];exact wpAny_bind (wpAny_pure (wpAny_pure hQ))

structure OwnCells (h h':Heap) (names:List (Str × NameKind)) (acc cs:List (Str × Addr)):Prop where
 cell:∀ x c,cs.lookup x=some c->∃ v,h'.IsCell c v
 inj:∀ x y c,cs.lookup x=some c->cs.lookup y=some c->x=y
 old:∀ x c,cs.lookup x=some c->acc.lookup x=some c \/ h.objs.size<=c
 fresh:∀ x,(x,NameKind.cell) ∈ names->∀ c,cs.lookup x=some c->h.objs.size<=c
theorem look_cons {x name:Str} {a c:Addr} {acc:List (Str × Addr)} (h:((name,a) :: acc).lookup x=some c):(x=name/\c=a) \/ (x ≠ name/\acc.lookup x=some c):=by
 rw [v0j] at h
 by_cases e:x=name
 ·subst e
  simp at h
  exact .inl ⟨rfl,h.symm⟩
 ·have:(x == name)=false:=by simpa using e
  rw [this] at h;exact .inr ⟨e,h⟩
theorem cells_own : ∀ (names : List (Str × NameKind)) (h : Heap) (acc : List (Str × Addr)), (∀ x c, acc.lookup x = some c → ∃ v, h.IsCell c v) → (∀ x y c, acc.lookup x = some c → acc.lookup y = some c → x = y) →
    OwnCells h (pushCells h names) names acc (cellsFrom h.objs.size names acc)
  | [],h,acc,hc,hi=>⟨hc,hi,λ_ _ e=>.inl e,λ_ hm=>by cases hm⟩
  | (name,kind) :: r,h,acc,hc,hi=>by
    unfold pushCells cellsFrom
    split
    · have ih := cells_own r (h.push { cls := .type "cell", data := .cell none }) ((name, h.objs.size) :: acc)
        (λx c e=>by
          rcases look_cons e with ⟨_,e2⟩ | ⟨_,e2⟩
          · subst e2;exact ⟨none,_,Heap.get?_push_size _ rfl,rfl⟩
          · obtain ⟨v,z⟩:=hc x c e2
            exact ⟨v,z.keeps λb o e=>Heap.get?_push_of_some _ e⟩)
        (λx y c e1 e2=>by
          rcases look_cons e1 with ⟨a1,a2⟩ | ⟨a1,a2⟩ <;> rcases look_cons e2 with ⟨b1,b2⟩ | ⟨b1,b2⟩
          · rw [a1,b1]
          · obtain ⟨v,z⟩:=hc y c b2
            exact absurd z.lt (by rw [a2];exact Nat.lt_irrefl _)
          · obtain ⟨v,z⟩:=hc x c a2
            exact absurd z.lt (by rw [b2];exact Nat.lt_irrefl _)
          · exact hi x y c a2 b2)
      rw [Heap.size_push] at ih;refine ⟨ih.cell,ih.inj,λx c e=>?_,λx hm c e=>?_⟩
      · rcases ih.old x c e with z | z
        · rcases look_cons z with ⟨_,e2⟩ | ⟨_,e2⟩
          · exact .inr (by rw [e2];exact Nat.le_refl _)
          · exact .inl e2
        · rw [Heap.size_push] at z
          exact .inr (Nat.le_of_succ_le z)
      · rcases List.mem_cons.mp hm with z | z
        · cases z
          rcases ih.old _ c e with z | z
          · rcases look_cons z with ⟨_,e2⟩ | ⟨e1,_⟩
            · rw [e2];exact Nat.le_refl _
            · exact absurd rfl e1
          · rw [Heap.size_push] at z
            exact Nat.le_of_succ_le z
        · have:=ih.fresh x z c e
          rw [Heap.size_push] at this;exact Nat.le_of_succ_le this
    · rename_i hk
      have ih:=cells_own r h acc hc hi;refine ⟨ih.cell,ih.inj,ih.old,λx hm c e=>?_⟩;rcases List.mem_cons.mp hm with z | z
      · cases z;exact absurd rfl hk
      · exact ih.fresh x z c e
theorem cellsFrom_no {x:Str}:∀ (names:List (Str × NameKind)) (n:Nat) (acc:List (Str × Addr)),(x,NameKind.cell) ∉ names->(cellsFrom n names acc).lookup x=acc.lookup x
 | [],_,_,_=>rfl
 | (name,kind) :: r,n,acc,h=>by
  unfold cellsFrom;have hr:(x,NameKind.cell) ∉ r:=λz=>h (z0d _ z)
  split
  ·rename_i hk
   rw [cellsFrom_no r _ _ hr,v0j]
   have:(x == name)=false:=by
    refine beq_eq_false_iff_ne.mpr λe=>h ?_;subst e;rw [<- beq_iff_eq.mp hk];exact z0m
   rw [this]
  ·exact cellsFrom_no r _ _ hr
theorem cellsFrom_yes {x:Str}:∀ (names:List (Str × NameKind)) (n:Nat) (acc:List (Str × Addr)),((x,NameKind.cell) ∈ names \/ ∃ c,acc.lookup x=some c)->∃ c,(cellsFrom n names acc).lookup x=some c
 | [],_,_,h=>h.elim (λz=>by cases z) id
 | (name,kind) :: r,n,acc,h=>by
  unfold cellsFrom
  have up:(∃ c,acc.lookup x=some c)->∃ c,((name,n) :: acc).lookup x=some c:=λ⟨c,e⟩=>by
   rw [v0j]
   split
   ·exact ⟨_,rfl⟩
   ·exact ⟨c,e⟩
  split
  ·refine cellsFrom_yes r _ _ ?_
   rcases h with z | z
   ·rcases j0v.mp z with z | z
    ·cases z
     exact .inr ⟨n,by simp⟩
    ·exact .inl z
   ·exact .inr (up z)
  ·rename_i hk
   refine cellsFrom_yes r _ _ ?_;rcases h with z | z
   ·rcases j0v.mp z with z | z
    ·cases z;exact absurd rfl hk
    ·exact .inl z
   ·exact .inr z

def ownN (scope:Scope) (x:Str):Bool:=scope.names.any λy=>y.1 == x && y.2 == .cell
theorem ownName {scope:Scope} {x:Str} (h:ownN scope x=true):(x,NameKind.cell) ∈ scope.names:=by
 unfold ownN at h;obtain ⟨⟨a,k⟩,hm,hh⟩:=List.any_eq_true.mp h;simp only [y0g,beq_iff_eq] at hh;obtain ⟨rfl,rfl⟩:=hh;exact hm
abbrev Cx.blockC (X:Cx) (scope:Scope) (cl:List (Str × Addr)) (C:Addr) (Nc:List Str) (s₂:Shared) (H₂:Hp) (fp:List Addr) (pins:List (Addr × Obj)):Cx :=
 { X with N:=Nc,s₀:=s₂,H₀:=H₂,env:=compEnvC scope (cellsFrom (C+1) scope.names cl) C X.env,outer:=X.stack,ex:=fp,fn:=ownN scope,pn:=X.pn ++ pins,xe:=λ_ _=>False }
structure CapsC (X:Cx) (scope:Scope) (cl:List (Str × Addr)) (Nc:List Str) (caps:List (Option Nat)):Prop where
 clos:closureFor scope X.env=pure cl
 sub:∀ x c,cl.lookup x=some c->X.env.cells.lookup x=some c
 has:∀ n x,(relabel scope X.env).names.lookup x=some .cell \/ (relabel scope X.env).names.lookup x=some .free->∃ c,(cellsFrom n scope.names cl).lookup x=some c
 kind:scope.kind=.function
 names:∀ x ∈ scope.names,x.2=.local->scope.names.lookup x.1=some .local
 len:caps.length=Nc.length
 cap:∀ (i j:Nat) (x:Str),caps[i]? = some (some j)->Nc[i]? = some x->X.N[j]? = some x/\Vis X.env.scope x/\X.env.kindOf x ≠ some .local/\((relabel scope X.env).names.lookup x=some .cell \/ (relabel scope X.env).names.lookup x=some .free) /\
  (∃ c,cl.lookup x=some c)/\∀ n c,cl.lookup x=some c->(cellsFrom n scope.names cl).lookup x=some c
def capsOkC (scope osc:Scope) (N ks Nc:List Str) (caps:List (Option Nat)):Bool :=
 ((relabelS scope osc).all λy => !(y.2 == .cell || y.2 == .free) || ks.contains y.1 || ownN scope y.1) && scope.kind == .function &&
 (scope.names.all λy=>y.2 != .local || scope.names.lookup y.1 == some .local) && caps.length == Nc.length &&
 ((caps.zip Nc).all λp=>match p.1 with
  | none=>true
  | some j=>N[j]? == some p.2 && isCF (osc.names.lookup p.2) && isCF ((relabelS scope osc).lookup p.2) && ks.contains p.2 && !ownN scope p.2)
theorem CapsC.of {X:Cx} {scope osc:Scope} {cl:List (Str × Addr)} {N ks Nc:List Str} {caps:List (Option Nat)} (clos:closureFor scope X.env=pure cl) (hN:X.N=N) (hosc:X.env.scope=osc) (hks:cl.map (·.1)=ks)
  (sub:∀ x c,cl.lookup x=some c->X.env.cells.lookup x=some c) (ok:capsOkC scope osc N ks Nc caps=true):CapsC X scope cl Nc caps:=by
 unfold capsOkC at ok;simp only [y0g,List.all_eq_true,beq_iff_eq,m0b,z0v,bne_iff_ne,ne_eq] at ok;obtain ⟨⟨⟨⟨o1,o3⟩,o4⟩,o5⟩,o6⟩:=ok;have er:(relabel scope X.env).names=relabelS scope osc:=by subst hosc;rfl
 have kof:∀ x,X.env.kindOf x=osc.names.lookup x:=λx=>by subst hosc;rfl
 refine ⟨clos,sub,λn x h=>?_,o3,λx hx hl=>?_,o5,λi j x h1 h2=>?_⟩
 ·rw [er] at h
  have key:∀ k,(relabelS scope osc).lookup x=some k->(k=.cell \/ k=.free)->∃ c,(cellsFrom n scope.names cl).lookup x=some c:=λk hk hcf=>by
   refine cellsFrom_yes _ _ _ ?_;rcases o1 (x,k) (lookup_mem hk) with (z | z) | z
   ·rcases hcf with rfl | rfl <;> simp at z
   ·refine .inr (lookup_of_key ?_)
    rw [hks];simpa using z
   ·exact .inl (ownName z)
  rcases h with h | h
  ·exact key _ h (.inl rfl)
  ·exact key _ h (.inr rfl)
 ·rcases o4 x hx with z | z
  ·exact absurd hl z
  ·exact z
 ·have hm:(some j,x) ∈ caps.zip Nc:=by
   have:(caps.zip Nc)[i]? = some (some j,x):=by
    rw [g0n];exact ⟨h1,h2⟩
   exact q0g this
  have z:=o6 _ hm;simp only [y0g,beq_iff_eq,z0v] at z;obtain ⟨⟨⟨⟨z1,z2⟩,z3⟩,z4⟩,z5⟩:=z;have c2:=isCF_or z2;have c3:=isCF_or z3;refine ⟨by rw [hN];exact z1,?_,?_,?_,lookup_of_key (by rw [hks];simpa using z4),λn c e=>?_⟩
  ·rw [hosc]
   rcases c2 with c | c
   ·exact .inr (.inl c)
   ·exact .inr (.inr c)
  ·rw [kof]
   rcases c2 with c | c <;> rw [c] <;> decide
  ·rw [er];exact c3
  ·rw [cellsFrom_no _ _ _ λhm=>?_]
   ·exact e
   ·have:ownN scope x=true:=List.any_eq_true.mpr ⟨_,hm,by simp⟩
    rw [z5] at this;cases this
section
variable {X:Cx}
theorem pe_compC {elt tg iter:Expr} {scope:Scope} {pos:Pos} {cl:List (Str × Addr)} {Nc:List Str} {caps:List (Option Nat)} {wi:TI} {g:TG} {te:TE} (hc:X.calm=true) (cp:CapsC X scope cl Nc caps) (hi:PI X tg iter wi)
  (hg:∀ C s₂ H₂ fp pins,PG (X.blockC scope cl C Nc s₂ H₂ fp pins) tg g) (he:∀ C s₂ H₂ fp pins,PE (X.blockC scope cl C Nc s₂ H₂ fp pins) elt te) (hs:∀ x,foldedSetIterable iter X.env x=pure x:=by intro _;rfl) :
  PE X (.ListComp elt [⟨tg,iter,[],0⟩] scope pos) (tComp wi caps g te):=by
 intro pins s σ H Q I h;rw [eval_ListComp];refine wpAny_comprehension_free (use:=none) rfl hs cp.clos cp.kind cp.names ?_;refine thn (hi pins s σ H _ I h) λv s1 h1=>thn h1 λitv s2 h2=>?_;obtain ⟨it,fp,tn,J,H2,e,I2,T,st2,f2,hW⟩:=h2;subst e;refine wpAny_newObj_type ?_ (by show 0<=sizeLine;exact z0z _)
 refine wpAny_newFunctionEnv_own ?_
 dsimp only
 generalize hH3:s2.heap.push { cls:=.type "list",dict:=none,data:=.seq ([]:List Value).toArray }=H3
 have hCe:H3.objs.size=s2.heap.objs.size+1:=by rw [<- hH3,j0w]
 have below:∀ b o,s2.heap.get? b=some o->b ≠ H3.objs.size:=λb o e=>by rw [hCe];exact q0u (v0q (q0h e))
 have hns0:=(Heap.Ns.new H3 (.type "dict")).keeps (pushCells_keeps scope.names _)
 have old0:∀ b o,s2.heap.get? b=some o->(pushCells (H3.push { cls:=.type "dict",data:=.dict #[] }) scope.names).get? b=some o:=λb o e=>pushCells_keeps _ _ b o (q0j _ (hH3 ▸ q0j _ e))
 have hD0:(pushCells (H3.push { cls:=.type "dict",data:=.dict #[] }) scope.names).get? s2.heap.objs.size=some { cls:=.type "list",dict:=none,data:=.seq ([]:List Value).toArray } :=
  pushCells_keeps _ _ _ _ (q0j _ (hH3 ▸ z0u _ rfl))
 have own:=cells_own scope.names (H3.push { cls:=.type "dict",data:=.dict #[] }) cl (λx c e=>by
   obtain ⟨v,o,ho,hd⟩:=I2.cell x c (cp.sub x c e);exact ⟨v,o,q0j _ (hH3 ▸ q0j _ ho),hd⟩) (λx y c h1 h2=>I2.ok.inj x y c (cp.sub x c h1) (cp.sub y c h2))
 rw [j0w] at own;generalize hh4:pushCells (H3.push { cls:=.type "dict",data:=.dict #[] }) scope.names=h4 at own hns0 old0 hD0 ⊢
 have hns:=hns0;have old:=old0;have hD:=hD0;have isOld:∀ x c,(cellsFrom (H3.objs.size+1) scope.names cl).lookup x=some c->X.env.cells.lookup x=some c \/ H3.objs.size+1<=c:=λx c e=>(own.old x c e).imp (cp.sub x c) λz=>by rw [j0w] at z;exact z
 have hDn:H2 s2.heap.objs.size=none:=I2.fresh;have hCn:H2 H3.objs.size=none:=I2.hok.fresh (by rw [hCe];exact y0m _)
 have hCs:s2.heap.objs.size<=H3.objs.size:=by rw [hCe];exact y0m _
 have hDC:s2.heap.objs.size ≠ H3.objs.size:=by rw [hCe];exact q0u (y0h _)
 have fpl:∀ b ∈ fp,∃ o,s2.heap.get? b=some o:=λb hb=>let ⟨o,e,_⟩:=T.obj _ _ st2 b hb;⟨o,e⟩;have fpC:∀ b ∈ fp,b ≠ H3.objs.size:=λb hb=>let ⟨o,e⟩:=fpl b hb;below b o e;have fpD:∀ b ∈ fp,b ≠ s2.heap.objs.size:=λb hb=>let ⟨o,e⟩:=fpl b hb;q0u (q0h e);have stkN:∀ b,b ≠ X.env.locals->b ∉ X.fs->b ∉ frs X.stack:=λb h1 h2 z=>(j0v.mp (I2.stkSub b z)).elim h1 h2
 have fpX:∀ b ∈ fp,∀ x c,(cellsFrom (H3.objs.size+1) scope.names cl).lookup x=some c->c ≠ b:=λb hb x c h=>by
  rcases isOld x c h with z | z
  ·exact (f2 b hb).2.2.2.2.1 x c z
  ·obtain ⟨o,e⟩:=fpl b hb
   exact v0s (q0f (q0h e) (q0y (q0y hCs (y0m _)) z))
 obtain ⟨W,⟨m0,w0⟩,turn⟩:=hW s2.heap.objs.size hDn
 have okB:(X.blockC scope cl H3.objs.size Nc s2 H2 fp pins).Ok:=by
  refine ⟨I2.ok.mod,?_,I2.ok.glob,I2.ok.blt,hCs,λx y c h1 h2=>own.inj x y c h1 h2,λx hx=>cp.has _ x hx,λx c h e=>q0y (q0y hCs (y0m _)) (by have z:=own.fresh x (ownName h) c e;rw [j0w] at z;exact z),I2.ok.hd,I2.ok.frames,.inl rfl,λb hb=>⟨fpC b hb,λx c h=>fpX b hb x c h⟩,I2.bs,q0y I2.ok.bsz I2.sz,λb o e hb=>?_,λb hb=>stkN b (f2 b hb).2.1 (f2 b hb).2.2.1,I2.stack,I2.stkFree⟩
  ·exact cp.kind
  ·rcases (f2 b hb).2.2.2.1 with z | z
   ·exact I2.ok.noex b o e z
   ·exact absurd (q0f (q0h e) (q0y I2.ok.bsz z)) (y0k _)
 have hokB:HOk X.prog X.w (upd H2 s2.heap.objs.size (.lst [])) h4:=I2.hok.laid old (q0n _) ⟨z0z _,[],_,.nil,hD⟩
 have IB:Inv (X.blockC scope cl H3.objs.size Nc s2 H2 fp pins) [] (capSt caps σ) (upd H2 s2.heap.objs.size (.lst [])) { s2 with heap:=h4 }:=by
  refine ⟨okB,rfl,I2.bare,Un.laid old (q0n _) hDn,⟨_,hns,λi x v e1 e2 e3=>?_⟩,λx c e=>?_,(show upd H2 s2.heap.objs.size (.lst []) H3.objs.size=none by rw [upd_ne (Ne.symm hDC)];exact hCn),λx c e=>?_,λp hp=>?_,hokB,?_⟩
  ·unfold capSt at e2
   rw [q0e] at e2
   cases hcap:caps[i]? with
   | none=>rw [hcap] at e2;cases e2
   | some o =>
    rw [hcap] at e2
    cases o with
    | none=>cases e2
    | some j =>
     have hj:σ[j]? = some (some v):=by
      have e2':(σ[j]?).join=some v:=Option.some.inj e2
      cases q:σ[j]? with
      | none=>rw [q] at e2';cases e2'
      | some z=>rw [q] at e2';exact congrArg some e2'
     obtain ⟨n1,n2,n3,n4,n5,n6⟩:=cp.cap i j x hcap e1;obtain ⟨m,hm,hl⟩:=I2.loc;obtain ⟨u,r,q⟩:=hl j x v n1 hj n2;rcases q with ⟨k,_⟩ | ⟨k,c,ec,z⟩
     ·exact absurd k n3
     ·obtain ⟨c',ec'⟩:=n5
      have:=cp.sub x c' ec';rw [ec] at this;cases this;obtain ⟨oc,ho,hd⟩:=z;exact ⟨u,r,.inr ⟨n4,c,n6 _ _ ec',oc,old _ _ ho,hd⟩⟩
  ·exact own.cell x c e
  ·show upd H2 s2.heap.objs.size (.lst []) c=none
   rcases isOld x c e with z | z
   ·obtain ⟨v,oc,ho,hd⟩:=I2.cell x c z
    rw [upd_ne (q0u (q0h ho))];exact I2.freeC x c z
   ·have hz:s2.heap.objs.size<c:=q0f (q0m hCs (y0h _)) z
    rw [upd_ne (v0s hz)];exact I2.hok.fresh (v0g hz)
  ·have hp':p ∈ X.pn ++ pins:=by simpa using hp
   obtain ⟨e1,e2,e3,e4,e5⟩:=I2.pin p hp';exact ⟨old _ _ e1,by rw [upd_ne (q0u (q0h e1))];exact e2,below _ _ e1,stkN _ e3 e4,e5⟩
  ·show (capSt caps σ).length=Nc.length
   unfold capSt;rw [q0b];exact cp.len
 have stat:∀ {H':Hp},(∀ b ∈ fp,H' b=none)->∀ b ∈ fp,FpOk (X.blockC scope cl H3.objs.size Nc s2 H2 fp pins) [] H' b:=λhn b hb =>
  ⟨hn b hb,fpC b hb,stkN b (f2 b hb).2.1 (f2 b hb).2.2.1,.inl hb,λx c h=>fpX b hb x c h,λp hp=>(f2 b hb).2.2.2.2.2 p (by simpa using hp)⟩
 have loop:∀ s5:Shared,s5={ s2 with heap:=h4 } ->
   codeAny (model X.prog X.w) X.A (.compLoop (.ListComp elt [⟨tg,iter,[],0⟩] scope pos) 0 (.ref it) (.ref s2.heap.objs.size) (compEnvC scope (cellsFrom (H3.objs.size+1) scope.names cl) H3.objs.size X.env))
    (compPost (model X.prog X.w) X.A X.xe none (EP X pins σ Q) (.ref s2.heap.objs.size) H3.objs.size) s5:=by
  rintro s5 rfl;refine comp_loop (λn s' => ∃ i σ' H',Inv (X.blockC scope cl H3.objs.size Nc s2 H2 fp pins) [] σ' H' s'/\tn i s'.heap/\(∀ b ∈ fp,H' b=none)/\W i n σ' H') ?_ m0 ⟨0,_,_,IB,T.keep _ _ _ st2 λb hb o e=>old b o e,λb hb=>by rw [upd_ne (fpD b hb)];exact (f2 b hb).1,w0⟩
  rintro n s6 ⟨i,σ6,H6,I6,st6,fr6,w6⟩;rcases turn i n σ6 H6 w6 with ⟨stop,qn⟩ | ⟨go,step⟩
  ·refine thn (T.done (X.blockC scope cl H3.objs.size Nc s2 H2 fp pins) rfl rfl rfl hc i [] s6 σ6 H6 _ I6 (stat fr6) st6 stop) λr s7 zq=>?_
   obtain ⟨hr,I7⟩:=zq;subst hr;obtain ⟨m7,hn7,_⟩:=id I7.loc;exact ⟨m7,hn7,λh' sb=>⟨.ref s2.heap.objs.size,H6,I2.sameC f2 I7.os I7.bare I7.base I7.hok hCs I7.free sb,rfl,qn⟩⟩
  ·refine thn (T.item (X.blockC scope cl H3.objs.size Nc s2 H2 fp pins) rfl rfl rfl hc i [] s6 σ6 H6 _ I6 (stat fr6) st6 go) λr s7 zq=>?_
   obtain ⟨u,hr,h7⟩:=zq;subst hr;refine thn h7 λ_ s8 zq=>?_;obtain ⟨x,H8,I8,r8,y8,st8,fr8⟩:=zq;have I8':=I8.pinned (stat fr8) (T.obj _ _ st8);refine thn (hg _ _ _ _ _ _ s8 σ6 H8 x u _ I8' r8 (step x H8 y8)) λ_ s9 zq=>?_;obtain ⟨σ9,H9,I9,q9⟩:=zq;refine thn (he _ _ _ _ _ _ s9 σ9 H9 _ I9 q9) λu10 s10 zq=>?_;obtain ⟨v10,H10,I10,r10,ys,hys,hlen,m',hm',w'⟩:=zq;refine thn (mt_append _ s10 σ9 H10 (.ref s2.heap.objs.size) [v10] (.ref s2.heap.objs.size) [u10] (λ_ H11=>H11=upd H10 s2.heap.objs.size (.lst (ys ++ [v10]))) I10 rfl (.cons r10 .nil) ⟨_,ys,v10,rfl,rfl,hys,hlen,rfl⟩) λ_ s11 zq=>?_;obtain ⟨_,H11,I11,_,hH11⟩:=zq;subst hH11;refine ⟨m',hm',i+1,σ9,_,I11.unpinned,T.keep _ _ _ st8 λb hb o e=>(I11.pin (b,o) (q0k _ (q0k _ (mem_pinsAt hb e)))).1,λb hb=>?_,w'⟩;obtain ⟨o,e,d⟩:=T.obj _ _ st8 b hb;exact (I11.pin (b,o) (q0k _ (q0k _ (mem_pinsAt hb e)))).2.1
 exact codeAny_compStart_list (loop _ rfl) (T.self _ 0 _ _ _ (T.keep _ _ _ st2 λb hb o e=>old b o e) (loop _ rfl))
end
end L2

set_option maxRecDepth 100000
namespace L2
open PySem PySem.Spec PyProof.Rows
section
variable {X:Cx}
end
end L2

set_option maxRecDepth 100000
namespace L2
open PySem PySem.Spec PyProof.Rows
section
variable {X:Cx}
end
end L2

set_option maxRecDepth 100000
namespace L2
open PySem PySem.Spec PyProof.Rows
end L2

set_option maxRecDepth 100000
namespace L2
open PySem PySem.Spec PyProof.Rows
structure Stp (prog:Program) (w:World) (it src:Addr) (ar:Array Value) (st:Nat->Heap->Prop):Prop where
 stay:∀ {k:Nat} {h h':Heap},st k h->(∀ o,h.get? it=some o->h'.get? it=some o)->(∀ o,h.get? src=some o->h'.get? src=some o)->st k h'
 item:∀ {A:Around} {E:Value->Shared->Prop} {s:Shared} {k:Nat} {v:Value} {Q:Value->Shared->Prop},st k s.heap->ar[k]? = some v->(∀ h',st (k+1) h'->g0r it s.heap h'->Q v { s with heap:=h' })->wpAny (model prog w) A (Builtin.SmallTypes.nextOf (.ref it)) Q E s
 fin:∀ {A:Around} {E:Value->Shared->Prop} {s:Shared} {k:Nat} {Q:Value->Shared->Prop},A.handled=none->st k s.heap->ar[k]? = none->(∀ h' e,Heap.ExtBut it s.heap h'->(∃ o,h'.get? e=some o/\o.cls=.type "StopIteration")->E (.ref e) { s with heap:=h' })->wpAny (model prog w) A (Builtin.SmallTypes.nextOf (.ref it)) Q E s
section
variable {prog:Program} {w:World} {A:Around} {E:Value->Shared->Prop} {s:Shared}
end
section
variable {X:Cx}
end
end L2

set_option maxRecDepth 100000
namespace L2
open PySem PySem.Spec PyProof.Rows
section
variable {X:Cx} {pos:Pos}
end
end L2

set_option maxRecDepth 100000
namespace L2
open PySem PyProof.Rows
section
variable {X:Cx} {pos:Pos}
end
end L2

set_option maxRecDepth 100000
namespace L2
open PySem PySem.Spec PyProof.Rows
section
variable {prog:Program} {w:World} {A:Around} {E:Value->Shared->Prop} {s:Shared}
variable {R:Result->Shared->Prop} {I:Addr} {fp wr:List Addr} {n:Nat} {P:Nat->Value->Prop} {St:Nat->Heap->Prop}
end
section
variable {X:Cx}
end
end L2

set_option maxRecDepth 100000
namespace L2
open PySem PySem.Spec PyProof.Rows
section
variable {X:Cx}
end
end L2

set_option maxRecDepth 100000
namespace L2
open PySem PySem.Spec PyProof.Rows
section
variable {X:Cx}
end
end L2

set_option maxRecDepth 100000
namespace L2
open PySem PySem.Spec PyProof.Rows
section
variable {X:Cx}
end
end L2

set_option maxRecDepth 100000
namespace HT
open PySem PyProof.Rows
section
variable {prog:Program} {w:World} {A:Around} {E:Value->Shared->Prop} {s:Shared}
end
end HT
namespace L2
open PySem PySem.Spec PyProof.Rows
section
variable {X:Cx}
end
end L2

set_option maxRecDepth 100000
namespace PySem
open Sem (wp)
open AutoSeq1 (wpAny_loadPart')
section
variable {prog:Program} {w:World} {A:Around} {E:Value->Shared->Prop} {s:Shared}
end
end PySem
namespace L2
open PySem PySem.Spec PyProof.Rows
section
variable {X:Cx}
end
end L2

set_option maxRecDepth 100000
namespace L2
open PySem PySem.Spec PyProof.Rows
section
variable {X:Cx}
theorem ps_setCompC {elt tg iter:Expr} {scope:Scope} {pos spos py:Pos} {y:Str} {i₀:Nat} {cl:List (Str × Addr)} {Nc:List Str} {caps:List (Option Nat)} {wi:TI} {g:TG} {te:TE} (hN:X.N.Nodup) (hi₀:X.N[i₀]? = some y) (hx:Loc X.env.scope y) (hc:X.calm=true) (cp:CapsC X scope cl Nc caps) (hi:PI X tg iter wi)
  (hg:∀ C s₂ H₂ fp pins,PG (X.blockC scope cl C Nc s₂ H₂ fp pins) tg g) (he:∀ C s₂ H₂ fp pins,PE (X.blockC scope cl C Nc s₂ H₂ fp pins) elt te) (hs:∀ x,foldedSetIterable iter X.env x=pure x:=by intro _;rfl) (hsw:swapsWith (.ListComp elt [⟨tg,iter,[],0⟩] scope pos) (some (.Name y py)) spos.line X.env=pure true:=by rfl)
  (hf:X.fn y=true \/ X.env.scope.names.lookup y=some .local:=by first | exact .inl rfl | exact .inr rfl | assumption) :
  PS X (.Assign [.Name y py] (.ListComp elt [⟨tg,iter,[],0⟩] scope pos) spos) (tAsg (tComp wi caps g te) (gName i₀)):=by
 intro pins s σ H DD I h;rw [exec_Assign_Name_used _ _ _ _ hsw];refine wpAny_bind (wpAny_standAt (wpAny_bind ?_))
 show wpAny _ X.A (do let _ <- comprehension (.ListComp elt [⟨tg,iter,[],0⟩] scope pos) scope X.env _ (newList []) false (eval iter X.env) (some (assign (.Name y py) X.env))) _ _ s
 refine wpAny_bind (wpAny_mono (wpAny_comprehension_free (use:=some (assign (.Name y py) X.env)) (Q:=λ_ s'=>SP X pins DD .next s') rfl hs cp.clos cp.kind cp.names ?_) (λ_ s' hq=>wpAny_pure (wpAny_pure hq)) λ_ _ e=>e);refine thn (hi pins s σ H _ I h) λv s1 h1=>thn h1 λitv s2 h2=>?_;obtain ⟨it,fp,tn,J,H2,e,I2,T,st2,f2,hW⟩:=h2;subst e;refine wpAny_newObj_type ?_ (by show 0<=sizeLine;exact z0z _)
 refine wpAny_newFunctionEnv_own ?_
 dsimp only
 generalize hH3:s2.heap.push { cls:=.type "list",dict:=none,data:=.seq ([]:List Value).toArray }=H3
 have hCe:H3.objs.size=s2.heap.objs.size+1:=by rw [<- hH3,j0w]
 have below:∀ b o,s2.heap.get? b=some o->b ≠ H3.objs.size:=λb o e=>by rw [hCe];exact q0u (v0q (q0h e))
 have hns0:=(Heap.Ns.new H3 (.type "dict")).keeps (pushCells_keeps scope.names _)
 have old0:∀ b o,s2.heap.get? b=some o->(pushCells (H3.push { cls:=.type "dict",data:=.dict #[] }) scope.names).get? b=some o:=λb o e=>pushCells_keeps _ _ b o (q0j _ (hH3 ▸ q0j _ e))
 have hD0:(pushCells (H3.push { cls:=.type "dict",data:=.dict #[] }) scope.names).get? s2.heap.objs.size=some { cls:=.type "list",dict:=none,data:=.seq ([]:List Value).toArray } :=
  pushCells_keeps _ _ _ _ (q0j _ (hH3 ▸ z0u _ rfl))
 have own:=cells_own scope.names (H3.push { cls:=.type "dict",data:=.dict #[] }) cl (λx c e=>by
   obtain ⟨v,o,ho,hd⟩:=I2.cell x c (cp.sub x c e);exact ⟨v,o,q0j _ (hH3 ▸ q0j _ ho),hd⟩) (λx y c h1 h2=>I2.ok.inj x y c (cp.sub x c h1) (cp.sub y c h2))
 rw [j0w] at own;generalize hh4:pushCells (H3.push { cls:=.type "dict",data:=.dict #[] }) scope.names=h4 at own hns0 old0 hD0 ⊢
 have hns:=hns0;have old:=old0;have hD:=hD0;have isOld:∀ x c,(cellsFrom (H3.objs.size+1) scope.names cl).lookup x=some c->X.env.cells.lookup x=some c \/ H3.objs.size+1<=c:=λx c e=>(own.old x c e).imp (cp.sub x c) λz=>by rw [j0w] at z;exact z
 have hDn:H2 s2.heap.objs.size=none:=I2.fresh;have hCn:H2 H3.objs.size=none:=I2.hok.fresh (by rw [hCe];exact y0m _)
 have hCs:s2.heap.objs.size<=H3.objs.size:=by rw [hCe];exact y0m _
 have hDC:s2.heap.objs.size ≠ H3.objs.size:=by rw [hCe];exact q0u (y0h _)
 have fpl:∀ b ∈ fp,∃ o,s2.heap.get? b=some o:=λb hb=>let ⟨o,e,_⟩:=T.obj _ _ st2 b hb;⟨o,e⟩;have fpC:∀ b ∈ fp,b ≠ H3.objs.size:=λb hb=>let ⟨o,e⟩:=fpl b hb;below b o e;have fpD:∀ b ∈ fp,b ≠ s2.heap.objs.size:=λb hb=>let ⟨o,e⟩:=fpl b hb;q0u (q0h e);have stkN:∀ b,b ≠ X.env.locals->b ∉ X.fs->b ∉ frs X.stack:=λb h1 h2 z=>(j0v.mp (I2.stkSub b z)).elim h1 h2
 have fpX:∀ b ∈ fp,∀ x c,(cellsFrom (H3.objs.size+1) scope.names cl).lookup x=some c->c ≠ b:=λb hb x c h=>by
  rcases isOld x c h with z | z
  ·exact (f2 b hb).2.2.2.2.1 x c z
  ·obtain ⟨o,e⟩:=fpl b hb
   exact v0s (q0f (q0h e) (q0y (q0y hCs (y0m _)) z))
 obtain ⟨W,⟨m0,w0⟩,turn⟩:=hW s2.heap.objs.size hDn
 have okB:(X.blockC scope cl H3.objs.size Nc s2 H2 fp pins).Ok:=by
  refine ⟨I2.ok.mod,?_,I2.ok.glob,I2.ok.blt,hCs,λx y c h1 h2=>own.inj x y c h1 h2,λx hx=>cp.has _ x hx,λx c h e=>q0y (q0y hCs (y0m _)) (by have z:=own.fresh x (ownName h) c e;rw [j0w] at z;exact z),I2.ok.hd,I2.ok.frames,.inl rfl,λb hb=>⟨fpC b hb,λx c h=>fpX b hb x c h⟩,I2.bs,q0y I2.ok.bsz I2.sz,λb o e hb=>?_,λb hb=>stkN b (f2 b hb).2.1 (f2 b hb).2.2.1,I2.stack,I2.stkFree⟩
  ·exact cp.kind
  ·rcases (f2 b hb).2.2.2.1 with z | z
   ·exact I2.ok.noex b o e z
   ·exact absurd (q0f (q0h e) (q0y I2.ok.bsz z)) (y0k _)
 have hokB:HOk X.prog X.w (upd H2 s2.heap.objs.size (.lst [])) h4:=I2.hok.laid old (q0n _) ⟨z0z _,[],_,.nil,hD⟩
 have IB:Inv (X.blockC scope cl H3.objs.size Nc s2 H2 fp pins) [] (capSt caps σ) (upd H2 s2.heap.objs.size (.lst [])) { s2 with heap:=h4 }:=by
  refine ⟨okB,rfl,I2.bare,Un.laid old (q0n _) hDn,⟨_,hns,λi x v e1 e2 e3=>?_⟩,λx c e=>?_,(show upd H2 s2.heap.objs.size (.lst []) H3.objs.size=none by rw [upd_ne (Ne.symm hDC)];exact hCn),λx c e=>?_,λp hp=>?_,hokB,?_⟩
  ·unfold capSt at e2
   rw [q0e] at e2
   cases hcap:caps[i]? with
   | none=>rw [hcap] at e2;cases e2
   | some o =>
    rw [hcap] at e2
    cases o with
    | none=>cases e2
    | some j =>
     have hj:σ[j]? = some (some v):=by
      have e2':(σ[j]?).join=some v:=Option.some.inj e2
      cases q:σ[j]? with
      | none=>rw [q] at e2';cases e2'
      | some z=>rw [q] at e2';exact congrArg some e2'
     obtain ⟨n1,n2,n3,n4,n5,n6⟩:=cp.cap i j x hcap e1;obtain ⟨m,hm,hl⟩:=I2.loc;obtain ⟨u,r,q⟩:=hl j x v n1 hj n2;rcases q with ⟨k,_⟩ | ⟨k,c,ec,z⟩
     ·exact absurd k n3
     ·obtain ⟨c',ec'⟩:=n5
      have:=cp.sub x c' ec';rw [ec] at this;cases this;obtain ⟨oc,ho,hd⟩:=z;exact ⟨u,r,.inr ⟨n4,c,n6 _ _ ec',oc,old _ _ ho,hd⟩⟩
  ·exact own.cell x c e
  ·show upd H2 s2.heap.objs.size (.lst []) c=none
   rcases isOld x c e with z | z
   ·obtain ⟨v,oc,ho,hd⟩:=I2.cell x c z
    rw [upd_ne (q0u (q0h ho))];exact I2.freeC x c z
   ·have hz:s2.heap.objs.size<c:=q0f (q0m hCs (y0h _)) z
    rw [upd_ne (v0s hz)];exact I2.hok.fresh (v0g hz)
  ·have hp':p ∈ X.pn ++ pins:=by simpa using hp
   obtain ⟨e1,e2,e3,e4,e5⟩:=I2.pin p hp';exact ⟨old _ _ e1,by rw [upd_ne (q0u (q0h e1))];exact e2,below _ _ e1,stkN _ e3 e4,e5⟩
  ·show (capSt caps σ).length=Nc.length
   unfold capSt;rw [q0b];exact cp.len
 have stat:∀ {H':Hp},(∀ b ∈ fp,H' b=none)->∀ b ∈ fp,FpOk (X.blockC scope cl H3.objs.size Nc s2 H2 fp pins) [] H' b:=λhn b hb =>
  ⟨hn b hb,fpC b hb,stkN b (f2 b hb).2.1 (f2 b hb).2.2.1,.inl hb,λx c h=>fpX b hb x c h,λp hp=>(f2 b hb).2.2.2.2.2 p (by simpa using hp)⟩
 have loop:∀ s5:Shared,s5={ s2 with heap:=h4 } ->
   codeAny (model X.prog X.w) X.A (.compLoop (.ListComp elt [⟨tg,iter,[],0⟩] scope pos) 0 (.ref it) (.ref s2.heap.objs.size) (compEnvC scope (cellsFrom (H3.objs.size+1) scope.names cl) H3.objs.size X.env))
    (compPost (model X.prog X.w) X.A X.xe (some (assign (.Name y py) X.env)) (λ_ s'=>SP X pins DD .next s') (.ref s2.heap.objs.size) H3.objs.size) s5:=by
  rintro s5 rfl;refine comp_loop (λn s' => ∃ i σ' H',Inv (X.blockC scope cl H3.objs.size Nc s2 H2 fp pins) [] σ' H' s'/\tn i s'.heap/\(∀ b ∈ fp,H' b=none)/\W i n σ' H') ?_ m0 ⟨0,_,_,IB,T.keep _ _ _ st2 λb hb o e=>old b o e,λb hb=>by rw [upd_ne (fpD b hb)];exact (f2 b hb).1,w0⟩
  rintro n s6 ⟨i,σ6,H6,I6,st6,fr6,w6⟩;rcases turn i n σ6 H6 w6 with ⟨stop,qn⟩ | ⟨go,step⟩
  ·refine thn (T.done (X.blockC scope cl H3.objs.size Nc s2 H2 fp pins) rfl rfl rfl hc i [] s6 σ6 H6 _ I6 (stat fr6) st6 stop) λr s7 zq=>?_
   obtain ⟨hr,I7⟩:=zq;subst hr;obtain ⟨m7,hn7,_⟩:=id I7.loc;have Io:Inv X pins σ H6 s7:=I2.sameC (h'':=s7.heap) f2 I7.os I7.bare I7.base I7.hok hCs I7.free ⟨rfl,λ_ _=>rfl⟩;have fC:FpOk X pins H6 H3.objs.size:=I2.fpOk hCs I7.free;have fC':∀ b ∈ [H3.objs.size],FpOk X pins H6 b:=λb hb=>by rw [y0j.mp hb];exact fC
   obtain ⟨oC,esC,epC,hoC,restC⟩:=id hn7
   have obC:∀ b ∈ [H3.objs.size],∃ o,s7.heap.get? b=some o/\∀ v,o.data ≠ .cell v:=λb hb=>by
    rw [y0j.mp hb];exact ⟨oC,hoC,λv z=>ns_nocell hn7 hoC v z⟩
   have Ip:=Io.pinned fC' obC
   show wpAny (model X.prog X.w) X.A (assign (.Name y py) X.env (.ref s2.heap.objs.size)) _ _ s7;refine thn (pg_name (pos:=py) hN hi₀ hx hf _ s7 σ H6 (.ref s2.heap.objs.size) (.ref s2.heap.objs.size) DD.nx Ip rfl qn) λ_ s9 zq=>?_;obtain ⟨σ9,H9,I9,q9⟩:=zq;have keepC:=(I9.pin (H3.objs.size,oC) (q0k _ (q0k _ (mem_pinsAt (by simp) hoC)))).1
   have H9C:=(I9.pin (H3.objs.size,oC) (q0k _ (q0k _ (mem_pinsAt (by simp) hoC)))).2.1
   refine ⟨m7,hn7.at' λo e=>by rw [hoC] at e;cases e;exact keepC,λh' sb=>?_⟩
   obtain ⟨_,g1,g2,g3,g4,g5⟩:=fC;exact ⟨σ9,H9,I9.unpinned.turned (t':=s9.toks) (λb o hb e=>(sb.2 b hb).trans e) H9C g1 g3 g4 g5,q9⟩
  ·refine thn (T.item (X.blockC scope cl H3.objs.size Nc s2 H2 fp pins) rfl rfl rfl hc i [] s6 σ6 H6 _ I6 (stat fr6) st6 go) λr s7 zq=>?_
   obtain ⟨u,hr,h7⟩:=zq;subst hr;refine thn h7 λ_ s8 zq=>?_;obtain ⟨x,H8,I8,r8,y8,st8,fr8⟩:=zq;have I8':=I8.pinned (stat fr8) (T.obj _ _ st8);refine thn (hg _ _ _ _ _ _ s8 σ6 H8 x u _ I8' r8 (step x H8 y8)) λ_ s9 zq=>?_;obtain ⟨σ9,H9,I9,q9⟩:=zq;refine thn (he _ _ _ _ _ _ s9 σ9 H9 _ I9 q9) λu10 s10 zq=>?_;obtain ⟨v10,H10,I10,r10,ys,hys,hlen,m',hm',w'⟩:=zq;refine thn (mt_append _ s10 σ9 H10 (.ref s2.heap.objs.size) [v10] (.ref s2.heap.objs.size) [u10] (λ_ H11=>H11=upd H10 s2.heap.objs.size (.lst (ys ++ [v10]))) I10 rfl (.cons r10 .nil) ⟨_,ys,v10,rfl,rfl,hys,hlen,rfl⟩) λ_ s11 zq=>?_;obtain ⟨_,H11,I11,_,hH11⟩:=zq;subst hH11;refine ⟨m',hm',i+1,σ9,_,I11.unpinned,T.keep _ _ _ st8 λb hb o e=>(I11.pin (b,o) (q0k _ (q0k _ (mem_pinsAt hb e)))).1,λb hb=>?_,w'⟩;obtain ⟨o,e,d⟩:=T.obj _ _ st8 b hb;exact (I11.pin (b,o) (q0k _ (q0k _ (mem_pinsAt hb e)))).2.1
 exact codeAny_compStart_list (loop _ rfl) (T.self _ 0 _ _ _ (T.keep _ _ _ st2 λb hb o e=>old b o e) (loop _ rfl))
end
end L2

set_option maxRecDepth 100000
namespace R
end R

set_option maxRecDepth 100000
namespace R
theorem sumTo_zero {f:Nat->Rat}:∀ n,(∀ i,i<n->f i=0)->sumTo f n=0
 | 0,_=>rfl
 | n+1,h=>by
  rw [sumTo,sumTo_zero n (λi hi=>h i ⋯),h n ⋯]
  grind
end R

set_option maxRecDepth 100000
namespace R
end R

set_option maxRecDepth 100000
namespace R
open PySem L2 PyProof.Rows
structure ClN (W:Nat) (qs:List Rat):Prop where
 l:lcmL qs<2 ^ W
 w:∀ v ∈ wholesOf (lcmL qs) qs,j0u v<2 ^ W
theorem ClN.den {W:Nat} {qs:List Rat} (h:ClN W qs) {q:Rat} (hq:q ∈ qs):q.den<2 ^ W:=q0m (u0a (lcmL_pos qs) (den_dvd hq)) h.l
theorem ClN.num {W:Nat} {qs:List Rat} (h:ClN W qs) {q:Rat} (hq:q ∈ qs):q.num.natAbs<2 ^ W:=by
 have h1:=h.w _ (z0k.mpr ⟨q,hq,rfl⟩);obtain ⟨e,he⟩:=den_dvd hq;have hp:=lcmL_pos qs;have h0:(q.den:Int) ≠ 0:=by have:=q.den_nz;omega
 have e1:(lcmL qs:Int).fdiv (q.den:Int)=(e:Int):=by
  rw [he,j0c];exact fdiv_of_mul h0
 rw [e1,z0g,q0v] at h1;refine q0m (v0p _ ?_) h1;rcases g0g e with z | z
 ·rw [z] at he;omega
 ·exact z
theorem ClN.take {W:Nat} {qs:List Rat} (h:ClN W qs) (i:Nat):lcmL (qs.take i)<2 ^ W :=
 q0m (u0a (lcmL_pos qs) (lcmL_dvd λq hq=>den_dvd (v0d hq))) h.l
theorem one_over (v:Int) (L:Nat):q0x 1 L*(v:Rat)=q0x v L:=by
 have h1:=j0z (v:Rat);rw [Rat.num_intCast,Rat.den_intCast] at h1
 conv=>lhs;rw [<- h1]
 rw [v0b]
 simp
theorem divInt_den_dvd (v:Int) {L:Nat} (h:0<L):(q0x v L).den ∣ L:=by
 have hL:(L:Int) ≠ 0:=⋯;obtain ⟨_,e2⟩:=low_eq (t:=v) (b:=(L:Int)) (g:=(q0r v L:Int)) hL (by rw [if_neg ⋯])
 obtain ⟨k,hk⟩:=v0r v (L:Int);have hg:=gcd_pos (t:=v) hL
 have e3:(L:Int).fdiv (q0r v L:Int)=k:=by
  conv=>lhs;arg 1;rw [hk]
  exact fdiv_of_mul ⋯
 rw [e3] at e2;have:((q0x v L).den:Int) ∣ (L:Int):=⟨_,by rw [m0z,<- e2];exact hk⟩
 exact y0a.mp this
theorem divInt_cross (v:Int) {L:Nat} (h:0<L):(q0x v L).num*L=v*((q0x v L).den:Int):=by
 have hL:(L:Int) ≠ 0:=⋯;have hd:((q0x v L).den:Int) ≠ 0:=by have:=(q0x v L).den_nz;omega
 exact (z0e hd hL).mp (j0z _)
theorem cl_of_scl {L W:Nat} {vs:List Int} (hL0:0<L) (hL:L<2 ^ W) (hv:∀ v ∈ vs,j0u v<2 ^ W):ClN W (scl (q0x 1 L) vs):=by
 have hd:lcmL (scl (q0x 1 L) vs) ∣ L:=lcmL_dvd λq hq=>by
  obtain ⟨v,_,rfl⟩:=z0k.mp hq;rw [one_over];exact divInt_den_dvd v hL0
 have hle:=u0a hL0 hd;refine ⟨q0m hle hL,λu hu=>?_⟩;obtain ⟨q,hq,rfl⟩:=z0k.mp hu;obtain ⟨e,he⟩:=den_dvd hq;have h0:(q.den:Int) ≠ 0:=by have:=q.den_nz;omega
 have e1:(lcmL (scl (q0x 1 L) vs):Int).fdiv (q.den:Int)=(e:Int):=by
  rw [he,j0c];exact fdiv_of_mul h0
 obtain ⟨v,hvm,hvq⟩:=z0k.mp hq;rw [one_over] at hvq;have hc:=divInt_cross v hL0;rw [hvq] at hc
 have hc':q.num.natAbs*L=v.natAbs*q.den:=by
  have:=congrArg j0u hc
  rwa [z0g,z0g,q0v,q0v] at this
 rw [e1,z0g,q0v];refine q0m ?_ (hv v hvm)
 have h2:(q.num.natAbs*e)*L<=v.natAbs*L:=by
  calc (q.num.natAbs*e)*L=(q.num.natAbs*L)*e:=by rw [Nat.mul_right_comm]
   _=v.natAbs*(q.den*e):=by rw [hc',m0t]
   _<=v.natAbs*L:=v0m _ (by rw [<- he];exact hle)
 exact Nat.le_of_mul_le_mul_right h2 hL0
theorem scl_lcm (qs:List Rat):scl (q0x 1 (lcmL qs)) (wholesOf (lcmL qs) qs)=qs:=by
 unfold scl wholesOf;rw [g0t]
 conv=>rhs;rw [<- List.map_id qs]
 refine m0v λq hq=>?_
 show q0x 1 (lcmL qs)*((q.num*(lcmL qs:Int).fdiv (q.den:Int):Int):Rat)=q;rw [one_over];exact (whole_eq (lcmL_pos qs) (den_dvd hq)).symm
end R

set_option maxRecDepth 100000
namespace R
open PySem L2 PyProof.Rows
structure PolyAt (H:Hp) (p:Addr) (qs:List Rat):Prop where
 ex:∃ xs,H p=some (.lst xs)/\Nums H xs qs
 bd:∀ q ∈ qs,q.den<2 ^ 6000
 len:qs.length<900
 tl:IsTl qs qs.length
inductive Polys (H:Hp):List Addr->List (List Rat)->Prop where
 | nil:Polys H [] []
 | cons {p:Addr} {ps:List Addr} {L:List Rat} {Ls:List (List Rat)} (h:PolyAt H p L) (t:Polys H ps Ls):Polys H (p :: ps) (L :: Ls)
theorem eqDs_lists:∀ Ls:List (List Rat),eqDs (Ls.map dList) (Ls.map dList)=true
 | []=>by simp [eqDs]
 | L :: Ls=>by rw [z0b,eqDs,eqD_list,eqDs_lists Ls];simp
theorem dpDs_lists:∀ Ls:List (List Rat),dpDs (Ls.map dList)<=2
 | []=>by simp [dpDs]
 | L :: Ls=>by
  have h1:=dp_list L;have h2:=dpDs_lists Ls;rw [z0b,dpDs];omega
theorem refs_get {ts:List Addr} {i:Nat} {x:V} (h:(ts.map V.ref)[i]? = some x):∃ p,ts[i]? = some p/\x=.ref p:=by
 rw [q0e] at h
 cases hw:ts[i]? with
 | none=>rw [hw] at h;cases h
 | some v=>rw [hw] at h;cases h;exact ⟨v,rfl,rfl⟩
theorem eqDs_lists2:∀ Ls Ms:List (List Rat),eqDs (Ls.map dList) (Ms.map dList)=decide (Ls=Ms)
 | [],[]=>by simp [eqDs]
 | [],_ :: _=>by simp [eqDs]
 | _ :: _,[]=>by simp [eqDs]
 | p :: ps,q :: qs=>by
  rw [z0b,z0b,eqDs,eqD_list,eqDs_lists2 ps qs]
  by_cases h1:p=q <;> by_cases h2:ps=qs <;> simp [h1,h2]
theorem okDs_lists2:∀ Ls Ms:List (List Rat),okDs (Ls.map dList) (Ms.map dList)=true
 | [],[]=>by simp [okDs]
 | [],_ :: _=>by simp [okDs]
 | _ :: _,[]=>by simp [okDs]
 | p :: ps,q :: qs=>by rw [z0b,z0b,okDs,okD_list,okDs_lists2 ps qs];rfl
def dLists (Ls:List (List Rat)):D:=.lst (Ls.map dList)
theorem eqD_lists (Ls Ms:List (List Rat)):eqD (dLists Ls) (dLists Ms)=decide (Ls=Ms):=by unfold dLists;rw [eqD,eqDs_lists2]
theorem okD_lists (Ls Ms:List (List Rat)):okD (dLists Ls) (dLists Ms)=true:=by unfold dLists;rw [okD,okDs_lists2]
theorem dp_lists (Ls:List (List Rat)):dpD (dLists Ls)<=60:=by unfold dLists;rw [dpD];have:=dpDs_lists Ls;omega
end R

set_option maxRecDepth 100000
namespace R
open PySem L2 PyProof.Rows
theorem cut_from (xs:List V) {n:Nat} (h:n<=xs.length):cutV xs (some (n:Int)) none=xs.drop n:=by
 unfold cutV
 have e1:HT.sIx xs.length 0 (some (n:Int))=n:=by
  simp only [HT.sIx];rw [if_neg ⋯];omega
 have e2:HT.sIx xs.length xs.length none=xs.length:=rfl;rw [e1,e2,y0s (by rw [y0f];omega)]
theorem take_snoc_get {α:Type} {l:List α} {i:Nat} {x:α} (h:l[i]? = some x):l.take (i+1)=l.take i ++ [x]:=by rw [v0u,h];rfl
theorem SameX.seq {K:q0a} {u:Addr} {H H':Hp} {b:Addr} {xs:List V} (s:SameX u H H') (hu:H u=none) (h:SqL K H b xs):SqL K H' b xs:=by
 rcases h with h | h
 ·rcases h with h | ⟨o,h⟩
  ·exact .inl (.inl (s _ _ h (ne_of_none h hu)))
  ·exact .inl (.inr ⟨o,s _ _ h (ne_of_none h hu)⟩)
 ·exact .inr h
theorem zip_get {α β γ:Type} {f:α->β->γ} {xs:List α} {ys:List β} {i:Nat} {x:α} {y:β} (h1:xs[i]? = some x) (h2:ys[i]? = some y):(u0f f xs ys)[i]? = some (f x y):=by
 rw [u0t,h1,h2]
def spLaw (K:q0a):Sp:=λvs H Q _ => ∃ (a:Addr) (ns:List Int),vs=[.ref a]/\SqL K H a (ns.map V.int)/\ns.length<=63/\∀ H',Q (.bl true) H'
structure ExT (K:q0a) (mg:Str->Option Value) (x:Str) (C:Addr):Prop where
 m:mg x=some (.ref C)
 ox:OwnX K C [.type "ValueError",.type "Exception",.type "BaseException",.type "object"] "ValueError.__new__"
 ec:ExcCls K C
structure CAd where
 c_NoFraction:Addr
 c_NoPolynomial:Addr
 c_NoStretch:Addr
 c_NoRow:Addr
 c_NoPair:Addr
 c_NoBack:Addr
 c_NoForm:Addr
 c_NoParts:Addr
 c_NoDegree:Addr
 c_NoSteps:Addr
 c_NoBox:Addr
 c_NoGain:Addr
 c_NoText:Addr
 c_NoLine:Addr
 c_NoName:Addr
 c_NoDeed:Addr
 c_RestError:Addr
structure XTx (K:q0a) (mg:Str->Option Value) (a:CAd):Prop where
 x_NoFraction:ExT K mg "NoFraction" a.c_NoFraction
 x_NoPolynomial:ExT K mg "NoPolynomial" a.c_NoPolynomial
 x_NoStretch:ExT K mg "NoStretch" a.c_NoStretch
 x_NoRow:ExT K mg "NoRow" a.c_NoRow
 x_NoPair:ExT K mg "NoPair" a.c_NoPair
 x_NoBack:ExT K mg "NoBack" a.c_NoBack
 x_NoForm:ExT K mg "NoForm" a.c_NoForm
 x_NoParts:ExT K mg "NoParts" a.c_NoParts
 x_NoDegree:ExT K mg "NoDegree" a.c_NoDegree
 x_NoSteps:ExT K mg "NoSteps" a.c_NoSteps
 x_NoBox:ExT K mg "NoBox" a.c_NoBox
 x_NoGain:ExT K mg "NoGain" a.c_NoGain
 x_NoText:ExT K mg "NoText" a.c_NoText
 x_NoLine:ExT K mg "NoLine" a.c_NoLine
 x_NoName:ExT K mg "NoName" a.c_NoName
 x_NoDeed:ExT K mg "NoDeed" a.c_NoDeed
structure Kits (K:q0a) (a:CAd) (C:Addr) (j:Nat):Prop where
 k_NoFraction:z0c K (.ref C) (.ref a.c_NoFraction)=some (decide (j=0))
 k_NoPolynomial:z0c K (.ref C) (.ref a.c_NoPolynomial)=some (decide (j=1))
 k_NoStretch:z0c K (.ref C) (.ref a.c_NoStretch)=some (decide (j=2))
 k_NoRow:z0c K (.ref C) (.ref a.c_NoRow)=some (decide (j=3))
 k_NoPair:z0c K (.ref C) (.ref a.c_NoPair)=some (decide (j=4))
 k_NoBack:z0c K (.ref C) (.ref a.c_NoBack)=some (decide (j=5))
 k_NoForm:z0c K (.ref C) (.ref a.c_NoForm)=some (decide (j=6))
 k_NoParts:z0c K (.ref C) (.ref a.c_NoParts)=some (decide (j=7))
 k_NoDegree:z0c K (.ref C) (.ref a.c_NoDegree)=some (decide (j=8))
 k_NoSteps:z0c K (.ref C) (.ref a.c_NoSteps)=some (decide (j=9))
 k_NoBox:z0c K (.ref C) (.ref a.c_NoBox)=some (decide (j=10))
 k_NoGain:z0c K (.ref C) (.ref a.c_NoGain)=some (decide (j=11))
 k_NoText:z0c K (.ref C) (.ref a.c_NoText)=some (decide (j=12))
 k_NoLine:z0c K (.ref C) (.ref a.c_NoLine)=some (decide (j=13))
 k_NoName:z0c K (.ref C) (.ref a.c_NoName)=some (decide (j=14))
 k_NoDeed:z0c K (.ref C) (.ref a.c_NoDeed)=some (decide (j=15))
 kV:z0c K (.ref C) (.type "ValueError")=some true
 ec:ExcCls K C
 ex:PySem.W.exmOne K (.ref C) (.ref a.c_RestError)=some true
def told (j:Nat):List V:=[V.bl (decide (j=0)),V.bl (decide (j=1)),V.bl (decide (j=2)),V.bl (decide (j=3))] ++ [V.bl (decide (j=4)),V.bl (decide (j=5)),V.bl (decide (j=6)),V.bl (decide (j=7))] ++ [V.bl (decide (j=8)),V.bl (decide (j=9)),V.bl (decide (j=10)),V.bl (decide (j=11))] ++ [V.bl (decide (j=12)),V.bl (decide (j=13)),V.bl (decide (j=14)),V.bl (decide (j=15))]
theorem ints_get {ws:List Int} {i:Nat} {x:V} (h:(ws.map V.int)[i]? = some x):∃ v,ws[i]? = some v/\x=.int v:=by
 rw [q0e] at h
 cases hw:ws[i]? with
 | none=>rw [hw] at h;cases h
 | some v=>rw [hw] at h;cases h;exact ⟨v,rfl,rfl⟩
end R

set_option maxRecDepth 100000
namespace R
open PySem L2 PyProof.Rows
def top (i:Nat):Stmt:=PySem.Challenge.pw_restward_k23_whole_signs_stay.main.body.getD i (.Pass ⟨0,0,0,0⟩)
end R

set_option maxRecDepth 100000
local macro_rules | `(tactic| subst_eqs) => `(tactic| simp only [L2.rLen, L2.rSum, L2.rLst, L2.tComp_eq, L2.tCompIf_eq, L2.iZip, L2.rRep, L2.tSl, L2.tPart, L2.tNoPart, L2.rSlL, L2.rAppend, L2.iEnum, L2.capSt, z0b, y0c, j0r, j0s, j0t, L2.tSeq, L2.tIfS, L2.tAnd, L2.tOr, L2.tNot, L2.tTest, L2.tB, L2.tOp, L2.tUn, L2.tBM0, L2.tBM, L2.tVar, L2.tC, L2.tCB, L2.tRet, L2.tAsg, L2.gName, L2.gSub, L2.gTup, L2.gCons, L2.gNil, L2.tCons, L2.tNil, L2.tPar, L2.tTup, L2.tLst, L2.tIf, L2.tAndV, L2.tOrV, L2.tNotV, L2.tDef, L2.tDrop, L2.tNext, L2.tNever, L2.rI, L2.rI0, L2.rU, L2.rBitLen, L2.rIxL, L2.rIxT, L2.rSetL, L2.rEq, L2.rNe, L2.rCount, L2.rIsI, L2.rCat, L2.iRng1, L2.iRng2, L2.iList, L2.iTup, L2.cxOf, L2.Cx.nox, L2.Cx.wish, z0q, z0r, j0a, j0b, Option.some.injEq, L2.V.int.injEq, L2.V.bl.injEq, L2.V.ref.injEq, L2.V.str.injEq, exists_eq_left', exists_eq_left, exists_and_left, true_and, and_true, List.cons.injEq, reduceCtorEq, z0s, if_false, if_true, exists_const, ↓reduceIte, L2.tyV, z0j, j0y, exists_eq, j0n, j0j, j0q, decide_eq_true_eq, not_true_eq_false, not_false_eq_true, z0v, decide_eq_false_iff_not, y0n, y0d, and_assoc, false_and, false_or, or_false])
local macro_rules | `(tactic| subst_vars) => `(tactic| simp only [L2.rLen, L2.rSum, L2.rLst, L2.tComp_eq, L2.tCompIf_eq, L2.iZip, L2.rRep, L2.tSl, L2.tPart, L2.tNoPart, L2.rSlL, L2.rAppend, L2.iEnum, L2.capSt, z0b, y0c, j0r, j0s, j0t, L2.tSeq, L2.tIfS, L2.tAnd, L2.tOr, L2.tNot, L2.tTest, L2.tB, L2.tOp, L2.tUn, L2.tBM0, L2.tBM, L2.tVar, L2.tC, L2.tCB, L2.tRet, L2.tAsg, L2.gName, L2.gSub, L2.gTup, L2.gCons, L2.gNil, L2.tCons, L2.tNil, L2.tPar, L2.tTup, L2.tLst, L2.tIf, L2.tAndV, L2.tOrV, L2.tNotV, L2.tDef, L2.tDrop, L2.tNext, L2.tNever, L2.rI, L2.rI0, L2.rU, L2.rBitLen, L2.rIxL, L2.rIxT, L2.rSetL, L2.rEq, L2.rNe, L2.rCount, L2.rIsI, L2.rCat, L2.iRng1, L2.iRng2, L2.iList, L2.iTup, L2.cxOf, L2.Cx.nox, L2.Cx.wish, z0q, z0r, j0a, j0b, Option.some.injEq, L2.V.int.injEq, L2.V.bl.injEq, L2.V.ref.injEq, L2.V.str.injEq, exists_eq_left', exists_eq_left, exists_and_left, true_and, and_true, List.cons.injEq, reduceCtorEq, z0s, if_false, if_true, exists_const, ↓reduceIte, L2.tyV, z0j, j0y, exists_eq, j0n, j0j, j0q, decide_eq_true_eq, not_true_eq_false, not_false_eq_true, z0v, decide_eq_false_iff_not, y0n, y0d, and_assoc, false_and, false_or, or_false, L2.TruV])
local macro_rules | `(tactic| clean_wf) => `(tactic| simp only [L2.rLen, L2.rSum, L2.rLst, L2.tComp_eq, L2.tCompIf_eq, L2.iZip, L2.rRep, L2.tSl, L2.tPart, L2.tNoPart, L2.rSlL, L2.rAppend, L2.iEnum, L2.capSt, z0b, y0c, j0r, j0s, j0t, L2.tSeq, L2.tIfS, L2.tAnd, L2.tOr, L2.tNot, L2.tTest, L2.tB, L2.tOp, L2.tUn, L2.tBM0, L2.tBM, L2.tVar, L2.tC, L2.tCB, L2.tRet, L2.tAsg, L2.gName, L2.gSub, L2.gTup, L2.gCons, L2.gNil, L2.tCons, L2.tNil, L2.tPar, L2.tTup, L2.tLst, L2.tIf, L2.tAndV, L2.tOrV, L2.tNotV, L2.tDef, L2.tDrop, L2.tNext, L2.tNever, L2.rI, L2.rI0, L2.rU, L2.rBitLen, L2.rIxL, L2.rIxT, L2.rSetL, L2.rEq, L2.rNe, L2.rCount, L2.rIsI, L2.rCat, L2.iRng1, L2.iRng2, L2.iList, L2.iTup, L2.cxOf, L2.Cx.nox, L2.Cx.wish, z0q, z0r, j0a, j0b, Option.some.injEq, L2.V.int.injEq, L2.V.bl.injEq, L2.V.ref.injEq, L2.V.str.injEq, exists_eq_left', exists_eq_left, exists_and_left, true_and, and_true, List.cons.injEq, reduceCtorEq, z0s, if_false, if_true, exists_const, ↓reduceIte, L2.tyV, z0j, j0y, exists_eq, j0n, j0j, j0q, decide_eq_true_eq, not_true_eq_false, not_false_eq_true, z0v, decide_eq_false_iff_not, y0n, y0d, and_assoc, false_and, false_or, or_false, R.spDraw])
namespace R
open PySem L2 PyProof.Rows
section
variable {P:Program} {w:World} {K:q0a} {mg:Str->Option Value} {base:Heap}
def spCD:Sp:=λvs H Q _ => ∃ a b:Int,vs=[.int a,.int b]/\(a.natAbs<2 ^ 6000 \/ b.natAbs<2 ^ 6000)/\Q (.int (q0r a b)) H
abbrev s_common_divisor:Stmt:=top 11
theorem sc_common_divisor:FnScope ["one","other"] ["one","other"] (defScope s_common_divisor):=⟨rfl,rfl,rfl,by decide +kernel,rfl,by decide +kernel,by decide +kernel⟩
theorem ok_common_divisor {f:Addr} (d:Df K mg "common_divisor" s_common_divisor ["one","other"] f) (c_SHORT:∃ t,mg "SHORT" = some (.int 6000 t)) (n_abs:mg "abs" = none):Def P w K mg base CX0 1 "common_divisor" f ["one","other"] spCD:=by
  obtain ⟨tS,c_SHORT⟩:=c_SHORT;refine d.ok (N:=["one","other"]) sc_common_divisor (λvs H Q E ⟨a,b,h,_⟩=>by rw [h];rfl) (λcdv A outer s H vs Q E hr h=>?_)
  obtain ⟨a,b,rfl,hab,q⟩:=h
  refine ⟨_, (pss_cons (ps_if (PW.pt (pw_and (pt_cmpR op_gt (pe_bm0 PySem.F.plainAttrs_int PySem.F.slot_int_bit_length PySem.F.type_int_bit_length mt_bitlen (pv 1)) (pe_glob (v := .int 6000) rfl c_SHORT ⟨_, rfl⟩) (nomark _)) (pw_and1 (pt_cmpR op_gt (pe_bm0 PySem.F.plainAttrs_int PySem.F.slot_int_bit_length PySem.F.type_int_bit_length mt_bitlen (pv 0)) (pe_glob (v := .int 6000) rfl c_SHORT ⟨_, rfl⟩) (nomark _))))) (pss_one ps_never) pss_nil)
      (pss_cons (ps_while PassesOwn.never (pt_truth (pv 1) (λ_=>rfl)) (pss_one (ps_par (i:=0) (j:=1) rfl sc_common_divisor.nd rfl rfl (by decide) rfl rfl (pa_cons (pv 1) (pa_cons (pe_op op_modN (pv 0) (pv 1)) pa_nil)) rfl)))
      (pss_one (ps_ret (pe_callB call_abs rfl n_abs (by decide +kernel) (pa_cons (pv 0) pa_nil)))))),?_⟩
  rw [show start ["one","other"] [.int a,.int b]=[some (.int a),some (.int b)] from rfl]
  have hno:¬ ((6000:Int)<Builtin.Int.intBits b/\(6000:Int)<Builtin.Int.intBits a):=by
    rintro ⟨h1,h2⟩;rcases hab with z | z
    · have:=intBits_lt z;omega
    · have:=intBits_lt z;omega
  have main : ∀ {D : Ends} , (∀ x : Int, ∀ y : Int, y = 0 → Int.gcd x y = Int.gcd a b → D.nx [some (.int x), some (.int y)] H) → tWhile (fun σ H_1 Q => tVar 1 σ H_1 fun x H' => ∃ k, TruV K x H' k ∧ Q k H')
      (tPar 0 1 (tCons (tVar 1) (tCons (tOp (rI (λx j=>j ≠ 0) λi j=>V.int (i.fmod j)) (tVar 0) (tVar 1)) tNil))) D [some (.int a),some (.int b)] H:=by
    intro D hD;refine while_by (λσ H1=>H1=H/\∃ x y:Int,σ=[some (.int x),some (.int y)]/\Int.gcd x y=Int.gcd a b) (λσ _=>match σ with | [_,some (.int y)]=>y.natAbs | _=>0) ⟨rfl,a,b,rfl,rfl⟩ ?_ ?_
    · rintro σ H1 ⟨rfl,x,y,rfl,hg⟩
      subst_vars
      split
      · rename_i hy
        have hy':y ≠ 0:=by simpa using hy
        exact ⟨hy',by rw [gcd_fmod];exact hg,natAbs_fmod_lt x hy'⟩
      · rename_i hy
        have hy':y=0:=by simpa using hy
        exact hD x y hy' hg
    · intro σ H1 Q Q' hQ h
      obtain ⟨v,e1,k,e2,e3⟩:=h;exact ⟨v,e1,k,e2,hQ _ _ e3⟩
  have fin:∀ x y:Int,y=0->Int.gcd x y=Int.gcd a b->Q (.int (if x<0 then -x else x)) H:=λx y hy hg=>by
    subst hy
    have e:(if x<0 then -x else x)=(Int.gcd a b:Int):=by
      rw [<- hg,Int.gcd_zero_right]
      split <;> omega
    rw [e];exact q
  have nxt:∀ x y:Int,y=0->Int.gcd x y=Int.gcd a b->(tRet (tCB (λxs H Q => ∃ i,xs=[V.int i]/\Q (V.int (if i<0 then -i else i)) H) (tCons (tVar 0) tNil)) { nx:=λx H'=>Q V.non H',rt:=Q }) [some (.int x),some (.int y)] H:=λx y hy hg=>by
    subst_eqs
    exact fin x y hy hg
  subst_eqs
  split
  · split
    · exact hno ⟨‹_›,‹_›⟩
    · exact main nxt
  · exact main nxt
def spFraction:Sp:=λvs H Q _ => ∃ t b:Int,vs=[.int t,.int b]/\b.natAbs<2 ^ 6000/\b ≠ 0/\NumRes H Q (q0x t b)
abbrev s_fraction:Stmt:=top 12
theorem sc_fraction:FnScope ["top","bottom","shared"] ["top","bottom"] (defScope s_fraction):=⟨rfl,rfl,rfl,by decide +kernel,rfl,by decide +kernel,by decide +kernel⟩
theorem ok_fraction {f fc:Addr} (d:Df K mg "fraction" s_fraction ["top","bottom"] f) (G_common_divisor:Def P w K mg base CX0 1 "common_divisor" fc ["one","other"] spCD):Def P w K mg base CX0 2 "fraction" f ["top","bottom"] spFraction:=by
 refine d.ok (N:=["top","bottom","shared"]) sc_fraction (by rintro vs H Q E ⟨a,b,h,_⟩;rw [h];rfl) (λcdv A outer s H vs Q E hr h=>?_)
 obtain ⟨t,b,rfl,hb,h0,q⟩:=h
 refine ⟨_,(pss_cons (ps_if (pt_cmpR op_eq (pv 1) pe_int (nomark _)) (pss_one ps_never) pss_nil)
   (pss_cons (ps_set (i:=2) sc_fraction.nd rfl (q0w rfl) (pe_def G_common_divisor hr (pa_cons (pv 0) (pa_cons (pv 1) pa_nil)) pass0))
   (pss_cons (ps_if (pt_cmpR op_lt (pv 1) pe_int (nomark _)) (pss_one (ps_set (i:=2) sc_fraction.nd rfl (q0w rfl) (pe_un un_neg (pv 2)))) pss_nil)
   (pss_one (ps_ret (pe_tup (pa_cons (pe_op op_fdivB (pv 0) (pv 2)) (pa_cons (pe_op op_fdivB (pv 1) (pv 2)) pa_nil)))))))),?_⟩
 rw [show start ["top","bottom","shared"] [.int t,.int b]=[some (.int t),some (.int b),none] from rfl]
 simp only [rLen,rSum,rLst,tComp_eq,tCompIf_eq,iZip,rRep,tSl,tPart,tNoPart,rSlL,rAppend,iEnum,capSt,z0b,y0c,j0r,j0s,j0t,tSeq,tIfS,tAnd,tOr,tNot,tTest,tB,tOp,tUn,tBM0,tBM,tVar,tC,tCB,tRet,tAsg,gName,gSub,gTup,gCons,gNil,tCons,tNil,tPar,tTup,tLst,tIf,tAndV,tOrV,tNotV,tDef,tDrop,tNext,tNever,rI,rI0,rU,rBitLen,rIxL,rIxT,rSetL,rEq,rNe,rCount,rIsI,rCat,iRng1,iRng2,iList,iTup,cxOf,Cx.nox,Cx.wish,z0q,z0r,j0a,j0b,Option.some.injEq,V.int.injEq,V.bl.injEq,V.ref.injEq,V.str.injEq,exists_eq_left',exists_eq_left,exists_and_left,true_and,and_true,List.cons.injEq,reduceCtorEq,z0s,if_false,if_true,exists_const,↓reduceIte,tyV,z0j,j0y,exists_eq,j0n,j0j,j0q,decide_eq_true_eq,not_true_eq_false,not_false_eq_true,z0v,decide_eq_false_iff_not,y0n,y0d,and_assoc,false_and,false_or,or_false,scal,spCD];rw [if_neg h0];refine ⟨.inr hb,?_⟩;have hg:=gcd_pos (t:=t) h0;have hgl:=gcd_lt (a:=t) h0 hb
 by_cases hs:b<0
 ·rw [if_pos hs]
  obtain ⟨e1,e2⟩:=low_eq (t:=t) (g:=-(q0r t b:Int)) h0 (by rw [if_pos hs])
  have dv:∀ i,CDivB i (-(q0r t b:Int)):=λi=>divOk ⋯ (by rw [Int.natAbs_neg];exact lt_up hgl)
  refine ⟨dv _,dv _,small2,λr hr'=>?_⟩;exact q r _ (Same.new hr' _) (by rw [upd_same];unfold numV;rw [e1,e2])
 ·rw [if_neg hs]
  obtain ⟨e1,e2⟩:=low_eq (t:=t) (g:=(q0r t b:Int)) h0 (by rw [if_neg hs])
  have dv:∀ i,CDivB i ((q0r t b:Int)):=λi=>divOk ⋯ (lt_up hgl);refine ⟨dv _,dv _,small2,λr hr'=>?_⟩;exact q r _ (Same.new hr' _) (by rw [upd_same];unfold numV;rw [e1,e2])
end
end R

set_option maxRecDepth 100000
local macro_rules | `(tactic| and_intros) => `(tactic| simp only [L2.rLen, L2.rSum, L2.rLst, L2.tComp_eq, L2.tCompIf_eq, L2.iZip, L2.rRep, L2.tSl, L2.tPart, L2.tNoPart, L2.rSlL, L2.rAppend, L2.iEnum, L2.capSt, z0b, y0c, j0r, j0s, j0t, L2.tSeq, L2.tIfS, L2.tAnd, L2.tOr, L2.tNot, L2.tTest, L2.tB, L2.tOp, L2.tUn, L2.tBM0, L2.tBM, L2.tVar, L2.tC, L2.tCB, L2.tRet, L2.tAsg, L2.gName, L2.gSub, L2.gTup, L2.gCons, L2.gNil, L2.tCons, L2.tNil, L2.tPar, L2.tTup, L2.tLst, L2.tIf, L2.tAndV, L2.tOrV, L2.tNotV, L2.tDef, L2.tDrop, L2.tNext, L2.tNever, L2.rI, L2.rI0, L2.rU, L2.rBitLen, L2.rIxL, L2.rIxT, L2.rSetL, L2.rEq, L2.rNe, L2.rCount, L2.rIsI, L2.rCat, L2.iRng1, L2.iRng2, L2.iList, L2.iTup, L2.cxOf, L2.Cx.nox, L2.Cx.wish, z0q, z0r, j0a, j0b, Option.some.injEq, L2.V.int.injEq, L2.V.bl.injEq, L2.V.ref.injEq, L2.V.str.injEq, exists_eq_left', exists_eq_left, exists_and_left, true_and, and_true, List.cons.injEq, reduceCtorEq, z0s, if_false, if_true, exists_const, ↓reduceIte, L2.tyV, z0j, j0y, exists_eq, j0n, j0j, j0q, decide_eq_true_eq, not_true_eq_false, not_false_eq_true, z0v, decide_eq_false_iff_not, y0n, y0d, and_assoc, false_and, false_or, or_false, R.spCD])
namespace R
open PySem L2 PyProof.Rows
section
variable {K:q0a}
end
end R
namespace L2
open PySem PyProof.Rows
end L2

set_option maxRecDepth 100000
namespace R
open PySem L2 PyProof.Rows
mutual
def noU:D->Bool
 | .v _=>true
 | .tup ds=>noUs ds
 | .lst ds=>(ds.length != 3) && noUs ds
def noUs:List D->Bool
 | []=>true
 | d :: ds=>noU d && noUs ds
end
end R

set_option maxRecDepth 100000
namespace L2
open PySem PyProof.Rows
theorem for_zip {K:q0a} {a b:Addr} {g:TG} {tb:TS} {E:Ends} {σ:St} {H:Hp} (xs ys:List V) (Pv:Nat->St->Hp->Prop) (h0:Pv 0 σ H) (hl:∀ i σ H,Pv i σ H->SqL K H a xs/\SqL K H b ys)
  (hs:∀ i x y σ H p,xs[i]? = some x->ys[i]? = some y->Pv i σ H->H p=none->g (.ref p) σ (upd H p (.tup [x,y])) λσ2 H2=>tb { E with nx:=Pv (i+1),ct:=Pv (i+1),bk:=E.nx } σ2 H2) (hd:∀ σ H,Pv (min xs.length ys.length) σ H->E.nx σ H) :
  ∃ W:Nat->Nat->St->Hp->Prop,(∃ m,W 0 m σ H)/\∀ i m σ H,W i m σ H ->
   ((Itz K a b).stop i H/\E.nx σ H) \/ ((Itz K a b).go i H/\∃ N:St->Hp->Prop,(∀ σ' H',N σ' H'->∃ m',m'<m/\W (i+1) m' σ' H')/\∀ x H',(Itz K a b).yld i H x H'->g x σ H' λσ2 H2=>tb { E with nx:=N,ct:=N,bk:=E.nx } σ2 H2):=by
 refine ⟨λi m σ H=>m=min xs.length ys.length-i/\i<=min xs.length ys.length/\Pv i σ H,⟨_,rfl,z0z _,h0⟩,?_⟩;rintro i m σ H ⟨rfl,hi,p⟩;obtain ⟨q,q'⟩:=hl i σ H p
 by_cases hlt:i<min xs.length ys.length
 ·have h1:i<xs.length:=⋯
  have h2:i<ys.length:=⋯;refine .inr ⟨⟨xs,ys,xs[i],ys[i],q,q',q0c h1,q0c h2⟩,Pv (i+1),λσ' H' n=>⟨_,⋯,rfl,⋯,n⟩,?_⟩;intro v H3 hy;obtain ⟨x,y,r,e1,e2,hr,rfl,rfl⟩:=hy xs ys q q';exact hs i x y σ _ r e1 e2 p hr
 ·have e:i=min xs.length ys.length:=⋯
  subst e;exact .inl ⟨⟨xs,ys,q,q',⋯⟩,hd σ H p⟩
end L2
namespace R
open PySem L2 PyProof.Rows
inductive Rws (H:Hp):List Addr->List (List Rat)->Prop where
 | nil:Rws H [] []
 | cons {p:Addr} {xs:List V} {ps:List Addr} {L:List Rat} {Ls:List (List Rat)} (h:H p=some (.lst xs)) (n:Nums H xs L) (t:Rws H ps Ls):Rws H (p :: ps) (L :: Ls)
theorem Rws.length {H:Hp}:∀ {ts:List Addr} {M:List (List Rat)},Rws H ts M->ts.length=M.length
 | _,_,.nil=>rfl
 | _,_,.cons _ _ t=>congrArg (· + 1) t.length
theorem Rws.same {H H':Hp} (s:Same H H'):∀ {ts:List Addr} {M:List (List Rat)},Rws H ts M->Rws H' ts M
 | _,_,.nil=>.nil
 | _,_,.cons h n t=>.cons (s _ _ h) (n.mono s.tups) (t.same s)
theorem Rws.samex {u:Addr} {H H':Hp} (s:SameX u H H') (hu:UrnAt H u):∀ {ts:List Addr} {M:List (List Rat)},(∀ t ∈ ts,t ≠ u)->Rws H ts M->Rws H' ts M
 | _,_,_,.nil=>.nil
 | _,_,hn,.cons h n t=>.cons (s _ _ h (hn _ z0m)) (n.mono (s.tups hu)) (t.samex s hu λx hx=>hn x (z0d _ hx))
theorem Rws.over {H:Hp} {l:Addr} {xs:List V} {o:HO} (hl:H l=some (.lst xs)):∀ {ts:List Addr} {M:List (List Rat)},l ∉ ts->Rws H ts M->Rws (upd H l o) ts M
 | _,_,_,.nil=>.nil
 | _,_,hn,.cons h n t=>.cons (by rw [upd_ne (λz=>hn (by rw [<- z];exact z0m))];exact h) (n.mono (TupS.lst hl)) (t.over hl λz=>hn (z0d _ z))
theorem Rws.append {H:Hp}:∀ {ts us:List Addr} {M N:List (List Rat)},Rws H ts M->Rws H us N->Rws H (ts ++ us) (M ++ N)
 | _,_,_,_,.nil,h=>h
 | _,_,_,_,.cons h n t,k=>.cons h n (t.append k)
theorem Rws.get {H:Hp}:∀ {ts:List Addr} {M:List (List Rat)} {i:Nat} {p:Addr},Rws H ts M->ts[i]? = some p->∃ xs L,M[i]? = some L/\H p=some (.lst xs)/\Nums H xs L
 | _,_,_,_,.nil,e=>by simp at e
 | _,_,0,_,.cons h n _,e=>by cases e;exact ⟨_,_,rfl,h,n⟩
 | _,_,i+1,_,.cons _ _ t,e=>t.get (i:=i) (by simpa using e)
theorem Rws.isDs {K:q0a} {H:Hp}:∀ {ts:List Addr} {M:List (List Rat)},Rws H ts M->IsDs K H (ts.map V.ref) (M.map dList)
 | _,_,.nil=>.nil
 | _,_,.cons h n t=>.cons (isD_list (SqL.of h) n) t.isDs
def dotQ (p q:List Rat):Rat:=(u0f (· * ·) p q).foldl (· + ·) 0
def dotZ (p q:List Int):Int:=smZ (u0f (· * ·) p q)
theorem foldl_add (l:List Rat):∀ a:Rat,l.foldl (· + ·) a=a+l.foldl (· + ·) 0:=by
 induction l with
 | nil=>intro a;simp;grind
 | cons x l ih =>
  intro a;rw [v0a,v0a,ih (a+x),ih (0+x)];grind
theorem dot_scl (s t:Rat):∀ (p q:List Int),dotQ (scl s p) (scl t q)=s*t*((dotZ p q:Int):Rat)
 | [],q=>by simp [dotQ,scl,dotZ,smZ,v0y]
 | p,[]=>by cases p <;> simp [dotQ,scl,dotZ,smZ,v0y]
 | a :: p,b :: q=>by
  have ih:=dot_scl s t p q;unfold dotQ dotZ at *;simp only [scl,z0b,u0m,v0a,smZ] at *;rw [foldl_add,ih,y0p,q0s]
  grind
theorem dot_lcm (p q:List Rat):q0x (dotZ (wholesOf (lcmL p) p) (wholesOf (lcmL q) q)) ((lcmL p:Int)*(lcmL q:Int))=dotQ p q:=by
 have e:=dot_scl (q0x 1 (lcmL p)) (q0x 1 (lcmL q)) (wholesOf (lcmL p) p) (wholesOf (lcmL q) q);rw [scl_lcm,scl_lcm,v0b] at e;rw [e,<- j0c,show (1:Int)*1=1 from rfl,one_over]
theorem dotQ_snoc {p q:List Rat} (n:Nat) {x y:Rat} (hx:p[n]? = some x) (hy:q[n]? = some y):dotQ (p.take (n+1)) (q.take (n+1))=dotQ (p.take n) (q.take n)+x*y:=by
 have h1:n<p.length:=(q0d.mp hx).1;have h2:n<q.length:=(q0d.mp hy).1;unfold dotQ;rw [take_snoc_get hx,take_snoc_get hy,m0w (by rw [q0t,q0t];omega)]
 simp
end R

set_option maxRecDepth 100000
namespace R
open PySem L2 PyProof.Rows
def TabRes (H:Hp) (Q:VK) (M:List (List Rat)):Prop:=∀ (r:Addr) (ts:List Addr) (H':Hp),Same H H'->H r=none->(∀ t ∈ ts,H t=none/\t ≠ r)->ts.Nodup->H' r=some (.lst (ts.map V.ref))->Rws H' ts M->Q (.ref r) H'
structure TabAt (H:Hp) (D:Addr) (M:List (List Rat)) (H2:Hp):Prop where
 same:Same H H2
 at':∃ ts:List Addr,H2 D=some (.lst (ts.map V.ref))/\(∀ t ∈ ts,H t=none/\t ≠ D)/\ts.Nodup/\Rws H2 ts M
structure RowAt (H:Hp) (D:Addr) (L:List Rat) (H2:Hp):Prop where
 same:Same H H2
 at':∃ xs:List V,H2 D=some (.lst xs)/\Nums H2 xs L
theorem TabAt.start {H:Hp} {D:Addr} (h:H D=none):TabAt H D [] (upd H D (.lst [])):=⟨Same.new h _,[],upd_same,by simp,.nil,.nil⟩
theorem RowAt.start {H:Hp} {D:Addr} (h:H D=none):RowAt H D [] (upd H D (.lst [])):=⟨Same.new h _,[],upd_same,.nil⟩
theorem TabAt.res {H H2:Hp} {D:Addr} {M:List (List Rat)} {Q:VK} (k:TabRes H Q M) (h:H D=none) (t:TabAt H D M H2):Q (.ref D) H2 :=
 let ⟨s,ts,e,hn,nd,r⟩:=t;k D ts H2 s h hn nd e r
theorem RowAt.add {H H2 H3:Hp} {D p:Addr} {L:List Rat} {q:Rat} (t:RowAt H D L H2) (h:H D=none) (s:Same H2 H3) (e:H3 p=some (.tup (numV q))) :
  ∃ ys,H3 D=some (.lst ys)/\ys.length=L.length/\RowAt H D (L ++ [q]) (upd H3 D (.lst (ys ++ [.ref p]))):=by
 obtain ⟨s2,xs,e2,n2⟩:=t;have eD:=s _ _ e2;exact ⟨xs,eD,n2.length,(s2.trans s).over h _,_,upd_same,((n2.mono s.tups).append (.cons e .nil)).mono (TupS.lst eD)⟩
theorem TabAt.add {H H2 H3:Hp} {D D2:Addr} {M:List (List Rat)} {L:List Rat} (t:TabAt H D M H2) (h:H D=none) (h2:H2 D2=none) (r:RowAt H2 D2 L H3) :
  ∃ ys,H3 D=some (.lst ys)/\ys.length=M.length/\TabAt H D (M ++ [L]) (upd H3 D (.lst (ys ++ [.ref D2]))):=by
 obtain ⟨s2,ts,e2,hn,nd,n2⟩:=t;obtain ⟨s,xs,e3,n3⟩:=r;have eD:=s _ _ e2;have hD2:D2 ≠ D:=(ne_of_none e2 h2).symm
 have hnt:D2 ∉ ts:=λz=>by
  obtain ⟨i,hi⟩:=u0u.mp z;obtain ⟨_,_,_,e,_⟩:=n2.get hi;rw [h2] at e;cases e
 refine ⟨_,eD,by rw [q0b,n2.length],(s2.trans s).over h _,ts ++ [D2],by rw [upd_same,y0q];rfl,?_,?_,?_⟩
 ·intro t ht
  rcases u0c.mp ht with z | z
  ·exact hn t z
  ·rw [y0j.mp z]
   refine ⟨?_,hD2⟩
   cases q:H D2 with
   | none=>rfl
   | some o=>rw [s2 _ _ q] at h2;cases h2
 ·rw [List.nodup_append]
  refine ⟨nd,by simp,λa ha b hb=>?_⟩
  rw [y0j.mp hb];rintro rfl;exact hnt ha
 ·refine ((n2.same s).append (.cons e3 n3 .nil)).over eD λz=>?_
  rcases u0c.mp z with z | z
  ·exact (hn D z).2 rfl
  ·exact hD2 (y0j.mp z).symm
def NmC (K:q0a) (H:Hp) (p:Addr) (q:Rat):Prop:=H p=some (.tup (numV q)) \/ ∀ H',SqT K H' p (numV q)
theorem NmC.sqt {K:q0a} {H:Hp} {p:Addr} {q:Rat}:NmC K H p q->SqT K H p (numV q)
 | .inl h=>SqT.of h
 | .inr h=>h H
theorem NmC.mono {K:q0a} {H H':Hp} {p:Addr} {q:Rat} (e:TupS H H'):NmC K H p q->NmC K H' p q
 | .inl h=>.inl (e _ _ h)
 | .inr h=>.inr h
inductive NumsC (K:q0a) (H:Hp):List V->List Rat->Prop where
 | nil:NumsC K H [] []
 | cons {p:Addr} {q:Rat} {vs:List V} {qs:List Rat} (h:NmC K H p q) (t:NumsC K H vs qs):NumsC K H (.ref p :: vs) (q :: qs)
theorem NumsC.mono {K:q0a} {H H':Hp} (e:TupS H H'):∀ {vs:List V} {qs:List Rat},NumsC K H vs qs->NumsC K H' vs qs
 | _,_,.nil=>.nil
 | _,_,.cons h t=>.cons (h.mono e) (t.mono e)
theorem NumsC.length {K:q0a} {H:Hp}:∀ {vs:List V} {qs:List Rat},NumsC K H vs qs->vs.length=qs.length
 | _,_,.nil=>rfl
 | _,_,.cons _ t=>congrArg (· + 1) t.length
theorem NumsC.append {K:q0a} {H:Hp}:∀ {vs ws:List V} {qs rs:List Rat},NumsC K H vs qs->NumsC K H ws rs->NumsC K H (vs ++ ws) (qs ++ rs)
 | _,_,_,_,.nil,b=>b
 | _,_,_,_,.cons h t,b=>.cons h (t.append b)
theorem NumsC.getV {K:q0a} {H:Hp}:∀ {vs:List V} {qs:List Rat} {i:Nat} {v:V},NumsC K H vs qs->vs[i]? = some v->∃ p q,v=.ref p/\qs[i]? = some q/\NmC K H p q
 | _,_,_,_,.nil,e=>by simp at e
 | _,_,0,_,.cons h t,e=>by cases e;exact ⟨_,_,rfl,rfl,h⟩
 | _,_,i+1,_,.cons _ t,e=>t.getV (i:=i) (by simpa using e)
theorem Nums.toC {K:q0a} {H:Hp}:∀ {vs:List V} {qs:List Rat},Nums H vs qs->NumsC K H vs qs
 | _,_,.nil=>.nil
 | _,_,.cons h t=>.cons (.inl h) t.toC
inductive RwsC (K:q0a) (H:Hp):List Addr->List (List Rat)->Prop where
 | nil:RwsC K H [] []
 | cons {p:Addr} {xs:List V} {ps:List Addr} {L:List Rat} {Ls:List (List Rat)} (h:H p=some (.lst xs)) (n:NumsC K H xs L) (t:RwsC K H ps Ls):RwsC K H (p :: ps) (L :: Ls)
theorem Rws.toC {K:q0a} {H:Hp}:∀ {ts:List Addr} {M:List (List Rat)},Rws H ts M->RwsC K H ts M
 | _,_,.nil=>.nil
 | _,_,.cons h n t=>.cons h n.toC t.toC
theorem RwsC.length {K:q0a} {H:Hp}:∀ {ts:List Addr} {M:List (List Rat)},RwsC K H ts M->ts.length=M.length
 | _,_,.nil=>rfl
 | _,_,.cons _ _ t=>congrArg (· + 1) t.length
theorem RwsC.get {K:q0a} {H:Hp}:∀ {ts:List Addr} {M:List (List Rat)} {i:Nat} {p:Addr},RwsC K H ts M->ts[i]? = some p->∃ xs L,M[i]? = some L/\H p=some (.lst xs)/\NumsC K H xs L
 | _,_,_,_,.nil,e=>by simp at e
 | _,_,0,_,.cons h n _,e=>by cases e;exact ⟨_,_,rfl,h,n⟩
 | _,_,i+1,_,.cons _ _ t,e=>t.get (i:=i) (by simpa using e)
structure TabC (K:q0a) (H:Hp) (D:Addr) (M:List (List Rat)) (H2:Hp):Prop where
 same:Same H H2
 at':∃ ts:List Addr,H2 D=some (.lst (ts.map V.ref))/\(∀ t ∈ ts,H t=none/\t ≠ D)/\ts.Nodup/\RwsC K H2 ts M
structure RowC (K:q0a) (H:Hp) (D:Addr) (L:List Rat) (H2:Hp):Prop where
 same:Same H H2
 at':∃ xs:List V,H2 D=some (.lst xs)/\NumsC K H2 xs L
def colQ (M:List (List Rat)) (j:Nat):List Rat:=M.map λL=>(L[j]?).getD 0
def flipQ (M:List (List Rat)) (n:Nat):List (List Rat):=(q0z n).map (colQ M)
def unitQ (n:Nat):List (List Rat):=(q0z n).map λi=>(q0z n).map λj=>if i=j then 1 else 0
def prodQ (M N:List (List Rat)):List (List Rat):=M.map λL=>(flipQ N N.length).map (dotQ L)
theorem rng_get {n i:Nat} (h:i<n):(q0z n)[i]? = some i:=by rw [q0c (by simpa using h)];simp
theorem flip_get {M:List (List Rat)} {n i:Nat} (h:i<n):(flipQ M n)[i]? = some (colQ M i):=by unfold flipQ;rw [q0e,rng_get h];rfl
theorem flip_len (M:List (List Rat)) (n:Nat):(flipQ M n).length=n:=by simp [flipQ]
theorem col_len (M:List (List Rat)) (n:Nat):(colQ M n).length=M.length:=by simp [colQ]
theorem unit_get {n i:Nat} (h:i<n):(unitQ n)[i]? = some ((q0z n).map λj=>if i=j then 1 else 0):=by unfold unitQ;rw [q0e,rng_get h];rfl
theorem take_all {α:Type} {l:List α} {n:Nat} (h:l.length<=n):l.take n=l:=y0s h
theorem len_ok {n:Nat} (h:n<=100):n<sizeLine:=q0m h (by decide)
theorem TabRes.from {H H1:Hp} {Q:VK} {M:List (List Rat)} (k:TabRes H Q M) (s:Same H H1):TabRes H1 Q M:=λr ts H' s' hr hts nd e R=>k r ts H' (s.trans s') (s.free hr) (λt ht=>⟨s.free (hts t ht).1,(hts t ht).2⟩) nd e R
theorem prod_get {M N:List (List Rat)} {i:Nat} {L:List Rat} (h:M[i]? = some L):(prodQ M N)[i]? = some ((flipQ N N.length).map (dotQ L)):=by unfold prodQ;rw [q0e,h];rfl
theorem prod_len (M N:List (List Rat)):(prodQ M N).length=M.length:=by simp [prodQ]
def ClA (D:Addr) (H:Hp) (v:V) (p:List Rat):Prop:=∃ r l,v=.ref r/\H r=some (.tup [.ref l,.int (lcmL p)])/\H l=some (.lst ((wholesOf (lcmL p) p).map V.int))/\l ≠ D
inductive ClL (D:Addr) (H:Hp):List V->List (List Rat)->Prop where
 | nil:ClL D H [] []
 | cons {v:V} {p:List Rat} {vs:List V} {ps:List (List Rat)} (h:ClA D H v p) (t:ClL D H vs ps):ClL D H (v :: vs) (p :: ps)
structure ClR (H:Hp) (D:Addr) (M:List (List Rat)) (H2:Hp):Prop where
 same:Same H H2
 at':∃ vs:List V,H2 D=some (.lst vs)/\ClL D H2 vs M
end R

set_option maxRecDepth 100000
namespace R
open PySem L2 PyProof.Rows
instance {K:q0a} {H:Hp} {vs:List V} {qs:List Rat}:Coe (Nums H vs qs) (NumsC K H vs qs):=⟨Nums.toC⟩
end R

set_option maxRecDepth 100000
namespace R
open PySem L2 PyProof.Rows
section
variable {P:Program} {w:World} {K:q0a} {mg:Str->Option Value} {base:Heap}
def spContent (K:q0a):Sp:=λvs H Q _ => ∃ a ws,vs=[.ref a]/\SqL K H a (ws.map V.int)/\(∀ w ∈ ws,j0u w<2 ^ 6000)/\Q (.int (gcdL ws)) H
abbrev s_content_of:Stmt:=top 16
theorem sc_content_of:FnScope ["wholes","content","whole"] ["wholes"] (defScope s_content_of):=⟨rfl,rfl,rfl,by decide +kernel,rfl,by decide +kernel,by decide +kernel⟩
theorem ok_content_of {f fc:Addr} (d:Df K mg "content_of" s_content_of ["wholes"] f) (G_common_divisor:Def P w K mg base CX0 1 "common_divisor" fc ["one","other"] spCD):Def P w K mg base CX0 2 "content_of" f ["wholes"] (spContent K):=by
 refine d.ok (N:=["wholes","content","whole"]) sc_content_of (by rintro vs H Q E ⟨a,b,h,_⟩;rw [h];rfl) (λcdv A outer s H vs Q E hr h=>?_)
 obtain ⟨a,ws,rfl,hS,hb,k⟩:=h
 refine ⟨_,(pss_cons (ps_set (i:=1) sc_content_of.nd rfl (q0w rfl) pe_int)
   (pss_cons (ps_for PassesOwn.never rfl (pi_list (pv 0)) (pg_name (i:=2) sc_content_of.nd rfl (q0w rfl)) (pss_cons (ps_set (i:=1) sc_content_of.nd rfl (q0w rfl) (pe_def G_common_divisor hr (pa_cons (pv 2) (pa_cons (pv 1) pa_nil)) pass0))
   (pss_one (ps_if (pt_cmpR op_eq (pv 1) pe_int (nomark _)) (pss_one (ps_ret pe_int)) pss_nil))))
   (pss_one (ps_ret (pv 1))))),?_⟩
 rw [show start ["wholes","content","whole"] [.ref a]=[some (.ref a),none,none] from rfl]
 subst_eqs
 refine ⟨_,rfl,a,rfl,⟨_,hS⟩,for_list (xs:=ws.map V.int) (λi σ H1=>H1=H/\∃ o,σ=[some (.ref a),some (.int (gcdL (ws.take i):Nat)),o]) ⟨rfl,_,rfl⟩ (λi σ H1 _ ⟨e,_⟩=>e ▸ hS) ?_ ?_⟩
 ·rintro i x σ H1 hx ⟨rfl,o,rfl⟩
  rw [q0e] at hx
  cases hw:ws[i]? with
  | none=>rw [hw] at hx;cases hx
  | some v =>
   rw [hw] at hx
   cases hx
   have hm:=q0g hw
   and_intros
   have es:ws.take (i+1)=ws.take i ++ [v]:=by rw [v0u,hw];rfl
   have eg:q0r v (gcdL (ws.take i):Int)=gcdL (ws.take (i+1)):=by rw [es,gcdL_snoc]
   refine ⟨.inl (q0f (hb v hm) (pow_le_pow2 (by decide))),?_⟩
   rw [eg];refine ⟨rfl,ite2 (λh1=>?_) (λ_=>?_)⟩
   ·have:gcdL (ws.take (i+1))=1:=⋯
    have e1:=gcdL_one _ this;rw [e1] at k;exact k
   ·exact ⟨rfl,_,rfl⟩
 ·rintro σ H1 ⟨rfl,o,rfl⟩
  rw [q0b,y0t];exact ⟨_,rfl,k⟩
def spCleared (K:q0a):Sp:=λvs H Q _ => ∃ a xs qs,vs=[.ref a]/\SqL K H a xs/\NumsC K H xs qs/\(∃ W:Nat,ClN W qs/\W<=6000)/\qs.length<=100 /\
 ∀ r l H',Same H H'->H l=none->H' r=some (.tup [.ref l,.int (lcmL qs)])->H' l=some (.lst ((wholesOf (lcmL qs) qs).map V.int))->Q (.ref r) H'
abbrev s_cleared:Stmt:=top 18
theorem sc_cleared:FnScope ["numbers","bottom","number"] ["numbers"] (defScope s_cleared):=⟨rfl,rfl,rfl,by decide +kernel,rfl,by decide +kernel,by decide +kernel⟩
theorem ok_cleared {f fc:Addr} (d:Df K mg "cleared" s_cleared ["numbers"] f) (G_common_divisor:Def P w K mg base CX0 1 "common_divisor" fc ["one","other"] spCD):Def P w K mg base CX0 2 "cleared" f ["numbers"] (spCleared K):=by
 refine d.ok (N:=["numbers","bottom","number"]) sc_cleared (by rintro vs H Q E ⟨a,b,c,h,_⟩;rw [h];rfl) (λcdv A outer s H vs Q E hr h=>?_)
 obtain ⟨a,xs,qs,rfl,hS,hN,⟨W,hs,hm⟩,hl,k⟩:=h
 refine ⟨_,(pss_cons (ps_set (i:=1) sc_cleared.nd rfl (z0p rfl) pe_int)
   (pss_cons (ps_for PassesOwn.never rfl (pi_list (pv 0)) (pg_name (i:=2) sc_cleared.nd rfl (q0w rfl)) (pss_one (ps_set (i:=1) sc_cleared.nd rfl (z0p rfl) (pe_op op_mulB (pe_op op_fdivB (pv 1) (pe_def G_common_divisor hr (pa_cons (pv 1) (pa_cons (pe_ix ix_tup (pv 2) pe_int (λ_ _=>rfl)) pa_nil)) pass0)) (pe_ix ix_tup (pv 2) pe_int (λ_ _=>rfl))))))
   (pss_one (ps_ret (pe_tup (pa_cons (pe_comp (Nc:=["bottom","top","under"]) (caps:=[some 1,none,none]) rfl (Caps.of (osc:=defScope s_cleared) (N:=["numbers","bottom","number"]) (ks:=["bottom"]) rfl rfl rfl rfl (sub_cons rfl sub_nil) (by decide +kernel)) (pi_list (pv 0)) (λC s₂ H₂ fp pins=>(show PG _ _ (gTup K 2 (gCons (gName 1) (gCons (gName 2) gNil))) from by (refine pg_tup (n:=2) ?_ ?_ ?_ ?_;rfl;(refine pgs_cons ?_ ?_ ?_;(exact (pg_name (i:=1) (show z0f (["bottom","top","under"]:List Str) by decide +kernel) rfl (q0w rfl) (z0p rfl)));(refine pgs_cons ?_ ?_ ?_;(exact (pg_name (i:=2) (show z0f (["bottom","top","under"]:List Str) by decide +kernel) rfl (q0w rfl) (z0p rfl)));(exact pgs_nil);rfl);rfl);rfl;rfl))) (λC s₂ H₂ fp pins=>(pe_op op_mulB (pv 1) (pe_op op_fdivB (pv 0) (pv 2))))) (pa_cons (pv 1) pa_nil))))))),?_⟩
 rw [show start ["numbers","bottom","number"] [.ref a]=[some (.ref a),none,none] from rfl]
 subst_eqs
 have small:∀ q ∈ qs,q.den<2 ^ 6000:=λq hq=>q0f (hs.den hq) (pow_le_pow2 hm)
 have hB:∀ i,0<lcmL (qs.take i)/\lcmL (qs.take i)<2 ^ 6000:=λi=>by
  exact ⟨lcmL_pos _,q0f (hs.take i) (pow_le_pow2 hm)⟩
 refine ⟨_,rfl,a,rfl,⟨_,hS⟩,for_list (xs:=xs) (λi σ H1=>H1=H/\∃ o,σ=[some (.ref a),some (.int (lcmL (qs.take i):Nat)),o]) ⟨rfl,_,rfl⟩ (λi σ H1 _ ⟨e,_⟩=>e ▸ hS) ?_ ?_⟩
 ·rintro i x σ H1 hx ⟨rfl,o,rfl⟩
  obtain ⟨p,q,rfl,hq,hp⟩:=hN.getV hx;obtain ⟨b1,b2⟩:=hB i;have hd:=small q (q0g hq);have hd0:=rat_den_pos q;have es:qs.take (i+1)=qs.take i ++ [q]:=by rw [v0u,hq];rfl
  have gp:(0:Int)<(q0r (lcmL (qs.take i):Int) (q.den:Int):Nat):=by
   have:=gcd_pos (t:=(lcmL (qs.take i):Int)) (b:=(q.den:Int)) ⋯;omega
  have el:(lcmL (qs.take i):Int).fdiv (q0r (lcmL (qs.take i):Int) (q.den:Int):Nat)*(q.den:Int)=(lcmL (qs.take (i+1)):Nat):=by
   rw [es,lcmL_snoc];obtain ⟨e,he⟩:=v0x (lcmL (qs.take i):Int) (q.den:Int);have hg:q0r (lcmL (qs.take i):Int) (q.den:Int)=Nat.gcd (lcmL (qs.take i)) q.den:=by simp [q0r]
   have h1:(lcmL (qs.take i):Int).fdiv (q0r (lcmL (qs.take i):Int) (q.den:Int):Nat)=e:=by
    conv=>lhs;arg 1;rw [he]
    exact fdiv_of_mul ⋯
   rw [h1];have h2:Nat.gcd (lcmL (qs.take i)) q.den*u0s (lcmL (qs.take i)) q.den=lcmL (qs.take i)*q.den:=Nat.gcd_mul_lcm _ _
   have h3:((Nat.gcd (lcmL (qs.take i)) q.den:Nat):Int)*(u0s (lcmL (qs.take i)) q.den:Nat)=(lcmL (qs.take i):Int)*(q.den:Int):=by
    rw [<- j0c,h2,j0c]
   rw [<- hg] at h3
   have h4:((q0r (lcmL (qs.take i):Int) (q.den:Int):Nat):Int)*(e*q.den)=((q0r (lcmL (qs.take i):Int) (q.den:Int):Nat):Int)*(u0s (lcmL (qs.take i)) q.den:Nat):=by
    rw [h3,<- Int.mul_assoc,<- he]
   exact g0q ⋯ h4
  and_intros
  have hd9:(q.den:Int).natAbs<2 ^ 6000:=by rw [q0v];exact hd
  exact ⟨_,hp.sqt,_,at1 q,_,rfl,.inr (lt_up hd9),divOk ⋯ (gcd_lt ⋯ (lt_up hd9)),_,hp.sqt,_,at1 q,_,rfl,mulOk (m:=6000) (n:=6000) (q0m (fdiv_le ⋯ (v0x _ _)) (by rw [q0v];exact b2)) hd9,el,_,rfl⟩
 ·rintro σ H1 ⟨rfl,o,rfl⟩
  rw [<- hN.length] at hl;have e1:qs.take xs.length=qs:=by rw [hN.length,y0t]
  rw [e1]
  and_intros
  refine ⟨⟨_,hS⟩,λD hD=>?_⟩;refine cw_list xs (λi σ H2 => ∃ o1 o2,σ=[some (.int (lcmL qs)),o1,o2]/\Same H1 H2/\H2 D=some (.lst ((wholesOf (lcmL qs) (qs.take i)).map V.int))) ⟨_,_,rfl,Same.new hD _,upd_same⟩ (λi σ H2 _ ⟨_,_,_,s2,_⟩=>s2.seq hS) ?_ ?_
  ·rintro i x σ H2 hx ⟨o1,o2,rfl,s2,e2⟩
   have hi:=(q0d.mp hx).1;obtain ⟨p,q,rfl,hq,hp⟩:=hN.getV hx;have hd:=small q (q0g hq);have hd0:=rat_den_pos q;have hd9:(q.den:Int).natAbs<2 ^ 6000:=by rw [q0v];exact hd
   have hn9:=hs.num (q0g hq);have es:qs.take (i+1)=qs.take i ++ [q]:=by rw [v0u,hq];rfl
   subst_eqs
   refine ⟨_,s2.tup hp.sqt,rfl,_,_,rfl,_,_,rfl,rfl,?_⟩;refine ⟨_,rfl,divOk ⋯ (lt_up hd9),_,rfl,mulOk (m:=6000) (n:=6000) (q0f hn9 (pow_le_pow2 ⋯)) (q0m (fdiv_le ⋯ (y0a.mpr (den_dvd (q0g hq)))) (by rw [q0v];have:=(hB qs.length).2;rwa [y0t] at this)),?_⟩
   refine CompN.mk hi e2 ?_ ⟨_,_,rfl,(s2.trans (Same.refl _)).over hD _,?_⟩
   ·simp only [q0b,wholesOf,q0t]
    exact q0m (show _<=100 by omega) (by decide)
   ·rw [upd_same,es]
    simp [wholesOf]
  ·rintro σ H2 ⟨o1,o2,rfl,s2,e2⟩
   rw [e1] at e2;refine ⟨small2,λp hp=>k p D _ (s2.trans (Same.new hp _)) hD upd_same ?_⟩;rw [upd_ne (ne_of_none e2 hp)];exact e2
end
end R

set_option maxRecDepth 100000
namespace R
open PySem L2 PyProof.Rows
section
variable {P:Program} {w:World} {K:q0a} {mg:Str->Option Value} {base:Heap}
def spTurned (K:q0a):Sp:=λvs H Q _ => ∃ (a:Addr) (ts:List Addr) (M:List (List Rat)),vs=[.ref a]/\H a=some (.lst (ts.map V.ref))/\Rws H ts M/\(∀ L ∈ M,L.length=M.length)/\M.length<=8/\TabRes H Q (flipQ M M.length)
abbrev s_turned:Stmt:=top 21
theorem sc_turned:FnScope ["table"] ["table"] (defScope s_turned):=⟨rfl,rfl,rfl,by decide +kernel,rfl,by decide +kernel,by decide +kernel⟩
theorem ok_turned {f:Addr} (d:Df K mg "turned" s_turned ["table"] f) (n_range:mg "range" = none) (n_len:mg "len" = none):Def P w K mg base CX0 1 "turned" f ["table"] (spTurned K):=by
 refine d.ok (N:=["table"]) sc_turned (by rintro vs H Q E ⟨_,_,_,h,_⟩;rw [h];rfl) (λcdv A outer s H vs Q E hr h=>?_)
 obtain ⟨a,ts,M,rfl,ha,hR,hM,hl,k⟩:=h;refine ⟨_,(pss_one (ps_ret (pe_compC (Nc:=["table","place"]) (caps:=[some 0,none]) rfl (CapsC.of (osc:=defScope s_turned) (N:=["table"]) (ks:=["table"]) rfl rfl rfl rfl (sub_cons rfl sub_nil) (by decide +kernel)) (pi_range1 rfl n_range (pa_cons (pe_callB call_len_seq rfl n_len (by decide +kernel) (pa_cons (pv 0) pa_nil)) pa_nil)) (λC s₂ H₂ fp pins=>(pg_name (i:=1) (show z0f (["table","place"]:List Str) by decide +kernel) rfl (z0p rfl) (q0w rfl))) (λC s₂ H₂ fp pins=>(pe_comp (Nc:=["place","row"]) (caps:=[some 1,none]) rfl (Caps.of (osc:=_) (N:=["table","place"]) (ks:=["place"]) rfl rfl rfl rfl (sub_cons rfl sub_nil) (by kernel_rfl)) (show PI _ _ _ (iList K _) from by exact (pi_list (pv 0))) (λC s₂ H₂ fp pins=>(pg_name (i:=1) (show z0f (["place","row"]:List Str) by decide +kernel) rfl (q0w rfl) (z0p rfl))) (λC s₂ H₂ fp pins=>(pe_ix (by exact ix_list:IxR _ (rIxL K)) (pv 1) (pv 0) (λ_ _=>rfl)))))))),?_⟩
 rw [show start ["table"] [.ref a]=[some (.ref a)] from rfl]
 subst_eqs
 have hRl:=hR.length;refine ⟨_,.inl (SqL.of ha),⋯,by rw [q0b];omega,λD hD=>?_⟩
 refine cw_range (λi σ H2 => ∃ o,σ=[some (.ref a),o]/\TabAt H D ((flipQ M M.length).take i) H2) ⟨_,rfl,TabAt.start hD⟩ ?_ ?_
 ·rintro i σ H2 hi ⟨o,rfl,T⟩
  subst_eqs
  have ha2:=T.same _ _ ha;have hi':i<M.length:=by rw [q0b] at hi;omega
  refine ⟨⟨_,SqL.of ha2⟩,λD2 hD2=>?_⟩;refine cw_list (ts.map V.ref) (λj σ H3 => ∃ o,σ=[some (.int (0+i)),o]/\RowAt H2 D2 ((colQ M i).take j) H3) ⟨_,rfl,RowAt.start hD2⟩ (λj σ H3 _ ⟨_,_,R⟩=>SqL.of (R.same _ _ ha2)) ?_ ?_
  ·rintro j x σ H3 hx ⟨o,rfl,R⟩
   obtain ⟨t,ht,rfl⟩:=refs_get hx;obtain ⟨xs,L,hL,et,nt⟩:=hR.get ht
   subst_eqs
   have hLl:L.length=M.length:=hM L (q0g hL);have hq:L[i]? = some L[i]:=q0c ⋯;obtain ⟨p,hp,ep⟩:=nt.get hq;have S:=T.same.trans R.same;refine ⟨xs,SqL.of (S _ _ et),_,by rw [Int.zero_add,atI_nat];exact hp,?_⟩
   have hj:=(q0d.mp hx).1;obtain ⟨ys,eD,yl,R'⟩:=R.add hD2 (λb o h=>h) (S _ _ ep);refine CompN.mk hj eD (len_ok (by rw [yl,q0t,col_len];omega)) ⟨_,rfl,?_⟩
   rw [take_snoc_get (l:=colQ M i) (x:=L[i]) (by unfold colQ;rw [q0e,hL];simp only [Option.map_some,hq,Option.getD_some])]
   exact R'
  ·rintro σ H3 ⟨o,rfl,R⟩
   rw [take_all (by rw [q0b,col_len];omega)] at R
   obtain ⟨ys,eD,yl,T'⟩:=T.add hD hD2 R;refine CompN.mk hi eD (len_ok (by rw [yl,q0t,flip_len];omega)) ⟨_,rfl,?_⟩
   rw [take_snoc_get (flip_get hi')];exact T'
 ·rintro σ H2 ⟨o,rfl,T⟩
  rw [take_all (by rw [flip_len,q0b];omega)] at T
  exact T.res k hD
abbrev s__law_flipped:Stmt:=top 44
theorem sc__law_flipped:FnScope ["_law_table"] ["_law_table"] (defScope s__law_flipped):=⟨rfl,rfl,rfl,by decide +kernel,rfl,by decide +kernel,by decide +kernel⟩
theorem ok__law_flipped {f:Addr} (d:Df K mg "_law_flipped" s__law_flipped ["_law_table"] f) (n_range:mg "range" = none) (n_len:mg "len" = none):Def P w K mg base CX0 1 "_law_flipped" f ["_law_table"] (spTurned K):=by
 refine d.ok (N:=["_law_table"]) sc__law_flipped (by rintro vs H Q E ⟨_,_,_,h,_⟩;rw [h];rfl) (λcdv A outer s H vs Q E hr h=>?_)
 obtain ⟨a,ts,M,rfl,ha,hR,hM,hl,k⟩:=h;refine ⟨_,(pss_one (ps_ret (pe_compC (Nc:=["_law_table","_law_j"]) (caps:=[some 0,none]) rfl (CapsC.of (osc:=defScope s__law_flipped) (N:=["_law_table"]) (ks:=["_law_table"]) rfl rfl rfl rfl (sub_cons rfl sub_nil) (by decide +kernel)) (pi_range1 rfl n_range (pa_cons (pe_callB call_len_seq rfl n_len (by decide +kernel) (pa_cons (pv 0) pa_nil)) pa_nil)) (λC s₂ H₂ fp pins=>(pg_name (i:=1) (show z0f (["_law_table","_law_j"]:List Str) by decide +kernel) rfl (z0p rfl) (q0w rfl))) (λC s₂ H₂ fp pins=>(pe_comp (Nc:=["_law_j","_law_row"]) (caps:=[some 1,none]) rfl (Caps.of (osc:=_) (N:=["_law_table","_law_j"]) (ks:=["_law_j"]) rfl rfl rfl rfl (sub_cons rfl sub_nil) (by kernel_rfl)) (show PI _ _ _ (iList K _) from by exact (pi_list (pv 0))) (λC s₂ H₂ fp pins=>(pg_name (i:=1) (show z0f (["_law_j","_law_row"]:List Str) by decide +kernel) rfl (q0w rfl) (z0p rfl))) (λC s₂ H₂ fp pins=>(pe_ix (by exact ix_list:IxR _ (rIxL K)) (pv 1) (pv 0) (λ_ _=>rfl)))))))),?_⟩
 rw [show start ["_law_table"] [.ref a]=[some (.ref a)] from rfl]
 subst_eqs
 have hRl:=hR.length;refine ⟨_,.inl (SqL.of ha),⋯,by rw [q0b];omega,λD hD=>?_⟩
 refine cw_range (λi σ H2 => ∃ o,σ=[some (.ref a),o]/\TabAt H D ((flipQ M M.length).take i) H2) ⟨_,rfl,TabAt.start hD⟩ ?_ ?_
 ·rintro i σ H2 hi ⟨o,rfl,T⟩
  subst_eqs
  have ha2:=T.same _ _ ha;have hi':i<M.length:=by rw [q0b] at hi;omega
  refine ⟨⟨_,SqL.of ha2⟩,λD2 hD2=>?_⟩;refine cw_list (ts.map V.ref) (λj σ H3 => ∃ o,σ=[some (.int (0+i)),o]/\RowAt H2 D2 ((colQ M i).take j) H3) ⟨_,rfl,RowAt.start hD2⟩ (λj σ H3 _ ⟨_,_,R⟩=>SqL.of (R.same _ _ ha2)) ?_ ?_
  ·rintro j x σ H3 hx ⟨o,rfl,R⟩
   obtain ⟨t,ht,rfl⟩:=refs_get hx;obtain ⟨xs,L,hL,et,nt⟩:=hR.get ht
   subst_eqs
   have hLl:L.length=M.length:=hM L (q0g hL);have hq:L[i]? = some L[i]:=q0c ⋯;obtain ⟨p,hp,ep⟩:=nt.get hq;have S:=T.same.trans R.same;refine ⟨xs,SqL.of (S _ _ et),_,by rw [Int.zero_add,atI_nat];exact hp,?_⟩
   have hj:=(q0d.mp hx).1;obtain ⟨ys,eD,yl,R'⟩:=R.add hD2 (λb o h=>h) (S _ _ ep);refine CompN.mk hj eD (len_ok (by rw [yl,q0t,col_len];omega)) ⟨_,rfl,?_⟩
   rw [take_snoc_get (l:=colQ M i) (x:=L[i]) (by unfold colQ;rw [q0e,hL];simp only [Option.map_some,hq,Option.getD_some])]
   exact R'
  ·rintro σ H3 ⟨o,rfl,R⟩
   rw [take_all (by rw [q0b,col_len];omega)] at R
   obtain ⟨ys,eD,yl,T'⟩:=T.add hD hD2 R;refine CompN.mk hi eD (len_ok (by rw [yl,q0t,flip_len];omega)) ⟨_,rfl,?_⟩
   rw [take_snoc_get (flip_get hi')];exact T'
 ·rintro σ H2 ⟨o,rfl,T⟩
  rw [take_all (by rw [flip_len,q0b];omega)] at T
  exact T.res k hD
def spUnitL:Sp:=λvs H Q _ => ∃ n:Nat,vs=[.int n]/\n<=8/\TabRes H Q (unitQ n)
abbrev s__law_unit:Stmt:=top 43
theorem sc__law_unit:FnScope ["_law_n"] ["_law_n"] (defScope s__law_unit):=⟨rfl,rfl,rfl,by decide +kernel,rfl,by decide +kernel,by decide +kernel⟩
theorem ok__law_unit {f:Addr} (d:Df K mg "_law_unit" s__law_unit ["_law_n"] f) (n_range:mg "range" = none) (n_int:mg "int" = none):Def P w K mg base CX0 1 "_law_unit" f ["_law_n"] spUnitL:=by
 refine d.ok (N:=["_law_n"]) sc__law_unit (by rintro vs H Q E ⟨_,h,_⟩;rw [h];rfl) (λcdv A outer s H vs Q E hr h=>?_)
 obtain ⟨n,rfl,hn,k⟩:=h;refine ⟨_,(pss_one (ps_ret (pe_compC (Nc:=["_law_n","_law_i"]) (caps:=[some 0,none]) rfl (CapsC.of (osc:=defScope s__law_unit) (N:=["_law_n"]) (ks:=["_law_n"]) rfl rfl rfl rfl (sub_cons rfl sub_nil) (by decide +kernel)) (pi_range1 rfl n_range (pa_cons (pv 0) pa_nil)) (λC s₂ H₂ fp pins=>(pg_name (i:=1) (show z0f (["_law_n","_law_i"]:List Str) by decide +kernel) rfl (z0p rfl) (q0w rfl))) (λC s₂ H₂ fp pins=>(pe_comp (Nc:=["_law_i","_law_j"]) (caps:=[some 1,none]) rfl (Caps.of (osc:=_) (N:=["_law_n","_law_i"]) (ks:=["_law_i"]) rfl rfl rfl rfl (sub_cons rfl sub_nil) (by kernel_rfl)) (pi_range1 rfl n_range (pa_cons (pv 0) pa_nil)) (λC s₂ H₂ fp pins=>(pg_name (i:=1) (show z0f (["_law_i","_law_j"]:List Str) by decide +kernel) rfl (q0w rfl) (z0p rfl))) (λC s₂ H₂ fp pins=>(pe_tup (pa_cons (pe_callTy call_int1 rfl n_int (by decide +kernel) (pa_cons (pe_cmpR op_eq (pv 0) (pv 1) (nomark _)) pa_nil)) (pa_cons pe_int pa_nil))))))))),?_⟩
 rw [show start ["_law_n"] [.int n]=[some (.int n)] from rfl]
 subst_eqs
 refine ⟨⋯,⋯,λD hD=>?_⟩;refine cw_range (λi σ H2 => ∃ o,σ=[some (.int n),o]/\TabAt H D ((unitQ n).take i) H2) ⟨_,rfl,TabAt.start hD⟩ ?_ ?_
 ·rintro i σ H2 hi ⟨o,rfl,T⟩
  subst_eqs
  have hi':i<n:=⋯;refine ⟨⋯,⋯,λD2 hD2=>?_⟩;refine cw_range (λj σ H3 => ∃ o,σ=[some (.int (0+i)),o]/\RowAt H2 D2 (((q0z n).map λj=>if i=j then (1:Rat) else 0).take j) H3) ⟨_,rfl,RowAt.start hD2⟩ ?_ ?_
  ·rintro j σ H3 hj ⟨o,rfl,R⟩
   have hj':j<n:=⋯
   subst_eqs
   refine ⟨rfl,small2,λp hp=>?_⟩
   have e:upd H3 p (HO.tup [V.int (if (0:Int) + ↑i=0 + ↑j then 1 else 0),V.int 1]) p=some (.tup (numV (if i=j then (1:Rat) else 0))):=by
    rw [upd_same]
    by_cases h:i=j
    ·rw [if_pos ⋯,if_pos h];rfl
    ·rw [if_neg ⋯,if_neg h];rfl
   obtain ⟨ys,eD,yl,R'⟩:=R.add hD2 (Same.new hp _) e;refine CompN.mk hj eD (len_ok (by rw [yl,q0t];omega)) ⟨_,rfl,?_⟩
   rw [take_snoc_get (l:=(q0z n).map λj=>if i=j then (1:Rat) else 0) (x:=if i=j then (1:Rat) else 0) (by rw [q0e,rng_get hj'];rfl)]
   exact R'
  ·rintro σ H3 ⟨o,rfl,R⟩
   rw [take_all (by simp)] at R
   obtain ⟨ys,eD,yl,T'⟩:=T.add hD hD2 R;refine CompN.mk hi eD (len_ok (by rw [yl,q0t];omega)) ⟨_,rfl,?_⟩
   rw [take_snoc_get (unit_get hi')];exact T'
 ·rintro σ H2 ⟨o,rfl,T⟩
  rw [take_all (by simp [unitQ])] at T
  exact T.res k hD
end
end R

set_option maxRecDepth 100000
namespace R
open PySem L2 PyProof.Rows
section
variable {P:Program} {w:World} {K:q0a} {mg:Str->Option Value} {base:Heap}
abbrev s__law_low:Stmt:=top 37
theorem sc__law_low:FnScope ["_law_top","_law_bottom","_law_one","_law_other_here"] ["_law_top","_law_bottom"] (defScope s__law_low):=⟨rfl,rfl,rfl,by decide +kernel,rfl,by decide +kernel,by decide +kernel⟩
theorem ok__law_low {f:Addr} (d:Df K mg "_law_low" s__law_low ["_law_top","_law_bottom"] f) (n_abs:mg "abs" = none):Def P w K mg base CX0 1 "_law_low" f ["_law_top","_law_bottom"] spLow:=by
  refine d.ok (N:=["_law_top","_law_bottom","_law_one","_law_other_here"]) sc__law_low (λvs H Q E ⟨a,b,h,_⟩=>by rw [h];rfl) (λcdv A outer s H vs Q E hr h=>?_)
  obtain ⟨t,b,rfl,hb0,hb,k⟩:=h
  refine ⟨_, (pss_cons (ps_set (i := 2) sc__law_low.nd rfl (Or.inl rfl) (pe_callB call_abs rfl n_abs (by decide +kernel) (pa_cons (pv 0) pa_nil)))
      (pss_cons (ps_set (i:=3) sc__law_low.nd rfl (Or.inl rfl) (pe_callB call_abs rfl n_abs (by decide +kernel) (pa_cons (pv 1) pa_nil)))
      (pss_cons (ps_while PassesOwn.never (pt_cmpR op_gt (pv 3) pe_int (nomark _)) (pss_one (ps_par (i:=2) (j:=3) rfl sc__law_low.nd rfl rfl (by decide) rfl rfl (pa_cons (pv 3) (pa_cons (pe_op op_modN (pv 2) (pv 3)) pa_nil)) rfl)))
      (pss_cons (ps_if (pt_cmpR op_lt (pv 1) pe_int (nomark _)) (pss_one (ps_set (i:=2) sc__law_low.nd rfl (Or.inl rfl) (pe_op op_sub pe_int (pv 2)))) pss_nil)
      (pss_one (ps_ret (pe_tup (pa_cons (pe_op op_fdivB (pv 0) (pv 2)) (pa_cons (pe_op op_fdivB (pv 1) (pv 2)) pa_nil))))))))),?_⟩
  rw [show start ["_law_top","_law_bottom","_law_one","_law_other_here"] [.int t,.int b]=[some (.int t),some (.int b),none,none] from rfl]
  subst_eqs
  refine while_by (λσ H1=>H1=H/\∃ x y:Int,σ=[some (.int t),some (.int b),some (.int x),some (.int y)]/\0<=x/\0<=y/\Int.gcd x y=Int.gcd t b) (λσ _=>match σ with | [_,_,_,some (.int y)]=>y.natAbs | _=>0)
    ⟨rfl,_,_,rfl,by split <;> omega,by split <;> omega,?_⟩ ?_ ?_
  · have e1:(if t<0 then -t else t)=(t.natAbs:Int):=by split <;> omega
    have e2:(if b<0 then -b else b)=(b.natAbs:Int):=by split <;> omega
    rw [e1,e2,Int.gcd_eq_natAbs_gcd_natAbs,Int.gcd_eq_natAbs_gcd_natAbs];simp
  · rintro σ H1 ⟨rfl,x,y,rfl,hx,hy,hg⟩
    subst_eqs
    split
    · rename_i hy0
      exact ⟨⋯,hy,Int.fmod_nonneg_of_pos x hy0,by rw [gcd_fmod];exact hg,natAbs_fmod_lt x ⋯⟩
    · rename_i hy0
      have hy':y=0:=⋯;subst hy'
      have ex:x=(Int.gcd t b:Int):=by
        rw [Int.gcd_zero_right] at hg;omega
      have gp:=gcd_pos (t:=t) hb0;have gl:=gcd_lt (a:=t) hb0 hb
      by_cases hs:b<0
      · rw [if_pos hs]
        obtain ⟨e1,e2⟩:=low_eq (t:=t) (g:=0-x) hb0 (by rw [if_pos hs,ex];omega)
        have dv:∀ i,CDivB i (0-x):=λi=>divOk ⋯ (by rw [show 0-x=-x by omega,Int.natAbs_neg,ex];exact lt_up gl)
        refine ⟨dv _,dv _,small2,λr hr'=>?_⟩;exact k r _ (Same.new hr' _) (by rw [upd_same];unfold numV;rw [e1,e2])
      · rw [if_neg hs]
        obtain ⟨e1,e2⟩:=low_eq (t:=t) (g:=x) hb0 (by rw [if_neg hs,ex])
        have dv:∀ i,CDivB i x:=λi=>divOk ⋯ (by rw [ex];exact lt_up gl)
        refine ⟨dv _,dv _,small2,λr hr'=>?_⟩;exact k r _ (Same.new hr' _) (by rw [upd_same];unfold numV;rw [e1,e2])
  · intro σ H1 Q1 Q2 hQ h
    simp only [rLen,rSum,rLst,tComp_eq,tCompIf_eq,iZip,rRep,tSl,tPart,tNoPart,rSlL,rAppend,iEnum,capSt,List.map_cons,List.map_nil,Option.bind_none,Option.bind_some,Option.join_some,tSeq,tIfS,tAnd,tOr,tNot,tTest,tB,tOp,tUn,tBM0,tBM,tVar,tC,tCB,tRet,tAsg,gName,gSub,gTup,gCons,gNil,tCons,tNil,tPar,tTup,tLst,tIf,tAndV,tOrV,tNotV,tDef,tDrop,tNext,tNever,rI,rI0,rU,rBitLen,rIxL,rIxT,rSetL,rEq,rNe,rCount,rIsI,rCat,iRng1,iRng2,iList,iTup,cxOf,Cx.nox,Cx.wish,List.getElem?_cons_zero,List.getElem?_cons_succ,List.set_cons_zero,List.set_cons_succ,Option.some.injEq,V.int.injEq,V.bl.injEq,V.ref.injEq,V.str.injEq,exists_eq_left',exists_eq_left,exists_and_left,true_and,and_true,List.cons.injEq,reduceCtorEq,Bool.false_eq_true,if_false,if_true,exists_const,↓reduceIte,tyV,List.length_cons,List.length_nil,exists_eq,List.append_nil,List.cons_append,List.nil_append,decide_eq_true_eq,not_true_eq_false,not_false_eq_true,Bool.not_eq_true',decide_eq_false_iff_not,Bool.not_true,Bool.not_false,and_assoc,false_and,false_or,or_false] at h ⊢;obtain ⟨v,e1,i,e2,e3⟩:=h;exact ⟨v,e1,i,e2,hQ _ _ e3⟩
abbrev s__law_urn:Stmt:=top 35
theorem sc__law_urn:FnScope ["_law_script","_law_at","_law_cell","_law_prime","_law_great"] ["_law_script","_law_at"] (defScope s__law_urn):=⟨rfl,rfl,rfl,by decide +kernel,rfl,by decide +kernel,by decide +kernel⟩
theorem ok__law_urn {f:Addr} (d:Df K mg "_law_urn" s__law_urn ["_law_script","_law_at"] f) (n_len:mg "len" = none) (n_abs:mg "abs" = none):Def P w K mg base CX0 1 "_law_urn" f ["_law_script","_law_at"] (spUrn K):=by
 refine d.ok (N:=["_law_script","_law_at","_law_cell","_law_prime","_law_great"]) sc__law_urn (λvs H Q E ⟨x,y,p,h,_⟩=>by rw [h];rfl) (λcdv A outer s H vs Q E hr h=>?_)
 obtain ⟨a,ns,i,rfl,hS,h0,h64,k⟩:=h
 refine ⟨_,(pss_cons (ps_set (i:=2) sc__law_urn.nd rfl (q0w rfl) pe_int)
   (pss_cons (ps_if (pt_cmpR op_lt (pv 1) (pe_callB call_len_seq rfl n_len (by decide +kernel) (pa_cons (pv 0) pa_nil)) (nomark _)) (pss_one (ps_set (i:=2) sc__law_urn.nd rfl (q0w rfl) (pe_ix ix_list (pv 0) (pv 1) (λ_ _=>rfl)))) pss_nil)
   (pss_cons (ps_set (i:=3) sc__law_urn.nd rfl (q0w rfl) (pe_ix ix_tup (pe_tup (pa_cons pe_int (pa_cons pe_int (pa_cons pe_int (pa_cons pe_int (pa_cons pe_int (pa_cons pe_int (pa_cons pe_int (pa_cons pe_int pa_nil))))))))) (pe_op op_modN (pv 1) pe_int) (λ_ _=>rfl)))
   (pss_cons (ps_set (i:=4) sc__law_urn.nd rfl (q0w rfl) pe_int)
   (pss_cons (ps_if (pt_cmpR op_ge (pe_callB call_abs rfl n_abs (by decide +kernel) (pa_cons (pv 2) pa_nil)) (pe_op op_pow pe_int pe_int) (nomark _)) (pss_one (ps_set (i:=4) sc__law_urn.nd rfl (q0w rfl) (pe_callB call_abs rfl n_abs (by decide +kernel) (pa_cons (pv 2) pa_nil)))) pss_nil)
   (pss_one (ps_ret (pe_lst (pa_cons (pv 4) (pa_cons (pe_op op_modN (pe_op op_pow (pe_op op_add (pe_op op_add (pe_op op_modN (pv 2) (pv 3)) (pe_op op_mulB pe_int (pv 1))) pe_int) pe_int) (pv 3)) (pa_cons (pv 3) pa_nil))))))))))),?_⟩
 rw [show start ["_law_script","_law_at","_law_cell","_law_prime","_law_great"] [.ref a,.int i]=[some (.ref a),some (.int i),none,none,none] from rfl]
 refine seq_cut (λσ H1=>H1=H/\σ=[some (.ref a),some (.int i),some (.int 0),none,none]) (λN hN=>?_) ?_
 ·subst_eqs
  exact hN _ _ ⟨rfl,rfl⟩
 rintro σ H1 ⟨rfl,rfl⟩;refine seq_cut (λσ H2=>H2=H1/\∃ c:Int,σ=[some (.ref a),some (.int i),some (.int c),none,none]) (λN hN=>?_) ?_
 ·subst_eqs
  refine ⟨_,.inl hS,ite2 (λhl=>?_) (λ_=>hN _ _ ⟨rfl,_,rfl⟩)⟩;obtain ⟨c,hc⟩:=at_script (ns:=ns) h0 (by simpa using hl)
  exact ⟨_,hS,_,hc,hN _ _ ⟨rfl,c,rfl⟩⟩
 rintro σ H2 ⟨rfl,c,rfl⟩;obtain ⟨pr,hpr,p1,p2⟩:=prime_at h0;refine seq_cut (λσ H3=>Same H2 H3/\σ=[some (.ref a),some (.int i),some (.int c),some (.int pr),none]) (λN hN=>?_) ?_
 ·subst_eqs
  exact ⟨by decide,λp hp=>⟨by decide,_,SqT.of upd_same,_,hpr,hN _ _ ⟨Same.new hp _,rfl⟩⟩⟩
 rintro σ H3 ⟨s1,rfl⟩;refine seq_cut (λσ H4=>H4=H3/\σ=[some (.ref a),some (.int i),some (.int c),some (.int pr),some (.int 0)]) (λN hN=>?_) ?_
 ·subst_eqs
  exact hN _ _ ⟨rfl,rfl⟩
 rintro σ H4 ⟨rfl,rfl⟩;refine seq_cut (λσ H5=>H5=H4/\∃ g:Int,0<=g/\σ=[some (.ref a),some (.int i),some (.int c),some (.int pr),some (.int g)]) (λN hN=>?_) ?_
 ·subst_eqs
  exact ⟨⟨by decide,by decide,by decide⟩,ite2 (λ_=>hN _ _ ⟨rfl,_,by split <;> omega,rfl⟩) (λ_=>hN _ _ ⟨rfl,_,Int.le_refl _,rfl⟩)⟩
 rintro σ H5 ⟨rfl,g,hg,rfl⟩
 subst_eqs
 have m0:=y0r c (show 0<pr by omega)
 have m1:=y0z c (show 0<pr by omega)
 refine ⟨⋯,mulS (by decide),⟨by decide,by decide,⋯⟩,⋯,by decide,λr hr'=>?_⟩
 refine k r _ (s1.trans (Same.new hr' _)) (s1.free hr') ⟨g,_,pr,upd_same,hg,y0r _ ⋯,?_,⋯,⋯⟩;have:=y0z ((c.fmod pr+65537*i+101) ^ (3:Int).toNat) (show 0<pr by omega)
 omega
abbrev s__law_draw:Stmt:=top 36
theorem sc__law_draw:FnScope ["_law_urn_here","_law_many","_law_drawn"] ["_law_urn_here","_law_many"] (defScope s__law_draw):=⟨rfl,rfl,rfl,by decide +kernel,rfl,by decide +kernel,by decide +kernel⟩
theorem ok__law_draw {f:Addr} (d:Df K mg "_law_draw" s__law_draw ["_law_urn_here","_law_many"] f):Def P w K mg base CX0 1 "_law_draw" f ["_law_urn_here","_law_many"] spDraw:=by
  refine d.ok (N:=["_law_urn_here","_law_many","_law_drawn"]) sc__law_draw (λvs H Q E ⟨x,y,h,_⟩=>by rw [h];rfl) (λcdv A outer s H vs Q E hr h=>?_)
  obtain ⟨u,n,rfl,⟨g,m,p,hu,g0,m0,m1,p0,p1⟩,n0,n1,k⟩:=h
  refine ⟨_, (pss_cons (ps_if (pt_cmpR op_gt (pe_ix ix_list (pv 0) pe_int (fun _ _ => rfl)) pe_int (nomark _)) (pss_cons (ps_set (i := 2) sc__law_draw.nd rfl (Or.inl rfl) (pe_op op_modN (pe_ix ix_list (pv 0) pe_int (fun _ _ => rfl)) (pv 1)))
      (pss_cons (ps_asg (pe_op op_fdivB (pe_ix ix_list (pv 0) pe_int (λ_ _=>rfl)) (pv 1)) (pg_sub (pv 0) pe_int set_list))
      (pss_one (ps_ret (pv 2))))) pss_nil)
      (pss_cons (ps_asg (pe_op op_modN (pe_op op_add (pe_op op_mulB (pe_ix ix_list (pv 0) pe_int (λ_ _=>rfl)) pe_int) pe_int) (pe_ix ix_list (pv 0) pe_int (λ_ _=>rfl))) (pg_sub (pv 0) pe_int set_list))
      (pss_one (ps_ret (pe_op op_modN (pe_op op_fdivB (pe_op op_modN (pe_op op_pow (pe_op op_fdivB (pe_ix ix_list (pv 0) pe_int (λ_ _=>rfl)) pe_int) pe_int) pe_int) pe_int) (pv 1)))))),?_⟩
  rw [show start ["_law_urn_here","_law_many","_law_drawn"] [.ref u,.int n]=[some (.ref u),some (.int n),none] from rfl]
  have L1:SqL K H u [.int g,.int m,.int p]:=SqL.of hu;have x0:∀ g m p:Int,atI [V.int g,.int m,.int p] 0=some (.int g):=λ_ _ _=>rfl;have x1:∀ g m p:Int,atI [V.int g,.int m,.int p] 1=some (.int m):=λ_ _ _=>rfl;have x2:∀ g m p:Int,atI [V.int g,.int m,.int p] 2=some (.int p):=λ_ _ _=>rfl
  subst_eqs
  have dn:∀ i,CDivB i n:=λi=>divOk ⋯ (Nat.lt_of_lt_of_le (show n.natAbs<2 ^ 40 by omega) (pow_le_pow2 (by decide)))
  refine ⟨_,L1,_,x0 g m p,_,rfl,ite2 (λhg=>?_) (λhg=>?_)⟩
  · refine ⟨_,L1,_,x0 g m p,_,rfl,⋯,_,L1,_,x0 g m p,_,rfl,dn _,_,hu,0,rfl,?_⟩
    exact k _ _ (Int.fmod_nonneg_of_pos _ n0) (Int.fmod_lt_of_pos _ n0) (SameX.upd _ _ _) ⟨g.fdiv n,m,p,upd_same,Int.fdiv_nonneg g0 ⋯,m0,m1,p0,p1⟩
  · have q0:=Int.fmod_nonneg_of_pos (m*60013+12289) p0
    have q1:=Int.fmod_lt_of_pos (m*60013+12289) p0;have z:SqL K (upd H u (.lst [.int g,.int ((m*60013+12289).fmod p),.int p])) u [.int g,.int ((m*60013+12289).fmod p),.int p]:=SqL.of upd_same
    have d16:0<=((m*60013+12289).fmod p).fdiv 16/\((m*60013+12289).fmod p).fdiv 16<2 ^ 40:=by
      rw [Int.fdiv_eq_ediv_of_nonneg _ (by decide)]
      omega
    refine ⟨_,L1,_,x1 g m p,_,rfl,mulS' (by decide),_,L1,_,x2 g m p,_,rfl,⋯,_,hu,1,rfl,_,z,_,x1 _ _ _,_,rfl,divOk (by decide) (Nat.lt_of_lt_of_le (show (16:Int).natAbs<2 ^ 40 by decide) (pow_le_pow2 (by decide))),⟨by decide,by decide,⋯⟩,by decide,divOk (by decide) (Nat.lt_of_lt_of_le (show (8:Int).natAbs<2 ^ 40 by decide) (pow_le_pow2 (by decide))),⋯,?_⟩
    exact k _ _ (Int.fmod_nonneg_of_pos _ n0) (Int.fmod_lt_of_pos _ n0) (SameX.upd _ _ _) ⟨g,_,p,upd_same,g0,q0,⋯,p0,p1⟩
abbrev s__law_number:Stmt:=top 41
theorem sc__law_number:FnScope ["_law_urn_here","_law_kind","_law_top"] ["_law_urn_here","_law_kind"] (defScope s__law_number):=⟨rfl,rfl,rfl,by decide +kernel,rfl,by decide +kernel,by decide +kernel⟩
abbrev s__law_whole:Stmt:=top 50
theorem sc__law_whole:FnScope ["_law_thing"] ["_law_thing"] (defScope s__law_whole):=⟨rfl,rfl,rfl,by decide +kernel,rfl,by decide +kernel,by decide +kernel⟩
theorem ok__law_whole {f:Addr} (d:Df K mg "_law_whole" s__law_whole ["_law_thing"] f) (n_isinstance:mg "isinstance" = none) (n_int:mg "int" = none) (n_bool:mg "bool" = none):Def P w K mg base CX0 1 "_law_whole" f ["_law_thing"] spWhole:=by
 refine d.ok (N:=["_law_thing"]) sc__law_whole (λvs H Q E ⟨u,h,_⟩=>by rw [h];rfl) (λcdv A outer s H vs Q E hr h=>?_)
 obtain ⟨i,rfl,k⟩:=h;refine ⟨_,(pss_one (ps_ret (pe_and (pe_callB call_isinst rfl n_isinstance (by decide +kernel) (pa_cons (pv 0) (pa_cons (pe_bltn (v:=.ty "int") rfl n_int (by decide +kernel) rfl) pa_nil))) (pe_one (pe_not (pe_callB call_isinst rfl n_isinstance (by decide +kernel) (pa_cons (pv 0) (pa_cons (pe_bltn (v:=.ty "bool") rfl n_bool (by decide +kernel) rfl) pa_nil)))))))),?_⟩
 rw [show start ["_law_thing"] [.int i]=[some (.int i)] from rfl]
 subst_eqs
 exact ⟨trivial,_,.of (.int i),_,kit_int_int,iteT ⟨trivial,_,.of (.int i),_,kit_int_bool,k⟩⟩
end
end R

set_option maxRecDepth 100000
namespace R
open PySem L2 PyProof.Rows
section
variable {P:Program} {w:World} {K:q0a} {mg:Str->Option Value} {base:Heap}
abbrev s__law_other:Stmt:=top 42
theorem sc__law_other:FnScope ["_law_urn_here","_law_kind","_law_found"] ["_law_urn_here","_law_kind"] (defScope s__law_other):=⟨rfl,rfl,rfl,by decide +kernel,rfl,by decide +kernel,by decide +kernel⟩
end
end R

set_option maxRecDepth 100000
namespace R
open PySem L2 PyProof.Rows
section
variable {P:Program} {w:World} {K:q0a} {mg:Str->Option Value} {base:Heap}
end
end R

set_option maxRecDepth 100000
namespace R
open PySem L2 PyProof.Rows
end R

set_option maxRecDepth 100000
namespace R
open PySem L2 PyProof.Rows
def hc (a:Nat->Rat) (i j:Nat):Rat:=if (i+j) % 2=1 then a i*a j else 0
def hf (a:Nat->Rat):Nat->Nat->Rat
 | 0,j=>hc a 0 (j+1)
 | i+1,j=>hc a (i+1) (j+1)-hf a i (j+1)
end R

set_option maxRecDepth 100000
namespace R
open PySem L2 PyProof.Rows
def pw (x:Rat):Nat->Rat
 | 0=>1
 | i+1=>pw x i*x
theorem sumTo_mul (c:Rat) (f:Nat->Rat):∀ n,c*sumTo f n=sumTo (λi=>c*f i) n
 | 0=>by simp [sumTo]
 | n+1=>by rw [sumTo,sumTo,<- sumTo_mul c f n];grind
theorem sumTo_add (f g:Nat->Rat):∀ n,sumTo f n+sumTo g n=sumTo (λi=>f i+g i) n
 | 0=>by simp [sumTo];grind
 | n+1=>by rw [sumTo,sumTo,sumTo,<- sumTo_add f g n];grind
def hR (a:Nat->Rat) (n i:Nat) (y:Rat):Rat:=sumTo (λj=>hf a i j*pw y j) n
def hC (a:Nat->Rat) (n i:Nat) (y:Rat):Rat:=sumTo (λj=>hc a i j*pw y j) (n+1)
def sg (i:Nat):Rat:=if i % 2=0 then 1 else -1
end R

set_option maxRecDepth 100000
namespace R
open PySem L2 PyProof.Rows
def OvB (B W:Nat) (q:Rat):Prop:=∃ v:Int,q=q0x v B/\v.natAbs<2 ^ W
theorem OvB.mono {B V W:Nat} {q:Rat} (h:OvB B V q) (l:V<=W):OvB B W q:=let ⟨v,e,b⟩:=h;⟨v,e,q0f b (pow_le_pow2 l)⟩
theorem OvB.zero (B W:Nat):OvB B W 0:=⟨0,by rw [Rat.zero_divInt],u0z _⟩
theorem OvB.mul {B C V W:Nat} {p q:Rat} (h:OvB B V p) (k:OvB C W q):OvB (B*C) (V+W) (p*q):=by
 obtain ⟨v,rfl,b⟩:=h;obtain ⟨u,rfl,c⟩:=k;refine ⟨v*u,by rw [v0b,j0c],?_⟩
 rw [z0g,j0d];exact j0h b c
theorem OvB.neg {B W:Nat} {q:Rat} (h:OvB B W q):OvB B W (-q):=by
 obtain ⟨v,rfl,b⟩:=h;exact ⟨-v,by rw [Rat.neg_divInt],by rw [Int.natAbs_neg];exact b⟩
theorem OvB.add {B W:Nat} (hB:0<B) {p q:Rat} (h:OvB B W p) (k:OvB B W q):OvB B (W+1) (p+q):=by
 obtain ⟨v,rfl,b⟩:=h;obtain ⟨u,rfl,c⟩:=k;refine ⟨v+u,?_,?_⟩
 ·have hz:(B:Int) ≠ 0:=⋯
  rw [u0r _ _ hz hz];refine (z0e (y0v hz hz) hz).mpr ?_
  grind
 ·have:=g0k v u
  rw [g0a];omega
theorem OvB.bdN {B W:Nat} (hB:0<B) (hW:B<2 ^ W) {q:Rat} (h:OvB B W q):BdN W q:=by
 obtain ⟨v,rfl,b⟩:=h;have:=divInt_le (t:=v) (b:=(B:Int)) ⋯;rw [q0v] at this;exact ⟨q0m this.1 b,q0m this.2 hW⟩
theorem dotQ_cons (x y:Rat) (p q:List Rat):dotQ (x :: p) (y :: q)=x*y+dotQ p q:=by
 unfold dotQ;rw [u0m,v0a,foldl_add];grind
theorem ovb_dot {B C V W:Nat} (hB:0<B) (hC:0<C):∀ {p q:List Rat},(∀ x ∈ p,OvB B V x)->(∀ x ∈ q,OvB C W x)->OvB (B*C) (V+W+p.length) (dotQ p q)
 | [],q,_,_=>by simp only [dotQ,List.zipWith_nil_left,List.foldl_nil];exact OvB.zero _ _
 | x :: p,[],_,_=>by simp only [dotQ,List.zipWith_nil_right,List.foldl_nil];exact OvB.zero _ _
 | x :: p,y :: q,h,k=>by
  rw [dotQ_cons];have ih:=ovb_dot hB hC (p:=p) (q:=q) (λa ha=>h a (z0d _ ha)) (λa ha=>k a (z0d _ ha));have h1:=(h x z0m).mul (k y z0m);exact ((h1.mono ⋯).add (y0u hB hC) ih).mono (by rw [z0j];omega)
def aQ (qs:List Rat) (k:Nat):Rat:=(qs[k]?).getD 0
def aZ (ws:List Int) (k:Nat):Int:=(ws[k]?).getD 0
theorem aZ_lt {ws:List Int} {W:Nat} (h:∀ v ∈ ws,j0u v<2 ^ W):∀ k,(aZ ws k).natAbs<2 ^ W:=λk=>by
 unfold aZ
 cases q:ws[k]? with
 | none=>exact u0z _
 | some v=>exact h v (q0g q)
end R

set_option maxRecDepth 100000
namespace R
open PySem L2 PyProof.Rows
def NK (kd:Int) (q:Rat):Prop:=if kd=2 then BdN 40 q else if kd=0 then OvB 60 10 q else OvB 1 4 q
theorem ov60 {t d:Int} (h1:1<=d) (h6:d<=6) (h:t.natAbs<=9):OvB 60 10 (q0x t d):=by
 have h0:d=1 \/ d=2 \/ d=3 \/ d=4 \/ d=5 \/ d=6:=⋯;rcases h0 with rfl | rfl | rfl | rfl | rfl | rfl
 ·exact ⟨t*60,(z0e (by decide) (by decide)).mpr ⋯,⋯⟩
 ·exact ⟨t*30,(z0e (by decide) (by decide)).mpr ⋯,⋯⟩
 ·exact ⟨t*20,(z0e (by decide) (by decide)).mpr ⋯,⋯⟩
 ·exact ⟨t*15,(z0e (by decide) (by decide)).mpr ⋯,⋯⟩
 ·exact ⟨t*12,(z0e (by decide) (by decide)).mpr ⋯,⋯⟩
 ·exact ⟨t*10,(z0e (by decide) (by decide)).mpr ⋯,⋯⟩
theorem ov1 {t:Int} (h:t.natAbs<=9):OvB 1 4 (q0x t 1):=⟨t,rfl,⋯⟩
theorem NK.ovb0 {q:Rat} (h:NK 0 q):OvB 60 10 q:=by unfold NK at h;rw [if_neg (by decide),if_pos rfl] at h;exact h
theorem NK.ovb1 {q:Rat} (h:NK 1 q):OvB 1 4 q:=by unfold NK at h;rw [if_neg (by decide),if_neg (by decide)] at h;exact h
theorem bd_of {t b:Int} (hb:b ≠ 0) (h1:t.natAbs<=9) (h2:b.natAbs<=7):BdN 4 (q0x t b):=by
 have:=divInt_le (t:=t) hb;exact ⟨q0m this.1 ⋯,q0m this.2 ⋯⟩
section
variable {P:Program} {w:World} {K:q0a} {mg:Str->Option Value} {base:Heap}
def spNumberC:Sp:=λvs H Q _ => ∃ u kd,vs=[.ref u,.int kd]/\UrnAt H u/\∀ r q H',NK kd q->SameX u H H'->UrnAt H' u->H' r=some (.tup (numV q))->Q (.ref r) H'
theorem okD__law_number {f fd fl:Addr} (d:Df K mg "_law_number" s__law_number ["_law_urn_here","_law_kind"] f) (G__law_draw:Def P w K mg base CX0 1 "_law_draw" fd ["_law_urn_here","_law_many"] spDraw) (G__law_low:Def P w K mg base CX0 1 "_law_low" fl ["_law_top","_law_bottom"] spLow) (n_int:mg "int" = none):Def P w K mg base CX0 2 "_law_number" f ["_law_urn_here","_law_kind"] spNumberC:=by
 refine d.ok (N:=["_law_urn_here","_law_kind","_law_top"]) sc__law_number (λvs H Q E ⟨u,kd,h,_⟩=>by rw [h];rfl) (λcdv A outer s H vs Q E hr h=>?_)
 obtain ⟨u,kd,rfl,hu,k⟩:=h
 refine ⟨_,(pss_cons (ps_if (pt_cmpR op_eq (pv 1) pe_int (nomark _)) (pss_cons (ps_set (i:=2) sc__law_number.nd rfl (q0w rfl) (pe_op op_add (pe_op op_mulB (pe_def G__law_draw hr (pa_cons (pv 0) (pa_cons (pe_op op_pow pe_int pe_int) pa_nil)) pass0) (pe_op op_pow pe_int pe_int)) (pe_def G__law_draw hr (pa_cons (pv 0) (pa_cons (pe_op op_pow pe_int pe_int) pa_nil)) pass0)))
   (pss_one (ps_ret (pe_def G__law_low hr (pa_cons (pe_op op_mulB (pv 2) (pe_ix ix_list (pe_lst (pa_cons pe_int (pa_cons (pe_un un_neg pe_int) pa_nil))) (pe_def G__law_draw hr (pa_cons (pv 0) (pa_cons pe_int pa_nil)) pass0) (λ_ _=>rfl))) (pa_cons (pe_op op_add pe_int (pe_op op_mulB (pe_def G__law_draw hr (pa_cons (pv 0) (pa_cons (pe_op op_pow pe_int pe_int) pa_nil)) pass0) (pe_op op_pow pe_int pe_int))) pa_nil)) pass0)))) pss_nil)
   (pss_one (ps_ret (pe_def G__law_low hr (pa_cons (pe_op op_sub (pe_def G__law_draw hr (pa_cons (pv 0) (pa_cons pe_int pa_nil)) pass0) pe_int) (pa_cons (pe_op op_add pe_int (pe_op op_mulB (pe_def G__law_draw hr (pa_cons (pv 0) (pa_cons pe_int pa_nil)) pass0) (pe_callTy call_int1 rfl n_int (by decide +kernel) (pa_cons (pe_cmpR op_eq (pv 1) pe_int (nomark _)) pa_nil)))) pa_nil)) pass0)))),?_⟩
 rw [show start ["_law_urn_here","_law_kind","_law_top"] [.ref u,.int kd]=[some (.ref u),some (.int kd),none] from rfl]
 have e10:(10:Int) ^ u0v 6=1000000:=by decide
 simp only [rLen,rSum,rLst,tComp_eq,tCompIf_eq,iZip,rRep,tSl,tPart,tNoPart,rSlL,rAppend,iEnum,capSt,z0b,y0c,j0r,j0s,j0t,tSeq,tIfS,tAnd,tOr,tNot,tTest,tB,tOp,tUn,tBM0,tBM,tVar,tC,tCB,tRet,tAsg,gName,gSub,gTup,gCons,gNil,tCons,tNil,tPar,tTup,tLst,tIf,tAndV,tOrV,tNotV,tDef,tDrop,tNext,tNever,rI,rI0,rU,rBitLen,rIxL,rIxT,rSetL,rEq,rNe,rCount,rIsI,rCat,iRng1,iRng2,iList,iTup,cxOf,Cx.nox,Cx.wish,z0q,z0r,j0a,j0b,Option.some.injEq,V.int.injEq,V.bl.injEq,V.ref.injEq,V.str.injEq,exists_eq_left',exists_eq_left,exists_and_left,true_and,and_true,List.cons.injEq,reduceCtorEq,z0s,if_false,if_true,exists_const,↓reduceIte,tyV,z0j,j0y,exists_eq,j0n,j0j,j0q,decide_eq_true_eq,not_true_eq_false,not_false_eq_true,z0v,decide_eq_false_iff_not,y0n,y0d,and_assoc,false_and,false_or,or_false,spDraw,scal];refine ite2 (λhk2=>?_) (λhk2=>?_)
 ·refine ⟨⟨by decide,by decide,by decide⟩,hu,by decide,by decide,λr2 H2 a2 b2 s2 u2=>?_⟩
  refine ⟨⟨by decide,by decide,by decide⟩,mulS' (by decide),⟨by decide,by decide,by decide⟩,u2,by decide,by decide,λr3 H3 a3 b3 s3 u3=>?_⟩
  refine ⟨by decide,λl hl=>⟨urn_new u3 hl,by decide,by decide,λr4 H4 a4 b4 s4 u4=>?_⟩⟩
  have e:=s4 l _ upd_same (urn_ne u3 hl);have b2':r2<1000000:=b2;have b3':r3<1000000:=b3;have sx:SameX u H H4:=s2.trans (s3.trans (SameX.trans (Same.x (Same.new hl _) u) s4))
  have fin:∀ sg:Int,sg=1 \/ sg=-1->(CPow 10 6/\UrnAt H4 u/\0<(10:Int) ^ u0v 6/\(10:Int) ^ u0v 6<2 ^ 40/\∀ (r:Int) (H':Hp),0<=r->r<10 ^ u0v 6->SameX u H4 H'->UrnAt H' u ->
    CPow 10 6/\IntMulOk r (10 ^ u0v 6)/\spLow [V.int ((r2*10 ^ u0v 6+r3)*sg),V.int (1+r*10 ^ u0v 6)] H' Q E0):=by
   intro sg hsg;refine ⟨⟨by decide,by decide,by decide⟩,u4,by decide,by decide,λr5 H5 a5 b5 s5 u5=>⟨⟨by decide,by decide,by decide⟩,mulS' (by decide),?_⟩⟩
   rw [e10] at b5 ⊢;refine ⟨_,_,rfl,⋯,q0f (show (1+r5*1000000).natAbs<2 ^ 64 by omega) (pow_le_pow2 (by decide)),λr H' sm hr'=>?_⟩
   refine k r _ H' (by unfold NK;rw [if_pos hk2];refine (sm_of ⋯ ?_ ⋯).bdN;rcases hsg with h | h <;> subst h <;> omega) (sx.trans (s5.trans (Same.x sm u))) (Same.urn sm u5) hr'
  have h3:r4=0 \/ r4=1:=⋯;rcases h3 with h | h <;> subst h
  ·exact ⟨_,SqL.of e,_,rfl,_,rfl,mulS' (by decide),fin 1 (.inl rfl)⟩
  ·exact ⟨_,SqL.of e,_,rfl,_,rfl,mulS' (by decide),fin (-1) (.inr rfl)⟩
 ·refine ⟨hu,by decide,by decide,λr2 H2 a2 b2 s2 u2=>⟨u2,by decide,by decide,λr3 H3 a3 b3 s3 u3=>⟨mulS ⋯,?_⟩⟩⟩
  have hz:∃ z:Int,z=r3*(if kd=0 then 1 else 0)/\0<=z/\z<=5/\(kd ≠ 0->z=0):=by
   refine ⟨_,rfl,?_,?_,?_⟩
   ·split <;> omega
   ·split <;> omega
   ·intro h;rw [if_neg h,Int.mul_zero]
  obtain ⟨z,ez,z0,z6,zk⟩:=hz;rw [<- ez];refine ⟨_,_,rfl,⋯,q0f (show (1+z).natAbs<2 ^ 64 by omega) (pow_le_pow2 (by decide)),λr H' sm hr'=>?_⟩
  exact k r _ H' (by
   unfold NK;rw [if_neg hk2]
   by_cases h0:kd=0
   ·rw [if_pos h0];exact ov60 ⋯ ⋯ ⋯
   ·rw [if_neg h0,zk h0];exact ov1 ⋯) (s2.trans (s3.trans (Same.x sm u))) (Same.urn sm u3) hr'
def spOtherC:Sp:=λvs H Q _ => ∃ u kd,vs=[.ref u,.int kd]/\UrnAt H u/\∀ r q H',NK kd q->q ≠ 0->SameX u H H'->UrnAt H' u->H' r=some (.tup (numV q))->Q (.ref r) H'
theorem okD__law_other {f fd fl:Addr} (d:Df K mg "_law_other" s__law_other ["_law_urn_here","_law_kind"] f) (G__law_draw:Def P w K mg base CX0 1 "_law_draw" fd ["_law_urn_here","_law_many"] spDraw) (GD__law_number:Def P w K mg base CX0 2 "_law_number" fl ["_law_urn_here","_law_kind"] spNumberC):Def P w K mg base CX0 3 "_law_other" f ["_law_urn_here","_law_kind"] spOtherC:=by
 refine d.ok (N:=["_law_urn_here","_law_kind","_law_found"]) sc__law_other (λvs H Q E ⟨u,kd,h,_⟩=>by rw [h];rfl) (λcdv A outer s H vs Q E hr h=>?_)
 obtain ⟨u,kd,rfl,hu,k⟩:=h;have G__law_number:=GD__law_number
 refine ⟨_,(pss_cons (ps_set (i:=2) sc__law_other.nd rfl (q0w rfl) (pe_def G__law_number hr (pa_cons (pv 0) (pa_cons (pv 1) pa_nil)) pass0))
   (pss_cons (ps_if (pt_cmpR op_eq (pe_ix ix_tup (pv 2) pe_int (λ_ _=>rfl)) pe_int (nomark _)) (pss_one (ps_ret (pe_tup (pa_cons (pe_op op_add pe_int (pe_def G__law_draw hr (pa_cons (pv 0) (pa_cons pe_int pa_nil)) pass0)) (pa_cons pe_int pa_nil))))) pss_nil)
   (pss_one (ps_ret (pv 2))))),?_⟩
 rw [show start ["_law_urn_here","_law_kind","_law_found"] [.ref u,.int kd]=[some (.ref u),some (.int kd),none] from rfl]
 clean_wf
 refine ⟨u,kd,rfl,hu,λr q H1 sm s1 u1 e1=>?_⟩;refine ⟨r,rfl,_,SqT.of e1,_,at0 q,rfl,ite2 (λ_=>?_) (λhn=>?_)⟩
 ·refine ⟨u1,by decide,by decide,λr2 H2 a2 b2 s2 u2=>⟨small2,λl hl=>?_⟩⟩
  have hd:=num_den_of (n:=1+r2) (d:=1) (by decide) (by simp)
  refine k l (q0x (1+r2) 1) _ (by
   unfold NK
   split
   ·exact (bd_of (by decide) ⋯ (by decide)).mono (by decide)
   ·split
    ·exact ov60 (by decide) (by decide) ⋯
    ·exact ov1 ⋯) ?_ (s1.trans (s2.trans (Same.x (Same.new hl _) u))) (urn_new u2 hl) ?_
  ·intro z
   rw [z] at hd;have:(0:Rat).num=0:=rfl;omega
  ·rw [upd_same]
   unfold numV;rw [hd.1,hd.2]
 ·refine k r q H1 sm (λz=>hn ?_) s1 u1 e1
  rw [z];rfl
end
end R

set_option maxRecDepth 100000
namespace R
open PySem L2 PyProof.Rows
def threeI:List D->Bool
 | [.v (.int _),.v (.int _),.v (.int _)]=>true
 | _=>false
mutual
def noW:D->Bool
 | .v _=>true
 | .tup ds=>noWs ds
 | .lst ds => !threeI ds && noWs ds
def noWs:List D->Bool
 | []=>true
 | d :: ds=>noW d && noWs ds
end
mutual
def smD (m:Nat):D->Prop
 | .v (.int i)=>i.natAbs<2 ^ m
 | .v _=>True
 | .tup ds=>smDs m ds
 | .lst ds=>smDs m ds
def smDs (m:Nat):List D->Prop
 | []=>True
 | d :: ds=>smD m d/\smDs m ds
end
def below (p q:Rat):Bool:=decide (p.num*(q.den:Int)<q.num*(p.den:Int))
structure IsBox (B:List (Rat × Rat)):Prop where
 l2:2<=B.length
 l8:B.length<=8
 le:∀ s ∈ B,s.1<=s.2
 last:∀ s,B[B.length-1]? = some s->0<s.1
end R

set_option maxRecDepth 100000
namespace R
open PySem L2 PyProof.Rows
def zs (t b a:Int):List Int->List Int
 | []=>[b*a]
 | x :: r=>(b*a+t*x) :: zs t b x r
structure MidN (n:Nat) (R:List Rat):Prop where
 ex:∃ (B:Nat) (ws:List Int),0<B/\B<2 ^ (40*n+1)/\R=scl (q0x 1 B) ws/\∀ v ∈ ws,j0u v<2 ^ (41*n+1)
 len:R.length=n+1
 last:R[n]? = some 1
inductive Spans (H:Hp):List V->List (Rat × Rat)->Prop where
 | nil:Spans H [] []
 | cons {p a b:Addr} {s:Rat × Rat} {vs:List V} {B:List (Rat × Rat)} (h:H p=some (.tup [.ref a,.ref b])) (ha:H a=some (.tup (numV s.1))) (hb:H b=some (.tup (numV s.2))) (t:Spans H vs B):Spans H (.ref p :: vs) (s :: B)
end R

set_option maxRecDepth 100000
namespace R
open PySem L2 PyProof.Rows
theorem ixN_of {n k:Nat} (h:k<n):ixN n (k:Int)=some k:=by
 unfold ixN;rw [if_pos ⋯]
 simp;omega
end R

set_option maxRecDepth 100000
namespace R
open PySem L2 PyProof.Rows
structure TbX (u:Addr) (H:Hp) (a:Addr) (ts:List Addr) (M:List (List Rat)):Prop where
 au:a ≠ u
 tu:∀ t ∈ ts,t ≠ u
 at':H a=some (.lst (ts.map V.ref))
 rws:Rws H ts M
structure LsX (u:Addr) (H:Hp) (a:Addr) (xs:List V) (qs:List Rat):Prop where
 au:a ≠ u
 at':H a=some (.lst xs)
 nums:Nums H xs qs
theorem LsX.samex {u a:Addr} {H H':Hp} {xs:List V} {qs:List Rat} (t:LsX u H a xs qs) (s:SameX u H H') (hu:UrnAt H u):LsX u H' a xs qs:=⟨t.au,s _ _ t.at' t.au,t.nums.mono (s.tups hu)⟩
theorem LsX.same {u a:Addr} {H H':Hp} {xs:List V} {qs:List Rat} (t:LsX u H a xs qs) (s:Same H H'):LsX u H' a xs qs:=⟨t.au,s _ _ t.at',t.nums.mono s.tups⟩
end R

set_option maxRecDepth 100000
namespace R
open PySem L2 PyProof.Rows
theorem dotQ_app {p q:List Rat} (h:p.length=q.length) (x y:Rat):dotQ (p ++ [x]) (q ++ [y])=dotQ p q+x*y:=by
 unfold dotQ;rw [m0w h,List.foldl_append];rfl
theorem dot_range (f g:Nat->Rat):∀ n,dotQ ((q0z n).map f) ((q0z n).map g)=sumTo (λi=>f i*g i) n
 | 0=>rfl
 | n+1=>by
  rw [m0c,y0q,y0q];simp only [z0b,y0c];rw [dotQ_app (by simp),dot_range f g n];rfl
end R

set_option maxRecDepth 100000
namespace R
open PySem L2 PyProof.Rows
def cv (f g:Nat->Rat) (k:Nat):Rat:=sumTo (λi=>f i*g (k-i)) (k+1)
theorem sumTo_single (g:Nat->Rat) (t:Nat):∀ n,sumTo (λi=>if i=t then g i else 0) n=if t<n then g t else 0
 | 0=>by rw [if_neg ⋯];rfl
 | n+1=>by
  rw [sumTo,sumTo_single g t n]
  by_cases h:t<n
  ·rw [if_pos h,if_neg ⋯,if_pos ⋯];grind
  ·by_cases h2:n=t
   ·rw [if_neg h,if_pos h2,if_pos ⋯,h2];grind
   ·rw [if_neg h,if_neg h2,if_neg ⋯];grind
def zc (ws:List Int) (k:Nat):Rat:=(aZ ws k:Rat)
structure IsTz (ws:List Int) (m:Nat):Prop where
 le:m<=ws.length
 zero:∀ i v,m<=i->ws[i]? = some v->v=0
 last:m ≠ 0->∀ v,ws[m-1]? = some v->v ≠ 0
end R

set_option maxRecDepth 100000
namespace R
open PySem L2 PyProof.Rows
theorem OvB.up {B W:Nat} {q:Rat} (h:OvB B W q) (hB:0<B) {C c:Nat} (hC:0<C) (hc:C<2 ^ c):OvB (B*C) (W+c) q:=by
 obtain ⟨v,rfl,b⟩:=h;refine ⟨v*C,?_,?_⟩
 ·rw [j0c]
  refine (z0e ⋯ (y0v ⋯ ⋯)).mpr ?_
  grind
 ·rw [z0g,q0v,j0d]
  exact j0h b hc
theorem cl_of_ovb {B W:Nat} (hB:0<B) (hW:B<2 ^ W) {qs:List Rat} (h:∀ x ∈ qs,OvB B W x):ClN W qs:=by
 have:∃ vs:List Int,qs=scl (q0x 1 B) vs/\∀ v ∈ vs,j0u v<2 ^ W:=by
  induction qs with
  | nil=>exact ⟨[],rfl,by simp⟩
  | cons q qs ih =>
   obtain ⟨vs,e,hv⟩:=ih λx hx=>h x (z0d _ hx);obtain ⟨v,e2,b⟩:=h q z0m;refine ⟨v :: vs,?_,λu hu=>?_⟩
   ·rw [e]
    show q :: _=(q0x 1 B*(v:Rat)) :: _;rw [one_over,<- e2];rfl
   ·rcases j0v.mp hu with z | z
    ·rw [z];exact b
    ·exact hv u z
 obtain ⟨vs,rfl,hv⟩:=this;exact cl_of_scl hB hW hv
theorem mem_aQ {qs:List Rat} {x:Rat} (h:x ∈ qs):∃ k,k<qs.length/\x=aQ qs k:=by
 obtain ⟨k,hk⟩:=u0u.mp h;refine ⟨k,(q0d.mp hk).1,?_⟩;unfold aQ;rw [hk];rfl
def DueOk (u:Addr) (H:Hp) (v:V) (ps qs:List Rat):Prop:=v=.non \/ ∃ td l1 l2 zs1 zs2 g0 g1,v=.ref td/\td ≠ u/\H td=some (.tup [.ref l1,.ref l2])/\LsX u H l1 zs1 g0/\LsX u H l2 zs2 g1/\IsTl g0 g0.length/\IsTl g1 g1.length/\g1.length<qs.length/\∀ k,aQ ps k=cv (aQ qs) (aQ g0) k+aQ g1 k
structure PairOk (u:Addr) (H:Hp) (ap aq:Addr) (due:V) (xs ys:List V) (ps qs:List Rat) (S W1 W2:Nat):Prop where
 lp:LsX u H ap xs ps
 lq:LsX u H aq ys qs
 tp:IsTl ps ps.length
 tq:IsTl qs qs.length
 q0:qs ≠ []
 c1:ClN W1 ps
 c2:ClN W2 qs
 w1:1<=W1
 w2:1<=W2
 w3:W2<=690
 t:W1+S*(W2+1)+W2<=2300
 s:ps.length+1<=qs.length+S
 pl:ps.length<=16
 ql:qs.length<=16
 due:DueOk u H due ps qs
end R

set_option maxRecDepth 100000
namespace R
open PySem L2 PyProof.Rows
def mA (a b:Rat) (f:Nat->Rat):Nat->Rat
 | 0=>a*f 0
 | k+1=>a*f (k+1)+b*f k
def dl:Nat->Rat:=λk=>if k=0 then 1 else 0
end R

set_option maxRecDepth 100000
namespace R
open PySem L2 PyProof.Rows
theorem php:∀ (m n:Nat) (f:Nat->Nat),(∀ i,i<n->f i<m)->m<n->∃ i j,i<j/\j<n/\f i=f j
 | 0,n,f,hf,h=>absurd (hf 0 h) ⋯
 | m+1,0,f,hf,h=>⋯
 | m+1,n+1,f,hf,h=>by
  by_cases c:∃ i,i<n/\f i=f n
  ·obtain ⟨i,hi,e⟩:=c
   exact ⟨i,n,hi,⋯,e⟩
  ·have hn:=hf n ⋯
   have ne:∀ i,i<n->f i ≠ f n:=λi hi e=>c ⟨i,hi,e⟩
   obtain ⟨i,j,h1,h2,h3⟩:=php m n (λi=>if f i<f n then f i else f i-1) (λi hi=>by
    have:=hf i ⋯;have:=ne i hi
    show (if f i<f n then f i else f i-1)<m
    split <;> omega) ⋯
   refine ⟨i,j,h1,⋯,?_⟩;have a:=ne i ⋯;have b:=ne j h2
   split at h3 <;> split at h3 <;> omega
def cod (b:Nat) (y:Nat->Nat):Nat->Nat
 | 0=>0
 | M+1=>y 0+b*cod b (λe=>y (e+1)) M
def dig (b t:Nat):Nat->Nat
 | 0=>t % b
 | i+1=>dig b (t / b) i
theorem dig_lt {b:Nat} (hb:0<b):∀ i t,dig b t i<b
 | 0,t=>Nat.mod_lt _ hb
 | i+1,t=>dig_lt hb i (t / b)
theorem cod_dig {b:Nat} (hb:0<b):∀ N t,t<b ^ N->cod b (dig b t) N=t
 | 0,t,h=>by simp at h;rw [h];rfl
 | N+1,t,h=>by
  have h1:t / b<b ^ N:=by rw [g0a] at h;exact Nat.div_lt_of_lt_mul (by rw [u0e];exact h)
  have ih:=cod_dig hb N (t / b) h1
  show t % b+b*cod b (dig b (t / b)) N=t;rw [ih];exact Nat.mod_add_div t b
theorem cod_lt {b:Nat}:∀ M (y:Nat->Nat),(∀ e,e<M->y e<b)->cod b y M<b ^ M
 | 0,y,h=>by simp [cod]
 | M+1,y,h=>by
  have ih:=cod_lt M (λe=>y (e+1)) λe he=>h (e+1) ⋯;have h0:=h 0 ⋯
  show y 0+b*cod b (λe=>y (e+1)) M<b ^ (M+1);rw [g0a,u0e (b ^ M)];have:b*(cod b (λe=>y (e+1)) M+1)<=b*b ^ M:=v0m _ ih;rw [q1c] at this;omega
theorem cod_inj {b:Nat} (hb:0<b):∀ M (y z:Nat->Nat),(∀ e,e<M->y e<b)->(∀ e,e<M->z e<b)->cod b y M=cod b z M->∀ e,e<M->y e=z e
 | 0,_,_,_,_,_,e,he=>⋯
 | M+1,y,z,hy,hz,h,e,he=>by
  have h':y 0+b*cod b (λe=>y (e+1)) M=z 0+b*cod b (λe=>z (e+1)) M:=h;have y0:=hy 0 ⋯;have z0:=hz 0 ⋯;have m1:=congrArg (· % b) h'
  simp only [Nat.add_mul_mod_self_left,Nat.mod_eq_of_lt y0,Nat.mod_eq_of_lt z0] at m1
  have m2:cod b (λe=>y (e+1)) M=cod b (λe=>z (e+1)) M:=by
   rw [m1] at h';exact g0p hb ⋯
  cases e with
  | zero=>exact m1
  | succ e=>exact cod_inj hb M (λe=>y (e+1)) (λe=>z (e+1)) (λe he=>hy (e+1) ⋯) (λe he=>hz (e+1) ⋯) m2 e ⋯
def sZ (f:Nat->Int):Nat->Int
 | 0=>0
 | n+1=>sZ f n+f n
theorem sZ_sub (f g:Nat->Int):∀ n,sZ (λi=>f i-g i) n=sZ f n-sZ g n
 | 0=>rfl
 | n+1=>by rw [sZ,sZ_sub f g n,sZ,sZ];omega
theorem sZ_congr {f g:Nat->Int}:∀ {n},(∀ i,i<n->f i=g i)->sZ f n=sZ g n
 | 0,_=>rfl
 | n+1,h=>by rw [sZ,sZ,sZ_congr λi hi=>h i ⋯,h n ⋯]
theorem sZ_le {f:Nat->Int} {C:Nat}:∀ {n},(∀ i,i<n->(f i).natAbs<=C)->(sZ f n).natAbs<=n*C
 | 0,_=>by simp [sZ]
 | n+1,h=>by
  have ih:=sZ_le (n:=n) λi hi=>h i ⋯;have h1:=h n ⋯;rw [sZ,m0y];omega
theorem siegel (A:Nat->Nat->Int) {M N B:Nat} (hA:∀ e,e<M->∀ i,i<N->(A e i).natAbs<=B) (hN:M<N) (hB:1<=B) :
  ∃ d:Nat->Int,(∃ i,i<N/\d i ≠ 0)/\(∀ i,i<N->(d i).natAbs<=(2*N*B) ^ M)/\∀ e,e<M->sZ (λi=>A e i*d i) N=0:=by
 obtain ⟨c,hc⟩:∃ c,c=2*N*B:=⟨_,rfl⟩
 have c1:1<=c:=by
  rw [hc];have:1*1<=2*N*B:=y0e ⋯ hB;omega
 obtain ⟨X,hX⟩:∃ X,X=c ^ M:=⟨_,rfl⟩;have hb:0<c*(X+1):=y0u ⋯ ⋯;obtain ⟨L,hL⟩:∃ L:Nat->Nat->Int,∀ t e,L t e=sZ (λi=>A e i*(dig (X+1) t i:Int)) N:=⟨_,λ_ _=>rfl⟩
 have Lb:∀ t e,e<M->(L t e).natAbs<=N*(B*X):=λt e he=>by
  rw [hL];refine sZ_le λi hi=>?_;rw [z0g,q0v];have:=dig_lt (b:=X+1) ⋯ i t;exact y0e (hA e he i hi) ⋯
 have yb:∀ t e,e<M->(L t e+(N*(B*X):Nat)).toNat<c*(X+1):=λt e he=>by
  have:=Lb t e he
  have e1:c*(X+1)=2*(N*(B*X))+c:=by
   rw [hc,q1c,Nat.mul_one];have:2*N*B*X=2*(N*(B*X)):=by rw [m0t,m0t]
   omega
  omega
 have big:(c*(X+1)) ^ M<(X+1) ^ N:=by
  rw [Nat.mul_pow];have h1:c ^ M*(X+1) ^ M<(X+1)*(X+1) ^ M:=Nat.mul_lt_mul_of_pos_right ⋯ (Nat.pow_pos ⋯);have h2:(X+1)*(X+1) ^ M=(X+1) ^ (M+1):=by rw [g0a,u0e]
  have h3:(X+1) ^ (M+1)<=(X+1) ^ N:=v0w ⋯ ⋯;omega
 obtain ⟨t1,t2,h12,h2n,he⟩:=php _ _ (λt=>cod (c*(X+1)) (λe=>(L t e+(N*(B*X):Nat)).toNat) M) (λt _=>cod_lt M _ λe he=>yb t e he) big
 have heq:∀ e,e<M->L t1 e=L t2 e:=λe hee=>by
  have:=cod_inj hb M _ _ (λe he=>yb t1 e he) (λe he=>yb t2 e he) he e hee;have b1:=Lb t1 e hee;have b2:=Lb t2 e hee;omega
 refine ⟨λi=>(dig (X+1) t1 i:Int)-(dig (X+1) t2 i:Int),?_,λi hi=>?_,λe hee=>?_⟩
 ·refine Classical.byContradiction λz=>?_
  have alle:∀ i,i<N->dig (X+1) t1 i=dig (X+1) t2 i:=λi hi=>by
   refine Classical.byContradiction λw=>z ⟨i,hi,?_⟩
   show (dig (X+1) t1 i:Int)-(dig (X+1) t2 i:Int) ≠ 0;omega
  have cc:∀ (N:Nat) (y z:Nat->Nat),(∀ i,i<N->y i=z i)->cod (X+1) y N=cod (X+1) z N:=by
   intro N
   induction N with
   | zero=>intro _ _ _;rfl
   | succ N ih=>intro y z h;show y 0+_*_=z 0+_*_;rw [h 0 ⋯,ih _ _ λi hi=>h (i+1) ⋯]
  have e1:=cod_dig (b:=X+1) ⋯ N t1 ⋯;have e2:=cod_dig (b:=X+1) ⋯ N t2 h2n;rw [cc N _ _ alle] at e1;omega
 ·have d1:=dig_lt (b:=X+1) ⋯ i t1
  have d2:=dig_lt (b:=X+1) ⋯ i t2
  show ((dig (X+1) t1 i:Int)-(dig (X+1) t2 i:Int)).natAbs<=(2*N*B) ^ M;rw [<- hc,<- hX];omega
 ·have:=heq e hee
  rw [hL,hL] at this;have e2:sZ (λi=>A e i*((dig (X+1) t1 i:Int)-(dig (X+1) t2 i:Int))) N=sZ (λi=>A e i*(dig (X+1) t1 i:Int)-A e i*(dig (X+1) t2 i:Int)) N:=sZ_congr λi _=>by rw [Int.mul_sub]
  rw [e2,sZ_sub,this];omega
end R

set_option maxRecDepth 100000
namespace R
open PySem L2 PyProof.Rows
def Dg (f:Nat->Rat) (n:Nat):Prop:=∀ k,n<=k->f k=0
structure Eu (p q A B:Nat->Rat) (lp lq la lb:Nat):Prop where
 inv:∀ m,m<la->∀ u v,Dg u (lq-m)->Dg v (lp-m)->Dg (λk=>cv u p k+cv v q k) m ->
  ∃ a b,(∀ k,cv u p k+cv v q k=cv a A k+cv b B k)/\Dg a (lb-m)/\Dg b (la-m)/\((∀ k,a k=0)->(∀ k,b k=0)->∀ k,u k=0/\v k=0)
 le:la<=max lp lq
theorem sumTo_split (f:Nat->Rat) (n:Nat):∀ m,sumTo f (n+m)=sumTo f n+sumTo (λi=>f (n+i)) m
 | 0=>by simp only [sumTo,Nat.add_zero];grind
 | m+1=>by rw [<- Nat.add_assoc,sumTo,sumTo_split f n m,sumTo];grind
theorem cast_sZ (f:Nat->Int):∀ n,((sZ f n:Int):Rat)=sumTo (λi=>(f i:Rat)) n
 | 0=>by simp [sZ,sumTo,v0y]
 | n+1=>by rw [sZ,sumTo,y0p,cast_sZ f n]
theorem dvd_gcdL {d:Nat}:∀ (ws:List Int) (c:Nat),d ∣ c->(∀ w ∈ ws,(d:Int) ∣ w)->d ∣ ws.foldl (λc w=>q0r w c) c
 | [],c,h,_=>h
 | w :: r,c,h,hw=>dvd_gcdL r _ (Int.dvd_gcd (hw w z0m) (by exact y0a.mpr h)) λx hx=>hw x (z0d _ hx)
end R

set_option maxRecDepth 100000
namespace R
open PySem L2 PyProof.Rows
theorem den_ex (h:Nat->Rat):∀ n,∃ D:Nat,0<D/\∀ k,k<n->∃ y:Int,(D:Rat)*h k=(y:Rat)
 | 0=>⟨1,⋯,λk hk=>⋯⟩
 | n+1=>by
  obtain ⟨D,D0,hD⟩:=den_ex h n;refine ⟨D*(h n).den,y0u D0 (h n).den_pos,λk hk=>?_⟩
  have hn:((h n).den:Rat)*h n=((h n).num:Rat):=by
   have h3:((h n).den:Rat) ≠ 0:=λw=>(h n).den_nz (Rat.natCast_inj.mp (by rw [w];rfl))
   have h4:h n=((h n).num:Rat) / ((h n).den:Rat):=by
    have:=j0z (h n);rw [u0j] at this;exact this.symm
   have h5:=z0w _ h3;rw [m0h] at h4;generalize ((h n).den:Rat)=y at *;generalize y⁻¹=z at *;generalize ((h n).num:Rat)=n at *
   grind
  by_cases e:k=n
  ·subst e
   exact ⟨(D:Int)*(h k).num,by rw [Rat.natCast_mul,q0s,<- hn,m0x];grind⟩
  ·obtain ⟨y,hy⟩:=hD k ⋯
   exact ⟨((h n).den:Int)*y,by rw [Rat.natCast_mul,q0s,<- hy,m0x];grind⟩
theorem icast_ne' {z:Int} (h:z ≠ 0):(z:Rat) ≠ 0:=λw=>h (v0c.mp (by rw [w,v0y]))
end R

set_option maxRecDepth 100000
namespace R
open PySem L2 PyProof.Rows
theorem int_top (A:Nat->Nat->Int) (N:Nat):∀ M,∃ B:Nat,1<=B/\∀ e,e<M->∀ i,i<N->(A e i).natAbs<=B
 | 0=>⟨1,q0n _,λe he=>⋯⟩
 | M+1=>by
  obtain ⟨B,b1,hB⟩:=int_top A N M
  obtain ⟨C,hC⟩:∃ C:Nat,∀ i,i<N->(A M i).natAbs<=C:=by
   have:∀ n,∃ C:Nat,∀ i,i<n->(A M i).natAbs<=C:=λn=>by
    induction n with
    | zero=>exact ⟨0,λi hi=>⋯⟩
    | succ n ih =>
     obtain ⟨C,h⟩:=ih;refine ⟨max C (A M n).natAbs,λi hi=>?_⟩;rcases z0x i n with y | y
     ·have:=h i y;omega
     ·rw [show i=n by omega];omega
   exact this N
  refine ⟨max B C,⋯,λe he i hi=>?_⟩;rcases z0x e M with y | y
  ·have:=hB e y i hi;omega
  ·rw [show e=M by omega];have:=hC i hi;omega
theorem kern (A:Nat->Nat->Rat) {M N:Nat} (h:M<N):∃ d:Nat->Rat,(∃ i,i<N/\d i ≠ 0)/\∀ e,e<M->sumTo (λi=>A e i*d i) N=0:=by
 have ex:∀ e,∃ (D:Nat) (y:Nat->Int),0<D/\∀ i,i<N->(D:Rat)*A e i=(y i:Rat):=λe=>by
  obtain ⟨D,D0,hD⟩:=den_ex (A e) N
  have:∀ i,∃ y:Int,i<N->(D:Rat)*A e i=(y:Rat):=λi=>by
   by_cases hi:i<N
   ·obtain ⟨y,hy⟩:=hD i hi
    exact ⟨y,λ_=>hy⟩
   ·exact ⟨0,λz=>absurd z hi⟩
  exact ⟨D,λi=>Classical.choose (this i),D0,λi hi=>Classical.choose_spec (this i) hi⟩
 obtain ⟨B,b1,hB⟩:=int_top (λe i=>Classical.choose (Classical.choose_spec (ex e)) i) N M;obtain ⟨d,⟨i,hi,di⟩,_,hz⟩:=siegel (λe i=>Classical.choose (Classical.choose_spec (ex e)) i) hB h b1;refine ⟨λi=>(d i:Rat),⟨i,hi,icast_ne' di⟩,λe he=>?_⟩;obtain ⟨D0,hD⟩:=Classical.choose_spec (Classical.choose_spec (ex e));have hz':=hz e he
 have Dn:((Classical.choose (ex e):Nat):Rat) ≠ 0:=λz=>by
  have z':((Classical.choose (ex e):Nat):Rat)=((0:Nat):Rat):=z;have:=Rat.natCast_inj.mp z';omega
 have key:((Classical.choose (ex e):Nat):Rat)*sumTo (λi=>A e i*(d i:Rat)) N=0:=by
  rw [sumTo_mul,sumTo_congr (g:=λi=>((Classical.choose (Classical.choose_spec (ex e)) i*d i:Int):Rat)) λi hi=>?_,<- cast_sZ,hz',v0y];rw [q0s,<- hD i hi];grind
 rcases j0g.mp key with y | y
 ·exact absurd y Dn
 ·exact y
theorem sq_nn (x:Rat):0<=x*x:=by
 rcases (Rat.le_total (a:=0) (b:=x)) with h | h
 ·exact v0v h h
 ·have h':0<=-x:=by grind
  have:=v0v h' h'
  grind
theorem sq_ps {x:Rat} (h:x ≠ 0):0<x*x:=by
 have h1:=sq_nn x;have h2:x*x ≠ 0:=λz=>by rcases j0g.mp z with y | y <;> exact h y
 grind
def lf (n:Nat) (c v:Nat->Rat):Rat:=sumTo (λi=>c i*v i) n
theorem pick_rows (p:Nat->Bool) (f:Nat->Nat->Rat):∀ n,∃ (rows:List (Nat->Rat)),rows.length=(q0z n).countP p/\∀ k,k<n->p k=true->f k ∈ rows
 | 0=>⟨[],rfl,λk hk=>⋯⟩
 | n+1=>by
  obtain ⟨rows,hl,h⟩:=pick_rows p f n
  by_cases hp:p n=true
  ·refine ⟨f n :: rows,?_,λk hk pk=>?_⟩
   ·rw [z0j,hl,m0c,List.countP_append];simp [hp]
   ·rcases z0x k n with y | y
    ·exact z0d _ (h k y pk)
    ·rw [show k=n by omega];exact z0m
  ·refine ⟨rows,?_,λk hk pk=>?_⟩
   ·rw [hl,m0c,List.countP_append];simp [hp]
   ·rcases z0x k n with y | y
    ·exact h k y pk
    ·rw [show k=n by omega] at pk;exact absurd pk hp
theorem sumTo_nonneg {f:Nat->Rat}:∀ n,(∀ i,i<n->0<=f i)->0<=sumTo f n
 | 0,_=>by show (0:Rat)<=0;decide
 | n+1,h=>by
  have h1:=sumTo_nonneg n λi hi=>h i ⋯;have h2:=h n ⋯
  show 0<=sumTo f n+f n
  grind
theorem sumTo_pos {f:Nat->Rat}:∀ n,(∀ i,i<n->0<=f i)->(∃ i,i<n/\0<f i)->0<sumTo f n
 | 0,_,⟨i,hi,_⟩=>⋯
 | n+1,h,⟨i,hi,p⟩=>by
  have h1:=sumTo_nonneg n λi hi=>h i ⋯;have h2:=h n ⋯
  show 0<sumTo f n+f n;rcases z0x i n with y | y
  ·have:=sumTo_pos n (λi hi=>h i ⋯) ⟨i,y,p⟩
   grind
  ·rw [show i=n by omega] at p
   grind
end R

set_option maxRecDepth 100000
namespace R
open PySem L2 PyProof.Rows
def sgd (i:Nat):Rat:=if i % 2=0 then 1 else -1
theorem sgd_succ (i:Nat):sgd (i+1)=- sgd i:=by
 unfold sgd;rcases Nat.mod_two_eq_zero_or_one i with h | h
 ·rw [if_pos h,if_neg ⋯]
 ·rw [if_pos (show (i+1) % 2=0 by omega),if_neg (show ¬ i % 2=0 by omega)];grind
abbrev Mt:=Nat->Nat->Rat
def mn (M:Mt) (i:Nat):Mt:=λr c=>M (if r<i then r else r+1) (c+1)
def dt:Nat->Mt->Rat
 | 0,_=>1
 | n+1,M=>sumTo (λi=>sgd i*M i 0*dt n (mn M i)) (n+1)
theorem dt_succ (n:Nat) (M:Mt):dt (n+1) M=sumTo (λi=>sgd i*M i 0*dt n (mn M i)) (n+1):=rfl
theorem dt_congr:∀ {n:Nat} {M N:Mt},(∀ r,r<n->∀ c,c<n->M r c=N r c)->dt n M=dt n N
 | 0,_,_,_=>rfl
 | n+1,M,N,h=>by
  rw [dt_succ,dt_succ];refine sumTo_congr λi hi=>?_;rw [h i hi 0 ⋯,dt_congr (n:=n) (M:=mn M i) (N:=mn N i) λr hr c hc=>h _ (by split <;> omega) _ ⋯]
def setR (M:Mt) (r:Nat) (v:Nat->Rat):Mt:=λi c=>if i=r then v c else M i c
theorem setR_self (M:Mt) (r:Nat):setR M r (M r)=M:=by
 funext i c
 unfold setR
 split
 ·rename_i h;rw [h]
 ·rfl
theorem mn_set_same (M:Mt) (r:Nat) (v:Nat->Rat):mn (setR M r v) r=mn M r:=by
 funext i c
 unfold mn setR;rw [if_neg (by split <;> omega)]
theorem mn_set_lt (M:Mt) {r i:Nat} (v:Nat->Rat) (h:r<i):mn (setR M r v) i=setR (mn M i) r (λc=>v (c+1)):=by
 funext a c
 unfold mn setR
 by_cases z:a=r
 ·rw [if_pos z,if_pos (by rw [z,if_pos h])]
 ·rw [if_neg z,if_neg (by split <;> omega)]
theorem mn_set_gt (M:Mt) {r i:Nat} (v:Nat->Rat) (h:i<r):mn (setR M r v) i=setR (mn M i) (r-1) (λc=>v (c+1)):=by
 funext a c
 unfold mn setR
 by_cases z:a=r-1
 ·rw [if_pos z,if_pos (by rw [z,if_neg ⋯];omega)]
 ·rw [if_neg z,if_neg (by split <;> omega)]
theorem dt_lin:∀ {n:Nat} (M:Mt) {r:Nat} (a b:Rat) (v w:Nat->Rat),r<n->dt n (setR M r λc=>a*v c+b*w c)=a*dt n (setR M r v)+b*dt n (setR M r w)
 | 0,_,_,_,_,_,_,h=>⋯
 | n+1,M,r,a,b,v,w,h=>by
  rw [dt_succ,dt_succ,dt_succ,sumTo_mul,sumTo_mul,sumTo_add];refine sumTo_congr λi hi=>?_;rcases Nat.lt_trichotomy r i with z | z | z
  ·rw [mn_set_lt M _ z,mn_set_lt M _ z,mn_set_lt M _ z,dt_lin (mn M i) a b _ _ ⋯]
   have:∀ u:Nat->Rat,setR M r u i 0=M i 0:=λu=>if_neg ⋯;rw [this,this,this];grind
  ·subst z
   rw [mn_set_same,mn_set_same,mn_set_same];have:∀ u:Nat->Rat,setR M r u r 0=u 0:=λu=>if_pos rfl;rw [this,this,this];grind
  ·rw [mn_set_gt M _ z,mn_set_gt M _ z,mn_set_gt M _ z,dt_lin (mn M i) a b _ _ ⋯]
   have:∀ u:Nat->Rat,setR M r u i 0=M i 0:=λu=>if_neg ⋯;rw [this,this,this];grind
theorem sum_two {f:Nat->Rat} {n r:Nat} (hr:r+1<n) (h:∀ i,i<n->i ≠ r->i ≠ r+1->f i=0):sumTo f n=f r+f (r+1):=by
 have:sumTo f n=sumTo (λi=>(if i=r then f r else 0)+(if i=r+1 then f (r+1) else 0)) n:=sumTo_congr λi hi=>by
  by_cases z:i=r
  ·rw [if_pos z,if_neg ⋯,z];grind
  ·by_cases y:i=r+1
   ·rw [if_neg z,if_pos y,y];grind
   ·rw [if_neg z,if_neg y,h i hi z y];grind
 rw [this,<- sumTo_add,sumTo_single (λ_=>f r),sumTo_single (λ_=>f (r+1)),if_pos ⋯,if_pos hr]
theorem dt_adj:∀ {n:Nat} {M:Mt} {r:Nat},r+1<n->(∀ c,M r c=M (r+1) c)->dt n M=0
 | 0,_,_,h,_=>⋯
 | n+1,M,r,h,e=>by
  rw [dt_succ];rw [sum_two h λi hi h1 h2=>?_]
  ·have:mn M r=mn M (r+1):=by
    funext a c
    unfold mn
    by_cases z:a=r
    ·rw [if_neg ⋯,if_pos ⋯,z,e]
    ·by_cases y:a<r
     ·rw [if_pos y,if_pos ⋯]
     ·rw [if_neg y,if_neg ⋯]
   rw [this,sgd_succ,e 0];grind
  ·have:dt n (mn M i)=0:=by
    by_cases z:i<r
    ·refine dt_adj (r:=r-1) ⋯ λc=>?_
     unfold mn;rw [if_neg ⋯,if_neg ⋯,show r-1+1=r by omega];exact e _
    ·refine dt_adj (r:=r) ⋯ λc=>?_
     unfold mn;rw [if_pos ⋯,if_pos ⋯];exact e _
   rw [this];grind
def swR (M:Mt) (r s:Nat):Mt:=λi c=>M (if i=r then s else if i=s then r else i) c
theorem set_comm (M:Mt) {r s:Nat} (h:r ≠ s) (v w:Nat->Rat):setR (setR M r v) s w=setR (setR M s w) r v:=by
 funext i c
 unfold setR
 by_cases z:i=s
 ·rw [if_pos z,if_neg ⋯,if_pos z]
 ·rw [if_neg z]
  by_cases y:i=r
  ·rw [if_pos y,if_pos y]
  ·rw [if_neg y,if_neg y,if_neg z]
theorem dt_add {n:Nat} (M:Mt) {r:Nat} (v w:Nat->Rat) (h:r<n):dt n (setR M r λc=>v c+w c)=dt n (setR M r v)+dt n (setR M r w):=by
 have:=dt_lin M 1 1 v w h;rw [show (λc=>v c+w c)=λc=>1*v c+1*w c by funext c;grind,this];grind
theorem dt_swap {n:Nat} {M:Mt} {r:Nat} (h:r+1<n):dt n (swR M r (r+1))=- dt n M:=by
 have e0:∀ v:Nat->Rat,dt n (setR (setR M r v) (r+1) v)=0:=λv=>dt_adj h λc=>by
  unfold setR;rw [if_neg ⋯,if_pos rfl,if_pos rfl]
 have e1:=e0 λc=>M r c+M (r+1) c
 have x1:∀ w:Nat->Rat,dt n (setR (setR M r λc=>M r c+M (r+1) c) (r+1) w)=dt n (setR (setR M (r+1) w) r (M r))+dt n (setR (setR M (r+1) w) r (M (r+1))):=λw=>by
  rw [set_comm _ ⋯,dt_add _ _ _ ⋯]
 rw [dt_add _ _ _ h,x1,x1] at e1;rw [show setR (setR M (r+1) (M r)) r (M r)=setR (setR M r (M r)) (r+1) (M r) from set_comm _ ⋯ _ _,e0] at e1;rw [show setR (setR M (r+1) (M (r+1))) r (M (r+1))=setR (setR M r (M (r+1))) (r+1) (M (r+1)) from set_comm _ ⋯ _ _,e0] at e1;have s1:setR (setR M (r+1) (M (r+1))) r (M r)=M:=by rw [setR_self,setR_self]
 have s2:setR (setR M (r+1) (M r)) r (M (r+1))=swR M r (r+1):=by
  funext i c
  unfold setR swR
  by_cases z:i=r
  ·rw [if_pos z,if_pos z]
  ·rw [if_neg z,if_neg z]
   by_cases y:i=r+1
   ·rw [if_pos y,if_pos y]
   ·rw [if_neg y,if_neg y]
 rw [s1,s2] at e1
 grind
theorem dt_alike {n:Nat}:∀ (d:Nat) {M:Mt} {r:Nat},r+d+1<n->(∀ c,M r c=M (r+d+1) c)->dt n M=0
 | 0,_,_,h,e=>dt_adj h e
 | d+1,M,r,h,e=>by
  have h1:=dt_swap (M:=M) (r:=r+d+1) (n:=n) ⋯
  have h2:dt n (swR M (r+d+1) (r+d+1+1))=0:=dt_alike d (r:=r) ⋯ λc=>by
   unfold swR;rw [if_neg ⋯,if_neg ⋯,if_pos rfl];exact e c
  rw [h2] at h1
  grind
theorem dt_eqrows {n:Nat} {M:Mt} {r s:Nat} (hr:r<n) (hs:s<n) (hn:r ≠ s) (e:∀ c,M r c=M s c):dt n M=0:=by
 rcases z0x r s with z | z
 ·exact dt_alike (s-r-1) (r:=r) ⋯ λc=>by rw [show r+(s-r-1)+1=s by omega];exact e c
 ·exact dt_alike (r-s-1) (r:=s) ⋯ λc=>by rw [show s+(r-s-1)+1=r by omega];exact (e c).symm
theorem dt_row {n:Nat} {M:Mt} {r s:Nat} (a b:Rat) (hr:r<n) (hs:s<n) (hn:r ≠ s):dt n (setR M r λc=>a*M r c+b*M s c)=a*dt n M:=by
 rw [dt_lin M a b (M r) (M s) hr,setR_self,dt_eqrows (M:=setR M r (M s)) hr hs hn λc=>by
  unfold setR;rw [if_pos rfl,if_neg ⋯]]
 grind
theorem dt_first {n:Nat} {M:Mt} (h:∀ i,0<i->i<n+1->M i 0=0):dt (n+1) M=M 0 0*dt n (mn M 0):=by
 rw [dt_succ]
 have:sumTo (λi=>sgd i*M i 0*dt n (mn M i)) (n+1)=sumTo (λi=>if i=0 then M 0 0*dt n (mn M 0) else 0) (n+1):=sumTo_congr λi hi=>by
  by_cases z:i=0
  ·rw [if_pos z,z]
   show sgd 0*_*_=_;unfold sgd;rw [if_pos (by decide)];grind
  ·rw [if_neg z,h i ⋯ hi];grind
 rw [this,sumTo_single (λ_=>M 0 0*dt n (mn M 0)),if_pos ⋯]
def IsI (q:Rat):Prop:=∃ z:Int,q=(z:Rat)
end R

set_option maxRecDepth 100000
namespace R
open PySem L2 PyProof.Rows
def hz (A B:Nat->Rat):Mt:=λi c=>if c<i / 2 then 0 else if i % 2=0 then B (c-i / 2) else A (c-i / 2)
def behind (A B:Nat->Rat):Nat->Rat:=λj=>B 0*A (j+1)-A 0*B (j+1)
def hm (A B:Nat->Rat) (m:Nat):Mt:=λi c=>if i % 2=1/\i<m then B 0*hz A B i c-A 0*hz A B (i-1) c else hz A B i c
end R

set_option maxRecDepth 100000
namespace R
open PySem L2 PyProof.Rows
theorem dt_elimS {n:Nat} (M:Mt) (t:Nat->Rat):∀ m,m<=n->dt (n+1) (λr c=>if 0<r/\r<=m then M r c-t r*M 0 c else M r c)=dt (n+1) M
 | 0,_=>dt_congr λr _ c _=>by rw [if_neg ⋯]
 | m+1,h=>by
  rw [<- dt_elimS M t m ⋯]
  have e:(λr c=>if 0<r/\r<=m+1 then M r c-t r*M 0 c else M r c)=setR (λr c=>if 0<r/\r<=m then M r c-t r*M 0 c else M r c) (m+1) λc=>1*(λr c=>if 0<r/\r<=m then M r c-t r*M 0 c else M r c) (m+1) c+(- t (m+1))*(λr c=>if 0<r/\r<=m then M r c-t r*M 0 c else M r c) 0 c:=by
   funext r c
   unfold setR
   by_cases y:r=m+1
   ·rw [if_pos y,y]
    show (if 0<m+1/\m+1<=m+1 then _ else _)=1*(if 0<m+1/\m+1<=m then _ else _) + - t (m+1)*(if 0<0/\0<=m then _ else _);rw [if_pos ⋯,if_neg ⋯,if_neg ⋯];grind
   ·rw [if_neg y]
    show (if 0<r/\r<=m+1 then M r c-t r*M 0 c else M r c)=if 0<r/\r<=m then M r c-t r*M 0 c else M r c
    by_cases x:0<r/\r<=m
    ·rw [if_pos x,if_pos ⋯]
    ·rw [if_neg x,if_neg ⋯]
  rw [e,dt_row 1 (- t (m+1)) ⋯ ⋯ ⋯];grind
theorem dt_elim {n:Nat} (M:Mt) (t:Nat->Rat):dt (n+1) (λr c=>if r=0 then M 0 c else M r c-t r*M 0 c)=dt (n+1) M:=by
 rw [<- dt_elimS M t n (q0n _)];refine dt_congr λr hr c _=>?_
 by_cases z:r=0
 ·rw [if_pos z,if_neg ⋯,z]
 ·rw [if_neg z,if_pos ⋯]
def red (B:Mt):Mt:=λr c=>B (r+1) (c+1)-B (r+1) 0*(B 0 0)⁻¹*B 0 (c+1)
theorem dt_red {n:Nat} (B:Mt) (h:B 0 0 ≠ 0):dt (n+1) B=B 0 0*dt n (red B):=by
 rw [<- dt_elim B λr=>B r 0*(B 0 0)⁻¹,dt_first λi h0 hi=>?_]
 ·rw [if_pos rfl]
  congr 1
 ·rw [if_neg ⋯]
  have:=z0w _ h;generalize (B 0 0)⁻¹=u at *
  grind
def bnd (B:Mt) (k i j:Nat):Mt:=λr c=>B (if r=k then i else r) (if c=k then j else c)
def mi (B:Mt) (k i j:Nat):Rat:=dt (k+1) (bnd B k i j)
theorem mi_zero (B:Mt) (i j:Nat):mi B 0 i j=B i j:=by
 unfold mi;rw [dt_succ]
 show (0:Rat)+sgd 0*bnd B 0 i j 0 0*1=_;rw [show sgd 0=1 from if_pos (by decide)]
 show (0:Rat)+1*B (if 0=0 then i else 0) (if 0=0 then j else 0)*1=_;rw [if_pos rfl,if_pos rfl];grind
theorem mi_self (B:Mt) (k:Nat):mi B k k k=dt (k+1) B:=by
 unfold mi
 congr 1
 funext r c
 unfold bnd
 congr 1
 ·split
  ·rename_i h;exact h.symm
  ·rfl
 ·split
  ·rename_i h;exact h.symm
  ·rfl
theorem mi_red (B:Mt) (h:B 0 0 ≠ 0) (k i j:Nat):mi B (k+1) (i+1) (j+1)=B 0 0*mi (red B) k i j:=by
 unfold mi
 have e0:bnd B (k+1) (i+1) (j+1) 0 0=B 0 0:=by
  unfold bnd;rw [if_neg ⋯,if_neg ⋯]
 rw [dt_red _ (by rw [e0];exact h),e0]
 congr 1
 refine dt_congr λr hr c hc=>?_;unfold red;rw [e0]
 have a1:bnd B (k+1) (i+1) (j+1) (r+1) (c+1)=B ((if r=k then i else r)+1) ((if c=k then j else c)+1):=by
  unfold bnd
  congr 1
  ·by_cases z:r=k
   ·rw [if_pos z,if_pos ⋯]
   ·rw [if_neg z,if_neg ⋯]
  ·by_cases z:c=k
   ·rw [if_pos z,if_pos ⋯]
   ·rw [if_neg z,if_neg ⋯]
 have a2:bnd B (k+1) (i+1) (j+1) (r+1) 0=B ((if r=k then i else r)+1) 0:=by
  unfold bnd;rw [if_neg (show ¬ 0=k+1 by omega)]
  congr 1
  by_cases z:r=k
  ·rw [if_pos z,if_pos ⋯]
  ·rw [if_neg z,if_neg ⋯]
 have a3:bnd B (k+1) (i+1) (j+1) 0 (c+1)=B 0 ((if c=k then j else c)+1):=by
  unfold bnd;rw [if_neg (show ¬ 0=k+1 by omega)]
  congr 1
  by_cases z:c=k
  ·rw [if_pos z,if_pos ⋯]
  ·rw [if_neg z,if_neg ⋯]
 rw [a1,a2,a3];rfl
theorem lead_red {B:Mt} {k:Nat} (h:∀ m,1<=m->m<=k+1->dt m B ≠ 0):B 0 0 ≠ 0/\∀ m,1<=m->m<=k->dt m (red B) ≠ 0:=by
 have b0:B 0 0 ≠ 0:=by
  have:=h 1 ⋯ ⋯;rw [<- mi_self B 0,mi_zero] at this;exact this
 refine ⟨b0,λm h1 h2 z=>?_⟩;have:=h (m+1) ⋯ ⋯;rw [dt_red B b0,z] at this;exact this (by grind)
theorem sylvester:∀ (k:Nat) (B:Mt),(∀ m,1<=m->m<=k->dt m B ≠ 0)->∀ i j,k<i->k<j->mi B k k k*mi B k i j-mi B k i k*mi B k k j=dt k B*mi B (k+1) i j
 | 0,B,_,i,j,hi,hj=>by
  rw [mi_zero,mi_zero,mi_zero,mi_zero]
  show _=1*mi B 1 i j;unfold mi;rw [dt_succ]
  have d1:∀ M:Mt,dt 1 M=M 0 0:=λM=>by
   rw [dt_succ]
   show (0:Rat)+sgd 0*M 0 0*1=_;rw [show sgd 0=1 from if_pos (by decide)];grind
  show _=1*((0:Rat)+sgd 0*bnd B 1 i j 0 0*dt 1 (mn (bnd B 1 i j) 0)+sgd 1*bnd B 1 i j 1 0*dt 1 (mn (bnd B 1 i j) 1));rw [d1,d1,show sgd 0=1 from if_pos (by decide),show sgd 1=-1 from if_neg (by decide)]
  show _=1*((0:Rat)+1*B 0 0*B i j + -1*B i 0*B 0 j)
  grind
 | k+1,B,h,i,j,hi,hj=>by
  obtain ⟨b0,hr⟩:=lead_red h;obtain ⟨i',rfl⟩:∃ i',i=i'+1:=⟨i-1,⋯⟩;obtain ⟨j',rfl⟩:∃ j',j=j'+1:=⟨j-1,⋯⟩;have ih:=sylvester k (red B) hr i' j' ⋯ ⋯;rw [mi_red B b0,mi_red B b0,mi_red B b0,mi_red B b0,mi_red B b0,dt_red B b0];generalize B 0 0=b at *;generalize mi (red B) k k k=x1 at *;generalize mi (red B) k i' j'=x2 at *;generalize mi (red B) k i' k=x3 at *;generalize mi (red B) k k j'=x4 at *;generalize mi (red B) (k+1) i' j'=x5 at *;generalize dt k (red B)=x6 at *
  grind
def swN (B:Mt) (r s:Nat):Mt:=λi c=>if i=r then B s c else if i=s then-B r c else B i c
theorem dt_swN {n:Nat} {B:Mt} {r s:Nat} (hr:r<n) (hs:s<n) (h:r ≠ s):dt n (swN B r s)=dt n B:=by
 -- row r plus row s;row s less row r;row r plus row s
 have e1:=dt_row (M:=B) (r:=r) (s:=s) 1 1 hr hs h;obtain ⟨B1,h1⟩:∃ B1,B1=setR B r λc=>1*B r c+1*B s c:=⟨_,rfl⟩;rw [<- h1] at e1;have e2:=dt_row (M:=B1) (r:=s) (s:=r) 1 (-1) hs hr (Ne.symm h);obtain ⟨B2,h2⟩:∃ B2,B2=setR B1 s λc=>1*B1 s c+(-1)*B1 r c:=⟨_,rfl⟩;rw [<- h2] at e2;have e3:=dt_row (M:=B2) (r:=r) (s:=s) 1 1 hr hs h
 have e:setR B2 r (λc=>1*B2 r c+1*B2 s c)=swN B r s:=by
  funext i c
  have v1r:∀ c,B1 r c=B r c+B s c:=λc=>by rw [h1];unfold setR;rw [if_pos rfl];grind
  have v1s:∀ c,B1 s c=B s c:=λc=>by rw [h1];unfold setR;rw [if_neg (Ne.symm h)]
  have v2s:∀ c,B2 s c=- B r c:=λc=>by rw [h2];unfold setR;rw [if_pos rfl];show 1*B1 s c + -1*B1 r c=_;rw [v1s,v1r];grind
  have v2r:∀ c,B2 r c=B r c+B s c:=λc=>by rw [h2];unfold setR;rw [if_neg h,v1r]
  unfold setR swN
  by_cases z:i=r
  ·rw [if_pos z,if_pos z]
   show 1*B2 r c+1*B2 s c=_;rw [v2r,v2s];grind
  ·rw [if_neg z,if_neg z]
   by_cases y:i=s
   ·rw [if_pos y,y,v2s]
   ·rw [if_neg y,h2]
    unfold setR;rw [if_neg y,h1];unfold setR;rw [if_neg z]
 rw [<- e,e3,e2,e1];grind
end R

set_option maxRecDepth 100000
namespace R
open PySem L2 PyProof.Rows
structure Pos (n:Nat) (g:Nat->Nat->Rat):Prop where
 p:∀ i,i<=n->0<g i 0
 s:∀ i,1<=i->i<n->∀ j,g i 0*g (i-1) j=g i 0*g (i+1) (j+1)-g (i+1) 0*g i (j+1)
 l:1<=n->∀ j,g 0 0*g 1 (j+1)-g 1 0*g 0 (j+1)=0
 z:∀ i j,i<=n->i<2*j->g i j=0
theorem dt_bits {W:Nat}:∀ {n:Nat} {M:Mt},n<=16->(∀ r c,∃ z:Int,M r c=(z:Rat)/\z.natAbs<2 ^ W)->∃ z:Int,dt n M=(z:Rat)/\z.natAbs<=2 ^ ((W+4)*n)
 | 0,_,_,_=>⟨1,rfl,by simp⟩
 | n+1,M,hn,h=>by
  have key:∀ m,m<=n+1->∃ z:Int,sumTo (λi=>sgd i*M i 0*dt n (mn M i)) m=(z:Rat)/\z.natAbs<=m*(2 ^ W*2 ^ ((W+4)*n)):=by
   intro m
   induction m with
   | zero=>intro _;exact ⟨0,rfl,by simp⟩
   | succ m ih =>
    intro hm;obtain ⟨z,e,b⟩:=ih ⋯;obtain ⟨x,ex,bx⟩:=h m 0;obtain ⟨y,ey,by'⟩:=dt_bits (n:=n) (M:=mn M m) ⋯ λr c=>h _ _
    obtain ⟨s,es,bs⟩:∃ s:Int,sgd m=(s:Rat)/\s.natAbs=1:=by
     unfold sgd
     split
     ·exact ⟨1,rfl,rfl⟩
     ·exact ⟨-1,by rw [Rat.intCast_neg];rfl,rfl⟩
    refine ⟨z+s*x*y,?_,?_⟩
    ·rw [sumTo,e,ex,ey,es,y0p,q0s,q0s]
    ·have h1:(s*x*y).natAbs<=2 ^ W*2 ^ ((W+4)*n):=by
      rw [z0g,z0g,bs,Nat.one_mul];exact y0e (v0g bx) by'
     have h2:=g0k z (s*x*y);rw [m0y];omega
  obtain ⟨z,e,b⟩:=key (n+1) (q0n _);refine ⟨z,by rw [dt_succ];exact e,q0y b ?_⟩
  have:(n+1)*(2 ^ W*2 ^ ((W+4)*n))<=2 ^ 4*(2 ^ W*2 ^ ((W+4)*n)):=v0z _ ⋯;refine q0y this ?_;rw [<- j0d,<- j0d];exact v0w (by decide) (by rw [g0u];omega)
end R

set_option maxRecDepth 100000
namespace R
open PySem L2 PyProof.Rows
inductive RwZ (H:Hp):List Addr->List (List Int)->Prop where
 | nil:RwZ H [] []
 | cons {p:Addr} {ps:List Addr} {L:List Int} {Ls:List (List Int)} (h:H p=some (.lst (L.map V.int))) (t:RwZ H ps Ls):RwZ H (p :: ps) (L :: Ls)
def zz (M:List (List Int)) (i j:Nat):Int:=aZ ((M[i]?).getD []) j
structure Eb (n:Nat) (A B:Mt) (at':Nat) (M:List (List Int)) (dv:Int):Prop where
 len:M.length=n
 row:∀ L ∈ M,L.length=n
 ent:∀ i j,at'<=i->i<n->at'<=j->j<n->((zz M i j:Int):Rat)=mi B at' i j
 zer:∀ i j,at'<=i->i<n->j<at'->zz M i j=0
 int:∀ r c,IsI (B r c)
 det:dt n B=dt n A
 led:∀ m,1<=m->m<=at'->dt m B ≠ 0
 div:((dv:Int):Rat)=dt at' B
section
variable {n:Nat} {A B:Mt} {k:Nat} {M M':List (List Int)} {dv:Int}
end
end R

set_option maxRecDepth 100000
namespace R
open PySem L2 PyProof.Rows
def swU (B:Mt) (r s:Nat):Mt:=λi c=>if i=r then B s c else if i=s then B r c else B i c
theorem dt_swU {n:Nat} {B:Mt} {r s:Nat} (hr:r<n) (hs:s<n) (h:r ≠ s):dt n (swU B r s)=- dt n B:=by
 have e:swN B r s=setR (swU B r s) s λc=>(-1)*swU B r s s c+0*swU B r s s c:=by
  funext i c
  show (if i=r then B s c else if i=s then-B r c else B i c)=if i=s then -1*(if s=r then B s c else if s=s then B r c else B s c)+0*(if s=r then B s c else if s=s then B r c else B s c) else (if i=r then B s c else if i=s then B r c else B i c)
  by_cases a:i=r
  ·rw [if_pos a,if_neg ⋯,if_pos a]
  ·rw [if_neg a,if_neg a]
   by_cases b:i=s
   ·rw [if_pos b,if_pos b,if_neg (Ne.symm h),if_pos rfl];grind
   ·rw [if_neg b,if_neg b,if_neg b]
 have k:=dt_swN (B:=B) hr hs h;rw [e,dt_lin _ (-1) 0 _ _ hs,setR_self] at k
 grind
def Sc (W:Nat) (B:Mt):Prop:=∃ b:Nat->Int,∀ r,0<b r/\(b r).natAbs<2 ^ W/\∀ c,∃ z:Int,((b r:Int):Rat)*B r c=(z:Rat)/\z.natAbs<2 ^ W
def qq (M:List (List Rat)) (i j:Nat):Rat:=aQ ((M[i]?).getD []) j
structure Ld (W n:Nat) (A B:Mt) (sg:Rat) (k:Nat) (M:List (List Rat)) (fd:Rat):Prop where
 len:M.length=n
 row:∀ L ∈ M,L.length=n
 ent:∀ i j,k<=i->i<n->k<=j->j<n->qq M i j*dt k B=mi B k i j
 zer:∀ i j,k<=i->i<n->j<k->qq M i j=0
 sc:Sc W B
 sgn:sg=1 \/ sg=-1
 det:dt n A=sg*dt n B
 led:∀ m,1<=m->m<=k->dt m B ≠ 0
 fnd:fd=sg*dt k B
section
variable {W n:Nat} {A B:Mt} {sg fd:Rat} {k:Nat} {M M':List (List Rat)}
end
end R

set_option maxRecDepth 100000
namespace L2
open PySem PySem.Spec PyProof.Rows
end L2
namespace R
open PySem L2 PyProof.Rows
theorem qq_set {M:List (List Rat)} {k:Nat} (hk:k<M.length) (L:List Rat) (i j:Nat):qq (M.set k L) i j=if i=k then aQ L j else qq M i j:=by
 unfold qq;rw [u0k]
 by_cases z:k=i
 ·rw [if_pos z,if_pos hk,if_pos z.symm];rfl
 ·rw [if_neg z,if_neg (Ne.symm z)]
end R

set_option maxRecDepth 100000
namespace R
open PySem L2 PyProof.Rows
theorem dt_nil_row' {n:Nat} {M:Mt} {r:Nat} (hr:r<n) (h:∀ c,c<n->M r c=0):dt n M=0:=by
 rw [dt_congr (N:=λi c=>if i=r then 0 else M i c) λi _ c hc=>?_]
 ·have e:(λi c=>if i=r then 0 else M i c)=setR M r λc=>0*M r c+0*M r c:=by
   funext i c
   unfold setR
   by_cases z:i=r
   ·rw [if_pos z,if_pos z];grind
   ·rw [if_neg z,if_neg z]
  rw [e,dt_lin M 0 0 _ _ hr];grind
 ·by_cases z:i=r
  ·rw [if_pos z,z,h c hc]
  ·rw [if_neg z]
structure Ew (n m:Nat) (A B:Mt) (k:Nat) (M:List (List Int)) (dv:Int):Prop where
 len:M.length=n
 row:∀ L ∈ M,L.length=m
 nm:n<=m
 ent:∀ i j,k<=i->i<n->k<=j->j<m->((zz M i j:Int):Rat)=mi B k i j
 zer:∀ i j,k<=i->i<n->j<k->zz M i j=0
 abv:∀ i j,i<k->k<=j->j<m->((zz M i j:Int):Rat)=mi B k (n+i) j
 dia:∀ i j,i<k->j<k->zz M i j=if i=j then dv else 0
 ext:∀ i c,B (n+i) c=if c=i then -1 else 0
 int:∀ r c,IsI (B r c)
 det:dt n B=dt n A
 led:∀ q,1<=q->q<=k->dt q B ≠ 0
 div:((dv:Int):Rat)=dt k B
section
variable {n m:Nat} {A B:Mt} {k:Nat} {M M':List (List Int)} {dv:Int}
end
end R

set_option maxRecDepth 100000
namespace R
open PySem L2 PyProof.Rows
theorem sumTo_comm (f:Nat->Nat->Rat) (m:Nat):∀ n,sumTo (λi=>sumTo (λj=>f i j) m) n=sumTo (λj=>sumTo (λi=>f i j) n) m
 | 0=>(sumTo_zero m λ_ _=>rfl).symm
 | n+1=>by
  show sumTo (λi=>sumTo (λj=>f i j) m) n+sumTo (λj=>f n j) m=sumTo (λj=>sumTo (λi=>f i j) n+f n j) m;rw [sumTo_comm f m n,sumTo_add]
theorem dt_comb {n:Nat} (Q:Mt) (x:Nat->Rat) {s:Nat} (hs:s<n):∀ q,q<=n->dt n (setR Q s λc=>sumTo (λj=>x j*Q j c) q)=if s<q then x s*dt n Q else 0
 | 0,_=>by
  rw [if_neg ⋯];exact dt_nil_row' (r:=s) hs λc _=>by unfold setR;rw [if_pos rfl];rfl
 | q+1,hq=>by
  have e:(λc=>sumTo (λj=>x j*Q j c) (q+1))=λc=>1*sumTo (λj=>x j*Q j c) q+x q*Q q c:=by
   funext c
   show sumTo _ q+x q*Q q c=_
   grind
  rw [e,dt_lin Q 1 (x q) _ _ hs,dt_comb Q x hs q ⋯]
  by_cases z:q=s
  ·rw [z,setR_self,if_neg ⋯,if_pos ⋯];grind
  ·rw [dt_eqrows (M:=setR Q s (Q q)) hs (show q<n by omega) (Ne.symm z) λc=>by unfold setR;rw [if_pos rfl,if_neg z]]
   by_cases y:s<q
   ·rw [if_pos y,if_pos ⋯];grind
   ·rw [if_neg y,if_neg ⋯];grind
theorem indep {n:Nat} {Q:Mt} (h:dt n Q ≠ 0) {x:Nat->Rat} (e:∀ c,c<n->sumTo (λj=>x j*Q j c) n=0) {s:Nat} (hs:s<n):x s=0:=by
 have h1:=dt_comb Q x hs n (q0n _);rw [if_pos hs,dt_nil_row' (r:=s) hs λc hc=>by unfold setR;rw [if_pos rfl];exact e c hc] at h1
 rcases j0g.mp h1.symm with z | z
 ·exact z
 ·exact absurd z h
def dij (i j:Nat):Rat:=if i=j then 1 else 0
theorem sum_dl (f:Nat->Rat) {n c:Nat} (hc:c<n):sumTo (λt=>f t*dij t c) n=f c:=by
 rw [sumTo_congr (g:=λt=>if t=c then f t else 0) λt _=>by unfold dij;split <;> grind,sumTo_single f c n,if_pos hc]
end R

set_option maxRecDepth 100000
namespace R
open PySem L2 PyProof.Rows
abbrev Vc:=Nat->Rat
theorem lf_lin (n:Nat) (a u w:Vc) (c:Rat):lf n a (λi=>u i+c*w i)=lf n a u+c*lf n a w:=by
 unfold lf;rw [sumTo_mul,sumTo_add];exact sumTo_congr λi _=>by grind
theorem lf_lin1 (n:Nat) (u w v:Vc) (c:Rat):lf n (λi=>u i+c*w i) v=lf n u v+c*lf n w v:=by
 unfold lf;rw [sumTo_mul,sumTo_add];exact sumTo_congr λi _=>by grind
def af (N:Nat) (A:Mt) (w:Vc):Vc:=λs=>lf N (A s) w
def bl (N:Nat) (A:Mt) (v w:Vc):Rat:=lf N v (af N A w)
theorem bl_lin1 (N:Nat) (A:Mt) (u w v:Vc) (c:Rat):bl N A (λi=>u i+c*w i) v=bl N A u v+c*bl N A w v:=lf_lin1 _ _ _ _ _
theorem bl_lin2 (N:Nat) (A:Mt) (v u w:Vc) (c:Rat):bl N A v (λi=>u i+c*w i)=bl N A v u+c*bl N A v w:=by
 unfold bl;rw [<- lf_lin]
 congr 1
 funext s
 exact lf_lin _ _ _ _ _
def Sy (N:Nat) (A:Mt):Prop:=∀ i,i<N->∀ j,j<N->A i j=A j i
theorem bl_sym {N:Nat} {A:Mt} (h:Sy N A) (u v:Vc):bl N A u v=bl N A v u:=by
 have e:∀ x y:Vc,bl N A x y=sumTo (λs=>sumTo (λt=>x s*(A s t*y t)) N) N:=λx y=>sumTo_congr λs _=>sumTo_mul _ _ _;rw [e,e,sumTo_comm];exact sumTo_congr λs hs=>sumTo_congr λt ht=>by rw [h t ht s hs];grind
def cmv (c:Vc) (x:Nat->Vc):Nat->Vc
 | 0=>λ_=>0
 | n+1=>λi=>cmv c x n i+c n*x n i
theorem cmv_f {φ:Vc->Rat} (h:∀ u w c,φ (λi=>u i+c*w i)=φ u+c*φ w) (c:Vc) (x:Nat->Vc):∀ n,φ (cmv c x n)=sumTo (λk=>c k*φ (x k)) n
 | 0=>by
  have h1:=h (λ_=>0) (λ_=>0) (-1);have e:(λ_:Nat=>(0:Rat) + -1*0)=λ_=>0:=funext λ_=>by grind
  rw [e] at h1
  show φ (λ_=>0)=0
  grind
 | n+1=>by
  show φ (λi=>cmv c x n i+c n*x n i)=sumTo _ n+_;rw [h,cmv_f h c x n]
theorem inert_le {N n m:Nat} {A:Mt} {x:Nat->Vc} {d b:Vc} {g:Nat->Vc} (ho:∀ i,i<n->∀ j,j<n->bl N A (x i) (x j)=if i=j then d i else 0) (h:∀ v,bl N A v v=sumTo (λk=>b k*(lf N (g k) v*lf N (g k) v)) m):(q0z n).countP (λk=>decide (0<d k))<=(q0z m).countP (λk=>decide (0<b k)):=by
 refine Classical.byContradiction λlt=>?_;obtain ⟨r1,l1,h1⟩:=pick_rows (λk => !decide (0<d k)) (λk i=>if i=k then 1 else 0) n;obtain ⟨r2,l2,h2⟩:=pick_rows (λk=>decide (0<b k)) (λk i=>lf N (g k) (x i)) m
 have cn:(q0z n).countP (λk => !decide (0<d k))+(q0z n).countP (λk=>decide (0<d k))=n:=by
  have:=List.length_eq_countP_add_countP (λk=>decide (0<d k)) (l:=q0z n);rw [z0h] at this
  have e:(λk=>decide ¬(decide (0<d k))=true)=λk => !decide (0<d k):=by
   funext k
   cases decide (0<d k) <;> rfl
  rw [e] at this;omega
 obtain ⟨c,⟨i,hi,ci⟩,hz⟩:=kern (λe=>((r1 ++ r2)[e]?).getD λ_=>0) (M:=(r1 ++ r2).length) (N:=n) (by rw [z0n];omega)
 have zero:∀ f ∈ r1 ++ r2,sumTo (λi=>f i*c i) n=0:=λf hf=>by
  obtain ⟨e,he⟩:=u0u.mp hf;have:=hz e (q0d.mp he).1;rw [he] at this;exact this
 have cz:∀ k,k<n->¬ 0<d k->c k=0:=λk hk nk=>by
  have:=zero _ (u0w _ (h1 k hk (by simp [nk])))
  have e:sumTo (λi=>(if i=k then (1:Rat) else 0)*c i) n=sumTo (λi=>if i=k then c i else 0) n:=sumTo_congr λi _=>by split <;> grind
  rw [e,sumTo_single,if_pos hk] at this;exact this
 have lin1:∀ w:Vc,∀ u v e,bl N A (λi=>u i+e*v i) w=bl N A u w+e*bl N A v w:=λw u v e=>bl_lin1 _ _ _ _ _ _;have lin2:∀ w:Vc,∀ u v e,bl N A w (λi=>u i+e*v i)=bl N A w u+e*bl N A w v:=λw u v e=>bl_lin2 _ _ _ _ _ _
 have q1:bl N A (cmv c x n) (cmv c x n)=sumTo (λk=>d k*(c k*c k)) n:=by
  rw [show bl N A (cmv c x n) (cmv c x n)=_ from cmv_f (φ:=λv=>bl N A v (cmv c x n)) (lin1 _) c x n];refine sumTo_congr λk hk=>?_;rw [show bl N A (x k) (cmv c x n)=_ from cmv_f (φ:=λv=>bl N A (x k) v) (lin2 _) c x n]
  have e:sumTo (λj=>c j*bl N A (x k) (x j)) n=sumTo (λj=>if j=k then c j*d k else 0) n:=sumTo_congr λj hj=>by
   rw [ho k hk j hj]
   by_cases z:j=k
   ·rw [if_pos z,if_pos z.symm]
   ·rw [if_neg z,if_neg (Ne.symm z)];grind
  rw [e,sumTo_single,if_pos hk];grind
 have pos:0<sumTo (λk=>d k*(c k*c k)) n:=sumTo_pos n (λk hk=>by
  by_cases p:0<d k
  ·exact v0v (Rat.le_of_lt p) (sq_nn _)
  ·rw [cz k hk p];grind) ⟨i,hi,by
  have p:0<d i:=Classical.byContradiction λp=>ci (cz i hi p);exact Rat.mul_pos p (sq_ps ci)⟩
 have neg:0<=sumTo (λk=>-(b k*(lf N (g k) (cmv c x n)*lf N (g k) (cmv c x n)))) m:=sumTo_nonneg m λk hk=>by
  by_cases p:0<b k
  ·have h3:=zero _ (q0k _ (h2 k hk (by simp [p])))
   have e:lf N (g k) (cmv c x n)=0:=by
    rw [show lf N (g k) (cmv c x n)=_ from cmv_f (φ:=λv=>lf N (g k) v) (λu w e=>lf_lin _ _ _ _ _) c x n,<- h3];exact sumTo_congr λi _=>by grind
   rw [e];grind
  ·have h1:0<=-(b k):=by grind
   have:=v0v h1 (sq_nn (lf N (g k) (cmv c x n)))
   grind
 have e:=sumTo_mul (-1) (λk=>b k*(lf N (g k) (cmv c x n)*lf N (g k) (cmv c x n))) m;have e2:sumTo (λk=>-(b k*(lf N (g k) (cmv c x n)*lf N (g k) (cmv c x n)))) m=sumTo (λk=>-1*(b k*(lf N (g k) (cmv c x n)*lf N (g k) (cmv c x n)))) m:=sumTo_congr λk _=>by grind
 rw [e2,<- e,<- h,q1] at neg
 grind
structure Frm (N:Nat) (A:Mt) (d:Vc):Prop where
 ex:∃ (x g:Nat->Vc),(∀ i,i<N->∀ j,j<N->bl N A (x i) (x j)=if i=j then d i else 0)/\∀ v,bl N A v v=sumTo (λk=>d k*(lf N (g k) v*lf N (g k) v)) N
def posN (d:Vc) (N:Nat):Nat:=(q0z N).countP λk=>decide (0<d k)
def negN (d:Vc) (N:Nat):Nat:=(q0z N).countP λk=>decide (d k<0)
theorem Frm.pos {N:Nat} {A:Mt} {d e:Vc} (h:Frm N A d) (k:Frm N A e):posN d N=posN e N:=by
 obtain ⟨x,g,ho,hq⟩:=h.ex;obtain ⟨y,f,ko,kq⟩:=k.ex;exact Nat.le_antisymm (inert_le ho kq) (inert_le ko hq)
def ngM (A:Mt):Mt:=λi j=>- A i j
theorem af_neg (N:Nat) (A:Mt) (w:Vc) (s:Nat):af N (ngM A) w s=- af N A w s:=by
 unfold af lf;have e:=sumTo_mul (-1) (λi=>A s i*w i) N;have e2:sumTo (λi=>ngM A s i*w i) N=sumTo (λi=>-1*(A s i*w i)) N:=sumTo_congr λi _=>by unfold ngM;grind
 rw [e2,<- e];grind
theorem bl_neg (N:Nat) (A:Mt) (v w:Vc):bl N (ngM A) v w=- bl N A v w:=by
 unfold bl lf;have e:=sumTo_mul (-1) (λi=>v i*af N A w i) N;have e2:sumTo (λi=>v i*af N (ngM A) w i) N=sumTo (λi=>-1*(v i*af N A w i)) N:=sumTo_congr λi _=>by rw [af_neg];grind
 rw [e2,<- e];grind
theorem Frm.neg {N:Nat} {A:Mt} {d:Vc} (h:Frm N A d):Frm N (ngM A) λk=>- d k:=by
 obtain ⟨x,g,ho,hq⟩:=h.ex;refine ⟨x,g,λi hi j hj=>?_,λv=>?_⟩
 ·rw [bl_neg,ho i hi j hj]
  split <;> grind
 ·rw [bl_neg,hq]
  have e:=sumTo_mul (-1) (λk=>d k*(lf N (g k) v*lf N (g k) v)) N;have e2:sumTo (λk=>- d k*(lf N (g k) v*lf N (g k) v)) N=sumTo (λk=>-1*(d k*(lf N (g k) v*lf N (g k) v))) N:=sumTo_congr λk _=>by grind
  rw [e2,<- e];grind
theorem neg_pos (d:Vc) (N:Nat):posN (λk=>- d k) N=negN d N:=by
 unfold posN negN
 congr 1
 funext k
 have:(0 < - d k)=(d k<0):=propext ⟨λh=>by grind,λh=>by grind⟩
 simp only [this]
theorem pos_neg (d:Vc) (N:Nat):negN (λk=>- d k) N=posN d N:=by
 unfold posN negN
 congr 1
 funext k
 have:(- d k<0)=(0<d k):=propext ⟨λh=>by grind,λh=>by grind⟩
 simp only [this]
theorem Frm.negs {N:Nat} {A:Mt} {d e:Vc} (h:Frm N A d) (k:Frm N A e):negN d N=negN e N:=by
 rw [<- neg_pos,<- neg_pos];exact h.neg.pos k.neg
section
variable (N:Nat) (A:Mt) (es:Nat->Vc)
def Pr:Nat->Vc->Vc
 | 0,v=>v
 | k+1,v=>λi=>Pr k v i + -(bl N A (Pr k v) (Pr k (es k))*(bl N A (Pr k (es k)) (Pr k (es k)))⁻¹)*Pr k (es k) i
def px (c:Nat):Vc:=Pr N A es c (es c)
def pd (c:Nat):Rat:=bl N A (px N A es c) (px N A es c)
variable {N A es}
theorem pr_succ (k:Nat) (v:Vc):Pr N A es (k+1) v=λi=>Pr N A es k v i + -(bl N A (Pr N A es k v) (px N A es k)*(pd N A es k)⁻¹)*px N A es k i:=rfl
theorem pr_lin:∀ (k:Nat) (u w:Vc) (c:Rat),Pr N A es k (λi=>u i+c*w i)=λi=>Pr N A es k u i+c*Pr N A es k w i
 | 0,_,_,_=>rfl
 | k+1,u,w,c=>by
  rw [pr_succ,pr_succ,pr_succ,pr_lin k u w c,bl_lin1]
  funext i
  grind
theorem pr_orth (hs:Sy N A):∀ (k:Nat),(∀ c,c<k->pd N A es c ≠ 0)->∀ v c,c<k->bl N A (Pr N A es k v) (px N A es c)=0
 | 0,_,_,_,h=>⋯
 | k+1,h,v,c,hc=>by
  rw [pr_succ,bl_lin1];rcases z0x c k with y | y
  ·rw [pr_orth hs k (λc hc=>h c ⋯) v c y]
   have:bl N A (px N A es k) (px N A es c)=0:=pr_orth hs k (λc hc=>h c ⋯) (es k) c y;rw [this];grind
  ·have:c=k:=⋯
   subst this;have hd:=z0w _ (h c ⋯)
   show _+_*pd N A es c=0;generalize (pd N A es c)⁻¹=i at *
   grind
theorem pr_same (hs:Sy N A) {z:Vc}:∀ (k:Nat),(∀ c,c<k->bl N A z (px N A es c)=0)->∀ v,bl N A z (Pr N A es k v)=bl N A z v
 | 0,_,_=>rfl
 | k+1,h,v=>by
  rw [pr_succ,bl_lin2,pr_same hs k (λc hc=>h c ⋯) v,h k ⋯];grind
theorem pr_bl (hs:Sy N A) {k:Nat} (h:∀ c,c<k->pd N A es c ≠ 0) (u v:Vc):bl N A (Pr N A es k u) v=bl N A (Pr N A es k u) (Pr N A es k v):=(pr_same hs k (λc hc=>pr_orth hs k h u c hc) v).symm
variable (N A es)
def bdM (s:Vc) (k:Nat) (v κ:Vc):Mt:=λr c=>lf N (λi=>if r<k then s r*es r i else v i) (if c<k then af N A (es c) else κ)
def gd (s:Vc) (k:Nat):Rat:=dt k λr c=>s r*bl N A (es r) (es c)
variable {N A es}
theorem lf_c1 (N:Nat) (c:Rat) (a v:Vc):lf N (λi=>c*a i) v=c*lf N a v:=by
 unfold lf;rw [sumTo_mul];exact sumTo_congr λi _=>by grind
theorem bordered (hs:Sy N A) (s:Vc):∀ (k:Nat),(∀ c,c<k->pd N A es c ≠ 0)->(∀ c,c<k->s c ≠ 0)->(∀ m,1<=m->m<=k->gd N A es s m ≠ 0)/\(∀ v κ,dt (k+1) (bdM N A es s k v κ)=gd N A es s k*lf N (Pr N A es k v) κ)/\∀ c,c<k->gd N A es s (c+1)=gd N A es s c*s c*pd N A es c
 | 0,_,_=>by
  refine ⟨λm h1 h2=>⋯,λv κ=>?_,λc h=>⋯⟩;rw [dt_succ]
  show (0:Rat)+sgd 0*bdM N A es s 0 v κ 0 0*1=1*_;rw [show sgd 0=1 from if_pos (by decide)]
  unfold bdM;rw [if_neg ⋯]
  show (0:Rat)+1*lf N (λi=>if 0<0 then s 0*es 0 i else v i) κ*1=1*lf N v κ;have e:(λi=>if 0<0 then s 0*es 0 i else v i)=v:=funext λi=>if_neg ⋯;rw [e];grind
 | k+1,hd,hn=>by
  obtain ⟨i1,i2,i3⟩:=bordered hs s k (λc hc=>hd c ⋯) (λc hc=>hn c ⋯);have hdk:∀ c,c<k->pd N A es c ≠ 0:=λc hc=>hd c ⋯;have hk:=hd k ⋯;have sk:=hn k ⋯
  have g0:gd N A es s k ≠ 0:=by
   rcases g0g k with z | z
   ·rw [z];show (1:Rat) ≠ 0;decide
   ·exact i1 k z (q0n _)
  -- the next one
  have gk:gd N A es s (k+1)=gd N A es s k*s k*pd N A es k:=by
   have h1:=i2 (λi=>s k*es k i) (af N A (es k))
   have e:dt (k+1) (bdM N A es s k (λi=>s k*es k i) (af N A (es k)))=gd N A es s (k+1):=dt_congr λr hr c hc=>by
    unfold bdM
    have e1:(λi=>if r<k then s r*es r i else s k*es k i)=λi=>s r*es r i:=funext λi=>by
     split
     ·rfl
     ·rw [show r=k by omega]
    have e2:(if c<k then af N A (es c) else af N A (es k))=af N A (es c):=by
     split
     ·rfl
     ·rw [show c=k by omega]
    rw [e1,e2,lf_c1];rfl
   rw [<- e,h1]
   have e3:Pr N A es k (λi=>s k*es k i)=λi=>s k*Pr N A es k (es k) i:=by
    have h0:=pr_lin (N:=N) (A:=A) (es:=es) k (λ_=>0) (es k) (s k)
    have hz:Pr N A es k (λ_=>0)=λ_=>0:=by
     have h2:=pr_lin (N:=N) (A:=A) (es:=es) k (λ_=>0) (λ_=>0) (-1);have e4:(λ_:Nat=>(0:Rat) + -1*0)=λ_=>0:=funext λ_=>by grind
     rw [e4] at h2
     funext i
     have:=congrFun h2 i
     grind
    rw [hz] at h0;have e5:(λi=>(0:Rat)+s k*es k i)=λi=>s k*es k i:=funext λi=>by grind
    rw [e5] at h0;rw [h0]
    funext i
    grind
   rw [e3,lf_c1];have e6:lf N (Pr N A es k (es k)) (af N A (es k))=pd N A es k:=pr_bl hs hdk (es k) (es k);rw [e6];grind
  refine ⟨λm h1 h2=>?_,λv κ=>?_,λc hc=>?_⟩
  ·rcases z0x m (k+1) with y | y
   ·exact i1 m h1 ⋯
   ·rw [show m=k+1 by omega,gk]
    exact λz=>by
     rcases j0g.mp z with y | y
     ·rcases j0g.mp y with w | w
      ·exact g0 w
      ·exact sk w
     ·exact hk y
  ·obtain ⟨B,hB⟩:∃ B,B=bdM N A es s (k+1) v κ:=⟨_,rfl⟩
   have lead:∀ m,m<=k+1->dt m B=gd N A es s m:=λm hm=>dt_congr λr hr c hc=>by
    rw [hB];unfold bdM;have e1:(λi=>if r<k+1 then s r*es r i else v i)=λi=>s r*es r i:=funext λi=>if_pos ⋯;rw [e1,if_pos ⋯,lf_c1];rfl
   have sy:=sylvester k B (λm h1 h2=>by rw [lead m ⋯];exact i1 m h1 h2) (k+1) (k+1) ⋯ ⋯
   have m1:mi B k k k=gd N A es s (k+1):=by rw [mi_self,lead _ (q0n _)]
   have row:∀ (i j:Nat),(i=k \/ i=k+1)->(j=k \/ j=k+1)->mi B k i j=dt (k+1) (bdM N A es s k (if i=k then λt=>s k*es k t else v) (if j=k then af N A (es k) else κ)):=λi j hi hj=>dt_congr λr hr c hc=>by
    rw [hB];unfold bnd bdM
    have e1:(λt=>if (if r=k then i else r)<k+1 then s (if r=k then i else r)*es (if r=k then i else r) t else v t)=λt=>if r<k then s r*es r t else (if i=k then λt=>s k*es k t else v) t:=funext λt=>by
     by_cases z:r=k
     ·simp only [if_pos z]
      rw [if_neg (show ¬ r<k by omega)]
      rcases hi with y | y
      ·rw [if_pos ⋯,if_pos y,y]
      ·rw [if_neg ⋯,if_neg ⋯]
     ·simp only [if_neg z]
      rw [if_pos ⋯,if_pos ⋯]
    have e2:(if (if c=k then j else c)<k+1 then af N A (es (if c=k then j else c)) else κ)=if c<k then af N A (es c) else (if j=k then af N A (es k) else κ):=by
     by_cases z:c=k
     ·simp only [if_pos z]
      rw [if_neg (show ¬ c<k by omega)]
      rcases hj with y | y
      ·rw [if_pos ⋯,if_pos y,y]
      ·rw [if_neg ⋯,if_neg ⋯]
     ·simp only [if_neg z]
      rw [if_pos ⋯,if_pos ⋯]
    rw [e1,e2]
   rw [m1,row (k+1) (k+1) (.inr rfl) (.inr rfl),row (k+1) k (.inr rfl) (.inl rfl),row k (k+1) (.inl rfl) (.inr rfl),mi_self,lead k ⋯] at sy;simp only [if_neg (show ¬ k+1=k by omega),if_true] at sy
   have e3:(λt=>s k*es k t)=λt=>(0:Rat)+s k*es k t:=funext λt=>by grind
   rw [i2,i2,i2] at sy
   have hz:Pr N A es k (λ_=>0)=λ_=>0:=by
    have h2:=pr_lin (N:=N) (A:=A) (es:=es) k (λ_=>0) (λ_=>0) (-1);have e4:(λ_:Nat=>(0:Rat) + -1*0)=λ_=>0:=funext λ_=>by grind
    rw [e4] at h2
    funext i
    have:=congrFun h2 i
    grind
   have h0:=pr_lin (N:=N) (A:=A) (es:=es) k (λ_=>0) (es k) (s k);rw [<- e3,hz] at h0;have e5:(λi=>(0:Rat)+s k*Pr N A es k (es k) i)=λi=>s k*px N A es k i:=funext λi=>by show _+_*px N A es k i=_;grind
   rw [e5] at h0;rw [h0,lf_c1] at sy;have e6:lf N (Pr N A es k v) (af N A (es k))=bl N A (Pr N A es k v) (px N A es k):=pr_bl hs hdk v (es k);rw [e6,gk] at sy;rw [<- hB,pr_succ,lf_lin1,gk];have hi:=z0w _ hk;have gi:=z0w _ g0;generalize (pd N A es k)⁻¹=w at *;generalize bl N A (Pr N A es k v) (px N A es k)=b at *;generalize lf N (Pr N A es k v) κ=y at *;generalize lf N (px N A es k) κ=z at *;generalize pd N A es k=d at *;generalize dt (k+1+1) B=D at *;generalize (gd N A es s k)⁻¹=j at *;generalize gd N A es s k=g at *;generalize s k=t at *;have h1:D=j*(g*D):=by grind
   rw [h1,<- sy]
   grind
  ·rcases z0x c k with y | y
   ·exact i3 c y
   ·rw [show c=k by omega];exact gk
end
end R

set_option maxRecDepth 100000
namespace R
open PySem L2 PyProof.Rows
def sumT (n:Nat->Nat):Nat->Nat
 | 0=>0
 | k+1=>sumT n k+n k
theorem lf_int {e a:Vc} {n:Nat->Nat} {M:Nat} (he:∀ t,e t=((n t:Int):Rat)):∀ N,(∀ t,t<N->∃ z:Int,a t=(z:Rat)/\z.natAbs<=M)->∃ w:Int,lf N e a=(w:Rat)/\w.natAbs<=sumT n N*M
 | 0,_=>⟨0,rfl,by simp⟩
 | N+1,h=>by
  obtain ⟨w,ew,bw⟩:=lf_int he N λt ht=>h t ⋯;obtain ⟨z,ez,bz⟩:=h N ⋯;refine ⟨w+(n N:Int)*z,?_,?_⟩
  ·show lf N e a+e N*a N=_
   rw [ew,ez,he,y0p,q0s]
  ·show _<=(sumT n N+n N)*M
   rw [Nat.add_mul];have h1:((n N:Int)*z).natAbs<=n N*M:=by rw [z0g,q0v];exact v0m _ bz
   omega
structure Fm (N:Nat) (A:Mt) (Bt W:Nat):Prop where
 sy:Sy N A
 b0:0<Bt
 bW:Bt<2 ^ W
 ov:∀ i,i<N->∀ j,j<N->OvB Bt W (A i j)
 n7:N<=7
structure Vk (N:Nat) (A:Mt) (Bt j:Nat) (s:Int) (e:Vc):Prop where
 s1:0<s
 sd:s ∣ (Bt:Int)
 ex:∃ n:Nat->Nat,(∀ t,e t=((n t:Int):Rat))/\sumT n N<=2 ^ j
 int:∀ t,t<N->IsI ((s:Rat)*af N A e t)
section
variable {N:Nat} {A:Mt} {Bt W:Nat}
theorem ovb_z {B W:Nat} {q:Rat} (hB:0<B) (h:OvB B W q):∃ z:Int,((B:Int):Rat)*q=(z:Rat)/\z.natAbs<2 ^ W:=by
 obtain ⟨v,e,b⟩:=h;refine ⟨v,?_,b⟩;have Bn:((B:Int):Rat) ≠ 0:=icast_ne' ⋯;have:=z0w _ Bn;rw [e,u0j,m0h];generalize ((B:Int):Rat)=y at *;generalize y⁻¹=x at *
 grind
theorem lf_sym (n:Nat) (a b:Vc):lf n a b=lf n b a:=sumTo_congr λi _=>by grind
theorem Vk.mono {i j:Nat} {s:Int} {e:Vc} (h:Vk N A Bt i s e) (l:i<=j):Vk N A Bt j s e:=by
 obtain ⟨n,e1,b⟩:=h.ex;exact ⟨h.s1,h.sd,⟨n,e1,q0y b (v0w (by decide) l)⟩,h.int⟩
theorem Vk.le {j:Nat} {s:Int} {e:Vc} (h:Vk N A Bt j s e) (F:Fm N A Bt W):s.natAbs<=Bt:=by
 have:=v0t.mpr h.sd;rw [q0v] at this;exact u0a F.b0 this
theorem Vk.cut {j:Nat} {s:Int} {e:Vc} (h:Vk N A Bt j s e) (F:Fm N A Bt W) {q:Rat} {M:Nat} (hi:IsI ((s:Rat)*q)) (hb:∃ z:Int,((Bt:Int):Rat)*q=(z:Rat)/\z.natAbs<=M):∃ z:Int,(s:Rat)*q=(z:Rat)/\z.natAbs<=M:=by
 obtain ⟨y,ey⟩:=hi;obtain ⟨z,ez,bz⟩:=hb;obtain ⟨c,hc⟩:=h.sd;have e:z=c*y:=v0c.mp (by rw [<- ez,hc,q0s,q0s,<- ey];grind)
 have c0:c ≠ 0:=λw=>by rw [w,Int.mul_zero] at hc;have:=F.b0;omega
 refine ⟨y,ey,q0y ?_ bz⟩;rw [e,z0g];exact y0y _ ⋯
theorem Vk.row {j:Nat} {s:Int} {e:Vc} (h:Vk N A Bt j s e) (F:Fm N A Bt W):∀ t,t<N->∃ z:Int,(s:Rat)*af N A e t=(z:Rat)/\z.natAbs<=2 ^ (j+W):=λt ht=>by
 obtain ⟨n,e1,b⟩:=h.ex;refine h.cut F (h.int t ht) ?_
 obtain ⟨w,ew,bw⟩:=lf_int (e:=e) (a:=λi=>((Bt:Int):Rat)*A t i) (M:=2 ^ W) e1 N λi hi=>by
  obtain ⟨z,ez,bz⟩:=ovb_z F.b0 (F.ov t ht i hi);exact ⟨z,ez,v0g bz⟩
 refine ⟨w,?_,q0y bw (by rw [j0d];exact v0z _ b)⟩
 rw [<- ew]
 show _*lf N (A t) e=_;rw [<- lf_c1,lf_sym]
theorem Vk.two {i j:Nat} {s s':Int} {e e':Vc} (h:Vk N A Bt i s e) (h':Vk N A Bt j s' e') (F:Fm N A Bt W):∃ z:Int,(s:Rat)*bl N A e e'=(z:Rat)/\z.natAbs<=2 ^ (j+(i+W)):=by
 obtain ⟨n,e1,b⟩:=h'.ex;obtain ⟨w,ew,bw⟩:=lf_int (e:=e') (a:=λt=>(s:Rat)*af N A e t) (M:=2 ^ (i+W)) e1 N (h.row F);refine ⟨w,?_,q0y bw (by rw [j0d 2 j];exact v0z _ b)⟩
 rw [<- ew,bl_sym F.sy]
 show _*lf N e' (af N A e)=_;rw [lf_sym N e' (af N A e),<- lf_c1,lf_sym]
def un (t:Nat):Vc:=λi=>if i=t then 1 else 0
theorem lf_un (a:Vc) {t:Nat} (ht:t<N):lf N a (un t)=a t:=by
 have e:lf N a (un t)=sumTo (λi=>if i=t then a i else 0) N:=sumTo_congr λi _=>by
  unfold un
  split <;> grind
 rw [e,sumTo_single,if_pos ht]
theorem sumT_ge {n:Nat->Nat} {t:Nat}:∀ {N},t<N->n t<=sumT n N
 | N+1,h=>by
  show _<=sumT n N+n N;rcases z0x t N with y | y
  ·have:=sumT_ge (n:=n) y;omega
  ·rw [show t=N by omega];omega
theorem Vk.crd {j t:Nat} {s:Int} {e:Vc} (h:Vk N A Bt j s e) (F:Fm N A Bt W) (ht:t<N):∃ z:Int,(s:Rat)*lf N e (un t)=(z:Rat)/\z.natAbs<=2 ^ (j+W):=by
 obtain ⟨n,e1,b⟩:=h.ex;rw [lf_un e ht,e1];refine ⟨s*(n t:Int),by rw [q0s],?_⟩
 rw [z0g,q0v,u0e,j0d];exact y0e (q0y (sumT_ge ht) b) (q0y (h.le F) (v0g F.bW))
variable {es:Nat->Vc} {ss:Nat->Int}
theorem md_int (F:Fm N A Bt W) {k:Nat} (kN:k<=N) (hd:∀ c,c<k->pd N A es c ≠ 0) (hc:∀ c,c<k->Vk N A Bt 7 (ss c) (es c)) {s:Int} {e κ:Vc} (h:Vk N A Bt 7 s e) (hκ:(∃ s' e',Vk N A Bt 7 s' e'/\κ=af N A e') \/ ∃ t,t<N/\κ=un t):∃ z:Int,gd N A es (λc=>(ss c:Rat)) k*((s:Rat)*lf N (Pr N A es k e) κ)=(z:Rat)/\z.natAbs<=2 ^ ((W+15+4)*(k+1)):=by
 obtain ⟨_,b2,_⟩:=bordered F.sy (λc=>(ss c:Rat)) k hd λc hk=>icast_ne' (by have:=(hc c hk).s1;omega)
 have h2:=b2 (λi=>(s:Rat)*e i) κ;have h0:=pr_lin (N:=N) (A:=A) (es:=es) k (λ_=>0) e (s:Rat)
 have hz:Pr N A es k (λ_=>0)=λ_=>0:=by
  have h2:=pr_lin (N:=N) (A:=A) (es:=es) k (λ_=>0) (λ_=>0) (-1);have e4:(λ_:Nat=>(0:Rat) + -1*0)=λ_=>0:=funext λ_=>by grind
  rw [e4] at h2
  funext i
  have:=congrFun h2 i
  grind
 have e3:(λi=>(0:Rat)+(s:Rat)*e i)=λi=>(s:Rat)*e i:=funext λi=>by grind
 have e4:(λi=>(0:Rat)+(s:Rat)*Pr N A es k e i)=λi=>(s:Rat)*Pr N A es k e i:=funext λi=>by grind
 rw [hz,e3,e4] at h0;rw [h0,lf_c1] at h2;rw [<- h2];have n7:=F.n7;refine dt_bits ⋯ λr c=>?_
 have one:∀ {s':Int} {e' κ':Vc},Vk N A Bt 7 s' e'->((∃ s'' e'',Vk N A Bt 7 s'' e''/\κ'=af N A e'') \/ ∃ t,t<N/\κ'=un t)->∃ z:Int,lf N (λi=>(s':Rat)*e' i) κ'=(z:Rat)/\z.natAbs<2 ^ (W+15):=fun {s' e' κ'} hv hκ'=>by
  rw [lf_c1];rcases hκ' with ⟨s'',e'',hv',rfl⟩ | ⟨t,ht,rfl⟩
  ·obtain ⟨z,ez,bz⟩:=hv.two hv' F
   exact ⟨z,ez,q0m bz (y0b (by decide) ⋯)⟩
  ·obtain ⟨z,ez,bz⟩:=hv.crd F ht
   exact ⟨z,ez,q0m bz (y0b (by decide) ⋯)⟩
 unfold bdM
 have col:(∃ s'' e'',Vk N A Bt 7 s'' e''/\(if c<k then af N A (es c) else κ)=af N A e'') \/ ∃ t,t<N/\(if c<k then af N A (es c) else κ)=un t:=by
  by_cases z:c<k
  ·rw [if_pos z];exact .inl ⟨_,_,hc c z,rfl⟩
  ·rw [if_neg z];exact hκ
 by_cases z:r<k
 ·have e5:(λi=>if r<k then (ss r:Rat)*es r i else (s:Rat)*e i)=λi=>(ss r:Rat)*es r i:=funext λi=>if_pos z
  rw [e5];exact one (hc r z) col
 ·have e5:(λi=>if r<k then (ss r:Rat)*es r i else (s:Rat)*e i)=λi=>(s:Rat)*e i:=funext λi=>if_neg z
  rw [e5];exact one h col
structure Sq (N:Nat) (A:Mt) (Bt j k:Nat) (es:Nat->Vc) (ss:Nat->Int) (bf:Int) (vs:List (Int × List Int)) (e:Nat->Vc):Prop where
 km:k+vs.length=N
 j7:j<=7
 ch:∀ c,c<k->Vk N A Bt 7 (ss c) (es c)/\pd N A es c ≠ 0
 dv:(bf:Rat)=gd N A es (λc=>(ss c:Rat)) k
 cur:∀ i s row,vs[i]? = some (s,row)->Vk N A Bt j s (e i)/\row.length=vs.length+N/\(∀ c,c<vs.length->((aZ row c:Int):Rat)=(bf:Rat)*((s:Rat)*bl N A (Pr N A es k (e i)) (Pr N A es k (e c))))/\∀ t,t<N->((aZ row (vs.length+t):Int):Rat)=(bf:Rat)*((s:Rat)*Pr N A es k (e i) t)
 sp:∀ a:Vc,(∀ c,c<k->lf N a (px N A es c)=0)->(∀ i,i<vs.length->lf N a (Pr N A es k (e i))=0)->∀ t,t<N->a t=0
theorem Sq.hd {j k:Nat} {bf:Int} {vs:List (Int × List Int)} {e:Nat->Vc} (S:Sq N A Bt j k es ss bf vs e):∀ c,c<k->pd N A es c ≠ 0:=λc hc=>(S.ch c hc).2
theorem Sq.b0 {j k:Nat} {bf:Int} {vs:List (Int × List Int)} {e:Nat->Vc} (S:Sq N A Bt j k es ss bf vs e) (F:Fm N A Bt W):bf ≠ 0:=λz=>by
 obtain ⟨b1,_,_⟩:=bordered F.sy (λc=>(ss c:Rat)) k S.hd λc hk=>icast_ne' (by have:=(S.ch c hk).1.s1;omega)
 have h:=S.dv;rw [z] at h;rcases g0g k with y | y
 ·rw [y] at h
  have:((0:Int):Rat)=1:=h;exact absurd this (by decide)
 ·exact b1 k y (q0n _) (by rw [<- h];rfl)
theorem Sq.bits {x k:Nat} {bf:Int} {vs:List (Int × List Int)} {e:Nat->Vc} (S:Sq N A Bt x k es ss bf vs e) (F:Fm N A Bt W) {i:Nat} {s:Int} {row:List Int} (h:vs[i]? = some (s,row)) (j:Nat):(aZ row j).natAbs<=2 ^ ((W+15+4)*(k+1)):=by
 obtain ⟨V,l,c1,c2⟩:=S.cur i s row h;have km:=S.km;have n7:=F.n7;have hi:=(q0d.mp h).1;have V7:=V.mono S.j7;rcases z0x j vs.length with y | y
 ·obtain ⟨⟨s',row'⟩,h'⟩:∃ x,vs[j]? = some x:=⟨_,q0c y⟩
  obtain ⟨V',_⟩:=S.cur j s' row' h';obtain ⟨z,ez,bz⟩:=md_int F ⋯ S.hd (λc hc=>(S.ch c hc).1) V7 (κ:=af N A (e j)) (.inl ⟨_,_,V'.mono S.j7,rfl⟩)
  have:aZ row j=z:=v0c.mp (by
   rw [c1 j y,<- ez,S.dv,<- pr_bl F.sy S.hd];rfl)
  rw [this];exact bz
 ·obtain ⟨t,rfl⟩:∃ t,j=vs.length+t:=⟨j-vs.length,⋯⟩
  rcases z0x t N with z | z
  ·obtain ⟨w,ew,bw⟩:=md_int F ⋯ S.hd (λc hc=>(S.ch c hc).1) V7 (κ:=un t) (.inr ⟨t,z,rfl⟩)
   have:aZ row (vs.length+t)=w:=v0c.mp (by
    rw [c2 t z,<- ew,S.dv,lf_un _ z])
   rw [this];exact bw
  ·unfold aZ
   rw [j0k ⋯];exact z0z _
end
end R

set_option maxRecDepth 100000
namespace R
open PySem L2 PyProof.Rows
theorem Frm.of_sp {N:Nat} {A:Mt} {d:Vc} {x:Nat->Vc} (hs:Sy N A) (ho:∀ i,i<N->∀ j,j<N->bl N A (x i) (x j)=if i=j then d i else 0) (sp:∀ a:Vc,(∀ i,i<N->lf N a (x i)=0)->∀ t,t<N->a t=0):Frm N A d:=by
 obtain ⟨g,hg⟩:∃ g:Nat->Vc,g=λc t=>if d c=0 then 0 else (d c)⁻¹*af N A (x c) t:=⟨_,rfl⟩
 have gv:∀ c v,lf N (g c) v=if d c=0 then 0 else (d c)⁻¹*bl N A v (x c):=λc v=>by
  rw [hg]
  by_cases z:d c=0
  ·simp only [if_pos z]
   exact sumTo_zero _ λi _=>by grind
  ·simp only [if_neg z]
   show lf N (λt=>(d c)⁻¹*af N A (x c) t) v=(d c)⁻¹*lf N v (af N A (x c));unfold lf;rw [sumTo_mul];exact sumTo_congr λi _=>by grind
 have zer:∀ i,i<N->d i=0->∀ v,bl N A v (x i)=0:=λi hi z v=>by
  have h:=sp (af N A (x i)) λj hj=>by
   have:=ho j hj i hi;rw [lf_sym]
   by_cases y:j=i
   ·rw [if_pos y] at this
    rw [y] at this ⊢;rw [z] at this;exact this
   ·rw [if_neg y] at this
    exact this
  exact sumTo_zero _ λt ht=>by rw [h t ht];grind
 refine ⟨x,g,ho,λv=>?_⟩
 -- what is left of the form at v
 have key:=sp (λt=>af N A v t + -1*sumTo (λk=>d k*(lf N (g k) v*g k t)) N) λi hi=>by
  rw [lf_lin1]
  have e:lf N (λt=>sumTo (λk=>d k*(lf N (g k) v*g k t)) N) (x i)=sumTo (λk=>d k*(lf N (g k) v*lf N (g k) (x i))) N:=by
   unfold lf;rw [sumTo_congr (g:=λt=>sumTo (λk=>d k*(sumTo (λi=>g k i*v i) N*(g k t*x i t))) N) λt _=>?_,sumTo_comm]
   ·exact sumTo_congr λk _=>by rw [sumTo_mul,sumTo_mul]
   ·have:=sumTo_mul (x i t) (λk=>d k*(sumTo (λi=>g k i*v i) N*g k t)) N
    rw [g0b,this];exact sumTo_congr λk _=>by grind
  have e2:sumTo (λk=>d k*(lf N (g k) v*lf N (g k) (x i))) N=sumTo (λk=>if k=i then bl N A v (x i) else 0) N:=sumTo_congr λk hk=>by
   rw [gv,gv];have h:=ho i hi k hk
   by_cases z:d k=0
   ·rw [if_pos z,if_pos z]
    by_cases y:k=i
    ·rw [if_pos y,<- y,zer k hk z];grind
    ·rw [if_neg y];grind
   ·rw [if_neg z,if_neg z,h]
    by_cases y:k=i
    ·rw [if_pos y,if_pos y.symm,<- y]
     have:=z0w _ z;generalize (d k)⁻¹=w at *
     grind
    ·rw [if_neg y,if_neg (Ne.symm y)];grind
  rw [e,e2,sumTo_single,if_pos hi];have h3:lf N (af N A v) (x i)=bl N A (x i) v:=lf_sym _ _ _;rw [h3,bl_sym hs];grind
 show lf N v (af N A v)=_
 have e3:lf N v (af N A v)=lf N v (λt=>sumTo (λk=>d k*(lf N (g k) v*g k t)) N):=sumTo_congr λt ht=>by
  have:=key t ht;have h2:af N A v t=sumTo (λk=>d k*(lf N (g k) v*g k t)) N:=by grind
  rw [h2]
 rw [e3]
 show sumTo (λt=>v t*sumTo (λk=>d k*(lf N (g k) v*g k t)) N) N=_;rw [sumTo_congr (g:=λt=>sumTo (λk=>d k*(lf N (g k) v*(g k t*v t))) N) λt _=>?_,sumTo_comm]
 ·refine sumTo_congr λk _=>?_
  rw [<- sumTo_mul,<- sumTo_mul];rfl
 ·rw [sumTo_mul]
  exact sumTo_congr λk _=>by grind
section
variable {N:Nat} {A:Mt} {Bt W:Nat} {es:Nat->Vc} {ss:Nat->Int}
theorem pr_congr {fs:Nat->Vc}:∀ (k:Nat),(∀ c,c<k->fs c=es c)->∀ v,Pr N A fs k v=Pr N A es k v
 | 0,_,_=>rfl
 | k+1,h,v=>by
  have ih:=pr_congr (fs:=fs) k λc hc=>h c ⋯
  show (λi=>Pr N A fs k v i + -(bl N A (Pr N A fs k v) (Pr N A fs k (fs k))*(bl N A (Pr N A fs k (fs k)) (Pr N A fs k (fs k)))⁻¹)*Pr N A fs k (fs k) i)=_;rw [ih,ih,h k ⋯];rfl
theorem pd_congr {fs:Nat->Vc} {c:Nat} (h:∀ i,i<=c->fs i=es i):pd N A fs c=pd N A es c:=by
 unfold pd px;rw [pr_congr c (λi hi=>h i ⋯),h c (q0n _)]
def put (k:Nat) (v:Vc) (es:Nat->Vc):Nat->Vc:=λc=>if c=k then v else es c
def putZ (k:Nat) (s:Int) (ss:Nat->Int):Nat->Int:=λc=>if c=k then s else ss c
def sk (at' i:Nat):Nat:=if i<at' then i else i+1
def upL (bf:Int) (at':Nat) (ra row:List Int):List Int :=
 let l:=u0f (λw o=>(aZ ra at'*w-aZ row at'*o).fdiv bf) row ra
 l.take at' ++ l.drop (at'+1)
def upV (bf:Int) (at':Nat) (ra:List Int) (vs:List (Int × List Int)):List (Int × List Int):=(vs.take at' ++ vs.drop (at'+1)).map λx=>(x.1,upL bf at' ra x.2)
theorem del_get {α:Type} (l:List α) {at':Nat} (h:at'<l.length) (i:Nat):(l.take at' ++ l.drop (at'+1))[i]? = l[sk at' i]? := by
 unfold sk;have l1:(l.take at').length=at':=by rw [q0t];omega
 split
 ·rename_i y
  rw [j0f ⋯,g0s y]
 ·rw [j0m ⋯,l1,List.getElem?_drop]
  congr 1;omega
theorem upL_get {bf:Int} {at':Nat} {ra row:List Int} (h:at'<ra.length) (hl:row.length=ra.length) (j:Nat) (hj:j+1<ra.length):aZ (upL bf at' ra row) j=(aZ ra at'*aZ row (sk at' j)-aZ row at'*aZ ra (sk at' j)).fdiv bf:=by
 have hs:sk at' j<ra.length:=by unfold sk;split <;> omega
 unfold upL;unfold aZ;rw [del_get _ (by rw [v0n];omega),u0t,q0c (l:=row) ⋯,q0c (l:=ra) hs];rfl
theorem upL_len {bf:Int} {at':Nat} {ra row:List Int} (h:at'<ra.length) (hl:row.length=ra.length):(upL bf at' ra row).length+1=ra.length:=by
 unfold upL;simp only [z0n,q0t,y0f,v0n];omega
theorem upV_len {bf:Int} {at':Nat} {ra:List Int} {vs:List (Int × List Int)} (h:at'<vs.length):(upV bf at' ra vs).length+1=vs.length:=by
 unfold upV;simp only [q0b,z0n,q0t,y0f];omega
theorem Sq.up {j k at':Nat} {bf sa:Int} {vs:List (Int × List Int)} {e:Nat->Vc} {ra:List Int} (S:Sq N A Bt j k es ss bf vs e) (F:Fm N A Bt W) (ha:vs[at']? = some (sa,ra)) (h0:aZ ra at' ≠ 0):Sq N A Bt j (k+1) (put k (e at') es) (putZ k sa ss) (aZ ra at') (upV bf at' ra vs) (λi=>e (sk at' i))/\px N A (put k (e at') es) k=Pr N A es k (e at')/\∀ (i:Nat) (s:Int) (row:List Int),vs[i]? = some (s,row)->∀ c,c<ra.length->∃ z,aZ ra at'*aZ row c-aZ row at'*aZ ra c=bf*z:=by
 have km:=S.km;have hat:=(q0d.mp ha).1;have hd:=S.hd;have b0:=S.b0 F;have bq:=icast_ne' b0;obtain ⟨Va,la,a1,a2⟩:=S.cur _ _ _ ha;have a0:=a1 at' hat;have cg:∀ c,c<k->put k (e at') es c=es c:=λc hc=>if_neg ⋯;have cp:∀ v,Pr N A (put k (e at') es) k v=Pr N A es k v:=pr_congr k cg;have pk:put k (e at') es k=e at':=if_pos rfl;have hpx:px N A (put k (e at') es) k=Pr N A es k (e at'):=by unfold px;rw [cp,pk]
 have hpd:pd N A (put k (e at') es) k=bl N A (Pr N A es k (e at')) (Pr N A es k (e at')):=by unfold pd;rw [hpx]
 have hq:=icast_ne' h0;have sq:=icast_ne' (show sa ≠ 0 by have:=Va.s1;omega)
 have hd':∀ c,c<k+1->pd N A (put k (e at') es) c ≠ 0:=λc hc=>by
  rcases z0x c k with y | y
  ·rw [pd_congr (es:=es) λi hi=>cg i ⋯];exact hd c y
  ·rw [show c=k by omega,hpd]
   exact λz=>hq (by rw [a0,z];grind)
 have ch':∀ c,c<k+1->Vk N A Bt 7 (putZ k sa ss c) (put k (e at') es c):=λc hc=>by
  unfold putZ put;rcases z0x c k with y | y
  ·rw [if_neg ⋯,if_neg ⋯];exact (S.ch c y).1
  ·rw [if_pos ⋯,if_pos ⋯];exact Va.mono S.j7
 obtain ⟨_,_,b3⟩:=bordered F.sy (λc=>((putZ k sa ss c:Int):Rat)) (k+1) hd' λc hc=>icast_ne' (by have:=(ch' c hc).s1;omega)
 have gk:gd N A (put k (e at') es) (λc=>((putZ k sa ss c:Int):Rat)) k=(bf:Rat):=by
  rw [S.dv];exact dt_congr λr hr c hc=>by rw [cg r hr,cg c hc];show ((if r=k then sa else ss r:Int):Rat)*_=_;rw [if_neg ⋯]
 have gk1:gd N A (put k (e at') es) (λc=>((putZ k sa ss c:Int):Rat)) (k+1)=((aZ ra at':Int):Rat):=by
  rw [b3 k ⋯,gk,hpd,a0]
  show _*((if k=k then sa else ss k:Int):Rat)*_=_;rw [if_pos rfl];grind
 -- one number of a cleaned row
 have val:∀ (i:Nat) (s:Int) (row:List Int),vs[i]? = some (s,row)->∀ κ:Vc,((∃ s' e',Vk N A Bt 7 s' e'/\κ=af N A e') \/ ∃ t,t<N/\κ=un t)->∀ c,((aZ row c:Int):Rat)=(bf:Rat)*((s:Rat)*lf N (Pr N A es k (e i)) κ)->((aZ ra c:Int):Rat)=(bf:Rat)*((sa:Rat)*lf N (Pr N A es k (e at')) κ)->∃ z:Int,aZ ra at'*aZ row c-aZ row at'*aZ ra c=bf*z/\(z:Rat)=((aZ ra at':Int):Rat)*((s:Rat)*lf N (Pr N A (put k (e at') es) (k+1) (e i)) κ):=λi s row hi κ hκ c hr hra=>by
  obtain ⟨V,lr,r1,r2⟩:=S.cur _ _ _ hi;obtain ⟨z,ez,_⟩:=md_int F (show k+1<=N by omega) hd' ch' (V.mono S.j7) hκ
  rw [gk1] at ez;refine ⟨z,v0c.mp ?_,ez.symm⟩;rw [Rat.intCast_sub,q0s,q0s,q0s,<- ez,pr_succ,cp,hpx,hpd,lf_lin1,hr,hra,r1 at' hat];have hinv:=z0w _ (show bl N A (Pr N A es k (e at')) (Pr N A es k (e at')) ≠ 0 from by rw [<- hpd];exact hd' k ⋯)
  rw [a0];generalize (bl N A (Pr N A es k (e at')) (Pr N A es k (e at')))⁻¹=w at *;generalize bl N A (Pr N A es k (e at')) (Pr N A es k (e at'))=p at *;generalize bl N A (Pr N A es k (e i)) (Pr N A es k (e at'))=q at *;generalize lf N (Pr N A es k (e i)) κ=x at *;generalize lf N (Pr N A es k (e at')) κ=y at *
  grind
 have num:∀ (i:Nat) (s:Int) (row:List Int),vs[i]? = some (s,row)->∀ c,c<ra.length->∃ z:Int,aZ ra at'*aZ row c-aZ row at'*aZ ra c=bf*z/\(c<vs.length->(z:Rat)=((aZ ra at':Int):Rat)*((s:Rat)*bl N A (Pr N A (put k (e at') es) (k+1) (e i)) (Pr N A (put k (e at') es) (k+1) (e c))))/\∀ t,t<N->c=vs.length+t->(z:Rat)=((aZ ra at':Int):Rat)*((s:Rat)*Pr N A (put k (e at') es) (k+1) (e i) t):=λi s row hi c hc=>by
  obtain ⟨V,lr,r1,r2⟩:=S.cur _ _ _ hi;rcases z0x c vs.length with y | y
  ·obtain ⟨⟨s',row'⟩,h'⟩:∃ x,vs[c]? = some x:=⟨_,q0c y⟩
   obtain ⟨V',_⟩:=S.cur c s' row' h';obtain ⟨z,e1,e2⟩:=val i s row hi (af N A (e c)) (.inl ⟨_,_,V'.mono S.j7,rfl⟩) c (by rw [r1 c y,<- pr_bl F.sy hd];rfl) (by rw [a1 c y,<- pr_bl F.sy hd];rfl)
   refine ⟨z,e1,λ_=>?_,λt ht hc=>⋯⟩;rw [e2,<- pr_bl F.sy hd'];rfl
  ·obtain ⟨t,rfl⟩:∃ t,c=vs.length+t:=⟨c-vs.length,⋯⟩
   have ht:t<N:=⋯;obtain ⟨z,e1,e2⟩:=val i s row hi (un t) (.inr ⟨t,ht,rfl⟩) _ (by rw [r2 t ht,lf_un _ ht]) (by rw [a2 t ht,lf_un _ ht])
   refine ⟨z,e1,λh=>⋯,λt' ht' hc=>?_⟩;have:t'=t:=⋯;subst this;rw [e2,lf_un _ ht]
 refine ⟨⟨?_,S.j7,λc hc=>⟨ch' c hc,hd' c hc⟩,gk1.symm,λi s row hi=>?_,λa h1 h2=>?_⟩,hpx,λi s row hi c hc=>let ⟨z,hz,_⟩:=num i s row hi c hc;⟨z,hz⟩⟩
 ·have:=upV_len (bf:=bf) (ra:=ra) hat
  omega
 ·have lu:=upV_len (bf:=bf) (ra:=ra) hat
  unfold upV at hi;rw [q0e,del_get vs hat] at hi
  cases hv:vs[sk at' i]? with
  | none=>rw [hv] at hi;cases hi
  | some x =>
   rw [hv] at hi;obtain ⟨s1,row1⟩:=x
   cases hi
   obtain ⟨V,lr,r1,r2⟩:=S.cur _ _ _ hv;have lrr:row1.length=ra.length:=⋯;refine ⟨V,?_,λc hc=>?_,λt ht=>?_⟩
   ·have:=upL_len (bf:=bf) (at':=at') (ra:=ra) (row:=row1) ⋯ lrr
    show (upL bf at' ra row1).length=_;omega
   ·rw [upL_get ⋯ lrr c ⋯]
    obtain ⟨z,e1,e2,_⟩:=num _ _ _ hv (sk at' c) (by unfold sk;split <;> omega)
    rw [e1,fdiv_of_mul b0];exact e2 (by unfold sk;split <;> omega)
   ·rw [upL_get ⋯ lrr _ ⋯]
    have es':sk at' ((upV bf at' ra vs).length+t)=vs.length+t:=by unfold sk;rw [if_neg ⋯];omega
    rw [es'];obtain ⟨z,e1,_,e3⟩:=num _ _ _ hv (vs.length+t) ⋯;rw [e1,fdiv_of_mul b0];exact e3 t ht rfl
 ·have lu:=upV_len (bf:=bf) (ra:=ra) hat
  refine S.sp a (λc hc=>?_) λi hi=>?_
  ·have:=h1 c ⋯
   unfold px at this;rw [pr_congr (es:=es) c (λi hi=>cg i ⋯),cg c hc] at this;exact this
  ·have hx:=h1 k ⋯
   rw [hpx] at hx
   by_cases y:i=at'
   ·rw [y];exact hx
   ·have h3:=h2 (if i<at' then i else i-1) (by split <;> omega)
    have e4:sk at' (if i<at' then i else i-1)=i:=by
     unfold sk
     by_cases w:i<at'
     ·rw [if_pos w,if_pos w]
     ·rw [if_neg w,if_neg ⋯];omega
    rw [e4,pr_succ,lf_lin,cp,hpx,hx] at h3
    grind
end
end R

set_option maxRecDepth 100000
namespace R
open PySem L2 PyProof.Rows
theorem sumT_add (n m:Nat->Nat):∀ k,sumT (λi=>n i+m i) k=sumT n k+sumT m k
 | 0=>rfl
 | k+1=>by
  have:=sumT_add n m k
  show sumT (λi=>n i+m i) k+(n k+m k)=sumT n k+n k+(sumT m k+m k);omega
section
variable {N:Nat} {A:Mt} {Bt W:Nat} {es:Nat->Vc} {ss:Nat->Int}
theorem af_lin (u w:Vc) (c:Rat) (t:Nat):af N A (λi=>u i+c*w i) t=af N A u t+c*af N A w t:=lf_lin _ _ _ _ _
def ad (u w:Vc):Vc:=λi=>u i+1*w i
theorem Vk.mix {j:Nat} {s s' f g:Int} {e e':Vc} (h:Vk N A Bt j s e) (h':Vk N A Bt j s' e') (hf:f*s=g*s') (f1:0<f) (hd:f*s ∣ (Bt:Int)):Vk N A Bt (j+1) (f*s) (ad e e'):=by
 obtain ⟨n,e1,b1⟩:=h.ex;obtain ⟨m,e2,b2⟩:=h'.ex;refine ⟨q1b f1 h.s1,hd,⟨λt=>n t+m t,λt=>?_,?_⟩,λt ht=>?_⟩
 ·show e t+1*e' t=_
  rw [e1,e2,Int.natCast_add,y0p];grind
 ·rw [sumT_add,g0a];omega
 ·unfold ad
  rw [af_lin];obtain ⟨a,ha⟩:=h.int t ht;obtain ⟨b,hb⟩:=h'.int t ht;refine ⟨f*a+g*b,?_⟩;have hq:(f:Rat)*(s:Rat)=(g:Rat)*(s':Rat):=by rw [<- q0s,<- q0s,hf]
  rw [y0p,q0s,q0s,q0s,<- ha,<- hb];generalize af N A e t=x at *;generalize af N A e' t=y at *
  grind
def mixL (f g:Int) (ra rb:List Int):List Int:=u0f (λa b=>f*a+g*b) ra rb
def colL (a b:Nat) (row:List Int):List Int:=row.take a ++ [aZ row a+aZ row b] ++ row.drop (a+1)
theorem put_one {α:Type} (l:List α) {i:Nat} (x:α) (hi:i<l.length):l.take i ++ [x] ++ l.drop (i+1)=l.set i x:=by
 rw [List.set_eq_take_append_cons_drop,if_pos hi,List.append_assoc];rfl
theorem colL_set {a b:Nat} {row:List Int} (h:a<row.length):colL a b row=row.set a (aZ row a+aZ row b):=put_one _ _ h
theorem aZ_set {row:List Int} {a:Nat} {v:Int} (h:a<row.length) (j:Nat):aZ (row.set a v) j=if j=a then v else aZ row j:=by
 unfold aZ;rw [u0k]
 by_cases z:a=j
 ·rw [if_pos z,if_pos h,if_pos z.symm];rfl
 ·rw [if_neg z,if_neg (Ne.symm z)]
theorem mixL_get {f g:Int} {ra rb:List Int} (h:rb.length=ra.length) (j:Nat):aZ (mixL f g ra rb) j=f*aZ ra j+g*aZ rb j:=by
 unfold mixL aZ;rw [u0t];rcases z0x j ra.length with y | y
 ·rw [q0c y,q0c ⋯];rfl
 ·rw [j0k y,j0k ⋯]
  show (0:Int)=f*0+g*0;omega
def mixV (f g:Int) (a b:Nat) (sa:Int) (ra rb:List Int) (vs:List (Int × List Int)):List (Int × List Int):=(vs.set a (f*sa,mixL f g ra rb)).map λx=>(x.1,colL a b x.2)
theorem Sq.mix {j k a b:Nat} {bf sa sb f g:Int} {vs:List (Int × List Int)} {e:Nat->Vc} {ra rb:List Int} (S:Sq N A Bt j k es ss bf vs e) (F:Fm N A Bt W) (jk:j+1<=7) (ha:vs[a]? = some (sa,ra)) (hb:vs[b]? = some (sb,rb)) (ab:a ≠ b) (hf:f*sa=g*sb) (f1:0<f) (hd:f*sa ∣ (Bt:Int)):Sq N A Bt (j+1) k es ss bf (mixV f g a b sa ra rb vs) (λi=>if i=a then ad (e a) (e b) else e i):=by
 have hat:=(q0d.mp ha).1;have hbt:=(q0d.mp hb).1;obtain ⟨Va,la,a1,a2⟩:=S.cur _ _ _ ha;obtain ⟨Vb,lb,b1,b2⟩:=S.cur _ _ _ hb;have lm:(mixV f g a b sa ra rb vs).length=vs.length:=by unfold mixV;rw [q0b,j0p]
 have hq:(f:Rat)*(sa:Rat)=(g:Rat)*(sb:Rat):=by rw [<- q0s,<- q0s,hf]
 have pad:Pr N A es k (ad (e a) (e b))=λi=>Pr N A es k (e a) i+1*Pr N A es k (e b) i:=pr_lin _ _ _ _
 have pe:∀ i,Pr N A es k (if i=a then ad (e a) (e b) else e i)=if i=a then (λt=>Pr N A es k (e a) t+1*Pr N A es k (e b) t) else Pr N A es k (e i):=λi=>by
  by_cases z:i=a
  ·rw [if_pos z,if_pos z];exact pad
  ·rw [if_neg z,if_neg z]
 -- the rows ahead of the columns' sum
 have rowOf:∀ (i:Nat) (s:Int) (row:List Int),(vs.set a (f*sa,mixL f g ra rb))[i]? = some (s,row)->Vk N A Bt (j+1) s (if i=a then ad (e a) (e b) else e i)/\row.length=vs.length+N/\(∀ c,c<vs.length->((aZ row c:Int):Rat)=(bf:Rat)*((s:Rat)*bl N A (Pr N A es k (if i=a then ad (e a) (e b) else e i)) (Pr N A es k (e c))))/\∀ t,t<N->((aZ row (vs.length+t):Int):Rat)=(bf:Rat)*((s:Rat)*Pr N A es k (if i=a then ad (e a) (e b) else e i) t):=λi s row hi=>by
  rw [u0k] at hi
  by_cases z:a=i
  ·rw [if_pos z,if_pos hat] at hi
   cases hi
   rw [if_pos z.symm,pad];refine ⟨Va.mix Vb hf f1 hd,?_,λc hc=>?_,λt ht=>?_⟩
   ·unfold mixL;rw [v0n];omega
   ·rw [mixL_get ⋯,y0p,q0s,q0s,a1 c hc,b1 c hc,bl_lin1,q0s]
    generalize bl N A (Pr N A es k (e a)) (Pr N A es k (e c))=x;generalize bl N A (Pr N A es k (e b)) (Pr N A es k (e c))=y
    grind
   ·rw [mixL_get ⋯,y0p,q0s,q0s,a2 t ht,b2 t ht,q0s]
    show _=_*(_*(Pr N A es k (e a) t+1*Pr N A es k (e b) t));generalize Pr N A es k (e a) t=x;generalize Pr N A es k (e b) t=y
    grind
  ·rw [if_neg z] at hi
   rw [if_neg (Ne.symm z)];obtain ⟨V,l,c1,c2⟩:=S.cur _ _ _ hi;exact ⟨V.mono ⋯,l,c1,c2⟩
 refine ⟨by rw [lm];exact S.km,jk,S.ch,S.dv,λi s row hi=>?_,λx h1 h2=>?_⟩
 ·rw [lm]
  unfold mixV at hi;rw [q0e] at hi
  cases hv:(vs.set a (f*sa,mixL f g ra rb))[i]? with
  | none=>rw [hv] at hi;cases hi
  | some x =>
   rw [hv] at hi;obtain ⟨s1,row1⟩:=x
   cases hi
   obtain ⟨V,l,c1,c2⟩:=rowOf _ _ _ hv;refine ⟨V,?_,λc hc=>?_,λt ht=>?_⟩
   ·show (colL a b row1).length=_
    rw [colL_set ⋯,j0p];exact l
   ·show ((aZ (colL a b row1) c:Int):Rat)=_
    rw [colL_set ⋯,aZ_set ⋯]
    by_cases z:c=a
    ·rw [if_pos z,pe c,if_pos z,bl_lin2,y0p,c1 a hat,c1 b hbt];grind
    ·rw [if_neg z,pe c,if_neg z];exact c1 c hc
   ·show ((aZ (colL a b row1) (vs.length+t):Int):Rat)=_
    rw [colL_set ⋯,aZ_set ⋯,if_neg ⋯];exact c2 t ht
 ·rw [lm] at h2
  refine S.sp x h1 λi hi=>?_
  by_cases z:i=a
  ·have h3:=h2 a hat
   have h4:=h2 b hbt;rw [pe,if_pos rfl,lf_lin] at h3;rw [pe,if_neg (Ne.symm ab)] at h4;rw [h4] at h3;rw [z];grind
  ·have h3:=h2 i hi
   rw [pe,if_neg z] at h3;exact h3
theorem Sq.start (F:Fm N A Bt W) {vs:List (Int × List Int)} (lv:vs.length=N) (h:∀ (i:Nat) (s:Int) (row:List Int),vs[i]? = some (s,row)->0<s/\s ∣ (Bt:Int)/\row.length=N+N/\(∀ c,c<N->((aZ row c:Int):Rat)=(s:Rat)*A i c)/\∀ t,t<N->aZ row (N+t)=if t=i then s else 0):Sq N A Bt 0 0 es ss 1 vs un:=by
 refine ⟨⋯,⋯,λc hc=>⋯,rfl,λi s row hi=>?_,λa h1 h2 t ht=>?_⟩
 ·obtain ⟨s1,sd,l,c1,c2⟩:=h i s row hi
  have iN:i<N:=by rw [<- lv];exact (q0d.mp hi).1
  have eb:∀ c,c<N->bl N A (un i) (un c)=A i c:=λc hc=>by
   show lf N (un i) (af N A (un c))=_;rw [lf_sym,lf_un _ iN]
   show lf N (A i) (un c)=_;rw [lf_un _ hc]
  refine ⟨⟨s1,sd,⟨λt=>if t=i then 1 else 0,λt=>?_,?_⟩,λt ht=>?_⟩,⋯,λc hc=>?_,λt ht=>?_⟩
  ·show (if t=i then (1:Rat) else 0)=(((if t=i then 1 else 0:Nat):Int):Rat)
   split <;> rfl
  ·have:∀ M,sumT (λt=>if t=i then 1 else 0) M<=1/\(M<=i->sumT (λt=>if t=i then 1 else 0) M=0):=λM=>by
    induction M with
    | zero=>exact ⟨z0z _,λ_=>rfl⟩
    | succ M ih =>
     obtain ⟨i1,i2⟩:=ih;refine ⟨?_,λh=>?_⟩
     ·show sumT _ M+(if M=i then 1 else 0)<=1
      split
      ·rename_i y;rw [i2 ⋯];omega
      ·omega
     ·show sumT _ M+(if M=i then 1 else 0)=0
      rw [i2 ⋯,if_neg ⋯]
   exact (this N).1
  ·refine ⟨aZ row t,?_⟩
   rw [c1 t ht]
   show _*lf N (A t) (un i)=_;rw [lf_un _ iN,F.sy t ht i iN]
  ·show _=((1:Int):Rat)*((s:Rat)*bl N A (un i) (un c))
   rw [eb c ⋯,c1 c ⋯,show ((1:Int):Rat)=1 from rfl];grind
  ·show _=((1:Int):Rat)*((s:Rat)*un i t)
   rw [lv,c2 t ht,show ((1:Int):Rat)=1 from rfl];unfold un
   split
   ·grind
   ·show (0:Rat)=_;grind
 ·have:=h2 t ⋯
  show a t=0;have e:Pr N A es 0 (un t)=un t:=rfl;rw [e,lf_un _ ht] at this;exact this
def vc (col:List Int):Vc:=λt=>((aZ col t:Int):Rat)
def Tc (N:Nat) (col:List Int) (x:Vc):Prop:=col.length=N/\∃ τ:Rat,τ ≠ 0/\∀ t,t<N->vc col t=τ*x t
theorem Tc.lf {col:List Int} {x:Vc} {τ:Rat} (h:∀ t,t<N->vc col t=τ*x t) (a:Vc):lf N a (vc col)=τ*lf N a x:=by
 unfold R.lf;rw [sumTo_mul];exact sumTo_congr λt ht=>by rw [h t ht];grind
theorem Tc.bl {c d:List Int} {x y:Vc} {τ υ:Rat} (h:∀ t,t<N->vc c t=τ*x t) (k:∀ t,t<N->vc d t=υ*y t):bl N A (vc c) (vc d)=τ*(υ*bl N A x y):=by
 unfold R.bl;have e:af N A (vc d)=λs=>υ*af N A y s:=funext λs=>Tc.lf k (A s);rw [lf_sym,Tc.lf h,e,lf_c1,lf_sym]
structure SqRes (N:Nat) (A:Mt) (cols:List (List Int)) (qs:List Rat):Prop where
 lc:cols.length=N
 lq:qs.length=N
 ll:∀ L ∈ cols,L.length=N
 ho:∀ i,i<N->∀ j,j<N->bl N A (vc ((cols[i]?).getD [])) (vc ((cols[j]?).getD []))=if i=j then (qs[i]?).getD 0 else 0
 sp:∀ a:Vc,(∀ i,i<N->lf N a (vc ((cols[i]?).getD []))=0)->∀ t,t<N->a t=0
theorem SqRes.frm {cols:List (List Int)} {qs:List Rat} (h:SqRes N A cols qs) (hs:Sy N A):Frm N A λi=>(qs[i]?).getD 0:=Frm.of_sp hs h.ho h.sp
theorem px_congr {fs:Nat->Vc} {c:Nat} (h:∀ i,i<=c->fs i=es i):px N A fs c=px N A es c:=by
 unfold px;rw [pr_congr c (λi hi=>h i ⋯),h c (q0n _)]
structure Fnd (N:Nat) (A:Mt) (es:Nat->Vc) (k:Nat) (found:List (List Int × Rat)):Prop where
 len:found.length=k
 at':∀ (c:Nat) (col:List Int) (q:Rat),found[c]? = some (col,q)->Tc N col (px N A es c)/\q=bl N A (vc col) (vc col)
theorem Fnd.snoc {k:Nat} {found:List (List Int × Rat)} (h:Fnd N A es k found) {v:Vc} {col:List Int} (hc:Tc N col (px N A (put k v es) k)):Fnd N A (put k v es) (k+1) (found ++ [(col,bl N A (vc col) (vc col))]):=by
 refine ⟨by rw [z0n,h.len];rfl,λc col' q hg=>?_⟩
 rcases z0x c k with y | y
 ·rw [j0f (by rw [h.len];exact y)] at hg
  obtain ⟨h1,h2⟩:=h.at' _ _ _ hg;rw [px_congr (es:=es) (fs:=put k v es) (c:=c) λi hi=>if_neg ⋯];exact ⟨h1,h2⟩
 ·rw [j0m (by rw [h.len];exact y),h.len] at hg
  have c0:c-k=0:=by
   have:=(q0d.mp hg).1
   simp at this;omega
  rw [c0] at hg
  cases hg
  rw [show c=k by omega]
  exact ⟨hc,rfl⟩
theorem Sq.finish {j k:Nat} {bf:Int} {vs:List (Int × List Int)} {e:Nat->Vc} (S:Sq N A Bt j k es ss bf vs e) (F:Fm N A Bt W) {found:List (List Int × Rat)} (f:Fnd N A es k found) {R:List (List Int)} (lR:R.length=vs.length) (hR:∀ (i:Nat) (col:List Int),R[i]? = some col->Tc N col (Pr N A es k (e i))) (z:∀ (i:Nat) (s:Int) (row:List Int),vs[i]? = some (s,row)->∀ c,i<=c->c<vs.length->aZ row c=0):SqRes N A (found.map (·.1) ++ R) (found.map (·.2) ++ z0a vs.length 0):=by
 have km:=S.km;have hd:=S.hd;have b0:=icast_ne' (S.b0 F);have lf':=f.len
 have up:∀ i c,i<=c->c<vs.length->bl N A (Pr N A es k (e i)) (Pr N A es k (e c))=0:=λi c h1 h2=>by
  obtain ⟨⟨s,row⟩,h⟩:∃ x,vs[i]? = some x:=⟨_,q0c ⋯⟩;obtain ⟨V,_,c1,_⟩:=S.cur _ _ _ h;have h3:=c1 c h2;rw [z _ _ _ h c h1 h2] at h3;have sq:=icast_ne' (show s ≠ 0 by have:=V.s1;omega)
  have h4:(bf:Rat)*((s:Rat)*bl N A (Pr N A es k (e i)) (Pr N A es k (e c)))=0:=h3.symm;rcases j0g.mp h4 with y | y
  ·exact absurd y b0
  ·rcases j0g.mp y with w | w
   ·exact absurd w sq
   ·exact w
 have all0:∀ i,i<vs.length->∀ c,c<vs.length->bl N A (Pr N A es k (e i)) (Pr N A es k (e c))=0:=λi hi c hc=>by
  rcases Nat.le_total i c with y | y
  ·exact up i c y hc
  ·rw [bl_sym F.sy];exact up c i y hi
 obtain ⟨x,hx⟩:∃ x:Nat->Vc,x=λi=>if i<k then px N A es i else Pr N A es k (e (i-k)):=⟨_,rfl⟩
 have ox:∀ i,i<N->∀ j,j<N->i ≠ j->bl N A (x i) (x j)=0:=λi hi j hj ij=>by
  rw [hx]
  show bl N A (if i<k then _ else _) (if j<k then _ else _)=0
  by_cases a:i<k
  ·rw [if_pos a]
   by_cases b:j<k
   ·rw [if_pos b]
    rcases z0x j i with y | y
    ·exact pr_orth F.sy i (λc hc=>hd c ⋯) (es i) j y
    ·rw [bl_sym F.sy]
     exact pr_orth F.sy j (λc hc=>hd c ⋯) (es j) i ⋯
   ·rw [if_neg b,bl_sym F.sy]
    exact pr_orth F.sy k hd _ i a
  ·rw [if_neg a]
   by_cases b:j<k
   ·rw [if_pos b]
    exact pr_orth F.sy k hd _ j b
   ·rw [if_neg b]
    exact all0 _ ⋯ _ ⋯
 have tc:∀ i,i<N->Tc N (((found.map (·.1) ++ R)[i]?).getD []) (x i):=λi hi=>by
  rw [hx]
  show Tc N _ (if i<k then _ else _)
  by_cases a:i<k
  ·rw [if_pos a,j0f (by rw [q0b];omega),q0e]
   obtain ⟨⟨col,q⟩,h⟩:∃ x,found[i]? = some x:=⟨_,q0c ⋯⟩;rw [h];exact (f.at' _ _ _ h).1
  ·rw [if_neg a,j0m (by rw [q0b];omega),q0b,lf']
   obtain ⟨col,h⟩:∃ x,R[i-k]? = some x:=⟨_,q0c ⋯⟩;rw [h];exact hR _ _ h
 refine ⟨by rw [z0n,q0b];omega,by rw [z0n,q0b,u0q];omega,λL hL=>?_,λi hi j hj=>?_,λa ha=>?_⟩
 ·obtain ⟨i,hi,rfl⟩:=u0b hL
  have h1:=(tc i (by rw [z0n,q0b] at hi;omega)).1
  rw [q0c hi] at h1;exact h1
 ·obtain ⟨li,τ,τ0,ht⟩:=tc i hi
  obtain ⟨lj,υ,υ0,hu⟩:=tc j hj
  by_cases ij:i=j
  ·subst ij
   rw [if_pos rfl]
   by_cases a:i<k
   ·obtain ⟨⟨col,q⟩,h⟩:∃ x,found[i]? = some x:=⟨_,q0c ⋯⟩
    have h2:=(f.at' _ _ _ h).2;have g1:(found.map (·.1) ++ R)[i]? = some col:=by rw [j0f (by rw [q0b];omega),q0e,h];rfl
    have g2:(found.map (·.2) ++ z0a vs.length (0:Rat))[i]? = some q:=by rw [j0f (by rw [q0b];omega),q0e,h];rfl
    rw [g1,g2];exact h2.symm
   ·have g2:(found.map (·.2) ++ z0a vs.length (0:Rat))[i]? = some 0:=by rw [j0m (by rw [q0b];omega),g0w,if_pos (by rw [q0b];omega)]
    rw [g2,Tc.bl ht ht,hx]
    show τ*(τ*bl N A (if i<k then _ else _) (if i<k then _ else _))=0;rw [if_neg a,all0 _ ⋯ _ ⋯];grind
  ·rw [if_neg ij,Tc.bl ht hu,ox i hi j hj ij];grind
 ·have key:∀ i,i<N->lf N a (x i)=0:=λi hi=>by
   obtain ⟨li,τ,τ0,ht⟩:=tc i hi;have h1:=ha i hi;rw [Tc.lf ht] at h1;rcases j0g.mp h1 with y | y
   ·exact absurd y τ0
   ·exact y
  refine S.sp a (λc hc=>?_) λi hi=>?_
  ·have:=key c ⋯
   rw [hx] at this;simp only [if_pos hc] at this;exact this
  ·have:=key (k+i) ⋯
   rw [hx] at this;simp only [if_neg (show ¬ k+i<k by omega),g0x] at this
   exact this
end
end R

set_option maxRecDepth 100000
namespace R
open PySem L2 PyProof.Rows
theorem null_of:∀ (n:Nat) (Q:Mt),dt n Q=0->∃ y:Nat->Rat,(∃ i,i<n/\y i ≠ 0)/\∀ r,r<n->sumTo (λc=>Q r c*y c) n=0
 | 0,Q,h=>absurd h (by show (1:Rat) ≠ 0;decide)
 | n+1,Q,h=>by
  have step:∀ B:Mt,B 0 0 ≠ 0->dt (n+1) B=0->∃ y:Nat->Rat,(∃ i,i<n+1/\y i ≠ 0)/\∀ r,r<n+1->sumTo (λc=>B r c*y c) (n+1)=0:=λB b0 hB=>by
   rw [dt_red B b0] at hB
   have hr:dt n (red B)=0:=by
    rcases j0g.mp hB with z | z
    ·exact absurd z b0
    ·exact z
   obtain ⟨y,⟨i,hi,yi⟩,k⟩:=null_of n (red B) hr;obtain ⟨s,hs⟩:∃ s,s=sumTo (λc=>B 0 (c+1)*y c) n:=⟨_,rfl⟩;have inv:=z0w _ b0;obtain ⟨z,z0,zs⟩:∃ z:Nat->Rat,z 0=-(s*(B 0 0)⁻¹)/\∀ c,z (c+1)=y c:=⟨λc=>if c=0 then -(s*(B 0 0)⁻¹) else y (c-1),rfl,λc=>rfl⟩;refine ⟨z,⟨i+1,⋯,by rw [zs];exact yi⟩,λr hr'=>?_⟩
   rw [sumTo_first,sumTo_congr (g:=λc=>B r (c+1)*y c) λc _=>by rw [zs],z0]
   generalize (B 0 0)⁻¹=v at *
   cases r with
   | zero=>rw [<- hs];grind
   | succ r =>
    have e:=k r ⋯;have e2:sumTo (λc=>red B r c*y c) n=sumTo (λc=>B (r+1) (c+1)*y c+(-(B (r+1) 0*(B 0 0)⁻¹))*(B 0 (c+1)*y c)) n:=sumTo_congr λc _=>by unfold red;grind
    rw [e2,<- sumTo_add,<- sumTo_mul,<- hs] at e
    have:(B 0 0)⁻¹=v:=by
     have:=z0w _ b0;have h3:v*(B 0 0*(B 0 0)⁻¹)=v:=by rw [this,Rat.mul_one]
     grind
    grind
  by_cases z:∃ r,r<n+1/\Q r 0 ≠ 0
  ·obtain ⟨r,hr,q0⟩:=z
   by_cases r0:r=0
   ·subst r0;exact step Q q0 h
   ·obtain ⟨y,ny,k⟩:=step (swU Q 0 r) (by unfold swU;rw [if_pos rfl];exact q0) (by rw [dt_swU ⋯ hr (Ne.symm r0),h];grind)
    refine ⟨y,ny,λi hi=>?_⟩
    by_cases a:i=0
    ·have:=k r hr
     rw [sumTo_congr (g:=λc=>Q 0 c*y c) λc _=>by unfold swU;rw [if_neg r0,if_pos rfl]] at this
     rw [a];exact this
    ·by_cases b:i=r
     ·have:=k 0 ⋯
      rw [sumTo_congr (g:=λc=>Q r c*y c) λc _=>by unfold swU;rw [if_pos rfl]] at this
      rw [b];exact this
     ·have:=k i hi
      rw [sumTo_congr (g:=λc=>Q i c*y c) λc _=>by unfold swU;rw [if_neg a,if_neg b]] at this
      exact this
  ·refine ⟨λc=>dij c 0,⟨0,⋯,by show (if (0:Nat)=0 then (1:Rat) else 0) ≠ 0;rw [if_pos rfl];decide⟩,λr hr=>?_⟩
   rw [sum_dl (λc=>Q r c) ⋯];exact Classical.byContradiction λx=>z ⟨r,hr,x⟩
theorem sum_dr (f:Nat->Rat) {n c:Nat} (hc:c<n):sumTo (λt=>dij c t*f t) n=f c:=by
 rw [sumTo_congr (g:=λt=>f t*dij t c) λt _=>by unfold dij;split <;> split <;> grind]
 exact sum_dl f hc
def mm (n:Nat) (A B:Mt):Mt:=λi j=>sumTo (λt=>A i t*B t j) n
theorem mm_assoc (n:Nat) (A B C:Mt) (i j:Nat):mm n (mm n A B) C i j=mm n A (mm n B C) i j:=by
 unfold mm
 rw [sumTo_congr (g:=λt=>sumTo (λu=>A i u*(B u t*C t j)) n) λt _=>by
  rw [g0b,sumTo_mul];exact sumTo_congr λu _=>by grind]
 rw [sumTo_comm (λt u=>A i u*(B u t*C t j)) n n];exact sumTo_congr λu _=>by rw [sumTo_mul]
theorem mm_congr {n:Nat} {A B C D:Mt} {i j:Nat} (h:∀ t,t<n->A i t=C i t) (k:∀ t,t<n->B t j=D t j):mm n A B i j=mm n C D i j:=sumTo_congr λt ht=>by rw [h t ht,k t ht]
theorem dt_left {n:Nat} {Q S:Mt} (e:∀ i j,i<n->j<n->mm n S Q i j=dij i j):dt n Q ≠ 0:=λh=>by
 obtain ⟨y,⟨i,hi,yi⟩,k⟩:=null_of n Q h;have e1:=mm_assoc n S Q (λt _=>y t) i 0
 have e2:mm n (mm n S Q) (λt _=>y t) i 0=y i:=by
  rw [mm_congr (C:=dij) (D:=λt _=>y t) (λt ht=>e i t hi ht) λ_ _=>rfl];exact sum_dr y hi
 have e3:mm n S (mm n Q λt _=>y t) i 0=0:=by
  unfold mm;rw [sumTo_congr (g:=λt=>0*S i t) λt ht=>by rw [k t ht];grind,<- sumTo_mul,Rat.zero_mul]
 exact yi (by rw [<- e2,e1,e3])
theorem right_uniq {n:Nat} {A B Q:Mt} (h:dt n Q ≠ 0) (e:∀ i j,i<n->j<n->mm n A Q i j=mm n B Q i j) {i j:Nat} (hi:i<n) (hj:j<n):A i j=B i j:=by
 have:=indep h (x:=λt=>A i t-B i t) (λc hc=>?_) hj
 ·have z:A i j-B i j=0:=this
  grind
 ·rw [sumTo_congr (g:=λt=>A i t*Q t c+(-1)*(B i t*Q t c)) λt _=>by grind,<- sumTo_add,<- sumTo_mul]
  have:=e i c hi hc;unfold mm at this;rw [this];grind
theorem list_aqN {L:List Rat} {n:Nat} (h:L.length=n):L=(q0z n).map (aQ L):=by
 refine g0m λi=>?_
 by_cases hi:i<n
 ·rw [q0e,z0y hi,q0c ⋯]
  show _=some ((L[i]?).getD 0);rw [q0c ⋯];rfl
 ·rw [j0k ⋯,j0k (by rw [q0b,z0h];omega)]
structure TabF (n:Nat) (M:List (List Rat)) (f:Mt):Prop where
 len:M.length=n
 row:∀ L ∈ M,L.length=n
 at':∀ i j,i<n->j<n->qq M i j=f i j
theorem TabF.of {n:Nat} {M:List (List Rat)} (l:M.length=n) (r:∀ L ∈ M,L.length=n):TabF n M (qq M):=⟨l,r,λ_ _ _ _=>rfl⟩
theorem TabF.to {n:Nat} {M:List (List Rat)} {f g:Mt} (h:TabF n M f) (e:∀ i j,i<n->j<n->f i j=g i j):TabF n M g:=⟨h.len,h.row,λi j hi hj=>by rw [h.at' i j hi hj,e i j hi hj]⟩
theorem TabF.eq {n:Nat} {M N:List (List Rat)} {f:Mt} (h:TabF n M f) (k:TabF n N f):M=N:=by
 have lM:=h.len;have lN:=k.len;refine g0m λi=>?_
 by_cases hi:i<n
 ·have e1:=q0c (l:=M) (i:=i) ⋯
  have e2:=q0c (l:=N) (i:=i) ⋯;rw [e1,e2]
  congr 1
  rw [list_aqN (h.row _ (q0g e1)),list_aqN (k.row _ (q0g e2))];refine m0v λj hj=>?_;have:=(h.at' i j hi (v0f.mp hj)).trans (k.at' i j hi (v0f.mp hj)).symm;unfold qq at this;rw [e1,e2] at this;exact this
 ·rw [j0k ⋯,j0k ⋯]
theorem TabF.prod {n:Nat} {A B:List (List Rat)} {f g:Mt} (h:TabF n A f) (k:TabF n B g):TabF n (prodQ A B) (mm n f g):=by
 have lA:=h.len;have lB:=k.len;refine ⟨by rw [prod_len,lA],λL hL=>?_,λi j hi hj=>?_⟩
 ·obtain ⟨L0,_,rfl⟩:=z0k.mp hL
  rw [q0b];unfold flipQ;rw [q0b,z0h,lB]
 ·have e1:=q0c (l:=A) (i:=i) ⋯
  have rl:=h.row _ (q0g e1);have cl:(colQ B j).length=n:=by rw [col_len,lB]
  unfold qq;rw [prod_get e1]
  show ((((flipQ B B.length).map (dotQ A[i]))[j]?).getD 0)=_;unfold flipQ;rw [lB,g0t,q0e,z0y hj]
  show dotQ _ (colQ B j)=_;rw [list_aqN rl,list_aqN cl,dot_range];refine sumTo_congr λt ht=>?_;have a1:=h.at' i t hi ht;have a2:=k.at' t j ht hj;unfold qq at a1 a2;rw [e1] at a1;have e2:=q0c (l:=B) (i:=t) ⋯;rw [e2] at a2;rw [<- a1,<- a2]
  congr 1
  unfold aQ colQ;rw [q0e,e2];rfl
theorem TabF.map {n:Nat} {A:List (List Rat)} {f:Mt} (F:Rat->Rat) (h:TabF n A f):TabF n (A.map λL=>L.map F) (λi j=>F (f i j)):=by
 have lA:=h.len;refine ⟨by rw [q0b,lA],λL hL=>?_,λi j hi hj=>?_⟩
 ·obtain ⟨L0,h0,rfl⟩:=z0k.mp hL
  rw [q0b,h.row _ h0]
 ·have e1:=q0c (l:=A) (i:=i) ⋯
  have r1:=h.row _ (q0g e1);rw [<- h.at' i j hi hj];unfold qq;rw [q0e,e1]
  show ((A[i].map F)[j]?).getD 0=F ((A[i][j]?).getD 0);rw [q0e,q0c (l:=A[i]) ⋯];rfl
theorem TabF.unit (n:Nat):TabF n (unitQ n) dij:=by
 refine ⟨by unfold unitQ;rw [q0b,z0h],λL hL=>?_,λi j hi hj=>?_⟩
 ·obtain ⟨i,_,rfl⟩:=z0k.mp hL
  rw [q0b,z0h]
 ·unfold qq unitQ
  rw [q0e,z0y hi]
  show ((((q0z n).map λj=>if i=j then (1:Rat) else 0)[j]?).getD 0)=_;rw [q0e,z0y hj];rfl
end R

set_option maxRecDepth 100000
namespace R
open PySem L2 PyProof.Rows
def Inv (n:Nat) (T:Mt):Prop:=∃ Y:Mt,∀ i j,i<n->j<n->mm n T Y i j=dij i j
theorem Inv.congr {n:Nat} {T U:Mt} (h:Inv n T) (e:∀ i j,i<n->j<n->U i j=T i j):Inv n U:=by
 obtain ⟨Y,k⟩:=h;exact ⟨Y,λi j hi hj=>(mm_congr (λt ht=>e i t hi ht) λ_ _=>rfl).trans (k i j hi hj)⟩
theorem Inv.unit (n:Nat):Inv n dij:=⟨dij,λi j hi hj=>sum_dl (λt=>dij i t) hj⟩
theorem Inv.mul {n:Nat} {T R:Mt} (h:Inv n T) (k:Inv n R):Inv n (mm n T R):=by
 obtain ⟨Y,hY⟩:=h;obtain ⟨Z,hZ⟩:=k;refine ⟨mm n Z Y,λi j hi hj=>?_⟩;rw [mm_assoc,mm_congr (C:=T) (D:=Y) (λ_ _=>rfl) (λt ht=>?_),hY i j hi hj];rw [<- mm_assoc,mm_congr (C:=dij) (D:=Y) (λu hu=>hZ t u ht hu) λ_ _=>rfl];exact sum_dr (λu=>Y u j) ht
theorem Inv.step {n:Nat} {T U E F:Mt} (h:Inv n T) (e:∀ i j,i<n->j<n->U i j=mm n E T i j) (f:∀ i j,i<n->j<n->mm n E F i j=dij i j):Inv n U:=(Inv.mul ⟨F,f⟩ h).congr e
theorem Inv.add {n:Nat} {T U:Mt} (h:Inv n T) {i j:Nat} (q:Rat) (hi:i<n) (hj:j<n) (ij:i ≠ j) (e:∀ r c,r<n->c<n->U r c=if r=i then T i c+q*T j c else T r c):Inv n U:=by
 have s:∀ (k:Rat) (f:Nat->Rat) (r:Nat),r<n->sumTo (λt=>(dij r t+k*(dij r i*dij j t))*f t) n=f r+k*(dij r i*f j):=λk f r hr=>by
  rw [sumTo_congr (g:=λt=>dij r t*f t+(k*dij r i)*(dij j t*f t)) λt _=>by grind,<- sumTo_add,<- sumTo_mul,sum_dr f hr,sum_dr f hj]
  grind
 refine h.step (E:=λr t=>dij r t+q*(dij r i*dij j t)) (F:=λr t=>dij r t + -q*(dij r i*dij j t)) (λr c hr hc=>?_) (λr c hr hc=>?_)
 ·unfold mm
  rw [s q (λt=>T t c) r hr,e r c hr hc];unfold dij
  by_cases z:r=i
  ·rw [if_pos z,if_pos z,z];grind
  ·rw [if_neg z,if_neg z];grind
 ·unfold mm
  rw [s q (λt=>dij t c + -q*(dij t i*dij j c)) r hr];have:dij j i=0:=if_neg (Ne.symm ij);rw [this];grind
theorem Inv.scale {n:Nat} {T U:Mt} (h:Inv n T) {i:Nat} {q:Rat} (q0:q ≠ 0) (hi:i<n) (e:∀ r c,r<n->c<n->U r c=if r=i then q*T i c else T r c):Inv n U:=by
 have s:∀ (k:Nat->Rat) (f:Nat->Rat) (r:Nat),r<n->sumTo (λt=>(k r*dij r t)*f t) n=k r*f r:=λk f r hr=>by
  rw [sumTo_congr (g:=λt=>k r*(dij r t*f t)) λt _=>by grind,<- sumTo_mul,sum_dr f hr]
 refine h.step (E:=λr t=>(if r=i then q else 1)*dij r t) (F:=λr t=>(if r=i then q⁻¹ else 1)*dij r t) (λr c hr hc=>?_) (λr c hr hc=>?_)
 ·unfold mm
  rw [s (λr=>if r=i then q else 1) (λt=>T t c) r hr,e r c hr hc]
  by_cases z:r=i
  ·rw [if_pos z,if_pos z,z]
  ·rw [if_neg z,if_neg z];grind
 ·unfold mm
  rw [s (λr=>if r=i then q else 1) (λt=>(if t=i then q⁻¹ else 1)*dij t c) r hr];have:=z0w _ q0
  by_cases z:r=i
  ·rw [if_pos z,if_pos z];grind
  ·rw [if_neg z,if_neg z];grind
theorem Inv.swap {n:Nat} {T U:Mt} (h:Inv n T) {i j:Nat} (hi:i<n) (hj:j<n) (e:∀ r c,r<n->c<n->U r c=if r=j then T i c else if r=i then T j c else T r c):Inv n U:=by
 obtain ⟨s,hs⟩:∃ s:Nat->Nat,∀ r,s r=if r=j then i else if r=i then j else r:=⟨_,λ_=>rfl⟩;have sl:∀ r,r<n->s r<n:=λr hr=>by rw [hs];split <;> (try split) <;> omega
 have ss:∀ r,s (s r)=r:=λr=>by
  rw [hs,hs r]
  by_cases a:r=j
  ·rw [if_pos a]
   by_cases b:i=j
   ·rw [if_pos b];omega
   ·rw [if_neg b,if_pos rfl];omega
  ·rw [if_neg a]
   by_cases b:r=i
   ·rw [if_pos b,if_pos rfl];omega
   ·rw [if_neg b,if_neg a,if_neg b]
 refine h.step (E:=λr t=>dij (s r) t) (F:=λr t=>dij (s r) t) (λr c hr hc=>?_) (λr c hr hc=>?_)
 ·unfold mm
  rw [sum_dr (λt=>T t c) (sl r hr),e r c hr hc,hs]
  split
  ·rfl
  ·split <;> rfl
 ·unfold mm
  rw [sum_dr (λt=>dij (s t) c) (sl r hr),ss]
def fmd (n:Nat) (d:Vc) (T:Mt):Mt:=λi j=>sumTo (λk=>d k*(T k i*T k j)) n
theorem fmd_bl (n:Nat) (d:Vc) (T:Mt) (v w:Vc):bl n (fmd n d T) v w=sumTo (λk=>d k*(lf n (T k) v*lf n (T k) w)) n:=by
 unfold bl af lf fmd
 have e1:∀ i,sumTo (λj=>sumTo (λk=>d k*(T k i*T k j)) n*w j) n=sumTo (λk=>d k*T k i*sumTo (λj=>T k j*w j) n) n:=λi=>by
  rw [sumTo_congr (g:=λj=>sumTo (λk=>d k*T k i*(T k j*w j)) n) λj _=>by
   rw [g0b,sumTo_mul];exact sumTo_congr λk _=>by grind]
  rw [sumTo_comm (λj k=>d k*T k i*(T k j*w j)) n n];exact sumTo_congr λk _=>(sumTo_mul _ _ _).symm
 rw [sumTo_congr (g:=λi=>sumTo (λk=>d k*(T k i*v i*sumTo (λj=>T k j*w j) n)) n) λi _=>by
  show v i*sumTo (λj=>sumTo (λk=>d k*(T k i*T k j)) n*w j) n=_;rw [e1,sumTo_mul];exact sumTo_congr λk _=>by grind]
 rw [sumTo_comm (λi k=>d k*(T k i*v i*sumTo (λj=>T k j*w j) n)) n n];refine sumTo_congr λk _=>?_;rw [<- sumTo_mul]
 congr 1
 rw [g0b,sumTo_mul];exact sumTo_congr λi _=>by grind
theorem bl_congr {n:Nat} {A B:Mt} (h:∀ i j,i<n->j<n->A i j=B i j) (v w:Vc):bl n A v w=bl n B v w:=by
 unfold bl af lf
 exact sumTo_congr λi hi=>by
  show v i*sumTo (λj=>A i j*w j) n=v i*sumTo (λj=>B i j*w j) n;rw [sumTo_congr λj hj=>by rw [h i j hi hj]]
theorem Frm.made {n:Nat} {A T:Mt} {d:Vc} (h:Inv n T) (e:∀ i j,i<n->j<n->A i j=fmd n d T i j):Frm n A d:=by
 obtain ⟨Y,hY⟩:=h;refine ⟨λi t=>Y t i,T,λi hi j hj=>?_,λv=>?_⟩
 ·rw [bl_congr e,fmd_bl]
  have e2:∀ k i,k<n->i<n->lf n (T k) (λt=>Y t i)=dij k i:=λk i hk hi=>hY k i hk hi;rw [sumTo_congr (g:=λk=>d k*dij k i*dij k j) λk hk=>by rw [e2 k i hk hi,e2 k j hk hj];grind]
  rw [sum_dl (λk=>d k*dij k i) hj];unfold dij
  by_cases z:j=i
  ·rw [if_pos z,if_pos z.symm,z];grind
  ·rw [if_neg z,if_neg (Ne.symm z)];grind
 ·rw [bl_congr e,fmd_bl]
theorem fmd_sy (n:Nat) (d:Vc) (T:Mt):Sy n (fmd n d T):=λi _ j _=>sumTo_congr λk _=>by grind
theorem fmd_turn (n:Nat) (d:Vc) (T R:Mt) (i j:Nat):mm n (λa b=>R b a) (mm n (fmd n d T) R) i j=fmd n d (mm n T R) i j:=by
 have:=fmd_bl n d T (λt=>R t i) (λt=>R t j);have e1:bl n (fmd n d T) (λt=>R t i) (λt=>R t j)=mm n (λa b=>R b a) (mm n (fmd n d T) R) i j:=rfl;rw [<- e1,this];rfl
theorem fmd_nn {n:Nat} {d:Vc} (T:Mt) (h:∀ k,k<n->0<=d k) (v:Vc):0<=bl n (fmd n d T) v v:=by
 rw [fmd_bl];exact sumTo_nonneg n λk hk=>v0v (h k hk) (sq_nn _)
theorem fmd_ps {n:Nat} {d:Vc} {T:Mt} (i:Inv n T) (h:∀ k,k<n->0<d k) {v:Vc} (nv:∃ i,i<n/\v i ≠ 0):0<bl n (fmd n d T) v v:=by
 rw [fmd_bl];refine sumTo_pos n (λk hk=>v0v (Rat.le_of_lt (h k hk)) (sq_nn _)) (Classical.byContradiction λne=>?_);obtain ⟨Y,hY⟩:=i;obtain ⟨s,hs,vs⟩:=nv;have z:∀ k,k<n->lf n (T k) v=0:=λk hk=>Classical.byContradiction λx=>ne ⟨k,hk,Rat.mul_pos (h k hk) (sq_ps x)⟩;have dY:dt n Y ≠ 0:=dt_left hY
 have yt:∀ i j,i<n->j<n->mm n Y T i j=dij i j:=λi j hi hj=>right_uniq dY (A:=mm n Y T) (B:=dij) (λi c hi hc=>by
  rw [mm_assoc,mm_congr (C:=Y) (D:=dij) (λ_ _=>rfl) (λt ht=>hY t c ht hc),show mm n Y dij i c=_ from sum_dl (λt=>Y i t) hc,show mm n dij Y i c=_ from sum_dr (λt=>Y t c) hi]) hi hj
 refine vs ?_
 have e1:v s=mm n (mm n Y T) (λt _=>v t) s 0:=by
  rw [mm_congr (C:=dij) (D:=λt _=>v t) (λt ht=>yt s t hs ht) λ_ _=>rfl];exact (sum_dr v hs).symm
 rw [e1,mm_assoc];unfold mm
 exact sumTo_zero n λt ht=>by
  rw [show sumTo (λu=>T t u*v u) n=0 from z t ht];grind
theorem ovb_row {B C W s s':Nat} {a b q:Rat} (hB:0<B) (hC:0<C) (ha:OvB B W a) (hb:OvB B W b) (hq:OvB C s q) (h:C+2 ^ s<=2 ^ s'+1):OvB (B*C) (W+s') (a+q*b):=by
 obtain ⟨x,rfl,hx⟩:=ha;obtain ⟨y,rfl,hy⟩:=hb;obtain ⟨z,rfl,hz⟩:=hq;refine ⟨x*C+z*y,?_,?_⟩
 ·have nB:(B:Int) ≠ 0:=⋯
  have nC:(C:Int) ≠ 0:=⋯;rw [v0b,u0r _ _ nB (y0v nC nB),z0e (y0v nB (y0v nC nB)) (by rw [j0c];exact y0v nB nC),j0c]
  grind
 ·have t:=g0k (x*C) (z*y)
  rw [z0g,z0g,q0v] at t
  have h1:x.natAbs*C<=2 ^ W*C-C:=by
   rw [<- Nat.sub_one_mul];exact v0z _ ⋯
  have h2:z.natAbs*y.natAbs<=(2 ^ s-1)*2 ^ W:=y0e ⋯ ⋯;have h3:2 ^ W*(C+(2 ^ s-1))<=2 ^ W*2 ^ s':=v0m _ ⋯;rw [j0d];rw [q1c] at h3;rw [u0e (2 ^ s-1)] at h2;have h4:C<=2 ^ W*C:=y0y _ (u0z _);omega
structure TabO (B W:Nat) (M:List (List Rat)):Prop where
 n7:M.length<=7
 B0:0<B
 BW:B<2 ^ W
 row:∀ L ∈ M,L.length=M.length/\∀ q ∈ L,OvB B W q
theorem TabO.bd {B W:Nat} {M:List (List Rat)} (h:TabO B W M):∀ L ∈ M,L.length=M.length/\∀ x ∈ L,BdN W x:=λL hL=>⟨(h.row L hL).1,λx hx=>OvB.bdN h.B0 h.BW ((h.row L hL).2 x hx)⟩
theorem TabO.tf {B W:Nat} {M:List (List Rat)} (h:TabO B W M):TabF M.length M (qq M):=TabF.of rfl λL hL=>(h.row L hL).1
theorem TabO.up {B W C c:Nat} {M:List (List Rat)} (h:TabO B W M) (hC:0<C) (hc:C<2 ^ c):TabO (B*C) (W+c) M:=⟨h.n7,y0u h.B0 hC,by rw [j0d];exact j0h h.BW hc,λL hL=>⟨(h.row L hL).1,λq hq=>((h.row L hL).2 q hq).up h.B0 hC hc⟩⟩
theorem TabO.mono {B V' W:Nat} {M:List (List Rat)} (h:TabO B V' M) (l:V'<=W):TabO B W M:=⟨h.n7,h.B0,q0f h.BW (pow_le_pow2 l),λL hL=>⟨(h.row L hL).1,λq hq=>((h.row L hL).2 q hq).mono l⟩⟩
theorem TabO.setR {B W:Nat} {M:List (List Rat)} (h:TabO B W M) {i:Nat} {L':List Rat} (l:L'.length=M.length) (r:∀ q ∈ L',OvB B W q):TabO B W (M.set i L'):=⟨by rw [j0p];exact h.n7,h.B0,h.BW,λL hL=>by
 rw [j0p];rcases v0e hL with z | rfl
 ·exact h.row L z
 ·exact ⟨l,r⟩⟩
theorem TabO.unit {n:Nat} (n7:n<=7):TabO 1 1 (unitQ n):=by
 have t:=TabF.unit n;refine ⟨by rw [t.len];exact n7,by decide,by decide,λL hL=>⟨by rw [t.row L hL,t.len],λq hq=>?_⟩⟩
 obtain ⟨i,_,rfl⟩:=z0k.mp hL;obtain ⟨j,_,rfl⟩:=z0k.mp hq
 split
 ·exact ⟨1,rfl,by decide⟩
 ·exact OvB.zero _ _
theorem TabO.at {B W:Nat} {M:List (List Rat)} (h:TabO B W M) (i j:Nat):OvB B W (qq M i j):=by
 unfold qq
 cases e:M[i]? with
 | none=>exact OvB.zero _ _
 | some L =>
  show OvB B W (aQ L j);unfold aQ
  cases f:L[j]? with
  | none=>exact OvB.zero _ _
  | some q=>exact (h.row L (q0g e)).2 q (q0g f)
theorem TabO.flip {B W:Nat} {M:List (List Rat)} (h:TabO B W M):TabO B W (flipQ M M.length):=by
 have l:(flipQ M M.length).length=M.length:=by unfold flipQ;rw [q0b,z0h]
 refine ⟨by rw [l];exact h.n7,h.B0,h.BW,λL hL=>?_⟩
 obtain ⟨j,_,rfl⟩:=z0k.mp hL;refine ⟨by rw [l,col_len],λq hq=>?_⟩
 obtain ⟨L,hL,rfl⟩:=z0k.mp hq
 cases e:L[j]? with
 | none=>exact OvB.zero _ _
 | some q=>exact (h.row L hL).2 q (q0g e)
theorem TabO.prod {B W C V':Nat} {M N:List (List Rat)} (h:TabO B W M) (k:TabO C V' N) (e:M.length=N.length):TabO (B*C) (W+V'+7) (prodQ M N):=by
 have l:=prod_len M N;have n7:=h.n7;refine ⟨by rw [l];exact n7,y0u h.B0 k.B0,q0f (by rw [j0d];exact j0h h.BW k.BW:B*C<2 ^ (W+V')) (pow_le_pow2 ⋯),λL hL=>?_⟩
 obtain ⟨L0,h0,rfl⟩:=z0k.mp hL;obtain ⟨r1,r2⟩:=h.row L0 h0;refine ⟨by rw [q0b,l];unfold flipQ;rw [q0b,z0h,e],λq hq=>?_⟩
 obtain ⟨C',hC',rfl⟩:=z0k.mp hq;exact (ovb_dot h.B0 k.B0 r2 (k.flip.row C' hC').2).mono ⋯
theorem aq_mem {L:List Rat} {k:Nat} (h:k<L.length):aQ L k ∈ L:=by
 have e:=q0c (l:=L) (i:=k) h;unfold aQ;rw [e];exact q0g e
theorem aq_at {L:List Rat} {k:Nat} (h:k<L.length):L[k]? = some (aQ L k):=by
 have e:=q0c (l:=L) (i:=k) h;unfold aQ;rw [e];rfl
theorem new_anyL {H:Hp} {p:Addr} (o:HO) (h:H p=none):∃ H',H'=upd H p o/\Same H H'/\H' p=some o:=⟨_,rfl,Same.new h o,upd_same⟩
theorem RwsS.set {H:Hp}:∀ {ts:List Addr} {M:List (List Rat)} (k:Nat) {p:Addr} {xs:List V} {L:List Rat},Rws H ts M->H p=some (.lst xs)->Nums H xs L->Rws H (ts.set k p) (M.set k L)
 | _,_,_,_,_,_,.nil,_,_=>.nil
 | _,_,0,_,_,_,.cons _ _ t,e,f=>.cons e f t
 | _,_,k+1,_,_,_,.cons h n t,e,f=>.cons h n (RwsS.set k t e f)
structure LkAt (u:Addr) (H:Hp) (l:Addr) (us:List Addr) (M:List (List Rat)) (H3:Hp):Prop where
 same:SameX u H H3
 urn:UrnAt H3 u
 fr:H l=none
 lu:l ≠ u
 at':H3 l=some (.lst (us.map V.ref))
 nl:l ∉ us
 nu:∀ t ∈ us,t ≠ u
 nf:∀ t ∈ us,H t=none
 rws:Rws H3 us M
theorem LkAt.x {u l:Addr} {H H3 H4:Hp} {us:List Addr} {M:List (List Rat)} (d:LkAt u H l us M H3) (s:SameX u H3 H4) (hu:UrnAt H4 u):LkAt u H l us M H4:=⟨d.same.trans s,hu,d.fr,d.lu,s _ _ d.at' d.lu,d.nl,d.nu,d.nf,d.rws.samex s d.urn d.nu⟩
theorem LkAt.s {u l:Addr} {H H3 H4:Hp} {us:List Addr} {M:List (List Rat)} (d:LkAt u H l us M H3) (s:Same H3 H4):LkAt u H l us M H4:=d.x (Same.x s u) (Same.urn s d.urn)
theorem LkAt.put {u l:Addr} {H H3:Hp} {us:List Addr} {M:List (List Rat)} (d:LkAt u H l us M H3) (i:Nat) {D:Addr} {zs:List V} {L':List Rat} (eD:H3 D=some (.lst zs)) (nD:Nums H3 zs L') (dl:D ≠ l) (du:D ≠ u) (df:H D=none):LkAt u H l (us.set i D) (M.set i L') (upd H3 l (.lst ((us.map V.ref).set i (V.ref D)))):=by
 have nl:l ∉ us.set i D:=λz=>by
  rcases v0e z with z | z
  ·exact d.nl z
  ·exact dl z.symm
 refine ⟨λb o h n=>?_,d.urn.other d.lu,d.fr,d.lu,by rw [upd_same,List.map_set],nl,λt ht=>?_,λt ht=>?_,(RwsS.set i d.rws eD nD).over d.at' nl⟩
 ·rw [upd_ne (ne_of_none h d.fr)]
  exact d.same _ _ h n
 ·rcases v0e ht with z | z
  ·exact d.nu t z
  ·rw [z];exact du
 ·rcases v0e ht with z | z
  ·exact d.nf t z
  ·rw [z];exact df
theorem LkAt.row {u l:Addr} {H H3:Hp} {us:List Addr} {M:List (List Rat)} (d:LkAt u H l us M H3) {i:Nat} (hi:i<M.length):∃ p xs L,us[i]? = some p/\(us.map V.ref)[i]? = some (.ref p)/\M[i]? = some L/\H3 p=some (.lst xs)/\Nums H3 xs L:=by
 obtain ⟨p,hp⟩:∃ p,us[i]? = some p:=⟨_,q0c (by rw [d.rws.length];exact hi)⟩
 obtain ⟨xs,L,a,b,c⟩:=d.rws.get hp;exact ⟨p,xs,L,hp,by rw [q0e,hp];rfl,a,b,c⟩
end R

set_option maxRecDepth 100000
namespace R
open PySem L2 PyProof.Rows
structure BtN (k:Nat) (q:Rat):Prop where
 n:q.num.natAbs<2 ^ 20000
 d:q.den<2 ^ k
theorem BtN.d' {n:Nat} {q:Rat} (b:BtN n q):(q.den:Int).natAbs<2 ^ n:=by rw [q0v];exact b.d
theorem BdN.t {n:Nat} {q:Rat} (b:BdN n q) (h:n<=20000):BtN n q:=⟨q0f b.n (pow_le_pow2 h),b.d⟩
theorem Nums.rep {H:Hp} {p:Addr} {q:Rat} (h:H p=some (.tup (numV q))):∀ n,Nums H (z0a n (.ref p)) (z0a n q)
 | 0=>.nil
 | n+1=>.cons h (Nums.rep h n)
section
variable {P:Program} {w:World} {K:q0a} {mg:Str->Option Value} {base:Heap}
def spLBin (K:q0a) (op:Rat->Rat->Rat):Sp:=λvs H Q _ => ∃ (x y:V) (p q:Rat) (m n:Nat),vs=[x,y]/\Num K H x p/\Num K H y q/\BtN m p/\BtN n q/\m+n<=6000/\NumRes H Q (op p q)
theorem denN {p q:Rat} {m n:Nat} (bp:BtN m p) (bq:BtN n q) (h:m+n<=6000):((p.den:Int)*q.den).natAbs<2 ^ 6000:=by
 rw [z0g];have:=j0h bp.d' bq.d';rw [<- j0d] at this;exact q0f this (pow_le_pow2 h)
theorem dens_ne (p q:Rat):(p.den:Int)*q.den ≠ 0:=Int.ne_of_gt (q1b (rat_den_pos p) (rat_den_pos q))
abbrev s__law_plus:Stmt:=top 38
theorem sc__law_plus:FnScope ["_law_one","_law_other_here"] ["_law_one","_law_other_here"] (defScope s__law_plus):=⟨rfl,rfl,rfl,by decide +kernel,rfl,by decide +kernel,by decide +kernel⟩
theorem ok__law_plus {f fl:Addr} (d:Df K mg "_law_plus" s__law_plus ["_law_one","_law_other_here"] f) (G__law_low:Def P w K mg base CX0 1 "_law_low" fl ["_law_top","_law_bottom"] spLow):Def P w K mg base CX0 2 "_law_plus" f ["_law_one","_law_other_here"] (spLBin K (· + ·)):=by
 refine d.ok (N:=["_law_one","_law_other_here"]) sc__law_plus (by rintro vs H Q E ⟨x,y,p,q,m,n,h,_⟩;rw [h];rfl) (λcdv A outer s H vs Q E hr h=>?_)
 obtain ⟨x,y,p,q,m,n,rfl,⟨ap,rfl,hp⟩,⟨aq,rfl,hq⟩,bp,bq,hmn,k⟩:=h;refine ⟨_,(pss_one (ps_ret (pe_def G__law_low hr (pa_cons (pe_op op_add (pe_op op_mulB (pe_ix ix_tup (pv 0) pe_int (λ_ _=>rfl)) (pe_ix ix_tup (pv 1) pe_int (λ_ _=>rfl))) (pe_op op_mulB (pe_ix ix_tup (pv 1) pe_int (λ_ _=>rfl)) (pe_ix ix_tup (pv 0) pe_int (λ_ _=>rfl)))) (pa_cons (pe_op op_mulB (pe_ix ix_tup (pv 0) pe_int (λ_ _=>rfl)) (pe_ix ix_tup (pv 1) pe_int (λ_ _=>rfl))) pa_nil)) pass0))),?_⟩;rw [show start ["_law_one","_law_other_here"] [.ref ap,.ref aq]=[some (.ref ap),some (.ref aq)] from rfl]
 subst_eqs
 refine ⟨_,hp,_,at0 p,_,hq,_,at1 q,_,rfl,_,rfl,mulOk bp.n bq.d' ⋯,_,hq,_,at0 q,_,hp,_,at1 p,_,rfl,_,rfl,mulOk bq.n bp.d' ⋯,_,hp,_,at1 p,_,hq,_,at1 q,_,rfl,_,rfl,mulOk bp.d' bq.d' ⋯,?_⟩;refine ⟨_,_,rfl,dens_ne p q,denN bp bq hmn,?_⟩;rw [<- add_divInt];exact k
abbrev s__law_times:Stmt:=top 39
theorem sc__law_times:FnScope ["_law_one","_law_other_here"] ["_law_one","_law_other_here"] (defScope s__law_times):=⟨rfl,rfl,rfl,by decide +kernel,rfl,by decide +kernel,by decide +kernel⟩
theorem ok__law_times {f fl:Addr} (d:Df K mg "_law_times" s__law_times ["_law_one","_law_other_here"] f) (G__law_low:Def P w K mg base CX0 1 "_law_low" fl ["_law_top","_law_bottom"] spLow):Def P w K mg base CX0 2 "_law_times" f ["_law_one","_law_other_here"] (spLBin K (· * ·)):=by
 refine d.ok (N:=["_law_one","_law_other_here"]) sc__law_times (by rintro vs H Q E ⟨x,y,p,q,m,n,h,_⟩;rw [h];rfl) (λcdv A outer s H vs Q E hr h=>?_)
 obtain ⟨x,y,p,q,m,n,rfl,⟨ap,rfl,hp⟩,⟨aq,rfl,hq⟩,bp,bq,hmn,k⟩:=h;refine ⟨_,(pss_one (ps_ret (pe_def G__law_low hr (pa_cons (pe_op op_mulB (pe_ix ix_tup (pv 0) pe_int (λ_ _=>rfl)) (pe_ix ix_tup (pv 1) pe_int (λ_ _=>rfl))) (pa_cons (pe_op op_mulB (pe_ix ix_tup (pv 0) pe_int (λ_ _=>rfl)) (pe_ix ix_tup (pv 1) pe_int (λ_ _=>rfl))) pa_nil)) pass0))),?_⟩;rw [show start ["_law_one","_law_other_here"] [.ref ap,.ref aq]=[some (.ref ap),some (.ref aq)] from rfl]
 subst_eqs
 refine ⟨_,hp,_,at0 p,_,hq,_,at0 q,_,rfl,_,rfl,mulOk bp.n bq.n ⋯,_,hp,_,at1 p,_,hq,_,at1 q,_,rfl,_,rfl,mulOk bp.d' bq.d' ⋯,?_⟩;refine ⟨_,_,rfl,dens_ne p q,denN bp bq hmn,?_⟩;rw [<- mul_divInt];exact k
end
end R

set_option maxRecDepth 100000
namespace R
open PySem L2 PyProof.Rows
section
variable {P:Program} {w:World} {K:q0a} {mg:Str->Option Value} {base:Heap}
def tb (kd:Int):Nat:=if kd=0 then 11 else 4
def spLTurn:Sp:=λvs H Q _ => ∃ (u:Addr) (kd:Int) (n most:Nat),vs=[.ref u,.int kd,.int n,.int most]/\UrnAt H u/\(kd=0 \/ kd=1)/\1<=n/\n<=7/\most<=14/\∀ l us N B H',LkAt u H l us N H'->N.length=n->TabO B (1+tb kd*most) N->Inv n (qq N)->Q (.ref l) H'
theorem kd_num {kd:Int} (h:kd=0 \/ kd=1):∃ C s:Nat,0<C/\C<2 ^ tb kd/\C<2 ^ 10/\C+2 ^ s<=2 ^ tb kd+1/\s<=10/\tb kd<=11/\∀ q,NK kd q->OvB C s q/\BdN 10 q:=by
 rcases h with rfl | rfl
 ·exact ⟨60,10,by decide,by decide,by decide,by decide,by decide,by decide,λq h=>⟨h.ovb0,h.ovb0.bdN (by decide) (by decide)⟩⟩
 ·exact ⟨1,4,by decide,by decide,by decide,by decide,by decide,by decide,λq h=>⟨h.ovb1,(h.ovb1.mono (by decide)).bdN (by decide) (by decide)⟩⟩
abbrev s__law_turn:Stmt:=top 49
theorem sc__law_turn:FnScope ["_law_urn_here","_law_kind","_law_n","_law_most","_law_rows","_law_step","_law_i","_law_j","_law_way","_law_often"] ["_law_urn_here","_law_kind","_law_n","_law_most"] (defScope s__law_turn):=⟨rfl,rfl,rfl,by decide +kernel,rfl,by decide +kernel,by decide +kernel⟩
theorem ok__law_turn {f f1 f2 f3 f4 f5:Addr} (d:Df K mg "_law_turn" s__law_turn ["_law_urn_here","_law_kind","_law_n","_law_most"] f) (G__law_draw:Def P w K mg base CX0 1 "_law_draw" f1 ["_law_urn_here","_law_many"] spDraw) (GD__law_other:Def P w K mg base CX0 3 "_law_other" f2 ["_law_urn_here","_law_kind"] spOtherC) (G__law_plus:Def P w K mg base CX0 2 "_law_plus" f3 ["_law_one","_law_other_here"] (spLBin K (· + ·))) (G__law_times:Def P w K mg base CX0 2 "_law_times" f4 ["_law_one","_law_other_here"] (spLBin K (· * ·))) (G__law_unit:Def P w K mg base CX0 1 "_law_unit" f5 ["_law_n"] spUnitL) (n_range:mg "range" = none) (n_max:mg "max" = none) (n_zip:mg "zip" = none):Def P w K mg base CX0 4 "_law_turn" f ["_law_urn_here","_law_kind","_law_n","_law_most"] spLTurn:=by
 refine d.ok (N:=["_law_urn_here","_law_kind","_law_n","_law_most","_law_rows","_law_step","_law_i","_law_j","_law_way","_law_often"]) sc__law_turn (by rintro vs H Q E ⟨_,_,_,_,h,_⟩;rw [h];rfl) (λcdv A outer s H vs Q E hr h=>?_)
 obtain ⟨u,kd,n,most,rfl,hU,hkd,n1,n7,m14,k⟩:=h;have G__law_other:=GD__law_other;obtain ⟨C,sb,C0,Ct,C10,Cs,s10,t11,up⟩:=kd_num hkd;obtain ⟨t,ht⟩:∃ t,t=tb kd:=⟨_,rfl⟩;rw [<- ht] at Ct Cs t11
 refine ⟨_,(pss_cons (ps_set (i:=4) sc__law_turn.nd rfl (q0w rfl) (pe_def G__law_unit hr (pa_cons (pv 2) pa_nil) pass0))
   (pss_cons (ps_for PassesOwn.never rfl (pi_range1 rfl n_range (pa_cons (pe_def G__law_draw hr (pa_cons (pv 0) (pa_cons (pe_op op_add (pv 3) pe_int) pa_nil)) pass0) pa_nil)) (pg_name (i:=5) sc__law_turn.nd rfl (q0w rfl)) (pss_cons (ps_set (i:=6) sc__law_turn.nd rfl (q0w rfl) (pe_def G__law_draw hr (pa_cons (pv 0) (pa_cons (pv 2) pa_nil)) pass0))
   (pss_cons (ps_set (i:=7) sc__law_turn.nd rfl (q0w rfl) (pe_op op_modN (pe_op op_add (pe_op op_add (pv 6) pe_int) (pe_def G__law_draw hr (pa_cons (pv 0) (pa_cons (pe_callB (call_max2 rfl) rfl n_max (by decide +kernel) (pa_cons pe_int (pa_cons (pe_op op_sub (pv 2) pe_int) pa_nil))) pa_nil)) pass0)) (pv 2)))
   (pss_cons (ps_set (i:=8) sc__law_turn.nd rfl (q0w rfl) (pe_def G__law_draw hr (pa_cons (pv 0) (pa_cons pe_int pa_nil)) pass0))
   (pss_cons (ps_set (i:=9) sc__law_turn.nd rfl (z0p rfl) (pe_def G__law_other hr (pa_cons (pv 0) (pa_cons (pv 1) pa_nil)) pass0))
   (pss_one (ps_if (PW.pt (pw_and (pt_cmpR op_lt (pv 8) pe_int (nomark _)) (pw_and1 (pt_cmpR op_ne (pv 6) (pv 7) (nomark _))))) (pss_one (ps_asg (pe_comp (Nc:=["_law_often","_law_a","_law_b"]) (caps:=[some 9,none,none]) rfl (Caps.of (osc:=defScope s__law_turn) (N:=["_law_urn_here","_law_kind","_law_n","_law_most","_law_rows","_law_step","_law_i","_law_j","_law_way","_law_often"]) (ks:=["_law_often"]) rfl rfl rfl rfl (sub_cons rfl sub_nil) (by decide +kernel)) (pi_zip rfl n_zip (pa_cons (pe_ix ix_list (pv 4) (pv 6) (λ_ _=>rfl)) (pa_cons (pe_ix ix_list (pv 4) (pv 7) (λ_ _=>rfl)) pa_nil))) (λC s₂ H₂ fp pins=>(show PG _ _ (gTup K 2 (gCons (gName 1) (gCons (gName 2) gNil))) from by (refine pg_tup (n:=2) ?_ ?_ ?_ ?_;rfl;(refine pgs_cons ?_ ?_ ?_;(exact (pg_name (i:=1) (show z0f (["_law_often","_law_a","_law_b"]:List Str) by decide +kernel) rfl (q0w rfl) (z0p rfl)));(refine pgs_cons ?_ ?_ ?_;(exact (pg_name (i:=2) (show z0f (["_law_often","_law_a","_law_b"]:List Str) by decide +kernel) rfl (q0w rfl) (z0p rfl)));(exact pgs_nil);rfl);rfl);rfl;rfl))) (λC s₂ H₂ fp pins=>(pe_def G__law_plus hr (pa_cons (pv 1) (pa_cons (pe_def G__law_times hr (pa_cons (pv 0) (pa_cons (pv 2) pa_nil)) pass0) pa_nil)) pass0))) (pg_sub (pv 4) (pv 6) set_list))) (pss_one (ps_if (pt_cmpR op_eq (pv 8) pe_int (nomark _)) (pss_one (ps_asg (pe_tup (pa_cons (pe_ix ix_list (pv 4) (pv 7) (λ_ _=>rfl)) (pa_cons (pe_ix ix_list (pv 4) (pv 6) (λ_ _=>rfl)) pa_nil))) (show PG _ _ (gTup K 2 (gCons (gSub _ _ rSetL) (gCons (gSub _ _ rSetL) gNil))) from by (refine pg_tup (n:=2) ?_ ?_ ?_ ?_;rfl;(refine pgs_cons ?_ ?_ ?_;(exact (pg_sub (pv 4) (pv 6) set_list));(refine pgs_cons ?_ ?_ ?_;(exact (pg_sub (pv 4) (pv 7) set_list));(exact pgs_nil);rfl);rfl);rfl;rfl)))) (pss_one (ps_asg (pe_comp (Nc:=["_law_often","_law_a"]) (caps:=[some 9,none]) rfl (Caps.of (osc:=defScope s__law_turn) (N:=["_law_urn_here","_law_kind","_law_n","_law_most","_law_rows","_law_step","_law_i","_law_j","_law_way","_law_often"]) (ks:=["_law_often"]) rfl rfl rfl rfl (sub_cons rfl sub_nil) (by decide +kernel)) (pi_list (pe_ix ix_list (pv 4) (pv 6) (λ_ _=>rfl))) (λC s₂ H₂ fp pins=>(pg_name (i:=1) (show z0f (["_law_often","_law_a"]:List Str) by decide +kernel) rfl (q0w rfl) (z0p rfl))) (λC s₂ H₂ fp pins=>(pe_def G__law_times hr (pa_cons (pv 0) (pa_cons (pv 1) pa_nil)) pass0))) (pg_sub (pv 4) (pv 6) set_list))))))))))))
   (pss_one (ps_ret (pv 4))))),?_⟩
 rw [show start ["_law_urn_here","_law_kind","_law_n","_law_most","_law_rows","_law_step","_law_i","_law_j","_law_way","_law_often"] [.ref u,.int kd,.int n,.int most]=[some (.ref u),some (.int kd),some (.int n),some (.int most),none,none,none,none,none,none] from rfl]
 refine seq_cut (λσ H1 => ∃ (l:Addr) (us:List Addr),σ=[some (.ref u),some (.int kd),some (.int (n:Int)),some (.int (most:Int)),some (.ref l),none,none,none,none,none]/\LkAt u H l us (unitQ n) H1) (λN hN=>?_) ?_
 ·subst_eqs
  refine ⟨n,rfl,⋯,λr ts H1 s1 fr ft nd e1 R1=>hN _ _ ⟨r,ts,rfl,Same.x s1 u,Same.urn s1 hU,fr,urn_ne hU fr,e1,λz=>(ft r z).2 rfl,λt ht=>urn_ne hU (ft t ht).1,λt ht=>(ft t ht).1,R1⟩⟩
 rintro σ H1 ⟨l,us,rfl,D1⟩;obtain ⟨I,hI⟩:∃ I:Nat->L2.St->Hp->Prop,∀ c σ H4,I c σ H4 ↔ ∃ (us:List Addr) (N:List (List Rat)) (B:Nat) (o5 o6 o7 o8 o9:Option V),σ=[some (.ref u),some (.int kd),some (.int (n:Int)),some (.int (most:Int)),some (.ref l),o5,o6,o7,o8,o9]/\LkAt u H l us N H4/\N.length=n/\TabO B (1+t*c) N/\Inv n (qq N):=⟨_,λ_ _ _=>Iff.rfl⟩;have tU:=TabF.unit n;refine seq_cut (λσ H4 => ∃ c,c<=most/\I c σ H4) (λN hN=>?_) ?_
 ·refine ⟨_,rfl,_,rfl,_,_,rfl,rfl,u,_,rfl,D1.urn,Int.lt_add_one_iff.mpr (Int.natCast_nonneg _),Int.lt_of_lt_of_le (show (most:Int)+1<16 by omega) (by decide),λr H4 r0 r9 s4 u4=>?_⟩
  replace r9:r<(most:Int)+1:=r9
  refine ⟨_,rfl,⋯,⋯,for_range I ((hI _ _ _).mpr ⟨us,unitQ n,1,_,_,_,_,_,rfl,D1.x s4 u4,tU.len,by rw [Nat.mul_zero];exact TabO.unit n7,(Inv.unit n).congr tU.at'⟩) ?_ (λσ H5 h=>hN _ _ ⟨r.toNat,⋯,h⟩)⟩
  rintro c σ H5 hc h;obtain ⟨us,N,B,o5,o6,o7,o8,o9,rfl,D5,lN,oN,iN⟩:=(hI _ _ _).mp h;refine seq_cut (λσ H6 => ∃ (i:Nat),σ=[some (.ref u),some (.int kd),some (.int (n:Int)),some (.int (most:Int)),some (.ref l),some (.int (0+(c:Int))),some (.int (i:Int)),o7,o8,o9]/\SameX u H5 H6/\UrnAt H6 u/\i<n) (λN hN=>?_) ?_
  ·clean_wf
   refine ⟨D5.urn,⋯,⋯,λr H6 r0 r1 s6 u6=>?_⟩;obtain ⟨i,rfl⟩:∃ i:Nat,r=(i:Int):=⟨r.toNat,⋯⟩;exact hN _ _ ⟨i,rfl,s6,u6,⋯⟩
  rintro σ H6 ⟨i,rfl,s6,u6,hi⟩;refine seq_cut (λσ H7 => ∃ (j:Nat),σ=[some (.ref u),some (.int kd),some (.int (n:Int)),some (.int (most:Int)),some (.ref l),some (.int (0+(c:Int))),some (.int (i:Int)),some (.int (j:Int)),o8,o9]/\SameX u H6 H7/\UrnAt H7 u/\j<n) (λN hN=>?_) ?_
  ·clean_wf
   refine ⟨u6,?_,?_,λr H7 r0 r1 s7 u7=>⟨⋯,?_⟩⟩
   ·split <;> omega
   ·split <;> omega
   ·have h1:=y0r ((i:Int)+1+r) (show (0:Int)<(n:Int) by omega)
    have h2:=y0z ((i:Int)+1+r) (show (0:Int)<(n:Int) by omega)
    generalize ((i:Int)+1+r).fmod (n:Int)=z at h1 h2 ⊢;obtain ⟨j,rfl⟩:∃ j:Nat,z=(j:Int):=⟨z.toNat,⋯⟩;exact hN _ _ ⟨j,rfl,s7,u7,⋯⟩
  rintro σ H7 ⟨j,rfl,s7,u7,hj⟩;refine seq_cut (λσ H8 => ∃ (wy:Int),σ=[some (.ref u),some (.int kd),some (.int (n:Int)),some (.int (most:Int)),some (.ref l),some (.int (0+(c:Int))),some (.int (i:Int)),some (.int (j:Int)),some (.int wy),o9]/\SameX u H7 H8/\UrnAt H8 u) (λN hN=>?_) ?_
  ·clean_wf
   exact ⟨u7,by decide,by decide,λr H8 r0 r1 s8 u8=>hN _ _ ⟨r,rfl,s8,u8⟩⟩
  rintro σ H8 ⟨wy,rfl,s8,u8⟩;refine seq_cut (λσ H9 => ∃ (po:Addr) (q:Rat),σ=[some (.ref u),some (.int kd),some (.int (n:Int)),some (.int (most:Int)),some (.ref l),some (.int (0+(c:Int))),some (.int (i:Int)),some (.int (j:Int)),some (.int wy),some (.ref po)]/\SameX u H8 H9/\UrnAt H9 u/\H9 po=some (.tup (numV q))/\q ≠ 0/\OvB C sb q/\BdN 10 q) (λN hN=>?_) ?_
  ·simp only [rLen,rSum,rLst,tComp_eq,tCompIf_eq,iZip,rRep,tSl,tPart,tNoPart,rSlL,rAppend,iEnum,capSt,z0b,y0c,j0r,j0s,j0t,tSeq,tIfS,tAnd,tOr,tNot,tTest,tB,tOp,tUn,tBM0,tBM,tVar,tC,tCB,tRet,tAsg,gName,gSub,gTup,gCons,gNil,tCons,tNil,tPar,tTup,tLst,tIf,tAndV,tOrV,tNotV,tDef,tDrop,tNext,tNever,rI,rI0,rU,rBitLen,rIxL,rIxT,rSetL,rEq,rNe,rCount,rIsI,rCat,iRng1,iRng2,iList,iTup,cxOf,Cx.nox,Cx.wish,z0q,z0r,j0a,j0b,Option.some.injEq,V.int.injEq,V.bl.injEq,V.ref.injEq,V.str.injEq,exists_eq_left',exists_eq_left,exists_and_left,true_and,and_true,List.cons.injEq,reduceCtorEq,z0s,if_false,if_true,exists_const,↓reduceIte,tyV,z0j,j0y,exists_eq,j0n,j0j,j0q,decide_eq_true_eq,not_true_eq_false,not_false_eq_true,z0v,decide_eq_false_iff_not,y0n,y0d,and_assoc,false_and,false_or,or_false,spOtherC]
   exact ⟨u8,λr q H9 nk q0 s9 u9 e9=>hN _ _ ⟨r,q,rfl,s9,u9,e9,q0,up q nk⟩⟩
  rintro σ H9 ⟨po,q,rfl,s9,u9,epo,q0,oq,bq⟩;have S59:=((s6.trans s7).trans s8).trans s9;have D9:=D5.x S59 u9;have tc:t*c<=11*14:=y0e t11 ⋯;have lus:us.length=n:=by rw [D9.rws.length,lN]
  have lmap:(us.map V.ref).length=n:=by rw [q0b,lus]
  have oU:TabO (B*C) (1+t*(c+1)) N:=(oN.up C0 Ct).mono (by rw [g0u];omega)
  have pol:po ≠ l:=λz=>by rw [z,D9.at'] at epo;cases epo
  obtain ⟨pI,xI,LI,uI,gI,mI,eI,nI⟩:=D9.row (i:=i) ⋯;obtain ⟨pJ,xJ,LJ,uJ,gJ,mJ,eJ,nJ⟩:=D9.row (i:=j) ⋯;have bI:=oN.bd _ (q0g mI);have bJ:=oN.bd _ (q0g mJ);have rowI:=oN.row _ (q0g mI);have rowJ:=oN.row _ (q0g mJ);have lI:LI.length=n:=by rw [rowI.1,lN]
  have lJ:LJ.length=n:=by rw [rowJ.1,lN]
  have lxI:xI.length=n:=by rw [nI.length,lI]
  have lxJ:xJ.length=n:=by rw [nJ.length,lJ]
  have qI:∀ y,qq N i y=aQ LI y:=λy=>by unfold qq;rw [mI];rfl
  have qJ:∀ y,qq N j y=aQ LJ y:=λy=>by unfold qq;rw [mJ];rfl
  have scale:∃ x,SqL K H9 l x/\∃ x_1,atI x (i:Int)=some x_1/\∃ a_1,x_1=V.ref a_1/\(∃ xs,SqL K H9 a_1 xs)/\∀ D,H9 D=none->CompW (Itl K a_1) D [some (.ref po),none] (upd H9 D (.lst [])) (gName 1) (tDef (spLBin K λx1 x2=>x1*x2) E0 (tCons (tVar 0) (tCons (tVar 1) tNil))) λx H1 => ∃ x_2,H1 l=some (.lst x_2)/\∃ x_3,ixN x_2.length (i:Int)=some x_3/\I (c+1) [some (.ref u),some (.int kd),some (.int (n:Int)),some (.int (most:Int)),some (.ref l),some (.int (0+(c:Int))),some (.int (i:Int)),some (.int (j:Int)),some (.int wy),some (.ref po)] (upd H1 l (.lst (x_2.set x_3 x))):=by
   obtain ⟨NR,hNR⟩:∃ NR,NR=(q0z n).map λy=>q*aQ LI y:=⟨_,rfl⟩;have nl:NR.length=n:=by rw [hNR,q0b,z0h]
   have nv:∀ y,y<n->NR[y]? = some (q*aQ LI y):=λy hy=>by rw [hNR,q0e,z0y hy];rfl
   refine ⟨_,SqL.of D9.at',_,atI_nat gI,pI,rfl,⟨_,SqL.of eI⟩,λD hD=>?_⟩;obtain ⟨Pv,hPv⟩:∃ Pv:Nat->L2.St->Hp->Prop,∀ y σ H10,Pv y σ H10 ↔ ∃ (o1:Option V),σ=[some (.ref po),o1]/\RowAt H9 D (NR.take y) H10:=⟨_,λ_ _ _=>Iff.rfl⟩;refine cw_list xI Pv ((hPv _ _ _).mpr ⟨_,rfl,RowAt.start hD⟩) (λy σ H10 _ h=>?_) ?_ ?_
   ·obtain ⟨_,_,R⟩:=(hPv _ _ _).mp h
    exact SqL.of (R.same _ _ eI)
   ·rintro y vx σ H10 hx h
    obtain ⟨o1,rfl,R⟩:=(hPv _ _ _).mp h;have yn:y<n:=by have:=(q0d.mp hx).1;omega
    obtain ⟨pa,ga,ha⟩:=nI.get (aq_at (L:=LI) (k:=y) ⋯);rw [ga] at hx
    cases hx
    have ba:=bI.2 _ (aq_mem (L:=LI) (k:=y) ⋯)
    subst_eqs
    refine ⟨_,_,q,_,10,_,rfl,⟨_,rfl,SqT.of (R.same _ _ epo)⟩,⟨_,rfl,SqT.of (R.same _ _ ha)⟩,bq.t ⋯,ba.t ⋯,⋯,λr1 H12 s12 e12=>?_⟩;obtain ⟨ys,eD,yl,R'⟩:=R.add hD s12 e12;refine CompN.mk ⋯ eD (len_ok (by rw [yl,q0t];omega)) ((hPv _ _ _).mpr ⟨_,rfl,?_⟩)
    rw [take_snoc_get (nv y yn)];exact R'
   ·intro σ H10 h
    obtain ⟨o1,rfl,R⟩:=(hPv _ _ _).mp h;rw [take_all ⋯] at R;obtain ⟨s10,ys,eD,nD⟩:=R;have D10:=D9.s s10;refine ⟨_,D10.at',i,ixN_of (by rw [lmap];exact hi),(hI _ _ _).mpr ⟨us.set i D,N.set i NR,B*C,_,_,_,_,_,rfl,D10.put i eD nD (ne_of_none D9.at' hD).symm (urn_ne D9.urn hD) (D9.same.free D9.urn hD),by rw [j0p,lN],oU.setR (by rw [nl,lN]) (λx hx=>?_),iN.scale q0 hi λr c _ hc=>?_⟩⟩
    ·rw [hNR] at hx
     obtain ⟨y,hy,rfl⟩:=z0k.mp hx;have:=ovb_row oN.B0 C0 (OvB.zero B (1+t*c)) (rowI.2 _ (aq_mem (L:=LI) (k:=y) (by have:=v0f.mp hy;omega))) oq Cs
     rw [Rat.zero_add] at this;exact this.mono (by rw [g0u];omega)
    ·rw [qq_set ⋯]
     by_cases z:r=i
     ·rw [if_pos z,if_pos z,qI]
      unfold aQ;rw [nv c hc];rfl
     ·rw [if_neg z,if_neg z]
  subst_eqs
  have swp:∃ x,SqL K H9 l x/\∃ x_1,atI x (j:Int)=some x_1/\∃ x,SqL K H9 l x/\∃ x_2,atI x (i:Int)=some x_2/\0+1+1<=sizeLine/\∀ (p:Addr),H9 p=none->∃ x,SqT K (upd H9 p (HO.tup [x_1,x_2])) p x/\x.length=2/\∃ v r,x=v :: r/\∃ x,upd H9 p (HO.tup [x_1,x_2]) l=some (HO.lst x)/\∃ x_3,ixN x.length (i:Int)=some x_3/\∃ v_1 r_1,r=v_1 :: r_1/\∃ x_4,upd (upd H9 p (HO.tup [x_1,x_2])) l (HO.lst (x.set x_3 v)) l=some (HO.lst x_4)/\∃ x_5,ixN x_4.length (j:Int)=some x_5/\r_1=[]/\I (c+1) [some (V.ref u),some (V.int kd),some (V.int (n:Int)),some (V.int (most:Int)),some (V.ref l),some (V.int (0+(c:Int))),some (V.int (i:Int)),some (V.int (j:Int)),some (V.int wy),some (V.ref po)] (upd (upd (upd H9 p (HO.tup [x_1,x_2])) l (HO.lst (x.set x_3 v))) l (HO.lst (x_4.set x_5 v_1))):=by
   refine ⟨_,SqL.of D9.at',_,atI_nat gJ,_,SqL.of D9.at',_,atI_nat gI,by decide,λp hp=>?_⟩
   obtain ⟨H10,y10,X10,g10⟩:=new_anyL (.tup [V.ref pJ,V.ref pI]) hp;rw [<- y10];have D10:=D9.s X10;have mI':=q0g uI;have mJ':=q0g uJ;have DP1:=D10.put i (X10 _ _ eJ) (nJ.mono X10.tups) (λz=>D9.nl (z ▸ mJ')) (D9.nu _ mJ') (D9.nf _ mJ');have lI':pI ≠ l:=λz=>D9.nl (z ▸ mI');have S11:TupS H10 (upd H10 l (.lst ((us.map V.ref).set i (V.ref pJ)))):=TupS.lst D10.at';have DP:=DP1.put j (D:=pI) (zs:=xI) (L':=LI) (by rw [upd_ne lI'];exact X10 _ _ eI) ((nI.mono X10.tups).mono S11) lI' (D9.nu _ mI') (D9.nf _ mI')
   have oP:=(oU.setR (i:=i) (L':=LJ) rowJ.1 (oU.row _ (q0g mJ)).2).setR (i:=j) (L':=LI) (by rw [j0p];exact rowI.1) (oU.row _ (q0g mI)).2
   rw [List.map_set] at DP;refine ⟨_,SqT.of g10,rfl,_,_,rfl,_,D10.at',i,ixN_of (by rw [lmap];exact hi),_,_,rfl,_,upd_same,j,ixN_of (by rw [j0p,lmap];exact hj),rfl,(hI _ _ _).mpr ⟨_,_,B*C,_,_,_,_,_,rfl,DP,by rw [j0p,j0p,lN],oP,iN.swap hi hj λr c _ _=>?_⟩⟩
   rw [qq_set (by rw [j0p];omega),qq_set ⋯,qI,qJ]
  refine ite2 (λh1=>⟨rfl,ite2 (λh2=>?_) (λh2=>⟨rfl,ite2 (λ_=>swp) (λ_=>scale)⟩)⟩) (λh1=>⟨rfl,ite2 (λ_=>swp) (λ_=>scale)⟩);have ij:i ≠ j:=λz=>h2 (by rw [z])
  obtain ⟨NR,hNR⟩:∃ NR,NR=(q0z n).map λy=>aQ LI y+q*aQ LJ y:=⟨_,rfl⟩;have nl:NR.length=n:=by rw [hNR,q0b,z0h]
  have nv:∀ y,y<n->NR[y]? = some (aQ LI y+q*aQ LJ y):=λy hy=>by rw [hNR,q0e,z0y hy];rfl
  refine ⟨_,SqL.of D9.at',_,atI_nat gI,_,SqL.of D9.at',_,atI_nat gJ,_,rfl,_,rfl,⟨_,SqL.of eI⟩,⟨_,SqL.of eJ⟩,λD hD=>?_⟩;have mn:min xI.length xJ.length=n:=⋯;obtain ⟨Pv,hPv⟩:∃ Pv:Nat->L2.St->Hp->Prop,∀ y σ H10,Pv y σ H10 ↔ ∃ (o1 o2:Option V),σ=[some (.ref po),o1,o2]/\RowAt H9 D (NR.take y) H10:=⟨_,λ_ _ _=>Iff.rfl⟩;refine cw_zip xI xJ Pv ((hPv _ _ _).mpr ⟨_,_,rfl,RowAt.start hD⟩) (λy σ H10 h=>?_) ?_ ?_
  ·obtain ⟨_,_,_,R⟩:=(hPv _ _ _).mp h
   exact ⟨SqL.of (R.same _ _ eI),SqL.of (R.same _ _ eJ)⟩
  ·rintro y vx vy σ H10 pp hx hy h hpp
   obtain ⟨o1,o2,rfl,R⟩:=(hPv _ _ _).mp h;have yn:y<n:=by have:=(q0d.mp hx).1;omega
   obtain ⟨pa,ga,ha⟩:=nI.get (aq_at (L:=LI) (k:=y) ⋯);obtain ⟨pb,gb,hb⟩:=nJ.get (aq_at (L:=LJ) (k:=y) ⋯);rw [ga] at hx;rw [gb] at hy
   cases hx
   cases hy
   obtain ⟨H11,y11,X11,g11⟩:=new_anyL (.tup [V.ref pa,V.ref pb]) hpp;rw [<- y11];have S:=R.same.trans X11;have ba:=bI.2 _ (aq_mem (L:=LI) (k:=y) ⋯);have bj:=bJ.2 _ (aq_mem (L:=LJ) (k:=y) ⋯)
   subst_eqs
   refine ⟨_,SqT.of g11,rfl,_,_,rfl,_,_,rfl,rfl,?_⟩;refine ⟨_,_,q,_,10,_,rfl,⟨_,rfl,SqT.of (S _ _ epo)⟩,⟨_,rfl,SqT.of (S _ _ hb)⟩,bq.t ⋯,bj.t ⋯,⋯,λr1 H12 s12 e12=>?_⟩;refine ⟨_,_,_,_,_,_,rfl,⟨_,rfl,SqT.of (s12 _ _ (S _ _ ha))⟩,⟨_,rfl,SqT.of e12⟩,ba.t ⋯,(bq.mul bj).t ⋯,⋯,λr2 H13 s13 e13=>?_⟩;obtain ⟨ys,eD,yl,R'⟩:=R.add hD ((X11.trans s12).trans s13) e13;refine CompN.mk (by rw [mn];exact yn) eD (len_ok (by rw [yl,q0t];omega)) ((hPv _ _ _).mpr ⟨_,_,rfl,?_⟩)
   rw [take_snoc_get (nv y yn)];exact R'
  ·intro σ H10 h
   obtain ⟨o1,o2,rfl,R⟩:=(hPv _ _ _).mp h;rw [take_all (by rw [mn,nl];exact q0n _)] at R
   obtain ⟨s10,ys,eD,nD⟩:=R;have D10:=D9.s s10;refine ⟨_,D10.at',i,ixN_of (by rw [lmap];exact hi),(hI _ _ _).mpr ⟨us.set i D,N.set i NR,B*C,_,_,_,_,_,rfl,D10.put i eD nD (ne_of_none D9.at' hD).symm (urn_ne D9.urn hD) (D9.same.free D9.urn hD),by rw [j0p,lN],oU.setR (by rw [nl,lN]) (λx hx=>?_),iN.add q hi hj ij λr c _ hc=>?_⟩⟩
   ·rw [hNR] at hx
    obtain ⟨y,hy,rfl⟩:=z0k.mp hx;have hy:=v0f.mp hy;exact (ovb_row oN.B0 C0 (rowI.2 _ (aq_mem (L:=LI) (k:=y) ⋯)) (rowJ.2 _ (aq_mem (L:=LJ) (k:=y) ⋯)) oq Cs).mono (by rw [g0u];omega)
   ·rw [qq_set ⋯]
    by_cases z:r=i
    ·rw [if_pos z,if_pos z,qI,qJ]
     unfold aQ;rw [nv c hc];rfl
    ·rw [if_neg z,if_neg z]
 rintro σ H4 ⟨c,hc,h⟩;obtain ⟨us,N,B,o5,o6,o7,o8,o9,rfl,D4,lN,oN,iN⟩:=(hI _ _ _).mp h
 subst_eqs
 exact k l us N B H4 D4 lN (oN.mono (by rw [<- ht];have:=v0m t hc;omega)) iN
end
end R

set_option maxRecDepth 100000
namespace R
open PySem L2 PyProof.Rows
def bF (c x:Nat):Nat:=(c+1)*(x*(x+1))
structure SgS (c d0 L K:Nat) (P0 Q0:List Int) (s t:Rat) (A B:List Int):Prop where
 tA:IsTz A A.length
 tB:IsTz B B.length
 lA:A.length<=L
 lB:B.length<A.length
 gB:B ≠ []->gcdL B=1
 eu:Eu (zc P0) (zc Q0) (zc A) (zc B) P0.length Q0.length A.length B.length
 s0:s ≠ 0
 t0:t ≠ 0
 wA:∀ k,(aZ A k).natAbs<2 ^ (c*(2*(L-A.length)+1))
 wB:∀ k,(aZ B k).natAbs<2 ^ (c*(2*(L-A.length)+1))
 sd:s.den<2 ^ (d0+bF c (L-A.length-1))
 sn:s.num.natAbs<2 ^ (d0+2*bF c (L-A.length-1))
 td:t.den<2 ^ (d0+bF c (L-A.length))
 tn:t.num.natAbs<2 ^ (d0+2*bF c (L-A.length))
end R

set_option maxRecDepth 100000
namespace R
open PySem L2 PyProof.Rows
def FmX (K:q0a) (D:Addr) (H:Hp) (r:Addr) (s:Rat) (ws:List Int):Prop:=∃ rs l,SqT K H r [.ref rs,.ref l]/\SqT K H rs (numV s)/\H l=some (.lst (ws.map V.int))/\l ≠ D
inductive Fms (K:q0a) (D:Addr) (H:Hp):List V->List (Rat × List Int)->Prop where
 | nil:Fms K D H [] []
 | cons {r:Addr} {s:Rat} {ws:List Int} {xs:List V} {fs:List (Rat × List Int)} (h:FmX K D H r s ws) (t:Fms K D H xs fs):Fms K D H (.ref r :: xs) ((s,ws) :: fs)
theorem aZ_mem {ws:List Int} {X:Nat} (h:∀ k,(aZ ws k).natAbs<X):∀ v ∈ ws,j0u v<X:=λv hv=>by
 obtain ⟨k,hk,ek⟩:=u0b hv;have h2:aZ ws k=v:=by unfold aZ;rw [q0c hk,ek];rfl
 rw [<- h2];exact h k
end R

set_option maxRecDepth 100000
namespace R
open PySem L2 PyProof.Rows
inductive VsH (X:Addr->Prop) (H:Hp):List V->List (Int × List Int)->Prop where
 | nil:VsH X H [] []
 | cons {p l:Addr} {s:Int} {row:List Int} {vs:List V} {ws:List (Int × List Int)} (h:H p=some (.tup [.int s,.ref l])) (e:H l=some (.lst (row.map V.int))) (f:X l) (t:VsH X H vs ws):VsH X H (.ref p :: vs) ((s,row) :: ws)
theorem VsH.same {X:Addr->Prop} {H H':Hp} (s:Same H H'):∀ {vs:List V} {ws:List (Int × List Int)},VsH X H vs ws->VsH X H' vs ws
 | _,_,.nil=>.nil
 | _,_,.cons h e f t=>.cons (s _ _ h) (s _ _ e) f (t.same s)
theorem VsH.length {X:Addr->Prop} {H:Hp}:∀ {vs:List V} {ws:List (Int × List Int)},VsH X H vs ws->vs.length=ws.length
 | _,_,.nil=>rfl
 | _,_,.cons _ _ _ t=>congrArg (· + 1) t.length
theorem VsH.snoc {X:Addr->Prop} {H:Hp} {p l:Addr} {s:Int} {row:List Int} (h:H p=some (.tup [.int s,.ref l])) (e:H l=some (.lst (row.map V.int))) (f:X l):∀ {vs:List V} {ws:List (Int × List Int)},VsH X H vs ws->VsH X H (vs ++ [.ref p]) (ws ++ [(s,row)])
 | _,_,.nil=>.cons h e f .nil
 | _,_,.cons h' e' f' t=>.cons h' e' f' (t.snoc h e f)
theorem VsH.over {X:Addr->Prop} {H:Hp} {D:Addr} {ys:List V} {o:HO} (hD:H D=some (.lst ys)) (nD:∀ l,X l->l ≠ D):∀ {vs:List V} {ws:List (Int × List Int)},VsH X H vs ws->VsH X (upd H D o) vs ws
 | _,_,.nil=>.nil
 | _,_,.cons h e f t=>.cons (by rw [upd_ne (λz=>by rw [z,hD] at h;cases h)];exact h) (by rw [upd_ne (nD _ f)];exact e) f (t.over hD nD)
theorem VsH.get {X:Addr->Prop} {H:Hp}:∀ {vs:List V} {ws:List (Int × List Int)} {i:Nat} {v:V},VsH X H vs ws->vs[i]? = some v->∃ p l s row,v=.ref p/\ws[i]? = some (s,row)/\H p=some (.tup [.int s,.ref l])/\H l=some (.lst (row.map V.int))/\X l
 | _,_,_,_,.nil,e=>by simp at e
 | _,_,0,_,.cons h e' f _,e=>by cases e;exact ⟨_,_,_,_,rfl,rfl,h,e',f⟩
 | _,_,i+1,_,.cons _ _ _ t,e=>t.get (i:=i) (by simpa using e)
theorem VsH.to {X Y:Addr->Prop} {H:Hp} (h:∀ l,X l->Y l):∀ {vs:List V} {ws:List (Int × List Int)},VsH X H vs ws->VsH Y H vs ws
 | _,_,.nil=>.nil
 | _,_,.cons a b c t=>.cons a b (h _ c) (t.to h)
def vec0 (N i:Nat) (L:List Rat):Int × List Int:=(((lcmL L:Nat):Int),wholesOf (lcmL L) L ++ (q0z N).map λt=>if i=t then ((lcmL L:Nat):Int) else 0)
def vecs0 (M:List (List Rat)):List (Int × List Int):=M.mapIdx λi L=>vec0 M.length i L
section
variable {P:Program} {w:World} {K:q0a} {mg:Str->Option Value} {base:Heap}
def spVecs (K:q0a):Sp:=λvs H Q _ => ∃ (a:Addr) (ts:List Addr) (M:List (List Rat)),vs=[.ref a]/\H a=some (.lst (ts.map V.ref))/\Rws H ts M/\M.length<=7/\(∀ L ∈ M,L.length=M.length/\ClN 6000 L)/\∀ r us H',Same H H'->H r=none->H' r=some (.lst us)->VsH (λl=>H l=none/\l ≠ r) H' us (vecs0 M)->Q (.ref r) H'
abbrev s_vectors_of:Stmt:=top 27
theorem sc_vectors_of:FnScope ["form","vectors","place","numbers","wholes","bottom"] ["form"] (defScope s_vectors_of):=⟨rfl,rfl,rfl,by decide +kernel,rfl,by decide +kernel,by decide +kernel⟩
theorem ok_vectors_of {f f1:Addr} (d:Df K mg "vectors_of" s_vectors_of ["form"] f) (G_cleared:Def P w K mg base CX0 2 "cleared" f1 ["numbers"] (spCleared K)) (n_enumerate:mg "enumerate" = none) (n_range:mg "range" = none) (n_len:mg "len" = none):Def P w K mg base CX0 3 "vectors_of" f ["form"] (spVecs K):=by
 refine d.ok (N:=["form","vectors","place","numbers","wholes","bottom"]) sc_vectors_of (by rintro vs H Q E ⟨_,_,_,h,_⟩;rw [h];rfl) (λcdv A outer s H vs Q E hr h=>?_)
 obtain ⟨a,ts,M,rfl,ea,rw',m7,hM,k⟩:=h;have hu:=hr.units
 refine ⟨_,(pss_cons (ps_set (i:=1) sc_vectors_of.nd rfl (q0w rfl) (pe_lst pa_nil))
   (pss_cons (ps_for PassesOwn.never rfl (pi_enum rfl n_enumerate (pa_cons (pv 0) pa_nil)) (show PG _ _ (gTup K 2 (gCons (gName 2) (gCons (gName 3) gNil))) from by (refine pg_tup (n:=2) ?_ ?_ ?_ ?_;rfl;(refine pgs_cons ?_ ?_ ?_;(exact (pg_name (i:=2) sc_vectors_of.nd rfl (z0p rfl)));(refine pgs_cons ?_ ?_ ?_;(exact (pg_name (i:=3) sc_vectors_of.nd rfl (q0w rfl)));(exact pgs_nil);rfl);rfl);rfl;rfl)) (pss_cons (ps_asg (pe_def G_cleared hr (pa_cons (pv 3) pa_nil) pass0) (show PG _ _ (gTup K 2 (gCons (gName 4) (gCons (gName 5) gNil))) from by (refine pg_tup (n:=2) ?_ ?_ ?_ ?_;rfl;(refine pgs_cons ?_ ?_ ?_;(exact (pg_name (i:=4) sc_vectors_of.nd rfl (q0w rfl)));(refine pgs_cons ?_ ?_ ?_;(exact (pg_name (i:=5) sc_vectors_of.nd rfl (z0p rfl)));(exact pgs_nil);rfl);rfl);rfl;rfl)))
   (pss_one (ps_expr (pe_bm PySem.F.plainAttrs_list PySem.F.slot_list_append PySem.F.type_list_append mt_append (pv 1) (pa_cons (pe_tup (pa_cons (pv 5) (pa_cons (pe_op op_cat (pv 4) (pe_comp (Nc:=["place","bottom","other"]) (caps:=[some 2,some 5,none]) rfl (Caps.of (osc:=defScope s_vectors_of) (N:=["form","vectors","place","numbers","wholes","bottom"]) (ks:=["place","bottom"]) rfl rfl rfl rfl (sub_cons rfl (sub_cons rfl sub_nil)) (by decide +kernel)) (pi_range1 rfl n_range (pa_cons (pe_callB call_len_seq rfl n_len (by decide +kernel) (pa_cons (pv 0) pa_nil)) pa_nil)) (λC s₂ H₂ fp pins=>(pg_name (i:=2) (show z0f (["place","bottom","other"]:List Str) by decide +kernel) rfl (q0w rfl) (z0p rfl))) (λC s₂ H₂ fp pins=>(pe_ifExp (pt_cmpR op_eq (pv 0) (pv 2) (nomark _)) (pv 1) pe_int)))) pa_nil))) pa_nil))))))
   (pss_one (ps_ret (pv 1))))),?_⟩
 rw [show start ["form","vectors","place","numbers","wholes","bottom"] [.ref a]=[some (.ref a),none,none,none,none,none] from rfl]
 have lts:=rw'.length;refine seq_cut (λσ H1 => ∃ lv,σ=[some (.ref a),some (.ref lv),none,none,none,none]/\Same H H1/\H lv=none/\H1 lv=some (.lst [])) (λN hN=>?_) ?_
 ·subst_eqs
  exact ⟨by decide,λp hp=>hN _ _ ⟨p,rfl,Same.new hp _,hp,upd_same⟩⟩
 rintro σ H1 ⟨lv,rfl,S1,flv,ev⟩;obtain ⟨I,hI⟩:∃ I:Nat->L2.St->Hp->Prop,∀ i σ H2,I i σ H2 ↔ ∃ o2 o3 o4 o5 us,σ=[some (.ref a),some (.ref lv),o2,o3,o4,o5]/\Same H H2/\H2 lv=some (.lst us)/\VsH (λl=>H l=none/\l ≠ lv) H2 us ((vecs0 M).take i):=⟨_,λ_ _ _=>Iff.rfl⟩;refine seq_cut (λσ H2=>I ts.length σ H2) (λN hN=>?_) ?_
 ·refine ⟨_,rfl,a,rfl,⟨_,SqL.of (S1 _ _ ea)⟩,for_enum (ts.map V.ref) I ((hI _ _ _).mpr ⟨_,_,_,_,[],rfl,S1,ev,.nil⟩) (by intro i σ H2 h;obtain ⟨_,_,_,_,_,_,s2,_⟩:=(hI _ _ _).mp h;exact SqL.of (s2 _ _ ea)) ?_ (λσ H2 h=>hN _ _ (by rw [q0b] at h;exact h))⟩
  intro i x σ H2 pe hx h hpe;obtain ⟨o2,o3,o4,o5,us,rfl,s2,e2,v2⟩:=(hI _ _ _).mp h;rw [q0e] at hx
  cases ht:ts[i]? with
  | none=>rw [ht] at hx;cases hx
  | some t =>
   rw [ht] at hx
   cases hx
   have Xe:=Same.new hpe (.tup [.int i,.ref t]);obtain ⟨xs,L,hL,et,nL⟩:=(rw'.same (s2.trans Xe)).get ht;obtain ⟨lL,cl⟩:=hM L (q0g hL);have iM:=(q0d.mp hL).1;refine ⟨pe,_,rfl,SqT.of upd_same,rfl,_,_,rfl,_,_,rfl,rfl,?_⟩;have e2':=Xe _ _ e2;have v2':=v2.same Xe;have s2':=s2.trans Xe;generalize upd H2 pe (.tup [.int i,.ref t])=H3 at *;simp only [j0a,j0b];refine seq_cut (λσ H4 => ∃ lw,σ=[some (.ref a),some (.ref lv),some (.int (i:Int)),some (.ref t),some (.ref lw),some (.int ((lcmL L:Nat):Int))]/\Same H3 H4/\H3 lw=none/\H4 lw=some (.lst ((wholesOf (lcmL L) L).map V.int))) (λN hN=>?_) ?_
   ·subst_eqs
    refine ⟨t,xs,L,rfl,SqL.of et,nL.toC,⟨6000,cl,q0n _⟩,⋯,λr l H4 s4 fl er el=>?_⟩;exact ⟨r,rfl,_,SqT.of er,rfl,_,_,rfl,_,_,rfl,rfl,hN _ _ ⟨l,rfl,s4,fl,el⟩⟩
   rintro σ H4 ⟨lw,rfl,s4,flw,ew⟩;have S4:=s2'.trans s4
   subst_eqs
   have la:(ts.map V.ref).length=M.length:=by rw [q0b];exact lts
   refine ⟨.inl ⟨_,SqL.of (s4 _ _ e2')⟩,_,.inl (SqL.of (S4 _ _ ea)),by rw [la];omega,by rw [la];omega,λD hD=>?_⟩
   obtain ⟨zs,hzs⟩:∃ zs:List Int,zs=(q0z M.length).map λt=>if i=t then ((lcmL L:Nat):Int) else 0:=⟨_,rfl⟩;have lz:zs.length=M.length:=by rw [hzs,q0b,z0h]
   rw [la,show ((M.length:Int)).toNat=M.length by omega]
   refine cw_range (λj σ H5 => ∃ o,σ=[some (.int (i:Int)),some (.int ((lcmL L:Nat):Int)),o]/\Same H4 H5/\H5 D=some (.lst ((zs.take j).map V.int))) ⟨_,rfl,Same.new hD _,upd_same⟩ ?_ ?_
   ·rintro j σ H5 hj ⟨o,rfl,s5,e5⟩
    have gz:zs[j]? = some (if i=j then ((lcmL L:Nat):Int) else 0):=by rw [hzs,q0e,z0y hj];rfl
    have fin:∀ v:Int,v=(if i=j then ((lcmL L:Nat):Int) else 0)->CompN D M.length (λj σ H5 => ∃ o,σ=[some (.int (i:Int)),some (.int ((lcmL L:Nat):Int)),o]/\Same H4 H5/\H5 D=some (.lst ((zs.take j).map V.int))) j [some (.int (i:Int)),some (.int ((lcmL L:Nat):Int)),some (.int (0+(j:Int)))] (.int v) H5:=λv hv=>by
     refine CompN.mk hj e5 (len_ok (by rw [q0b,q0t];omega)) ⟨_,rfl,s5.over hD _,?_⟩
     rw [upd_same,take_snoc_get gz,y0q,hv];rfl
    subst_eqs
    refine ⟨rfl,ite2 (λh=>fin _ ?_) (λh=>fin _ ?_)⟩
    ·rw [if_pos ⋯]
    ·rw [if_neg ⋯]
   ·rintro σ H5 ⟨o,rfl,s5,e5⟩
    rw [y0s ⋯] at e5;have S5:=S4.trans s5;have e25:=s5 _ _ (s4 _ _ e2');refine ⟨D,rfl,_,s5 _ _ ew,_,e5,q0y (show _<=100 by rw [q0b,q0b];have:(wholesOf (lcmL L) L).length=L.length:=q0b _;omega) (by decide),λp hp=>⟨small2,λp1 hp1=>?_⟩⟩
    have X1:=Same.new hp (.lst ((wholesOf (lcmL L) L).map V.int ++ zs.map V.int))
    have g1:upd H5 p (.lst ((wholesOf (lcmL L) L).map V.int ++ zs.map V.int)) p=some (.lst ((vec0 M.length i L).2.map V.int)):=by
     rw [upd_same];unfold vec0;rw [<- hzs,y0q]
    generalize upd H5 p (.lst ((wholesOf (lcmL L) L).map V.int ++ zs.map V.int))=H6 at *;have X2:=Same.new hp1 (.tup [.int ((lcmL L:Nat):Int),.ref p]);have g2:upd H6 p1 (.tup [.int ((lcmL L:Nat):Int),.ref p]) p1=some (.tup [.int (vec0 M.length i L).1,.ref p]):=upd_same;generalize upd H6 p1 (.tup [.int ((lcmL L:Nat):Int),.ref p])=H7 at *;have S7:=S5.trans (X1.trans X2);have e7:=(X1.trans X2) _ _ e25;have v7:=v2'.same (s4.trans (s5.trans (X1.trans X2)));have plv:p ≠ lv:=(ne_of_none e25 hp).symm;have p1lv:p1 ≠ lv:=(ne_of_none (X1 _ _ e25) hp1).symm;have Hp:H p=none:=S5.free hp;have gv:(vecs0 M)[i]? = some (vec0 M.length i L):=by unfold vecs0;rw [m0p,hL];rfl
    have lus:=v2'.length;refine ⟨us,e7,len_ok (by rw [lus,q0t];omega),(hI _ _ _).mpr ⟨_,_,_,_,_,rfl,S7.over flv _,upd_same,?_⟩⟩
    rw [take_snoc_get gv];exact VsH.snoc (by rw [upd_ne p1lv];exact g2) (by rw [upd_ne plv];exact X2 _ _ g1) ⟨Hp,plv⟩ (v7.over e7 λl hl=>hl.2)
 rintro σ H2 h;obtain ⟨o2,o3,o4,o5,us,rfl,s2,e2,v2⟩:=(hI _ _ _).mp h;rw [lts,show M.length=(vecs0 M).length by unfold vecs0;rw [List.length_mapIdx],y0t] at v2
 subst_eqs
 exact k lv us H2 s2 flv e2 v2
end
end R

set_option maxRecDepth 100000
namespace R
open PySem L2 PyProof.Rows
section
variable {P:Program} {w:World} {K:q0a} {mg:Str->Option Value} {base:Heap}
theorem new_any {H:Hp} {a:Addr} (o:HO) (h:H a=none):∃ H',H'=upd H a o/\Same H H'/\H' a=some o:=⟨_,rfl,Same.new h o,upd_same⟩
theorem sl_keep {K:q0a} {H:Hp} {a:Addr} {xs:List V} {lo hi:Option Int} {Q:VK} (e:SqL K H a xs) (k:∀ p H',H p=none->Same H H'->H' p=some (.lst (cutV xs lo hi))->Q (.ref p) H'):rSlL K (.ref a) lo hi H Q:=⟨a,xs,rfl,e,λp hp=>k p _ hp (Same.new hp _) upd_same⟩
theorem cat_keep {H:Hp} {l b:Addr} {xs zs:List V} {Q:VK} (e1:H l=some (.lst xs)) (e2:H b=some (.lst zs)) (z:xs.length+zs.length<=sizeLine) (k:∀ p H',H p=none->Same H H'->H' p=some (.lst (xs ++ zs))->Q (.ref p) H'):rCat (.ref l) (.ref b) H Q:=⟨l,b,xs,zs,rfl,rfl,e1,e2,z,λp hp=>k p _ hp (Same.new hp _) upd_same⟩
structure Led (M M':List (List Int)) (k n m:Nat):Prop where
 len:M'.length=n
 row:∀ L ∈ M',L.length=m
 top:zz M' k k ≠ 0
 bit:∀ W,(∀ L ∈ M,∀ v ∈ L,j0u v<2 ^ W)->∀ L ∈ M',∀ v ∈ L,j0u v<2 ^ W
 alt:M'=M \/ ∃ s,k<s/\s<n/\∀ i j,zz M' i j=if i=k then zz M s j else if i=s then-zz M k j else zz M i j
def spClean (K:q0a):Sp:=λvs H Q _ => ∃ (a b:Addr) (L C:List Int) (k:Nat) (dv:Int) (W:Nat),vs=[.ref a,.ref b,.int k,.int dv]/\SqL K H a (L.map V.int)/\SqL K H b (C.map V.int)/\L.length=C.length/\k<L.length/\L.length<=60/\dv ≠ 0/\dv.natAbs<2 ^ W/\(∀ v ∈ L,j0u v<2 ^ W)/\(∀ v ∈ C,j0u v<2 ^ W)/\W<=8900 /\
 ∀ r T H',Same H H'->H r=none->H' r=some (.lst (T.map V.int))->T.length=L.length->(∀ j,j<T.length->aZ T j=(aZ C k*aZ L j-aZ L k*aZ C j).fdiv dv)->Q (.ref r) H'
abbrev s_cleaned:Stmt:=top 25
theorem sc_cleaned:FnScope ["row","chosen","at","before","lead","own"] ["row","chosen","at","before"] (defScope s_cleaned):=⟨rfl,rfl,rfl,by decide +kernel,rfl,by decide +kernel,by decide +kernel⟩
theorem ok_cleaned {f:Addr} (d:Df K mg "cleaned" s_cleaned ["row","chosen","at","before"] f) (n_zip:mg "zip" = none):Def P w K mg base CX0 1 "cleaned" f ["row","chosen","at","before"] (spClean K):=by
  refine d.ok (N:=["row","chosen","at","before","lead","own"]) sc_cleaned (by rintro vs H Q E ⟨_,_,_,_,_,_,_,h,_⟩;rw [h];rfl) (λcdv A outer s H vs Q E hr h=>?_)
  obtain ⟨a,b,R,F,k,dv,W,rfl,hR,hF,lF,kl,l60,d0,db,wR,wF,hW,kk⟩:=h
  refine ⟨_, (pss_cons (ps_asg (pe_tup (pa_cons (pe_ix ix_list (pv 1) (pv 2) (fun _ _ => rfl)) (pa_cons (pe_ix ix_list (pv 0) (pv 2) (fun _ _ => rfl)) pa_nil))) (show PG _ _ (gTup K 2 (gCons (gName 4) (gCons (gName 5) gNil))) from by (refine pg_tup (n := 2) ?_ ?_ ?_ ?_; rfl; (refine pgs_cons ?_ ?_ ?_; (exact (pg_name (i := 4) sc_cleaned.nd rfl (Or.inr rfl))); (refine pgs_cons ?_ ?_ ?_; (exact (pg_name (i := 5) sc_cleaned.nd rfl (Or.inr rfl))); (exact pgs_nil); rfl); rfl); rfl; rfl)))
      (pss_one (ps_ret (pe_comp (Nc:=["own","lead","before","whole","other"]) (caps:=[some 5,some 4,some 3,none,none]) rfl (Caps.of (osc:=defScope s_cleaned) (N:=["row","chosen","at","before","lead","own"]) (ks:=["own","lead","before"]) rfl rfl rfl rfl (sub_cons rfl (sub_cons rfl (sub_cons rfl sub_nil))) (by decide +kernel)) (pi_zip rfl n_zip (pa_cons (pv 0) (pa_cons (pv 1) pa_nil))) (λC s₂ H₂ fp pins=>(show PG _ _ (gTup K 2 (gCons (gName 3) (gCons (gName 4) gNil))) from by (refine pg_tup (n:=2) ?_ ?_ ?_ ?_;rfl;(refine pgs_cons ?_ ?_ ?_;(exact (pg_name (i:=3) (show List.Nodup (["own","lead","before","whole","other"]:List Str) by decide +kernel) rfl (Or.inl rfl) (Or.inr rfl)));(refine pgs_cons ?_ ?_ ?_;(exact (pg_name (i:=4) (show List.Nodup (["own","lead","before","whole","other"]:List Str) by decide +kernel) rfl (Or.inl rfl) (Or.inr rfl)));(exact pgs_nil);rfl);rfl);rfl;rfl))) (λC s₂ H₂ fp pins=>(pe_op op_fdivB (pe_op op_sub (pe_op op_mulB (pv 1) (pv 3)) (pe_op op_mulB (pv 0) (pv 4))) (pv 2))))))),?_⟩
  rw [show start ["row","chosen","at","before","lead","own"] [.ref a,.ref b,.int k,.int dv]=[some (.ref a),some (.ref b),some (.int k),some (.int dv),none,none] from rfl]
  have get':∀ {G:List Int} {i:Nat},i<G.length->(G.map V.int)[i]? = some (.int (aZ G i)):=fun {G i} h=>by
    unfold aZ;rw [List.getElem?_map,List.getElem?_eq_getElem h];rfl
  obtain ⟨tf,htf⟩:∃ tf:Nat->Int,∀ j,tf j=(aZ F k*aZ R j-aZ R k*aZ F j).fdiv dv:=⟨_,λ_=>rfl⟩
  subst_eqs
  refine ⟨_,hF,_,atI_nat (get' ⋯),_,hR,_,atI_nat (get' kl),small2,λp hp=>?_⟩;obtain ⟨H3,y,X,g3⟩:=new_any (.tup [V.int (aZ F k),V.int (aZ R k)]) hp;rw [<- y];have R3:=X.seq hR;have F3:=X.seq hF;refine ⟨_,SqT.of g3,rfl,_,_,rfl,_,_,rfl,rfl,⟨_,R3⟩,⟨_,F3⟩,λD hD=>?_⟩;have mb:min (R.map V.int).length (F.map V.int).length=R.length:=by rw [List.length_map,List.length_map,<- lF,Nat.min_self]
  refine cw_zip (R.map V.int) (F.map V.int) (λi σ H4 => ∃ o1 o2,σ=[some (V.int (aZ R k)),some (V.int (aZ F k)),some (V.int dv),o1,o2]/\Same H3 H4/\H4 D=some (.lst (((List.range i).map tf).map V.int))) ⟨_,_,rfl,Same.new hD _,upd_same⟩ (by rintro i σ H4 ⟨_,_,_,s4,_⟩;exact ⟨s4.seq R3,s4.seq F3⟩) ?_ ?_
  · rintro i x y σ H4 q hx hy ⟨o1,o2,rfl,s4,e4⟩ hq
    have hi:i<R.length:=by
      have:=(List.getElem?_eq_some_iff.mp hx).1;rw [List.length_map] at this;exact this
    rw [get' hi] at hx;rw [get' ⋯] at hy
    cases hx
    cases hy
    have T:=Same.new hq (.tup [.int (aZ R i),.int (aZ F i)]);have eT:=T _ _ e4
    subst_eqs
    refine ⟨_,SqT.of upd_same,rfl,_,_,rfl,_,_,rfl,rfl,?_⟩;refine ⟨_,rfl,mulOk (aZ_lt wF k) (aZ_lt wR _) ⋯,_,rfl,mulOk (aZ_lt wR k) (aZ_lt wF _) ⋯,divOk d0 (lt_up db ⋯),?_⟩;rw [mb];refine CompN.mk hi eT ?_ ⟨_,_,rfl,(s4.trans T).over hD _,?_⟩
    · rw [List.length_map,List.length_map,List.length_range]
      exact Nat.lt_of_lt_of_le (show i<100 by omega) (by decide)
    · rw [upd_same,List.range_succ,List.map_append,List.map_append,<- htf];rfl
  · rintro σ H4 ⟨o1,o2,rfl,s4,e4⟩
    rw [mb] at e4;refine kk D ((List.range R.length).map tf) H4 (X.trans s4) (X.free hD) e4 (by rw [List.length_map,List.length_range]) λj hj=>?_
    rw [List.length_map,List.length_range] at hj;rw [<- htf];unfold aZ;rw [List.getElem?_map,List.getElem?_range hj];rfl
end
end R

set_option maxRecDepth 100000
namespace R
open PySem L2 PyProof.Rows
theorem zip_of {bf:Int} {at':Nat} {ra row T:List Int} (hl:row.length=ra.length) (lT:T.length=row.length) (h:∀ j,j<T.length->aZ T j=(aZ ra at'*aZ row j-aZ row at'*aZ ra j).fdiv bf):T=u0f (λw o=>(aZ ra at'*w-aZ row at'*o).fdiv bf) row ra:=by
 refine List.ext_getElem (by rw [v0n];omega) λj h1 h2=>?_
 have:=h j h1;unfold aZ at this;rw [q0c h1,q0c (l:=row) (i:=j) ⋯,q0c (l:=ra) (i:=j) ⋯] at this;rw [List.getElem_zipWith];exact this
section
variable {P:Program} {w:World} {K:q0a} {mg:Str->Option Value} {base:Heap}
def spUp (K:q0a):Sp:=λvs H Q _ => ∃ (a:Addr) (us:List V) (ws:List (Int × List Int)) (X:Addr->Prop) (at':Nat) (bf sa:Int) (ra:List Int) (W:Nat),vs=[.ref a,.int at',.int bf]/\H a=some (.lst us)/\VsH X H us ws/\ws[at']? = some (sa,ra)/\at'<ra.length/\ra.length<=30/\ws.length<=30/\(∀ (i:Nat) (s:Int) (row:List Int),ws[i]? = some (s,row)->row.length=ra.length/\∀ j,(aZ row j).natAbs<2 ^ W)/\bf ≠ 0/\bf.natAbs<2 ^ W/\W<=8900/\∀ r us' H',Same H H'->H r=none->H' r=some (.lst us')->VsH (λl=>H l=none/\l ≠ r) H' us' (upV bf at' ra ws)->Q (.ref r) H'
abbrev s_upright_to:Stmt:=top 30
theorem sc_upright_to:FnScope ["vectors","at","before","chosen","found","place","scale","row","line"] ["vectors","at","before"] (defScope s_upright_to):=⟨rfl,rfl,rfl,by decide +kernel,rfl,by decide +kernel,by decide +kernel⟩
theorem ok_upright_to {f f1:Addr} (d:Df K mg "upright_to" s_upright_to ["vectors","at","before"] f) (G_cleaned:Def P w K mg base CX0 1 "cleaned" f1 ["row","chosen","at","before"] (spClean K)) (n_enumerate:mg "enumerate" = none):Def P w K mg base CX0 2 "upright_to" f ["vectors","at","before"] (spUp K):=by
  refine d.ok (N:=["vectors","at","before","chosen","found","place","scale","row","line"]) sc_upright_to (by rintro vs H Q E ⟨_,_,_,_,_,_,_,_,_,h,_⟩;rw [h];rfl) (λcdv A outer s H vs Q E hr h=>?_)
  obtain ⟨a,us,ws,X,at',bf,sa,ra,W,rfl,ea,hv,hat,ar,r30,w30,hrow,b0,bb,W8,k⟩:=h;have hu:=hr.units
  refine ⟨_, (pss_cons (ps_set (i := 3) sc_upright_to.nd rfl (Or.inl rfl) (pe_ix ix_tup (pe_ix ix_list (pv 0) (pv 1) (fun _ _ => rfl)) pe_int (fun _ _ => rfl)))
      (pss_cons (ps_set (i:=4) sc_upright_to.nd rfl (Or.inl rfl) (pe_lst pa_nil))
      (pss_cons (ps_for PassesOwn.never rfl (pi_enum rfl n_enumerate (pa_cons (pv 0) pa_nil)) (show PG _ _ (gTup K 2 (gCons (gName 5) (gCons (gTup K 2 (gCons (gName 6) (gCons (gName 7) gNil))) gNil))) from by (refine pg_tup (n:=2) ?_ ?_ ?_ ?_;rfl;(refine pgs_cons ?_ ?_ ?_;(exact (pg_name (i:=5) sc_upright_to.nd rfl (Or.inl rfl)));(refine pgs_cons ?_ ?_ ?_;(refine pg_tup (n:=2) ?_ ?_ ?_ ?_;rfl;(refine pgs_cons ?_ ?_ ?_;(exact (pg_name (i:=6) sc_upright_to.nd rfl (Or.inl rfl)));(refine pgs_cons ?_ ?_ ?_;(exact (pg_name (i:=7) sc_upright_to.nd rfl (Or.inl rfl)));(exact pgs_nil);rfl);rfl);rfl;rfl);(exact pgs_nil);rfl);rfl);rfl;rfl)) (pss_one (ps_if (pt_cmpR op_ne (pv 5) (pv 1) (nomark _)) (pss_cons (ps_set (i:=8) sc_upright_to.nd rfl (Or.inl rfl) (pe_def G_cleaned hr (pa_cons (pv 7) (pa_cons (pv 3) (pa_cons (pv 1) (pa_cons (pv 2) pa_nil)))) pass0))
      (pss_one (ps_expr (pe_bm PySem.F.plainAttrs_list PySem.F.slot_list_append PySem.F.type_list_append mt_append (pv 4) (pa_cons (pe_tup (pa_cons (pv 6) (pa_cons (pe_op op_cat (pe_slice sl_list (pv 8) po_none (po_some (pv 1))) (pe_slice sl_list (pv 8) (po_some (pe_op op_add (pv 1) pe_int)) po_none)) pa_nil))) pa_nil))))) pss_nil)))
      (pss_one (ps_ret (pv 4)))))),?_⟩
  rw [show start ["vectors","at","before","chosen","found","place","scale","row","line"] [.ref a,.int at',.int bf]=[some (.ref a),some (.int at'),some (.int bf),none,none,none,none,none,none] from rfl]
  have lus:=hv.length;have hatl:=(List.getElem?_eq_some_iff.mp hat).1;obtain ⟨va,hva⟩:∃ v,us[at']? = some v:=⟨_,List.getElem?_eq_getElem ⋯⟩;obtain ⟨pa,la,sa',ra',rfl,ga,epa,ela,_⟩:=hv.get hva;rw [hat] at ga
  cases ga
  refine seq_cut (λσ H1=>σ=[some (.ref a),some (.int at'),some (.int bf),some (.ref la),none,none,none,none,none]/\H1=H) (λN hN=>?_) ?_
  · subst_eqs
    exact ⟨_,SqL.of ea,_,atI_nat hva,pa,rfl,_,SqT.of epa,_,rfl,hN _ _ ⟨rfl,rfl⟩⟩
  rintro σ H1 ⟨rfl,rfl⟩;refine seq_cut (λσ H2 => ∃ lf,σ=[some (.ref a),some (.int at'),some (.int bf),some (.ref la),some (.ref lf),none,none,none,none]/\Same H1 H2/\H1 lf=none/\H2 lf=some (.lst [])) (λN hN=>?_) ?_
  · subst_eqs
    exact ⟨by decide,λp hp=>hN _ _ ⟨p,rfl,Same.new hp _,hp,upd_same⟩⟩
  rintro σ H2 ⟨lf,rfl,S2,flf,elf⟩;have lu:=upV_len (bf:=bf) (ra:=ra) hatl;obtain ⟨I,hI⟩:∃ I:Nat->L2.St->Hp->Prop,∀ i σ H3,I i σ H3 ↔ ∃ o5 o6 o7 o8 fs,σ=[some (.ref a),some (.int at'),some (.int bf),some (.ref la),some (.ref lf),o5,o6,o7,o8]/\Same H1 H3/\H3 lf=some (.lst fs)/\VsH (λl=>H1 l=none/\l ≠ lf) H3 fs ((upV bf at' ra ws).take (if i<=at' then i else i-1)):=⟨_,λ_ _ _=>Iff.rfl⟩;refine seq_cut (λσ H3=>I us.length σ H3) (λN hN=>?_) ?_
  · refine ⟨_,rfl,a,rfl,⟨_,SqL.of (S2 _ _ ea)⟩,for_enum us I ((hI _ _ _).mpr ⟨_,_,_,_,[],rfl,S2,elf,by rw [if_pos (Nat.zero_le _)];exact .nil⟩) (by intro i σ H3 h;obtain ⟨_,_,_,_,_,_,s3,_⟩:=(hI _ _ _).mp h;exact SqL.of (s3 _ _ ea)) ?_ (λσ H3 h=>hN _ _ h)⟩
    intro i x σ H3 pe hx h hpe;obtain ⟨o5,o6,o7,o8,fs,rfl,s3,e3,v3⟩:=(hI _ _ _).mp h;have Xe:=Same.new hpe (.tup [.int i,x]);obtain ⟨p,l,s,row,rfl,gi,ep,el,_⟩:=(hv.same (s3.trans Xe)).get hx;have hi:=(List.getElem?_eq_some_iff.mp hx).1;obtain ⟨lr,br⟩:=hrow _ _ _ gi;refine ⟨pe,_,rfl,SqT.of upd_same,rfl,_,_,rfl,_,_,rfl,p,_,rfl,SqT.of ep,rfl,_,_,rfl,_,_,rfl,rfl,rfl,?_⟩;have e3':=Xe _ _ e3;have v3':=v3.same Xe;have s3':=s3.trans Xe;have lfs:=v3.length;generalize upd H3 pe (.tup [.int i,.ref p])=H4 at *;simp only [List.set_cons_zero,List.set_cons_succ];simp only [rLen,rSum,rLst,tComp_eq,tCompIf_eq,iZip,rRep,tSl,tPart,tNoPart,rAppend,iEnum,capSt,List.map_cons,List.map_nil,Option.bind_none,Option.bind_some,Option.join_some,tSeq,tIfS,tAnd,tOr,tNot,tTest,tB,tOp,tUn,tBM0,tBM,tVar,tC,tCB,tRet,tAsg,gName,gSub,gTup,gCons,gNil,tCons,tNil,tPar,tTup,tLst,tIf,tAndV,tOrV,tNotV,tDef,tDrop,tNext,tNever,rI,rI0,rU,rBitLen,rIxL,rIxT,rSetL,rEq,rNe,rCount,rIsI,iRng1,iRng2,iList,iTup,cxOf,Cx.nox,Cx.wish,List.getElem?_cons_zero,List.getElem?_cons_succ,List.set_cons_zero,List.set_cons_succ,Option.some.injEq,V.int.injEq,V.bl.injEq,V.ref.injEq,V.str.injEq,exists_eq_left',exists_eq_left,exists_and_left,true_and,and_true,List.cons.injEq,reduceCtorEq,Bool.false_eq_true,if_false,if_true,exists_const,↓reduceIte,tyV,List.length_cons,List.length_nil,exists_eq,List.append_nil,List.cons_append,List.nil_append,decide_eq_true_eq,not_true_eq_false,not_false_eq_true,Bool.not_eq_true',decide_eq_false_iff_not,Bool.not_true,Bool.not_false,and_assoc,false_and,false_or,or_false];refine ⟨rfl,ite2 (λhne=>?_) (λhne=>?_)⟩
    · have hne':i ≠ at':=λz=>hne (by rw [z])
      refine ⟨l,la,row,ra,at',bf,W,rfl,SqL.of el,SqL.of (s3' _ _ ela),lr,⋯,⋯,b0,bb,aZ_mem (br),aZ_mem ((hrow _ _ _ hat).2),W8,λr T H5 s5 f5 e5 lT hT=>?_⟩;have eT:=zip_of (bf:=bf) lr lT hT;have S5:=s3'.trans s5;have e35:=s5 _ _ e3';refine ⟨.inl ⟨_,SqL.of e35⟩,sl_keep (SqL.of e5) λq1 H6 f6 s6 e6=>sl_keep (SqL.of (s6 _ _ e5)) λq2 H7 f7 s7 e7=>cat_keep (s7 _ _ e6) e7 ?_ λq3 H8 f8 s8 e8=>⟨small2,λp1 hp1=>?_⟩⟩
      · exact Nat.le_trans (Nat.add_le_add (cutV_length _ _ _) (cutV_length _ _ _)) (Nat.le_trans (show _<=100 by rw [List.length_map];omega) (by decide))
      rw [cut_take _ (by rw [List.length_map];omega),show ((at':Int)+1)=((at'+1:Nat):Int) by omega,cut_from _ (by rw [List.length_map];omega),<- List.map_take,<- List.map_drop,<- List.map_append,eT] at e8
      have e8':H8 q3=some (.lst ((upL bf at' ra row).map V.int)):=e8;have X1:=Same.new hp1 (.tup [.int s,.ref q3]);have g1:upd H8 p1 (.tup [.int s,.ref q3]) p1=some (.tup [.int s,.ref q3]):=upd_same;generalize upd H8 p1 (.tup [.int s,.ref q3])=H9 at *;have S59:=s6.trans (s7.trans (s8.trans X1));have e39:=S59 _ _ e35;have v39:=v3'.same (s5.trans S59);have q3f:q3 ≠ lf:=(ne_of_none ((s6.trans s7) _ _ e35) f8).symm;have p1f:p1 ≠ lf:=(ne_of_none ((s6.trans (s7.trans s8)) _ _ e35) hp1).symm;have Hq3:H1 q3=none:=S5.free (s6.free (s7.free f8))
      obtain ⟨j,hj,sj⟩:∃ j,(if i<=at' then i else i-1)=j/\sk at' j=i:=by
        by_cases y:i<at'
        · exact ⟨i,if_pos ⋯,if_pos y⟩
        · exact ⟨i-1,if_neg ⋯,by unfold sk;rw [if_neg ⋯];omega⟩
      have gj:(upV bf at' ra ws)[j]? = some (s,upL bf at' ra row):=by
        unfold upV;rw [List.getElem?_map,del_get _ hatl,sj,gi];rfl
      have nx:(if i+1<=at' then i+1 else i+1-1)=j+1:=by
        rw [<- hj]
        by_cases y:i<at'
        · rw [if_pos ⋯,if_pos ⋯]
        · rw [if_neg ⋯,if_neg ⋯];omega
      refine ⟨fs,e39,len_ok (by rw [lfs,List.length_take];omega),(hI _ _ _).mpr ⟨_,_,_,_,_,rfl,(S5.trans S59).over flf _,upd_same,?_⟩⟩
      rw [nx,take_snoc_get gj];rw [hj] at v39;exact VsH.snoc (by rw [upd_ne p1f];exact g1) (by rw [upd_ne q3f];exact X1 _ _ e8') ⟨Hq3,q3f⟩ (v39.over e39 λl hl=>hl.2)
    · have hie : i = at' := by
        have:V.int (i:Int)=V.int (at':Int):=by simpa using hne
        have:=V.int.inj this;omega
      refine (hI _ _ _).mpr ⟨_,_,_,_,_,rfl,s3',e3',?_⟩;rw [if_pos ⋯] at v3';rw [if_neg ⋯,Nat.add_sub_cancel];exact v3'
  rintro σ H3 h;obtain ⟨o5,o6,o7,o8,fs,rfl,s3,e3,v3⟩:=(hI _ _ _).mp h;rw [lus,if_neg ⋯,show ws.length-1=(upV bf at' ra ws).length by omega,List.take_length] at v3
  subst_eqs
  exact k lf fs H3 s3 flf e3 v3
end
end R

set_option maxRecDepth 100000
namespace R
open PySem L2 PyProof.Rows
theorem VsH.set {X:Addr->Prop} {H:Hp} {p l:Addr} {s:Int} {row:List Int} (h:H p=some (.tup [.int s,.ref l])) (e:H l=some (.lst (row.map V.int))) (f:X l):∀ {vs:List V} {ws:List (Int × List Int)} (i:Nat),VsH X H vs ws->VsH X H (vs.set i (.ref p)) (ws.set i (s,row))
 | _,_,_,.nil=>.nil
 | _,_,0,.cons _ _ _ t=>.cons h e f t
 | _,_,i+1,.cons h' e' f' t=>.cons h' e' f' (t.set h e f i)
theorem mix_fg {sa sb:Int} (ha:0<sa) (hb:0<sb):((q0r sa sb:Nat):Int) ≠ 0/\sb.fdiv (q0r sa sb)*sa=sa.fdiv (q0r sa sb)*sb/\0<sb.fdiv (q0r sa sb)/\0<sa.fdiv (q0r sa sb)/\sb.fdiv (q0r sa sb)<=sb/\sa.fdiv (q0r sa sb)<=sa/\∀ Bt:Nat,sa ∣ (Bt:Int)->sb ∣ (Bt:Int)->sb.fdiv (q0r sa sb)*sa ∣ (Bt:Int):=by
 have g0:((q0r sa sb:Nat):Int) ≠ 0:=λz=>by
  have:q0r sa sb=0:=⋯;have:=(Int.gcd_eq_zero_iff.mp this).1;omega
 obtain ⟨u,hu⟩:=v0x sa sb;obtain ⟨v,hv⟩:=v0r sa sb
 have eu:sa.fdiv (q0r sa sb)=u:=by
  conv=>lhs;arg 1;rw [hu]
  exact fdiv_of_mul g0
 have ev:sb.fdiv (q0r sa sb)=v:=by
  conv=>lhs;arg 1;rw [hv]
  exact fdiv_of_mul g0
 rw [eu,ev];obtain ⟨g,hg⟩:∃ g:Int,g=((q0r sa sb:Nat):Int):=⟨_,rfl⟩;have gp:0<g:=⋯;rw [<- hg] at hu hv
 have u1:0<u:=Classical.byContradiction λz=>by
  have:g*u<=g*0:=g0e ⋯ ⋯;omega
 have v1:0<v:=Classical.byContradiction λz=>by
  have:g*v<=g*0:=g0e ⋯ ⋯;omega
 have ul:u<=sa:=by
  have:1*u<=g*u:=g0c ⋯ ⋯;omega
 have vl:v<=sb:=by
  have:1*v<=g*v:=g0c ⋯ ⋯;omega
 refine ⟨g0,by rw [hu,hv];grind,v1,u1,vl,ul,λBt da db=>?_⟩
 have hl:v*sa=((Int.lcm sa sb:Nat):Int):=by
  have h1:=Int.gcd_mul_lcm sa sb
  have h2:g*((Int.lcm sa sb:Nat):Int)=sa*sb:=by
   rw [hg,<- j0c,h1,j0c,m0q ⋯,m0q ⋯]
  have h3:g*(v*sa)=g*((Int.lcm sa sb:Nat):Int):=by rw [h2,hv];grind
  exact g0q ⋯ h3
 rw [hl];exact y0a.mpr (Int.lcm_dvd da db)
section
variable {P:Program} {w:World} {K:q0a} {mg:Str->Option Value} {base:Heap}
def spMixed (K:q0a):Sp:=λvs H Q _ => ∃ (a:Addr) (us:List V) (ws:List (Int × List Int)) (X:Addr->Prop) (one other:Nat) (sa sb:Int) (ra rb:List Int),vs=[.ref a,.int one,.int other]/\H a=some (.lst us)/\VsH X H us ws/\ws[one]? = some (sa,ra)/\ws[other]? = some (sb,rb)/\one<ra.length/\other<ra.length/\ra.length<=30/\ws.length<=30/\(∀ (i:Nat) (s:Int) (row:List Int),ws[i]? = some (s,row)->row.length=ra.length/\∀ j,(aZ row j).natAbs<2 ^ 6000)/\0<sa/\0<sb/\sa.natAbs<2 ^ 1000/\sb.natAbs<2 ^ 1000/\∀ r us' H',Same H H'->H r=none->H' r=some (.lst us')->VsH (λl=>H l=none/\l ≠ r) H' us' (mixV (sb.fdiv (q0r sa sb)) (sa.fdiv (q0r sa sb)) one other sa ra rb ws)->Q (.ref r) H'
abbrev s_mixed:Stmt:=top 28
theorem sc_mixed:FnScope ["vectors","one","other","shared","total","both","factor","other_factor","scale","row","other_scale","other_row"] ["vectors","one","other"] (defScope s_mixed):=⟨rfl,rfl,rfl,by decide +kernel,rfl,by decide +kernel,by decide +kernel⟩
theorem ok_mixed {f f1:Addr} (d:Df K mg "mixed" s_mixed ["vectors","one","other"] f) (G_common_divisor:Def P w K mg base CX0 1 "common_divisor" f1 ["one","other"] spCD) (n_zip:mg "zip" = none):Def P w K mg base CX0 2 "mixed" f ["vectors","one","other"] (spMixed K):=by
  refine d.ok (N:=["vectors","one","other","shared","total","both","factor","other_factor","scale","row","other_scale","other_row"]) sc_mixed (by rintro vs H Q E ⟨_,_,_,_,_,_,_,_,_,_,h,_⟩;rw [h];rfl) (λcdv A outer s H vs Q E hr h=>?_)
  obtain ⟨a,us,ws,X,one,other,sa,sb,ra,rb,rfl,ea,hv,g1,g2,ol,tl,r30,w30,hrow,sa0,sb0,sab,sbb,k⟩:=h;have hu:=hr.units
  refine ⟨_, (pss_cons (ps_asg (pe_tup (pa_cons (pe_ix ix_list (pv 0) (pv 1) (fun _ _ => rfl)) (pa_cons (pe_ix ix_list (pv 0) (pv 2) (fun _ _ => rfl)) pa_nil))) (show PG _ _ (gTup K 2 (gCons (gTup K 2 (gCons (gName 8) (gCons (gName 9) gNil))) (gCons (gTup K 2 (gCons (gName 10) (gCons (gName 11) gNil))) gNil))) from by (refine pg_tup (n := 2) ?_ ?_ ?_ ?_; rfl; (refine pgs_cons ?_ ?_ ?_; (refine pg_tup (n := 2) ?_ ?_ ?_ ?_; rfl; (refine pgs_cons ?_ ?_ ?_; (exact (pg_name (i := 8) sc_mixed.nd rfl (Or.inl rfl))); (refine pgs_cons ?_ ?_ ?_; (exact (pg_name (i := 9) sc_mixed.nd rfl (Or.inl rfl))); (exact pgs_nil); rfl); rfl); rfl; rfl); (refine pgs_cons ?_ ?_ ?_; (refine pg_tup (n := 2) ?_ ?_ ?_ ?_; rfl; (refine pgs_cons ?_ ?_ ?_; (exact (pg_name (i := 10) sc_mixed.nd rfl (Or.inl rfl))); (refine pgs_cons ?_ ?_ ?_; (exact (pg_name (i := 11) sc_mixed.nd rfl (Or.inl rfl))); (exact pgs_nil); rfl); rfl); rfl; rfl); (exact pgs_nil); rfl); rfl); rfl; rfl)))
      (pss_cons (ps_set (i:=3) sc_mixed.nd rfl (Or.inl rfl) (pe_def G_common_divisor hr (pa_cons (pv 8) (pa_cons (pv 10) pa_nil)) pass0))
      (pss_cons (ps_asg (pe_tup (pa_cons (pe_op op_fdivB (pv 10) (pv 3)) (pa_cons (pe_op op_fdivB (pv 8) (pv 3)) pa_nil))) (show PG _ _ (gTup K 2 (gCons (gName 6) (gCons (gName 7) gNil))) from by (refine pg_tup (n:=2) ?_ ?_ ?_ ?_;rfl;(refine pgs_cons ?_ ?_ ?_;(exact (pg_name (i:=6) sc_mixed.nd rfl (Or.inr rfl)));(refine pgs_cons ?_ ?_ ?_;(exact (pg_name (i:=7) sc_mixed.nd rfl (Or.inr rfl)));(exact pgs_nil);rfl);rfl);rfl;rfl)))
      (pss_cons (ps_setComp (i₀:=4) sc_mixed.nd rfl (Or.inl rfl) (Nc:=["other_factor","factor","a","b"]) (caps:=[some 7,some 6,none,none]) rfl (Caps.of (osc:=defScope s_mixed) (N:=["vectors","one","other","shared","total","both","factor","other_factor","scale","row","other_scale","other_row"]) (ks:=["other_factor","factor"]) rfl rfl rfl rfl (sub_cons rfl (sub_cons rfl sub_nil)) (by decide +kernel)) (pi_zip rfl n_zip (pa_cons (pv 9) (pa_cons (pv 11) pa_nil))) (λC s₂ H₂ fp pins=>(show PG _ _ (gTup K 2 (gCons (gName 2) (gCons (gName 3) gNil))) from by (refine pg_tup (n:=2) ?_ ?_ ?_ ?_;rfl;(refine pgs_cons ?_ ?_ ?_;(exact (pg_name (i:=2) (show List.Nodup (["other_factor","factor","a","b"]:List Str) by decide +kernel) rfl (Or.inl rfl) (Or.inr rfl)));(refine pgs_cons ?_ ?_ ?_;(exact (pg_name (i:=3) (show List.Nodup (["other_factor","factor","a","b"]:List Str) by decide +kernel) rfl (Or.inl rfl) (Or.inr rfl)));(exact pgs_nil);rfl);rfl);rfl;rfl))) (λC s₂ H₂ fp pins=>(pe_op op_add (pe_op op_mulB (pv 1) (pv 2)) (pe_op op_mulB (pv 0) (pv 3)))))
      (pss_cons (ps_set (i:=5) sc_mixed.nd rfl (Or.inl rfl) (pe_op op_cat (pe_op op_cat (pe_slice sl_list (pv 0) po_none (po_some (pv 1))) (pe_lst (pa_cons (pe_tup (pa_cons (pe_op op_mulB (pv 6) (pv 8)) (pa_cons (pv 4) pa_nil))) pa_nil))) (pe_slice sl_list (pv 0) (po_some (pe_op op_add (pv 1) pe_int)) po_none)))
      (pss_one (ps_ret (pe_comp (Nc:=["other","one","many","line"]) (caps:=[some 2,some 1,none,none]) rfl (Caps.of (osc:=defScope s_mixed) (N:=["vectors","one","other","shared","total","both","factor","other_factor","scale","row","other_scale","other_row"]) (ks:=["other","one"]) rfl rfl rfl rfl (sub_cons rfl (sub_cons rfl sub_nil)) (by decide +kernel)) (pi_list (pv 5)) (λC s₂ H₂ fp pins=>(show PG _ _ (gTup K 2 (gCons (gName 2) (gCons (gName 3) gNil))) from by (refine pg_tup (n:=2) ?_ ?_ ?_ ?_;rfl;(refine pgs_cons ?_ ?_ ?_;(exact (pg_name (i:=2) (show List.Nodup (["other","one","many","line"]:List Str) by decide +kernel) rfl (Or.inl rfl) (Or.inr rfl)));(refine pgs_cons ?_ ?_ ?_;(exact (pg_name (i:=3) (show List.Nodup (["other","one","many","line"]:List Str) by decide +kernel) rfl (Or.inl rfl) (Or.inr rfl)));(exact pgs_nil);rfl);rfl);rfl;rfl))) (λC s₂ H₂ fp pins=>(pe_tup (pa_cons (pv 2) (pa_cons (pe_op op_cat (pe_op op_cat (pe_slice (by exact sl_list:SlR _ (rSlL K)) (pv 3) po_none (po_some (pv 1))) (pe_lst (pa_cons (pe_op op_add (pe_ix (by exact ix_list:IxR _ (rIxL K)) (pv 3) (pv 1) (λ_ _=>rfl)) (pe_ix (by exact ix_list:IxR _ (rIxL K)) (pv 3) (pv 0) (λ_ _=>rfl))) pa_nil))) (pe_slice (by exact sl_list:SlR _ (rSlL K)) (pv 3) (po_some (pe_op op_add (pv 1) pe_int)) po_none)) pa_nil)))))))))))),?_⟩
  rw [show start ["vectors","one","other","shared","total","both","factor","other_factor","scale","row","other_scale","other_row"] [.ref a,.int one,.int other]=[some (.ref a),some (.int one),some (.int other),none,none,none,none,none,none,none,none,none] from rfl]
  have lus:=hv.length;have h1:=(List.getElem?_eq_some_iff.mp g1).1;have h2:=(List.getElem?_eq_some_iff.mp g2).1;obtain ⟨v1,hv1⟩:∃ v,us[one]? = some v:=⟨_,List.getElem?_eq_getElem ⋯⟩;obtain ⟨v2,hv2⟩:∃ v,us[other]? = some v:=⟨_,List.getElem?_eq_getElem ⋯⟩;obtain ⟨p1,l1,s1,row1,rfl,z1,ep1,el1,_⟩:=hv.get hv1;obtain ⟨p2,l2,s2,row2,rfl,z2,ep2,el2,_⟩:=hv.get hv2;rw [g1] at z1;rw [g2] at z2
  cases z1
  cases z2
  obtain ⟨gn0,efg,f1',g1',fle,gle,_⟩:=mix_fg sa0 sb0;obtain ⟨ff,hff⟩:∃ ff,ff=sb.fdiv (Int.gcd sa sb):=⟨_,rfl⟩;obtain ⟨gg,hgg⟩:∃ gg,gg=sa.fdiv (Int.gcd sa sb):=⟨_,rfl⟩;rw [<- hff,<- hgg] at k;rw [<- hff] at efg f1' fle;rw [<- hgg] at efg g1' gle;refine seq_cut (λσ H1=>σ=[some (.ref a),some (.int one),some (.int other),none,none,none,none,none,some (.int sa),some (.ref l1),some (.int sb),some (.ref l2)]/\Same H H1) (λN hN=>?_) ?_
  · subst_eqs
    refine ⟨us,SqL.of ea,_,atI_nat hv1,us,SqL.of ea,_,atI_nat hv2,small2,λp hp=>?_⟩;have X:=Same.new hp (.tup [.ref p1,.ref p2]);exact ⟨_,SqT.of upd_same,rfl,_,_,rfl,p1,rfl,_,SqT.of (X _ _ ep1),rfl,_,_,rfl,_,_,rfl,rfl,_,_,rfl,p2,rfl,_,SqT.of (X _ _ ep2),rfl,_,_,rfl,_,_,rfl,rfl,rfl,hN _ _ ⟨rfl,X⟩⟩
  rintro σ H1 ⟨rfl,S1⟩;refine seq_cut (λσ H2=>σ=[some (.ref a),some (.int one),some (.int other),some (.int (Int.gcd sa sb:Nat)),none,none,none,none,some (.int sa),some (.ref l1),some (.int sb),some (.ref l2)]/\H2=H1) (λN hN=>?_) ?_
  · and_intros
    exact ⟨.inl (Nat.lt_of_lt_of_le sab (pow_le_pow2 (by decide))),hN _ _ ⟨rfl,rfl⟩⟩
  rintro σ H2 ⟨rfl,rfl⟩;refine seq_cut (λσ H3=>σ=[some (.ref a),some (.int one),some (.int other),some (.int (Int.gcd sa sb:Nat)),none,none,some (.int ff),some (.int gg),some (.int sa),some (.ref l1),some (.int sb),some (.ref l2)]/\Same H2 H3) (λN hN=>?_) ?_
  · subst_eqs
    have gb:((Int.gcd sa sb:Nat):Int).natAbs<2 ^ 9000:=by
      rw [Int.natAbs_natCast];have h3:=Nat.le_of_dvd ⋯ (Int.natAbs_dvd_natAbs.mpr (Int.gcd_dvd_left sa sb));rw [Int.natAbs_natCast] at h3;exact Nat.lt_of_le_of_lt h3 (Nat.lt_of_lt_of_le sab (pow_le_pow2 (by decide)))
    refine ⟨divOk gn0 gb,divOk gn0 gb,small2,λp hp=>⟨_,SqT.of upd_same,rfl,_,_,rfl,_,_,rfl,rfl,?_⟩⟩;rw [<- hff,<- hgg];exact hN _ _ ⟨rfl,Same.new hp _⟩
  rintro σ H3 ⟨rfl,S3⟩;have S03:=S1.trans S3;obtain ⟨lr1,br1⟩:=hrow _ _ _ g1;obtain ⟨lr2,br2⟩:=hrow _ _ _ g2
  have get':∀ {G:List Int} {i:Nat},i<G.length->(G.map V.int)[i]? = some (.int (aZ G i)):=fun {G i} h=>by
    unfold aZ;rw [List.getElem?_map,List.getElem?_eq_getElem h];rfl
  have ffb:ff.natAbs<2 ^ 1000:=⋯;have ggb:gg.natAbs<2 ^ 1000:=⋯;refine seq_cut (λσ H4 => ∃ lt,σ=[some (.ref a),some (.int one),some (.int other),some (.int (Int.gcd sa sb:Nat)),some (.ref lt),none,some (.int ff),some (.int gg),some (.int sa),some (.ref l1),some (.int sb),some (.ref l2)]/\Same H3 H4/\H4 lt=some (.lst ((mixL ff gg ra rb).map V.int))) (λN hN=>?_) ?_
  · subst_eqs
    have m1:=S03 _ _ el1;have m2:=S03 _ _ el2;refine ⟨⟨_,SqL.of m1⟩,⟨_,SqL.of m2⟩,λD hD=>?_⟩;have lm:(mixL ff gg ra rb).length=ra.length:=by unfold mixL;rw [List.length_zipWith];omega
    have mb:min (ra.map V.int).length (rb.map V.int).length=ra.length:=by rw [List.length_map,List.length_map];omega
    refine cw_zip (ra.map V.int) (rb.map V.int) (λi σ H4 => ∃ o1 o2,σ=[some (V.int gg),some (V.int ff),o1,o2]/\Same H3 H4/\H4 D=some (.lst (((mixL ff gg ra rb).take i).map V.int))) ⟨_,_,rfl,Same.new hD _,upd_same⟩ (by rintro i σ H4 ⟨_,_,_,s4,_⟩;exact ⟨SqL.of (s4 _ _ m1),SqL.of (s4 _ _ m2)⟩) ?_ ?_
    · rintro i x y σ H4 q hx hy ⟨o1,o2,rfl,s4,e4⟩ hq
      have hi:i<ra.length:=by
        have:=(List.getElem?_eq_some_iff.mp hx).1;rw [List.length_map] at this;exact this
      rw [get' hi] at hx;rw [get' ⋯] at hy
      cases hx
      cases hy
      have T:=Same.new hq (.tup [.int (aZ ra i),.int (aZ rb i)]);have eT:=T _ _ e4
      have gm:(mixL ff gg ra rb)[i]? = some (ff*aZ ra i+gg*aZ rb i):=by
        have h5:=mixL_get (f:=ff) (g:=gg) (ra:=ra) (rb:=rb) ⋯ i;unfold aZ at h5;rw [List.getElem?_eq_getElem ⋯] at h5 ⊢;exact congrArg some h5
      subst_eqs
      refine ⟨_,SqT.of upd_same,rfl,_,_,rfl,_,_,rfl,rfl,_,rfl,mulOk ffb (br1 i) (by decide),_,rfl,mulOk ggb (br2 i) (by decide),?_⟩
      rw [mb];refine CompN.mk hi eT (len_ok (by rw [List.length_map,List.length_take];omega)) ⟨_,_,rfl,(s4.trans T).over hD _,?_⟩
      rw [upd_same,take_snoc_get gm,List.map_append];rfl
    · rintro σ H4 ⟨o1,o2,rfl,s4,e4⟩
      rw [mb,List.take_of_length_le ⋯] at e4;exact hN _ _ ⟨D,rfl,s4,e4⟩
  rintro σ H4 ⟨lt,rfl,s4,et⟩;have S04:=S03.trans s4;have ea4:=S04 _ _ ea;have hv4:=(hv.same S04).to (Y:=λ_=>True) λ_ _=>trivial;refine seq_cut (λσ H5 => ∃ lb us2,σ=[some (.ref a),some (.int one),some (.int other),some (.int (Int.gcd sa sb:Nat)),some (.ref lt),some (.ref lb),some (.int ff),some (.int gg),some (.int sa),some (.ref l1),some (.int sb),some (.ref l2)]/\Same H4 H5/\H5 lb=some (.lst us2)/\VsH (λ_=>True) H5 us2 (ws.set one (ff*sa,mixL ff gg ra rb))) (λN hN=>?_) ?_
  · simp only [rLen,rSum,rLst,tComp_eq,tCompIf_eq,iZip,rRep,tSl,tPart,tNoPart,rAppend,iEnum,capSt,List.map_cons,List.map_nil,Option.bind_none,Option.bind_some,Option.join_some,tSeq,tIfS,tAnd,tOr,tNot,tTest,tB,tOp,tUn,tBM0,tBM,tVar,tC,tCB,tRet,tAsg,gName,gSub,gTup,gCons,gNil,tCons,tNil,tPar,tTup,tLst,tIf,tAndV,tOrV,tNotV,tDef,tDrop,tNext,tNever,rI,rI0,rU,rBitLen,rIxL,rIxT,rSetL,rEq,rNe,rCount,rIsI,iRng1,iRng2,iList,iTup,cxOf,Cx.nox,Cx.wish,List.getElem?_cons_zero,List.getElem?_cons_succ,List.set_cons_zero,List.set_cons_succ,Option.some.injEq,V.int.injEq,V.bl.injEq,V.ref.injEq,V.str.injEq,exists_eq_left',exists_eq_left,exists_and_left,true_and,and_true,List.cons.injEq,reduceCtorEq,Bool.false_eq_true,if_false,if_true,exists_const,↓reduceIte,tyV,List.length_cons,List.length_nil,exists_eq,List.append_nil,List.cons_append,List.nil_append,decide_eq_true_eq,not_true_eq_false,not_false_eq_true,Bool.not_eq_true',decide_eq_false_iff_not,Bool.not_true,Bool.not_false,and_assoc,false_and,false_or,or_false]
    refine sl_keep (SqL.of ea4) λq1 H5 f5 s5 e5=>⟨mulOk ffb sab (by decide),small2,λp hp=>⟨small1,λp3 hp3=>?_⟩⟩
    have X1:=Same.new hp (.tup [.int (ff*sa),.ref lt]);have u1:upd H5 p (.tup [.int (ff*sa),.ref lt]) p=some (.tup [.int (ff*sa),.ref lt]):=upd_same;generalize upd H5 p (.tup [.int (ff*sa),.ref lt])=H6 at *;have X2:=Same.new hp3 (.lst [.ref p]);have u2:upd H6 p3 (.lst [.ref p]) p3=some (.lst [.ref p]):=upd_same;generalize upd H6 p3 (.lst [.ref p])=H7 at *;have X12:=X1.trans X2;have S57:=s5.trans X12;rw [cut_take us ⋯] at e5;refine cat_keep (X12 _ _ e5) u2 (Nat.le_trans (show _<=100 by rw [List.length_take];simp;omega) (by decide)) λq4 H8 f8 s8 e8=>sl_keep (SqL.of (s8 _ _ (S57 _ _ ea4))) λq5 H9 f9 s9 e9=>?_
    rw [show ((one:Int)+1)=((one+1:Nat):Int) by omega,cut_from us ⋯] at e9
    refine cat_keep (s9 _ _ e8) e9 (Nat.le_trans (show _<=100 by rw [List.length_append,List.length_take,List.length_drop];simp;omega) (by decide)) λq6 HA fA sA eA=>?_
    rw [put_one us (.ref p) ⋯] at eA;have S4A:=S57.trans (s8.trans (s9.trans sA));exact hN _ _ ⟨q6,_,rfl,S4A,eA,VsH.set ((X2.trans (s8.trans (s9.trans sA))) _ _ u1) (S4A _ _ et) trivial one (hv4.same S4A)⟩
  rintro σ H5 ⟨lb,us2,rfl,s5,eb,hb⟩
  subst_eqs
  have lb2:=hb.length;rw [List.length_set] at lb2;obtain ⟨ws2,hws2⟩:∃ ws2,ws2=mixV ff gg one other sa ra rb ws:=⟨_,rfl⟩;rw [<- hws2] at k;have lw2:ws2.length=ws.length:=by rw [hws2];unfold mixV;rw [List.length_map,List.length_set]
  refine ⟨⟨_,SqL.of eb⟩,λD hD=>?_⟩;refine cw_list us2 (λi σ H6 => ∃ o1 o2 zs,σ=[some (V.int other),some (V.int one),o1,o2]/\Same H5 H6/\H6 D=some (.lst zs)/\VsH (λl=>H5 l=none/\l ≠ D) H6 zs (ws2.take i)) ⟨_,_,[],rfl,Same.new hD _,upd_same,.nil⟩ (λi σ H6 _ ⟨_,_,_,_,s6,_⟩=>SqL.of (s6 _ _ eb)) ?_ ?_
  · rintro i x σ H6 hx ⟨o1,o2,zs,rfl,s6,e6,v6⟩
    obtain ⟨p,l,s,row,rfl,gi,ep,el,_⟩:=(hb.same s6).get hx;have hi:=(List.getElem?_eq_some_iff.mp gi).1;rw [List.length_set] at hi
    have lrow:row.length=ra.length:=by
      rw [List.getElem?_set] at gi
      by_cases y:one=i
      · rw [if_pos y,if_pos h1] at gi
        cases gi
        unfold mixL;rw [List.length_zipWith];omega
      · rw [if_neg y] at gi
        exact (hrow _ _ _ gi).1
    have gw:ws2[i]? = some (s,colL one other row):=by rw [hws2];unfold mixV;rw [List.getElem?_map,gi];rfl
    have lzs:=v6.length;simp only [rLen,rSum,rLst,tComp_eq,tCompIf_eq,iZip,rRep,tSl,tPart,tNoPart,rAppend,iEnum,capSt,List.map_cons,List.map_nil,Option.bind_none,Option.bind_some,Option.join_some,tSeq,tIfS,tAnd,tOr,tNot,tTest,tB,tOp,tUn,tBM0,tBM,tVar,tC,tCB,tRet,tAsg,gName,gSub,gTup,gCons,gNil,tCons,tNil,tPar,tTup,tLst,tIf,tAndV,tOrV,tNotV,tDef,tDrop,tNext,tNever,rI,rI0,rU,rBitLen,rIxL,rIxT,rSetL,rEq,rNe,rCount,rIsI,iRng1,iRng2,iList,iTup,cxOf,Cx.nox,Cx.wish,List.getElem?_cons_zero,List.getElem?_cons_succ,List.set_cons_zero,List.set_cons_succ,Option.some.injEq,V.int.injEq,V.bl.injEq,V.ref.injEq,V.str.injEq,exists_eq_left',exists_eq_left,exists_and_left,true_and,and_true,List.cons.injEq,reduceCtorEq,Bool.false_eq_true,if_false,if_true,exists_const,↓reduceIte,tyV,List.length_cons,List.length_nil,exists_eq,List.append_nil,List.cons_append,List.nil_append,decide_eq_true_eq,not_true_eq_false,not_false_eq_true,Bool.not_eq_true',decide_eq_false_iff_not,Bool.not_true,Bool.not_false,and_assoc,false_and,false_or,or_false];refine ⟨_,SqT.of ep,rfl,_,_,rfl,_,_,rfl,rfl,?_⟩;refine sl_keep (SqL.of el) λq1 H7 f7 s7 e7=>?_;have el7:=s7 _ _ el;refine ⟨l,rfl,_,SqL.of el7,_,atI_nat (get' ⋯),l,rfl,_,SqL.of el7,_,atI_nat (get' ⋯),_,rfl,_,rfl,small1,λp3 hp3=>?_⟩;have X2:=Same.new hp3 (.lst [.int (aZ row one+aZ row other)]);have u2:upd H7 p3 (.lst [.int (aZ row one+aZ row other)]) p3=some (.lst [.int (aZ row one+aZ row other)]):=upd_same;generalize upd H7 p3 (.lst [.int (aZ row one+aZ row other)])=H8 at *;rw [cut_take _ (by rw [List.length_map];omega)] at e7
    refine cat_keep (X2 _ _ e7) u2 (Nat.le_trans (show _<=100 by rw [List.length_take,List.length_map];simp;omega) (by decide)) λq4 H9 f9 s9 e9=>sl_keep (SqL.of (s9 _ _ (X2 _ _ el7))) λq5 HA fA sA eA=>?_
    rw [show ((one:Int)+1)=((one+1:Nat):Int) by omega,cut_from _ (by rw [List.length_map];omega)] at eA
    refine cat_keep (sA _ _ e9) eA (Nat.le_trans (show _<=100 by rw [List.length_append,List.length_take,List.length_drop,List.length_map];simp;omega) (by decide)) λq6 HB fB sB eB=>⟨small2,λp6 hp6=>?_⟩
    have eB':HB q6=some (.lst ((colL one other row).map V.int)):=by
      rw [eB];unfold colL;rw [List.map_append,List.map_append,List.map_take,List.map_drop];rfl
    have X6:=Same.new hp6 (.tup [.int s,.ref q6]);have u6:upd HB p6 (.tup [.int s,.ref q6]) p6=some (.tup [.int s,.ref q6]):=upd_same;generalize upd HB p6 (.tup [.int s,.ref q6])=HC at *;have S9:=s7.trans (X2.trans (s9.trans (sA.trans sB)));have S6C:=S9.trans X6;have eC:=S6C _ _ e6;have vC:=v6.same S6C;have q6D:q6 ≠ D:=(ne_of_none ((s7.trans (X2.trans (s9.trans sA))) _ _ e6) fB).symm;have p6D:p6 ≠ D:=(ne_of_none (S9 _ _ e6) hp6).symm;have Hq6:H5 q6=none:=s6.free ((s7.trans (X2.trans (s9.trans sA))).free fB);refine CompN.mk ⋯ eC (len_ok (by rw [lzs,List.length_take];omega)) ⟨_,_,rfl,(s6.trans S6C).over hD _,_,upd_same,?_⟩
    rw [take_snoc_get gw];exact VsH.snoc (by rw [upd_ne p6D];exact u6) (by rw [upd_ne q6D];exact X6 _ _ eB') ⟨Hq6,q6D⟩ (vC.over eC λl hl=>hl.2)
  · rintro σ H6 ⟨o1,o2,zs,rfl,s6,e6,v6⟩
    rw [List.take_of_length_le ⋯] at v6;have S:=S04.trans (s5.trans s6);have fr:=S04.trans s5;exact k D zs H6 S (fr.free hD) e6 (v6.to λl hl=>⟨fr.free hl.1,hl.2⟩)
end
end R

set_option maxRecDepth 100000
namespace R
open PySem L2 PyProof.Rows
section
variable {P:Program} {w:World} {K:q0a} {mg:Str->Option Value} {base:Heap}
def spWith (K:q0a):Sp:=λvs H Q _ => ∃ (a:Addr) (us:List V) (ws:List (Int × List Int)) (X:Addr->Prop) (n:Nat),vs=[.ref a]/\H a=some (.lst us)/\VsH X H us ws/\ws.length<=n/\n<=30/\(∀ (i:Nat) (s:Int) (row:List Int),ws[i]? = some (s,row)->0<s/\s.natAbs<2 ^ 1000/\row.length=n/\∀ j,(aZ row j).natAbs<2 ^ 6000) /\
 (∀ at' sa ra,ws[at']? = some (sa,ra)->aZ ra at' ≠ 0->∀ r H',Same H H'->H' r=some (.tup [.int (at':Nat),.ref a])->Q (.ref r) H') /\
 ((∀ i s row,ws[i]? = some (s,row)->aZ row i=0)->∀ one other sa sb ra rb,one<other->ws[one]? = some (sa,ra)->ws[other]? = some (sb,rb)->aZ ra other ≠ 0->∀ r b us' H',Same H H'->H b=none->H' r=some (.tup [.int (one:Nat),.ref b])->H' b=some (.lst us')->VsH (λl=>H l=none/\l ≠ b) H' us' (mixV (sb.fdiv (q0r sa sb)) (sa.fdiv (q0r sa sb)) one other sa ra rb ws)->Q (.ref r) H') /\
 ((∀ (i:Nat) (s:Int) (row:List Int),ws[i]? = some (s,row)->∀ c,i<=c->c<ws.length->aZ row c=0)->∀ r H',Same H H'->H' r=some (.tup [.non,.ref a])->Q (.ref r) H')
abbrev s_with_square:Stmt:=top 29
theorem sc_with_square:FnScope ["vectors","many","place","one","other","scale","row"] ["vectors"] (defScope s_with_square):=⟨rfl,rfl,rfl,by decide +kernel,rfl,by decide +kernel,by decide +kernel⟩
theorem ok_with_square {f f1:Addr} (d:Df K mg "with_square" s_with_square ["vectors"] f) (G_mixed:Def P w K mg base CX0 2 "mixed" f1 ["vectors","one","other"] (spMixed K)) (n_enumerate:mg "enumerate" = none) (n_range:mg "range" = none) (n_len:mg "len" = none):Def P w K mg base CX0 3 "with_square" f ["vectors"] (spWith K):=by
  refine d.ok (N:=["vectors","many","place","one","other","scale","row"]) sc_with_square (by rintro vs H Q E ⟨_,_,_,_,_,h,_⟩;rw [h];rfl) (λcdv A outer s H vs Q E hr h=>?_)
  obtain ⟨a,us,ws,X,n,rfl,ea,hv,wn,n30,hrow,kA,kB,kC⟩:=h;have hu:=hr.units
  refine ⟨_, (pss_cons (ps_set (i := 1) sc_with_square.nd rfl (Or.inl rfl) (pe_callB call_len_seq rfl n_len (by decide +kernel) (pa_cons (pv 0) pa_nil)))
      (pss_cons (ps_for PassesOwn.never rfl (pi_enum rfl n_enumerate (pa_cons (pv 0) pa_nil)) (show PG _ _ (gTup K 2 (gCons (gName 2) (gCons (gTup K 2 (gCons (gName 5) (gCons (gName 6) gNil))) gNil))) from by (refine pg_tup (n:=2) ?_ ?_ ?_ ?_;rfl;(refine pgs_cons ?_ ?_ ?_;(exact (pg_name (i:=2) sc_with_square.nd rfl (Or.inl rfl)));(refine pgs_cons ?_ ?_ ?_;(refine pg_tup (n:=2) ?_ ?_ ?_ ?_;rfl;(refine pgs_cons ?_ ?_ ?_;(exact (pg_name (i:=5) sc_with_square.nd rfl (Or.inl rfl)));(refine pgs_cons ?_ ?_ ?_;(exact (pg_name (i:=6) sc_with_square.nd rfl (Or.inl rfl)));(exact pgs_nil);rfl);rfl);rfl;rfl);(exact pgs_nil);rfl);rfl);rfl;rfl)) (pss_one (ps_if (pt_truth (pe_ix ix_list (pv 6) (pv 2) (λ_ _=>rfl)) (λ_=>rfl)) (pss_one (ps_ret (pe_tup (pa_cons (pv 2) (pa_cons (pv 0) pa_nil))))) pss_nil)))
      (pss_cons (ps_for PassesOwn.never rfl (pi_enum rfl n_enumerate (pa_cons (pv 0) pa_nil)) (show PG _ _ (gTup K 2 (gCons (gName 3) (gCons (gTup K 2 (gCons (gName 5) (gCons (gName 6) gNil))) gNil))) from by (refine pg_tup (n:=2) ?_ ?_ ?_ ?_;rfl;(refine pgs_cons ?_ ?_ ?_;(exact (pg_name (i:=3) sc_with_square.nd rfl (Or.inl rfl)));(refine pgs_cons ?_ ?_ ?_;(refine pg_tup (n:=2) ?_ ?_ ?_ ?_;rfl;(refine pgs_cons ?_ ?_ ?_;(exact (pg_name (i:=5) sc_with_square.nd rfl (Or.inl rfl)));(refine pgs_cons ?_ ?_ ?_;(exact (pg_name (i:=6) sc_with_square.nd rfl (Or.inl rfl)));(exact pgs_nil);rfl);rfl);rfl;rfl);(exact pgs_nil);rfl);rfl);rfl;rfl)) (pss_one (ps_for PassesOwn.never rfl (pi_range2 rfl n_range (pa_cons (pe_op op_add (pv 3) pe_int) (pa_cons (pv 1) pa_nil))) (pg_name (i:=4) sc_with_square.nd rfl (Or.inl rfl)) (pss_one (ps_if (pt_truth (pe_ix ix_list (pv 6) (pv 4) (λ_ _=>rfl)) (λ_=>rfl)) (pss_one (ps_ret (pe_tup (pa_cons (pv 3) (pa_cons (pe_def G_mixed hr (pa_cons (pv 0) (pa_cons (pv 3) (pa_cons (pv 4) pa_nil))) pass0) pa_nil))))) pss_nil)))))
      (pss_one (ps_ret (pe_tup (pa_cons pe_non (pa_cons (pv 0) pa_nil)))))))),?_⟩
  rw [show start ["vectors","many","place","one","other","scale","row"] [.ref a]=[some (.ref a),none,none,none,none,none,none] from rfl]
  have lus:=hv.length
  have get':∀ {G:List Int} {i:Nat},i<G.length->(G.map V.int)[i]? = some (.int (aZ G i)):=fun {G i} h=>by
    unfold aZ;rw [List.getElem?_map,List.getElem?_eq_getElem h];rfl
  refine seq_cut (λσ H1=>σ=[some (.ref a),some (.int (us.length:Int)),none,none,none,none,none]/\H1=H) (λN hN=>?_) ?_
  · subst_eqs
    exact ⟨_,.inl (SqL.of ea),hN _ _ ⟨rfl,rfl⟩⟩
  rintro σ H1 ⟨rfl,rfl⟩;obtain ⟨I,hI⟩:∃ I:Nat->L2.St->Hp->Prop,∀ i σ H2,I i σ H2 ↔ ∃ o2 o3 o4 o5 o6,σ=[some (.ref a),some (.int (us.length:Int)),o2,o3,o4,o5,o6]/\Same H1 H2/\∀ (i':Nat) (s:Int) (row:List Int),i'<i->ws[i']? = some (s,row)->aZ row i'=0:=⟨_,λ_ _ _=>Iff.rfl⟩;refine seq_cut (λσ H2=>I us.length σ H2) (λN hN=>?_) ?_
  · refine ⟨_,rfl,a,rfl,⟨_,SqL.of ea⟩,for_enum us I ((hI _ _ _).mpr ⟨_,_,_,_,_,rfl,Same.refl _,λi' _ _ h=>⋯⟩) (by intro i σ H2 h;obtain ⟨_,_,_,_,_,_,s2,_⟩:=(hI _ _ _).mp h;exact SqL.of (s2 _ _ ea)) ?_ (λσ H2 h=>hN _ _ h)⟩
    intro i x σ H2 pe hx h hpe;obtain ⟨o2,o3,o4,o5,o6,rfl,s2,hz⟩:=(hI _ _ _).mp h;have Xe:=Same.new hpe (.tup [.int i,x]);obtain ⟨p,l,s,row,rfl,gi,ep,el,_⟩:=(hv.same (s2.trans Xe)).get hx;have hi:=(List.getElem?_eq_some_iff.mp hx).1;obtain ⟨_,_,lr,_⟩:=hrow _ _ _ gi;refine ⟨pe,_,rfl,SqT.of upd_same,rfl,_,_,rfl,_,_,rfl,p,_,rfl,SqT.of ep,rfl,_,_,rfl,_,_,rfl,rfl,rfl,?_⟩;have s2':=s2.trans Xe;generalize upd H2 pe (.tup [.int i,.ref p])=H3 at *;simp only [List.set_cons_zero,List.set_cons_succ]
    subst_eqs
    have ii:i<row.length:=⋯;refine ⟨_,SqL.of el,_,atI_nat (get' ii),_,rfl,ite2 (λh1=>?_) (λh1=>?_)⟩
    · refine ⟨small2,λp1 hp1=>kA i s row gi (by simpa using h1) p1 _ (s2'.trans (Same.new hp1 _)) upd_same⟩
    · refine (hI _ _ _).mpr ⟨_,_,_,_,_,rfl,s2',λi' s' row' h1' h2'=>?_⟩
      rcases Nat.lt_or_ge i' i with y | y
      · exact hz i' s' row' y h2'
      · have:i'=i:=⋯
        subst this;rw [gi] at h2'
        cases h2'
        simpa using h1
  rintro σ H2 h;obtain ⟨o2,o3,o4,o5,o6,rfl,s2,hz⟩:=(hI _ _ _).mp h;have hz':∀ (i:Nat) (s:Int) (row:List Int),ws[i]? = some (s,row)->aZ row i=0:=λi s row h=>hz i s row (by have:=(List.getElem?_eq_some_iff.mp h).1;omega) h
  obtain ⟨J,hJ⟩:∃ J:Nat->L2.St->Hp->Prop,∀ i σ H3,J i σ H3 ↔ ∃ o2 o3 o4 o5 o6,σ=[some (.ref a),some (.int (us.length:Int)),o2,o3,o4,o5,o6]/\Same H1 H3/\∀ (i':Nat) (s:Int) (row:List Int),i'<i->ws[i']? = some (s,row)->∀ c,i'<c->c<ws.length->aZ row c=0:=⟨_,λ_ _ _=>Iff.rfl⟩;refine seq_cut (λσ H3=>J us.length σ H3) (λN hN=>?_) ?_
  · refine ⟨_,rfl,a,rfl,⟨_,SqL.of (s2 _ _ ea)⟩,for_enum us J ((hJ _ _ _).mpr ⟨_,_,_,_,_,rfl,s2,λi' _ _ h=>⋯⟩) (by intro i σ H3 h;obtain ⟨_,_,_,_,_,_,s3,_⟩:=(hJ _ _ _).mp h;exact SqL.of (s3 _ _ ea)) ?_ (λσ H3 h=>hN _ _ h)⟩
    intro i x σ H3 pe hx h hpe;obtain ⟨o2,o3,o4,o5,o6,rfl,s3,hz3⟩:=(hJ _ _ _).mp h;have Xe:=Same.new hpe (.tup [.int i,x]);obtain ⟨p,l,s,row,rfl,gi,ep,el,_⟩:=(hv.same (s3.trans Xe)).get hx;have hi:=(List.getElem?_eq_some_iff.mp hx).1;obtain ⟨_,_,lr,_⟩:=hrow _ _ _ gi;refine ⟨pe,_,rfl,SqT.of upd_same,rfl,_,_,rfl,_,_,rfl,p,_,rfl,SqT.of ep,rfl,_,_,rfl,_,_,rfl,rfl,rfl,?_⟩;have s3':=s3.trans Xe;generalize upd H3 pe (.tup [.int i,.ref p])=H4 at *;simp only [List.set_cons_zero,List.set_cons_succ];obtain ⟨L,hL⟩:∃ L:Nat->L2.St->Hp->Prop,∀ v σ H5,L v σ H5 ↔ ∃ o4,σ=[some (.ref a),some (.int (us.length:Int)),o2,some (.int (i:Int)),o4,some (.int s),some (.ref l)]/\H5=H4/\∀ c,i<c->c<i+1+v->aZ row c=0:=⟨_,λ_ _ _=>Iff.rfl⟩;refine ⟨_,rfl,(i:Int),1,rfl,rfl,_,rfl,_,_,rfl,⟨⋯,⋯,⋯,⋯⟩,for_range L ((hL _ _ _).mpr ⟨_,rfl,rfl,λc h1 h2=>⋯⟩) ?_ (λσ H5 h=>?_)⟩
    · intro v σ H5 hv' h
      obtain ⟨o4,rfl,rfl,hz5⟩:=(hL _ _ _).mp h;have hw:i+1+v<us.length:=⋯;have ew:(i:Int)+1+(v:Int)=((i+1+v:Nat):Int):=⋯
      subst_eqs
      rw [ew];refine ⟨_,SqL.of el,_,atI_nat (get' (show i+1+v<row.length by omega)),_,rfl,ite2 (λh1=>?_) (λh1=>?_)⟩
      · obtain ⟨⟨sb,rb⟩,gb⟩:∃ x,ws[i+1+v]? = some x:=⟨_,List.getElem?_eq_getElem ⋯⟩
        obtain ⟨sb0,sbb,lrb,_⟩:=hrow _ _ _ gb;obtain ⟨s0,sbd,_,_⟩:=hrow _ _ _ gi;refine ⟨a,us,ws,X,i,i+1+v,s,sb,row,rb,rfl,s3' _ _ ea,hv.same s3',gi,gb,⋯,⋯,⋯,⋯,λi' s' row' g'=>?_,s0,sb0,sbd,sbb,λr us' H6 s6 f6 e6 v6=>⟨small2,λp1 hp1=>?_⟩⟩
        · obtain ⟨_,_,l',b'⟩:=hrow _ _ _ g'
          exact ⟨⋯,b'⟩
        · have X1:=Same.new hp1 (.tup [.int (i:Int),.ref r])
          exact kB hz' i (i+1+v) s sb row rb ⋯ gi gb (by simpa using h1) p1 r us' _ (s3'.trans (s6.trans X1)) (s3'.free f6) upd_same (X1 _ _ e6) ((v6.same X1).to λl hl=>⟨s3'.free hl.1,hl.2⟩)
      · refine (hL _ _ _).mpr ⟨_,rfl,rfl,λc h1' h2'=>?_⟩
        rcases Nat.lt_or_ge c (i+1+v) with y | y
        · exact hz5 c h1' y
        · rw [show c=i+1+v by omega];simpa using h1
    · obtain ⟨o4,rfl,rfl,hz5⟩:=(hL _ _ _).mp h
      refine (hJ _ _ _).mpr ⟨_,_,_,_,_,rfl,s3',λi' s' row' h1' h2' c h3' h4'=>?_⟩;rcases Nat.lt_or_ge i' i with y | y
      · exact hz3 i' s' row' y h2' c h3' h4'
      · have:i'=i:=⋯
        subst this;rw [gi] at h2'
        cases h2'
        exact hz5 c h3' ⋯
  rintro σ H3 h;obtain ⟨o2,o3,o4,o5,o6,rfl,s3,hz3⟩:=(hJ _ _ _).mp h
  subst_eqs
  refine ⟨small2,λp hp=>kC (λi s row h c h1 h2=>?_) p _ (s3.trans (Same.new hp _)) upd_same⟩;rcases Nat.eq_or_lt_of_le h1 with y | y
  · rw [<- y];exact hz' i s row h
  · exact hz3 i s row (by have:=(List.getElem?_eq_some_iff.mp h).1;omega) h c y h2
end
end R

set_option maxRecDepth 100000
namespace R
open PySem L2 PyProof.Rows
def NuX (K:q0a) (H:Hp) (x:V) (q:Rat):Prop:=∃ p,x=.ref p/\NmC K H p q
inductive FdH (K:q0a) (X:Addr->Prop) (H:Hp):List V->List (List Int × Rat)->Prop where
 | nil:FdH K X H [] []
 | cons {p l:Addr} {x:V} {col:List Int} {q:Rat} {vs:List V} {fs:List (List Int × Rat)} (h:H p=some (.tup [.ref l,x])) (e:H l=some (.lst (col.map V.int))) (n:NuX K H x q) (f:X l) (t:FdH K X H vs fs):FdH K X H (.ref p :: vs) ((col,q) :: fs)
theorem num_same {K:q0a} {H H':Hp} {x:V} {q:Rat} (s:Same H H'):NuX K H x q->NuX K H' x q
 | ⟨a,e,h⟩=>⟨a,e,h.mono s.tups⟩
theorem num_over {K:q0a} {H:Hp} {D:Addr} {ys:List V} {o:HO} {x:V} {q:Rat} (hD:H D=some (.lst ys)):NuX K H x q->NuX K (upd H D o) x q
 | ⟨a,e,h⟩=>⟨a,e,h.mono (TupS.lst hD)⟩
theorem FdH.same {K:q0a} {X:Addr->Prop} {H H':Hp} (s:Same H H'):∀ {vs:List V} {fs:List (List Int × Rat)},FdH K X H vs fs->FdH K X H' vs fs
 | _,_,.nil=>.nil
 | _,_,.cons h e n f t=>.cons (s _ _ h) (s _ _ e) (num_same s n) f (t.same s)
theorem FdH.length {K:q0a} {X:Addr->Prop} {H:Hp}:∀ {vs:List V} {fs:List (List Int × Rat)},FdH K X H vs fs->vs.length=fs.length
 | _,_,.nil=>rfl
 | _,_,.cons _ _ _ _ t=>congrArg (· + 1) t.length
theorem FdH.append {K:q0a} {X:Addr->Prop} {H:Hp} {us:List V} {gs:List (List Int × Rat)} (k:FdH K X H us gs):∀ {vs:List V} {fs:List (List Int × Rat)},FdH K X H vs fs->FdH K X H (vs ++ us) (fs ++ gs)
 | _,_,.nil=>k
 | _,_,.cons h e n f t=>.cons h e n f (FdH.append k t)
theorem FdH.over {K:q0a} {X:Addr->Prop} {H:Hp} {D:Addr} {ys:List V} {o:HO} (hD:H D=some (.lst ys)) (nD:∀ l,X l->l ≠ D):∀ {vs:List V} {fs:List (List Int × Rat)},FdH K X H vs fs->FdH K X (upd H D o) vs fs
 | _,_,.nil=>.nil
 | _,_,.cons h e n f t=>.cons (by rw [upd_ne (λz=>by rw [z,hD] at h;cases h)];exact h) (by rw [upd_ne (nD _ f)];exact e) (num_over hD n) f (t.over hD nD)
theorem FdH.get {K:q0a} {X:Addr->Prop} {H:Hp}:∀ {vs:List V} {fs:List (List Int × Rat)} {i:Nat} {v:V},FdH K X H vs fs->vs[i]? = some v->∃ p l x col q,v=.ref p/\fs[i]? = some (col,q)/\H p=some (.tup [.ref l,x])/\H l=some (.lst (col.map V.int))/\NuX K H x q/\X l
 | _,_,_,_,.nil,e=>by simp at e
 | _,_,0,_,.cons h e' n f _,e=>by cases e;exact ⟨_,_,_,_,_,rfl,rfl,h,e',n,f⟩
 | _,_,i+1,_,.cons _ _ _ _ t,e=>t.get (i:=i) (by simpa using e)
theorem FdH.to {K:q0a} {X Y:Addr->Prop} {H:Hp} (h:∀ l,X l->Y l):∀ {vs:List V} {fs:List (List Int × Rat)},FdH K X H vs fs->FdH K Y H vs fs
 | _,_,.nil=>.nil
 | _,_,.cons a b c d t=>.cons a b c (h _ d) (t.to h)
def AtOk (ws:List (Int × List Int)) (v:V):Prop:=(v=.non/\∀ (i:Nat) (s:Int) (row:List Int),ws[i]? = some (s,row)->∀ c,i<=c->c<ws.length->aZ row c=0) \/ ∃ (at':Nat) (sa:Int) (ra:List Int),v=.int at'/\ws[at']? = some (sa,ra)/\aZ ra at' ≠ 0
section
variable {K:q0a} {N:Nat} {A:Mt} {Bt W:Nat} {es:Nat->Vc} {ss:Nat->Int}
theorem with_sq {a lf:Addr} {us:List V} {ws:List (Int × List Int)} {X:Addr->Prop} {j k:Nat} {bf:Int} {e:Nat->Vc} {H:Hp} {Q:VK} {o:HO} (F:Fm N A Bt W) (hW:(W+19)*14<6000) (S:Sq N A Bt j k es ss bf ws e) (jk:j<=k) (ea:H a=some (.lst us)) (al:a ≠ lf) (hv:VsH X H us ws) (hX:∀ l,X l->l ≠ lf) (hlf:H lf=some o) (c:∀ r b us' ws' e' j' v H',Same H H'->H' r=some (.tup [v,.ref b])->H' b=some (.lst us')->b ≠ lf->VsH (λl=>l ≠ lf) H' us' ws'->Sq N A Bt j' k es ss bf ws' e'->j'<=k+1->AtOk ws' v->Q (.ref r) H'):spWith K [.ref a] H Q E0:=by
 have km:=S.km;have n7:=F.n7;have W400:W<=409:=⋯
 have row:∀ (i:Nat) (s:Int) (row:List Int),ws[i]? = some (s,row)->0<s/\s.natAbs<2 ^ 1000/\row.length=ws.length+N/\∀ j,(aZ row j).natAbs<2 ^ 6000:=λi s row h=>by
  obtain ⟨V,l,_,_⟩:=S.cur _ _ _ h;have hi:=(q0d.mp h).1;refine ⟨V.s1,q0m (V.le F) (q0f F.bW (pow_le_pow2 ⋯)),l,λj=>q0m (S.bits F h j) (y0b (by decide) ?_)⟩
  have:(W+15+4)*(k+1)<=(W+19)*14:=y0e ⋯ ⋯;omega
 refine ⟨a,us,ws,X,ws.length+N,rfl,ea,hv,⋯,⋯,row,λat' sa ra h h0 r H' s' er=>?_,λhz one other sa sb ra rb h12 h1 h2 h0 r b us' H' s' fb er eb hb=>?_,λhz r H' s' er=>?_⟩
 ·exact c r a us ws e j _ H' s' er (s' _ _ ea) al ((hv.same s').to hX) S ⋯ (.inr ⟨at',sa,ra,rfl,h,h0⟩)
 ·have i1:=(q0d.mp h1).1
  have i2:=(q0d.mp h2).1;obtain ⟨sa0,_,lra,_⟩:=row _ _ _ h1;obtain ⟨sb0,_,lrb,_⟩:=row _ _ _ h2;obtain ⟨_,efg,f1,g1,_,_,dl⟩:=mix_fg sa0 sb0;obtain ⟨Va,_,a1,_⟩:=S.cur _ _ _ h1;obtain ⟨Vb,_,b1,_⟩:=S.cur _ _ _ h2;have S':=S.mix F ⋯ h1 h2 ⋯ efg f1 (dl Bt Va.sd Vb.sd);have bl':b ≠ lf:=(ne_of_none hlf fb).symm;refine c r b us' _ _ _ _ H' s' er eb bl' (hb.to λl hl=>(ne_of_none hlf hl.1).symm) S' ⋯ (.inr ⟨one,sb.fdiv (q0r sa sb)*sa,colL one other (mixL (sb.fdiv (q0r sa sb)) (sa.fdiv (q0r sa sb)) ra rb),rfl,?_,?_⟩)
  ·unfold mixV
   rw [q0e,u0k,if_pos rfl,if_pos i1];rfl
  ·have lm:(mixL (sb.fdiv (q0r sa sb)) (sa.fdiv (q0r sa sb)) ra rb).length=ws.length+N:=by unfold mixL;rw [v0n];omega
   rw [colL_set ⋯,aZ_set ⋯,if_pos rfl,mixL_get ⋯,mixL_get ⋯,hz _ _ _ h1,hz _ _ _ h2]
   have e2:sa.fdiv (q0r sa sb)*aZ rb one=sb.fdiv (q0r sa sb)*aZ ra other:=v0c.mp (by
    have hq:((sb.fdiv (q0r sa sb):Int):Rat)*(sa:Rat)=((sa.fdiv (q0r sa sb):Int):Rat)*(sb:Rat):=by rw [<- q0s,<- q0s,efg]
    rw [q0s,q0s,b1 one i1,a1 other i2,bl_sym F.sy (Pr N A es k (e other))];generalize bl N A (Pr N A es k (e one)) (Pr N A es k (e other))=x at *;generalize ((sb.fdiv (q0r sa sb):Int):Rat)=y at *;generalize ((sa.fdiv (q0r sa sb):Int):Rat)=z at *
    grind)
   rw [e2];have h3:=y0v (show sb.fdiv (q0r sa sb) ≠ 0 by omega) h0
   omega
 ·exact c r a us ws e j _ H' s' er (s' _ _ ea) al ((hv.same s').to hX) S ⋯ (.inl ⟨rfl,hz⟩)
end
theorem ints_at {ws:List Int} {i:Nat} {y:V} (h:(ws.map V.int)[i]? = some y):∃ v,ws[i]? = some v/\y=.int v:=by
 rw [q0e] at h
 cases hw:ws[i]? with
 | none=>rw [hw] at h;cases h
 | some v=>rw [hw] at h;cases h;exact ⟨v,rfl,rfl⟩
theorem divC {K:q0a} {l D:Addr} {ws:List Int} {g:Int} {H1:Hp} {Q:VK} (e:H1 l=some (.lst (ws.map V.int))) (hD:H1 D=none) (hl:ws.length<=100) (hg:g ≠ 0) (hb:g.natAbs<2 ^ 6000)
  (k:∀ H2,Same H1 H2->H2 D=some (.lst ((ws.map λv=>v.fdiv g).map V.int))->Q (.ref D) H2):CompW (Itl K l) D [some (.int g),none] (upd H1 D (.lst [])) (gName 1) (tOp (rI CDivB λi j=>V.int (i.fdiv j)) (tVar 1) (tVar 0)) Q:=by
 refine cw_list (ws.map V.int) (λi σ H3 => ∃ o,σ=[some (.int g),o]/\Same H1 H3/\H3 D=some (.lst (((ws.take i).map λv=>v.fdiv g).map V.int))) ⟨_,rfl,Same.new hD _,upd_same⟩ (λi σ H3 _ ⟨_,_,s3,_⟩=>SqL.of (s3 _ _ e)) ?_ ?_
 ·rintro i y σ H3 hy ⟨o,rfl,s3,e3⟩
  have hi:=(q0d.mp hy).1;obtain ⟨v,hv,rfl⟩:=ints_at hy
  subst_eqs
  refine ⟨divOk hg (lt_up hb (by decide)),CompN.mk hi e3 ?_ ⟨_,rfl,s3.over hD _,?_⟩⟩
  ·simp only [q0b,q0t]
   rw [q0b] at hi;exact q0m (show _<=100 by omega) (by decide)
  ·rw [upd_same,v0u,hv]
   simp
 ·rintro σ H3 ⟨o,rfl,s3,e3⟩
  rw [q0b,y0t] at e3;exact k H3 s3 e3
theorem gcd_le {ws:List Int} {m:Nat} (h0:gcdL ws ≠ 0) (hb:∀ v ∈ ws,j0u v<2 ^ m):gcdL ws<2 ^ m:=by
 obtain ⟨v,hv,v0⟩:∃ v ∈ ws,v ≠ 0:=by
  refine Classical.byContradiction λz=>h0 ?_;have all:∀ v ∈ ws,v=0:=λv hv=>Classical.byContradiction λh=>z ⟨v,hv,h⟩;have:0 ∣ gcdL ws:=dvd_gcdL _ 0 (Nat.dvd_zero _) λv hv=>by rw [all v hv];exact Int.dvd_zero _
  exact Nat.eq_zero_of_zero_dvd this
 have:=v0t.mpr (gcdL_dvd hv);exact q0m (u0a ⋯ this) (hb v hv)
theorem fdiv_by {ws:List Int} (g0:gcdL ws ≠ 0) (k:Nat):aZ ws k=((gcdL ws:Nat):Int)*aZ (ws.map λv=>v.fdiv ((gcdL ws:Nat):Int)) k:=by
 unfold aZ;rw [q0e]
 cases hk:ws[k]? with
 | none=>simp
 | some v =>
  show v=_*v.fdiv _;obtain ⟨y,hy⟩:=gcdL_dvd (q0g hk)
  have h1:v.fdiv ((gcdL ws:Nat):Int)=y:=by
   conv=>lhs;arg 1;rw [hy]
   exact fdiv_of_mul ⋯
  rw [h1];exact hy
section
variable {P:Program} {w:World} {K:q0a} {mg:Str->Option Value} {base:Heap}
def spOverG (K:q0a):Sp:=λvs H Q _ => ∃ (a:Addr) (ws:List Int),vs=[.ref a]/\H a=some (.lst (ws.map V.int))/\(∀ v ∈ ws,j0u v<2 ^ 6000)/\ws.length<=40 /\
 ∀ r zs h H',Same H H'->H r=none->H' r=some (.lst (zs.map V.int))->zs.length=ws.length->1<=h->(∀ k,aZ ws k=h*aZ zs k)->Q (.ref r) H'
abbrev s_over_content:Stmt:=top 17
theorem sc_over_content:FnScope ["wholes","content"] ["wholes"] (defScope s_over_content):=⟨rfl,rfl,rfl,by decide +kernel,rfl,by decide +kernel,by decide +kernel⟩
theorem ok_over_content {f f1:Addr} (d:Df K mg "over_content" s_over_content ["wholes"] f) (G_content_of:Def P w K mg base CX0 2 "content_of" f1 ["wholes"] (spContent K)) (n_list:mg "list" = none):Def P w K mg base CX0 3 "over_content" f ["wholes"] (spOverG K):=by
 refine d.ok (N:=["wholes","content"]) sc_over_content (by rintro vs H Q E ⟨_,_,h,_⟩;rw [h];rfl) (λcdv A outer s H vs Q E hr h=>?_)
 obtain ⟨a,ws,rfl,hS,hb,l40,k⟩:=h;have hu:=hr.units
 refine ⟨_,(pss_cons (ps_set (i:=1) sc_over_content.nd rfl (z0p rfl) (pe_def G_content_of hr (pa_cons (pv 0) pa_nil) pass0))
   (pss_cons (ps_if (pt_cmpR op_lt (pv 1) pe_int (nomark _)) (pss_one (ps_ret (pe_callTy call_list_of rfl n_list (by decide +kernel) (pa_cons (pv 0) pa_nil)))) pss_nil)
   (pss_one (ps_ret (pe_comp (Nc:=["content","whole"]) (caps:=[some 1,none]) rfl (Caps.of (osc:=defScope s_over_content) (N:=["wholes","content"]) (ks:=["content"]) rfl rfl rfl rfl (sub_cons rfl sub_nil) (by decide +kernel)) (pi_list (pv 0)) (λC s₂ H₂ fp pins=>(pg_name (i:=1) (show z0f (["content","whole"]:List Str) by decide +kernel) rfl (q0w rfl) (z0p rfl))) (λC s₂ H₂ fp pins=>(pe_op op_fdivB (pv 1) (pv 0)))))))),?_⟩
 rw [show start ["wholes","content"] [.ref a]=[some (.ref a),none] from rfl]
 subst_eqs
 refine ⟨a,ws,rfl,SqL.of hS,hb,_,rfl,ite2 (λh2=>⟨_,.inl (SqL.of hS),λp hp=>?_⟩) (λh2=>⟨⟨_,SqL.of hS⟩,λD hD=>?_⟩)⟩
 ·exact k p ws 1 _ (Same.new hp _) hp upd_same rfl (Int.le_refl _) (λk=>⋯)
 ·have g0:gcdL ws ≠ 0:=λz=>by rw [z] at h2;exact h2 (by decide)
  have gb:((gcdL ws:Nat):Int).natAbs<2 ^ 6000:=by rw [q0v];exact gcd_le g0 hb
  refine divC hS hD ⋯ ⋯ gb λH2 s2 e2=>?_;exact k D _ _ H2 s2 hD e2 (q0b _) ⋯ (fdiv_by g0)
end
end R

set_option maxRecDepth 100000
namespace R
open PySem L2 PyProof.Rows
def WgN (J:Nat->L2.St->Hp->Prop) (m:Nat):L2.St->Hp->Prop:=λσ' H' => ∃ m',m'<m/\J m' σ' H'
def WhG (tb:TS) (D:Ends) (J:Nat->L2.St->Hp->Prop) (m:Nat) (σ:L2.St) (H1:Hp):Prop :=
 ∃ N:L2.St->Hp->Prop,(∀ σ' H',N σ' H'->∃ m',m'<m/\J m' σ' H')/\tb { D with nx:=N,ct:=N,bk:=D.nx } σ H1
theorem WhG.mk {tb:TS} {D:Ends} {J:Nat->L2.St->Hp->Prop} {m:Nat} {σ:L2.St} {H1:Hp} (h:tb { D with nx:=WgN J m,ct:=WgN J m,bk:=D.nx } σ H1):WhG tb D J m σ H1:=⟨_,λ_ _ n=>n,h⟩
theorem WgN.mk {J:Nat->L2.St->Hp->Prop} {m m':Nat} {σ:L2.St} {H:Hp} (l:m'<m) (h:J m' σ H):WgN J m σ H:=⟨_,l,h⟩
theorem while_g {c:TT} {tb:TS} {D:Ends} {σ:L2.St} {H:Hp} (J:Nat->L2.St->Hp->Prop) (m0:Nat) (h0:J m0 σ H)
  (hs:∀ m σ H,J m σ H->c σ H λb H1=>if b=true then WhG tb D J m σ H1 else D.nx σ H1):tWhile c tb D σ H:=⟨J,⟨_,h0⟩,hs⟩
end R

set_option maxRecDepth 100000
namespace R
open PySem L2 PyProof.Rows
theorem aZ_drop (row:List Int) (m t:Nat):aZ (row.drop m) t=aZ row (m+t):=by unfold aZ;rw [List.getElem?_drop]
section
variable {N:Nat} {A:Mt} {Bt W:Nat} {es:Nat->Vc} {ss:Nat->Int}
theorem Sq.tc {j k i:Nat} {bf s h:Int} {ws:List (Int × List Int)} {e:Nat->Vc} {row zs:List Int} (S:Sq N A Bt j k es ss bf ws e) (F:Fm N A Bt W) (g:ws[i]? = some (s,row)) (lz:zs.length=N) (h0:h ≠ 0) (eh:∀ t,aZ (row.drop ws.length) t=h*aZ zs t):(∀ t,t<N->vc zs t=((bf:Rat)*(s:Rat)*(h:Rat)⁻¹)*Pr N A es k (e i) t)/\(bf:Rat)*(s:Rat)*(h:Rat)⁻¹ ≠ 0:=by
 obtain ⟨V,l,_,c2⟩:=S.cur _ _ _ g;have hq:=icast_ne' h0;have hi:=z0w _ hq;refine ⟨λt ht=>?_,λz=>?_⟩
 ·have h1:=c2 t ht
  have h2:=eh t;rw [aZ_drop] at h2;rw [h2,q0s] at h1;unfold vc;generalize ((aZ zs t:Int):Rat)=x at *;generalize (h:Rat)⁻¹=y at *;generalize Pr N A es k (e i) t=p at *
  grind
 ·have b0:=icast_ne' (S.b0 F)
  have s0:=icast_ne' (show s ≠ 0 by have:=V.s1;omega)
  rcases j0g.mp z with y | y
  ·rcases j0g.mp y with w | w
   ·exact b0 w
   ·exact s0 w
  ·rw [y] at hi;grind
theorem Sq.col {j k at':Nat} {bf sa:Int} {ws:List (Int × List Int)} {e:Nat->Vc} {ra:List Int} (S:Sq N A Bt j k es ss bf ws e) (F:Fm N A Bt W) (hW:(W+19)*14<6000) (g:ws[at']? = some (sa,ra)) (h0:aZ ra at' ≠ 0):gcdL (ra.drop ws.length) ≠ 0/\gcdL (ra.drop ws.length)*gcdL (ra.drop ws.length)<2 ^ 6000/\Tc N ((ra.drop ws.length).map λv=>v.fdiv ((gcdL (ra.drop ws.length):Nat):Int)) (Pr N A es k (e at'))/\q0x (bf*sa*aZ ra at') (((gcdL (ra.drop ws.length):Nat):Int)*((gcdL (ra.drop ws.length):Nat):Int))=bl N A (vc ((ra.drop ws.length).map λv=>v.fdiv ((gcdL (ra.drop ws.length):Nat):Int))) (vc ((ra.drop ws.length).map λv=>v.fdiv ((gcdL (ra.drop ws.length):Nat):Int))):=by
 have km:=S.km;have n7:=F.n7;obtain ⟨V,l,c1,c2⟩:=S.cur _ _ _ g;have hat:=(q0d.mp g).1;have a1:=c1 at' hat;have b0:=icast_ne' (S.b0 F);have s0:=icast_ne' (show sa ≠ 0 by have:=V.s1;omega)
 obtain ⟨c,hc⟩:∃ c,c=gcdL (ra.drop ws.length):=⟨_,rfl⟩
 have c0:c ≠ 0:=λz=>by
  have all:∀ t,t<N->Pr N A es k (e at') t=0:=λt ht=>by
   have h1:=c2 t ht
   have hm:aZ ra (ws.length+t)=0:=by
    rw [<- aZ_drop];unfold aZ;have hl:t<(ra.drop ws.length).length:=by rw [y0f];omega
    rw [q0c hl];have:=gcdL_dvd (List.getElem_mem hl);rw [<- hc,z] at this;exact Int.zero_dvd.mp this
   rw [hm] at h1;have h2:(bf:Rat)*((sa:Rat)*Pr N A es k (e at') t)=0:=h1.symm;rcases j0g.mp h2 with y | y
   ·exact absurd y b0
   ·rcases j0g.mp y with w | w
    ·exact absurd w s0
    ·exact w
  have z2:bl N A (Pr N A es k (e at')) (Pr N A es k (e at'))=0:=sumTo_zero _ λt ht=>by rw [all t ht];grind
  rw [z2] at a1;exact icast_ne' h0 (by rw [a1];grind)
 have bits:∀ v ∈ ra.drop ws.length,j0u v<2 ^ 2999:=λv hv=>by
  refine aZ_mem (λt=>?_) v hv;rw [aZ_drop];refine q0m (S.bits F g _) (y0b (by decide) ?_)
  have:(W+15+4)*(k+1)<=(W+19)*7:=y0e ⋯ ⋯;omega
 have cb:=gcd_le (by rw [<- hc];exact c0) bits
 rw [<- hc] at cb ⊢;have ec:∀ t,aZ (ra.drop ws.length) t=(c:Int)*aZ ((ra.drop ws.length).map λv=>v.fdiv (c:Int)) t:=λt=>by rw [hc];exact fdiv_by (by rw [<- hc];exact c0) t
 have lcol:((ra.drop ws.length).map λv=>v.fdiv (c:Int)).length=N:=by rw [q0b,y0f];omega
 obtain ⟨h1,h2⟩:=S.tc F g lcol ⋯ ec;refine ⟨c0,?_,⟨lcol,_,h2,h1⟩,?_⟩
 ·have:=j0h cb cb
  rw [<- j0d] at this;exact q0f this (pow_le_pow2 (by decide))
 ·rw [Tc.bl h1 h1,u0j,m0h,q0s,q0s,q0s,a1,Rat.inv_mul_rev]
  generalize ((c:Int):Rat)⁻¹=y
  grind
theorem Sq.bfb {j k:Nat} {bf:Int} {ws:List (Int × List Int)} {e:Nat->Vc} (S:Sq N A Bt j k es ss bf ws e) (F:Fm N A Bt W) (hW:(W+19)*14<6000):bf.natAbs<2 ^ 2999:=by
 have km:=S.km;have n7:=F.n7
 obtain ⟨z,ez,bz⟩:=dt_bits (W:=W+15) (n:=k) (M:=λr c=>if r<k/\c<k then (ss r:Rat)*bl N A (es r) (es c) else 0) ⋯ λr c=>by
  by_cases h:r<k/\c<k
  ·simp only [if_pos h]
   obtain ⟨z,ez,bz⟩:=(S.ch r h.1).1.two (S.ch c h.2).1 F;exact ⟨z,ez,q0m bz (y0b (by decide) ⋯)⟩
  ·simp only [if_neg h]
   exact ⟨0,rfl,u0z _⟩
 have e1:bf=z:=v0c.mp (by
  rw [S.dv,<- ez];exact dt_congr λr hr c hc=>by rw [if_pos ⟨hr,hc⟩])
 rw [e1];refine q0m bz (y0b (by decide) ?_)
 have:(W+15+4)*k<=(W+19)*7:=y0e ⋯ ⋯;omega
end
section
variable {P:Program} {w:World} {K:q0a} {mg:Str->Option Value} {base:Heap}
def spSquared (K:q0a):Sp:=λvs H Q _ => ∃ (a:Addr) (us:List V) (ws:List (Int × List Int)) (X:Addr->Prop) (N:Nat) (A:Mt) (Bt W:Nat) (es:Nat->Vc) (ss:Nat->Int) (e:Nat->Vc),vs=[.ref a]/\H a=some (.lst us)/\VsH X H us ws/\Fm N A Bt W/\(W+19)*14<6000/\Sq N A Bt 0 0 es ss 1 ws e/\∀ r rs fs H',Same H H'->H r=none->H' r=some (.lst rs)->FdH K (λ_=>True) H' rs fs->SqRes N A (fs.map (·.1)) (fs.map (·.2))->Q (.ref r) H'
abbrev s_squared:Stmt:=top 31
theorem sc_squared:FnScope ["vectors","found","before","at","column","content","square","scale","row"] ["vectors"] (defScope s_squared):=⟨rfl,rfl,rfl,by decide +kernel,rfl,by decide +kernel,by decide +kernel⟩
theorem ok_squared {f f1 f2 f3 f4 f5 aN:Addr} (d:Df K mg "squared" s_squared ["vectors"] f) (G_with_square:Def P w K mg base CX0 3 "with_square" f1 ["vectors"] (spWith K)) (G_content_of:Def P w K mg base CX0 2 "content_of" f2 ["wholes"] (spContent K)) (G_fraction:Def P w K mg base CX0 2 "fraction" f3 ["top","bottom"] spFraction) (G_upright_to:Def P w K mg base CX0 2 "upright_to" f4 ["vectors","at","before"] (spUp K)) (G_over_content:Def P w K mg base CX0 3 "over_content" f5 ["wholes"] (spOverG K)) (c_NOUGHT:mg "NOUGHT" = some (.ref aN)) (tN:∀ H,SqT K H aN (numV 0)) (n_len:mg "len" = none):Def P w K mg base CX0 4 "squared" f ["vectors"] (spSquared K):=by
 refine d.ok (N:=["vectors","found","before","at","column","content","square","scale","row"]) sc_squared (by rintro vs H Q E ⟨_,_,_,_,_,_,_,_,_,_,_,h,_⟩;rw [h];rfl) (λcdv A' outer s H vs Q E hr h=>?_)
 obtain ⟨a,us,ws,X,N,A,Bt,W,es,ss,e,rfl,ea,hv,F,hW,S0,kk⟩:=h;have hu:=hr.units
 refine ⟨_,(pss_cons (ps_set (i:=1) sc_squared.nd rfl (q0w rfl) (pe_lst pa_nil))
   (pss_cons (ps_set (i:=2) sc_squared.nd rfl (q0w rfl) pe_int)
   (pss_cons (ps_asg (pe_def G_with_square hr (pa_cons (pv 0) pa_nil) pass0) (show PG _ _ (gTup K 2 (gCons (gName 3) (gCons (gName 0) gNil))) from by (refine pg_tup (n:=2) ?_ ?_ ?_ ?_;rfl;(refine pgs_cons ?_ ?_ ?_;(exact (pg_name (i:=3) sc_squared.nd rfl (q0w rfl)));(refine pgs_cons ?_ ?_ ?_;(exact (pg_name (i:=0) sc_squared.nd rfl (z0p rfl)));(exact pgs_nil);rfl);rfl);rfl;rfl)))
   (pss_cons (ps_while PassesOwn.never (pt_cmpR op_notN (pv 3) pe_non (nomark _)) (pss_cons (ps_asg (pe_ix ix_list (pv 0) (pv 3) (λ_ _=>rfl)) (show PG _ _ (gTup K 2 (gCons (gName 7) (gCons (gName 8) gNil))) from by (refine pg_tup (n:=2) ?_ ?_ ?_ ?_;rfl;(refine pgs_cons ?_ ?_ ?_;(exact (pg_name (i:=7) sc_squared.nd rfl (q0w rfl)));(refine pgs_cons ?_ ?_ ?_;(exact (pg_name (i:=8) sc_squared.nd rfl (q0w rfl)));(exact pgs_nil);rfl);rfl);rfl;rfl)))
   (pss_cons (ps_set (i:=4) sc_squared.nd rfl (q0w rfl) (pe_slice sl_list (pv 8) (po_some (pe_callB call_len_seq rfl n_len (by decide +kernel) (pa_cons (pv 0) pa_nil))) po_none))
   (pss_cons (ps_set (i:=5) sc_squared.nd rfl (z0p rfl) (pe_def G_content_of hr (pa_cons (pv 4) pa_nil) pass0))
   (pss_cons (ps_set (i:=6) sc_squared.nd rfl (q0w rfl) (pe_def G_fraction hr (pa_cons (pe_op op_mulB (pe_op op_mulB (pv 2) (pv 7)) (pe_ix ix_list (pv 8) (pv 3) (λ_ _=>rfl))) (pa_cons (pe_op op_mulB (pv 5) (pv 5)) pa_nil)) pass0))
   (pss_cons (ps_expr (pe_bm PySem.F.plainAttrs_list PySem.F.slot_list_append PySem.F.type_list_append mt_append (pv 1) (pa_cons (pe_tup (pa_cons (pe_comp (Nc:=["content","whole"]) (caps:=[some 5,none]) rfl (Caps.of (osc:=defScope s_squared) (N:=["vectors","found","before","at","column","content","square","scale","row"]) (ks:=["content"]) rfl rfl rfl rfl (sub_cons rfl sub_nil) (by decide +kernel)) (pi_list (pv 4)) (λC s₂ H₂ fp pins=>(pg_name (i:=1) (show z0f (["content","whole"]:List Str) by decide +kernel) rfl (q0w rfl) (z0p rfl))) (λC s₂ H₂ fp pins=>(pe_op op_fdivB (pv 1) (pv 0)))) (pa_cons (pv 6) pa_nil))) pa_nil)))
   (pss_cons (ps_set (i:=0) sc_squared.nd rfl (z0p rfl) (pe_def G_upright_to hr (pa_cons (pv 0) (pa_cons (pv 3) (pa_cons (pv 2) pa_nil))) pass0))
   (pss_cons (ps_set (i:=2) sc_squared.nd rfl (q0w rfl) (pe_ix ix_list (pv 8) (pv 3) (λ_ _=>rfl)))
   (pss_one (ps_asg (pe_def G_with_square hr (pa_cons (pv 0) pa_nil) pass0) (show PG _ _ (gTup K 2 (gCons (gName 3) (gCons (gName 0) gNil))) from by (refine pg_tup (n:=2) ?_ ?_ ?_ ?_;rfl;(refine pgs_cons ?_ ?_ ?_;(exact (pg_name (i:=3) sc_squared.nd rfl (q0w rfl)));(refine pgs_cons ?_ ?_ ?_;(exact (pg_name (i:=0) sc_squared.nd rfl (z0p rfl)));(exact pgs_nil);rfl);rfl);rfl;rfl))))))))))))
   (pss_one (ps_ret (pe_op op_cat (pv 1) (pe_comp (Nc:=["vectors","scale","row"]) (caps:=[some 0,none,none]) rfl (Caps.of (osc:=defScope s_squared) (N:=["vectors","found","before","at","column","content","square","scale","row"]) (ks:=["vectors"]) rfl rfl rfl rfl (sub_cons rfl sub_nil) (by decide +kernel)) (pi_list (pv 0)) (λC s₂ H₂ fp pins=>(show PG _ _ (gTup K 2 (gCons (gName 1) (gCons (gName 2) gNil))) from by (refine pg_tup (n:=2) ?_ ?_ ?_ ?_;rfl;(refine pgs_cons ?_ ?_ ?_;(exact (pg_name (i:=1) (show z0f (["vectors","scale","row"]:List Str) by decide +kernel) rfl (q0w rfl) (z0p rfl)));(refine pgs_cons ?_ ?_ ?_;(exact (pg_name (i:=2) (show z0f (["vectors","scale","row"]:List Str) by decide +kernel) rfl (q0w rfl) (z0p rfl)));(exact pgs_nil);rfl);rfl);rfl;rfl))) (λC s₂ H₂ fp pins=>(pe_tup (pa_cons (pe_def G_over_content hr (pa_cons (pe_slice (by exact sl_list:SlR _ (rSlL K)) (pv 2) (po_some (pe_callB (by exact call_len_seq:CallR _ (.builtin "len") (rLen K)) rfl n_len (by decide +kernel) (pa_cons (pv 0) pa_nil))) po_none) pa_nil) pass0) (pa_cons (pe_glob (v:=.ref _) rfl c_NOUGHT rfl) pa_nil)))))))))))),?_⟩
 rw [show start ["vectors","found","before","at","column","content","square","scale","row"] [.ref a]=[some (.ref a),none,none,none,none,none,none,none,none] from rfl]
 have n7:=F.n7;refine seq_cut (λσ H1 => ∃ lf,σ=[some (.ref a),some (.ref lf),none,none,none,none,none,none,none]/\Same H H1/\H lf=none/\H1 lf=some (.lst [])) (λN hN=>?_) ?_
 ·subst_eqs
  exact ⟨by decide,λp hp=>hN _ _ ⟨p,rfl,Same.new hp _,hp,upd_same⟩⟩
 rintro σ H1 ⟨lf,rfl,S1,flf,elf⟩;refine seq_cut (λσ H2=>σ=[some (.ref a),some (.ref lf),some (.int 1),none,none,none,none,none,none]/\H2=H1) (λN hN=>?_) ?_
 ·subst_eqs
  exact hN _ _ ⟨rfl,rfl⟩
 rintro σ H2 ⟨rfl,rfl⟩;obtain ⟨J,hJ⟩:∃ J:Nat->L2.St->Hp->Prop,∀ m σ H3,J m σ H3 ↔ ∃ (k j:Nat) (es:Nat->Vc) (ss:Nat->Int) (bf:Int) (ws:List (Int × List Int)) (e:Nat->Vc) (lv:Addr) (us:List V) (v:V) (found:List (List Int × Rat)) (fs:List V) (o4 o5 o6 o7 o8:Option V),σ=[some (.ref lv),some (.ref lf),some (.int bf),some v,o4,o5,o6,o7,o8]/\Same H H3/\H3 lv=some (.lst us)/\lv ≠ lf/\VsH (λl=>l ≠ lf) H3 us ws/\H3 lf=some (.lst fs)/\FdH K (λl=>l ≠ lf) H3 fs found/\Sq N A Bt j k es ss bf ws e/\j<=k+1/\Fnd N A es k found/\AtOk ws v/\m=ws.length:=⟨_,λ_ _ _=>Iff.rfl⟩;refine seq_cut (λσ H3=>J ws.length σ H3) (λNn hN=>?_) ?_
 ·subst_eqs
  have al:a ≠ lf:=ne_of_none ea flf;have hv1:=(hv.same S1);have hX:∀ l,l ≠ lf->l ≠ lf:=λl h=>h
  have hv2:VsH (λl=>l ≠ lf) H2 us ws:=by
   have:∀ {vs:List V} {ws:List (Int × List Int)},VsH X H vs ws->VsH (λl=>l ≠ lf) H2 vs ws:=fun {vs ws} h=>by
    induction h with
    | nil=>exact .nil
    | cons h e f t ih=>exact .cons (S1 _ _ h) (S1 _ _ e) (ne_of_none e flf) ih
   exact this hv
  refine with_sq F hW S0 (q0n _) (S1 _ _ ea) al hv2 hX elf λr b us' ws' e' j' v H3 s3 er eb bl' hv' S' jk hat=>?_;refine ⟨r,rfl,_,SqT.of er,rfl,_,_,rfl,_,_,rfl,rfl,hN _ _ ((hJ _ _ _).mpr ⟨0,j',es,ss,1,ws',e',b,us',v,[],[],_,_,_,_,_,rfl,S1.trans s3,eb,bl',hv',s3 _ _ elf,.nil,S',jk,⟨rfl,λc col q h=>by simp at h⟩,hat,?_⟩)⟩
  have h1:=S0.km;have h2:=S'.km;omega
 rintro σ H3 hJ3;refine seq_cut (λσ H4 => ∃ m,J m σ H4/\σ[3]? = some (some .non)) (λNn Nn'=>?_) ?_
 ·show tWhile _ _ _ _ _
  refine while_g J ws.length hJ3 ?_;intro m σ H4 hm;obtain ⟨k,j,es,ss,bf,ws,e,lv,us,v,found,fs,o4,o5,o6,o7,o8,rfl,s4,elv,lvf,hv4,el4,fd4,S,jk,fnd,hat,rfl⟩:=(hJ _ _ _).mp hm
  subst_eqs
  refine ite2 (λhv'=>WhG.mk ?_) (λhv'=>Nn' _ _ ⟨_,hm,?_⟩)
  ·obtain ⟨at',sa,ra,rfl,g,h0⟩:∃ (at':Nat) (sa:Int) (ra:List Int),v=.int at'/\ws[at']? = some (sa,ra)/\aZ ra at' ≠ 0:=by
    rcases hat with ⟨z,_⟩ | z
    ·exact absurd z (by simpa using hv')
    ·exact z
   have km:=S.km;have lus:=hv4.length;have hatl:=(q0d.mp g).1;obtain ⟨Va,lra,_,_⟩:=S.cur _ _ _ g;obtain ⟨va,hva⟩:∃ v,us[at']? = some v:=⟨_,q0c ⋯⟩;obtain ⟨pa,la,sa',ra',rfl,ga,epa,ela,laf⟩:=hv4.get hva;rw [g] at ga
   cases ga
   obtain ⟨cn0,cnb,tcol,qcol⟩:=S.col F hW g h0
   have bW:∀ (i:Nat) (s:Int) (row:List Int),ws[i]? = some (s,row)->row.length=ra.length/\∀ j,(aZ row j).natAbs<2 ^ 2999:=λi s row h=>by
    obtain ⟨_,l,_,_⟩:=S.cur _ _ _ h;refine ⟨⋯,λj=>q0m (S.bits F h j) (y0b (by decide) ?_)⟩
    have:(W+15+4)*(k+1)<=(W+19)*7:=y0e ⋯ ⋯;omega
   have get':∀ {G:List Int} {i:Nat},i<G.length->(G.map V.int)[i]? = some (.int (aZ G i)):=fun {G i} h=>by
    unfold aZ;rw [q0e,q0c h];rfl
   refine seq_cut (λσ H5=>σ=[some (.ref lv),some (.ref lf),some (.int bf),some (.int (at':Int)),o4,o5,o6,some (.int sa),some (.ref la)]/\H5=H4) (λN hN=>?_) ?_
   ·subst_eqs
    exact ⟨_,SqL.of elv,_,atI_nat hva,pa,rfl,_,SqT.of epa,rfl,_,_,rfl,_,_,rfl,rfl,hN _ _ ⟨rfl,rfl⟩⟩
   rintro σ H5 ⟨rfl,rfl⟩;refine seq_cut (λσ H6 => ∃ lc,σ=[some (.ref lv),some (.ref lf),some (.int bf),some (.int (at':Int)),some (.ref lc),o5,o6,some (.int sa),some (.ref la)]/\Same H5 H6/\H6 lc=some (.lst ((ra.drop ws.length).map V.int))) (λN hN=>?_) ?_
   ·simp only [rLen,rSum,rLst,tComp_eq,tCompIf_eq,iZip,rRep,tSl,tPart,tNoPart,rAppend,iEnum,capSt,z0b,y0c,j0r,j0s,j0t,tSeq,tIfS,tAnd,tOr,tNot,tTest,tB,tOp,tUn,tBM0,tBM,tVar,tC,tCB,tRet,tAsg,gName,gSub,gTup,gCons,gNil,tCons,tNil,tPar,tTup,tLst,tIf,tAndV,tOrV,tNotV,tDef,tDrop,tNext,tNever,rI,rI0,rU,rBitLen,rIxL,rIxT,rSetL,rEq,rNe,rCount,rIsI,iRng1,iRng2,iList,iTup,cxOf,Cx.nox,Cx.wish,z0q,z0r,j0a,j0b,Option.some.injEq,V.int.injEq,V.bl.injEq,V.ref.injEq,V.str.injEq,exists_eq_left',exists_eq_left,exists_and_left,true_and,and_true,List.cons.injEq,reduceCtorEq,z0s,if_false,if_true,exists_const,↓reduceIte,tyV,z0j,j0y,exists_eq,j0n,j0j,j0q,decide_eq_true_eq,not_true_eq_false,not_false_eq_true,z0v,decide_eq_false_iff_not,y0n,y0d,and_assoc,false_and,false_or,or_false]
    refine ⟨_,.inl (SqL.of elv),sl_keep (SqL.of ela) λq H6 f6 s6 e6=>hN _ _ ⟨q,rfl,s6,?_⟩⟩;rw [lus,cut_from _ (by rw [q0b];omega),<- List.map_drop] at e6
    exact e6
   rintro σ H6 ⟨lc,rfl,s6,ec⟩;have bcol:∀ v ∈ ra.drop ws.length,j0u v<2 ^ 2999:=λv hv=>aZ_mem (λt=>by rw [aZ_drop];exact (bW _ _ _ g).2 _) v hv
   refine seq_cut (λσ H7=>σ=[some (.ref lv),some (.ref lf),some (.int bf),some (.int (at':Int)),some (.ref lc),some (.int (gcdL (ra.drop ws.length):Nat)),o6,some (.int sa),some (.ref la)]/\H7=H6) (λN hN=>?_) ?_
   ·subst_eqs
    exact ⟨lc,_,rfl,SqL.of ec,λv hv=>q0f (bcol v hv) (pow_le_pow2 (by decide)),hN _ _ ⟨rfl,rfl⟩⟩
   rintro σ H7 ⟨rfl,rfl⟩;obtain ⟨cn,hcn⟩:∃ cn,cn=gcdL (ra.drop ws.length):=⟨_,rfl⟩;rw [<- hcn] at cn0 cnb tcol qcol;rw [<- hcn];refine seq_cut (λσ H8 => ∃ ps,σ=[some (.ref lv),some (.ref lf),some (.int bf),some (.int (at':Int)),some (.ref lc),some (.int (cn:Int)),some (.ref ps),some (.int sa),some (.ref la)]/\Same H7 H8/\H8 ps=some (.tup (numV (q0x (bf*sa*aZ ra at') ((cn:Int)*(cn:Int)))))) (λN hN=>?_) ?_
   ·simp only [rLen,rSum,rLst,tComp_eq,tCompIf_eq,iZip,rRep,tSl,tPart,tNoPart,rSlL,rAppend,iEnum,capSt,z0b,y0c,j0r,j0s,j0t,tSeq,tIfS,tAnd,tOr,tNot,tTest,tB,tOp,tUn,tBM0,tBM,tVar,tC,tCB,tRet,tAsg,gName,gSub,gTup,gCons,gNil,tCons,tNil,tPar,tTup,tLst,tIf,tAndV,tOrV,tNotV,tDef,tDrop,tNext,tNever,rI,rI0,rU,rBitLen,rIxL,rIxT,rSetL,rEq,rNe,rCount,rIsI,rCat,iRng1,iRng2,iList,iTup,cxOf,Cx.nox,Cx.wish,z0q,z0r,j0a,j0b,Option.some.injEq,V.int.injEq,V.bl.injEq,V.ref.injEq,V.str.injEq,exists_eq_left',exists_eq_left,exists_and_left,true_and,and_true,List.cons.injEq,reduceCtorEq,z0s,if_false,if_true,exists_const,↓reduceIte,tyV,z0j,j0y,exists_eq,j0n,j0j,j0q,decide_eq_true_eq,not_true_eq_false,not_false_eq_true,z0v,decide_eq_false_iff_not,y0n,y0d,and_assoc,false_and,false_or,or_false,spFraction]
    have bfb:=S.bfb F hW;have sab:sa.natAbs<2 ^ 1000:=q0m (Va.le F) (q0f F.bW (pow_le_pow2 ⋯))
    have bsb:(bf*sa).natAbs<2 ^ 3999:=by
     rw [z0g,show 3999=2999+1000 from rfl,j0d];exact j0h bfb sab
    have cb:(cn:Int).natAbs<2 ^ 6000:=by
     rw [q0v];exact q0m (v0p _ ⋯) cnb
    refine ⟨mulOk bfb sab (by decide),_,SqL.of (s6 _ _ ela),_,atI_nat (get' ⋯),_,rfl,mulOk bsb ((bW _ _ _ g).2 _) (by decide),mulOk cb cb (by decide),?_,?_,λp H8 s8 e8=>hN _ _ ⟨p,rfl,s8,e8⟩⟩
    ·rw [<- j0c,q0v];exact cnb
    ·exact y0v ⋯ ⋯
   rintro σ H8 ⟨ps,rfl,s8,eps⟩;rw [qcol] at eps;have S48:=s6.trans s8;have lcol:((ra.drop ws.length).map λv=>v.fdiv (cn:Int)).length=N:=tcol.1;have lfs:=fd4.length;have lfn:=fnd.len;refine seq_cut (λσ H9 => ∃ fs',σ=[some (.ref lv),some (.ref lf),some (.int bf),some (.int (at':Int)),some (.ref lc),some (.int (cn:Int)),some (.ref ps),some (.int sa),some (.ref la)]/\Same H H9/\H9 lv=some (.lst us)/\VsH (λl=>l ≠ lf) H9 us ws/\H9 lf=some (.lst fs')/\H9 la=some (.lst (ra.map V.int))/\FdH K (λl=>l ≠ lf) H9 fs' (found ++ [((ra.drop ws.length).map (λv=>v.fdiv (cn:Int)),bl N A (vc ((ra.drop ws.length).map λv=>v.fdiv (cn:Int))) (vc ((ra.drop ws.length).map λv=>v.fdiv (cn:Int))))])) (λN' hN=>?_) ?_
   ·subst_eqs
    have cb:(cn:Int).natAbs<2 ^ 6000:=by
     rw [q0v];exact q0m (v0p _ ⋯) cnb
    refine ⟨.inl ⟨_,SqL.of (S48 _ _ el4)⟩,⟨_,SqL.of (s8 _ _ ec)⟩,λD hD=>divC (s8 _ _ ec) hD (by rw [y0f];omega) ⋯ cb λH9 s9 e9=>⟨small2,λp hp=>?_⟩⟩
    have X1:=Same.new hp (.tup [.ref D,.ref ps]);have u1:upd H9 p (.tup [.ref D,.ref ps]) p=some (.tup [.ref D,.ref ps]):=upd_same;generalize upd H9 p (.tup [.ref D,.ref ps])=HX at *;have S8X:=s9.trans X1;have S4X:=S48.trans S8X;have elX:=S4X _ _ el4;have Dlf:D ≠ lf:=(ne_of_none (S48 _ _ el4) hD).symm;have plf:p ≠ lf:=(ne_of_none ((S48.trans s9) _ _ el4) hp).symm;have epX:=S8X.tups _ _ eps;have fdX:=(fd4.same S4X).over (o:=.lst (fs ++ [.ref p])) elX λl hl=>hl;refine ⟨fs,elX,len_ok ⋯,hN _ _ ⟨fs ++ [.ref p],rfl,(s4.trans S4X).over flf _,by rw [upd_ne lvf];exact S4X _ _ elv,(hv4.same S4X).over elX λl hl=>hl,upd_same,by rw [upd_ne laf];exact S4X _ _ ela,?_⟩⟩
    refine FdH.append (FdH.cons (X:=λl=>l ≠ lf) (l:=D) (by rw [upd_ne plf];exact u1) (by rw [upd_ne Dlf];exact X1 _ _ e9) (num_over elX ⟨ps,rfl,.inl epX⟩) Dlf .nil) fdX
   rintro σ H9 ⟨fs',rfl,s9,elv9,hv9,elf9,ela9,fd9⟩;obtain ⟨S',hpx,_⟩:=S.up F g h0;have bfb:=S.bfb F hW;refine seq_cut (λσ HA => ∃ lw us',σ=[some (.ref lw),some (.ref lf),some (.int bf),some (.int (at':Int)),some (.ref lc),some (.int (cn:Int)),some (.ref ps),some (.int sa),some (.ref la)]/\Same H9 HA/\HA lw=some (.lst us')/\lw ≠ lf/\VsH (λl=>l ≠ lf) HA us' (upV bf at' ra ws)) (λN' hN=>?_) ?_
   ·subst_eqs
    exact ⟨lv,us,ws,_,at',bf,sa,ra,2999,rfl,elv9,hv9,g,⋯,⋯,⋯,bW,S.b0 F,bfb,by decide,λr us' HA sA fA eA vA=>hN _ _ ⟨r,us',rfl,sA,eA,(ne_of_none elf9 fA).symm,vA.to λl hl=>(ne_of_none elf9 hl.1).symm⟩⟩
   rintro σ HA ⟨lw,us',rfl,sA,ew,lwf,vA⟩;refine seq_cut (λσ HB=>σ=[some (.ref lw),some (.ref lf),some (.int (aZ ra at')),some (.int (at':Int)),some (.ref lc),some (.int (cn:Int)),some (.ref ps),some (.int sa),some (.ref la)]/\HB=HA) (λN' hN=>?_) ?_
   ·subst_eqs
    exact ⟨_,SqL.of (sA _ _ ela9),_,atI_nat (get' ⋯),hN _ _ ⟨rfl,rfl⟩⟩
   rintro σ HB ⟨rfl,rfl⟩;have fdA:=fd9.same sA
   subst_eqs
   refine with_sq F hW S' jk ew lwf vA (λl h=>h) (sA _ _ elf9) λr b us2 ws2 e2 j2 v2 HC sC er eb bl2 hv2 S2 jk2 hat2=>?_;refine ⟨r,rfl,_,SqT.of er,rfl,_,_,rfl,_,_,rfl,rfl,WgN.mk (m':=ws2.length) ?_ ((hJ _ _ _).mpr ⟨k+1,j2,_,_,aZ ra at',ws2,e2,b,us2,v2,_,_,_,_,_,_,_,rfl,s9.trans (sA.trans sC),eb,bl2,hv2,sC _ _ (sA _ _ elf9),fdA.same sC,S2,jk2,fnd.snoc ?_,hat2,rfl⟩)⟩
   ·have:=S2.km
    omega
   ·rw [hpx];exact tcol
  ·have:v=.non:=by simpa using hv'
   rw [this];rfl
 rintro σ H4 ⟨m,hm,hv3⟩;obtain ⟨k,j,es,ss,bf,ws,e,lv,us,v,found,fs,o4,o5,o6,o7,o8,rfl,s4,elv,lvf,hv4,el4,fd4,S,jk,fnd,hat,rfl⟩:=(hJ _ _ _).mp hm;have hvn:v=.non:=by simpa using hv3
 subst_eqs
 have km:=S.km;have lus:=hv4.length;have lfs:=fd4.length;have lfn:=fnd.len
 have hz:∀ (i:Nat) (s:Int) (row:List Int),ws[i]? = some (s,row)->∀ c,i<=c->c<ws.length->aZ row c=0:=by
  rcases hat with ⟨_,z⟩ | ⟨_,_,_,z,_⟩
  ·exact z
  ·rw [hvn] at z;cases z
 refine ⟨⟨_,SqL.of elv⟩,λD hD=>?_⟩;obtain ⟨I,hI⟩:∃ I:Nat->L2.St->Hp->Prop,∀ i σ H5,I i σ H5 ↔ ∃ (o1 o2:Option V) (zs:List V) (R:List (List Int)),σ=[some (.ref lv),o1,o2]/\Same H4 H5/\H5 D=some (.lst zs)/\FdH K (λl=>H4 l=none/\l ≠ D) H5 zs (R.map λc=>(c,0))/\R.length=i/\∀ (i':Nat) (col:List Int),R[i']? = some col->Tc N col (Pr N A es k (e i')):=⟨_,λ_ _ _=>Iff.rfl⟩;refine cw_list us I ((hI _ _ _).mpr ⟨_,_,[],[],rfl,Same.new hD _,upd_same,.nil,rfl,λi' col h=>by simp at h⟩) (λi σ H5 _ h=>by obtain ⟨_,_,_,_,_,s5,_⟩:=(hI _ _ _).mp h;exact SqL.of (s5 _ _ elv)) ?_ ?_
 ·intro i x σ H5 hx h
  obtain ⟨o1,o2,zs,R,rfl,s5,e5,f5,lR,tR⟩:=(hI _ _ _).mp h;obtain ⟨p,l,s,row,rfl,g,ep,el,_⟩:=(hv4.same s5).get hx;have hi:=(q0d.mp g).1;obtain ⟨V',lr,_,_⟩:=S.cur _ _ _ g;have lzs:=f5.length;rw [q0b] at lzs;simp only [rLen,rSum,rLst,tComp_eq,tCompIf_eq,iZip,rRep,tSl,tPart,tNoPart,rAppend,iEnum,capSt,z0b,y0c,j0r,j0s,j0t,tSeq,tIfS,tAnd,tOr,tNot,tTest,tB,tOp,tUn,tBM0,tBM,tVar,tC,tCB,tRet,tAsg,gName,gSub,gTup,gCons,gNil,tCons,tNil,tPar,tTup,tLst,tIf,tAndV,tOrV,tNotV,tDef,tDrop,tNext,tNever,rI,rI0,rU,rBitLen,rIxL,rIxT,rSetL,rEq,rNe,rCount,rIsI,iRng1,iRng2,iList,iTup,cxOf,Cx.nox,Cx.wish,z0q,z0r,j0a,j0b,Option.some.injEq,V.int.injEq,V.bl.injEq,V.ref.injEq,V.str.injEq,exists_eq_left',exists_eq_left,exists_and_left,true_and,and_true,List.cons.injEq,reduceCtorEq,z0s,if_false,if_true,exists_const,↓reduceIte,tyV,z0j,j0y,exists_eq,j0n,j0j,j0q,decide_eq_true_eq,not_true_eq_false,not_false_eq_true,z0v,decide_eq_false_iff_not,y0n,y0d,and_assoc,false_and,false_or,or_false];refine ⟨_,SqT.of ep,rfl,_,_,rfl,_,_,rfl,rfl,_,.inl (SqL.of (s5 _ _ elv)),sl_keep (SqL.of el) λq H6 f6 s6 e6=>?_⟩;rw [lus,cut_from _ (by rw [q0b];omega),<- List.map_drop] at e6
  have bR:∀ v ∈ row.drop ws.length,j0u v<2 ^ 6000:=λv hv=>aZ_mem (λt=>by
   rw [aZ_drop];refine q0m (S.bits F g _) (y0b (by decide) ?_)
   have:(W+15+4)*(k+1)<=(W+19)*7:=y0e ⋯ ⋯;omega) v hv
  refine ⟨q,_,rfl,e6,bR,by rw [y0f];omega,λr zs2 hh H7 s7 f7 e7 lz7 h1 eh=>⟨small2,λp7 hp7=>?_⟩⟩
  have X7:=Same.new hp7 (.tup [.ref r,.ref aN]);have u7:upd H7 p7 (.tup [.ref r,.ref aN]) p7=some (.tup [.ref r,.ref aN]):=upd_same;generalize upd H7 p7 (.tup [.ref r,.ref aN])=H8 at *;have S58:=s6.trans (s7.trans X7);have e8:=S58 _ _ e5;have lzN:zs2.length=N:=by rw [lz7,y0f];omega
  obtain ⟨t1,t2⟩:=S.tc F g lzN ⋯ eh;have rD:r ≠ D:=(ne_of_none (s6 _ _ e5) f7).symm;have pD:p7 ≠ D:=(ne_of_none ((s6.trans s7) _ _ e5) hp7).symm;have fdX:=(f5.same S58).over (o:=.lst (zs ++ [.ref p7])) e8 λl hl=>hl.2;refine CompN.mk ⋯ e8 (len_ok ⋯) ((hI _ _ _).mpr ⟨_,_,_,R ++ [zs2],rfl,(s5.trans S58).over hD _,upd_same,?_,by rw [z0n,lR];rfl,λi' col h'=>?_⟩)
  ·rw [y0q]
   exact FdH.append (FdH.cons (by rw [upd_ne pD];exact u7) (by rw [upd_ne rD];exact X7 _ _ e7) ⟨aN,rfl,.inr tN⟩ ⟨s5.free (s6.free f7),rD⟩ .nil) fdX
  ·rcases z0x i' i with y | y
   ·rw [j0f ⋯] at h'
    exact tR _ _ h'
   ·rw [j0m ⋯,lR] at h'
    have i0:i'-i=0:=by
     have:=(q0d.mp h').1
     simp at this;omega
    rw [i0] at h'
    cases h'
    rw [show i'=i by omega]
    exact ⟨lzN,_,t2,t1⟩
 ·intro σ H5 h
  obtain ⟨o1,o2,zs,R,rfl,s5,e5,f5,lR,tR⟩:=(hI _ _ _).mp h;have lzs:=f5.length;rw [q0b] at lzs;refine ⟨D,rfl,fs,s5 _ _ el4,zs,e5,q0y (show _<=100 by omega) (by decide),λp hp=>?_⟩
  have X:=Same.new hp (.lst (fs ++ zs));have res:=S.finish F fnd ⋯ tR hz;refine kk p _ (found ++ R.map λc=>(c,0)) _ (s4.trans (s5.trans X)) (s4.free (s5.free hp)) upd_same (FdH.append ((f5.same X).to λ_ _=>trivial) (((fd4.same s5).same X).to λ_ _=>trivial)) ?_
  have e1:(found ++ R.map λc=>(c,(0:Rat))).map (·.1)=found.map (·.1) ++ R:=by
   rw [y0q,g0t]
   congr 1
   exact List.map_id _
  have e2:(found ++ R.map λc=>(c,(0:Rat))).map (·.2)=found.map (·.2) ++ z0a ws.length 0:=by
   rw [y0q,g0t]
   congr 1
   refine List.ext_getElem (by simp;omega) λi h1 h2=>by simp
  rw [e1,e2];exact res
end
end R

set_option maxRecDepth 100000
namespace R
open PySem L2 PyProof.Rows
theorem flip_qq {M:List (List Rat)} {n i j:Nat} (h:i<n):qq (flipQ M n) i j=qq M j i:=by
 unfold qq flipQ colQ;rw [q0e,z0y h]
 show aQ (M.map _) j=_;unfold aQ;rw [q0e]
 cases M[j]? with
 | none=>rfl
 | some L=>rfl
theorem flip_tf {M:List (List Rat)} {n:Nat} {f:Mt} (h:TabF n M f):TabF n (flipQ M n) λi j=>f j i:=by
 refine ⟨by unfold flipQ;rw [q0b,z0h],λL hL=>?_,λi j hi hj=>?_⟩
 ·obtain ⟨i,_,rfl⟩:=z0k.mp hL
  unfold colQ;rw [q0b];exact h.len
 ·rw [flip_qq hi,h.at' j i hj hi]
structure FmT (N:Nat) (M:List (List Rat)) (Bt W:Nat):Prop where
 tf:TabF N M (qq M)
 fm:Fm N (qq M) Bt W
theorem FmT.flip {N:Nat} {M:List (List Rat)} {Bt W:Nat} (h:FmT N M Bt W):flipQ M M.length=M:=by
 rw [h.tf.len];exact (flip_tf h.tf).eq (h.tf.to λi j hi hj=>h.fm.sy i hi j hj)
theorem FmT.row {N:Nat} {M:List (List Rat)} {Bt W:Nat} (h:FmT N M Bt W) {L:List Rat} {i:Nat} (g:M[i]? = some L):L.length=N/\(∀ c,c<N->aQ L c=qq M i c)/\∀ q ∈ L,OvB Bt W q:=by
 have hi:i<N:=by rw [<- h.tf.len];exact (q0d.mp g).1
 have l:=h.tf.row L (q0g g);have e:∀ c,aQ L c=qq M i c:=λc=>by unfold qq;rw [g];rfl
 refine ⟨l,λc _=>e c,λq hq=>?_⟩;obtain ⟨c,hc,rfl⟩:=u0b hq;have:=h.fm.ov i hi c ⋯;rw [<- e c] at this;unfold aQ at this;rw [q0c hc] at this;exact this
theorem ovb_den {B W:Nat} {q:Rat} (h:OvB B W q) (hB:0<B):q.den ∣ B:=by
 obtain ⟨v,e,_⟩:=h;have h1:q0x q.num q.den=q0x v B:=by rw [j0z];exact e
 have h2:=(z0e (by have:=q.den_nz;omega) ⋯).mp h1
 have h3:q.den ∣ q.num.natAbs*B:=by
  have h4:(q.den:Int) ∣ q.num*B:=⟨v,by rw [h2];grind⟩
  have:=v0t.mpr h4;rw [q0v,z0g,q0v] at this;exact this
 exact q1a.dvd_of_dvd_mul_left (q1a.symm q.reduced) h3
theorem FmT.start {N:Nat} {M:List (List Rat)} {Bt W:Nat} {es:Nat->Vc} {ss:Nat->Int} (h:FmT N M Bt W):Sq N (qq M) Bt 0 0 es ss 1 (vecs0 M) un:=by
 have lM:=h.tf.len;refine Sq.start h.fm (by unfold vecs0;rw [List.length_mapIdx];exact lM) λi s row hi=>?_
 unfold vecs0 at hi;rw [m0p] at hi
 cases hL:M[i]? with
 | none=>rw [hL] at hi;cases hi
 | some L =>
  rw [hL] at hi;have hi':vec0 M.length i L=(s,row):=Option.some.inj hi;obtain ⟨l,e,ov⟩:=h.row hL;have lp:=lcmL_pos L;have lw:(wholesOf (lcmL L) L).length=N:=by unfold wholesOf;rw [q0b];exact l
  have es':s=((lcmL L:Nat):Int):=(congrArg Prod.fst hi').symm;have er:row=wholesOf (lcmL L) L ++ (q0z N).map λt=>if i=t then ((lcmL L:Nat):Int) else 0:=by rw [<- lM];exact (congrArg Prod.snd hi').symm
  refine ⟨⋯,?_,?_,λc hc=>?_,λt ht=>?_⟩
  ·rw [es']
   exact y0a.mpr (lcmL_dvd λq hq=>ovb_den (ov q hq) h.fm.b0)
  ·rw [er,z0n,lw,q0b,z0h]
  ·rw [<- e c hc,er,es']
   unfold aZ aQ;rw [j0f ⋯];unfold wholesOf;rw [q0e,q0c ⋯]
   show ((L[c].num*((lcmL L:Nat):Int).fdiv (L[c].den:Int):Int):Rat)=(((lcmL L:Nat):Int):Rat)*L[c];have w:=whole_eq lp (den_dvd (List.getElem_mem (by omega:c<L.length)))
   have bn:(((lcmL L:Nat):Int):Rat) ≠ 0:=icast_ne' ⋯;have bi:=z0w _ bn
   conv=>rhs;rw [w]
   rw [u0j,m0h];generalize (((lcmL L:Nat):Int):Rat)⁻¹=y at *;generalize (((lcmL L:Nat):Int):Rat)=z at *
   grind
  ·rw [er,es']
   unfold aZ;rw [j0m ⋯,lw,g0x,q0e,z0y ht]
   show (if i=t then _ else _)=if t=i then _ else _
   by_cases z:i=t
   ·rw [if_pos z,if_pos z.symm]
   ·rw [if_neg z,if_neg (Ne.symm z)]
section
variable {P:Program} {w:World} {K:q0a} {mg:Str->Option Value} {base:Heap}
def spSquares (K:q0a):Sp:=λvs H Q _ => ∃ (a:Addr) (ts:List Addr) (M:List (List Rat)) (N Bt W:Nat),vs=[.ref a]/\H a=some (.lst (ts.map V.ref))/\Rws H ts M/\FmT N M Bt W/\(W+19)*14<6000/\∀ r rr rq zs cols qs H',Same H H'->H r=none->H' r=some (.tup [.ref rr,.ref rq])->H' rq=some (.lst zs)->NumsC K H' zs qs->SqRes N (qq M) cols qs->Q (.ref r) H'
abbrev s_squares:Stmt:=top 32
theorem sc_squares:FnScope ["table","found","rows"] ["table"] (defScope s_squares):=⟨rfl,rfl,rfl,by decide +kernel,rfl,by decide +kernel,by decide +kernel⟩
theorem ok_squares {f f1 f2 f3:Addr} (d:Df K mg "squares" s_squares ["table"] f) (G_turned:Def P w K mg base CX0 1 "turned" f1 ["table"] (spTurned K)) (G_vectors_of:Def P w K mg base CX0 3 "vectors_of" f2 ["form"] (spVecs K)) (G_squared:Def P w K mg base CX0 4 "squared" f3 ["vectors"] (spSquared K)) (n_range:mg "range" = none) (n_len:mg "len" = none):Def P w K mg base CX0 5 "squares" f ["table"] (spSquares K):=by
 refine d.ok (N:=["table","found","rows"]) sc_squares (by rintro vs H Q E ⟨_,_,_,_,_,_,h,_⟩;rw [h];rfl) (λcdv A' outer s H vs Q E hr h=>?_)
 obtain ⟨a,ts,M,N,Bt,W,rfl,ea,rw',T,hW,k⟩:=h;have hu:=hr.units
 refine ⟨_,(pss_cons (ps_if (pt_cmpR (op_neD hu) (pv 0) (pe_def G_turned hr (pa_cons (pv 0) pa_nil) pass0) (nomark _)) (pss_one ps_never) pss_nil)
   (pss_cons (ps_set (i:=1) sc_squares.nd rfl (z0p rfl) (pe_def G_squared hr (pa_cons (pe_def G_vectors_of hr (pa_cons (pv 0) pa_nil) pass0) pa_nil) pass0))
   (pss_cons (ps_setCompC (i₀:=2) sc_squares.nd rfl (q0w rfl) (Nc:=["found","place"]) (caps:=[some 1,none]) rfl (CapsC.of (osc:=defScope s_squares) (N:=["table","found","rows"]) (ks:=["found"]) rfl rfl rfl rfl (sub_cons rfl sub_nil) (by decide +kernel)) (pi_range1 rfl n_range (pa_cons (pe_callB call_len_seq rfl n_len (by decide +kernel) (pa_cons (pv 0) pa_nil)) pa_nil)) (λC s₂ H₂ fp pins=>(pg_name (i:=1) (show z0f (["found","place"]:List Str) by decide +kernel) rfl (z0p rfl) (q0w rfl))) (λC s₂ H₂ fp pins=>(pe_comp (Nc:=["place","column","square"]) (caps:=[some 1,none,none]) rfl (Caps.of (osc:=_) (N:=["found","place"]) (ks:=["place"]) rfl rfl rfl rfl (sub_cons rfl sub_nil) (by kernel_rfl)) (show PI _ _ _ (iList K _) from by exact (pi_list (pv 0))) (λC s₂ H₂ fp pins=>(show PG _ _ (gTup K 2 (gCons (gName 1) (gCons (gName 2) gNil))) from by (refine pg_tup (n:=2) ?_ ?_ ?_ ?_;rfl;(refine pgs_cons ?_ ?_ ?_;(exact (pg_name (i:=1) (show z0f (["place","column","square"]:List Str) by decide +kernel) rfl (q0w rfl) (z0p rfl)));(refine pgs_cons ?_ ?_ ?_;(exact (pg_name (i:=2) (show z0f (["place","column","square"]:List Str) by decide +kernel) rfl (q0w rfl) (z0p rfl)));(exact pgs_nil);rfl);rfl);rfl;rfl))) (λC s₂ H₂ fp pins=>(pe_tup (pa_cons (pe_ix (by exact ix_list:IxR _ (rIxL K)) (pv 1) (pv 0) (λ_ _=>rfl)) (pa_cons pe_int pa_nil)))))))
   (pss_one (ps_ret (pe_tup (pa_cons (pv 2) (pa_cons (pe_comp (Nc:=["column","square"]) (caps:=[none,none]) rfl (Caps.of (osc:=defScope s_squares) (N:=["table","found","rows"]) (ks:=[]) rfl rfl rfl rfl sub_nil (by decide +kernel)) (pi_list (pv 1)) (λC s₂ H₂ fp pins=>(show PG _ _ (gTup K 2 (gCons (gName 0) (gCons (gName 1) gNil))) from by (refine pg_tup (n:=2) ?_ ?_ ?_ ?_;rfl;(refine pgs_cons ?_ ?_ ?_;(exact (pg_name (i:=0) (show z0f (["column","square"]:List Str) by decide +kernel) rfl (q0w rfl) (z0p rfl)));(refine pgs_cons ?_ ?_ ?_;(exact (pg_name (i:=1) (show z0f (["column","square"]:List Str) by decide +kernel) rfl (q0w rfl) (z0p rfl)));(exact pgs_nil);rfl);rfl);rfl;rfl))) (λC s₂ H₂ fp pins=>(pv 1))) pa_nil)))))))),?_⟩
 rw [show start ["table","found","rows"] [.ref a]=[some (.ref a),none,none] from rfl]
 have lts:=rw'.length;have lM:=T.tf.len;have n7:=T.fm.n7;refine seq_cut (λσ H1=>σ=[some (.ref a),none,none]/\Same H H1) (λNn hN=>?_) ?_
 ·subst_eqs
  refine ⟨a,ts,M,rfl,ea,rw',λL hL=>by rw [lM];exact T.tf.row L hL,⋯,λr us H1 s1 f1 _ _ e1 r1=>?_⟩
  refine ⟨dLists M,dLists (flipQ M M.length),rfl,.lst (SqL.of (s1 _ _ ea)) (rw'.same s1).isDs,.lst (SqL.of e1) r1.isDs,okD_lists _ _,dp_lists _,?_⟩;rw [eqD_lists,T.flip,decide_eq_true rfl];exact ⟨false,rfl,ite2 (λh=>absurd h (by decide)) (λ_=>hN _ _ ⟨rfl,s1⟩)⟩
 rintro σ H1 ⟨rfl,S1⟩;refine seq_cut (λσ H2 => ∃ lf zs fs,σ=[some (.ref a),some (.ref lf),none]/\Same H1 H2/\H2 lf=some (.lst zs)/\FdH K (λ_=>True) H2 zs fs/\SqRes N (qq M) (fs.map (·.1)) (fs.map (·.2))) (λNn hN=>?_) ?_
 ·subst_eqs
  have W4:W<=409:=⋯;refine ⟨a,ts,M,rfl,S1 _ _ ea,rw'.same S1,⋯,λL hL=>?_,λr us H2 s2 f2 e2 v2=>?_⟩
  ·obtain ⟨i,hi,rfl⟩:=u0b hL
   obtain ⟨l,_,ov⟩:=T.row (q0c hi);exact ⟨⋯,cl_of_ovb T.fm.b0 (q0f T.fm.bW (pow_le_pow2 ⋯)) λq hq=>(ov q hq).mono ⋯⟩
  ·exact ⟨r,us,_,_,N,qq M,Bt,W,λ_ _=>0,λ_=>0,un,rfl,e2,v2,T.fm,hW,T.start,λr3 rs fs H3 s3 f3 e3 fd R=>hN _ _ ⟨r3,rs,fs,rfl,s2.trans s3,e3,fd,R⟩⟩
 rintro σ H2 ⟨lf,zs,fs,rfl,S2,ef,fd,R⟩;have lzs:=fd.length;have lc:=R.lc;have ll:=R.ll;rw [q0b] at lc;refine seq_cut (λσ H3 => ∃ rr,σ=[some (.ref a),some (.ref lf),some (.ref rr)]/\Same H2 H3) (λNn hN=>?_) ?_
 ·subst_eqs
  have lt:(ts.map V.ref).length=N:=by rw [q0b];omega
  refine ⟨_,.inl (SqL.of ((S1.trans S2) _ _ ea)),by rw [lt];omega,by rw [lt];omega,λD hD=>?_⟩
  rw [lt,show ((N:Int)).toNat=N by omega]
  refine cw_range (λj σ H3 => ∃ o ys,σ=[some (.ref lf),o]/\Same H2 H3/\H3 D=some (.lst ys)/\ys.length=j) ⟨_,[],rfl,Same.new hD _,upd_same,rfl⟩ ?_ ?_
  ·rintro j σ H3 hj ⟨o,ys,rfl,s3,e3,ly⟩
   subst_eqs
   refine ⟨⟨_,SqL.of (s3 _ _ ef)⟩,λD2 hD2=>?_⟩;refine cw_list zs (λi σ H4 => ∃ o1 o2 us,σ=[some (.int (0+(j:Int))),o1,o2]/\Same H3 H4/\H4 D2=some (.lst us)/\us.length=i) ⟨_,_,[],rfl,Same.new hD2 _,upd_same,rfl⟩ (λi σ H4 _ ⟨_,_,_,_,s4,_⟩=>SqL.of (s4 _ _ (s3 _ _ ef))) ?_ ?_
   ·rintro i x σ H4 hx ⟨o1,o2,us,rfl,s4,e4,lu⟩
    obtain ⟨p,l,y,col,q,rfl,g,ep,el,_,_⟩:=(fd.same (s3.trans s4)).get hx;have lcol:=ll col (z0k.mpr ⟨(col,q),q0g g,rfl⟩)
    have gc:(col.map V.int)[j]? = some (.int (aZ col j)):=by
     unfold aZ;rw [q0e,q0c ⋯];rfl
    have hi:=(q0d.mp hx).1
    subst_eqs
    rw [show (0:Int)+(j:Int)=((j:Nat):Int) by omega]
    refine ⟨_,SqT.of ep,rfl,_,_,rfl,_,_,rfl,rfl,l,rfl,_,SqL.of el,_,atI_nat gc,small2,λp5 hp5=>?_⟩;have X:=Same.new hp5 (.tup [.int (aZ col j),.int 1]);refine CompN.mk hi (X _ _ e4) (len_ok ⋯) ⟨_,_,rfl,(s4.trans X).over hD2 _,_,upd_same,by rw [z0n,lu];rfl⟩
   ·rintro σ H4 ⟨o1,o2,us,rfl,s4,e4,lu⟩
    refine CompN.mk hj (s4 _ _ e3) (len_ok ⋯) ⟨_,rfl,(s3.trans s4).over hD _,_,upd_same,by rw [z0n,ly];rfl⟩
  ·rintro σ H3 ⟨o,ys,rfl,s3,e3,ly⟩
   exact hN _ _ ⟨D,rfl,s3⟩
 rintro σ H3 ⟨rr,rfl,S3⟩
 subst_eqs
 have fd3:=fd.same S3;refine ⟨⟨_,SqL.of (S3 _ _ ef)⟩,λD hD=>?_⟩;refine cw_list zs (λi σ H4 => ∃ o1 o2 us,σ=[o1,o2]/\Same H3 H4/\H4 D=some (.lst us)/\NumsC K H4 us ((fs.map (·.2)).take i)) ⟨_,_,[],rfl,Same.new hD _,upd_same,.nil⟩ (λi σ H4 _ ⟨_,_,_,_,s4,_⟩=>SqL.of (s4 _ _ (S3 _ _ ef))) ?_ ?_
 ·rintro i x σ H4 hx ⟨o1,o2,us,rfl,s4,e4,nu⟩
  obtain ⟨p,l,y,col,q,rfl,g,ep,el,ny,_⟩:=(fd3.same s4).get hx;have hi:=(q0d.mp hx).1;have lu:=nu.length
  subst_eqs
  refine ⟨_,SqT.of ep,rfl,_,_,rfl,_,_,rfl,rfl,?_⟩;obtain ⟨ay,rfl,hy⟩:=ny;have gq:(fs.map (·.2))[i]? = some q:=by rw [q0e,g];rfl
  refine CompN.mk hi e4 (len_ok (by rw [lu,q0t,q0b];omega)) ⟨_,_,rfl,s4.over hD _,_,upd_same,?_⟩
  rw [take_snoc_get gq];exact (nu.append (.cons hy .nil)).mono (TupS.lst e4)
 ·rintro σ H4 ⟨o1,o2,us,rfl,s4,e4,nu⟩
  rw [y0s (by rw [q0b];omega)] at nu
  refine ⟨small2,λp hp=>?_⟩;have X:=Same.new hp (.tup [.ref rr,.ref D]);have S:=S1.trans (S2.trans (S3.trans s4));exact k p rr D us _ _ _ (S.trans X) (S.free hp) upd_same (X _ _ e4) (nu.mono X.tups) R
end
end R

set_option maxRecDepth 100000
namespace R
open PySem L2 PyProof.Rows
def sgz (z:Int):Int:=if z > 0 then 1 else if z<0 then -1 else 0
theorem count_rng {α:Type} (d:α) (p:α->Bool):∀ L:List α,(q0z L.length).countP (λk=>p ((L[k]?).getD d))=L.countP p
 | []=>rfl
 | x :: r=>by
  have ih:=count_rng d p r;rw [z0j,m0g,y0x,g0d,y0x,<- ih];rfl
theorem num_pos' (q:Rat):0<q.num ↔ 0<q:=by
 rw [m0r]
 show _ ↔ (0:Int)*(q.den:Int)<q.num*((1:Nat):Int);rw [g0v];simp
theorem num_neg' (q:Rat):q.num<0 ↔ q<0:=by
 rw [m0r]
 show _ ↔ q.num*((1:Nat):Int)<(0:Int)*(q.den:Int);rw [g0v];simp
theorem sgz_1 (q:Rat):(sgz q.num=1 ↔ 0<q)/\(sgz q.num=-1 ↔ q<0):=by
 have h1:=num_pos' q;have h2:=num_neg' q;unfold sgz;refine ⟨?_,?_⟩
 ·rw [<- h1];split <;> (try split) <;> omega
 ·rw [<- h2];split <;> (try split) <;> omega
theorem sgs_count (qs:List Rat):(qs.map λq=>V.int (sgz q.num)).countP (λz=>eqV z (.int 1))=posN (λi=>(qs[i]?).getD 0) qs.length/\(qs.map λq=>V.int (sgz q.num)).countP (λz=>eqV z (.int (-1)))=negN (λi=>(qs[i]?).getD 0) qs.length/\(qs.map λq=>V.int (sgz q.num)).countP (λz=>eqV z (.int 0))+posN (λi=>(qs[i]?).getD 0) qs.length+negN (λi=>(qs[i]?).getD 0) qs.length=qs.length:=by
 have e1:posN (λi=>(qs[i]?).getD 0) qs.length=qs.countP λq=>decide (0<q):=count_rng 0 (λq=>decide (0<q)) qs;have e2:negN (λi=>(qs[i]?).getD 0) qs.length=qs.countP λq=>decide (q<0):=count_rng 0 (λq=>decide (q<0)) qs;rw [e1,e2,g0d,g0d,g0d]
 have f1:((λz=>eqV z (.int 1)) ∘ λq:Rat=>V.int (sgz q.num))=λq=>decide (0<q):=funext λq=>by
  show eqV (.int (sgz q.num)) (.int 1)=_;have:=(sgz_1 q).1;simp only [eqV]
  by_cases z:0<q
  ·rw [decide_eq_true z];simp [this.mpr z]
  ·rw [decide_eq_false z];simp;exact λy=>z (this.mp y)
 have f2:((λz=>eqV z (.int (-1))) ∘ λq:Rat=>V.int (sgz q.num))=λq=>decide (q<0):=funext λq=>by
  show eqV (.int (sgz q.num)) (.int (-1))=_;have:=(sgz_1 q).2;simp only [eqV]
  by_cases z:q<0
  ·rw [decide_eq_true z];simp [this.mpr z]
  ·rw [decide_eq_false z];simp;exact λy=>z (this.mp y)
 rw [f1,f2];refine ⟨rfl,rfl,?_⟩;clear e1 e2 f1 f2
 induction qs with
 | nil=>rfl
 | cons q qs ih =>
  rw [y0x,y0x,y0x,z0j];have h1:=(sgz_1 q).1;have h2:=(sgz_1 q).2
  have h3:((λz=>eqV z (.int 0)) ∘ λq:Rat=>V.int (sgz q.num)) q=decide (sgz q.num=0):=by
   show eqV (.int (sgz q.num)) (.int 0)=_;simp only [eqV]
   by_cases z:sgz q.num=0
   ·rw [decide_eq_true z];simp [z]
   ·rw [decide_eq_false z];simpa using z
  have h4:sgz q.num=1 \/ sgz q.num=-1 \/ sgz q.num=0:=by
   unfold sgz
   split
   ·exact .inl rfl
   ·split
    ·exact .inr (.inl rfl)
    ·exact .inr (.inr rfl)
  rw [h3];rcases h4 with y | y | y
  ·have a:=h1.mp y
   have b:¬ q<0:=λz=>by have:=h2.mpr z;omega
   rw [decide_eq_false (show ¬ sgz q.num=0 by omega),decide_eq_true a,decide_eq_false b]
   simp only [if_true,z0s,if_false];omega
  ·have a:=h2.mp y
   have b:¬ 0<q:=λz=>by have:=h1.mpr z;omega
   rw [decide_eq_false (show ¬ sgz q.num=0 by omega),decide_eq_true a,decide_eq_false b]
   simp only [if_true,z0s,if_false];omega
  ·have a:¬ q<0:=λz=>by have:=h2.mpr z;omega
   have b:¬ 0<q:=λz=>by have:=h1.mpr z;omega
   rw [decide_eq_true y,decide_eq_false a,decide_eq_false b];simp only [if_true,z0s,if_false];omega
section
variable {P:Program} {w:World} {K:q0a} {mg:Str->Option Value} {base:Heap}
def spSignW:Sp:=λvs H Q _ => ∃ z:Int,vs=[.int z]/\Q (.int (sgz z)) H
abbrev s_sign_of_whole:Stmt:=top 13
theorem sc_sign_of_whole:FnScope ["whole"] ["whole"] (defScope s_sign_of_whole):=⟨rfl,rfl,rfl,by decide +kernel,rfl,by decide +kernel,by decide +kernel⟩
theorem ok_sign_of_whole {f:Addr} (d:Df K mg "sign_of_whole" s_sign_of_whole ["whole"] f):Def P w K mg base CX0 1 "sign_of_whole" f ["whole"] spSignW:=by
 refine d.ok (N:=["whole"]) sc_sign_of_whole (λvs H Q E ⟨z,h,_⟩=>by rw [h];rfl) (λcdv A outer s H vs Q E hr h=>?_)
 obtain ⟨z,rfl,k⟩:=h
 refine ⟨_,(pss_cons (ps_if (pt_cmpR op_gt (pv 0) pe_int (nomark _)) (pss_one (ps_ret pe_int)) pss_nil)
   (pss_one (ps_ret (pe_ifExp (pt_cmpR op_lt (pv 0) pe_int (nomark _)) (pe_un un_neg pe_int) pe_int)))),?_⟩
 rw [show start ["whole"] [.int z]=[some (.int z)] from rfl]
 subst_eqs
 unfold sgz at k;refine ite2 (λh=>?_) (λh=>?_)
 ·rw [if_pos h] at k;exact k
 ·rw [if_neg h] at k
  refine ite2 (λh2=>?_) (λh2=>?_)
  ·rw [if_pos h2] at k;exact k
  ·rw [if_neg h2] at k;exact k
def spSignG (K:q0a):Sp:=λvs H Q _ => ∃ (p:Addr) (q:Rat),vs=[.ref p]/\SqT K H p (numV q)/\Q (.int (sgz q.num)) H
abbrev s_sign_of:Stmt:=top 14
theorem sc_sign_of:FnScope ["number"] ["number"] (defScope s_sign_of):=⟨rfl,rfl,rfl,by decide +kernel,rfl,by decide +kernel,by decide +kernel⟩
theorem ok_sign_of {f fw:Addr} (d:Df K mg "sign_of" s_sign_of ["number"] f) (G_sign_of_whole:Def P w K mg base CX0 1 "sign_of_whole" fw ["whole"] spSignW):Def P w K mg base CX0 2 "sign_of" f ["number"] (spSignG K):=by
 refine d.ok (N:=["number"]) sc_sign_of (λvs H Q E ⟨x,p,h,_⟩=>by rw [h];rfl) (λcdv A outer s H vs Q E hr h=>?_)
 obtain ⟨ap,p,rfl,hp,k⟩:=h;refine ⟨_,(pss_one (ps_ret (pe_def G_sign_of_whole hr (pa_cons (pe_ix ix_tup (pv 0) pe_int (λ_ _=>rfl)) pa_nil) pass0))),?_⟩;rw [show start ["number"] [.ref ap]=[some (.ref ap)] from rfl]
 simp only [rLen,rSum,rLst,tComp_eq,tCompIf_eq,iZip,rRep,tSl,tPart,tNoPart,rSlL,rAppend,iEnum,capSt,z0b,y0c,j0r,j0s,j0t,tSeq,tIfS,tAnd,tOr,tNot,tTest,tB,tOp,tUn,tBM0,tBM,tVar,tC,tCB,tRet,tAsg,gName,gSub,gTup,gCons,gNil,tCons,tNil,tPar,tTup,tLst,tIf,tAndV,tOrV,tNotV,tDef,tDrop,tNext,tNever,rI,rI0,rU,rBitLen,rIxL,rIxT,rSetL,rEq,rNe,rCount,rIsI,rCat,iRng1,iRng2,iList,iTup,cxOf,Cx.nox,Cx.wish,z0q,z0r,j0a,j0b,Option.some.injEq,V.int.injEq,V.bl.injEq,V.ref.injEq,V.str.injEq,exists_eq_left',exists_eq_left,exists_and_left,true_and,and_true,List.cons.injEq,reduceCtorEq,z0s,if_false,if_true,exists_const,↓reduceIte,tyV,z0j,j0y,exists_eq,j0n,j0j,j0q,decide_eq_true_eq,not_true_eq_false,not_false_eq_true,z0v,decide_eq_false_iff_not,y0n,y0d,and_assoc,false_and,false_or,or_false,spSignW];exact ⟨_,hp,_,at0 p,_,rfl,k⟩
def spSigns (K:q0a):Sp:=λvs H Q _ => ∃ (a:Addr) (ts:List Addr) (M:List (List Rat)) (N Bt W:Nat),vs=[.ref a]/\H a=some (.lst (ts.map V.ref))/\Rws H ts M/\FmT N M Bt W/\(W+19)*14<6000/\∀ r d H',Same H H'->H r=none->Frm N (qq M) d->H' r=some (.tup [.int (posN d N:Nat),.int (negN d N:Nat),.int (N-posN d N-negN d N:Nat)])->posN d N+negN d N<=N->Q (.ref r) H'
abbrev s_signs:Stmt:=top 33
theorem sc_signs:FnScope ["table","found"] ["table"] (defScope s_signs):=⟨rfl,rfl,rfl,by decide +kernel,rfl,by decide +kernel,by decide +kernel⟩
theorem ok_signs {f f1 f2:Addr} (d:Df K mg "signs" s_signs ["table"] f) (G_squares:Def P w K mg base CX0 5 "squares" f1 ["table"] (spSquares K)) (G_sign_of:Def P w K mg base CX0 2 "sign_of" f2 ["number"] (spSignG K)):Def P w K mg base CX0 6 "signs" f ["table"] (spSigns K):=by
  refine d.ok (N:=["table","found"]) sc_signs (by rintro vs H Q E ⟨_,_,_,_,_,_,h,_⟩;rw [h];rfl) (λcdv A' outer s H vs Q E hr h=>?_)
  obtain ⟨a,ts,M,N,Bt,W,rfl,ea,rw',T,hW,k⟩:=h;have hu:=hr.units
  refine ⟨_, (pss_cons (ps_setComp (i₀ := 1) sc_signs.nd rfl (Or.inl rfl) (Nc := ["square"]) (caps := [none]) rfl (Caps.of (osc := defScope s_signs) (N := ["table", "found"]) (ks := []) rfl rfl rfl rfl sub_nil (by decide +kernel)) (pi_list (pe_ix ix_tup (pe_def G_squares hr (pa_cons (pv 0) pa_nil) pass0) pe_int (fun _ _ => rfl))) (fun C s₂ H₂ fp pins => (pg_name (i := 0) (show List.Nodup (["square"] : List Str) by decide +kernel) rfl (Or.inl rfl) (Or.inr rfl))) (fun C s₂ H₂ fp pins => (pe_def G_sign_of hr (pa_cons (pv 0) pa_nil) pass0)))
      (pss_one (ps_ret (pe_tup (pa_cons (pe_bm PySem.F.plainAttrs_list PySem.F.slot_list_count PySem.F.type_list_count mt_count (pv 1) (pa_cons pe_int pa_nil)) (pa_cons (pe_bm PySem.F.plainAttrs_list PySem.F.slot_list_count PySem.F.type_list_count mt_count (pv 1) (pa_cons (pe_un un_neg pe_int) pa_nil)) (pa_cons (pe_bm PySem.F.plainAttrs_list PySem.F.slot_list_count PySem.F.type_list_count mt_count (pv 1) (pa_cons pe_int pa_nil)) pa_nil))))))),?_⟩
  rw [show start ["table","found"] [.ref a]=[some (.ref a),none] from rfl]
  refine seq_cut (λσ H1 => ∃ lf cols qs,σ=[some (.ref a),some (.ref lf)]/\Same H H1/\H1 lf=some (.lst (qs.map λq=>V.int (sgz q.num)))/\SqRes N (qq M) cols qs) (λNn hN=>?_) ?_
  · subst_eqs
    refine ⟨a,ts,M,N,Bt,W,rfl,ea,rw',T,hW,λr rr rq zs cols qs H1 s1 f1 er eq nz R=>?_⟩;refine ⟨r,rfl,_,SqT.of er,_,rfl,rq,rfl,⟨_,SqL.of eq⟩,λD hD=>?_⟩;have lz:=nz.length;refine cw_list zs (λi σ H2 => ∃ o,σ=[o]/\Same H1 H2/\H2 D=some (.lst ((qs.take i).map λq=>V.int (sgz q.num)))) ⟨_,rfl,Same.new hD _,upd_same⟩ (λi σ H2 _ ⟨_,_,s2,_⟩=>SqL.of (s2 _ _ eq)) ?_ ?_
    · rintro i x σ H2 hx ⟨o,rfl,s2,e2⟩
      obtain ⟨p,q,rfl,hq,hp⟩:=(nz.mono s2.tups).getV hx;have hi:=(List.getElem?_eq_some_iff.mp hx).1
      subst_eqs
      refine ⟨p,q,rfl,hp.sqt,?_⟩;refine CompN.mk hi e2 (len_ok (by have:=T.fm.n7;have:=R.lq;rw [List.length_map,List.length_take];omega)) ⟨_,rfl,s2.over hD _,?_⟩
      rw [upd_same,take_snoc_get hq,List.map_append];rfl
    · rintro σ H2 ⟨o,rfl,s2,e2⟩
      rw [lz,List.take_length] at e2;exact hN _ _ ⟨D,cols,qs,rfl,s1.trans s2,e2,R⟩
  rintro σ H1 ⟨lf,cols,qs,rfl,S1,ef,R⟩
  subst_eqs
  have lq:=R.lq;obtain ⟨c1,c2,c3⟩:=sgs_count qs
  have fl:(qs.map λq=>V.int (sgz q.num)).all flatV=true:=by
    rw [List.all_map,List.all_eq_true];intro q _;rfl
  refine ⟨.inl ⟨_,SqL.of ef⟩,_,ef,rfl,fl,.inl ⟨_,SqL.of ef⟩,_,ef,rfl,fl,.inl ⟨_,SqL.of ef⟩,_,ef,rfl,fl,?_⟩
  have ez:(qs.map λq=>V.int (sgz q.num)).countP (λz=>eqV z (.int 0))=N-posN (λi=>(qs[i]?).getD 0) N-negN (λi=>(qs[i]?).getD 0) N:=by
    rw [lq] at c3;omega
  rw [lq] at c1 c2 c3;exact ⟨Nat.le_trans (show 3<=100 by decide) (by decide),λp hp=>k p (λi=>(qs[i]?).getD 0) _ (S1.trans (Same.new hp _)) (S1.free hp) (R.frm T.fm.sy) (by rw [upd_same,c1,c2,ez]) ⋯⟩
end
end R

set_option maxRecDepth 100000
namespace R
open PySem L2 PyProof.Rows
def sgQ (q:Rat):Int:=if 0<q then 1 else if q<0 then -1 else 0
theorem sg_num (q:Rat):(if q.num > 0 then (1:Int) else 0)-(if q.num<0 then 1 else 0)=sgQ q:=by
 unfold sgQ
 have h1:(0<q) ↔ q.num > 0:=by
  rw [m0r]
  show (0:Int)*(q.den:Int)<q.num*((1:Nat):Int) ↔ _;rw [g0v];simp
 have h2:(q<0) ↔ q.num<0:=by
  rw [m0r]
  show q.num*((1:Nat):Int)<(0:Int)*(q.den:Int) ↔ _;rw [g0v];simp
 by_cases a:q.num > 0
 ·rw [if_pos a,if_neg ⋯,if_pos (h1.mpr a)];rfl
 ·rw [if_neg a,if_neg (λz=>a (h1.mp z))]
  by_cases b:q.num<0
  ·rw [if_pos b,if_pos (h2.mpr b)];rfl
  ·rw [if_neg b,if_neg (λz=>b (h2.mp z))];rfl
section
variable {P:Program} {w:World} {K:q0a} {mg:Str->Option Value} {base:Heap}
def spSgn (K:q0a):Sp:=λvs H Q _ => ∃ x q,vs=[x]/\Num K H x q/\Q (.int (sgQ q)) H
abbrev s__law_sign:Stmt:=top 40
theorem sc__law_sign:FnScope ["_law_number_here"] ["_law_number_here"] (defScope s__law_sign):=⟨rfl,rfl,rfl,by decide +kernel,rfl,by decide +kernel,by decide +kernel⟩
theorem ok__law_sign {f:Addr} (d:Df K mg "_law_sign" s__law_sign ["_law_number_here"] f) (n_int:mg "int" = none):Def P w K mg base CX0 1 "_law_sign" f ["_law_number_here"] (spSgn K):=by
 refine d.ok (N:=["_law_number_here"]) sc__law_sign (by rintro vs H Q E ⟨_,_,h,_⟩;rw [h];rfl) (λcdv A outer s H vs Q E hr h=>?_)
 obtain ⟨x,q,rfl,⟨a,rfl,ha⟩,k⟩:=h;refine ⟨_,(pss_one (ps_ret (pe_op op_sub (pe_callTy call_int1 rfl n_int (by decide +kernel) (pa_cons (pe_cmpR op_gt (pe_ix ix_tup (pv 0) pe_int (λ_ _=>rfl)) pe_int (nomark _)) pa_nil)) (pe_callTy call_int1 rfl n_int (by decide +kernel) (pa_cons (pe_cmpR op_lt (pe_ix ix_tup (pv 0) pe_int (λ_ _=>rfl)) pe_int (nomark _)) pa_nil))))),?_⟩
 rw [show start ["_law_number_here"] [.ref a]=[some (.ref a)] from rfl]
 subst_eqs
 refine ⟨_,ha,_,at0 q,_,rfl,_,ha,_,at0 q,_,rfl,?_⟩;rw [<- sg_num] at k;exact k
end
end R

set_option maxRecDepth 100000
namespace R
open PySem L2 PyProof.Rows
theorem ovb_sT {B W:Nat} (hB:0<B) {f:Nat->Rat}:∀ n,(∀ m,m<n->OvB B W (f m))->OvB B (W+n) (sumTo f n)
 | 0,_=>OvB.zero _ _
 | n+1,h=>(OvB.add hB (ovb_sT hB n λm hm=>h m ⋯) ((h n ⋯).mono ⋯)).mono ⋯
def fmL (n:Nat) (d:Vc) (T:Mt):List (List Rat):=(q0z n).map λi=>(q0z n).map λj=>fmd n d T i j
theorem fml_tf (n:Nat) (d:Vc) (T:Mt):TabF n (fmL n d T) (fmd n d T):=by
 refine ⟨by unfold fmL;rw [q0b,z0h],λL hL=>?_,λi j hi hj=>?_⟩
 ·obtain ⟨i,_,rfl⟩:=z0k.mp hL
  rw [q0b,z0h]
 ·unfold qq fmL
  rw [q0e,z0y hi]
  show aQ ((q0z n).map λj=>fmd n d T i j) j=_;unfold aQ;rw [q0e,z0y hj];rfl
theorem fmd_ov {n C B W s:Nat} {d:Vc} {T:Mt} (hC:0<C) (hB:0<B) (hd:∀ k,k<n->OvB C s (d k)) (hT:∀ i j,OvB B W (T i j)) (i j:Nat):OvB (C*(B*B)) (s+(W+W)+n) (fmd n d T i j):=ovb_sT (y0u hC (y0u hB hB)) n λm hm=>(hd m hm).mul ((hT m i).mul (hT m j))
theorem sg_z (q:Rat):sgQ q=sgz q.num:=by
 rw [<- sg_num];unfold sgz
 split <;> split <;> (try omega) <;> rfl
section
variable {P:Program} {w:World} {K:q0a} {mg:Str->Option Value} {base:Heap}
def dueV (d:Vc) (n:Nat):List V:=[.int (posN d n:Nat),.int (negN d n:Nat),.int (n-posN d n-negN d n:Nat)]
def spDForm:Sp:=λvs H Q _ => ∃ (u:Addr) (kd:Int) (n:Nat),vs=[.ref u,.int kd,.int n]/\UrnAt H u/\(kd=0 \/ kd=1)/\1<=n/\n<=7/\∀ r l pd us F d T B H',LkAt u H l us F H'->H' r=some (.tup [.ref l,.ref pd])->H' pd=some (.tup (dueV d n))->posN d n+negN d n<=n->F.length=n->TabO B 327 F->TabF n F (fmd n d T)->Inv n T->Q (.ref r) H'
abbrev s__law_drawn_form:Stmt:=top 51
theorem sc__law_drawn_form:FnScope ["_law_urn_here","_law_kind","_law_n","_law_numbers","_law_rows","_law_found","_law_i","_law_counted","_law_line","_law_j","_law_total","_law_k"] ["_law_urn_here","_law_kind","_law_n"] (defScope s__law_drawn_form):=⟨rfl,rfl,rfl,by decide +kernel,rfl,by decide +kernel,by decide +kernel⟩
theorem ok__law_drawn_form {f f1 f2 f3 f4 f5 f6:Addr} (d:Df K mg "_law_drawn_form" s__law_drawn_form ["_law_urn_here","_law_kind","_law_n"] f) (G__law_draw:Def P w K mg base CX0 1 "_law_draw" f1 ["_law_urn_here","_law_many"] spDraw) (GD__law_other:Def P w K mg base CX0 3 "_law_other" f2 ["_law_urn_here","_law_kind"] spOtherC) (G__law_plus:Def P w K mg base CX0 2 "_law_plus" f3 ["_law_one","_law_other_here"] (spLBin K (· + ·))) (G__law_times:Def P w K mg base CX0 2 "_law_times" f4 ["_law_one","_law_other_here"] (spLBin K (· * ·))) (G__law_turn:Def P w K mg base CX0 4 "_law_turn" f5 ["_law_urn_here","_law_kind","_law_n","_law_most"] spLTurn) (G__law_sign:Def P w K mg base CX0 1 "_law_sign" f6 ["_law_number_here"] (spSgn K)) (n_range:mg "range" = none) (n_int:mg "int" = none):Def P w K mg base CX0 5 "_law_drawn_form" f ["_law_urn_here","_law_kind","_law_n"] spDForm:=by
  refine d.ok (N:=["_law_urn_here","_law_kind","_law_n","_law_numbers","_law_rows","_law_found","_law_i","_law_counted","_law_line","_law_j","_law_total","_law_k"]) sc__law_drawn_form (by rintro vs H Q E ⟨_,_,_,h,_⟩;rw [h];rfl) (λcdv A outer s H vs Q E hr h=>?_)
  obtain ⟨u,kd,n,rfl,hU,hkd,n1,n7,k⟩:=h;have G__law_other:=GD__law_other;obtain ⟨C,sb,C0,Ct,C10,Cs,s10,t11,up⟩:=kd_num hkd
  refine ⟨_, (pss_cons (ps_setComp (i₀ := 3) sc__law_drawn_form.nd rfl (Or.inl rfl) (Nc := ["_law_urn_here", "_law_kind", "_law_i"]) (caps := [some 0, some 1, none]) rfl (Caps.of (osc := defScope s__law_drawn_form) (N := ["_law_urn_here", "_law_kind", "_law_n", "_law_numbers", "_law_rows", "_law_found", "_law_i", "_law_counted", "_law_line", "_law_j", "_law_total", "_law_k"]) (ks := ["_law_urn_here", "_law_kind"]) rfl rfl rfl rfl (sub_cons rfl (sub_cons rfl sub_nil)) (by decide +kernel)) (pi_range1 rfl n_range (pa_cons (pv 2) pa_nil)) (fun C s₂ H₂ fp pins => (pg_name (i := 2) (show List.Nodup (["_law_urn_here", "_law_kind", "_law_i"] : List Str) by decide +kernel) rfl (Or.inl rfl) (Or.inr rfl))) (fun C s₂ H₂ fp pins => (pe_ix (by exact ix_list : IxR _ (rIxL K)) (pe_lst (pa_cons (pe_tup (pa_cons pe_int (pa_cons pe_int pa_nil))) (pa_cons (pe_def G__law_other hr (pa_cons (pv 0) (pa_cons (pv 1) pa_nil)) pass0) pa_nil))) (pe_callTy call_int1 rfl n_int (by decide +kernel) (pa_cons (pe_cmpR op_gt (pe_def G__law_draw hr (pa_cons (pv 0) (pa_cons pe_int pa_nil)) pass0) pe_int (nomark _)) pa_nil)) (fun _ _ => rfl))))
      (pss_cons (ps_set (i:=4) sc__law_drawn_form.nd rfl (Or.inl rfl) (pe_def G__law_turn hr (pa_cons (pv 0) (pa_cons (pv 1) (pa_cons (pv 2) (pa_cons (pe_op op_mulB pe_int (pv 2)) pa_nil)))) pass0))
      (pss_cons (ps_set (i:=5) sc__law_drawn_form.nd rfl (Or.inl rfl) (pe_lst pa_nil))
      (pss_cons (ps_for PassesOwn.never rfl (pi_range1 rfl n_range (pa_cons (pv 2) pa_nil)) (pg_name (i:=6) sc__law_drawn_form.nd rfl (Or.inl rfl)) (pss_cons (ps_set (i:=8) sc__law_drawn_form.nd rfl (Or.inl rfl) (pe_lst pa_nil))
      (pss_cons (ps_for PassesOwn.never rfl (pi_range1 rfl n_range (pa_cons (pv 2) pa_nil)) (pg_name (i:=9) sc__law_drawn_form.nd rfl (Or.inl rfl)) (pss_cons (ps_set (i:=10) sc__law_drawn_form.nd rfl (Or.inl rfl) (pe_tup (pa_cons pe_int (pa_cons pe_int pa_nil))))
      (pss_cons (ps_for PassesOwn.never rfl (pi_range1 rfl n_range (pa_cons (pv 2) pa_nil)) (pg_name (i:=11) sc__law_drawn_form.nd rfl (Or.inl rfl)) (pss_one (ps_set (i:=10) sc__law_drawn_form.nd rfl (Or.inl rfl) (pe_def G__law_plus hr (pa_cons (pv 10) (pa_cons (pe_def G__law_times hr (pa_cons (pe_ix ix_list (pv 3) (pv 11) (λ_ _=>rfl)) (pa_cons (pe_def G__law_times hr (pa_cons (pe_ix ix_list (pe_ix ix_list (pv 4) (pv 11) (λ_ _=>rfl)) (pv 6) (λ_ _=>rfl)) (pa_cons (pe_ix ix_list (pe_ix ix_list (pv 4) (pv 11) (λ_ _=>rfl)) (pv 9) (λ_ _=>rfl)) pa_nil)) pass0) pa_nil)) pass0) pa_nil)) pass0))))
      (pss_one (ps_expr (pe_bm PySem.F.plainAttrs_list PySem.F.slot_list_append PySem.F.type_list_append mt_append (pv 8) (pa_cons (pv 10) pa_nil)))))))
      (pss_one (ps_expr (pe_bm PySem.F.plainAttrs_list PySem.F.slot_list_append PySem.F.type_list_append mt_append (pv 5) (pa_cons (pv 8) pa_nil)))))))
      (pss_cons (ps_setComp (i₀:=7) sc__law_drawn_form.nd rfl (Or.inl rfl) (Nc:=["_law_one"]) (caps:=[none]) rfl (Caps.of (osc:=defScope s__law_drawn_form) (N:=["_law_urn_here","_law_kind","_law_n","_law_numbers","_law_rows","_law_found","_law_i","_law_counted","_law_line","_law_j","_law_total","_law_k"]) (ks:=[]) rfl rfl rfl rfl sub_nil (by decide +kernel)) (pi_list (pv 3)) (λC s₂ H₂ fp pins=>(pg_name (i:=0) (show List.Nodup (["_law_one"]:List Str) by decide +kernel) rfl (Or.inl rfl) (Or.inr rfl))) (λC s₂ H₂ fp pins=>(pe_def G__law_sign hr (pa_cons (pv 0) pa_nil) pass0)))
      (pss_one (ps_ret (pe_tup (pa_cons (pv 5) (pa_cons (pe_tup (pa_cons (pe_bm PySem.F.plainAttrs_list PySem.F.slot_list_count PySem.F.type_list_count mt_count (pv 7) (pa_cons pe_int pa_nil)) (pa_cons (pe_bm PySem.F.plainAttrs_list PySem.F.slot_list_count PySem.F.type_list_count mt_count (pv 7) (pa_cons (pe_un un_neg pe_int) pa_nil)) (pa_cons (pe_bm PySem.F.plainAttrs_list PySem.F.slot_list_count PySem.F.type_list_count mt_count (pv 7) (pa_cons pe_int pa_nil)) pa_nil)))) pa_nil)))))))))),?_⟩
  rw [show start ["_law_urn_here","_law_kind","_law_n","_law_numbers","_law_rows","_law_found","_law_i","_law_counted","_law_line","_law_j","_law_total","_law_k"] [.ref u,.int kd,.int n]=[some (.ref u),some (.int kd),some (.int n),none,none,none,none,none,none,none,none,none] from rfl]
  refine seq_cut (λσ H1 => ∃ c xs qs,σ=[some (.ref u),some (.int kd),some (.int (n:Int)),some (.ref c),none,none,none,none,none,none,none,none]/\SameX u H H1/\UrnAt H1 u/\LsX u H1 c xs qs/\qs.length=n/\∀ q ∈ qs,OvB C sb q/\BdN 10 q) (λN hN=>?_) ?_
  · clean_wf
    refine ⟨⋯,⋯,λD fD=>?_⟩;have Du:D ≠ u:=urn_ne hU fD;obtain ⟨Pv,hPv⟩:∃ Pv:Nat->L2.St->Hp->Prop,∀ j σ H6,Pv j σ H6 ↔ ∃ (o:Option V) (xs:List V) (qs:List Rat),σ=[some (.ref u),some (.int kd),o]/\SameX u H H6/\UrnAt H6 u/\H6 D=some (.lst xs)/\Nums H6 xs qs/\qs.length=j/\∀ q ∈ qs,OvB C sb q/\BdN 10 q:=⟨_,λ_ _ _=>Iff.rfl⟩;refine cw_range Pv ((hPv _ _ _).mpr ⟨_,[],[],rfl,Same.x (Same.new fD _) u,urn_new hU fD,upd_same,.nil,rfl,by simp⟩) ?_ ?_
    · rintro j σ H6 hj h
      obtain ⟨o,xs,qs,rfl,s6,u6,e6,n6,l6,b6⟩:=(hPv _ _ _).mp h
      clean_wf
      refine ⟨by decide,λp fp=>?_⟩
      obtain ⟨H7,y7,X7,g7⟩:=new_anyL (.tup [V.int 0,V.int 1]) fp;rw [<- y7];refine ⟨u,kd,rfl,Same.urn X7 u6,λr q H8 nk q0 s8 u8 e8=>⟨by decide,λp1 fp1=>⟨urn_new u8 fp1,by decide,by decide,λrr H9 r0 r4 s9 u9=>?_⟩⟩⟩
      have pu:p ≠ u:=urn_ne u6 fp;have S8:=s8.trans (Same.x (Same.new fp1 (.lst [V.ref p,V.ref r])) u);have S9:=(Same.x X7 u).trans (S8.trans s9);have e9:=S9 _ _ e6 Du;have g9:=(S8.trans s9).tups (Same.urn X7 u6) _ _ g7;have h9:=s9.tups (urn_new u8 fp1) _ _ ((Same.new fp1 (.lst [V.ref p,V.ref r])).tups _ _ e8);have L9:=s9 p1 _ upd_same (urn_ne u8 fp1)
      have fin:∀ (pz:Addr) (z:Rat),H9 pz=some (.tup (numV z))->OvB C sb z/\BdN 10 z->CompN D (n:Int).toNat Pv j [some (.ref u),some (.int kd),some (.int (0+(j:Int)))] (.ref pz) H9:=λpz z ez bz=>by
        refine CompN.mk hj e9 (len_ok (by rw [n6.length,l6];omega)) ((hPv _ _ _).mpr ⟨_,_,qs ++ [z],rfl,(s6.trans S9).over fD _,u9.other Du,upd_same,((n6.mono (S9.tups u6)).append (.cons ez .nil)).mono (TupS.lst e9),by simp [l6],λx hx=>?_⟩)
        rcases List.mem_append.mp hx with y | y
        · exact b6 x y
        · rw [List.mem_singleton.mp y];exact bz
      refine ⟨_,SqL.of L9,?_⟩
      by_cases z:0<rr
      · rw [if_pos z]
        exact ⟨_,rfl,fin r q h9 (up q nk)⟩
      · rw [if_neg z]
        exact ⟨_,rfl,fin p 0 g9 ⟨OvB.zero _ _,⟨by decide,by decide⟩⟩⟩
    · intro σ H6 h
      obtain ⟨o,xs,qs,rfl,s6,u6,e6,n6,l6,b6⟩:=(hPv _ _ _).mp h;exact hN _ _ ⟨D,xs,qs,rfl,s6,u6,⟨Du,e6,n6⟩,⋯,b6⟩
  rintro σ H1 ⟨c,xs,qs,rfl,s1,u1,L1,lq,bq⟩;refine seq_cut (λσ H2 => ∃ l us T B,σ=[some (.ref u),some (.int kd),some (.int (n:Int)),some (.ref c),some (.ref l),none,none,none,none,none,none,none]/\LkAt u H1 l us T H2/\T.length=n/\TabO B 155 T/\Inv n (qq T)) (λN hN=>?_) ?_
  · subst_eqs
    refine ⟨mulS ⋯,u,kd,n,2*n,rfl,u1,hkd,n1,n7,⋯,λl us N B H2 d2 lN oN iN=>hN _ _ ⟨l,us,N,B,rfl,d2,lN,oN.mono ?_,iN⟩⟩;have:=Nat.mul_le_mul t11 (show 2*n<=14 by omega)
    omega
  rintro σ H2 ⟨l,us,T,B,rfl,d2,lT,oT,iT⟩;have L2':=L1.samex d2.same u1;have S2:=s1.trans d2.same;have u2:=d2.urn;have cD:∀ k,k<n->OvB C sb (aQ qs k):=λk hk=>(bq _ (aq_mem ⋯)).1
  have CB:C*(B*B)<2 ^ 327:=by
    have h1:=Nat.mul_lt_mul'' C10 (Nat.mul_lt_mul'' oT.BW oT.BW);rw [<- Nat.pow_add,<- Nat.pow_add] at h1;exact Nat.lt_of_lt_of_le h1 (pow_le_pow2 (by decide))
  refine seq_cut (λσ H3 => ∃ D,σ=[some (.ref u),some (.int kd),some (.int (n:Int)),some (.ref c),some (.ref l),some (.ref D),none,none,none,none,none,none]/\H2 D=none/\H3=upd H2 D (.lst [])) (λN hN=>?_) ?_
  · subst_eqs
    exact ⟨by decide,λD hD=>hN _ _ ⟨D,rfl,hD,rfl⟩⟩
  rintro σ H3 ⟨D,rfl,hD,rfl⟩;refine seq_cut (λσ H4 => ∃ o6 o8 o9 o10 o11,σ=[some (.ref u),some (.int kd),some (.int (n:Int)),some (.ref c),some (.ref l),some (.ref D),o6,none,o8,o9,o10,o11]/\TabAt H2 D (fmL n (aQ qs) (qq T)) H4) (λN hN=>?_) ?_
  · obtain ⟨I,hI⟩:∃ I:Nat->L2.St->Hp->Prop,∀ i σ H4,I i σ H4 ↔ ∃ o6 o8 o9 o10 o11,σ=[some (.ref u),some (.int kd),some (.int (n:Int)),some (.ref c),some (.ref l),some (.ref D),o6,none,o8,o9,o10,o11]/\TabAt H2 D ((fmL n (aQ qs) (qq T)).take i) H4:=⟨_,λ_ _ _=>Iff.rfl⟩
    have lF:=(fml_tf n (aQ qs) (qq T)).len;refine ⟨_,rfl,_,rfl,⋯,⋯,for_range I ((hI _ _ _).mpr ⟨_,_,_,_,_,rfl,TabAt.start hD⟩) ?_ ?_⟩
    · rintro i σ H5 hi h
      obtain ⟨o6,o8,o9,o10,o11,rfl,TF⟩:=(hI _ _ _).mp h;have hi:i<n:=⋯;refine seq_cut (λσ H6 => ∃ D2,σ=[some (.ref u),some (.int kd),some (.int (n:Int)),some (.ref c),some (.ref l),some (.ref D),some (.int (0+(i:Int))),none,some (.ref D2),o9,o10,o11]/\H5 D2=none/\H6=upd H5 D2 (.lst [])) (λN hN=>?_) ?_
      · subst_eqs
        exact ⟨by decide,λD hD=>hN _ _ ⟨D,rfl,hD,rfl⟩⟩
      rintro σ H6 ⟨D2,rfl,hD2,rfl⟩;obtain ⟨NR,hNR⟩:∃ NR,NR=(List.range n).map λj=>fmd n (aQ qs) (qq T) i j:=⟨_,rfl⟩;have nl:NR.length=n:=by rw [hNR,List.length_map,List.length_range]
      have nv:∀ y,y<n->NR[y]? = some (fmd n (aQ qs) (qq T) i y):=λy hy=>by rw [hNR,List.getElem?_map,List.getElem?_range hy];rfl
      have gF:(fmL n (aQ qs) (qq T))[i]? = some NR:=by unfold fmL;rw [List.getElem?_map,List.getElem?_range hi,hNR];rfl
      refine seq_cut (λσ H7 => ∃ o9 o10 o11,σ=[some (.ref u),some (.int kd),some (.int (n:Int)),some (.ref c),some (.ref l),some (.ref D),some (.int (0+(i:Int))),none,some (.ref D2),o9,o10,o11]/\RowAt H5 D2 NR H7) (λN hN=>?_) ?_
      · obtain ⟨J,hJ⟩:∃ J:Nat->L2.St->Hp->Prop,∀ j σ H7,J j σ H7 ↔ ∃ o9 o10 o11,σ=[some (.ref u),some (.int kd),some (.int (n:Int)),some (.ref c),some (.ref l),some (.ref D),some (.int (0+(i:Int))),none,some (.ref D2),o9,o10,o11]/\RowAt H5 D2 (NR.take j) H7:=⟨_,λ_ _ _=>Iff.rfl⟩
        refine ⟨_,rfl,_,rfl,⋯,⋯,for_range J ((hJ _ _ _).mpr ⟨_,_,_,rfl,RowAt.start hD2⟩) ?_ ?_⟩
        · rintro j σ H7 hj h
          obtain ⟨o9,o10,o11,rfl,TR⟩:=(hJ _ _ _).mp h;have hj:j<n:=⋯;refine seq_cut (λσ H8 => ∃ pt,σ=[some (.ref u),some (.int kd),some (.int (n:Int)),some (.ref c),some (.ref l),some (.ref D),some (.int (0+(i:Int))),none,some (.ref D2),some (.int (0+(j:Int))),some (.ref pt),o11]/\Same H7 H8/\H8 pt=some (.tup (numV 0))) (λN hN=>?_) ?_
          · subst_eqs
            exact ⟨by decide,λp hp=>hN _ _ ⟨p,rfl,Same.new hp _,upd_same⟩⟩
          rintro σ H8 ⟨pt,rfl,s8,e8⟩;refine seq_cut (λσ H9 => ∃ pt o11,σ=[some (.ref u),some (.int kd),some (.int (n:Int)),some (.ref c),some (.ref l),some (.ref D),some (.int (0+(i:Int))),none,some (.ref D2),some (.int (0+(j:Int))),some (.ref pt),o11]/\Same H7 H9/\H9 pt=some (.tup (numV (fmd n (aQ qs) (qq T) i j)))) (λN hN=>?_) ?_
          · obtain ⟨Z,hZ⟩:∃ Z:Nat->L2.St->Hp->Prop,∀ k σ H9,Z k σ H9 ↔ ∃ pt o11,σ=[some (.ref u),some (.int kd),some (.int (n:Int)),some (.ref c),some (.ref l),some (.ref D),some (.int (0+(i:Int))),none,some (.ref D2),some (.int (0+(j:Int))),some (.ref pt),o11]/\Same H7 H9/\H9 pt=some (.tup (numV (sumTo (λk=>aQ qs k*(qq T k i*qq T k j)) k))):=⟨_,λ_ _ _=>Iff.rfl⟩
            refine ⟨_,rfl,_,rfl,⋯,⋯,for_range Z ((hZ _ _ _).mpr ⟨_,_,rfl,s8,e8⟩) ?_ ?_⟩
            · rintro m σ H9 hm h
              obtain ⟨pt,o11,rfl,s9,e9⟩:=(hZ _ _ _).mp h;have hm:m<n:=⋯
              subst_eqs
              have S:=(TF.same.trans TR.same).trans s9;obtain ⟨pM,xM,LM,_,gM,mM,eM,nM⟩:=d2.row (i:=m) ⋯;have rowM:=oT.bd _ (List.mem_of_getElem? mM);have lM:LM.length=n:=by rw [rowM.1,lT]
              obtain ⟨pd,gd,hd⟩:=L2'.nums.get (aq_at (L:=qs) (k:=m) ⋯);obtain ⟨pi,gi,hpi⟩:=nM.get (aq_at (L:=LM) (k:=i) ⋯);obtain ⟨pj,gj,hpj⟩:=nM.get (aq_at (L:=LM) (k:=j) ⋯);have qM:∀ y,qq T m y=aQ LM y:=λy=>by unfold qq;rw [mM];rfl
              have bd:=(bq _ (aq_mem (L:=qs) (k:=m) ⋯)).2;have bi:=rowM.2 _ (aq_mem (L:=LM) (k:=i) ⋯);have bj:=rowM.2 _ (aq_mem (L:=LM) (k:=j) ⋯);have bm:=(bi.mul bj);refine ⟨_,SqL.of (S _ _ L2'.at'),_,by rw [Int.zero_add];exact atI_nat gd,_,SqL.of (S _ _ d2.at'),_,by rw [Int.zero_add];exact atI_nat gM,pM,rfl,_,SqL.of (S _ _ eM),_,by rw [Int.zero_add];exact atI_nat gi,_,SqL.of (S _ _ d2.at'),_,by rw [Int.zero_add];exact atI_nat gM,pM,rfl,_,SqL.of (S _ _ eM),_,by rw [Int.zero_add];exact atI_nat gj,?_⟩
              refine ⟨_,_,_,_,_,_,rfl,⟨_,rfl,SqT.of (S _ _ hpi)⟩,⟨_,rfl,SqT.of (S _ _ hpj)⟩,bi.t (by decide),bj.t (by decide),by decide,λr1 H10 s10 e10=>?_⟩
              refine ⟨_,_,_,_,_,_,rfl,⟨_,rfl,SqT.of (s10 _ _ (S _ _ hd))⟩,⟨_,rfl,SqT.of e10⟩,bd.t (by decide),bm.t (by decide),by decide,λr2 H11 s11 e11=>?_⟩
              have oS:=ovb_sT (Nat.mul_pos C0 (Nat.mul_pos oT.B0 oT.B0)) (f:=λk=>aQ qs k*(qq T k i*qq T k j)) m λk hk=>(cD k ⋯).mul ((oT.at k i).mul (oT.at k j));have bS:BdN 327 (sumTo (λk=>aQ qs k*(qq T k i*qq T k j)) m):=OvB.bdN (Nat.mul_pos C0 (Nat.mul_pos oT.B0 oT.B0)) CB (oS.mono ⋯);refine ⟨_,_,_,_,_,_,rfl,⟨_,rfl,SqT.of (s11 _ _ (s10 _ _ e9))⟩,⟨_,rfl,SqT.of e11⟩,bS.t (by decide),(bd.mul bm).t (by decide),by decide,λr3 H12 s12 e12=>(hZ _ _ _).mpr ⟨r3,_,rfl,s9.trans (s10.trans (s11.trans s12)),?_⟩⟩
              rw [e12,qM i |>.symm,qM j |>.symm];rfl
            · intro σ H9 h
              obtain ⟨pt,o11,rfl,s9,e9⟩:=(hZ _ _ _).mp h;exact hN _ _ ⟨pt,o11,rfl,s9,e9⟩
          rintro σ H9 ⟨pt,o11,rfl,s9,e9⟩
          subst_eqs
          obtain ⟨ys,eD,yl,R'⟩:=TR.add hD2 s9 e9;refine ⟨.inl ⟨_,SqL.of eD⟩,ys,eD,len_ok (by rw [yl,List.length_take];omega),(hJ _ _ _).mpr ⟨_,_,_,rfl,?_⟩⟩
          rw [take_snoc_get (nv j hj)];exact R'
        · intro σ H7 h
          obtain ⟨o9,o10,o11,rfl,TR⟩:=(hJ _ _ _).mp h;rw [take_all ⋯] at TR;exact hN _ _ ⟨_,_,_,rfl,TR⟩
      rintro σ H7 ⟨o9,o10,o11,rfl,TR⟩
      subst_eqs
      obtain ⟨ys,eD,yl,T'⟩:=TF.add hD hD2 TR;refine ⟨.inl ⟨_,SqL.of eD⟩,ys,eD,len_ok (by rw [yl,List.length_take];omega),(hI _ _ _).mpr ⟨_,_,_,_,_,rfl,?_⟩⟩
      rw [take_snoc_get gF];exact T'
    · intro σ H5 h
      obtain ⟨o6,o8,o9,o10,o11,rfl,TF⟩:=(hI _ _ _).mp h;rw [take_all ⋯] at TF;exact hN _ _ ⟨_,_,_,_,_,rfl,TF⟩
  rintro σ H4 ⟨o6,o8,o9,o10,o11,rfl,TF⟩;have L4:=L2'.same TF.same;refine seq_cut (λσ H5 => ∃ g,σ=[some (.ref u),some (.int kd),some (.int (n:Int)),some (.ref c),some (.ref l),some (.ref D),o6,some (.ref g),o8,o9,o10,o11]/\Same H4 H5/\H5 g=some (.lst (qs.map λq=>V.int (sgz q.num)))) (λN hN=>?_) ?_
  · subst_eqs
    refine ⟨⟨_,SqL.of L4.at'⟩,λD2 hD2=>?_⟩;have lz:=L4.nums.length;refine cw_list xs (λi σ H5 => ∃ o,σ=[o]/\Same H4 H5/\H5 D2=some (.lst ((qs.take i).map λq=>V.int (sgz q.num)))) ⟨_,rfl,Same.new hD2 _,upd_same⟩ (λi σ H5 _ ⟨_,_,s5,_⟩=>SqL.of (s5 _ _ L4.at')) ?_ ?_
    · rintro i x σ H5 hx ⟨o,rfl,s5,e5⟩
      obtain ⟨p,q,rfl,hq,hp⟩:=(L4.nums.mono s5.tups).getV hx;have hi:=(List.getElem?_eq_some_iff.mp hx).1
      subst_eqs
      refine ⟨.ref p,q,rfl,⟨p,rfl,SqT.of hp⟩,?_⟩;refine CompN.mk hi e5 (len_ok (by rw [List.length_map,List.length_take];omega)) ⟨_,rfl,s5.over hD2 _,?_⟩
      rw [upd_same,take_snoc_get hq,List.map_append,sg_z];rfl
    · rintro σ H5 ⟨o,rfl,s5,e5⟩
      rw [lz,List.take_length] at e5;exact hN _ _ ⟨D2,rfl,s5,e5⟩
  rintro σ H5 ⟨g,rfl,s5,e5⟩
  subst_eqs
  obtain ⟨c1,c2,c3⟩:=sgs_count qs
  have fl:(qs.map λq=>V.int (sgz q.num)).all flatV=true:=by
    rw [List.all_map,List.all_eq_true];intro q _;rfl
  refine ⟨.inl ⟨_,SqL.of e5⟩,_,e5,rfl,fl,.inl ⟨_,SqL.of e5⟩,_,e5,rfl,fl,.inl ⟨_,SqL.of e5⟩,_,e5,rfl,fl,?_⟩;have lt:=fml_tf n (aQ qs) (qq T)
  have oF:TabO (C*(B*B)) 327 (fmL n (aQ qs) (qq T)):=by
    refine ⟨by rw [lt.len];exact n7,Nat.mul_pos C0 (Nat.mul_pos oT.B0 oT.B0),?_,λL hL=>?_⟩
    · exact CB
    · obtain ⟨i,_,rfl⟩:=List.mem_map.mp hL
      refine ⟨by rw [List.length_map,List.length_range,lt.len],λq hq=>?_⟩
      obtain ⟨j,_,rfl⟩:=List.mem_map.mp hq;exact (fmd_ov C0 oT.B0 cD oT.at i j).mono ⋯
  refine ⟨by decide,λp fp=>⟨by decide,λp1 fp1=>?_⟩⟩
  have X1:=Same.new fp (.tup [V.int ↑(List.countP (λz=>eqV z (V.int 1)) (List.map (λq=>V.int (sgz q.num)) qs)),V.int ↑(List.countP (λz=>eqV z (V.int (-1))) (List.map (λq=>V.int (sgz q.num)) qs)),V.int ↑(List.countP (λz=>eqV z (V.int 0)) (List.map (λq=>V.int (sgz q.num)) qs))]);have X2:=Same.new fp1 (.tup [V.ref D,V.ref p]);obtain ⟨sF,ts,eT,fr,nd,RT⟩:=TF
  have fH:∀ p,H2 p=none->H p=none:=λp hp=>by
    cases e:H p with
    | none=>rfl
    | some o =>
      have:=S2 p o e (urn_ne u2 hp);rw [hp] at this;cases this
  have dF:LkAt u H D ts (fmL n (aQ qs) (qq T)) H4:=⟨S2.trans (Same.x sF u),Same.urn sF u2,fH D hD,urn_ne u2 hD,eT,λz=>(fr D z).2 rfl,λt ht=>urn_ne u2 (fr t ht).1,λt ht=>fH t (fr t ht).1,RT⟩
  have ez:(qs.map λq=>V.int (sgz q.num)).countP (λz=>eqV z (.int 0))=n-posN (λi=>(qs[i]?).getD 0) n-negN (λi=>(qs[i]?).getD 0) n:=by
    rw [lq] at c3;omega
  rw [lq] at c1 c2 c3;refine k p1 D p ts _ (aQ qs) (qq T) (C*(B*B)) _ (((dF.s s5).s X1).s X2) upd_same ?_ (by have:(aQ qs)=λi=>(qs[i]?).getD 0:=rfl;rw [this];omega) lt.len oF lt iT
  rw [upd_ne (ne_of_none upd_same fp1),upd_same,c1,c2,ez];rfl
end
end R

set_option maxRecDepth 100000
namespace R
open PySem L2 PyProof.Rows
section
variable {P:Program} {w:World} {K:q0a} {mg:Str->Option Value} {base:Heap}
def spLDot (K:q0a):Sp:=λvs H Q _ => ∃ (a b:Addr) (xs ys:List V) (p q:List Rat) (m n W:Nat),vs=[.ref a,.ref b]/\SqL K H a xs/\SqL K H b ys/\Nums H xs p/\Nums H ys q/\(∀ x ∈ p,BdN m x)/\(∀ x ∈ q,BdN n x)/\(∀ i,BdN W (dotQ (p.take i) (q.take i)))/\m+n+W<=6000/\p.length=q.length/\NumRes H Q (dotQ p q)
abbrev s__law_dot:Stmt:=top 45
theorem sc__law_dot:FnScope ["_law_row","_law_column_here","_law_found","_law_one","_law_other_here"] ["_law_row","_law_column_here"] (defScope s__law_dot):=⟨rfl,rfl,rfl,by decide +kernel,rfl,by decide +kernel,by decide +kernel⟩
theorem ok__law_dot {f f1 f2:Addr} (d:Df K mg "_law_dot" s__law_dot ["_law_row","_law_column_here"] f) (G__law_plus:Def P w K mg base CX0 2 "_law_plus" f1 ["_law_one","_law_other_here"] (spLBin K (· + ·))) (G__law_times:Def P w K mg base CX0 2 "_law_times" f2 ["_law_one","_law_other_here"] (spLBin K (· * ·))) (n_zip:mg "zip" = none):Def P w K mg base CX0 3 "_law_dot" f ["_law_row","_law_column_here"] (spLDot K):=by
 refine d.ok (N:=["_law_row","_law_column_here","_law_found","_law_one","_law_other_here"]) sc__law_dot (by rintro vs H Q E ⟨_,_,_,_,_,_,_,_,_,h,_⟩;rw [h];rfl) (λcdv A outer s H vs Q E hr h=>?_)
 obtain ⟨a,b,xs,ys,p,q,m,n,W,rfl,hS,hS',hN,hN',hp,hq,hB,hm,hlq,k⟩:=h
 refine ⟨_,(pss_cons (ps_set (i:=2) sc__law_dot.nd rfl (q0w rfl) (pe_tup (pa_cons pe_int (pa_cons pe_int pa_nil))))
   (pss_cons (ps_for PassesOwn.never rfl (pi_zip rfl n_zip (pa_cons (pv 0) (pa_cons (pv 1) pa_nil))) (show PG _ _ (gTup K 2 (gCons (gName 3) (gCons (gName 4) gNil))) from by (refine pg_tup (n:=2) ?_ ?_ ?_ ?_;rfl;(refine pgs_cons ?_ ?_ ?_;(exact (pg_name (i:=3) sc__law_dot.nd rfl (q0w rfl)));(refine pgs_cons ?_ ?_ ?_;(exact (pg_name (i:=4) sc__law_dot.nd rfl (q0w rfl)));(exact pgs_nil);rfl);rfl);rfl;rfl)) (pss_one (ps_set (i:=2) sc__law_dot.nd rfl (q0w rfl) (pe_def G__law_plus hr (pa_cons (pv 2) (pa_cons (pe_def G__law_times hr (pa_cons (pv 3) (pa_cons (pv 4) pa_nil)) pass0) pa_nil)) pass0))))
   (pss_one (ps_ret (pv 2))))),?_⟩
 rw [show start ["_law_row","_law_column_here","_law_found","_law_one","_law_other_here"] [.ref a,.ref b]=[some (.ref a),some (.ref b),none,none,none] from rfl]
 subst_eqs
 have lx:=hN.length;have ly:=hN'.length;refine ⟨small2,λz hz=>?_⟩;have Sz:=Same.new hz (.tup [.int 0,.int 1]);refine ⟨_,rfl,_,rfl,a,b,rfl,⟨_,Sz.seq hS⟩,⟨_,Sz.seq hS'⟩,for_zip xs ys (λi σ H2 => ∃ pf o1 o2,σ=[some (.ref a),some (.ref b),some (.ref pf),o1,o2]/\Same H H2/\H2 pf=some (.tup (numV (dotQ (p.take i) (q.take i))))) ⟨z,_,_,rfl,Sz,upd_same⟩ (by rintro i σ H2 ⟨_,_,_,_,s2,_⟩;exact ⟨s2.seq hS,s2.seq hS'⟩) ?_ ?_⟩
 ·rintro i x y σ H2 pt hx hy ⟨pf,o1,o2,rfl,s2,ef⟩ hpt
  obtain ⟨px,q1,rfl,hq1,hpx⟩:=hN.getV hx;obtain ⟨py,q2,rfl,hq2,hpy⟩:=hN'.getV hy;have st:=Same.new hpt (.tup [.ref px,.ref py]);have S2:=s2.trans st;have b1:=hp q1 (q0g hq1);have b2:=hq q2 (q0g hq2);have bi:=hB i;have hd:=dotQ_snoc i hq1 hq2
  subst_eqs
  refine ⟨_,SqT.of upd_same,rfl,_,_,rfl,_,_,rfl,rfl,?_⟩;refine ⟨_,_,q1,q2,m,n,rfl,⟨px,rfl,SqT.of (S2 _ _ hpx)⟩,⟨py,rfl,SqT.of (S2 _ _ hpy)⟩,b1.t ⋯,b2.t ⋯,⋯,λp5 H5 s5 e5=>?_⟩;refine ⟨_,_,_,_,W,m+n,rfl,⟨pf,rfl,SqT.of (s5 _ _ (st _ _ ef))⟩,⟨p5,rfl,SqT.of e5⟩,bi.t ⋯,(b1.mul b2).t ⋯,?_,λp6 H6 s6 e6=>?_⟩
  ·omega
  ·exact ⟨p6,rfl,S2.trans (s5.trans s6),by rw [hd];exact e6⟩
 ·rintro σ H2 ⟨pf,o1,o2,rfl,s2,ef⟩
  have ml:min xs.length ys.length=p.length:=⋯;rw [ml,y0t,hlq,y0t] at ef;exact ⟨_,rfl,k pf H2 s2 ef⟩
def spLCol (K:q0a):Sp:=λvs H Q _ => ∃ (a b:Addr) (ts:List Addr) (M:List (List Rat)) (ys:List V) (q:List Rat) (m n W:Nat),vs=[.ref a,.ref b]/\H a=some (.lst (ts.map V.ref))/\Rws H ts M/\SqL K H b ys/\Nums H ys q/\(∀ L ∈ M,L.length=q.length/\(∀ x ∈ L,BdN m x)/\∀ i,BdN W (dotQ (L.take i) (q.take i)))/\(∀ x ∈ q,BdN n x)/\m+n+W<=6000/\M.length<=8/\∀ r zs H',Same H H'->H r=none->H' r=some (.lst zs)->Nums H' zs (M.map λL=>dotQ L q)->Q (.ref r) H'
abbrev s__law_column:Stmt:=top 46
theorem sc__law_column:FnScope ["_law_table","_law_column_here"] ["_law_table","_law_column_here"] (defScope s__law_column):=⟨rfl,rfl,rfl,by decide +kernel,rfl,by decide +kernel,by decide +kernel⟩
theorem ok__law_column {f f1:Addr} (d:Df K mg "_law_column" s__law_column ["_law_table","_law_column_here"] f) (G__law_dot:Def P w K mg base CX0 3 "_law_dot" f1 ["_law_row","_law_column_here"] (spLDot K)):Def P w K mg base CX0 4 "_law_column" f ["_law_table","_law_column_here"] (spLCol K):=by
 refine d.ok (N:=["_law_table","_law_column_here"]) sc__law_column (by rintro vs H Q E ⟨_,_,_,_,_,_,_,_,_,h,_⟩;rw [h];rfl) (λcdv A outer s H vs Q E hr h=>?_)
 obtain ⟨a,b,ts,M,ys,q,m,n,W,rfl,ha,hR,hS,hN,hM,hq,hmn,hMl,k⟩:=h;refine ⟨_,(pss_one (ps_ret (pe_comp (Nc:=["_law_column_here","_law_row"]) (caps:=[some 1,none]) rfl (Caps.of (osc:=defScope s__law_column) (N:=["_law_table","_law_column_here"]) (ks:=["_law_column_here"]) rfl rfl rfl rfl (sub_cons rfl sub_nil) (by decide +kernel)) (pi_list (pv 0)) (λC s₂ H₂ fp pins=>(pg_name (i:=1) (show z0f (["_law_column_here","_law_row"]:List Str) by decide +kernel) rfl (q0w rfl) (z0p rfl))) (λC s₂ H₂ fp pins=>(pe_def G__law_dot hr (pa_cons (pv 1) (pa_cons (pv 0) pa_nil)) pass0))))),?_⟩
 rw [show start ["_law_table","_law_column_here"] [.ref a,.ref b]=[some (.ref a),some (.ref b)] from rfl]
 subst_eqs
 refine ⟨⟨_,SqL.of ha⟩,λD hD=>?_⟩;have hRl:=hR.length;refine cw_list (ts.map V.ref) (λi σ H2 => ∃ o,σ=[some (.ref b),o]/\Same H H2/\∃ zs,H2 D=some (.lst zs)/\Nums H2 zs ((M.map λL=>dotQ L q).take i)) ⟨_,rfl,Same.new hD _,[],upd_same,.nil⟩ (λi σ H2 _ ⟨_,_,s2,_⟩=>SqL.of (s2 _ _ ha)) ?_ ?_
 ·rintro i x σ H2 hx ⟨o,rfl,s2,zs,e2,n2⟩
  have hi:=(q0d.mp hx).1;obtain ⟨t,ht,rfl⟩:=refs_get hx;obtain ⟨xs,L,hL,et,nt⟩:=hR.get ht;have hLm:=hM L (q0g hL);rw [q0b] at hi
  subst_eqs
  refine ⟨t,b,xs,ys,L,q,m,n,W,rfl,SqL.of (s2 _ _ et),s2.seq hS,nt.mono s2.tups,hN.mono s2.tups,hLm.2.1,hq,hLm.2.2,hmn,hLm.1,λp4 H4 s4 e4=>?_⟩;have eD:=s4 _ _ e2;have hMi:(M.map λL=>dotQ L q)[i]? = some (dotQ L q):=by rw [q0e,hL];rfl
  refine CompN.mk (by rw [q0b];exact hi) eD ?_ ⟨_,rfl,(s2.trans s4).over hD _,_,upd_same,?_⟩
  ·rw [n2.length,q0t]
   exact q0m (show _<=100 by omega) (by decide)
  ·rw [take_snoc_get hMi]
   exact ((n2.mono s4.tups).append (.cons e4 .nil)).mono (TupS.lst eD)
 ·rintro σ H2 ⟨o,rfl,s2,zs,e2,n2⟩
  rw [y0s (by rw [q0b,q0b];omega)] at n2
  exact k D zs H2 s2 hD e2 n2
end
end R

set_option maxRecDepth 100000
namespace R
open PySem L2 PyProof.Rows
section
variable {P:Program} {w:World} {K:q0a} {mg:Str->Option Value} {base:Heap}
def spPair (K:q0a):Sp:=λvs H Q _ => ∃ a b xs ys,vs=[.ref a,.ref b]/\SqL K H a xs/\SqL K H b ys/\xs.length=ys.length/\Q .non H
abbrev s_check_pair:Stmt:=top 20
theorem sc_check_pair:FnScope ["one","other"] ["one","other"] (defScope s_check_pair):=⟨rfl,rfl,rfl,by decide +kernel,rfl,by decide +kernel,by decide +kernel⟩
theorem ok_check_pair {f:Addr} (d:Df K mg "check_pair" s_check_pair ["one","other"] f) (n_len:mg "len" = none):Def P w K mg base CX0 1 "check_pair" f ["one","other"] (spPair K):=by
 refine d.ok (N:=["one","other"]) sc_check_pair (by rintro vs H Q E ⟨a,b,_,_,h,_⟩;rw [h];rfl) (λcdv A outer s H vs Q E hr h=>?_)
 obtain ⟨a,b,xs,ys,rfl,hS,hS',hl,k⟩:=h;refine ⟨_,(pss_one (ps_if (pt_cmpR op_ne (pe_callB call_len_seq rfl n_len (by decide +kernel) (pa_cons (pv 0) pa_nil)) (pe_callB call_len_seq rfl n_len (by decide +kernel) (pa_cons (pv 1) pa_nil)) (nomark _)) (pss_one ps_never) pss_nil)),?_⟩
 rw [show start ["one","other"] [.ref a,.ref b]=[some (.ref a),some (.ref b)] from rfl]
 subst_eqs
 exact ⟨xs,.inl hS,ys,.inl hS',rfl,ite2 (λh=>absurd (congrArg Int.ofNat hl) h) (λ_=>k)⟩
def ClAt (K:q0a) (H:Hp) (v:V) (p:List Rat):Prop:=∃ r l,v=.ref r/\SqT K H r [.ref l,.int (lcmL p)]/\SqL K H l ((wholesOf (lcmL p) p).map V.int)
def spMatched (K:q0a):Sp:=λvs H Q _ => ∃ x y p q W V',vs=[x,y]/\ClAt K H x p/\ClAt K H y q/\ClN W p/\ClN V' q/\W+V'<=6000/\p.length<=8/\NumRes H Q (dotQ p q)
abbrev s_matched:Stmt:=top 22
theorem sc_matched:FnScope ["one","other","wholes","bottom","other_wholes","other_bottom"] ["one","other"] (defScope s_matched):=⟨rfl,rfl,rfl,by decide +kernel,rfl,by decide +kernel,by decide +kernel⟩
theorem ok_matched {f f1:Addr} (d:Df K mg "matched" s_matched ["one","other"] f) (G_fraction:Def P w K mg base CX0 2 "fraction" f1 ["top","bottom"] spFraction) (n_zip:mg "zip" = none) (n_sum:mg "sum" = none):Def P w K mg base CX0 3 "matched" f ["one","other"] (spMatched K):=by
  refine d.ok (N:=["one","other","wholes","bottom","other_wholes","other_bottom"]) sc_matched (by rintro vs H Q E ⟨_,_,_,_,_,_,h,_⟩;rw [h];rfl) (λcdv A outer s H vs Q E hr h=>?_)
  obtain ⟨x,y,p,q,W,V',rfl,⟨r1,l1,rfl,t1,e1⟩,⟨r2,l2,rfl,t2,e2⟩,cp,cq,hW,hl,k⟩:=h
  refine ⟨_, (pss_cons (ps_asg (pe_tup (pa_cons (pv 0) (pa_cons (pv 1) pa_nil))) (show PG _ _ (gTup K 2 (gCons (gTup K 2 (gCons (gName 2) (gCons (gName 3) gNil))) (gCons (gTup K 2 (gCons (gName 4) (gCons (gName 5) gNil))) gNil))) from by (refine pg_tup (n := 2) ?_ ?_ ?_ ?_; rfl; (refine pgs_cons ?_ ?_ ?_; (refine pg_tup (n := 2) ?_ ?_ ?_ ?_; rfl; (refine pgs_cons ?_ ?_ ?_; (exact (pg_name (i := 2) sc_matched.nd rfl (Or.inl rfl))); (refine pgs_cons ?_ ?_ ?_; (exact (pg_name (i := 3) sc_matched.nd rfl (Or.inl rfl))); (exact pgs_nil); rfl); rfl); rfl; rfl); (refine pgs_cons ?_ ?_ ?_; (refine pg_tup (n := 2) ?_ ?_ ?_ ?_; rfl; (refine pgs_cons ?_ ?_ ?_; (exact (pg_name (i := 4) sc_matched.nd rfl (Or.inl rfl))); (refine pgs_cons ?_ ?_ ?_; (exact (pg_name (i := 5) sc_matched.nd rfl (Or.inl rfl))); (exact pgs_nil); rfl); rfl); rfl; rfl); (exact pgs_nil); rfl); rfl); rfl; rfl)))
      (pss_one (ps_ret (pe_def G_fraction hr (pa_cons (pe_callB (call_sum rfl) rfl n_sum (by decide +kernel) (pa_cons (pe_comp (Nc:=["a","b"]) (caps:=[none,none]) rfl (Caps.of (osc:=defScope s_matched) (N:=["one","other","wholes","bottom","other_wholes","other_bottom"]) (ks:=[]) rfl rfl rfl rfl sub_nil (by decide +kernel)) (pi_zip rfl n_zip (pa_cons (pv 2) (pa_cons (pv 4) pa_nil))) (λC s₂ H₂ fp pins=>(show PG _ _ (gTup K 2 (gCons (gName 0) (gCons (gName 1) gNil))) from by (refine pg_tup (n:=2) ?_ ?_ ?_ ?_;rfl;(refine pgs_cons ?_ ?_ ?_;(exact (pg_name (i:=0) (show List.Nodup (["a","b"]:List Str) by decide +kernel) rfl (Or.inl rfl) (Or.inr rfl)));(refine pgs_cons ?_ ?_ ?_;(exact (pg_name (i:=1) (show List.Nodup (["a","b"]:List Str) by decide +kernel) rfl (Or.inl rfl) (Or.inr rfl)));(exact pgs_nil);rfl);rfl);rfl;rfl))) (λC s₂ H₂ fp pins=>(pe_op op_mulB (pv 0) (pv 1)))) pa_nil)) (pa_cons (pe_op op_mulB (pv 3) (pv 5)) pa_nil)) pass0)))),?_⟩
  rw [show start ["one","other","wholes","bottom","other_wholes","other_bottom"] [.ref r1,.ref r2]=[some (.ref r1),some (.ref r2),none,none,none,none] from rfl]
  subst_eqs
  refine ⟨small2,λp3 hp3=>?_⟩;have S:=Same.new hp3 (.tup [.ref r1,.ref r2]);refine ⟨_,SqT.of upd_same,rfl,_,_,rfl,r1,rfl,_,S.tup t1,rfl,_,_,rfl,_,_,rfl,rfl,_,_,rfl,r2,rfl,_,S.tup t2,rfl,_,_,rfl,_,_,rfl,rfl,rfl,?_⟩;have lpp:=lcmL_pos p;have lqp:=lcmL_pos q;refine ⟨l1,rfl,l2,rfl,⟨_,S.seq e1⟩,⟨_,S.seq e2⟩,λD hD=>?_⟩;refine cw_zip ((wholesOf (lcmL p) p).map V.int) ((wholesOf (lcmL q) q).map V.int) (λj σ H6 => ∃ o1 o2,σ=[o1,o2]/\Same (upd H p3 (.tup [.ref r1,.ref r2])) H6/\H6 D=some (.lst (((List.zipWith (· * ·) (wholesOf (lcmL p) p) (wholesOf (lcmL q) q)).take j).map V.int))) ⟨_,_,rfl,Same.new hD _,upd_same⟩ (by rintro j σ H6 ⟨_,_,_,s6,_⟩;exact ⟨(S.trans s6).seq e1,(S.trans s6).seq e2⟩) ?_ ?_
  · rintro j y z σ H6 pt hy hz ⟨o1,o2,rfl,s6,e6⟩ hpt
    obtain ⟨v1,hv1,rfl⟩:=ints_get hy;obtain ⟨v2,hv2,rfl⟩:=ints_get hz
    have hj:j<min ((wholesOf (lcmL p) p).map V.int).length ((wholesOf (lcmL q) q).map V.int).length:=by
      have h1:=(List.getElem?_eq_some_iff.mp hy).1;have h2:=(List.getElem?_eq_some_iff.mp hz).1;omega
    have hjp:j<p.length:=by
      have h1:=(List.getElem?_eq_some_iff.mp hv1).1
      simpa [wholesOf] using h1
    have hzj:(List.zipWith (· * ·) (wholesOf (lcmL p) p) (wholesOf (lcmL q) q))[j]? = some (v1*v2):=zip_get hv1 hv2
    have s7:=Same.new hpt (.tup [.int v1,.int v2])
    subst_eqs
    refine ⟨_,SqT.of upd_same,rfl,_,_,rfl,_,_,rfl,rfl,_,rfl,_,rfl,mulOk (cp.w v1 (List.mem_of_getElem? hv1)) (cq.w v2 (List.mem_of_getElem? hv2)) ⋯,?_⟩;have eD:=s7 _ _ e6;refine CompN.mk hj eD ?_ ⟨_,_,rfl,(s6.trans s7).over hD _,?_⟩
    · simp only [List.length_map,List.length_take]
      exact Nat.lt_of_le_of_lt (show _<=100 by omega) (by decide)
    · rw [upd_same,take_snoc_get hzj,List.map_append];rfl
  · rintro σ H6 ⟨o1,o2,rfl,s6,e6⟩
    have ez:(List.zipWith (· * ·) (wholesOf (lcmL p) p) (wholesOf (lcmL q) q)).take (min ((wholesOf (lcmL p) p).map V.int).length ((wholesOf (lcmL q) q).map V.int).length)=List.zipWith (· * ·) (wholesOf (lcmL p) p) (wholesOf (lcmL q) q):=by
      rw [List.take_of_length_le (by rw [List.length_zipWith,List.length_map,List.length_map];exact Nat.le_refl _)]
    rw [ez] at e6
    have hb:((lcmL p:Int)*(lcmL q:Int)).natAbs<2 ^ 6000:=by
      rw [Int.natAbs_mul,Int.natAbs_natCast,Int.natAbs_natCast];have:=Nat.mul_lt_mul'' cp.l cq.l;rw [<- Nat.pow_add] at this;exact lt_up this hW
    refine ⟨D,rfl,_,SqL.of e6,_,rfl,_,rfl,mulOk (m:=W) (n:=V') (by rw [Int.natAbs_natCast];exact cp.l) (by rw [Int.natAbs_natCast];exact cq.l) ⋯,_,_,rfl,hb,Int.mul_ne_zero ⋯ ⋯,?_⟩
    have e:=dot_lcm p q;unfold dotZ at e;rw [e];exact λr H' s' e'=>k r H' ((S.trans s6).trans s') e'
structure ColO (B W:Nat) (q:List Rat):Prop where
 B0:0<B
 BW:B<2 ^ W
 ov:∀ x ∈ q,OvB B W x
theorem ColO.bd {B W:Nat} {q:List Rat} (h:ColO B W q):∀ x ∈ q,BdN W x:=λx hx=>OvB.bdN h.B0 h.BW (h.ov x hx)
theorem ColO.cl {B W:Nat} {q:List Rat} (h:ColO B W q):ClN W q:=cl_of_ovb h.B0 h.BW h.ov
theorem TabO.cl {B W:Nat} {M:List (List Rat)} (h:TabO B W M):∀ L ∈ M,L.length=M.length/\ClN W L:=λL hL=>⟨(h.row L hL).1,cl_of_ovb h.B0 h.BW (h.row L hL).2⟩
def cQ (M:List (List Rat)) (q:List Rat):List Rat:=M.map λL=>dotQ L q
theorem cQ_len (M:List (List Rat)) (q:List Rat):(cQ M q).length=M.length:=by unfold cQ;rw [q0b]
theorem ColO.step {B W C V':Nat} {M:List (List Rat)} {q:List Rat} (h:TabO B W M) (k:ColO C V' q):ColO (B*C) (W+V'+7) (cQ M q):=⟨y0u h.B0 k.B0,by
 rw [j0d,j0d];exact q0f (j0h h.BW k.BW) (v0p _ (by decide)),λx hx=>by
 obtain ⟨L,hL,rfl⟩:=z0k.mp hx;obtain ⟨l,r⟩:=h.row L hL;have:=h.n7;exact (ovb_dot h.B0 k.B0 r k.ov).mono ⋯⟩
def spMadeG (K:q0a):Sp:=λvs H Q _ => ∃ (a b:Addr) (ts:List Addr) (M:List (List Rat)) (ys:List V) (q:List Rat) (B W C' V':Nat),vs=[.ref a,.ref b]/\H a=some (.lst (ts.map V.ref))/\Rws H ts M/\SqL K H b ys/\Nums H ys q/\TabO B W M/\ColO C' V' q/\W+V'<=5990/\M.length=q.length/\∀ r zs H',Same H H'->H r=none->H' r=some (.lst zs)->Nums H' zs (cQ M q)->Q (.ref r) H'
abbrev s_made_of:Stmt:=top 23
theorem sc_made_of:FnScope ["table","column","whole_column"] ["table","column"] (defScope s_made_of):=⟨rfl,rfl,rfl,by decide +kernel,rfl,by decide +kernel,by decide +kernel⟩
theorem ok_made_of {f f1 f2 f3:Addr} (d:Df K mg "made_of" s_made_of ["table","column"] f) (G_check_pair:Def P w K mg base CX0 1 "check_pair" f1 ["one","other"] (spPair K)) (G_cleared:Def P w K mg base CX0 2 "cleared" f2 ["numbers"] (spCleared K)) (G_matched:Def P w K mg base CX0 3 "matched" f3 ["one","other"] (spMatched K)):Def P w K mg base CX0 4 "made_of" f ["table","column"] (spMadeG K):=by
 refine d.ok (N:=["table","column","whole_column"]) sc_made_of (by rintro vs H Q E ⟨_,_,_,_,_,_,_,_,_,_,h,_⟩;rw [h];rfl) (λcdv A outer s H vs Q E hr h=>?_)
 obtain ⟨a,b,ts,M,ys,q,B,W,C',V',rfl,ha,hR,hS,hN,hM,hq,hWV,hlq,k1⟩:=h
 refine ⟨_,(pss_cons (ps_expr (pe_def G_check_pair hr (pa_cons (pv 0) (pa_cons (pv 1) pa_nil)) pass0))
   (pss_cons (ps_set (i:=2) sc_made_of.nd rfl (z0p rfl) (pe_def G_cleared hr (pa_cons (pv 1) pa_nil) pass0))
   (pss_one (ps_ret (pe_comp (Nc:=["whole_column","row"]) (caps:=[some 2,none]) rfl (Caps.of (osc:=defScope s_made_of) (N:=["table","column","whole_column"]) (ks:=["whole_column"]) rfl rfl rfl rfl (sub_cons rfl sub_nil) (by decide +kernel)) (pi_list (pv 0)) (λC s₂ H₂ fp pins=>(pg_name (i:=1) (show z0f (["whole_column","row"]:List Str) by decide +kernel) rfl (q0w rfl) (z0p rfl))) (λC s₂ H₂ fp pins=>(pe_def G_matched hr (pa_cons (pe_def G_cleared hr (pa_cons (pv 1) pa_nil) pass0) (pa_cons (pv 0) pa_nil)) pass0))))))),?_⟩
 rw [show start ["table","column","whole_column"] [.ref a,.ref b]=[some (.ref a),some (.ref b),none] from rfl]
 subst_eqs
 have hRl:=hR.length;have hyl:=hN.length;have m7:=hM.n7;refine ⟨a,b,_,ys,rfl,SqL.of ha,hS,by rw [q0b];omega,?_⟩
 have clq:=hq.cl;refine ⟨b,ys,q,rfl,hS,hN,⟨_,clq,⋯⟩,⋯,λr l H1 s1 f1 er el=>?_⟩;refine ⟨⟨_,SqL.of (s1 _ _ ha)⟩,λD hD=>?_⟩;refine cw_list (ts.map V.ref) (λi σ H2 => ∃ o,σ=[some (.ref r),o]/\Same H1 H2/\∃ zs,H2 D=some (.lst zs)/\Nums H2 zs ((M.map λL=>dotQ L q).take i)) ⟨_,rfl,Same.new hD _,[],upd_same,.nil⟩ (λi σ H2 _ ⟨_,_,s2,_⟩=>SqL.of (s2 _ _ (s1 _ _ ha))) ?_ ?_
 ·rintro i x σ H2 hx ⟨o,rfl,s2,zs,e2,n2⟩
  have hi:=(q0d.mp hx).1;obtain ⟨t,ht,rfl⟩:=refs_get hx;obtain ⟨xs,L,hL,et,nt⟩:=hR.get ht;have hLm:=hM.cl L (q0g hL);have l7:=hLm.1;have clL:=hLm.2;have S2:=s1.trans s2;rw [q0b] at hi
  subst_eqs
  refine ⟨t,xs,L,rfl,SqL.of (S2 _ _ et),nt.mono S2.tups,⟨_,clL,⋯⟩,⋯,λr2 l2 H3 s3 f3 e3 el3=>?_⟩;refine ⟨.ref r2,.ref r,L,q,_,_,rfl,⟨r2,l2,rfl,SqT.of e3,SqL.of el3⟩,⟨r,l,rfl,SqT.of (s3 _ _ (s2 _ _ er)),SqL.of (s3 _ _ (s2 _ _ el))⟩,clL,clq,⋯,⋯,λp4 H4 s4 e4=>?_⟩;have eD:=s4 _ _ (s3 _ _ e2);have hMi:(M.map λL=>dotQ L q)[i]? = some (dotQ L q):=by rw [q0e,hL];rfl
  refine CompN.mk (by rw [q0b];exact hi) eD ?_ ⟨_,rfl,(s2.trans (s3.trans s4)).over hD _,_,upd_same,?_⟩
  ·rw [n2.length,q0t]
   exact q0m (show _<=100 by omega) (by decide)
  ·rw [take_snoc_get hMi]
   exact ((n2.mono (s3.trans s4).tups).append (.cons e4 .nil)).mono (TupS.lst eD)
 ·rintro σ H2 ⟨o,rfl,s2,zs,e2,n2⟩
  rw [y0s (by rw [q0b,q0b];omega)] at n2
  exact k1 D zs H2 (s1.trans s2) (s1.free hD) e2 n2
def spWorthG (K:q0a):Sp:=λvs H Q _ => ∃ (a b:Addr) (ts:List Addr) (M:List (List Rat)) (ys:List V) (q:List Rat) (B W C' V':Nat),vs=[.ref a,.ref b]/\H a=some (.lst (ts.map V.ref))/\Rws H ts M/\SqL K H b ys/\Nums H ys q/\TabO B W M/\ColO C' V' q/\W+V'+7+V'<=5990/\M.length=q.length/\NumRes H Q (dotQ (cQ M q) q)
abbrev s_worth_at:Stmt:=top 24
theorem sc_worth_at:FnScope ["table","column"] ["table","column"] (defScope s_worth_at):=⟨rfl,rfl,rfl,by decide +kernel,rfl,by decide +kernel,by decide +kernel⟩
theorem ok_worth_at {f f1 f2 f3:Addr} (d:Df K mg "worth_at" s_worth_at ["table","column"] f) (G_made_of:Def P w K mg base CX0 4 "made_of" f1 ["table","column"] (spMadeG K)) (G_cleared:Def P w K mg base CX0 2 "cleared" f2 ["numbers"] (spCleared K)) (G_matched:Def P w K mg base CX0 3 "matched" f3 ["one","other"] (spMatched K)):Def P w K mg base CX0 5 "worth_at" f ["table","column"] (spWorthG K):=by
 refine d.ok (N:=["table","column"]) sc_worth_at (by rintro vs H Q E ⟨_,_,_,_,_,_,_,_,_,_,h,_⟩;rw [h];rfl) (λcdv A outer s H vs Q E hr h=>?_)
 obtain ⟨a,b,ts,M,ys,q,B,W,C',V',rfl,ha,hR,hS,hN,hM,hq,hWV,hlq,k1⟩:=h;refine ⟨_,(pss_one (ps_ret (pe_def G_matched hr (pa_cons (pe_def G_cleared hr (pa_cons (pe_def G_made_of hr (pa_cons (pv 0) (pa_cons (pv 1) pa_nil)) pass0) pa_nil) pass0) (pa_cons (pe_def G_cleared hr (pa_cons (pv 1) pa_nil) pass0) pa_nil)) pass0))),?_⟩;rw [show start ["table","column"] [.ref a,.ref b]=[some (.ref a),some (.ref b)] from rfl]
 subst_eqs
 have hyl:=hN.length;have m7:=hM.n7;have lc:=cQ_len M q;refine ⟨a,b,ts,M,ys,q,B,W,C',V',rfl,ha,hR,hS,hN,hM,hq,⋯,hlq,λr zs H1 s1 f1 e1 n1=>?_⟩;have clq:=hq.cl;have cl2:=(ColO.step hM hq).cl;refine ⟨r,zs,_,rfl,SqL.of e1,n1,⟨_,cl2,⋯⟩,⋯,λr2 l2 H2 s2 f2 e2 el2=>?_⟩;have S2:=s1.trans s2;refine ⟨b,ys,q,rfl,S2.seq hS,hN.mono S2.tups,⟨_,clq,⋯⟩,⋯,λr3 l3 H3 s3 f3 e3 el3=>?_⟩;exact ⟨.ref r2,.ref r3,_,q,_,_,rfl,⟨r2,l2,rfl,SqT.of (s3 _ _ e2),SqL.of (s3 _ _ el2)⟩,⟨r3,l3,rfl,SqT.of e3,SqL.of el3⟩,cl2,clq,⋯,⋯,λp4 H4 s4 e4=>k1 p4 H4 (S2.trans (s3.trans s4)) e4⟩
def oftQ (c:Rat) (M:List (List Rat)):List (List Rat):=M.map λL=>L.map λq=>c*q
theorem oft_len (c:Rat) (M:List (List Rat)):(oftQ c M).length=M.length:=by unfold oftQ;rw [q0b]
theorem ovb_often {B W:Nat} {q c:Rat} (hc:c=1 \/ c=-1) (h:OvB B W q):OvB B W (c*q):=by
 rcases hc with rfl | rfl
 ·rw [Rat.one_mul];exact h
 ·rw [show (-1:Rat)*q=-q by grind];exact h.neg
theorem TabO.often {B W:Nat} {M:List (List Rat)} {c:Rat} (h:TabO B W M) (hc:c=1 \/ c=-1):TabO B W (oftQ c M):=⟨by rw [oft_len];exact h.n7,h.B0,h.BW,λL hL=>by
 obtain ⟨L0,h0,rfl⟩:=z0k.mp hL;obtain ⟨l,k⟩:=h.row L0 h0;refine ⟨by rw [q0b,oft_len,l],λq hq=>?_⟩
 obtain ⟨x,hx,rfl⟩:=z0k.mp hq;exact ovb_often hc (k x hx)⟩
theorem TabF.often {n:Nat} {A:List (List Rat)} {f:Mt} (c:Rat) (h:TabF n A f):TabF n (oftQ c A) (λi j=>c*f i j):=h.map λq=>c*q
def spOften (K:q0a):Sp:=λvs H Q _ => ∃ (x:V) (c:Rat) (a:Addr) (ts:List Addr) (M:List (List Rat)) (B W:Nat),vs=[x,.ref a]/\Num K H x c/\(c=1 \/ c=-1)/\H a=some (.lst (ts.map V.ref))/\RwsC K H ts M/\TabO B W M/\W<=5990/\TabRes H Q (oftQ c M)
abbrev s__law_table_often:Stmt:=top 48
theorem sc__law_table_often:FnScope ["_law_number_here","_law_table"] ["_law_number_here","_law_table"] (defScope s__law_table_often):=⟨rfl,rfl,rfl,by decide +kernel,rfl,by decide +kernel,by decide +kernel⟩
theorem ok__law_table_often {f f1:Addr} (d:Df K mg "_law_table_often" s__law_table_often ["_law_number_here","_law_table"] f) (G__law_times:Def P w K mg base CX0 2 "_law_times" f1 ["_law_one","_law_other_here"] (spLBin K (· * ·))):Def P w K mg base CX0 3 "_law_table_often" f ["_law_number_here","_law_table"] (spOften K):=by
 refine d.ok (N:=["_law_number_here","_law_table"]) sc__law_table_often (by rintro vs H Q E ⟨_,_,_,_,_,_,_,h,_⟩;rw [h];rfl) (λcdv A outer s H vs Q E hr h=>?_)
 obtain ⟨_,c,a,ts,M,B,W,rfl,⟨ax,rfl,hx0⟩,hc,ha,hR,hM,hW,k1⟩:=h;have bc:BdN 1 c:=by rcases hc with rfl | rfl <;> exact ⟨by decide,by decide⟩
 refine ⟨_,(pss_one (ps_ret (pe_comp (Nc:=["_law_number_here","_law_row"]) (caps:=[some 0,none]) rfl (Caps.of (osc:=defScope s__law_table_often) (N:=["_law_number_here","_law_table"]) (ks:=["_law_number_here"]) rfl rfl rfl rfl (sub_cons rfl sub_nil) (by decide +kernel)) (pi_list (pv 1)) (λC s₂ H₂ fp pins=>(pg_name (i:=1) (show z0f (["_law_number_here","_law_row"]:List Str) by decide +kernel) rfl (q0w rfl) (z0p rfl))) (λC s₂ H₂ fp pins=>(pe_comp (Nc:=["_law_number_here","_law_one"]) (caps:=[some 0,none]) rfl (Caps.of (osc:=_) (N:=["_law_number_here","_law_row"]) (ks:=["_law_number_here"]) rfl rfl rfl rfl (sub_cons rfl sub_nil) (by kernel_rfl)) (show PI _ _ _ (iList K _) from by exact (pi_list (pv 1))) (λC s₂ H₂ fp pins=>(pg_name (i:=1) (show z0f (["_law_number_here","_law_one"]:List Str) by decide +kernel) rfl (q0w rfl) (z0p rfl))) (λC s₂ H₂ fp pins=>(pe_def G__law_times hr (pa_cons (pv 0) (pa_cons (pv 1) pa_nil)) pass0))))))),?_⟩
 rw [show start ["_law_number_here","_law_table"] [.ref ax,.ref a]=[some (.ref ax),some (.ref a)] from rfl]
 subst_eqs
 have hRl:=hR.length;refine ⟨⟨_,SqL.of ha⟩,λD hD=>?_⟩;refine cw_list (ts.map V.ref) (λi σ H2 => ∃ o1,σ=[some (.ref ax),o1]/\TabAt H D ((oftQ c M).take i) H2) ⟨_,rfl,TabAt.start hD⟩ (λi σ H2 _ ⟨_,_,T⟩=>SqL.of (T.same _ _ ha)) ?_ ?_
 ·rintro i x σ H2 hx ⟨o1,rfl,T⟩
  have hi:=(q0d.mp hx).1;obtain ⟨t,ht,rfl⟩:=refs_get hx;obtain ⟨xs,L,hL,et,nt⟩:=hR.get ht;have hLm:=hM.bd L (q0g hL);have S2:=T.same;have lx:=nt.length;have m7:=hM.n7;have l7:=hLm.1
  subst_eqs
  refine ⟨⟨_,SqL.of (S2 _ _ et)⟩,λD2 hD2=>?_⟩;refine cw_list xs (λj σ H3 => ∃ o1,σ=[some (.ref ax),o1]/\RowAt H2 D2 ((L.map λq=>c*q).take j) H3) ⟨_,rfl,RowAt.start hD2⟩ (λj σ H3 _ ⟨_,_,R⟩=>SqL.of (R.same _ _ (S2 _ _ et))) ?_ ?_
  ·rintro j x σ H3 hx2 ⟨o1,rfl,R⟩
   have hj:=(q0d.mp hx2).1;obtain ⟨px,q1,rfl,hq1,hpx⟩:=nt.getV hx2;have b1:=hLm.2 q1 (q0g hq1);have S3:=S2.trans R.same
   subst_eqs
   refine ⟨_,_,c,q1,1,W,rfl,⟨ax,rfl,S3.tup hx0⟩,⟨px,rfl,(hpx.mono S3.tups).sqt⟩,bc.t (by decide),b1.t ⋯,⋯,λp5 H5 s5 e5=>?_⟩
   obtain ⟨zs,eD,yl,R'⟩:=R.add hD2 s5 e5;refine CompN.mk hj eD (len_ok (by rw [yl,q0t,q0b];omega)) ⟨_,rfl,?_⟩
   rw [take_snoc_get (l:=L.map λq=>c*q) (by rw [q0e,hq1];rfl)]
   exact R'
  ·rintro σ H3 ⟨o1,rfl,R⟩
   rw [take_all (by rw [q0b,lx];exact q0n _)] at R
   obtain ⟨zs,eD,yl,T'⟩:=T.add hD hD2 R;refine CompN.mk hi eD (len_ok (by rw [yl,q0t,oft_len];omega)) ⟨_,rfl,?_⟩
   rw [take_snoc_get (l:=oftQ c M) (by unfold oftQ;rw [q0e,hL];rfl)]
   exact T'
 ·rintro σ H2 ⟨o1,rfl,T⟩
  rw [take_all (by rw [oft_len,q0b];omega)] at T
  exact T.res k1 hD
end
end R

set_option maxRecDepth 100000
namespace R
open PySem L2 PyProof.Rows
theorem ov_dot {B C V U:Nat} (hB:0<B) (hC:0<C):∀ (p q:List Rat),(∀ x ∈ p,OvB B V x)->(∀ x ∈ q,OvB C U x)->OvB (B*C) (V+U+p.length) (dotQ p q)
 | [],q,_,_=>by unfold dotQ;exact OvB.zero _ _
 | a :: p,[],_,_=>by unfold dotQ;exact OvB.zero _ _
 | a :: p,b :: q,hp,hq=>by
  have ih:=ov_dot hB hC p q (λx hx=>hp x (z0d _ hx)) (λx hx=>hq x (z0d _ hx))
  have e:dotQ (a :: p) (b :: q)=a*b+dotQ p q:=by
   unfold dotQ;rw [u0m,v0a,foldl_add];grind
  rw [e];have m:=(hp a z0m).mul (hq b z0m);exact ((m.mono (show V+U<=V+U+p.length by omega)).add (y0u hB hC) ih).mono (by rw [z0j];omega)
theorem flip_ov {N:List (List Rat)} {n C U:Nat} (h:∀ L ∈ N,L.length=n/\∀ q ∈ L,OvB C U q) {L:List Rat} (hL:L ∈ flipQ N N.length):L.length=N.length/\∀ q ∈ L,OvB C U q:=by
 obtain ⟨i,_,rfl⟩:=z0k.mp hL;refine ⟨col_len ..,λq hq=>?_⟩;obtain ⟨L',hL',rfl⟩:=z0k.mp hq
 cases e:L'[i]? with
 | none=>exact OvB.zero _ _
 | some x=>exact (h L' hL').2 x (q0g e)
section
variable {P:Program} {w:World} {K:q0a} {mg:Str->Option Value} {base:Heap}
def spLTT (K:q0a):Sp:=λvs H Q E => ∃ (a b:Addr) (ts us:List Addr) (M N:List (List Rat)) (n B V' C U:Nat),vs=[.ref a,.ref b]/\H a=some (.lst (ts.map V.ref))/\Rws H ts M/\H b=some (.lst (us.map V.ref))/\Rws H us N/\M.length=n/\N.length=n/\n<=8/\(∀ L ∈ M,L.length=n/\∀ q ∈ L,OvB B V' q)/\(∀ L ∈ N,L.length=n/\∀ q ∈ L,OvB C U q)/\0<B/\0<C/\B<2 ^ V'/\C<2 ^ U/\V'+U+(V'+U+8)<=6000/\TabRes H Q (prodQ M N)
abbrev s__law_table_times:Stmt:=top 47
theorem sc__law_table_times:FnScope ["_law_one","_law_other_here","_law_columns"] ["_law_one","_law_other_here"] (defScope s__law_table_times):=⟨rfl,rfl,rfl,by decide +kernel,rfl,by decide +kernel,by decide +kernel⟩
theorem ok__law_table_times {f f1 f2:Addr} (d:Df K mg "_law_table_times" s__law_table_times ["_law_one","_law_other_here"] f) (G__law_flipped:Def P w K mg base CX0 1 "_law_flipped" f1 ["_law_table"] (spTurned K)) (G__law_dot:Def P w K mg base CX0 3 "_law_dot" f2 ["_law_row","_law_column_here"] (spLDot K)):Def P w K mg base CX0 4 "_law_table_times" f ["_law_one","_law_other_here"] (spLTT K):=by
 refine d.ok (N:=["_law_one","_law_other_here","_law_columns"]) sc__law_table_times (by rintro vs H Q E ⟨_,_,_,_,_,_,_,_,_,_,_,h,_⟩;rw [h];rfl) (λcdv A outer s H vs Q E hr h=>?_)
 obtain ⟨a,b,ts,us,M,N,n,B,V',C,U,rfl,ha,hR,hb,hS,lM,lN,n8,hM,hN,B0,C0,hBV,hCU,hz,k1⟩:=h;have hl:M.length=N.length:=⋯
 refine ⟨_,(pss_cons (ps_set (i:=2) sc__law_table_times.nd rfl (z0p rfl) (pe_def G__law_flipped hr (pa_cons (pv 1) pa_nil) pass0))
   (pss_one (ps_ret (pe_compC (Nc:=["_law_columns","_law_row"]) (caps:=[some 2,none]) rfl (CapsC.of (osc:=defScope s__law_table_times) (N:=["_law_one","_law_other_here","_law_columns"]) (ks:=["_law_columns"]) rfl rfl rfl rfl (sub_cons rfl sub_nil) (by decide +kernel)) (pi_list (pv 0)) (λC s₂ H₂ fp pins=>(pg_name (i:=1) (show z0f (["_law_columns","_law_row"]:List Str) by decide +kernel) rfl (z0p rfl) (q0w rfl))) (λC s₂ H₂ fp pins=>(pe_comp (Nc:=["_law_row","_law_column_here"]) (caps:=[some 1,none]) rfl (Caps.of (osc:=_) (N:=["_law_columns","_law_row"]) (ks:=["_law_row"]) rfl rfl rfl rfl (sub_cons rfl sub_nil) (by kernel_rfl)) (show PI _ _ _ (iList K _) from by exact (pi_list (pv 0))) (λC s₂ H₂ fp pins=>(pg_name (i:=1) (show z0f (["_law_row","_law_column_here"]:List Str) by decide +kernel) rfl (q0w rfl) (z0p rfl))) (λC s₂ H₂ fp pins=>(pe_def G__law_dot hr (pa_cons (pv 0) (pa_cons (pv 1) pa_nil)) pass0)))))))),?_⟩
 rw [show start ["_law_one","_law_other_here","_law_columns"] [.ref a,.ref b]=[some (.ref a),some (.ref b),none] from rfl]
 subst_eqs
 refine ⟨b,us,N,rfl,hb,hS,λL hL=>by rw [lN];exact (hN L hL).1,⋯,λc cs H1 s1 fc fcs ndc ec hC=>?_⟩
 have lC:=hC.length;rw [flip_len] at lC;have hRl:=hR.length;refine ⟨⟨_,SqL.of (s1 _ _ ha)⟩,λD hD=>?_⟩;refine cw_list (ts.map V.ref) (λi σ H2 => ∃ o,σ=[some (.ref c),o]/\TabAt H1 D ((prodQ M N).take i) H2) ⟨_,rfl,TabAt.start hD⟩ (λi σ H2 _ ⟨_,_,T⟩=>SqL.of (T.same _ _ (s1 _ _ ha))) ?_ ?_
 ·rintro i x σ H2 hx ⟨o,rfl,T⟩
  have hi:=(q0d.mp hx).1;obtain ⟨t,ht,rfl⟩:=refs_get hx;obtain ⟨xs,L,hL,et,nt⟩:=hR.get ht;have hLm:=hM L (q0g hL);have S2:=s1.trans T.same
  subst_eqs
  refine ⟨⟨_,SqL.of (T.same _ _ ec)⟩,λD2 hD2=>?_⟩;refine cw_list (cs.map V.ref) (λj σ H3 => ∃ o,σ=[some (.ref t),o]/\RowAt H2 D2 (((flipQ N N.length).map (dotQ L)).take j) H3) ⟨_,rfl,RowAt.start hD2⟩ (λj σ H3 _ ⟨_,_,R⟩=>SqL.of (R.same _ _ (T.same _ _ ec))) ?_ ?_
  ·rintro j y σ H3 hy ⟨o,rfl,R⟩
   have hj:=(q0d.mp hy).1;obtain ⟨u,hu,rfl⟩:=refs_get hy;obtain ⟨ys,C',hC',eu,nu⟩:=hC.get hu;have hCm:=flip_ov hN (q0g hC')
   subst_eqs
   have S3:=S2.trans R.same;have S3':=T.same.trans R.same;have l7:=hLm.1;have l8:=hCm.1;refine ⟨t,u,xs,ys,L,C',V',U,V'+U+8,rfl,SqL.of (S3 _ _ et),SqL.of (S3' _ _ eu),nt.mono S3.tups,nu.mono S3'.tups,λx hx=>(hLm.2 x hx).bdN B0 hBV,λx hx=>(hCm.2 x hx).bdN C0 hCU,λi=>?_,⋯,by rw [hLm.1,hCm.1,lN],λp5 H5 s5 e5=>?_⟩
   ·have o:=ov_dot B0 C0 (L.take i) (C'.take i) (λx hx=>hLm.2 x (v0d hx)) (λx hx=>hCm.2 x (v0d hx))
    refine OvB.bdN (y0u B0 C0) (q0f (j0h hBV hCU) ?_) (o.mono ?_)
    ·rw [<- j0d];exact pow_le_pow2 ⋯
    ·rw [q0t];omega
   obtain ⟨zs,eD,yl,R'⟩:=R.add hD2 s5 e5;refine CompN.mk hj eD (len_ok (by rw [yl,q0t,q0b,flip_len];omega)) ⟨_,rfl,?_⟩
   rw [take_snoc_get (l:=(flipQ N N.length).map (dotQ L)) (x:=dotQ L C') (by rw [q0e,hC'];rfl)]
   exact R'
  ·rintro σ H3 ⟨o,rfl,R⟩
   rw [take_all (by rw [q0b,q0b,flip_len];omega)] at R
   obtain ⟨zs,eD,yl,T'⟩:=T.add hD hD2 R;refine CompN.mk hi eD (len_ok (by rw [yl,q0t,prod_len];omega)) ⟨_,rfl,?_⟩
   rw [take_snoc_get (prod_get hL)];exact T'
 ·rintro σ H2 ⟨o,rfl,T⟩
  rw [take_all (by rw [prod_len,q0b];omega)] at T
  exact T.res (k1.from s1) hD
end
end R

set_option maxRecDepth 100000
namespace R
open PySem L2 PyProof.Rows
def dI3 (a b c:Int):D:=.tup [.v (.int a),.v (.int b),.v (.int c)]
theorem isD_i3 {K:q0a} {H:Hp} {p:Addr} {a b c:Int} (h:H p=some (.tup [.int a,.int b,.int c])):IsD K H (.ref p) (dI3 a b c):=.tup (SqT.of h) (.cons (.v rfl) (.cons (.v rfl) (.cons (.v rfl) .nil)))
theorem ne_i3 {K:q0a} {H:Hp} {p r:Addr} {a b c:Int} {Q:VK} (h:H p=some (.tup [.int a,.int b,.int c])) (k:H r=some (.tup [.int a,.int b,.int c])) (q:Q (.bl false) H):rNeD K (.ref p) (.ref r) H Q :=
 ⟨dI3 a b c,dI3 a b c,rfl,isD_i3 h,isD_i3 k,by simp [dI3,okD,okDs],by simp [dI3,dpD,dpDs],by rw [show eqD (dI3 a b c) (dI3 a b c)=true by simp [dI3,eqD,eqDs,eqV]];exact q⟩
theorem worth_bl {n:Nat} {F:List (List Rat)} {f:Mt} {q:List Rat} (h:TabF n F f) (lq:q.length=n):dotQ (cQ F q) q=bl n f (aQ q) (aQ q):=by
 have lF:=h.len
 have e1:cQ F q=(q0z n).map λi=>af n f (aQ q) i:=by
  refine g0m λi=>?_;unfold cQ;rw [q0e,q0e]
  by_cases hi:i<n
  ·have e:=q0c (l:=F) (i:=i) ⋯
   rw [e,z0y hi]
   show some (dotQ F[i] q)=some (af n f (aQ q) i)
   congr 1
   conv=>lhs;rw [list_aqN (h.row _ (q0g e)),list_aqN lq,dot_range]
   refine sumTo_congr λt ht=>?_;have:=h.at' i t hi ht;unfold qq at this;rw [e] at this;rw [<- this];rfl
  ·rw [j0k ⋯,j0k (by rw [z0h];omega)];rfl
 have e2:=dot_range (λi=>af n f (aQ q) i) (aQ q) n;rw [<- list_aqN lq] at e2;rw [e1,e2];exact sumTo_congr λt _=>g0b _ _
theorem pos_all {d:Vc} {n:Nat} (h:posN d n=n):∀ k,k<n->0<d k:=λk hk=>by
 have:=List.countP_eq_length (p:=λk=>decide (0<d k)) (l:=q0z n);rw [z0h] at this
 simpa using this.mp h k (v0f.mpr hk)
theorem neg_none {d:Vc} {n:Nat} (h:negN d n=0):∀ k,k<n->0<=d k:=λk hk=>by
 have:=List.countP_eq_zero.mp h k (v0f.mpr hk);have:¬ d k<0:=by simpa using this
 exact Rat.not_lt.mp this
theorem fmd_neg (n:Nat) (d:Vc) (T:Mt) (i j:Nat):fmd n (λk=>- d k) T i j=-1*fmd n d T i j:=by
 unfold fmd;rw [sumTo_mul];exact sumTo_congr λk _=>by grind
theorem dot_part {B C V U:Nat} {p q:List Rat} (hB:0<B) (hC:0<C) (hV:B<2 ^ V) (hU:C<2 ^ U) (hp:∀ x ∈ p,OvB B V x) (hq:∀ x ∈ q,OvB C U x) (l:p.length<=8) (i:Nat):BdN (V+U+8) (dotQ (p.take i) (q.take i)):=by
 have o:=ov_dot hB hC (p.take i) (q.take i) (λx hx=>hp x (v0d hx)) (λx hx=>hq x (v0d hx));refine OvB.bdN (y0u hB hC) (q0f (j0h hV hU) ?_) (o.mono ?_)
 ·rw [<- j0d];exact pow_le_pow2 ⋯
 ·rw [q0t];omega
theorem not_noughts {q:List Rat} {n:Nat} (lq:q.length=n) (h:q ≠ z0a n 0):∃ i,i<n/\aQ q i ≠ 0:=Classical.byContradiction λne=>h (List.eq_replicate_iff.mpr ⟨lq,λx hx=>by
 obtain ⟨k,hk,rfl⟩:=mem_aQ hx;exact Classical.byContradiction λz=>ne ⟨k,⋯,z⟩⟩)
section
variable {P:Program} {w:World} {K:q0a} {mg:Str->Option Value} {base:Heap}
def spRight (K:q0a):Sp:=λvs H Q _ => ∃ u,vs=[.ref u]/\UrnAt H u/\∀ H',SameX u H H'->UrnAt H' u->Q (.bl true) H'
abbrev s__law_right:Stmt:=top 52
theorem sc__law_right:FnScope ["_law_urn_here","_law_kind","_law_n","_law_told","_law_rows","_law_again","_law_column_here","_law_found","_law_form","_law_due"] ["_law_urn_here"] (defScope s__law_right):=⟨rfl,rfl,rfl,by decide +kernel,rfl,by decide +kernel,by decide +kernel⟩
theorem ok__law_right {f g1 g2 g3 g4 g5 g6 g7 g8 g9 g10 g11 g12:Addr} (d:Df K mg "_law_right" s__law_right ["_law_urn_here"] f) (G__law_draw:Def P w K mg base CX0 1 "_law_draw" g1 ["_law_urn_here","_law_many"] spDraw) (G__law_drawn_form:Def P w K mg base CX0 5 "_law_drawn_form" g2 ["_law_urn_here","_law_kind","_law_n"] spDForm) (G_signs:Def P w K mg base CX0 6 "signs" g3 ["table"] (spSigns K)) (G__law_whole:Def P w K mg base CX0 1 "_law_whole" g4 ["_law_thing"] spWhole) (G__law_turn:Def P w K mg base CX0 4 "_law_turn" g5 ["_law_urn_here","_law_kind","_law_n","_law_most"] spLTurn) (G__law_table_times:Def P w K mg base CX0 4 "_law_table_times" g6 ["_law_one","_law_other_here"] (spLTT K)) (G__law_flipped:Def P w K mg base CX0 1 "_law_flipped" g7 ["_law_table"] (spTurned K)) (G__law_table_often:Def P w K mg base CX0 3 "_law_table_often" g8 ["_law_number_here","_law_table"] (spOften K)) (GD__law_number:Def P w K mg base CX0 2 "_law_number" g9 ["_law_urn_here","_law_kind"] spNumberC) (G_worth_at:Def P w K mg base CX0 5 "worth_at" g10 ["table","column"] (spWorthG K)) (G__law_dot:Def P w K mg base CX0 3 "_law_dot" g11 ["_law_row","_law_column_here"] (spLDot K)) (G__law_column:Def P w K mg base CX0 4 "_law_column" g12 ["_law_table","_law_column_here"] (spLCol K))
  (n_range:mg "range" = none) (n_list:mg "list" = none) (n_isinstance:mg "isinstance" = none) (n_all:mg "all" = none) (n_tuple:mg "tuple" = none):Def P w K mg base CX0 7 "_law_right" f ["_law_urn_here"] (spRight K):=by
 refine d.ok (N:=["_law_urn_here","_law_kind","_law_n","_law_told","_law_rows","_law_again","_law_column_here","_law_found","_law_form","_law_due"]) sc__law_right (by rintro vs H Q E ⟨_,h,_⟩;rw [h];rfl) (λcdv A outer s H vs Q E hr h=>?_)
 obtain ⟨u,rfl,hU,k⟩:=h;have hu:=hr.units;have G__law_number:=GD__law_number
 refine ⟨_,(pss_cons (ps_set (i:=1) sc__law_right.nd rfl (z0p rfl) (pe_def G__law_draw hr (pa_cons (pv 0) (pa_cons pe_int pa_nil)) pass0))
   (pss_cons (ps_set (i:=2) sc__law_right.nd rfl (q0w rfl) (pe_op op_add pe_int (pe_def G__law_draw hr (pa_cons (pv 0) (pa_cons pe_int pa_nil)) pass0)))
   (pss_cons (ps_asg (pe_def G__law_drawn_form hr (pa_cons (pv 0) (pa_cons (pv 1) (pa_cons (pv 2) pa_nil))) pass0) (show PG _ _ (gTup K 2 (gCons (gName 8) (gCons (gName 9) gNil))) from by (refine pg_tup (n:=2) ?_ ?_ ?_ ?_;rfl;(refine pgs_cons ?_ ?_ ?_;(exact (pg_name (i:=8) sc__law_right.nd rfl (q0w rfl)));(refine pgs_cons ?_ ?_ ?_;(exact (pg_name (i:=9) sc__law_right.nd rfl (q0w rfl)));(exact pgs_nil);rfl);rfl);rfl;rfl)))
   (pss_cons (ps_set (i:=3) sc__law_right.nd rfl (q0w rfl) (pe_def G_signs hr (pa_cons (pe_comp (Nc:=["_law_row"]) (caps:=[none]) rfl (Caps.of (osc:=defScope s__law_right) (N:=["_law_urn_here","_law_kind","_law_n","_law_told","_law_rows","_law_again","_law_column_here","_law_found","_law_form","_law_due"]) (ks:=[]) rfl rfl rfl rfl sub_nil (by decide +kernel)) (pi_list (pv 8)) (λC s₂ H₂ fp pins=>(pg_name (i:=0) (show z0f (["_law_row"]:List Str) by decide +kernel) rfl (q0w rfl) (z0p rfl))) (λC s₂ H₂ fp pins=>(pe_callTy (by exact call_list_of:CallR _ (.type "list") (rLst K)) rfl n_list (by decide +kernel) (pa_cons (pv 0) pa_nil)))) pa_nil) pass0))
   (pss_cons (ps_if (PW.pt (pw_or (pt_cmpR (op_neD hu) (pv 3) (pv 9) (nomark _)) (pw_or (pt_not (pt_val (pe_callB call_isinst rfl n_isinstance (by decide +kernel) (pa_cons (pv 3) (pa_cons (pe_bltn (v:=.ty "tuple") rfl n_tuple (by decide +kernel) rfl) pa_nil))))) (pw_or1 (pt_not (pt_val (pe_callB (call_all rfl) rfl n_all (by decide +kernel) (pa_cons (pe_comp (Nc:=["_law_one"]) (caps:=[none]) rfl (Caps.of (osc:=defScope s__law_right) (N:=["_law_urn_here","_law_kind","_law_n","_law_told","_law_rows","_law_again","_law_column_here","_law_found","_law_form","_law_due"]) (ks:=[]) rfl rfl rfl rfl sub_nil (by decide +kernel)) (pi_tup (pv 3)) (λC s₂ H₂ fp pins=>(pg_name (i:=0) (show z0f (["_law_one"]:List Str) by decide +kernel) rfl (q0w rfl) (z0p rfl))) (λC s₂ H₂ fp pins=>(pe_def G__law_whole hr (pa_cons (pv 0) pa_nil) pass0))) pa_nil)))))))) (pss_one (ps_ret pe_bl)) pss_nil)
   (pss_cons (ps_set (i:=4) sc__law_right.nd rfl (q0w rfl) (pe_def G__law_turn hr (pa_cons (pv 0) (pa_cons pe_int (pa_cons (pv 2) (pa_cons (pv 2) pa_nil)))) pass0))
   (pss_cons (ps_set (i:=5) sc__law_right.nd rfl (q0w rfl) (pe_def G__law_table_times hr (pa_cons (pe_def G__law_flipped hr (pa_cons (pv 4) pa_nil) pass0) (pa_cons (pe_def G__law_table_times hr (pa_cons (pv 8) (pa_cons (pv 4) pa_nil)) pass0) pa_nil)) pass0))
   (pss_cons (ps_if (PW.pt (pw_or (pt_cmpR (op_neD hu) (pe_def G_signs hr (pa_cons (pv 5) pa_nil) pass0) (pv 9) (nomark _)) (pw_or1 (pt_cmpR (op_neD hu) (pe_def G_signs hr (pa_cons (pe_def G__law_table_often hr (pa_cons (pe_tup (pa_cons (pe_un un_neg pe_int) (pa_cons pe_int pa_nil))) (pa_cons (pv 8) pa_nil)) pass0) pa_nil) pass0) (pe_tup (pa_cons (pe_ix ix_tup (pv 9) pe_int (λ_ _=>rfl)) (pa_cons (pe_ix ix_tup (pv 9) pe_int (λ_ _=>rfl)) (pa_cons (pe_ix ix_tup (pv 9) pe_int (λ_ _=>rfl)) pa_nil)))) (nomark _))))) (pss_one (ps_ret pe_bl)) pss_nil)
   (pss_cons (ps_setComp (i₀:=6) sc__law_right.nd rfl (q0w rfl) (Nc:=["_law_urn_here","_law_kind","_law_i"]) (caps:=[some 0,some 1,none]) rfl (Caps.of (osc:=defScope s__law_right) (N:=["_law_urn_here","_law_kind","_law_n","_law_told","_law_rows","_law_again","_law_column_here","_law_found","_law_form","_law_due"]) (ks:=["_law_urn_here","_law_kind"]) rfl rfl rfl rfl (sub_cons rfl (sub_cons rfl sub_nil)) (by decide +kernel)) (pi_range1 rfl n_range (pa_cons (pv 2) pa_nil)) (λC s₂ H₂ fp pins=>(pg_name (i:=2) (show z0f (["_law_urn_here","_law_kind","_law_i"]:List Str) by decide +kernel) rfl (q0w rfl) (z0p rfl))) (λC s₂ H₂ fp pins=>(pe_def G__law_number hr (pa_cons (pv 0) (pa_cons (pv 1) pa_nil)) pass0)))
   (pss_cons (ps_set (i:=7) sc__law_right.nd rfl (q0w rfl) (pe_def G_worth_at hr (pa_cons (pe_comp (Nc:=["_law_row"]) (caps:=[none]) rfl (Caps.of (osc:=defScope s__law_right) (N:=["_law_urn_here","_law_kind","_law_n","_law_told","_law_rows","_law_again","_law_column_here","_law_found","_law_form","_law_due"]) (ks:=[]) rfl rfl rfl rfl sub_nil (by decide +kernel)) (pi_list (pv 8)) (λC s₂ H₂ fp pins=>(pg_name (i:=0) (show z0f (["_law_row"]:List Str) by decide +kernel) rfl (q0w rfl) (z0p rfl))) (λC s₂ H₂ fp pins=>(pe_callTy (by exact call_list_of:CallR _ (.type "list") (rLst K)) rfl n_list (by decide +kernel) (pa_cons (pv 0) pa_nil)))) (pa_cons (pe_callTy call_list_of rfl n_list (by decide +kernel) (pa_cons (pv 6) pa_nil)) pa_nil)) pass0))
   (pss_cons (ps_if (pt_cmpR (op_neD hu) (pv 7) (pe_def G__law_dot hr (pa_cons (pe_def G__law_column hr (pa_cons (pv 8) (pa_cons (pv 6) pa_nil)) pass0) (pa_cons (pv 6) pa_nil)) pass0) (nomark _)) (pss_one (ps_ret pe_bl)) pss_nil)
   (pss_cons (ps_if (PW.pt (pw_and (pt_cmpR op_eq (pe_ix ix_tup (pv 9) pe_int (λ_ _=>rfl)) (pv 2) (nomark _)) (pw_and1 (pt_cmpR (op_neD hu) (pv 6) (pe_op op_rep (pe_lst (pa_cons (pe_tup (pa_cons pe_int (pa_cons pe_int pa_nil))) pa_nil)) (pv 2)) (nomark _))))) (pss_one (ps_ret (pe_cmpR op_gt (pe_ix ix_tup (pv 7) pe_int (λ_ _=>rfl)) pe_int (nomark _)))) pss_nil)
   (pss_one (ps_ret (pe_or (pe_cmpR op_gt (pe_ix ix_tup (pv 9) pe_int (λ_ _=>rfl)) pe_int (nomark _)) (pe_one (pe_cmpR op_ge (pe_ix ix_tup (pv 7) pe_int (λ_ _=>rfl)) pe_int (nomark _)))))))))))))))))),?_⟩
 rw [show start ["_law_urn_here","_law_kind","_law_n","_law_told","_law_rows","_law_again","_law_column_here","_law_found","_law_form","_law_due"] [.ref u]=[some (.ref u),none,none,none,none,none,none,none,none,none] from rfl]
 refine seq_cut (λσ H1 => ∃ kd,σ=[some (.ref u),some (.int kd),none,none,none,none,none,none,none,none]/\SameX u H H1/\UrnAt H1 u/\(kd=0 \/ kd=1)) (λN hN=>?_) ?_
 ·clean_wf
  exact ⟨hU,by decide,by decide,λr H1 r0 r1 s1 u1=>hN _ _ ⟨r,rfl,s1,u1,⋯⟩⟩
 rintro σ H1 ⟨kd,rfl,s1,u1,hk⟩;refine seq_cut (λσ H2 => ∃ n:Nat,σ=[some (.ref u),some (.int kd),some (.int (n:Int)),none,none,none,none,none,none,none]/\SameX u H H2/\UrnAt H2 u/\1<=n/\n<=7) (λN hN=>?_) ?_
 ·clean_wf
  refine ⟨u1,by decide,by decide,λr H2 r0 r1 s2 u2=>hN _ _ ⟨1+r.toNat,?_,s1.trans s2,u2,⋯,⋯⟩⟩
  rw [show ((1+r.toNat:Nat):Int)=1+r by omega]
 clear s1 u1;rintro σ H2 ⟨n,rfl,s2,u2,n1,n7⟩;refine seq_cut (λσ H3 => ∃ l pd us F d T B,σ=[some (.ref u),some (.int kd),some (.int (n:Int)),none,none,none,none,none,some (.ref l),some (.ref pd)]/\LkAt u H2 l us F H3/\H3 pd=some (.tup (dueV d n))/\posN d n+negN d n<=n/\F.length=n/\TabO B 327 F/\TabF n F (fmd n d T)/\Inv n T) (λN hN=>?_) ?_
 ·subst_eqs
  refine ⟨u,kd,n,rfl,u2,hk,n1,n7,λr l pd us F d T B H3 d3 er ed hs lF oF fF iT=>?_⟩;exact ⟨r,rfl,_,SqT.of er,rfl,_,_,rfl,_,_,rfl,rfl,hN _ _ ⟨l,pd,us,F,d,T,B,rfl,d3,ed,hs,lF,oF,fF,iT⟩⟩
 rintro σ H3 ⟨l,pd,us,F,d,T,B,rfl,d3,ed,hs,lF,oF,fF,iT⟩;have frm:=Frm.made iT fF.at';have B0:=oF.B0;have fm:∀ {M:List (List Rat)} {C W:Nat},TabO C W M->M.length=n->Sy n (qq M)->FmT n M C W:=λo l s=>⟨by rw [<- l];exact o.tf,⟨s,o.B0,o.BW,λi _ j _=>o.at i j,n7⟩⟩
 have syF:Sy n (qq F):=λi hi j hj=>by rw [fF.at' i j hi hj,fF.at' j i hj hi];exact fmd_sy n d T i hi j hj
 have lus:=d3.rws.length
 have copy:∀ {H4:Hp} {D:Addr} {Q:VK},SameX u H3 H4->UrnAt H4 u->H4 D=none->(∀ H5,TabAt H4 D F H5->Q (.ref D) H5)->CompW (Itl K l) D [none] (upd H4 D (.lst [])) (gName 0) (tCB (rLst K) (tCons (tVar 0) tNil)) Q:=fun {H4 D Q} sx hUx hD kk=>by
  refine cw_list (us.map V.ref) (λy σ H3 => ∃ o,σ=[o]/\TabAt H4 D (F.take y) H3) ⟨_,rfl,TabAt.start hD⟩ (λj σ H3 _ ⟨o,_,T⟩=>SqL.of (T.same _ _ (d3.x sx hUx).at')) ?_ ?_
  ·rintro y x σ H5 hx ⟨o,rfl,T⟩
   have hy:=(q0d.mp hx).1;obtain ⟨t,ht,rfl⟩:=refs_get hx;obtain ⟨xs,L,hL,et,nt⟩:=(d3.x sx hUx).rws.get ht
   subst_eqs
   refine ⟨xs,.inl (SqL.of (T.same _ _ et)),λp fp=>?_⟩;obtain ⟨ys,eD,yl,T'⟩:=T.add hD fp ⟨Same.new fp (.lst xs),xs,upd_same,(nt.mono T.same.tups).mono (Same.new fp _).tups⟩;refine CompN.mk hy eD (len_ok (by rw [yl,q0t];omega)) ⟨_,rfl,?_⟩
   rw [take_snoc_get hL];exact T'
  ·rintro σ H5 ⟨o,rfl,T⟩
   rw [take_all (by rw [q0b];omega)] at T
   exact kk H5 T
 refine seq_cut (λσ H4 => ∃ g,σ=[some (.ref u),some (.int kd),some (.int (n:Int)),some (.ref g),none,none,none,none,some (.ref l),some (.ref pd)]/\Same H3 H4/\H4 g=some (.tup (dueV d n))) (λN hN=>?_) ?_
 ·subst_eqs
  refine ⟨⟨_,SqL.of d3.at'⟩,λD hD=>copy (Same.x (Same.refl _) u) d3.urn hD λH5 T=>?_⟩;obtain ⟨sT,ts,e,fr,nd,R⟩:=T;refine ⟨D,ts,F,n,B,327,rfl,e,R,fm oF lF syF,by decide,λr dd H' s' fr' frd er hs'=>hN _ _ ⟨r,rfl,sT.trans s',?_⟩⟩
  rw [er,frd.pos frm,frd.negs frm];rfl
 rintro σ H4 ⟨g,rfl,s4,eg⟩;refine seq_cut (λσ H5=>σ=[some (.ref u),some (.int kd),some (.int (n:Int)),some (.ref g),none,none,none,none,some (.ref l),some (.ref pd)]/\Same H4 H5) (λN hN=>?_) ?_
 ·subst_eqs
  have tr:=SqT.of (K:=K) eg;refine ne_i3 eg (s4 _ _ ed) ⟨_,rfl,ite2 (λz=>by cases z) (λ_=>?_)⟩
  refine ⟨trivial,_,.sqt tr,_,kit_tup_tup,ite2 (λz=>by cases z) (λ_=>?_)⟩
  refine ⟨⟨_,tr⟩,λD hD=>?_⟩;refine cw_tup (dueV d n) (λj σ H5 => ∃ o,σ=[o]/\Same H4 H5/\H5 D=some (.lst ((z0a j true).map V.bl))) ⟨_,rfl,Same.new hD _,upd_same⟩ (λj σ H5 _ ⟨o,_,s5,_⟩=>s5.tup tr) ?_ ?_
  ·rintro j v σ H5 hx ⟨o,rfl,s5,e5⟩
   have hj:j<3:=(q0d.mp hx).1
   have ex:∃ z:Int,v=.int z:=by
    match j,hx with
    | 0,hx=>cases hx;exact ⟨_,rfl⟩
    | 1,hx=>cases hx;exact ⟨_,rfl⟩
    | 2,hx=>cases hx;exact ⟨_,rfl⟩
   obtain ⟨z,rfl⟩:=ex
   subst_eqs
   refine ⟨z,rfl,CompN.mk hj e5 (len_ok (by rw [q0b,u0q];omega)) ⟨_,rfl,s5.over hD _,?_⟩⟩
   rw [upd_same,List.replicate_succ',y0q];rfl
  ·rintro σ H5 ⟨o,rfl,s5,e5⟩
   refine ⟨D,rfl,_,SqL.of e5,ite2 (λz=>?_) (λ_=>hN _ _ ⟨rfl,s5⟩)⟩;exact absurd z (show ¬ (z0a 3 true).all id=false by decide)
 rintro σ H5 ⟨rfl,s5⟩;have S5:=s4.trans s5;have d5:=d3.s S5;have eg5:=s5 _ _ eg;have ed5:=S5 _ _ ed;refine seq_cut (λσ H6 => ∃ l2 us2 R B2,σ=[some (.ref u),some (.int kd),some (.int (n:Int)),some (.ref g),some (.ref l2),none,none,none,some (.ref l),some (.ref pd)]/\LkAt u H5 l2 us2 R H6/\R.length=n/\TabO B2 29 R/\Inv n (qq R)) (λN hN=>?_) ?_
 ·subst_eqs
  refine ⟨u,1,n,n,rfl,d5.urn,.inr rfl,n1,n7,⋯,λl2 us2 R B2 H6 d6 lR oR iR=>hN _ _ ⟨l2,us2,R,B2,rfl,d6,lR,oR.mono ?_,iR⟩⟩
  show 1+4*n<=29;omega
 rintro σ H6 ⟨l2,us2,R,B2,rfl,d6,lR,oR,iR⟩;have dF6:=d5.x d6.same d6.urn;have ed6:=d6.same.tups d5.urn _ _ ed5;refine seq_cut (λσ H7 => ∃ a ts A B3,σ=[some (.ref u),some (.int kd),some (.int (n:Int)),some (.ref g),some (.ref l2),some (.ref a),none,none,some (.ref l),some (.ref pd)]/\Same H6 H7/\H7 a=some (.lst (ts.map V.ref))/\Rws H7 ts A/\FmT n A B3 399/\Frm n (qq A) d) (λN hN=>?_) ?_
 ·subst_eqs
  refine ⟨l2,us2,R,rfl,d6.at',d6.rws,λL hL=>(oR.row L hL).1,⋯,λr1 t1 H7 s7 f1 g1 nd1 e1 R1=>?_⟩;have oFl:=oR.flip;have lFl:(flipQ R R.length).length=n:=by unfold flipQ;rw [q0b,z0h,lR]
  refine ⟨l,l2,us,us2,F,R,n,B,327,B2,29,rfl,s7 _ _ dF6.at',dF6.rws.same s7,s7 _ _ d6.at',d6.rws.same s7,lF,lR,⋯,λL hL=>⟨by rw [(oF.row L hL).1,lF],(oF.row L hL).2⟩,λL hL=>⟨by rw [(oR.row L hL).1,lR],(oR.row L hL).2⟩,oF.B0,oR.B0,oF.BW,oR.BW,by decide,λr2 t2 H8 s8 f2 g2 nd2 e2 R2=>?_⟩
  have oP:=oF.prod oR ⋯;have lP:(prodQ F R).length=n:=by rw [prod_len,lF]
  refine ⟨r1,r2,t1,t2,flipQ R R.length,prodQ F R,n,B2,29,B*B2,363,rfl,s8 _ _ e1,R1.same s8,e2,R2,lFl,lP,⋯,λL hL=>⟨by rw [(oFl.row L hL).1,lFl],(oFl.row L hL).2⟩,λL hL=>⟨by rw [(oP.row L hL).1,lP],(oP.row L hL).2⟩,oFl.B0,oP.B0,oFl.BW,oP.BW,by decide,λr3 t3 H9 s9 f3 g3 nd3 e3 R3=>?_⟩
  have oA:=oFl.prod oP ⋯;have fR:TabF n R (qq R):=by rw [<- lR];exact oR.tf
  have fA:=(flip_tf fR).prod (fF.prod fR);rw [lR] at oA R3;have eA:∀ i j,i<n->j<n->qq (prodQ (flipQ R n) (prodQ F R)) i j=fmd n d (mm n T (qq R)) i j:=λi j hi hj=>by rw [fA.at' i j hi hj,<- fmd_turn]
  have lA:=fA.len;refine hN _ _ ⟨r3,t3,_,_,rfl,s7.trans (s8.trans s9),e3,R3,fm oA lA λi hi j hj=>?_,Frm.made (iT.mul iR) eA⟩;rw [eA i j hi hj,eA j i hj hi];exact fmd_sy n d _ i hi j hj
 rintro σ H7 ⟨a,ts,A,B3,rfl,s7,ea,RA,fA,frA⟩;have dF7:=dF6.s s7;have ed7:=s7 _ _ ed6;refine seq_cut (λσ H8=>σ=[some (.ref u),some (.int kd),some (.int (n:Int)),some (.ref g),some (.ref l2),some (.ref a),none,none,some (.ref l),some (.ref pd)]/\Same H7 H8) (λN hN=>?_) ?_
 ·subst_eqs
  refine ⟨a,ts,A,n,B3,399,rfl,ea,RA,fA,by decide,λr1 d1 H8 s8 f8 fr1 e1 h1=>?_⟩
  rw [fr1.pos frA,fr1.negs frA] at e1;refine ne_i3 e1 (s8 _ _ ed7) ⟨_,rfl,ite2 (λz=>by cases z) (λ_=>⟨by decide,λp fp=>?_⟩)⟩
  have dF8:=dF7.s s8;have sp:=Same.new fp (.tup [V.int (-1),V.int 1]);have dF9:=dF8.s sp;refine ⟨.ref p,-1,l,us,F,B,327,rfl,⟨p,rfl,by rw [show numV (-1:Rat)=[.int (-1),.int 1] from rfl];exact SqT.of upd_same⟩,.inr rfl,dF9.at',dF9.rws.toC,oF,by decide,λr2 t2 H10 s10 f2 g2 nd2 e2 R2=>?_⟩
  have fN:=fF.often (-1);have eN:∀ i j,i<n->j<n->qq (oftQ (-1) F) i j=fmd n (λk=>- d k) T i j:=λi j hi hj=>by rw [fN.at' i j hi hj,fmd_neg]
  have frN:=Frm.made iT eN;refine ⟨r2,t2,oftQ (-1) F,n,B,327,rfl,e2,R2,fm (oF.often (.inr rfl)) fN.len (λi hi j hj=>by rw [eN i j hi hj,eN j i hj hi];exact fmd_sy n _ T i hi j hj),by decide,λr3 d3' H11 s11 f11 fr3 e3 h3=>?_⟩
  rw [fr3.pos frN,fr3.negs frN,neg_pos,pos_neg] at e3;have ed11:=s11 _ _ (s10 _ _ (sp _ _ (s8 _ _ ed7)));refine ⟨_,SqT.of ed11,_,rfl,_,SqT.of ed11,_,rfl,_,SqT.of ed11,_,rfl,by decide,λp2 fp2=>?_⟩
  refine ne_i3 (by rw [upd_ne (ne_of_none e3 fp2)];exact e3) (by rw [upd_same,show n-negN d n-posN d n=n-posN d n-negN d n by omega]) ⟨_,rfl,ite2 (λz=>by cases z) (λ_=>hN _ _ ⟨rfl,s8.trans (sp.trans (s10.trans (s11.trans (Same.new fp2 _))))⟩)⟩
 rintro σ H8 ⟨rfl,s8⟩;have dF8:=dF7.s s8;have ed8:=s8 _ _ ed7;have S8:=(((s2.trans d3.same).trans (Same.x S5 u)).trans d6.same).trans (Same.x (s7.trans s8) u);refine seq_cut (λσ H9 => ∃ c xs q,σ=[some (.ref u),some (.int kd),some (.int (n:Int)),some (.ref g),some (.ref l2),some (.ref a),some (.ref c),none,some (.ref l),some (.ref pd)]/\SameX u H8 H9/\UrnAt H9 u/\LsX u H9 c xs q/\q.length=n/\ColO 60 10 q) (λN hN=>?_) ?_
 ·subst_eqs
  refine ⟨⋯,⋯,λD fD=>?_⟩;have u8:=dF8.urn;have Du:D ≠ u:=urn_ne u8 fD;obtain ⟨Pv,hPv⟩:∃ Pv:Nat->L2.St->Hp->Prop,∀ j σ H6,Pv j σ H6 ↔ ∃ (o:Option V) (xs:List V) (qs:List Rat),σ=[some (.ref u),some (.int kd),o]/\SameX u H8 H6/\UrnAt H6 u/\H6 D=some (.lst xs)/\Nums H6 xs qs/\qs.length=j/\∀ q ∈ qs,OvB 60 10 q:=⟨_,λ_ _ _=>Iff.rfl⟩;refine cw_range Pv ((hPv _ _ _).mpr ⟨_,[],[],rfl,Same.x (Same.new fD _) u,urn_new u8 fD,upd_same,.nil,rfl,by simp⟩) ?_ ?_
  ·rintro j σ H6 hj h
   obtain ⟨o,xs,qs,rfl,s6,u6,e6,n6,l6,b6⟩:=(hPv _ _ _).mp h
   subst_eqs
   refine ⟨u,kd,rfl,u6,λr q H7 bq s7 u7 e7=>?_⟩;have e8:=s7 _ _ e6 Du;refine CompN.mk hj e8 (len_ok (by rw [n6.length,l6];omega)) ((hPv _ _ _).mpr ⟨_,_,qs ++ [q],rfl,(s6.trans s7).over fD _,u7.other Du,upd_same,((n6.mono (s7.tups u6)).append (.cons e7 .nil)).mono (TupS.lst e8),by simp [l6],λx hx=>?_⟩)
   rcases u0c.mp hx with z | z
   ·exact b6 x z
   ·rw [y0j.mp z]
    rcases hk with rfl | rfl
    ·exact bq.ovb0
    ·exact bq.ovb1.up (by decide) (C:=60) (c:=6) (by decide) (by decide)
  ·intro σ H6 h
   obtain ⟨o,xs,qs,rfl,s6,u6,e6,n6,l6,b6⟩:=(hPv _ _ _).mp h;exact hN _ _ ⟨D,xs,qs,rfl,s6,u6,⟨Du,e6,n6⟩,⋯,⟨by decide,by decide,b6⟩⟩
 rintro σ H9 ⟨c,xs,q,rfl,s9,u9,L9,lq,oq⟩;have dF9:=dF8.x s9 u9;have ed9:=s9.tups dF8.urn _ _ ed8;have lc:=cQ_len F q;have oc:=ColO.step oF oq;obtain ⟨z,hz⟩:∃ z,z=dotQ (cQ F q) q:=⟨_,rfl⟩;refine seq_cut (λσ H10 => ∃ r,σ=[some (.ref u),some (.int kd),some (.int (n:Int)),some (.ref g),some (.ref l2),some (.ref a),some (.ref c),some (.ref r),some (.ref l),some (.ref pd)]/\Same H9 H10/\H10 r=some (.tup (numV z))) (λN hN=>?_) ?_
 ·subst_eqs
  refine ⟨⟨_,SqL.of dF9.at'⟩,λD hD=>copy ((((Same.x S5 u).trans d6.same).trans (Same.x (s7.trans s8) u)).trans s9) u9 hD λH10 T=>?_⟩;obtain ⟨sT,ts',e,fr,nd,R'⟩:=T;refine ⟨xs,.inl (SqL.of (sT _ _ L9.at')),λp fp=>?_⟩;have sp:=Same.new fp (.lst xs);refine ⟨D,p,ts',F,xs,q,B,327,60,10,rfl,sp _ _ e,R'.same sp,SqL.of upd_same,(L9.nums.mono sT.tups).mono sp.tups,oF,oq,by decide,⋯,λr H' s' er=>hN _ _ ⟨r,rfl,sT.trans (sp.trans s'),by rw [hz];exact er⟩⟩
 rintro σ H10 ⟨r,rfl,s10,er⟩;refine seq_cut (λσ H11=>σ=[some (.ref u),some (.int kd),some (.int (n:Int)),some (.ref g),some (.ref l2),some (.ref a),some (.ref c),some (.ref r),some (.ref l),some (.ref pd)]/\Same H10 H11) (λN hN=>?_) ?_
 ·subst_eqs
  have dF10:=dF9.s s10;have L10:=L9.same s10;refine ⟨l,c,us,F,xs,q,327,10,345,rfl,dF10.at',dF10.rws,SqL.of L10.at',L10.nums,λL hL=>⟨by rw [(oF.row L hL).1];omega,(oF.bd L hL).2,dot_part oF.B0 oq.B0 oF.BW oq.BW (oF.row L hL).2 oq.ov (by rw [(oF.row L hL).1];omega)⟩,oq.bd,by decide,⋯,λr2 zs H11 s11 f2 e2 n2=>?_⟩
  refine ⟨r2,c,zs,xs,cQ F q,q,344,10,362,rfl,SqL.of e2,SqL.of (s11 _ _ L10.at'),n2,L10.nums.mono s11.tups,oc.bd,oq.bd,dot_part oc.B0 oq.B0 oc.BW oq.BW oc.ov oq.ov ⋯,by decide,⋯,λr3 H12 s12 e3=>?_⟩
  rw [<- hz] at e3;refine ⟨dNum z,dNum z,rfl,isD_num (SqT.of (s12 _ _ (s11 _ _ er))),isD_num (SqT.of e3),by simp [dNum,okD,okDs],by simp [dNum,dpD,dpDs],⟨_,rfl,ite2 (λy=>?_) (λ_=>hN _ _ ⟨rfl,s11.trans s12⟩)⟩⟩
  rw [eqD_num] at y;cases y
 rintro σ H11 ⟨rfl,s11⟩
 subst_eqs
 have s911:=s10.trans s11;have ed11:=s911 _ _ ed9;have er11:=s11 _ _ er;have L11:=L9.same s911;have u11:=Same.urn s911 u9;have S11:=(S8.trans s9).trans (Same.x s911 u);have ew:z=bl n (fmd n d T) (aQ q) (aQ q):=hz.trans (worth_bl fF lq)
 have last:∀ {H':Hp},Same H11 H'->∃ x,SqT K H' pd x/\∃ x_2,atI x 1=some x_2/\∃ i,x_2=V.int i/\if 0<i then Q (.bl true) H' else ∃ x,SqT K H' r x/\∃ x_3,atI x 0=some x_3/\∃ i,x_3=V.int i/\Q (.bl (decide (0<=i))) H':=fun {H'} s'=>by
  have kk:=k H' (S11.trans (Same.x s' u)) (Same.urn s' u11);refine ⟨_,SqT.of (s' _ _ ed11),_,rfl,_,rfl,ite2 (λ_=>kk) (λy=>⟨_,SqT.of (s' _ _ er11),_,rfl,_,rfl,?_⟩)⟩;have nn:=fmd_nn T (neg_none (d:=d) (n:=n) ⋯) (aQ q);rw [<- ew] at nn;rw [decide_eq_true (Rat.num_nonneg.mpr nn)];exact kk
 refine ⟨_,SqT.of ed11,_,rfl,rfl,ite2 (λy=>?_) (λ_=>last (Same.refl _))⟩
 have yn:posN d n=n:=by
  have:=V.int.inj y;omega
 refine ⟨by decide,λp fp=>⟨by decide,λp1 fp1=>⟨_,upd_same,⋯,⋯,q0y (show _<=100 by rw [m0m];omega) (by decide),λp2 fp2=>?_⟩⟩⟩
 have sp:=(Same.new fp (.tup [V.int 0,V.int 1])).trans ((Same.new fp1 (.lst [V.ref p])).trans (Same.new fp2 (.lst (z0a (n:Int).toNat [V.ref p]).flatten)))
 have ep:(upd (upd (upd H11 p (.tup [V.int 0,V.int 1])) p1 (.lst [V.ref p])) p2 (.lst (z0a (n:Int).toNat [V.ref p]).flatten)) p=some (.tup (numV 0)):=by
  rw [upd_ne (ne_of_none (by rw [upd_ne (ne_of_none upd_same fp1)];exact upd_same) fp2),upd_ne (ne_of_none upd_same fp1)]
  exact upd_same
 refine ⟨dList q,dList (z0a n 0),rfl,isD_list (SqL.of (sp _ _ L11.at')) (L11.nums.mono sp.tups),isD_list (SqL.of (by rw [upd_same,List.flatten_replicate_singleton];rfl)) (Nums.rep ep n),okD_list _ _,q0y (dp_list _) (by decide),⟨_,rfl,ite2 (λy=>?_) (λ_=>last sp)⟩⟩
 rw [eqD_list] at y;have nq:q ≠ z0a n 0:=by simpa using y
 have ps:=fmd_ps iT (pos_all yn) (not_noughts lq nq);rw [<- ew] at ps;refine ⟨_,SqT.of (sp _ _ er11),_,rfl,_,rfl,?_⟩;rw [decide_eq_true ((num_pos' z).mpr ps)];exact k _ (S11.trans (Same.x sp u)) (Same.urn sp u11)
end
end R

set_option maxRecDepth 100000
namespace R
open PySem L2 PyProof.Rows
section
variable {P:Program} {w:World} {K:q0a} {mg:Str->Option Value} {base:Heap}
abbrev s_law:Stmt:=top 53
theorem sc_law:FnScope ["_law_script","_law_at"] ["_law_script"] (defScope s_law):=⟨rfl,rfl,rfl,by decide +kernel,rfl,by decide +kernel,by decide +kernel⟩
theorem ok_law {f g1 g2 : Addr} {fd : FuncData} (F : Fun K "law" "law" s_law f fd) (G__law_urn : Def P w K mg base CX0 1 "_law_urn" g1 ["_law_script", "_law_at"] (spUrn K)) (G__law_right : Def P w K mg base CX0 7 "_law_right" g2 ["_law_urn_here"] (spRight K))
    (n_range:mg "range" = none) (n_max:mg "max" = none) (n_min:mg "min" = none) (n_len:mg "len" = none):FnOk P w K mg base CX0 (7+1) f fd ["_law_script"] (spLaw K):=by
  refine F.ok (N:=["_law_script","_law_at"]) sc_law (λvs H Q E ⟨x,y,h,_⟩=>by rw [h];rfl) (λcdv A outer s H vs Q E hr h=>?_)
  obtain ⟨as,ns,rfl,hS,h63,k⟩:=h
  refine ⟨_, (pss_cons (ps_for PassesOwn.never rfl (pi_range1 rfl n_range (pa_cons (pe_callB (call_max2 rfl) rfl n_max (by decide +kernel) (pa_cons pe_int (pa_cons (pe_callB (call_min2 rfl) rfl n_min (by decide +kernel) (pa_cons pe_int (pa_cons (pe_callB call_len_seq rfl n_len (by decide +kernel) (pa_cons (pv 0) pa_nil)) pa_nil))) pa_nil))) pa_nil)) (pg_name (i := 1) sc_law.nd rfl (Or.inl rfl)) (pss_one (ps_if (pt_not (pt_val (pe_def G__law_right hr (pa_cons (pe_def G__law_urn hr (pa_cons (pv 0) (pa_cons (pv 1) pa_nil)) pass0) pa_nil) pass0))) (pss_one (ps_ret pe_bl)) pss_nil)))
      (pss_one (ps_ret pe_bl))),?_⟩
  rw [show start ["_law_script","_law_at"] [.ref as]=[some (.ref as),none] from rfl]
  have hlen:(((ns.map V.int).length:Nat):Int)=(ns.length:Int):=by rw [List.length_map]
  refine ⟨_,rfl,as,_,rfl,.inl hS,3,_,rfl,1,_,rfl,_,rfl,?_,?_,for_range (λi σ H1 => ∃ o1:Option V,σ=[some (.ref as),o1]/\SqL K H1 as (ns.map V.int)) ⟨_,rfl,hS⟩ ?_ ?_⟩
  · rw [hlen];split <;> split <;> omega
  · rw [hlen];split <;> split <;> omega
  · rintro i σ H1 hi ⟨o1,rfl,hS1⟩
    rw [hlen] at hi
    have hi4:i<4:=by
      revert hi
      split <;> split <;> omega
    subst_eqs
    refine ⟨as,ns,_,rfl,hS1,⋯,⋯,λu H2 s2 hu0 hu2=>?_⟩;refine ⟨u,rfl,hu2,λH3 s3 hu3=>?_⟩;exact ⟨true,rfl,ite2 (λh=>absurd h (by decide)) (λ_=>((Same.x s2 u).trans s3).seq hu0 hS1)⟩
  · rintro σ H1 ⟨o1,rfl,hS1⟩
    exact k H1
end
end R

set_option maxRecDepth 100000
namespace PySem.W.Fast
def tw419337744057780785:=0
def tw13078066220267304028:=0
def tw3640229649433285708:=0
def tw2865920714493422577:=0
def tw7953659981331148446:=0
def tw5832166533223976694:=0
def tw16605643070092379588:=0
def tw2833386856025125570:=0
def tw6343040770467324585:=0
def tw14110673008598764602:=0
def tw2949586314660835654:=0
def tw13799860990431828853:=0
def tw5612786299458008820:=0
def tw1002429829056668592:=0
def tw9111447603103789841:=0
def tw2310564129846758787:=0
def tw18318036937469399615:=0
def tw4322059590330775981:=0
def tw699718757778126572:=0
def tw9252576993144375409:=0
def tw12501362459276602166:=0
def tw17350433246594142738:=0
def tw6647356820865252310:=0
def tw1030473048429188464:=0
def tw4493549456746416867:=0
def tw16953430972455539986:=0
def tw16657939365504009212:=0
def tw4611275042450131555:=0
def tw1410266355802123693:=0
def tw17672191612470566684:=0
def tw2695815517869324775:=0
def tw6621234673034265441:=0
def tw10711460434684770440:=0
def tw18365108455102343339:=0
def tw15888855999359083170:=0
def tw7553171232004041902:=0
def tw5656222348766694772:=0
def tw6544641590940421093:=0
def tw11707867087420646030:=0
def tw14563621453528644491:=0
def tw605806228790013726:=0
def tw2854399551325178799:=0
def tw6425476499984034152:=0
def tw7923289059504532796:=0
def tw15206573668129141901:=0
def tw3991794331827303439:=0
def tw10718020506316739738:=0
def tw9127483584766546881:=0
def tw7225397975488803171:=0
def tw11461478489271144647:=0
def tw2894994072890198205:=0
def tw7181496058622344617:=0
def tw8555300226096478960:=0
def tw12191993720904813732:=0
def tw13447026639160852924:=0
def tw8076126485943632436:=0
def tw1638050145201159110:=0
def tw14928197440913265311:=0
def tw14109277592520916677:=0
def tw3328100983894739336:=0
def tw4602288410014136968:=0
def tw9039585085515691367:=0
def tw12368388851608138394:=0
def tw9675135568613969991:=0
def tw11294643734430926682:=0
def tw3386237011491483147:=0
def tw2147657653803579987:=0
def tw7841181113971621022:=0
def tw14280573026413892819:=0
def tw1760494750483184130:=0
def tw3992715163579322691:=0
def tw7144626350415352153:=0
def tw3845208249021087624:=0
def tw172299692515298813:=0
def tw7872027281563696619:=0
def tw461149715370806241:=0
def tw10444232722542274946:=0
def tw649756589987710806:=0
def tw10893964880235288855:=0
def tw14177219820979892390:=0
def tw11984376885516226851:=0
def tw14530582633780620973:=0
def tw11939597086514821288:=0
def tw10040700878219236649:=0
def tw18115304270532847969:=0
def tw5335304648736760758:=0
def tw11717576863832355925:=0
def tw12976959104416810253:=0
def tw9519970206530938729:=0
def tw5374930131861527304:=0
def tw4830554348294868661:=0
def tw6126856701232651490:=0
def tw8581975900344204377:=0
def tw16654881496457698263:=0
def tw12375561661606124049:=0
def tw17734429294049866056:=0
def tw13737416038638789510:=0
def tw3258647193348798517:=0
def tw10274082322331234662:=0
def tw6536902368462439560:=0
def tw16034789518697306292:=0
def tw2713000275437514473:=0
def tw3525013739582324578:=0
def tw15142773249214261428:=0
def tw6327351162132377583:=0
def tw16480339238432891741:=0
def tw10422388988085614881:=0
def tw13313897748128419913:=0
def tw16566380191835148530:=0
def tw15854788301742687157:=0
def tw9913653027431183106:=0
def tw2435687541347468866:=0
def tw4088741395192621450:=0
def tw8629773636938674328:=0
def tw18014345156221672480:=0
def tw18443857421926068308:=0
def tw9463170044184262732:=0
def tw18239433610523733296:=0
def tw4745884337689250284:=0
def tw15198091690935399669:=0
def tw13983458903616544690:=0
def tw11413402576039503105:=0
def tw13712979993179947626:=0
def tw6951617577801727900:=0
def tw95917647815717134:=0
def tw6911942924484700488:=0
def tw12275744001815923535:=0
def tw9151608576718722913:=0
def tw228535070338813639:=0
def tw7470110203957203476:=0
def tw1712974619976098567:=0
def tw7994690972960590180:=0
def tw11899195439114899765:=0
def tw3578923648598509473:=0
def tw16406819096963576111:=0
def tw167670179246868077:=0
def tw7104953065168471905:=0
def tw17295607474819150296:=0
def tw14875740952887900290:=0
def tw4551069419108058654:=0
def tw3807020385573576290:=0
def tw9610537668593644441:=0
def tw4182722884174724842:=0
def tw18009122755549841764:=0
def tw669341181675982362:=0
def tw2567820431316621152:=0
def tw16493686530294959772:=0
def tw4293162844256099429:=0
def tw6290711216634455386:=0
def tw2234371949251034172:=0
def tw8057915764629978341:=0
def tw12778876281522324161:=0
def tw3039608903892350363:=0
def tw12024477806789702428:=0
def tw9824481921576257100:=0
def tw15979381645474703170:=0
def tw2439986369160970417:=0
def tw13640258885859670855:=0
def tw17784318780518427135:=0
def tw1293607656575671100:=0
def tw13226374415675139685:=0
def tw11018057454849172127:=0
def tw4851801379983349787:=0
def tw6956530691183994214:=0
def tw2137469085824003310:=0
def tw447692791448688718:=0
def tw15635347284929350653:=0
def tw14726764027815932861:=0
def tw17102436522943370814:=0
def tw14698656277458705486:=0
def tw10104179152139864446:=0
def tw9306931482094415637:=0
def tw13470844201189654052:=0
def tw832113450299936055:=0
def tw7306034087092816653:=0
def tw10140869862910043132:=0
def tw17338433361557258079:=0
def tw2542458858530583204:=0
def tw4348631241821515681:=0
def tw215314752116495897:=0
def tw7161322187658477706:=0
def tw7699719351542483781:=0
def tw13231335548506960062:=0
def tw380146084640242221:=0
def tw15536070045057118198:=0
def tw15727776939706041604:=0
def tw2910048486998530291:=0
def tw17771959478717792282:=0
def tw14531967121531049692:=0
def tw604643590533652721:=0
def tw1265737518834425858:=0
def tw6398569854843870746:=0
end PySem.W.Fast
namespace R
open PySem L2 PyProof.Rows
section
variable {l:m0a} {w:World} {K:q0a} {h:Heap} {mg:Str->Option Value}
structure Gd (K:q0a) (nm:Str) (st:Stmt) (f:Addr):Prop where
 a:j0e K mainGlobals nm=some (some (.ref f))
 F:∃ fd,Fun K nm nm st f fd
theorem Gd.df {nm:Str} {st:Stmt} {f:Addr} {ps:List Str} (X:K.In h) (G:h.Ns mainGlobals mg) (g:Gd K nm st f) (hb:∀ (kV doc pm:Value) (an:Option Addr) (cdv ct:Value) (us:List Value),us.length=ps.length->bindArgs (v0h nm nm (defArgs st) (defBody st) (defScope st) .none kV doc pm an cdv ct) ⟨us,[]⟩=pure (ps.zip us)):Df K mg nm st ps f:=by
 obtain ⟨a,_,F⟩:=g;exact ⟨⟨_,F,F.binds hb⟩,u0n X G a⟩
theorem lenS {us:List Value} {n:Nat} (h:us.length=n+1):∃ a r,us=a :: r/\r.length=n:=by
 cases us with
 | nil=>cases h
 | cons a r=>exact ⟨a,r,rfl,Nat.succ.inj h⟩
theorem lenv0 {us:List Value} (h:us.length=0):us=[]:=List.eq_nil_of_length_eq_zero h
theorem lenv1 {us:List Value} (h:us.length=1):∃ a0,us=[a0]:=by
 obtain ⟨_,_,rfl,g⟩:=lenS h;obtain ⟨rfl⟩:=lenv0 g;exact ⟨_,rfl⟩
theorem lenv2 {us:List Value} (h:us.length=2):∃ a0,∃ a1,us=[a0,a1]:=by
 obtain ⟨_,_,rfl,g⟩:=lenS h;obtain ⟨_,rfl⟩:=lenv1 g;exact ⟨_,_,rfl⟩
theorem lenv3 {us:List Value} (h:us.length=3):∃ a0,∃ a1,∃ a2,us=[a0,a1,a2]:=by
 obtain ⟨_,_,rfl,g⟩:=lenS h;obtain ⟨_,_,rfl⟩:=lenv2 g;exact ⟨_,_,_,rfl⟩
theorem lenv4 {us:List Value} (h:us.length=4):∃ a0,∃ a1,∃ a2,∃ a3,us=[a0,a1,a2,a3]:=by
 obtain ⟨_,_,rfl,g⟩:=lenS h;obtain ⟨_,_,_,rfl⟩:=lenv3 g;exact ⟨_,_,_,_,rfl⟩
theorem all_mk {fa f_common_divisor f_fraction f_content_of f_cleared f_turned f__law_flipped f__law_unit f__law_low f__law_urn f__law_draw f__law_number f__law_whole f__law_other f__law_plus f__law_times f__law_turn f_vectors_of f_cleaned f_upright_to f_mixed f_with_square f_over_content f_squared f_squares f_sign_of_whole f_sign_of f_signs f__law_sign f__law_drawn_form f__law_dot f__law_column f_check_pair f_matched f_made_of f_worth_at f__law_table_often f__law_table_times f__law_right f_law:Addr} {t_SHORT:Tok} {A_NOUGHT:Addr} {td_NOUGHT:Option Addr} {ts_NOUGHT:Array (Option Value)} {tn_NOUGHT:Nat} {tt0_NOUGHT tt1_NOUGHT:Tok}
  (X:K.In h) (G:h.Ns mainGlobals mg) (hfa:mg "law" = some (.ref fa))
  (g_common_divisor:Gd K "common_divisor" s_common_divisor f_common_divisor)
  (g_fraction:Gd K "fraction" s_fraction f_fraction)
  (g_content_of:Gd K "content_of" s_content_of f_content_of)
  (g_cleared:Gd K "cleared" s_cleared f_cleared)
  (g_turned:Gd K "turned" s_turned f_turned)
  (g__law_flipped:Gd K "_law_flipped" s__law_flipped f__law_flipped)
  (g__law_unit:Gd K "_law_unit" s__law_unit f__law_unit)
  (g__law_low:Gd K "_law_low" s__law_low f__law_low)
  (g__law_urn:Gd K "_law_urn" s__law_urn f__law_urn)
  (g__law_draw:Gd K "_law_draw" s__law_draw f__law_draw)
  (g__law_number:Gd K "_law_number" s__law_number f__law_number)
  (g__law_whole:Gd K "_law_whole" s__law_whole f__law_whole)
  (g__law_other:Gd K "_law_other" s__law_other f__law_other)
  (g__law_plus:Gd K "_law_plus" s__law_plus f__law_plus)
  (g__law_times:Gd K "_law_times" s__law_times f__law_times)
  (g__law_turn:Gd K "_law_turn" s__law_turn f__law_turn)
  (g_vectors_of:Gd K "vectors_of" s_vectors_of f_vectors_of)
  (g_cleaned:Gd K "cleaned" s_cleaned f_cleaned)
  (g_upright_to:Gd K "upright_to" s_upright_to f_upright_to)
  (g_mixed:Gd K "mixed" s_mixed f_mixed)
  (g_with_square:Gd K "with_square" s_with_square f_with_square)
  (g_over_content:Gd K "over_content" s_over_content f_over_content)
  (g_squared:Gd K "squared" s_squared f_squared)
  (g_squares:Gd K "squares" s_squares f_squares)
  (g_sign_of_whole:Gd K "sign_of_whole" s_sign_of_whole f_sign_of_whole)
  (g_sign_of:Gd K "sign_of" s_sign_of f_sign_of)
  (g_signs:Gd K "signs" s_signs f_signs)
  (g__law_sign:Gd K "_law_sign" s__law_sign f__law_sign)
  (g__law_drawn_form:Gd K "_law_drawn_form" s__law_drawn_form f__law_drawn_form)
  (g__law_dot:Gd K "_law_dot" s__law_dot f__law_dot)
  (g__law_column:Gd K "_law_column" s__law_column f__law_column)
  (g_check_pair:Gd K "check_pair" s_check_pair f_check_pair)
  (g_matched:Gd K "matched" s_matched f_matched)
  (g_made_of:Gd K "made_of" s_made_of f_made_of)
  (g_worth_at:Gd K "worth_at" s_worth_at f_worth_at)
  (g__law_table_often:Gd K "_law_table_often" s__law_table_often f__law_table_often)
  (g__law_table_times:Gd K "_law_table_times" s__law_table_times f__law_table_times)
  (g__law_right:Gd K "_law_right" s__law_right f__law_right)
  (g_law:Gd K "law" s_law f_law)
  (z_abs:j0e K mainGlobals "abs" = some none)
  (z_all:j0e K mainGlobals "all" = some none)
  (z_bool:j0e K mainGlobals "bool" = some none)
  (z_enumerate:j0e K mainGlobals "enumerate" = some none)
  (z_int:j0e K mainGlobals "int" = some none)
  (z_isinstance:j0e K mainGlobals "isinstance" = some none)
  (z_len:j0e K mainGlobals "len" = some none)
  (z_list:j0e K mainGlobals "list" = some none)
  (z_max:j0e K mainGlobals "max" = some none)
  (z_min:j0e K mainGlobals "min" = some none)
  (z_range:j0e K mainGlobals "range" = some none)
  (z_sum:j0e K mainGlobals "sum" = some none)
  (z_tuple:j0e K mainGlobals "tuple" = some none)
  (z_zip:j0e K mainGlobals "zip" = some none)
  (y_SHORT:j0e K mainGlobals "SHORT" = some (some (.int 6000 t_SHORT)))
  (y_NOUGHT:j0e K mainGlobals "NOUGHT" = some (some (.ref A_NOUGHT)))
  (u_NOUGHT:K.lookup A_NOUGHT=some ⟨.type "tuple",td_NOUGHT,.seq #[.int 0 tt0_NOUGHT,.int 1 tt1_NOUGHT] tn_NOUGHT,ts_NOUGHT⟩) :
  ∃ fd:FuncData,(∀ (s:Shared) (v:Value),BindsTo s fd ⟨[v],[]⟩ [("_law_script",v)])/\∀ base:Heap,K.In base->base.Ns mainGlobals mg->FnOk l.prog w K mg base CX0 (7+1) fa fd ["_law_script"] (spLaw K):=by
 have e:=hfa.symm.trans (u0n X G g_law.a)
 cases e
 obtain ⟨_,F_law⟩:=g_law.F;obtain ⟨oc,od,kV,doc,pm,an,cdv,ct,osl,rfl,_,_⟩:=F_law.ex;have d_common_divisor:Df K mg "common_divisor" s_common_divisor ["one","other"] f_common_divisor:=g_common_divisor.df X G λ_ _ _ _ _ _ us hl=>by obtain ⟨_,_,rfl⟩:=lenv2 hl;rfl
 have d_fraction:Df K mg "fraction" s_fraction ["top","bottom"] f_fraction:=g_fraction.df X G λ_ _ _ _ _ _ us hl=>by obtain ⟨_,_,rfl⟩:=lenv2 hl;rfl
 have d_content_of:Df K mg "content_of" s_content_of ["wholes"] f_content_of:=g_content_of.df X G λ_ _ _ _ _ _ us hl=>by obtain ⟨_,rfl⟩:=lenv1 hl;rfl
 have d_cleared:Df K mg "cleared" s_cleared ["numbers"] f_cleared:=g_cleared.df X G λ_ _ _ _ _ _ us hl=>by obtain ⟨_,rfl⟩:=lenv1 hl;rfl
 have d_turned:Df K mg "turned" s_turned ["table"] f_turned:=g_turned.df X G λ_ _ _ _ _ _ us hl=>by obtain ⟨_,rfl⟩:=lenv1 hl;rfl
 have d__law_flipped:Df K mg "_law_flipped" s__law_flipped ["_law_table"] f__law_flipped:=g__law_flipped.df X G λ_ _ _ _ _ _ us hl=>by obtain ⟨_,rfl⟩:=lenv1 hl;rfl
 have d__law_unit:Df K mg "_law_unit" s__law_unit ["_law_n"] f__law_unit:=g__law_unit.df X G λ_ _ _ _ _ _ us hl=>by obtain ⟨_,rfl⟩:=lenv1 hl;rfl
 have d__law_low:Df K mg "_law_low" s__law_low ["_law_top","_law_bottom"] f__law_low:=g__law_low.df X G λ_ _ _ _ _ _ us hl=>by obtain ⟨_,_,rfl⟩:=lenv2 hl;rfl
 have d__law_urn:Df K mg "_law_urn" s__law_urn ["_law_script","_law_at"] f__law_urn:=g__law_urn.df X G λ_ _ _ _ _ _ us hl=>by obtain ⟨_,_,rfl⟩:=lenv2 hl;rfl
 have d__law_draw:Df K mg "_law_draw" s__law_draw ["_law_urn_here","_law_many"] f__law_draw:=g__law_draw.df X G λ_ _ _ _ _ _ us hl=>by obtain ⟨_,_,rfl⟩:=lenv2 hl;rfl
 have d__law_number:Df K mg "_law_number" s__law_number ["_law_urn_here","_law_kind"] f__law_number:=g__law_number.df X G λ_ _ _ _ _ _ us hl=>by obtain ⟨_,_,rfl⟩:=lenv2 hl;rfl
 have d__law_whole:Df K mg "_law_whole" s__law_whole ["_law_thing"] f__law_whole:=g__law_whole.df X G λ_ _ _ _ _ _ us hl=>by obtain ⟨_,rfl⟩:=lenv1 hl;rfl
 have d__law_other:Df K mg "_law_other" s__law_other ["_law_urn_here","_law_kind"] f__law_other:=g__law_other.df X G λ_ _ _ _ _ _ us hl=>by obtain ⟨_,_,rfl⟩:=lenv2 hl;rfl
 have d__law_plus:Df K mg "_law_plus" s__law_plus ["_law_one","_law_other_here"] f__law_plus:=g__law_plus.df X G λ_ _ _ _ _ _ us hl=>by obtain ⟨_,_,rfl⟩:=lenv2 hl;rfl
 have d__law_times:Df K mg "_law_times" s__law_times ["_law_one","_law_other_here"] f__law_times:=g__law_times.df X G λ_ _ _ _ _ _ us hl=>by obtain ⟨_,_,rfl⟩:=lenv2 hl;rfl
 have d__law_turn:Df K mg "_law_turn" s__law_turn ["_law_urn_here","_law_kind","_law_n","_law_most"] f__law_turn:=g__law_turn.df X G λ_ _ _ _ _ _ us hl=>by obtain ⟨_,_,_,_,rfl⟩:=lenv4 hl;rfl
 have d_vectors_of:Df K mg "vectors_of" s_vectors_of ["form"] f_vectors_of:=g_vectors_of.df X G λ_ _ _ _ _ _ us hl=>by obtain ⟨_,rfl⟩:=lenv1 hl;rfl
 have d_cleaned:Df K mg "cleaned" s_cleaned ["row","chosen","at","before"] f_cleaned:=g_cleaned.df X G λ_ _ _ _ _ _ us hl=>by obtain ⟨_,_,_,_,rfl⟩:=lenv4 hl;rfl
 have d_upright_to:Df K mg "upright_to" s_upright_to ["vectors","at","before"] f_upright_to:=g_upright_to.df X G λ_ _ _ _ _ _ us hl=>by obtain ⟨_,_,_,rfl⟩:=lenv3 hl;rfl
 have d_mixed:Df K mg "mixed" s_mixed ["vectors","one","other"] f_mixed:=g_mixed.df X G λ_ _ _ _ _ _ us hl=>by obtain ⟨_,_,_,rfl⟩:=lenv3 hl;rfl
 have d_with_square:Df K mg "with_square" s_with_square ["vectors"] f_with_square:=g_with_square.df X G λ_ _ _ _ _ _ us hl=>by obtain ⟨_,rfl⟩:=lenv1 hl;rfl
 have d_over_content:Df K mg "over_content" s_over_content ["wholes"] f_over_content:=g_over_content.df X G λ_ _ _ _ _ _ us hl=>by obtain ⟨_,rfl⟩:=lenv1 hl;rfl
 have d_squared:Df K mg "squared" s_squared ["vectors"] f_squared:=g_squared.df X G λ_ _ _ _ _ _ us hl=>by obtain ⟨_,rfl⟩:=lenv1 hl;rfl
 have d_squares:Df K mg "squares" s_squares ["table"] f_squares:=g_squares.df X G λ_ _ _ _ _ _ us hl=>by obtain ⟨_,rfl⟩:=lenv1 hl;rfl
 have d_sign_of_whole:Df K mg "sign_of_whole" s_sign_of_whole ["whole"] f_sign_of_whole:=g_sign_of_whole.df X G λ_ _ _ _ _ _ us hl=>by obtain ⟨_,rfl⟩:=lenv1 hl;rfl
 have d_sign_of:Df K mg "sign_of" s_sign_of ["number"] f_sign_of:=g_sign_of.df X G λ_ _ _ _ _ _ us hl=>by obtain ⟨_,rfl⟩:=lenv1 hl;rfl
 have d_signs:Df K mg "signs" s_signs ["table"] f_signs:=g_signs.df X G λ_ _ _ _ _ _ us hl=>by obtain ⟨_,rfl⟩:=lenv1 hl;rfl
 have d__law_sign:Df K mg "_law_sign" s__law_sign ["_law_number_here"] f__law_sign:=g__law_sign.df X G λ_ _ _ _ _ _ us hl=>by obtain ⟨_,rfl⟩:=lenv1 hl;rfl
 have d__law_drawn_form:Df K mg "_law_drawn_form" s__law_drawn_form ["_law_urn_here","_law_kind","_law_n"] f__law_drawn_form:=g__law_drawn_form.df X G λ_ _ _ _ _ _ us hl=>by obtain ⟨_,_,_,rfl⟩:=lenv3 hl;rfl
 have d__law_dot:Df K mg "_law_dot" s__law_dot ["_law_row","_law_column_here"] f__law_dot:=g__law_dot.df X G λ_ _ _ _ _ _ us hl=>by obtain ⟨_,_,rfl⟩:=lenv2 hl;rfl
 have d__law_column:Df K mg "_law_column" s__law_column ["_law_table","_law_column_here"] f__law_column:=g__law_column.df X G λ_ _ _ _ _ _ us hl=>by obtain ⟨_,_,rfl⟩:=lenv2 hl;rfl
 have d_check_pair:Df K mg "check_pair" s_check_pair ["one","other"] f_check_pair:=g_check_pair.df X G λ_ _ _ _ _ _ us hl=>by obtain ⟨_,_,rfl⟩:=lenv2 hl;rfl
 have d_matched:Df K mg "matched" s_matched ["one","other"] f_matched:=g_matched.df X G λ_ _ _ _ _ _ us hl=>by obtain ⟨_,_,rfl⟩:=lenv2 hl;rfl
 have d_made_of:Df K mg "made_of" s_made_of ["table","column"] f_made_of:=g_made_of.df X G λ_ _ _ _ _ _ us hl=>by obtain ⟨_,_,rfl⟩:=lenv2 hl;rfl
 have d_worth_at:Df K mg "worth_at" s_worth_at ["table","column"] f_worth_at:=g_worth_at.df X G λ_ _ _ _ _ _ us hl=>by obtain ⟨_,_,rfl⟩:=lenv2 hl;rfl
 have d__law_table_often:Df K mg "_law_table_often" s__law_table_often ["_law_number_here","_law_table"] f__law_table_often:=g__law_table_often.df X G λ_ _ _ _ _ _ us hl=>by obtain ⟨_,_,rfl⟩:=lenv2 hl;rfl
 have d__law_table_times:Df K mg "_law_table_times" s__law_table_times ["_law_one","_law_other_here"] f__law_table_times:=g__law_table_times.df X G λ_ _ _ _ _ _ us hl=>by obtain ⟨_,_,rfl⟩:=lenv2 hl;rfl
 have d__law_right:Df K mg "_law_right" s__law_right ["_law_urn_here"] f__law_right:=g__law_right.df X G λ_ _ _ _ _ _ us hl=>by obtain ⟨_,rfl⟩:=lenv1 hl;rfl
 have n_abs:=z0t X G z_abs;have n_all:=z0t X G z_all;have n_bool:=z0t X G z_bool;have n_enumerate:=z0t X G z_enumerate;have n_int:=z0t X G z_int;have n_isinstance:=z0t X G z_isinstance;have n_len:=z0t X G z_len;have n_list:=z0t X G z_list;have n_max:=z0t X G z_max;have n_min:=z0t X G z_min;have n_range:=z0t X G z_range;have n_sum:=z0t X G z_sum;have n_tuple:=z0t X G z_tuple;have n_zip:=z0t X G z_zip;have c_SHORT:=u0n X G y_SHORT;have c_NOUGHT:=u0n X G y_NOUGHT;have t_NOUGHT:∀ H:Hp,SqT K H A_NOUGHT [.int 0,.int 1]:=λH=>.inr ⟨_,_,_,u_NOUGHT,rfl,rfl,(show 2<=sizeLine by decide),(.cons ⟨_,rfl⟩ (.cons ⟨_,rfl⟩ .nil))⟩
 refine ⟨v0h "law" "law" (defArgs s_law) (defBody s_law) (defScope s_law) .none kV doc pm an cdv ct,λs v=>.of_eq rfl,λbase _ _=>?_⟩
 have G_common_divisor:=ok_common_divisor (P:=l.prog) (w:=w) (base:=base) d_common_divisor ⟨_,c_SHORT⟩ n_abs;have G_fraction:=ok_fraction (P:=l.prog) (w:=w) (base:=base) d_fraction G_common_divisor;have G_content_of:=ok_content_of (P:=l.prog) (w:=w) (base:=base) d_content_of G_common_divisor;have G_cleared:=ok_cleared (P:=l.prog) (w:=w) (base:=base) d_cleared G_common_divisor;have G_turned:=ok_turned (P:=l.prog) (w:=w) (base:=base) d_turned n_range n_len;have G__law_flipped:=ok__law_flipped (P:=l.prog) (w:=w) (base:=base) d__law_flipped n_range n_len;have G__law_unit:=ok__law_unit (P:=l.prog) (w:=w) (base:=base) d__law_unit n_range n_int;have G__law_low:=ok__law_low (P:=l.prog) (w:=w) (base:=base) d__law_low n_abs;have G__law_urn:=ok__law_urn (P:=l.prog) (w:=w) (base:=base) d__law_urn n_len n_abs;have G__law_draw:=ok__law_draw (P:=l.prog) (w:=w) (base:=base) d__law_draw;have G__law_whole:=ok__law_whole (P:=l.prog) (w:=w) (base:=base) d__law_whole n_isinstance n_int n_bool;have GD__law_number:=okD__law_number (P:=l.prog) (w:=w) (base:=base) d__law_number G__law_draw G__law_low n_int;have GD__law_other:=okD__law_other (P:=l.prog) (w:=w) (base:=base) d__law_other G__law_draw GD__law_number;have G__law_plus:=ok__law_plus (P:=l.prog) (w:=w) (base:=base) d__law_plus G__law_low;have G__law_times:=ok__law_times (P:=l.prog) (w:=w) (base:=base) d__law_times G__law_low;have G__law_turn:=ok__law_turn (P:=l.prog) (w:=w) (base:=base) d__law_turn G__law_draw GD__law_other G__law_plus G__law_times G__law_unit n_range n_max n_zip;have G_vectors_of:=ok_vectors_of (P:=l.prog) (w:=w) (base:=base) d_vectors_of G_cleared n_enumerate n_range n_len;have G_cleaned:=ok_cleaned (P:=l.prog) (w:=w) (base:=base) d_cleaned n_zip;have G_upright_to:=ok_upright_to (P:=l.prog) (w:=w) (base:=base) d_upright_to G_cleaned n_enumerate;have G_mixed:=ok_mixed (P:=l.prog) (w:=w) (base:=base) d_mixed G_common_divisor n_zip;have G_with_square:=ok_with_square (P:=l.prog) (w:=w) (base:=base) d_with_square G_mixed n_enumerate n_range n_len;have G_over_content:=ok_over_content (P:=l.prog) (w:=w) (base:=base) d_over_content G_content_of n_list;have G_squared:=ok_squared (P:=l.prog) (w:=w) (base:=base) d_squared G_with_square G_content_of G_fraction G_upright_to G_over_content c_NOUGHT t_NOUGHT n_len;have G_squares:=ok_squares (P:=l.prog) (w:=w) (base:=base) d_squares G_turned G_vectors_of G_squared n_range n_len;have G_sign_of_whole:=ok_sign_of_whole (P:=l.prog) (w:=w) (base:=base) d_sign_of_whole;have G_sign_of:=ok_sign_of (P:=l.prog) (w:=w) (base:=base) d_sign_of G_sign_of_whole;have G_signs:=ok_signs (P:=l.prog) (w:=w) (base:=base) d_signs G_squares G_sign_of;have G__law_sign:=ok__law_sign (P:=l.prog) (w:=w) (base:=base) d__law_sign n_int;have G__law_drawn_form:=ok__law_drawn_form (P:=l.prog) (w:=w) (base:=base) d__law_drawn_form G__law_draw GD__law_other G__law_plus G__law_times G__law_turn G__law_sign n_range n_int;have G__law_dot:=ok__law_dot (P:=l.prog) (w:=w) (base:=base) d__law_dot G__law_plus G__law_times n_zip
 have G__law_column:=ok__law_column (P:=l.prog) (w:=w) (base:=base) d__law_column G__law_dot;have G_check_pair:=ok_check_pair (P:=l.prog) (w:=w) (base:=base) d_check_pair n_len;have G_matched:=ok_matched (P:=l.prog) (w:=w) (base:=base) d_matched G_fraction n_zip n_sum;have G_made_of:=ok_made_of (P:=l.prog) (w:=w) (base:=base) d_made_of G_check_pair G_cleared G_matched;have G_worth_at:=ok_worth_at (P:=l.prog) (w:=w) (base:=base) d_worth_at G_made_of G_cleared G_matched;have G__law_table_often:=ok__law_table_often (P:=l.prog) (w:=w) (base:=base) d__law_table_often G__law_times;have G__law_table_times:=ok__law_table_times (P:=l.prog) (w:=w) (base:=base) d__law_table_times G__law_flipped G__law_dot;have G__law_right:=ok__law_right (P:=l.prog) (w:=w) (base:=base) d__law_right G__law_draw G__law_drawn_form G_signs G__law_whole G__law_turn G__law_table_times G__law_flipped G__law_table_often GD__law_number G_worth_at G__law_dot G__law_column n_range n_list n_isinstance n_all n_tuple;exact ok_law (P:=l.prog) (w:=w) (base:=base) F_law G__law_urn G__law_right n_range n_max n_min n_len
end
theorem walk {l:m0a} {q:Program} {loose:List Str} {XP:(Str->Option Value)->Heap->Prop} {YP:World->Heap->Prop} {d:DefRec} {K:Params->q0a} (hn:l.most=some 63) (hdf:d.params.defaults=[])
  (hY:∀ (w:World) (h:Heap),YP w h->(K w.params).In h)
  (F:∀ (w:World) (mg:Str->Option Value) (fa:Addr) (h:Heap),(K w.params).In h->h.Ns mainGlobals mg->mg d.name=some (.ref fa) ->
   ∃ fd:FuncData,(∀ (s:Shared) (u:Value),BindsTo s fd ⟨[u],[]⟩ [("_law_script",u)])/\∀ base:Heap,(K w.params).In base->base.Ns mainGlobals mg->FnOk l.prog w (K w.params) mg base CX0 (7+1) fa fd ["_law_script"] (spLaw (K w.params))) :
  PySem.W.WalkO q loose XP YP l.row.toRowW d [] (λf vs=>PySem.call f vs) :=
 L2.walk_of (n:=63) (k:=(7+1)) (x := "_law_script") (CX:=λ_=>CX0) (sp:=λw=>spLaw (K w.params)) hn (by decide) hdf ⟨rfl,by decide,by decide⟩ hY F (λ_ _ a ns hl _ hS=>⟨a,ns,rfl,hS,hl,λ_=>rfl⟩) λ_ _ _ _ _ z=>z
end R
local macro_rules | `(tactic|left) => `(tactic|exact ⟨by k_is, _, L2.fun_mk (by k_is) (by k_is) (by k_is)⟩)
local macro_rules | `(tactic|right) => `(tactic|exact ⟨by k_is, by k_exc, by (refine ⟨?_, ?_, ?_, ?_, ?_, ?_⟩ <;> first | k_is | kernel_rfl)⟩)
open PySem PySem.W PyProof.Rows
set_option maxRecDepth 100000 in
theorem PySem.Challenge.cw_restward_k23_whole_signs_stay_holds : PySem.Challenge.rw_restward_k23_whole_signs_stay.Holds := by
  w_on;o_law;k_head;(case hw=>w_witness2)
  k_fill
  refine R.walk (l:=PySem.Challenge.rw_restward_k23_whole_signs_stay) rfl rfl (λw h Y=>PySem.W.kIn_of Y) ?F
  case F =>
    intro w mg fa h KX G hmg
    refine' R.all_mk KX G hmg ?g_common_divisor ?g_fraction ?g_content_of ?g_cleared ?g_turned ?g__law_flipped ?g__law_unit ?g__law_low ?g__law_urn ?g__law_draw ?g__law_number ?g__law_whole ?g__law_other ?g__law_plus ?g__law_times ?g__law_turn ?g_vectors_of ?g_cleaned ?g_upright_to ?g_mixed ?g_with_square ?g_over_content ?g_squared ?g_squares ?g_sign_of_whole ?g_sign_of ?g_signs ?g__law_sign ?g__law_drawn_form ?g__law_dot ?g__law_column ?g_check_pair ?g_matched ?g_made_of ?g_worth_at ?g__law_table_often ?g__law_table_times ?g__law_right ?g_law ?z_abs ?z_all ?z_bool ?z_enumerate ?z_int ?z_isinstance ?z_len ?z_list ?z_max ?z_min ?z_range ?z_sum ?z_tuple ?z_zip ?y_SHORT ?y_NOUGHT ?u_NOUGHT
    (case g_common_divisor=>left)
    (case g_fraction=>left)
    (case g_content_of=>left)
    (case g_cleared=>left)
    (case g_turned=>left)
    (case g__law_flipped=>left)
    (case g__law_unit=>left)
    (case g__law_low=>left)
    (case g__law_urn=>left)
    (case g__law_draw=>left)
    (case g__law_number=>left)
    (case g__law_whole=>left)
    (case g__law_other=>left)
    (case g__law_plus=>left)
    (case g__law_times=>left)
    (case g__law_turn=>left)
    (case g_vectors_of=>left)
    (case g_cleaned=>left)
    (case g_upright_to=>left)
    (case g_mixed=>left)
    (case g_with_square=>left)
    (case g_over_content=>left)
    (case g_squared=>left)
    (case g_squares=>left)
    (case g_sign_of_whole=>left)
    (case g_sign_of=>left)
    (case g_signs=>left)
    (case g__law_sign=>left)
    (case g__law_drawn_form=>left)
    (case g__law_dot=>left)
    (case g__law_column=>left)
    (case g_check_pair=>left)
    (case g_matched=>left)
    (case g_made_of=>left)
    (case g_worth_at=>left)
    (case g__law_table_often=>left)
    (case g__law_table_times=>left)
    (case g__law_right=>left)
    (case g_law=>left)
    (case z_abs=>k_is)
    (case z_all=>k_is)
    (case z_bool=>k_is)
    (case z_enumerate=>k_is)
    (case z_int=>k_is)
    (case z_isinstance=>k_is)
    (case z_len=>k_is)
    (case z_list=>k_is)
    (case z_max=>k_is)
    (case z_min=>k_is)
    (case z_range=>k_is)
    (case z_sum=>k_is)
    (case z_tuple=>k_is)
    (case z_zip=>k_is)
    (case y_SHORT=>k_is)
    (case y_NOUGHT=>k_is);(case u_NOUGHT=>k_is)

