import PyProof.Rows.All
import Wide.All
import OpenK.AllK
import Wide.FinOn
import PyProof.EqAt
import PyProof.EqKinds
import PyProof.TupleCall
import KE.KTryMore
import KE.KIsNot
import PyProof.MeetsStr
import PyProof.Rows.RuleM_int
import PyProof.CompFree
import PyProof.WalksEnum
import PyProof.EnumMake
import PyProof.NeKinds
import PyProof.ConsumeWalk
import PyProof.CompMap
import PyProof.Rows.EqBoolInt
import KE.IntBitsLaws
import PyProof.ZipIter
import PyProof.Rows.ZipGen
import PyProof.MinMaxWalk
import PyProof.WalkInts
import PyProof.Rows.CallKwBuiltin
import PyProof.CompUse
import KE.KRevIter
import PyProof.Rows.Range3
import PyProof.NsDelKeeps
import PyProof.SumAny
import PyProof.TupleIter
import PyProof.WalksMore
import PyProof.ListRange
import PyProof.CollectStr
import PyProof.TupleOfStr
import PySem.Challenge.RW_restward_k22_forms_led_to_squares
open PySem.W renaming Frag→q0a,kitOne→z0b,mg_none_of→z0s,nsIn→j0b,kia_one→j0q,keepIn→y0f,fnOf→y0u,hideAll_get→y0x,mg_of→v0k,findIn→v0y,cellsFrom_some→u0h,methodObj→g0e,instObj→g0w,hideAll→g0x,OpenLaw→g0y,lookIn→m0g,codeIn→m0h,excIn→m0q
open List renaming length_map→q0b,getElem?_eq_getElem→q0c,mem_append_right→q0e,getElem?_map→q0f,getElem?_eq_some_iff→q0h,mem_of_getElem?→q0j,size_toArray→q0t,length_take→q0x,mem_cons_of_mem→q0z,mem_singleton→z0c,range→z0e,mem_cons_self→z0g,length_range→z0j,length_set→z0k,getElem?_range→z0m,mem_cons→z0n,Nodup→z0t,mem_map→z0w,mem_or_eq_of_mem_set→z0y,map_cons→j0a,getElem?_eq_none→j0d,getElem?_append_left→j0f,length_append→j0g,getElem?_append_right→j0k,mem_append→j0p,map_append→j0v,length_drop→j0w,length_cons→j0x,nodup_cons→j0z,filterMap_cons→y0c,mem_iff_getElem?→y0h,replicate→y0m,countP_cons→y0n,take_length→y0p,lookup_cons→y0v,length_zipWith→y0z,getElem?_replicate→v0a,append_nil→v0b,take_of_length_le→v0c,length_replicate→v0g,getElem_of_mem→v0p,foldl_cons→v0q,set_cons_zero→v0v,set_cons_succ→v0w,mem_range→v0x,take_succ→v0z,getElem?_cons_zero→u0b,getElem?_cons_succ→u0c,getElem?_set→u0f,getElem?_set_self→u0g,mem_append_left→u0q,getElem?_set_ne→u0s,of_mem_zip→u0u,map_nil→u0v,mem_of_mem_take→u0w,countP_map→g0a,mem_filterMap→g0c,all_cons→g0d,nodup_append→g0f,getElem?_zip_eq_some→g0g,getElem?_take_of_lt→g0j,all_eq_true→g0k,getElem_mem→g0m,zipWith→g0n,cons_append→g0s,length_nil→m0a,nil_append→m0b,range_succ_eq_map→m0e,zipWith_cons_cons→m0f,getElem?_zipWith→m0k,getElem?_mapIdx→m0m,zipWith_append→m0u,map_map→m0y
open Nat renaming lt_of_lt_of_le→q0d,le_refl→q0k,lt_of_le_of_lt→q0m,le_trans→q0p,ne_of_lt→q0q,zero_le→z0f,pow_lt_pow_right→z0h,lt_or_ge→z0q,pow_add→z0u,pow_le_pow_right→z0v,mul_lt_mul''→j0e,lt_succ_self→j0j,le_succ→j0r,mul_le_mul→j0u,lt_irrefl→j0y,le_mul_of_pos_left→y0e,le_of_lt→y0q,mul_le_mul_right→y0t,mul_le_mul_left→y0y,lt_succ_of_lt→v0d,ne_of_gt→v0f,le_of_dvd→v0m,mul_pos→v0n,eq_zero_or_pos→v0u,le_mul_of_pos_right→u0a,le_add_right→u0k,lcm→u0n,two_pow_pos→u0x,mul_succ→u0y,add_sub_cancel_left→g0v,dvd_trans→m0r,Coprime→m0z
open PySem.Heap renaming lt_size→q0g,get?_push_of_some→q0n,get?_push_size→z0x,size_push→j0n,SameBut→u0r,get?_update_other→m0d,FlyingW→m0v
open Int renaming natAbs_natCast→q0r,gcd→q0s,natAbs_mul→z0a,natCast_mul→j0h,natAbs→j0m,natCast_dvd_natCast→j0s,mul_ne_zero→y0a,fmod_nonneg_of_pos→y0d,fmod_lt_of_pos→y0r,zero_add→y0w,gcd_dvd_right→v0e,natAbs_dvd_natAbs→v0h,gcd_dvd_left→v0j,natAbs_add_le→u0d,toNat→u0p,mul_le_mul_of_nonneg_right→u0z,mul_le_mul_of_nonneg_left→g0b,eq_of_mul_eq_mul_left→g0h,zero_mul→g0u,natAbs_of_nonneg→m0n,mul_comm→m0w,ne_of_gt→m0x,mul_pos→q1a
open Bool renaming false_ne_true→q0u,and_eq_true→j0t,not_eq_true'→y0k,false_eq_true→y0s,eq_iff_iff→u0t,or_eq_true→g0z,not_false→m0j,not_true→m0s
open Rat renaming intCast_mul→q0v,divInt→q0w,divInt_eq_divInt_iff→z0d,num_divInt_den→z0p,mul_inv_cancel→z0r,mul_eq_zero→j0c,intCast_inj→y0b,divInt_mul_divInt→y0g,intCast_add→y0j,num_intCast→v0r,den_intCast→v0s,divInt_eq_div→u0e,div_def→u0j,divInt_add_divInt→u0m,mul_comm→g0t,intCast_neg→m0c,lt_iff→m0p,one_mul→q1b
open Or renaming inl→q0y,inr→z0z
open Option renaming isSome_iff_exists→v0t,bind_none→g0p,bind_some→g0q,join_some→g0r
open Array renaming length_toList→m0t
set_option Elab.async false
set_option linter.all false
local macro_rules | `(def $i:declId $s:optDeclSig $v:declVal) => `(noncomputable def $i:declId $s:optDeclSig $v:declVal)
local macro_rules | `(abbrev $i:declId $s:optDeclSig $v:declVal) => `(noncomputable abbrev $i:declId $s:optDeclSig $v:declVal)
local macro_rules | `(⋯) => `(by omega)
set_option maxHeartbeats 0
noncomputable section
-- CHANGE: your row's module here,as the last of these rows
set_option maxRecDepth 100000
namespace L2
open PySem PySem.Spec PyProof.Rows
abbrev Key:=Sum Int Str
def bb5:Key->Value->Bool
 | .inl k,v=>Value.isInt k v
 | .inr x,v=>Value.isStrOf x v
def bi2 (w:World):Key->Int
 | .inl k=>hashInt k
 | .inr x=>hashStr w x
theorem A8:∀ {k:Key} {v:Value},bb5 k v=true->(∃ i t,k=Sum.inl i/\v=Value.int i t) \/ (∃ x t,k=Sum.inr x/\v=Value.str x t)
 | .inl i,v,h=>by
  obtain ⟨t,e⟩:=Value.isInt_shape (k:=i) (v:=v) h;exact .inl ⟨i,t,rfl,e⟩
 | .inr x,v,h=>by
  obtain ⟨t,e⟩:=Value.isStrOf_shape (x:=x) (v:=v) h;exact .inr ⟨x,t,rfl,e⟩
theorem bd9 (a b:Int):decide ((Sum.inl a:Key)=Sum.inl b)=(a == b):=by
 by_cases e:a=b
 ·subst e;simp
 ·have h:¬ (Sum.inl a:Key)=Sum.inl b:=λq=>e (Sum.inl.inj q)
  rw [decide_eq_false h];exact (beq_eq_false_iff_ne.mpr e).symm
theorem bd5 (a b:Str):decide ((Sum.inr a:Key)=Sum.inr b)=decide (a=b):=by
 by_cases e:a=b
 ·subst e;simp
 ·have h:¬ (Sum.inr a:Key)=Sum.inr b:=λq=>e (Sum.inr.inj q)
  rw [decide_eq_false h,decide_eq_false e]
theorem bd8 (a:Int) (b:Str):decide ((Sum.inl a:Key)=Sum.inr b)=false:=decide_eq_false (λq=>nomatch q)
theorem bd7 (a:Str) (b:Int):decide ((Sum.inr a:Key)=Sum.inl b)=false:=decide_eq_false (λq=>nomatch q)
def aB0 (prog:Program) (w:World):PySem.KeyKind prog w Key where
 is:=bb5
 hash:=bi2 w
 inj:=λv a b ha hb=>by
  rcases A8 ha with ⟨i,t,rfl,rfl⟩ | ⟨x,t,rfl,rfl⟩
  ·rcases A8 hb with ⟨j,u,rfl,e⟩ | ⟨y,u,rfl,e⟩
   ·injection e with e1 _;rw [e1]
   ·exact nomatch e
  ·rcases A8 hb with ⟨j,u,rfl,e⟩ | ⟨y,u,rfl,e⟩
   ·exact nomatch e
   ·injection e with e1 _;rw [e1]
 byValue:=λk v h=>by
  rcases A8 h with ⟨i,t,rfl,rfl⟩ | ⟨x,t,rfl,rfl⟩ <;> rfl
 pyHash:=λhv h=>by
  rcases A8 hv with ⟨i,t,rfl,rfl⟩ | ⟨x,t,rfl,rfl⟩
  ·exact wpAny_pyHash_int h
  ·exact wpAny_pyHash_str h
 eqBool:=λhu hv h=>by
  rcases A8 hu with ⟨i,t,rfl,rfl⟩ | ⟨x,t,rfl,rfl⟩
  ·rcases A8 hv with ⟨j,u,rfl,rfl⟩ | ⟨y,u,rfl,rfl⟩
   ·rw [bd9] at h;exact wpAny_eqBool_int h
   ·rw [bd8] at h;exact SeqAt.EqAt.int_str i t y u _ _ _ _ h
  ·rcases A8 hv with ⟨j,u,rfl,rfl⟩ | ⟨y,u,rfl,rfl⟩
   ·rw [bd7] at h;exact SeqAt.EqAt.str_int x t j u _ _ _ _ h
   ·rw [bd5] at h;exact wpAny_eqBool_str h
 «strs» := λk x t v h=>by
  rcases A8 h with ⟨i,u,rfl,e⟩ | ⟨y,u,rfl,e⟩
  ·exact nomatch e
  ·injection e with e1 _
   subst e1
   cases v <;> rfl
inductive V where
 | non | bl (b:Bool) | int (i:Int) | str (x:Str) | byt (b:Array UInt8) | flt (b:UInt64) | ref (a:Addr) | ty (n:String)
 deriving DecidableEq
def y1:V->Value->Prop
 | .non,u=>u=Value.none
 | .bl b,u=>u=Value.bool b
 | .int i,u => ∃ t,u=Value.int i t
 | .str x,u => ∃ t,u=Value.str x t
 | .byt b,u => ∃ t,u=Value.bytes b t
 | .flt b,u => ∃ t,u=Value.float b t
 | .ref a,u=>u=Value.ref a
 | .ty n,u=>u=Value.type n
abbrev m6:List V->List Value->Prop:=Paired y1
theorem m6.length {xs:List V} {us:List Value} (r:m6 xs us):xs.length=us.length:=Paired.length r
theorem m6.get:∀ {xs:List V} {us:List Value} {i:Nat} {x:V},m6 xs us->xs[i]? = some x->∃ u,us[i]? = some u/\y1 x u
 | _,_,_,_,.nil,e=>by simp at e
 | _,_,0,_,.cons r _,e=>by simp at e;subst e;exact ⟨_,rfl,r⟩
 | _,_,i+1,x,.cons _ t,e=>by
  obtain ⟨u,h1,h2⟩:=m6.get (i:=i) (x:=x) t (by simpa using e)
  exact ⟨u,by simpa using h1,h2⟩
theorem m6.set {x:V} {u:Value} (r:y1 x u):∀ {xs:List V} {us:List Value} (i:Nat),m6 xs us->m6 (xs.set i x) (us.set i u)
 | _,_,_,.nil=>.nil
 | _,_,0,.cons _ t=>.cons r t
 | _,_,i+1,.cons q t=>.cons q (m6.set r i t)
theorem m6.append:∀ {xs ys:List V} {us ws:List Value},m6 xs us->m6 ys ws->m6 (xs ++ ys) (us ++ ws)
 | _,_,_,_,.nil,s=>s
 | _,_,_,_,.cons r t,s=>.cons r (m6.append t s)
theorem m6.take:∀ {xs:List V} {us:List Value} (n:Nat),m6 xs us->m6 (xs.take n) (us.take n)
 | _,_,0,_=>.nil
 | _,_,_+1,.nil=>.nil
 | _,_,n+1,.cons r t=>.cons r (m6.take n t)
theorem m6.drop:∀ {xs:List V} {us:List Value} (n:Nat),m6 xs us->m6 (xs.drop n) (us.drop n)
 | _,_,0,r=>r
 | _,_,_+1,.nil=>.nil
 | _,_,n+1,.cons _ t=>m6.drop n t
def bf1:Option V->Option Value->Prop
 | some v,some u=>y1 v u
 | none,none=>True
 | _,_=>False
def KV {κ:Type}:List (κ × V)->List (κ × Value)->Prop:=Paired λ(p:κ × V) (q:κ × Value)=>p.1=q.1/\y1 p.2 q.2
def kV:Key->V
 | .inl i=>.int i
 | .inr x=>.str x
inductive HO where
  | lst (xs:List V)
  | tup (xs:List V)
  | dK (kvs:List (Key × V)) | dT (kvs:List (List Key × V))
  | set (S:Int->Bool) (n:Nat)
  | ins (C dx:Addr) (fs:List (Str × V))
  | own (x:Addr)
  | xd (fs:List (Str × V))
  | met (f x:Addr)
  | rng (lo hi:Int)
  | frz (o:Obj) (u:HO)
  | tbl (ps:Array Value)
  | ext (φ:Heap->Prop)
abbrev Hp:=Addr->Option HO
def upd (H:Hp) (a:Addr) (o:HO):Hp:=λb=>if b=a then some o else H b
theorem a9 {H:Hp} {a:Addr} {o:HO}:upd H a o a=some o:=by unfold upd;rw [if_pos rfl]
theorem c8 {H:Hp} {a b:Addr} {o:HO} (h:b ≠ a):upd H a o b=H b:=by unfold upd;rw [if_neg h]
theorem bb3 {H:Hp} {a b:Addr} {o u:HO} (h:H a=some o) (h':H b=some u) (d:o ≠ u):a ≠ b:=by
 intro e;subst e;rw [h] at h';exact d (Option.some.inj h')
theorem c7 {H:Hp} {a b:Addr} {o:HO} (h:H a=some o) (h':H b=none):a ≠ b:=by
 intro e;subst e;rw [h] at h';cases h'
section
variable (P:Program) (w:World)
def C9 (H:Hp) (h:Heap) (a:Addr):HO->Prop
 | .lst xs=>xs.length<=sizeLine/\∃ (its:List Value) (n:Nat),m6 xs its/\h.get? a=some { cls:=.type "list",data:=.seq its.toArray n }
 | .tup xs=>xs.length<=sizeLine/\∃ its:List Value,m6 xs its/\IsTup h a its.toArray
 | .dK kvs=>kvs.length<=sizeLine/\(a == sysModules)=false/\∃ vs,KV kvs vs/\h.DictOf (aB0 P w) a vs
 | .dT kvs=>kvs.length<=sizeLine/\(a == sysModules)=false/\∃ xs:List (List Key × Addr × Value),
   Paired (λ(p:List Key × V) (q:List Key × Addr × Value)=>p.1=q.1/\H q.2.1=some (.tup (p.1.map kV))/\y1 p.2 q.2.2) kvs xs /\
   ∃ o es ep,h.get? a=some o/\o.ExactDict/\o.data=.dict es ep/\es.toList=xs.map (entryOfKey (tupleKind (aB0 P w)))/\(xs.map (·.1)).Nodup
 | .set S n=>h.SetOf (intKind P w) a S n
 | .ins C dx fs=>H dx=some (.own a)/\fs.length<=1000/\dx ≠ a/\h.get? a=some (g0w C dx) /\
   ∃ mA,h.Ns1 dx mA/\(∀ f,bf1 (fs.lookup f) (mA f))/\PySem.Within mA (fs.map (·.1))
 | .own _ => ∃ o,h.get? a=some o
 | .xd fs => ∃ mA,h.Ns1 a mA/\∀ f,bf1 (fs.lookup f) (mA f)
 | .rng lo hi => ∃ t u v,h.get? a=some { cls:=.type "range",data:=.fields #[.int lo t,.int hi u,.int 1 v] }
 | .frz o u=>h.get? a=some o/\C9 H h a u
 | .tbl ps=>h.get? a=some { cls:=.none,data:=.fields ps }
 | .met f x=>h.get? a=some (g0e (.ref f) (.ref x))
 | .ext φ=>φ h/\(∃ o,h.get? a=some o)/\∀ h1 h2:Heap,φ h1->(∀ o,h1.get? a=some o->h2.get? a=some o)->φ h2
def HOk (H:Hp) (h:Heap):Prop:=∀ a o,H a=some o->C9 P w H h a o
end
section
variable {P:Program} {w:World} {H H':Hp} {h h':Heap} {a:Addr} {o:HO}
theorem C9.lt (x:C9 P w H h a o):a<h.objs.size:=by
 cases o with
 | lst xs=>obtain ⟨_,_,_,_,e⟩:=x;exact q0g e
 | tup xs=>obtain ⟨_,_,_,p⟩:=x;exact p.lt
 | dK kvs=>obtain ⟨_,_,_,_,o,_,_,e,_⟩:=x;exact q0g e
 | dT kvs=>obtain ⟨_,_,_,_,o,_,_,e,_⟩:=x;exact q0g e
 | set S n=>obtain ⟨o,_,_,_,e,_⟩:=x;exact q0g e
 | ins C dx fs=>obtain ⟨_,_,_,e,_⟩:=x;exact q0g e
 | own y=>obtain ⟨_,e⟩:=x;exact q0g e
 | xd fs=>obtain ⟨_,⟨_,_,_,e,_⟩,_⟩:=x;exact q0g e
 | rng lo hi=>obtain ⟨_,_,_,e⟩:=x;exact q0g e
 | frz ob u=>obtain ⟨e,_⟩:=x;exact q0g e
 | tbl ps=>exact q0g (show h.get? a=some _ from x)
 | met f y=>exact q0g (show h.get? a=some _ from x)
 | ext φ=>obtain ⟨_,⟨_,e⟩,_⟩:=x;exact q0g e
theorem Paired.mapP {α β:Type} {F G:α->β->Prop}:∀ {l₁:List α} {l₂:List β},Paired F l₁ l₂->(∀ a b,F a b->G a b)->Paired G l₁ l₂
 | _,_,.nil,_=>.nil
 | _,_,.cons r t,f=>.cons (f _ _ r) (Paired.mapP t f)
theorem C9.stay (x:C9 P w H h a o) (k:∀ b u,(b=a \/ H b=some (.own a))->h.get? b=some u->h'.get? b=some u)
  (ho:∀ b,H b=some (.own a)->H' b=some (.own a)) (ht:∀ b xs,H b=some (.tup xs)->H' b=some (.tup xs)):C9 P w H' h' a o:=by
 induction o with
 | lst xs=>obtain ⟨z,its,n,r,e⟩:=x;exact ⟨z,its,n,r,k _ _ (.inl rfl) e⟩
 | tup xs=>obtain ⟨z,its,r,ob,e,c⟩:=x;exact ⟨z,its,r,ob,k _ _ (.inl rfl) e,c⟩
 | dK kvs=>obtain ⟨z,y,vs,r,ob,es,ep,e,c⟩:=x;exact ⟨z,y,vs,r,ob,es,ep,k _ _ (.inl rfl) e,c⟩
 | dT kvs =>
  obtain ⟨z,y,xs,r,ob,es,ep,e,c⟩:=x;exact ⟨z,y,xs,Paired.mapP r λp q z=>⟨z.1,ht _ _ z.2.1,z.2.2⟩,ob,es,ep,k _ _ (.inl rfl) e,c⟩
 | set S n=>obtain ⟨ob,es,ep,t,e,c⟩:=x;exact ⟨ob,es,ep,t,k _ _ (.inl rfl) e,c⟩
 | ins C dx fs =>
  obtain ⟨d,z,ne,e,mA,⟨od,es,ep,e2,c⟩,r⟩:=x;exact ⟨ho _ d,z,ne,k _ _ (.inl rfl) e,mA,⟨od,es,ep,k _ _ (.inr d) e2,c⟩,r⟩
 | own y=>obtain ⟨ob,e⟩:=x;exact ⟨ob,k _ _ (.inl rfl) e⟩
 | xd fs=>obtain ⟨mA,⟨od,es,ep,e,c⟩,r⟩:=x;exact ⟨mA,⟨od,es,ep,k _ _ (.inl rfl) e,c⟩,r⟩
 | rng lo hi=>obtain ⟨t,u,v,e⟩:=x;exact ⟨t,u,v,k _ _ (.inl rfl) e⟩
 | frz ob u ih=>obtain ⟨e,q⟩:=x;exact ⟨k _ _ (.inl rfl) e,ih q⟩
 | tbl ps =>
  have e:h.get? a=some { cls:=.none,data:=.fields ps }:=x
  show h'.get? a=some { cls:=.none,data:=.fields ps };exact k a _ (.inl rfl) e
 | met f y =>
  have e:h.get? a=some (g0e (.ref f) (.ref y)):=x
  show h'.get? a=some (g0e (.ref f) (.ref y));exact k a _ (.inl rfl) e
 | ext φ=>obtain ⟨p,⟨o,e⟩,st⟩:=x;exact ⟨st _ _ p λo q=>k _ _ (.inl rfl) q,⟨o,k _ _ (.inl rfl) e⟩,st⟩
theorem HOk.lt (x:HOk P w H h) (e:H a=some o):a<h.objs.size:=(x a o e).lt
theorem HOk.fresh (x:HOk P w H h) (e:h.objs.size<=a):H a=none:=by
 cases q:H a with
 | none=>rfl
 | some u=>exact absurd (q0d (x.lt q) e) (j0y _)
theorem HOk.kept (x:HOk P w H h) (k:∀ b u,h.get? b=some u->h'.get? b=some u):HOk P w H h':=λa o e =>
 (x a o e).stay (λb u _ q=>k b u q) (λ_ q=>q) λ_ _ q=>q
theorem HOk.laid (x:HOk P w H h) (k:∀ b u,h.get? b=some u->h'.get? b=some u) (hp:h.objs.size<=a) (new:C9 P w (upd H a o) h' a o):HOk P w (upd H a o) h':=λb u e=>by
 have hn:=x.fresh hp
 by_cases hb:b=a
 ·subst hb;rw [a9] at e;cases e;exact new
 ·rw [c8 hb] at e
  exact (x b u e).stay (λc v _ q=>k c v q) (λc q=>by rw [c8 (c7 q hn)];exact q) λc xs q=>by rw [c8 (c7 q hn)];exact q
end
def Rd (H:Hp) (a:Addr) (u:HO):Prop:=H a=some u \/ ∃ o,H a=some (.frz o u)
theorem Rd.ok {P:Program} {w:World} {H:Hp} {h:Heap} {a:Addr} {u:HO} (r:Rd H a u) (x:HOk P w H h):C9 P w H h a u:=by
 rcases r with r | ⟨o,r⟩
 ·exact x a u r
 ·obtain ⟨_,q⟩:=x a _ r
  exact q
def Mut:Option HO->Prop
 | some (.lst _)=>True
 | some (.dK _)=>True
 | some (.dT _)=>True
 | some (.set _ _)=>True
 | some (.ins _ _ _)=>True
 | some (.ext _)=>True
 | _=>False
section
variable {P:Program} {w:World} {H:Hp} {h h':Heap} {x e:Addr} {o':HO}
theorem HOk.write (ok:HOk P w H h) (mu:Mut (H x)) (he:e=x \/ H e=some (.own x)) (k:∀ b u,b ≠ e->h.get? b=some u->h'.get? b=some u) (heo:∃ u,h'.get? e=some u)
  (new:C9 P w (upd H x o') h' x o'):HOk P w (upd H x o') h':=λb u q=>by
 have nown:∀ c y,H c=some (.own y)->c ≠ x:=λc y r z=>by subst z;rw [r] at mu;exact mu
 have ntup:∀ c xs,H c=some (.tup xs)->c ≠ x:=λc xs r z=>by subst z;rw [r] at mu;exact mu
 by_cases hb:b=x
 ·subst hb;rw [a9] at q;cases q;exact new
 ·rw [c8 hb] at q
  by_cases hbe:b=e
  ·have q':H b=some (.own x):=by
    rcases he with z | z
    ·exact absurd (hbe.trans z) hb
    ·rw [hbe];exact z
   rw [q] at q';cases q';obtain ⟨v,hv⟩:=heo;exact ⟨v,by rw [hbe];exact hv⟩
  ·refine (ok b u q).stay (λc v hc r=>k c v ?_ r) (λc r=>by rw [c8 (nown c b r)];exact r) λc xs r=>by rw [c8 (ntup c xs r)];exact r
   rcases hc with rfl | hc
   ·exact hbe
   ·rintro rfl
    rcases he with z | z
    ·exact nown c b hc z
    ·rw [hc] at z;cases z;exact hb rfl
end
structure Un (fs ex:List Addr) (H H':Hp) (h h':Heap):Prop where
 keep:∀ b o,h.get? b=some o->H b=none->b ∉ fs->b ∉ ex->h'.get? b=some o
 slot:∀ b o,h.get? b=some o->H b=none->b ∈ fs->b ∉ ex->∃ sl,h'.get? b=some { o with slots:=sl }
 free:∀ b o,h.get? b=some o->H b=none->b ∉ ex->H' b=none
 there:∀ b o,h.get? b=some o->b ∉ ex->∃ o',h'.get? b=some o'
 tups:∀ b xs,H b=some (.tup xs)->H' b=some (.tup xs)
 frzs:∀ b o u,H b=some (.frz o u)->H' b=some (.frz o u)
 tbls:∀ b ps,H b=some (.tbl ps)->∃ more,H' b=some (.tbl (ps ++ more))
section
variable {fs fs' ex ex':List Addr} {H H1 H2:Hp} {h h1 h2 h':Heap} {a x e:Addr} {o:HO}
theorem Un.any (u:Un fs ex H H1 h h1) {b:Addr} {ob:Obj} (q:h.get? b=some ob) (n:H b=none) (hx:b ∉ ex):∃ sl,h1.get? b=some { ob with slots:=sl }:=by
 by_cases hb:b ∈ fs
 ·exact u.slot b ob q n hb hx
 ·exact ⟨ob.slots,u.keep b ob q n hb hx⟩
theorem Un.kept (k:∀ b u,h.get? b=some u->h'.get? b=some u):Un fs ex H H h h' :=
 ⟨λb ob q _ _ _=>k b ob q,λb ob q _ _ _=>⟨ob.slots,k b ob q⟩,λ_ _ _ n _=>n,λb ob q _=>⟨ob,k b ob q⟩,λ_ _ q=>q,λ_ _ _ q=>q,λ_ ps q=>⟨#[],by rw [q];simp⟩⟩
theorem Un.refl:Un fs ex H H h h:=Un.kept λ_ _ q=>q
theorem Un.laid (k:∀ b u,h.get? b=some u->h'.get? b=some u) (hp:h.objs.size<=a) (hn:H a=none):Un fs ex H (upd H a o) h h' where
 keep:=λb u q _ _ _=>k b u q
 slot:=λb u q _ _ _=>⟨u.slots,k b u q⟩
 free:=λb u q n _=>by rw [c8 (q0q (q0d (q0g q) hp))];exact n
 there:=λb u q _=>⟨u,k b u q⟩
 tups:=λb xs q=>by rw [c8 (c7 q hn)];exact q
 frzs:=λb u xs q=>by rw [c8 (c7 q hn)];exact q
 tbls:=λb ps q=>⟨#[],by rw [c8 (c7 q hn),q];simp⟩
theorem Un.write (mu:Mut (H x)) (he:e=x \/ H e=some (.own x)) (k:∀ b u,b ≠ e->h.get? b=some u->h'.get? b=some u) (heo:∃ u,h'.get? e=some u):Un fs ex H (upd H x o) h h':=by
 have hx:∀ b,H b=none->b ≠ x:=λb n z=>by subst z;rw [n] at mu;exact mu
 have hb:∀ b,H b=none->b ≠ e:=λb n z=>by
  subst z;rcases he with r | r
  ·exact hx b n r
  ·rw [n] at r;cases r
 have hm:∀ b u,H b=some u->¬ Mut (some u)->b ≠ x:=λb u q nm z=>by subst z;rw [q] at mu;exact nm mu
 refine ⟨λb u q n _ _=>k b u (hb b n) q,λb u q n _ _=>⟨u.slots,k b u (hb b n) q⟩,λb u q n _=>by rw [c8 (hx b n)];exact n,λb u q _=>?_,
  λb xs q=>by rw [c8 (hm b _ q λz=>z)];exact q,λb u xs q=>by rw [c8 (hm b _ q λz=>z)];exact q,λb ps q=>⟨#[],by rw [c8 (hm b _ q λz=>z),q];simp⟩⟩
 by_cases hbe:b=e
 ·subst hbe;exact heo
 ·exact ⟨u,k b u hbe q⟩
end
def trk (h:Heap) (H:Hp):List Addr:=(z0e h.objs.size).filter λa=>(H a).isSome
def aB3 (h:Heap) (H:Hp):Heap:=g0x h (trk h H)
theorem aQ0 (h:Heap) (H:Hp):(aB3 h H).objs.size=h.objs.size:=PySem.W.hideAll_size _ _
theorem aV2 {h:Heap} {H:Hp} {b:Addr} {o:Obj} (e:h.get? b=some o) (n:H b=none):(aB3 h H).get? b=some o :=
 y0x _ e λhm=>by
  have q:(H b).isSome=true:=(List.mem_filter.mp hm).2;rw [n] at q;simp at q
theorem aY7 {h:Heap} {H:Hp} {b:Addr} {o:Obj} (e:(aB3 h H).get? b=some o):h.get? b=some o/\H b=none:=by
 have e':h.get? b=some o:=PySem.W.of_hideAll (trk h H) e;refine ⟨e',?_⟩
 cases q:H b with
 | none=>rfl
 | some x =>
  have hm:b ∈ trk h H:=List.mem_filter.mpr ⟨v0x.mpr (q0g e'),by simp [q]⟩
  have z:(aB3 h H).get? b=none:=PySem.W.hideAll_none (trk h H) hm;rw [z] at e;cases e
def ba3 (g h:Heap) (L:Addr):List (Addr × Obj):=(z0e h.objs.size).filterMap λa=>if a=L \/ (g.get? a).isSome=true then none else (h.get? a).map λo=>(a,o)
def ao8 (g h:Heap) (L d:Addr):List (Addr × Obj):=(ba3 g h L).filter λp=>decide (p.1 ≠ d)
structure Mod (K:q0a) (mg:Str->Option Value) (base:Heap):Prop where
 kin:K.In base
 glob:base.Ns mainGlobals mg
 blt:∃ mb,base.Ns builtinsNs mb/\∀ x:Str,x ≠ "__name__"->mb x=bootBuiltins x
 nolimit:base.NoLimit
structure Cx where
 prog:Program
 w:World
 K:q0a
 mg:Str->Option Value
 base:Heap
 A:Around
 N:List Str
 s₀:Shared
 H₀:Hp
 env:Env
 outer:List Env
 stack:List Env
 ex:List Addr
 fn:Str->Bool
 calm:Bool
 pn:List (Addr × Obj)
 xe:Value->Shared->Prop
def frs (l:List Env):List Addr:=l.filterMap (·.frame)
abbrev Cx.fs (X:Cx):List Addr:=frs X.outer
def Vis (sc:Scope) (x:Str):Prop:=sc.names.lookup x=some .local \/ sc.names.lookup x=some .cell \/ sc.names.lookup x=some .free
def Loc (sc:Scope) (x:Str):Prop:=sc.names.lookup x=some .local \/ sc.names.lookup x=some .cell
def bi7 (env:Env) (h:Heap) (m:Str->Option Value) (x:Str) (u:Value):Prop :=
 (env.kindOf x=some .local/\m x=some u) \/ ((env.kindOf x=some .cell \/ env.kindOf x=some .free)/\∃ c,env.cells.lookup x=some c/\h.IsCell c (some u))
structure Cx.Ok (X:Cx):Prop where
 mod:Mod X.K X.mg X.base
 kind:X.env.scope.kind=.function
 glob:X.env.globals=mainGlobals
 blt:X.env.builtins=builtinsNs
 above:X.s₀.heap.objs.size<=X.env.locals
 inj:∀ x y c,X.env.cells.lookup x=some c->X.env.cells.lookup y=some c->x=y
 has:∀ x,(X.env.kindOf x=some .cell \/ X.env.kindOf x=some .free)->∃ c,X.env.cells.lookup x=some c
 cab:∀ x c,X.fn x=true->X.env.cells.lookup x=some c->X.s₀.heap.objs.size<=c
 hd:X.calm=true->X.A.handled=none
 frames:X.A.frames=some X.stack
 stk:X.stack=X.outer \/ (X.stack=X.env :: X.outer/\X.env.frame=some X.env.locals)
 exf:∀ b ∈ X.ex,b ≠ X.env.locals/\∀ x c,X.env.cells.lookup x=some c->c ≠ b
 bs:∀ b o,X.base.get? b=some o->X.s₀.heap.get? b=some o/\X.H₀ b=none
 bsz:X.base.objs.size<=X.s₀.heap.objs.size
 noex:∀ b o,X.base.get? b=some o->b ∉ X.ex
 exfs:∀ b ∈ X.ex,b ∉ X.fs
 funs:X.s₀.heap.FunFrames X.base X.outer
 frf:∀ b ∈ X.fs,X.H₀ b=none
structure Inv (X:Cx) (pins:List (Addr × Obj)) (σ:List (Option V)) (H:Hp) (s:Shared):Prop where
 ok:X.Ok
 os:s.os=X.s₀.os
 bare:AllBare s.gens
 base:Un X.fs X.ex X.H₀ H X.s₀.heap s.heap
 loc:∃ m,s.heap.Ns X.env.locals m/\∀ (i:Nat) (x:Str) (v:V),X.N[i]? = some x->σ[i]? = some (some v)->Vis X.env.scope x->∃ u,y1 v u/\bi7 X.env s.heap m x u
 cell:∀ x c,X.env.cells.lookup x=some c->∃ v,s.heap.IsCell c v
 free:H X.env.locals=none
 freeC:∀ x c,X.env.cells.lookup x=some c->H c=none
 pin:∀ p ∈ X.pn ++ pins,s.heap.get? p.1=some p.2/\H p.1=none/\p.1 ≠ X.env.locals/\p.1 ∉ X.fs/\∀ v,p.2.data ≠ .cell v
 hok:HOk X.prog X.w H s.heap
 len:σ.length=X.N.length
section
variable {X:Cx} {pins:List (Addr × Obj)} {σ:List (Option V)} {H H':Hp} {s:Shared} {h':Heap}
theorem Cx.Ok.nofr (ok:X.Ok) {b:Addr} {o:Obj} (e:X.base.get? b=some o):b ∉ X.fs:=λhb=>by
 have:=(ok.funs.mem hb).1;rw [e] at this;cases this
theorem Inv.bs (I:Inv X pins σ H s):∀ b o,X.base.get? b=some o->s.heap.get? b=some o/\H b=none:=λb o e =>
 ⟨I.base.keep b o (I.ok.bs b o e).1 (I.ok.bs b o e).2 (I.ok.nofr e) (I.ok.noex b o e),I.base.free b o (I.ok.bs b o e).1 (I.ok.bs b o e).2 (I.ok.noex b o e)⟩
theorem Inv.bk (I:Inv X pins σ H s):∀ b o,X.base.get? b=some o->s.heap.get? b=some o:=λb o e=>(I.bs b o e).1
theorem Inv.mod (I:Inv X pins σ H s):Mod X.K X.mg X.base:=I.ok.mod
theorem Inv.kIn (I:Inv X pins σ H s):X.K.In s.heap:=I.ok.mod.kin.keeps I.bk
theorem Inv.fr (I:Inv X pins σ H s):∃ m,Fr X.base X.env.locals s.heap m :=
 let ⟨m,hn,_⟩:=I.loc
 ⟨m,hn,I.bk,q0p I.ok.bsz I.ok.above⟩
theorem Inv.lt (I:Inv X pins σ H s):X.env.locals<s.heap.objs.size:=let ⟨_,hn,_⟩:=I.loc;hn.lt
theorem Inv.sz (I:Inv X pins σ H s):X.s₀.heap.objs.size<=s.heap.objs.size:=q0p I.ok.above (y0q I.lt)
theorem Inv.nofs (I:Inv X pins σ H s) {a:Addr} (h:s.heap.objs.size<=a):a ∉ X.fs:=λhb=>by
 obtain ⟨_,o,ho,_⟩:=I.ok.funs.mem hb;exact absurd (q0d (q0g ho) (q0p I.sz h)) (j0y _)
theorem Inv.cne (I:Inv X pins σ H s):∀ x c,X.env.cells.lookup x=some c->c ≠ X.env.locals:=λx c e z=>by
 obtain ⟨v,o,ho,hd⟩:=I.cell x c e;obtain ⟨m,⟨o',es,ep,ho',hd',_⟩,_⟩:=I.loc;rw [z,ho'] at ho;cases ho;rw [hd'] at hd;cases hd
theorem Inv.funs (I:Inv X pins σ H s):s.heap.FunFrames X.base X.outer:=by
 have all:∀ (l:List Env),(∀ b ∈ frs l,b ∈ X.fs)->X.s₀.heap.FunFrames X.base l->s.heap.FunFrames X.base l:=by
  intro l
  induction l with
  | nil=>intro _ _;trivial
  | cons env r ih =>
   intro hs hl;obtain ⟨hk,⟨L,o,hf,hn,ho,hd⟩,hr⟩:=hl;have hL:L ∈ X.fs:=hs L (by unfold frs;rw [y0c,hf];exact z0g)
   obtain ⟨sl,e⟩:=I.base.slot L o ho (I.ok.frf L hL) hL λz=>I.ok.exfs L z hL;exact ⟨hk,⟨L,_,hf,hn,e,hd⟩,ih (λb hb=>hs b (by unfold frs;rw [y0c,hf];exact q0z _ hb)) hr⟩
 exact all X.outer (λ_ hb=>hb) I.ok.funs
theorem Inv.stack (I:Inv X pins σ H s):s.heap.FunFrames X.base X.stack:=by
 rcases I.ok.stk with e | ⟨e,hf⟩
 ·rw [e];exact I.funs
 ·rw [e]
  obtain ⟨m,hn,_⟩:=I.loc;refine .cons (by rw [I.ok.kind];decide) hf hn ?_ I.funs
  exact Heap.get?_none_of_le (q0p I.ok.bsz I.ok.above)
theorem Inv.stkSub (I:Inv X pins σ H s):∀ b ∈ frs X.stack,b ∈ X.env.locals :: X.fs:=λb hb=>by
 rcases I.ok.stk with e | ⟨e,hf⟩
 ·rw [e] at hb;exact q0z _ hb
 ·rw [e] at hb
  unfold frs at hb;rw [y0c,hf] at hb;exact hb
theorem Inv.stkFree (I:Inv X pins σ H s):∀ b ∈ frs X.stack,H b=none:=λb hb=>by
 rcases z0n.mp (I.stkSub b hb) with e | hb
 ·rw [e];exact I.free
 ·obtain ⟨_,o,ho,_⟩:=I.ok.funs.mem hb
  exact I.base.free b o ho (I.ok.frf b hb) λz=>I.ok.exfs b z hb
theorem Inv.step {g':Array GenState} {t':Nat} {d':Drawn} {ch:List Addr} (I:Inv X pins σ H s)
  (hch:∀ b ∈ ch,(b ∈ X.ex \/ X.s₀.heap.objs.size<=b)/\b ≠ X.env.locals/\(∀ x c,X.env.cells.lookup x=some c->c ≠ b)/\∀ p ∈ X.pn ++ pins,p.1 ≠ b)
  (keep:∀ b o,b ≠ X.env.locals->b ∉ X.fs->b ∉ ch->s.heap.get? b=some o->H b=none->h'.get? b=some o)
  (slot:∀ b o,b ≠ X.env.locals->b ∈ X.fs->b ∉ ch->s.heap.get? b=some o->H b=none->∃ sl,h'.get? b=some { o with slots:=sl }) (free:∀ b o,b ∉ ch->s.heap.get? b=some o->H b=none->H' b=none)
  (there:∀ b o,b ∉ ch->s.heap.get? b=some o->∃ o',h'.get? b=some o')
  (tups:∀ b xs,H b=some (.tup xs)->H' b=some (.tup xs)) (frzs:∀ b o u,H b=some (.frz o u)->H' b=some (.frz o u)) (tbls:∀ b ps,H b=some (.tbl ps)->∃ more,H' b=some (.tbl (ps ++ more)))
  (ns:∀ m,s.heap.Ns X.env.locals m->h'.Ns X.env.locals m) (hok:HOk X.prog X.w H' h') (hg:AllBare g') :
  Inv X pins σ H' { s with heap:=h',gens:=g',drawn:=d',toks:=t' }:=by
 have neL:∀ b o,X.s₀.heap.get? b=some o->b ≠ X.env.locals:=λb o e=>q0q (q0d (q0g e) I.ok.above)
 have neC:∀ b o,X.s₀.heap.get? b=some o->b ∉ X.ex->b ∉ ch:=λb o e hx hb=>by
  rcases (hch b hb).1 with z | z
  ·exact hx z
  ·exact absurd (q0d (q0g e) z) (j0y _)
 have cellK:∀ x c,X.env.cells.lookup x=some c->∀ v,s.heap.IsCell c v->h'.IsCell c v:=λx c e v ⟨o,ho,hd⟩=>by
  have nch:c ∉ ch:=λz=>(hch c z).2.2.1 x c e rfl
  by_cases hc:c ∈ X.fs
  ·obtain ⟨sl,q⟩:=slot c o (I.cne x c e) hc nch ho (I.freeC x c e)
   exact ⟨_,q,hd⟩
  ·exact ⟨o,keep c o (I.cne x c e) hc nch ho (I.freeC x c e),hd⟩
 refine ⟨I.ok,I.os,hg,⟨λb o e n hb hx=>?_,λb o e n hb hx=>?_,λb o e n hx=>?_,λb o e hx=>?_,λb xs e=>tups b xs (I.base.tups b xs e),λb o xs e=>frzs b o xs (I.base.frzs b o xs e),λb ps e=>?_⟩,?_,λx c e=>?_,?_,λx c e=>?_,λp hp=>?_,hok,I.len⟩
 ·exact keep b o (neL b o e) hb (neC b o e hx) (I.base.keep b o e n hb hx) (I.base.free b o e n hx)
 ·obtain ⟨sl,e1⟩:=I.base.slot b o e n hb hx
  obtain ⟨sl',e2⟩:=slot b _ (neL b o e) hb (neC b o e hx) e1 (I.base.free b o e n hx);exact ⟨sl',e2⟩
 ·obtain ⟨o',e1⟩:=I.base.there b o e hx
  exact free b o' (neC b o e hx) e1 (I.base.free b o e n hx)
 ·obtain ⟨o',e1⟩:=I.base.there b o e hx
  exact there b o' (neC b o e hx) e1
 ·obtain ⟨m1,e1⟩:=I.base.tbls b ps e
  obtain ⟨m2,e2⟩:=tbls b _ e1;exact ⟨m1 ++ m2,by rw [e2,Array.append_assoc]⟩
 ·obtain ⟨m,hn,hl⟩:=I.loc
  refine ⟨m,ns m hn,λi x v e1 e2 e3=>?_⟩;obtain ⟨u,r,l⟩:=hl i x v e1 e2 e3;refine ⟨u,r,?_⟩;rcases l with l | ⟨k,c,e,z⟩
  ·exact .inl l
  ·exact .inr ⟨k,c,e,cellK x c e _ z⟩
 ·obtain ⟨v,z⟩:=I.cell x c e
  exact ⟨v,cellK x c e v z⟩
 ·obtain ⟨m,⟨o,_,_,ho,_⟩,_⟩:=I.loc
  exact free _ o (λz=>(hch _ z).2.1 rfl) ho I.free
 ·obtain ⟨v,o,ho,hd⟩:=I.cell x c e
  exact free c o (λz=>(hch c z).2.2.1 x c e rfl) ho (I.freeC x c e)
 ·obtain ⟨e,n,ne,nf,d⟩:=I.pin p hp
  have nch:p.1 ∉ ch:=λz=>(hch p.1 z).2.2.2 p hp rfl;exact ⟨keep p.1 p.2 ne nf nch e n,free p.1 p.2 nch e n,ne,nf,d⟩
theorem Inv.un {t':Nat} (I:Inv X pins σ H s) (u:Un X.fs [] H H' s.heap h') (hok:HOk X.prog X.w H' h'):Inv X pins σ H' { s with heap:=h',toks:=t' }:=by
 obtain ⟨m,⟨o,es,ep,ho,r⟩,_⟩:=id I.loc;obtain ⟨sl,hL⟩:=u.any ho I.free (by simp)
 exact I.step (g':=s.gens) (d':=s.drawn) (ch:=[]) (λ_ z=>nomatch z) (λb o _ hb _ e n=>u.keep b o e n hb (by simp)) (λb o _ hb _ e n=>u.slot b o e n hb (by simp)) (λb o _ e n=>u.free b o e n (by simp)) (λb o _ e=>u.there b o e (by simp)) u.tups u.frzs u.tbls (λm' hm=>by
  obtain ⟨o',es',ep',ho',r'⟩:=hm;rw [ho] at ho';cases ho';exact ⟨_,es',ep',hL,r'⟩) hok I.bare
theorem Inv.call {g':Array GenState} {t':Nat} {d':Drawn} {ch:List Addr} (I:Inv X pins σ H s) (u:Un (frs X.stack) ch H H' s.heap h') (hok:HOk X.prog X.w H' h') (hg:AllBare g')
  (hch:∀ b ∈ ch,(b ∈ X.ex \/ X.s₀.heap.objs.size<=b)/\b ≠ X.env.locals/\(∀ x c,X.env.cells.lookup x=some c->c ≠ b)/\∀ p ∈ X.pn ++ pins,p.1 ≠ b) :
  Inv X pins σ H' { s with heap:=h',gens:=g',drawn:=d',toks:=t' }:=by
 obtain ⟨m,⟨o,es,ep,ho,r⟩,_⟩:=id I.loc;obtain ⟨sl,hL⟩:=u.any ho I.free λz=>(hch _ z).2.1 rfl
 exact I.step (ch:=ch) hch (λb o hL hb hc e n=>u.keep b o e n (λz=>(z0n.mp (I.stkSub b z)).elim hL hb) hc) (λb o _ _ hc e n=>u.any e n hc) (λb o hc e n=>u.free b o e n hc) (λb o hc e=>u.there b o e hc) u.tups u.frzs u.tbls (λm' hm=>by
  obtain ⟨o',es',ep',ho',r'⟩:=hm;rw [ho] at ho';cases ho';exact ⟨_,es',ep',hL,r'⟩) hok hg
theorem Inv.turned {t':Nat} {it:Addr} (I:Inv X pins σ H s) (k:∀ b o,b ≠ it->s.heap.get? b=some o->h'.get? b=some o) (hn:H it=none) (hL:it ≠ X.env.locals)
  (h1:it ∈ X.ex \/ X.s₀.heap.objs.size<=it) (h2:∀ x c,X.env.cells.lookup x=some c->c ≠ it) (h3:∀ p ∈ X.pn ++ pins,p.1 ≠ it):Inv X pins σ H { s with heap:=h',toks:=t' }:=by
 have nit:∀ b u,H b=some u->b ≠ it:=λb u e z=>by rw [z,hn] at e;cases e
 refine I.step (g':=s.gens) (d':=s.drawn) (ch:=[it]) (λb hb=>?_) (λb o _ _ hc e _=>k b o (λz=>hc (by simp [z])) e) (λb o _ _ hc e _=>⟨o.slots,k b o (λz=>hc (by simp [z])) e⟩) (λ_ _ _ _ n=>n)
  (λb o hc e=>⟨o,k b o (λz=>hc (by simp [z])) e⟩) (λ_ _ e=>e) (λ_ _ _ e=>e) (λb ps e=>⟨#[],by rw [e];simp⟩) (λm hm=>?_) (λb u e=>?_) I.bare
 ·have e:b=it:=by simpa using hb
  subst e;exact ⟨h1,hL,h2,h3⟩
 ·obtain ⟨o,es,ep,ho,r⟩:=hm
  exact ⟨o,es,ep,k _ o (Ne.symm hL) ho,r⟩
 ·refine (I.hok b u e).stay (λc v hc q=>k c v ?_ q) (λ_ q=>q) λ_ _ q=>q
  rcases hc with z | z
  ·rw [z];exact nit b u e
  ·exact nit c _ z
theorem Inv.tok (I:Inv X pins σ H s) (t:Nat):Inv X pins σ H { s with toks:=t }:=I.un (h':=s.heap) (t':=t) Un.refl I.hok
theorem Inv.kept {t':Nat} (I:Inv X pins σ H s) (k:∀ b u,s.heap.get? b=some u->h'.get? b=some u):Inv X pins σ H { s with heap:=h',toks:=t' }:=I.un (Un.kept k) (I.hok.kept k)
theorem Inv.laid {a:Addr} {o:HO} {t':Nat} (I:Inv X pins σ H s) (k:∀ b u,s.heap.get? b=some u->h'.get? b=some u) (hp:s.heap.objs.size<=a) (new:C9 X.prog X.w (upd H a o) h' a o) :
  Inv X pins σ (upd H a o) { s with heap:=h',toks:=t' }:=I.un (Un.laid k hp (I.hok.fresh hp)) (I.hok.laid k hp new)
theorem Inv.write {x e:Addr} {o:HO} {t':Nat} (I:Inv X pins σ H s) (mu:Mut (H x)) (he:e=x \/ H e=some (.own x)) (k:∀ b u,b ≠ e->s.heap.get? b=some u->h'.get? b=some u) (heo:∃ u,h'.get? e=some u)
  (new:C9 X.prog X.w (upd H x o) h' x o):Inv X pins σ (upd H x o) { s with heap:=h',toks:=t' }:=I.un (Un.write mu he k heo) (I.hok.write mu he k heo new)
theorem Inv.weak {σ':List (Option V)} (I:Inv X pins σ H s) (hl:σ'.length=σ.length) (w:∀ (i:Nat) v,σ'[i]? = some (some v)->σ[i]? = some (some v)):Inv X pins σ' H s :=
 ⟨I.ok,I.os,I.bare,I.base,let ⟨m,hn,hl'⟩:=I.loc;⟨m,hn,λi x v e1 e2 e3=>hl' i x v e1 (w i v e2) e3⟩,I.cell,I.free,I.freeC,I.pin,I.hok,hl.trans I.len⟩
theorem Inv.pins_of {pins':List (Addr × Obj)} (I:Inv X pins σ H s) (h:∀ p ∈ pins',s.heap.get? p.1=some p.2/\H p.1=none/\p.1 ≠ X.env.locals/\p.1 ∉ X.fs/\∀ v,p.2.data ≠ .cell v):Inv X pins' σ H s :=
 ⟨I.ok,I.os,I.bare,I.base,I.loc,I.cell,I.free,I.freeC,λp hp=>(j0p.mp hp).elim (λz=>I.pin p (u0q _ z)) (h p),I.hok,I.len⟩
theorem aF0 {N:List Str} (hN:N.Nodup) {i j:Nat} {x:Str} (a:N[i]? = some x) (b:N[j]? = some x):i=j:=by
 obtain ⟨h1,e1⟩:=q0h.mp a;obtain ⟨h2,e2⟩:=q0h.mp b;exact (List.getElem_inj hN).mp (e1.trans e2.symm)
theorem aO5 {M:Model} {A:Around} {E:Value->Shared->Prop} {i:Nat} {x:Str} {v:V} {u:Value} {Q:Unit->Shared->Prop} (I:Inv X pins σ H s) (hN:X.N.Nodup) (hi:X.N[i]? = some x) (hx:Loc X.env.scope x) (r:y1 v u)
  (h:∀ s',Inv X pins (σ.set i (some v)) H s'->(∃ a,u0r a s.heap s'.heap/\(a=X.env.locals \/ X.env.cells.lookup x=some a))->Q () s') (hf:X.fn x=true \/ X.env.scope.names.lookup x=some .local:=by first | exact .inl rfl | exact .inr rfl | assumption):wpAny M A (storeName X.env x u) Q E s:=by
 obtain ⟨m,hn,hl⟩:=id I.loc;have hcls:(X.env.scope.kind == .class || (X.env.scope.kind == .module && X.env.locals != X.env.globals))=false:=by rw [I.ok.kind];rfl
 have hiσ:i<σ.length:=by rw [I.len];exact (q0h.mp hi).1
 have cne:=I.cne
 have tracked:∀ {a:Addr} {h':Heap},(∃ o,s.heap.get? a=some o/\H a=none)->u0r a s.heap h'->HOk X.prog X.w H h':=fun {a h'} ha hs b ob e=>by
  obtain ⟨_,_,hfree⟩:=ha;refine (I.hok b ob e).stay (λc w' hc q=>(hs.2 c ?_).trans q) (λ_ q=>q) λ_ _ q=>q;rintro rfl;rcases hc with rfl | hc
  ·rw [hfree] at e;cases e
  ·rw [hfree] at hc;cases hc
 rcases hx with hk | hk
 ·refine wpAny_storeName_local hk hn (λh' hn' hs=>?_) hcls
  obtain ⟨oL,_,_,hoL,_⟩:=id hn;refine h _ ⟨I.ok,I.os,I.bare,⟨λb o e n hb hx=>?_,λb o e n hb hx=>?_,I.base.free,λb o e hx=>?_,I.base.tups,I.base.frzs,I.base.tbls⟩,⟨_,hn',λj y v' e1 e2 e3=>?_⟩,λy c e=>?_,I.free,I.freeC,λp hp=>?_,tracked ⟨oL,hoL,I.free⟩ hs,by simpa using I.len⟩ ⟨_,hs,.inl rfl⟩
  ·exact (hs.2 b (q0q (q0d (q0g e) I.ok.above))).trans (I.base.keep b o e n hb hx)
  ·obtain ⟨sl,e1⟩:=I.base.slot b o e n hb hx
   exact ⟨sl,(hs.2 b (q0q (q0d (q0g e) I.ok.above))).trans e1⟩
  ·obtain ⟨o',e1⟩:=I.base.there b o e hx
   exact ⟨o',(hs.2 b (q0q (q0d (q0g e) I.ok.above))).trans e1⟩
  ·by_cases hj:j=i
   ·subst hj
    rw [hi] at e1;cases e1;rw [u0g hiσ] at e2
    cases e2
    exact ⟨u,r,.inl ⟨hk,by simp⟩⟩
   ·rw [u0s (Ne.symm hj)] at e2
    obtain ⟨u',r',q⟩:=hl j y v' e1 e2 e3;refine ⟨u',r',?_⟩;rcases q with ⟨k,e⟩ | ⟨k,c,e,z⟩
    ·refine .inl ⟨k,?_⟩
     have:y ≠ x:=λe=>hj (aF0 hN e1 (e ▸ hi))
     simp [this,e]
    ·exact .inr ⟨k,c,e,z.sameBut hs (cne y c e)⟩
  ·obtain ⟨w',z⟩:=I.cell y c e
   exact ⟨w',z.sameBut hs (cne y c e)⟩
  ·obtain ⟨e,n,ne,nf,d⟩:=I.pin p hp
   exact ⟨(hs.2 p.1 ne).trans e,n,ne,nf,d⟩
 ·have hfn:X.fn x=true:=by
   rcases hf with z | z
   ·exact z
   ·rw [z] at hk;cases hk
  obtain ⟨c,hc⟩:=I.ok.has x (.inl hk);obtain ⟨w',z⟩:=I.cell x c hc;refine wpAny_storeName_cell I.ok.kind hk hc z (λh' hc' hs=>?_);obtain ⟨oc,hoc,hocd⟩:=id z;refine h { s with heap:=h' } ⟨I.ok,I.os,I.bare,⟨λb o e n hb hx=>?_,λb o e n hb hx=>?_,I.base.free,λb o e hx=>?_,I.base.tups,I.base.frzs,I.base.tbls⟩,⟨m,hn.sameBut hs (Ne.symm (cne x c hc)),λj y v' e1 e2 e3=>?_⟩,λy c' e=>?_,I.free,I.freeC,λp hp=>?_,tracked ⟨oc,hoc,I.freeC x c hc⟩ hs,by simpa using I.len⟩ ⟨c,hs,.inr hc⟩
  ·exact (hs.2 b (q0q (q0d (q0g e) (I.ok.cab x c hfn hc)))).trans (I.base.keep b o e n hb hx)
  ·obtain ⟨sl,e1⟩:=I.base.slot b o e n hb hx
   exact ⟨sl,(hs.2 b (q0q (q0d (q0g e) (I.ok.cab x c hfn hc)))).trans e1⟩
  ·obtain ⟨o',e1⟩:=I.base.there b o e hx
   exact ⟨o',(hs.2 b (q0q (q0d (q0g e) (I.ok.cab x c hfn hc)))).trans e1⟩
  ·by_cases hj:j=i
   ·subst hj
    rw [hi] at e1;cases e1;rw [u0g hiσ] at e2
    cases e2
    exact ⟨u,r,.inr ⟨.inl hk,c,hc,hc'⟩⟩
   ·rw [u0s (Ne.symm hj)] at e2
    obtain ⟨u',r',q⟩:=hl j y v' e1 e2 e3;refine ⟨u',r',?_⟩;rcases q with q | ⟨k,c',e,z'⟩
    ·exact .inl q
    ·refine .inr ⟨k,c',e,z'.sameBut hs ?_⟩
     rintro rfl;exact hj (aF0 hN e1 (I.ok.inj _ _ _ e hc ▸ hi))
  ·by_cases hcc:c'=c
   ·subst hcc;exact ⟨_,hc'⟩
   ·obtain ⟨w2,z2⟩:=I.cell y c' e
    exact ⟨w2,z2.sameBut hs hcc⟩
  ·obtain ⟨e,n,ne,nf,d⟩:=I.pin p hp
   refine ⟨(hs.2 p.1 ?_).trans e,n,ne,nf,d⟩;intro q;rw [q,hoc] at e;have q':oc=p.2:=Option.some.inj e;exact d w' (by rw [<- q'];exact hocd)
theorem ab1 {M:Model} {A:Around} {E:Value->Shared->Prop} {i:Nat} {x:Str} {v:V} {u:Value} {Q:Unit->Shared->Prop} (I:Inv X pins σ H s) (hN:X.N.Nodup) (hi:X.N[i]? = some x) (hx:Loc X.env.scope x) (r:y1 v u)
  (h:∀ s',Inv X pins (σ.set i (some v)) H s'->Q () s') (hf:X.fn x=true \/ X.env.scope.names.lookup x=some .local:=by first | exact .inl rfl | exact .inr rfl | assumption):wpAny M A (storeName X.env x u) Q E s :=
 aO5 I hN hi hx r (λs' I' _=>h s' I') hf
theorem Inv.call' {s':Shared} {ch:List Addr} (I:Inv X pins σ H s) (ho:s'.os=s.os) (u:Un (frs X.stack) ch H H' s.heap s'.heap) (hok:HOk X.prog X.w H' s'.heap) (hg:AllBare s'.gens)
  (hch:∀ b ∈ ch,(b ∈ X.ex \/ X.s₀.heap.objs.size<=b)/\b ≠ X.env.locals/\(∀ x c,X.env.cells.lookup x=some c->c ≠ b)/\∀ p ∈ X.pn ++ pins,p.1 ≠ b):Inv X pins σ H' s':=by
 obtain ⟨h',g',d',t',o'⟩:=s';have e:o'=s.os:=ho;subst e;exact I.call (g':=g') (t':=t') (d':=d') u hok hg hch
end
abbrev XK:=Value->Option Addr->Hp->Prop
abbrev St:=List (Option V)
abbrev VK:=V->Hp->Prop
abbrev TE:=St->Hp->VK->Prop
abbrev TT:=St->Hp->(Bool->Hp->Prop)->Prop
abbrev TA:=St->Hp->(List V->Hp->Prop)->Prop
structure ah5 where
 nx:St->Hp->Prop
 rt:VK
 bk:St->Hp->Prop:=λ_ _=>False
 ct:St->Hp->Prop:=λ_ _=>False
abbrev TS:=ah5->St->Hp->Prop
def EP (X:Cx) (pins:List (Addr × Obj)) (σ:St) (Q:VK) (u:Value) (s':Shared):Prop:=∃ v H',Inv X pins σ H' s'/\y1 v u/\Q v H'
def TP (X:Cx) (pins:List (Addr × Obj)) (σ:St) (Q:Bool->Hp->Prop) (b:Bool) (s':Shared):Prop:=∃ H',Inv X pins σ H' s'/\Q b H'
def AP (X:Cx) (pins:List (Addr × Obj)) (σ:St) (Q:List V->Hp->Prop) (us:List Value) (s':Shared):Prop:=∃ vs H',Inv X pins σ H' s'/\m6 vs us/\Q vs H'
def SP (X:Cx) (pins:List (Addr × Obj)) (D:ah5) (f:Flow) (s':Shared):Prop :=
 match f with
 | .next => ∃ σ' H',Inv X pins σ' H' s'/\D.nx σ' H'
 | .brk => ∃ σ' H',Inv X pins σ' H' s'/\D.bk σ' H'
 | .cont => ∃ σ' H',Inv X pins σ' H' s'/\D.ct σ' H'
 | .ret u => ∃ v σ' H',Inv X pins σ' H' s'/\y1 v u/\D.rt v H'
def PE (X:Cx) (e:Expr) (t:TE):Prop :=
 ∀ (pins:List (Addr × Obj)) (s:Shared) (σ:St) (H:Hp) (Q:VK),Inv X pins σ H s->t σ H Q->wpAny (model X.prog X.w) X.A (eval e X.env) (EP X pins σ Q) X.xe s
def PT (X:Cx) (e:Expr) (t:TT):Prop :=
 ∀ (pins:List (Addr × Obj)) (s:Shared) (σ:St) (H:Hp) (Q:Bool->Hp->Prop),Inv X pins σ H s->t σ H Q->wpAny (model X.prog X.w) X.A (isTrue e X.env (eval e X.env)) (TP X pins σ Q) X.xe s
def PW (X:Cx) (e:Expr) (t:TT):Prop :=
 ∀ (whole:Sem Value) (pins:List (Addr × Obj)) (s:Shared) (σ:St) (H:Hp) (Q:Bool->Hp->Prop),Inv X pins σ H s->t σ H Q->wpAny (model X.prog X.w) X.A (isTrue e X.env whole) (TP X pins σ Q) X.xe s
theorem PW.pt {X:Cx} {e:Expr} {t:TT} (h:PW X e t):PT X e t:=h _
def PA (X:Cx) (es:List Expr) (t:TA):Prop :=
 ∀ (pos:Pos) (pins:List (Addr × Obj)) (s:Shared) (σ:St) (H:Hp) (Q:List V->Hp->Prop),Inv X pins σ H s->t σ H Q->wpAny (model X.prog X.w) X.A (spliced (backTo pos (starEach es X.env))) (AP X pins σ Q) X.xe s
def PS (X:Cx) (st:Stmt) (t:TS):Prop :=
 ∀ (pins:List (Addr × Obj)) (s:Shared) (σ:St) (H:Hp) (D:ah5),Inv X pins σ H s->t D σ H->wpAny (model X.prog X.w) X.A (exec st X.env) (SP X pins D) X.xe s
def PSs (X:Cx) (st:List Stmt) (t:TS):Prop :=
 ∀ (pins:List (Addr × Obj)) (s:Shared) (σ:St) (H:Hp) (D:ah5),Inv X pins σ H s->t D σ H->wpAny (model X.prog X.w) X.A (execs st X.env) (SP X pins D) X.xe s
theorem thn {α:Type} {t:Sem α} {Q Q':α->Shared->Prop} {M:Model} {A:Around} {E:Value->Shared->Prop} {s:Shared} (h:wpAny M A t Q E s) (hQ:∀ a s,Q a s->Q' a s):wpAny M A t Q' E s:=wpAny_mono h hQ λ_ _ x=>x
section
variable {X:Cx}
def Y5 (i:Nat):TE:=λσ H Q => ∃ v,σ[i]? = some (some v)/\Q v H
def tC (v:V):TE:=λ_ H Q=>Q v H
theorem bc6 {i:Nat} {x:Str} {pos:Pos} (hN:X.N[i]? = some x) (hv:Vis X.env.scope x) (hd:(x == ("__debug__" : Str))=false:=by decide) (hcd:(x == ("__classdict__" : Str))=false:=by decide):PE X (.Name x pos) (Y5 i):=by
 intro pins s σ H Q I h;obtain ⟨v,e,h⟩:=h;obtain ⟨m,hn,hl⟩:=I.loc;obtain ⟨u,r,l⟩:=hl i x v hN e hv;have fin:EP X pins σ Q u s:=⟨v,H,I,r,h⟩;rcases l with ⟨hk,hm⟩ | ⟨hk,c,hc,hcell⟩
 ·exact wpAny_Name (wpAny_loadName_local I.ok.kind hk hn hm fin) hd
 ·rcases hk with hk | hk
  ·exact wpAny_Name (wpAny_loadName_cell I.ok.kind hk hc hcell fin) hd
  ·exact wpAny_Name (wpAny_loadName_free I.ok.kind hk hc hcell fin hcd) hd
theorem b7 {i j pos}:PE X (.Constant (.int i) j pos) (tC (.int i)):=λ_ _ _ H _ I h=>wpAny_Constant_int ⟨.int i,H,I.tok _,⟨_,rfl⟩,h⟩
theorem X3 {b j pos}:PE X (.Constant (.bool b) j pos) (tC (.bl b)):=λ_ _ _ H _ I h=>Constant_bool ⟨.bl b,H,I,rfl,h⟩
theorem aT2 {j pos}:PE X (.Constant .none j pos) (tC .non):=λ_ _ _ H _ I h=>Constant_none ⟨.non,H,I,rfl,h⟩
theorem V5 {x j pos}:PE X (.Constant (.str x) j pos) (tC (.str x)):=λ_ _ _ H _ I h=>Calls.Constant_str ⟨.str x,H,I.tok _,⟨_,rfl⟩,h⟩
def Gl (X:Cx) (x:Str):Prop:=X.env.kindOf x=some .globalImplicit
theorem aj0 {E:Value->Shared->Prop} {pins:List (Addr × Obj)} {s:Shared} {σ:St} {H:Hp} {x:Str} {u:Value} {pos:Pos} {Q:Value->Shared->Prop} (I:Inv X pins σ H s) (hg:Gl X x) (hm:X.mg x=some u) (h:Q u s)
  (hd:(x == ("__debug__" : Str))=false:=by decide):wpAny (model X.prog X.w) X.A (eval (.Name x pos) X.env) Q E s :=
 Calls.Name_function_global I.ok.kind hg (Calls.loadGlobal_global (by rw [I.ok.glob];exact I.mod.glob.keeps I.bk) hm h) hd
theorem ah1 {E:Value->Shared->Prop} {pins:List (Addr × Obj)} {s:Shared} {σ:St} {H:Hp} {x:Str} {u:Value} {pos:Pos} {Q:Value->Shared->Prop} (I:Inv X pins σ H s) (hg:Gl X x) (hm:X.mg x=none) (hv:bootBuiltins x=some u) (h:Q u s)
  (hn:x ≠ "__name__" := by decide) (hd:(x == ("__debug__" : Str))=false:=by decide):wpAny (model X.prog X.w) X.A (eval (.Name x pos) X.env) Q E s:=by
 obtain ⟨mb,h1,h2⟩:=I.mod.blt;exact Calls.Name_function_global I.ok.kind hg (Calls.loadGlobal_builtin (by rw [I.ok.glob];exact I.mod.glob.keeps I.bk) hm (by rw [I.ok.blt];exact h1.keeps I.bk) ((h2 x hn).trans hv) h) hd
theorem z8 {x:Str} {v:V} {u:Value} {pos:Pos} (hg:Gl X x) (hm:X.mg x=some u) (r:y1 v u) (hd:(x == ("__debug__" : Str))=false:=by decide):PE X (.Name x pos) (tC v) :=
 λ_ _ _ H _ I h=>aj0 I hg hm ⟨v,H,I,r,h⟩ hd
theorem V3 {x:Str} {v:V} {u:Value} {pos:Pos} (hg:Gl X x) (hm:X.mg x=none) (hv:bootBuiltins x=some u) (r:y1 v u) (hn:x ≠ "__name__" := by decide) (hd:(x == ("__debug__" : Str))=false:=by decide):PE X (.Name x pos) (tC v) :=
 λ_ _ _ H _ I h=>ah1 I hg hm hv ⟨v,H,I,r,h⟩ hn hd
variable {a b:Expr} {ta tb:TE} {pos:Pos}
def PC (X:Cx) (op:CmpOp) (a b:Expr) (t:TE):Prop :=
 ∀ (pins:List (Addr × Obj)) (s:Shared) (σ:St) (H:Hp) (Q:VK),Inv X pins σ H s->t σ H Q ->
  wpAny (model X.prog X.w) X.A (eval a X.env) (λv s₁=>wpAny (model X.prog X.w) X.A (eval b X.env) (λu s₂=>wpAny (model X.prog X.w) X.A (compareOp op v u) (EP X pins σ Q) X.xe s₂) X.xe s₁) X.xe s
def tB (t:TE):TT:=λσ H Q=>t σ H λx H1 => ∃ c,x=.bl c/\Q c H1
theorem N2 {e:Expr} {t:TE} (h:PE X e t) (he:∀ whole,isTrue e X.env whole=(do let v <- whole;standAt e.pos;holding [v] (truthy v)):=by intro _;rfl):PT X e (tB t):=by
 intro pins s σ H Q I hw;refine isTrue_plain (thn (h pins s σ H _ I hw) λv s1 zq=>?_) (he _);obtain ⟨x,H1,I1,r1,q1⟩:=zq;obtain ⟨d,rfl,q⟩:=q1
 cases r1
 exact wpAny_truthy_bool ⟨H1,I1,q⟩
variable {tA tB':TT} {ao8:List Expr}
def aD1 (t u:TT):TT:=λσ H Q=>t σ H λc H1=>if c=true then u σ H1 Q else Q false H1
def tOr (t u:TT):TT:=λσ H Q=>t σ H λc H1=>if c=true then Q true H1 else u σ H1 Q
def aC6 (t:TT):TT:=λσ H Q=>t σ H λc H1=>Q (!c) H1
theorem aL8 (ha:PT X a tA):PW X (.BoolOp .And [a] pos) tA:=by
 intro wh pins s σ H Q I h;refine isTrue_and (thn (ha pins s σ H Q I h) λc s1 e=>?_)
 cases c with
 | true=>exact isTrue_and_nil e
 | false=>exact e
theorem ag7 (ha:PT X a tA):PW X (.BoolOp .Or [a] pos) tA:=by
 intro wh pins s σ H Q I h;refine isTrue_or (thn (ha pins s σ H Q I h) λc s1 e=>?_)
 cases c with
 | false=>exact isTrue_or_nil e
 | true=>exact e
theorem aS7 (ha:PT X a tA) (hb:PW X (.BoolOp .And (b :: ao8) pos) tB'):PW X (.BoolOp .And (a :: b :: ao8) pos) (aD1 tA tB'):=by
 intro wh pins s σ H Q I h;refine isTrue_and (thn (ha pins s σ H _ I h) λc s1 zq=>?_);obtain ⟨H1,I1,q1⟩:=zq
 cases c with
 | true=>exact hb wh pins s1 σ H1 Q I1 q1
 | false=>exact ⟨H1,I1,q1⟩
theorem aa5 (ha:PT X a tA) (hb:PW X (.BoolOp .Or (b :: ao8) pos) tB'):PW X (.BoolOp .Or (a :: b :: ao8) pos) (tOr tA tB'):=by
 intro wh pins s σ H Q I h;refine isTrue_or (thn (ha pins s σ H _ I h) λc s1 zq=>?_);obtain ⟨H1,I1,q1⟩:=zq
 cases c with
 | true=>exact ⟨H1,I1,q1⟩
 | false=>exact hb wh pins s1 σ H1 Q I1 q1
theorem N3 (ha:PT X a tA):PT X (.UnaryOp .Not a pos) (aC6 tA):=by
 intro pins s σ H Q I h;exact isTrue_not (ha pins s σ H (λc H1=>Q (!c) H1) I h)
def am3 (ta tb:TE):TE:=λσ H Q=>ta σ H λx H1 => ∃ c,x=.bl c/\if c=true then tb σ H1 Q else Q (.bl false) H1
def am0 (ta:TE):TE:=λσ H Q=>ta σ H λx H1 => ∃ c,x=.bl c/\Q (.bl (!c)) H1
theorem aH5 {op} {t:TE} (h:PE X a t):PE X (.BoolOp op [a] pos) t:=λpins s σ H Q I hw=>BoolOp_one (h pins s σ H Q I hw)
theorem aH7 (ha:PE X a ta) (hb:PE X (.BoolOp .And (b :: ao8) pos) tb):PE X (.BoolOp .And (a :: b :: ao8) pos) (am3 ta tb):=by
 intro pins s σ H Q I h;refine BoolOp_and (thn (ha pins s σ H _ I h) λv s1 zq=>?_);obtain ⟨x,H1,I1,r1,q1⟩:=zq;obtain ⟨c,rfl,q1⟩:=q1
 cases r1
 refine wpAny_truthy_bool ?_
 cases c with
 | true=>exact hb pins s1 σ H1 Q I1 q1
 | false=>exact ⟨.bl false,H1,I1,rfl,q1⟩
theorem bc7 (ha:PE X a ta):PE X (.UnaryOp .Not a pos) (am0 ta):=by
 intro pins s σ H Q I h;refine UnaryOp_ (thn (ha pins s σ H _ I h) λv s1 zq=>?_);obtain ⟨x,H1,I1,r1,q1⟩:=zq;obtain ⟨c,rfl,q1⟩:=q1
 cases r1
 exact not_of (wpAny_truthy_bool ⟨.bl (!c),H1,I1,rfl,q1⟩)
def tIf (t:TT) (ta tb:TE):TE:=λσ H Q=>t σ H λc H1=>if c=true then ta σ H1 Q else tb σ H1 Q
theorem aE2 {c:Expr} (hc:PT X c tA) (ha:PE X a ta) (hb:PE X b tb):PE X (.IfExp c a b pos) (tIf tA ta tb):=by
 intro pins s σ H Q I h;refine wpAny_IfExp (thn (hc pins s σ H _ I h) λd s1 zq=>?_);obtain ⟨H1,I1,q1⟩:=zq
 cases d with
 | true=>exact ha pins s1 σ H1 Q I1 q1
 | false=>exact hb pins s1 σ H1 Q I1 q1
end
def SqL (K:q0a) (H:Hp) (a:Addr) (xs:List V):Prop :=
 Rd H a (.lst xs) \/
  ∃ (o:Obj) (its:Array Value) (n:Nat),K.lookup a=some o/\o.cls=.type "list"/\o.dict=none/\o.data=.seq its n/\its.size<=sizeLine/\m6 xs its.toList
def SqT (K:q0a) (H:Hp) (a:Addr) (xs:List V):Prop :=
 Rd H a (.tup xs) \/
  ∃ (o:Obj) (its:Array Value) (n:Nat),K.lookup a=some o/\o.cls=.type "tuple"/\o.data=.seq its n/\its.size<=sizeLine/\m6 xs its.toList
def bi5:Value->Option V
 | .none=>some .non
 | .bool b=>some (.bl b)
 | .int i _=>some (.int i)
 | .str x _=>some (.str x)
 | .bytes b _=>some (.byt b)
 | .float b _=>some (.flt b)
 | .ref a=>some (.ref a)
 | .type n=>some (.ty n)
 | _=>none
theorem y1.abs {x:V} {u:Value} (r:y1 x u):bi5 u=some x:=by
 cases x with
 | non=>cases r;rfl
 | bl _=>cases r;rfl
 | int _=>obtain ⟨t,rfl⟩:=r;rfl
 | str _=>obtain ⟨t,rfl⟩:=r;rfl
 | byt _=>obtain ⟨t,rfl⟩:=r;rfl
 | flt _=>obtain ⟨t,rfl⟩:=r;rfl
 | ref _=>cases r;rfl
 | ty _=>cases r;rfl
theorem y1.inj {x y:V} {u:Value} (r:y1 x u) (q:y1 y u):x=y:=Option.some.inj (r.abs.symm.trans q.abs)
theorem m6.inj:∀ {xs ys:List V} {us:List Value},m6 xs us->m6 ys us->xs=ys
 | _,_,_,.nil,.nil=>rfl
 | _,_,_,.cons r t,.cons r' t'=>by rw [r.inj r',m6.inj t t']
section
variable {X:Cx} {pins:List (Addr × Obj)} {σ:St} {H:Hp} {s:Shared} {a:Addr} {xs ys:List V}
theorem SqL.of {K:q0a} (h:H a=some (.lst xs)):SqL K H a xs:=.inl (.inl h)
theorem SqT.of {K:q0a} (h:H a=some (.tup xs)):SqT K H a xs:=.inl (.inl h)
theorem Inv.list (I:Inv X pins σ H s) (h:SqL X.K H a xs):∃ its:List Value,m6 xs its/\PlainL s.heap a its.toArray/\xs.length<=sizeLine:=by
 rcases h with h | ⟨o,its,n,hk,hc,hd,hs,hz,r⟩
 ·obtain ⟨z,its,n,r,e⟩:=h.ok I.hok
  exact ⟨its,r,⟨_,n,e,rfl,rfl,rfl⟩,z⟩
 ·refine ⟨its.toList,r,⟨o,n,I.kIn a o hk,hc,hd,by simpa using hs⟩,?_⟩
  have e:=r.length;simp only [m0t] at e;omega
theorem Inv.tuple (I:Inv X pins σ H s) (h:SqT X.K H a xs):∃ its:List Value,m6 xs its/\IsTup s.heap a its.toArray/\xs.length<=sizeLine:=by
 rcases h with h | ⟨o,its,n,hk,hc,hs,hz,r⟩
 ·obtain ⟨z,its,r,p⟩:=h.ok I.hok
  exact ⟨its,r,p,z⟩
 ·refine ⟨its.toList,r,⟨o,I.kIn a o hk,hc,n,by simpa using hs⟩,?_⟩
  have e:=r.length;simp only [m0t] at e;omega
theorem Inv.list_inj (I:Inv X pins σ H s) (h:SqL X.K H a xs) (h':SqL X.K H a ys):xs=ys:=by
 obtain ⟨its,r,⟨o,n,e,_,_,d⟩,_⟩:=I.list h;obtain ⟨its',r',⟨o',n',e',_,_,d'⟩,_⟩:=I.list h';rw [e] at e';cases e';rw [d] at d'
 injection d' with d1 _
 have:its=its':=by simpa using congrArg Array.toList d1
 subst this;exact r.inj r'
theorem Inv.tuple_inj (I:Inv X pins σ H s) (h:SqT X.K H a xs) (h':SqT X.K H a ys):xs=ys:=by
 obtain ⟨its,r,⟨o,e,_,n,d⟩,_⟩:=I.tuple h;obtain ⟨its',r',⟨o',e',_,n',d'⟩,_⟩:=I.tuple h';rw [e] at e';cases e';rw [d] at d'
 injection d' with d1 _
 have:its=its':=by simpa using congrArg Array.toList d1
 subst this;exact r.inj r'
end
abbrev Cx.wish (X:Cx) (E:Value->Shared->Prop):Cx:={ X with xe:=E }
abbrev Cx.nox (X:Cx):Cx:=X.wish λ_ _=>False
theorem Cx.Ok.wish {X:Cx} (ok:X.Ok) (E:Value->Shared->Prop):(X.wish E).Ok :=
 ⟨ok.mod,ok.kind,ok.glob,ok.blt,ok.above,ok.inj,ok.has,ok.cab,ok.hd,ok.frames,ok.stk,ok.exf,ok.bs,ok.bsz,ok.noex,ok.exfs,ok.funs,ok.frf⟩
theorem Cx.Ok.unwish {X:Cx} {E:Value->Shared->Prop} (ok:(X.wish E).Ok):X.Ok :=
 ⟨ok.mod,ok.kind,ok.glob,ok.blt,ok.above,ok.inj,ok.has,ok.cab,ok.hd,ok.frames,ok.stk,ok.exf,ok.bs,ok.bsz,ok.noex,ok.exfs,ok.funs,ok.frf⟩
section
variable {X:Cx} {pins:List (Addr × Obj)} {σ:St} {H:Hp} {s:Shared} {E:Value->Shared->Prop}
theorem Inv.wish (I:Inv X pins σ H s) (E:Value->Shared->Prop):Inv (X.wish E) pins σ H s:=⟨I.ok.wish E,I.os,I.bare,I.base,I.loc,I.cell,I.free,I.freeC,I.pin,I.hok,I.len⟩
theorem Inv.unwish (I:Inv (X.wish E) pins σ H s):Inv X pins σ H s:=⟨I.ok.unwish,I.os,I.bare,I.base,I.loc,I.cell,I.free,I.freeC,I.pin,I.hok,I.len⟩
theorem SP.unwish {D:ah5} {f:Flow} {s':Shared} (h:SP (X.wish E) pins D f s'):SP X pins D f s':=by
 cases f with
 | next=>obtain ⟨σ',H',I,q⟩:=h;exact ⟨σ',H',I.unwish,q⟩
 | brk=>obtain ⟨σ',H',I,q⟩:=h;exact ⟨σ',H',I.unwish,q⟩
 | cont=>obtain ⟨σ',H',I,q⟩:=h;exact ⟨σ',H',I.unwish,q⟩
 | ret u=>obtain ⟨v,σ',H',I,r,q⟩:=h;exact ⟨v,σ',H',I.unwish,r,q⟩
theorem PSs.nox {st:List Stmt} {t:TS} (h:PSs X.nox st t):PSs X st t:=λpins s σ H D I hw =>
 wpAny_mono (h pins s σ H D (I.wish _) hw) (λ_ _ q=>q.unwish) λ_ _ z=>False.elim z
end
section
variable {X:Cx} {st:Stmt} {ao8:List Stmt} {t u:TS} {e:Expr} {te:TE} {pos:Pos}
def am1:TS:=λD σ H=>D.nx σ H
def ay5 (t u:TS):TS:=λD σ H=>t { D with nx:=u D } σ H
theorem m8:PSs X [] am1:=λ_ _ σ H _ I h=>wpAny_execs_nil ⟨σ,H,I,h⟩
theorem b8 (h1:PS X st t) (h2:PSs X ao8 u):PSs X (st :: ao8) (ay5 t u):=by
 intro pins s σ H D I h;refine wpAny_execs_cons (thn (h1 pins s σ H { D with nx:=u D } I h) λf s1 q=>?_)
 cases f with
 | next =>
  obtain ⟨σ',H',I',q⟩:=q;exact h2 pins s1 σ' H' D I' q
 | ret v=>exact q
 | brk=>exact q
 | cont=>exact q
theorem c4 (h1:PS X st t):PSs X [st] t:=by
 intro pins s σ H D I h;refine wpAny_execs_cons (thn (h1 pins s σ H D I h) λf s1 q=>?_)
 cases f with
 | next=>exact wpAny_execs_nil q
 | ret v=>exact q
 | brk=>exact q
 | cont=>exact q
theorem Inv.quiet {pins:List (Addr × Obj)} {σ:St} {H:Hp} {s:Shared} (I:Inv X pins σ H s):interactive X.env=false:=by simp [interactive,I.ok.kind]
def am2 (te:TE):TS:=λD σ H=>te σ H λ_ H1=>D.nx σ H1
theorem Z4 (he:PE X e te) (hs:swapsWith e none pos.line X.env=pure false:=by rfl):PS X (.Expr e pos) (am2 te):=by
 intro pins s σ H D I h;exact wpAny_Expr_any (thn (he pins s σ H _ I h) λv s1 ⟨x,H1,I1,r1,q1⟩=>⟨σ,H1,I1,q1⟩) I.quiet hs
def ay6 (te:TE):TS:=λD σ H=>te σ H D.rt
theorem i9 (he:PE X e te):PS X (.Return (some e) pos) (ay6 te):=by
 intro pins s σ H D I h;exact wpAny_Return_some (thn (he pins s σ H _ I h) λv s1 ⟨x,H1,I1,r1,q1⟩=>⟨x,σ,H1,I1,r1,q1⟩)
def aC8 (c:TT) (t u:TS):TS:=λD σ H=>c σ H λb H1=>if b=true then t D σ H1 else u D σ H1
theorem z9 {c:Expr} {a b:List Stmt} {tc:TT} (hc:PT X c tc) (ha:PSs X a t) (hb:PSs X b u):PS X (.If c a b pos) (aC8 tc t u):=by
 intro pins s σ H D I h;refine wpAny_If (thn (hc pins s σ H _ I h) λd s1 zq=>?_);obtain ⟨H1,I1,q1⟩:=zq
 cases d with
 | true=>exact ha pins s1 σ H1 D I1 q1
 | false=>exact hb pins s1 σ H1 D I1 q1
def ab0:TS:=λ_ _ _=>False
theorem aD9:PS X st ab0:=λ_ _ _ _ _ _ h=>h.elim
end
abbrev TG:=V->St->Hp->(St->Hp->Prop)->Prop
abbrev TGs:=List V->St->Hp->(St->Hp->Prop)->Prop
def PG (X:Cx) (target:Expr) (t:TG):Prop :=
 ∀ (pins:List (Addr × Obj)) (s:Shared) (σ:St) (H:Hp) (v:V) (u:Value) (Q:St->Hp->Prop),Inv X pins σ H s->y1 v u->t v σ H Q ->
  wpAny (model X.prog X.w) X.A (assign target X.env u) (λ_ s' => ∃ σ' H',Inv X pins σ' H' s'/\Q σ' H') X.xe s
def PGs (X:Cx) (ts:List Expr) (t:TGs):Prop :=
 ∀ (pins:List (Addr × Obj)) (s:Shared) (σ:St) (H:Hp) (vs:List V) (us:List Value) (Q:St->Hp->Prop),Inv X pins σ H s->m6 vs us->t vs σ H Q ->
  wpAny (model X.prog X.w) X.A (assignInOrder ((assignEach ts X.env).map (·.2)) us) (λ_ s' => ∃ σ' H',Inv X pins σ' H' s'/\Q σ' H') X.xe s
abbrev bf0:=V->V->V->Hp->(Hp->Prop)->Prop
def bh1 (X:Cx) (t:bf0):Prop :=
 ∀ (pins:List (Addr × Obj)) (s:Shared) (σ:St) (H:Hp) (o i v:V) (ov iv u:Value) (Q:Hp->Prop),Inv X pins σ H s->y1 o ov->y1 i iv->y1 v u->t o i v H Q ->
  wpAny (model X.prog X.w) X.A (setItem ov iv u) (λ_ s' => ∃ H',Inv X pins σ H' s'/\Q H') X.xe s
section
variable {X:Cx} {pos:Pos}
def k9 (i:Nat):TG:=λv σ H Q=>Q (σ.set i (some v)) H
theorem c6 {i:Nat} {x:Str} (hN:X.N.Nodup) (hi:X.N[i]? = some x) (hx:Loc X.env.scope x) (hf:X.fn x=true \/ X.env.scope.names.lookup x=some .local:=by first | exact .inl rfl | exact .inr rfl | assumption):PG X (.Name x pos) (k9 i):=by
 intro pins s σ H v u Q I r h;exact wpAny_assign_Name (ab1 I hN hi hx r (λs' I'=>⟨_,H,I',h⟩) hf)
def F2:TGs:=λvs σ H Q=>vs=[]/\Q σ H
def k6 (t:TG) (u:TGs):TGs:=λvs σ H Q => ∃ v r,vs=v :: r/\t v σ H λσ' H'=>u r σ' H' Q
theorem p4:PGs X [] F2:=by
 intro pins s σ H vs us Q I r h;obtain ⟨e,h⟩:=h;subst e
 cases r
 exact assignInOrder_nil ⟨σ,H,I,h⟩
theorem d7 {e:Expr} {es:List Expr} {t:TG} {u:TGs} (h1:PG X e t) (h2:PGs X es u)
  (hs:(assignEach (e :: es) X.env).map (·.2)=assign e X.env :: (assignEach es X.env).map (·.2):=by rfl):PGs X (e :: es) (k6 t u):=by
 intro pins s σ H vs us Q I r h;obtain ⟨v,vr,e1,h⟩:=h;subst e1
 cases r with
 | cons r rr =>
  rw [hs];refine assignInOrder_cons (thn (h1 pins s σ H _ _ _ I r h) λ_ s1 zq=>?_);obtain ⟨σ1,H1,I1,q1⟩:=zq;exact h2 pins s1 σ1 H1 _ _ Q I1 rr q1
def E9 (K:q0a) (n:Nat) (t:TGs):TG:=λv σ H Q => ∃ a xs,v=.ref a/\SqT K H a xs/\xs.length=n/\t xs σ H Q
theorem w5 {es:List Expr} {k:Nat} {t:TGs} {n:Nat} (hc:X.calm=true) (h:PGs X es t)
  (hn:(assignEach es X.env).length=n:=by rfl) (hst:(assignEach es X.env).findIdx? (·.1)=none:=by rfl):PG X (.Tuple es k pos) (E9 X.K n t):=by
 intro pins s σ H v u Q I r hw;obtain ⟨a,xs,e1,hq,hl,hw⟩:=hw;subst e1
 cases r
 obtain ⟨its,rv,ht,hz⟩:=I.tuple hq;refine assign_Tuple_tuple (I.ok.hd hc) ht (by simp [hn,<- hl,rv.length]) hst λh' hx=>?_
 have I1:Inv X pins σ H { s with heap:=h' }:=I.kept (t':=s.toks) λb o e=>hx b o (q0q (q0g e)) e;exact h pins _ σ H xs _ Q I1 (by simpa using rv) hw
def ap3 (to ti:TE) (t:bf0):TG:=λv σ H Q=>to σ H λo H1=>ti σ H1 λi H2=>t o i v H2 λH3=>Q σ H3
theorem O7 {o i:Expr} {to ti:TE} {t:bf0} (ho:PE X o to) (hi:PE X i ti) (hs:bh1 X t)
  (ha:∀ v,assign (.Subscript o i pos) X.env v=(do
   let ov <- holding [v] (eval o X.env)
   let iv <- holding [v,ov] (eval i X.env)
   standAt pos
   holding [v,ov,iv] (setItem ov iv v)
   release [v,ov,iv] []):=by intro _;rfl):PG X (.Subscript o i pos) (ap3 to ti t):=by
 intro pins s σ H v u Q I r h;rw [ha];refine wpAny_bind (wpAny_holding (thn (ho pins s σ H _ I h) λov s1 zq=>?_));obtain ⟨x,H1,I1,r1,q1⟩:=zq;refine wpAny_bind (wpAny_holding (thn (hi pins s1 σ H1 _ I1 q1) λiv s2 zq=>?_));obtain ⟨y,H2,I2,r2,q2⟩:=zq;refine wpAny_bind (wpAny_standAt (wpAny_bind (wpAny_holding (thn (hs pins s2 σ H2 x y v ov iv u _ I2 r1 r2 r q2) λ_ s3 zq=>?_))));obtain ⟨H3,I3,q3⟩:=zq;exact wpAny_release ⟨σ,H3,I3,q3⟩
def ao6 (te:TE) (g:TG):TS:=λD σ H=>te σ H λx H1=>g x σ H1 D.nx
theorem F7 {tg e : Expr} {te : TE} {g : TG} (he : PE X e te) (hg : PG X tg g) (hs : swapsWithSole [tg] e pos.line X.env = pure false := by rfl) (hw : swappedStores [tg] e X.env = pure none := by rfl)
    (h1:(assignEach [tg] X.env).map (·.2)=[assign tg X.env]:=by rfl):PS X (.Assign [tg] e pos) (ao6 te g):=by
  intro pins s σ H D I h;refine wpAny_Assign_stores (thn (he pins s σ H _ I h) λv s1 zq=>?_) hs hw;obtain ⟨x,H1,I1,r1,q1⟩:=zq;rw [h1];exact thn (hg pins s1 σ H1 x v _ I1 r1 q1) λ_ s2 q=>q
theorem i8 {i:Nat} {x:Str} {e:Expr} {te:TE} {pos':Pos} (hN:X.N.Nodup) (hi:X.N[i]? = some x) (hx:Loc X.env.scope x) (he:PE X e te) (hs:swapsWith e (some (.Name x pos')) pos.line X.env=pure false:=by rfl) (hf:X.fn x=true \/ X.env.scope.names.lookup x=some .local:=by first | exact .inl rfl | exact .inr rfl | assumption) :
  PS X (.Assign [.Name x pos'] e pos) (ao6 te (k9 i)):=by
 intro pins s σ H D I h;refine wpAny_Assign_Name (thn (he pins s σ H _ I h) λv s1 zq=>?_) hs;obtain ⟨y,H1,I1,r1,q1⟩:=zq;exact ab1 I1 hN hi hx r1 (λs2 I2=>⟨_,H1,I2,q1⟩) hf
def ay7 (i j:Nat) (ta:TA):TS:=λD σ H=>ta σ H λvs H1 => ∃ v w,vs=[v,w]/\D.nx ((σ.set i (some v)).set j (some w)) H1
theorem aT0 {i j:Nat} {x y:Str} {a b:Expr} {ta:TA} {px py pt:Pos} {kt k2 pt2} (hc:X.calm=true) (hN:X.N.Nodup) (hi:X.N[i]? = some x) (hj:X.N[j]? = some y) (hij:i ≠ j)
  (hx:X.env.scope.names.lookup x=some .local) (hy:X.env.scope.names.lookup y=some .local) (ha:PA X [a,b] ta)
  (hw:swappedStores [.Tuple [.Name x px,.Name y py] kt pt] (.Tuple [a,b] k2 pt2) X.env=pure (some [x,y]))
  (hs:swapsWithSole [.Tuple [.Name x px,.Name y py] kt pt] (.Tuple [a,b] k2 pt2) pos.line X.env=pure false:=by rfl) :
  PS X (.Assign [.Tuple [.Name x px,.Name y py] kt pt] (.Tuple [a,b] k2 pt2) pos) (ay7 i j ta):=by
 intro pins s σ H D I h;rw [exec_Assign_arm];refine wpAny_bind (wpAny_standAt ?_);rw [hs];refine wpAny_bind (wpAny_pure ?_);rw [if_neg (by decide)]
 refine wpAny_bind (Tuple_ (thn (ha _ pins s σ H _ I h) λus s1 zq=>?_));obtain ⟨vs,H1,I1,r1,q1⟩:=zq;obtain ⟨v,w,e1,q1⟩:=q1;subst e1
 obtain ⟨u1,u2,rfl,rv,rw'⟩:∃ u1 u2,us=[u1,u2]/\y1 v u1/\y1 w u2:=by
  cases r1 with
  | cons p q =>
   cases q with
   | cons p' q' =>
    cases q'
    exact ⟨_,_,rfl,p,p'⟩
 refine wpAny_newObj_type ?_ (by show 2<=sizeLine;decide)
 have I2:Inv X pins σ H1 { s1 with heap:=s1.heap.push { cls:=.type "tuple",data:=.seq [u1,u2].toArray } }:=I1.kept (t':=s1.toks) λb o e=>q0n _ e
 rw [hw];refine wpAny_bind (wpAny_pure ?_)
 show wpAny (model X.prog X.w) X.A (do rule "assign.swapped-stores";let items <- unpackItems (.ref s1.heap.objs.size) 2 none;assignInOrder [λv=>bindName X.env y v,λv=>bindName X.env x v] items.reverse;pure Flow.next) _ _ _
 refine wpAny_bind (wpAny_rule (wpAny_bind (unpackItems_tuple (items:=#[u1,u2]) (I.ok.hd hc) (IsTup.new s1.heap _) λh' hx'=>?_)));have I3:=I2.kept (h':=h') (t':=s1.toks) λb o e=>hx' b o (q0q (q0g e)) e
 show wpAny _ _ (assignInOrder [λv=>bindName X.env y v,λv=>bindName X.env x v] [u2,u1] >>= λ_=>pure Flow.next) _ _ _;refine wpAny_bind (assignInOrder_cons (wpAny_bindName (ab1 I3 hN hj (.inl hy) rw' (λs2 I4=>?_) (.inr hy))));refine assignInOrder_cons (wpAny_bindName (ab1 I4 hN hi (.inl hx) rv (λs3 I5=>assignInOrder_nil (wpAny_pure ?_)) (.inr hx)));rw [List.set_comm _ _ (Ne.symm hij)] at I5;exact ⟨_,H1,I5,q1⟩
def aq2 (c:TT) (tb:TS):TS:=λD σ H => ∃ W:Nat->St->Hp->Prop,(∃ m,W m σ H)/\∀ m σ H,W m σ H ->
 c σ H λb H1=>if b=true then ∃ N:St->Hp->Prop,(∀ σ' H',N σ' H'->∃ m',m'<m/\W m' σ' H')/\tb { D with nx:=N,ct:=N,bk:=D.nx } σ H1 else D.nx σ H1
theorem aq4 {c:Expr} {body:List Stmt} {tc:TT} {tb:TS} (hp:PassesOwn (model X.prog X.w) X.A X.env X.xe) (hc:PT X c tc) (hb:PSs X body tb):PS X (.While c body [] pos) (aq2 tc tb):=by
 intro pins s σ H D I h;obtain ⟨W,⟨m0,w0⟩,turn⟩:=h;refine wpAny_While (codeAny_whileLoop (λn s' => ∃ σ' H',Inv X pins σ' H' s'/\W n σ' H') ?_ m0 ⟨σ,H,I,w0⟩);rintro n s1 ⟨σ1,H1,I1,w1⟩;refine wpAny_passesOwn hp (thn (hc pins s1 σ1 H1 _ I1 (turn n σ1 H1 w1)) λb s2 zq=>?_);obtain ⟨H2,I2,q2⟩:=zq
 cases b with
 | true =>
  obtain ⟨N,hN,q2⟩:=q2;rw [if_pos rfl];refine wpAny_passesOwn hp (thn (hb pins s2 σ1 H2 _ I2 q2) λf s3 q3=>?_)
  cases f with
  | next =>
   obtain ⟨σ3,H3,I3,n3⟩:=q3;obtain ⟨m',hm,w3⟩:=hN σ3 H3 n3;exact ⟨m',hm,σ3,H3,I3,w3⟩
  | cont =>
   obtain ⟨σ3,H3,I3,n3⟩:=q3;obtain ⟨m',hm,w3⟩:=hN σ3 H3 n3;exact ⟨m',hm,σ3,H3,I3,w3⟩
  | brk=>exact q3
  | ret v=>exact q3
 | false =>
  rw [if_neg q0u];exact wpAny_execs_nil ⟨σ1,H2,I2,q2⟩
end
structure It where
 go:Nat->Hp->Prop
 yld:Nat->Hp->V->Hp->Prop
 stop:Nat->Hp->Prop
def aa2 (X:Cx) (pins:List (Addr × Obj)) (H:Hp) (b:Addr):Prop :=
 H b=none/\b ≠ X.env.locals/\b ∉ X.fs/\(b ∈ X.ex \/ X.s₀.heap.objs.size<=b)/\(∀ x c,X.env.cells.lookup x=some c->c ≠ b)/\∀ p ∈ X.pn ++ pins,p.1 ≠ b
theorem Inv.fpOk {X:Cx} {pins:List (Addr × Obj)} {σ:St} {H H':Hp} {s:Shared} {b:Addr} (I:Inv X pins σ H s) (hb:s.heap.objs.size<=b) (hn:H' b=none):aa2 X pins H' b:=by
 refine ⟨hn,v0f (q0d I.lt hb),I.nofs hb,.inr (q0p I.sz hb),λx c e z=>?_,λp hp z=>?_⟩
 ·obtain ⟨v,q⟩:=I.cell x c e
  exact absurd (q0d q.lt (by rw [z];exact hb)) (j0y _)
 ·exact absurd (q0d (q0g (I.pin p hp).1) (by rw [z];exact hb)) (j0y _)
structure aX0 (P:Program) (w:World) (K:q0a) (tg:Expr) (J:It) (fp:List Addr) (it:Addr) (tn:Nat->Heap->Prop):Prop where
 mem:it ∈ fp
 obj:∀ i h,tn i h->∀ b ∈ fp,∃ o,h.get? b=some o/\∀ v,o.data ≠ .cell v
 keep:∀ i h h',tn i h->(∀ b ∈ fp,∀ o,h.get? b=some o->h'.get? b=some o)->tn i h'
 item:∀ (X:Cx),X.prog=P->X.w=w->X.K=K->X.calm=true->∀ (i:Nat) (pins:List (Addr × Obj)) (s:Shared) (σ:St) (H:Hp) (E:Value->Shared->Prop),Inv X pins σ H s->(∀ b ∈ fp,aa2 X pins H b)->tn i s.heap->J.go i H ->
  wpAny (model P w) X.A (pyNext (.ref it)) (λr s1 => ∃ u,r=some u /\
   wpAny (model P w) X.A (letOwnedTupleGo tg (.ref it) u) (λ_ s2 => ∃ x H',Inv X pins σ H' s2/\y1 x u/\J.yld i H x H'/\tn (i+1) s2.heap/\∀ b ∈ fp,H' b=none) E s1) E s
 done:∀ (X:Cx),X.prog=P->X.w=w->X.K=K->X.calm=true->∀ (i:Nat) (pins:List (Addr × Obj)) (s:Shared) (σ:St) (H:Hp) (E:Value->Shared->Prop),Inv X pins σ H s->(∀ b ∈ fp,aa2 X pins H b)->tn i s.heap->J.stop i H ->
  wpAny (model P w) X.A (pyNext (.ref it)) (λr s1=>r=none/\Inv X pins σ H s1) E s
 self:∀ (A:Around) (i:Nat) (s:Shared) (Q:Value->Shared->Prop) (E:Value->Shared->Prop),tn i s.heap->Q (.ref it) s->wpAny (model P w) A (pyIter (.ref it)) Q E s
abbrev TI:=St->Hp->(It->Hp->Prop)->Prop
def PIE (X:Cx) (pins:List (Addr × Obj)) (σ:St) (tg:Expr) (R:It->Hp->Prop) (itv:Value) (s2:Shared):Prop :=
 ∃ (it:Addr) (fp:List Addr) (tn:Nat->Heap->Prop) (J:It) (H':Hp),itv=.ref it/\Inv X pins σ H' s2/\aX0 X.prog X.w X.K tg J fp it tn/\tn 0 s2.heap/\(∀ b ∈ fp,aa2 X pins H' b)/\R J H'
def PI (X:Cx) (tg iter:Expr) (wi:TI):Prop :=
 ∀ (pins:List (Addr × Obj)) (s:Shared) (σ:St) (H:Hp) (R:It->Hp->Prop),Inv X pins σ H s->wi σ H R ->
  wpAny (model X.prog X.w) X.A (eval iter X.env) (λv s1=>wpAny (model X.prog X.w) X.A (pyIter v) (PIE X pins σ tg R) X.xe s1) X.xe s
theorem bb6 {M : Model} {A : Around} {E : Value → Shared → Prop} {s : Shared} {tg : Expr} {it : Addr} {u : Value} {o : Obj} {n : String} {vs : Array Value} {Q : Unit → Shared → Prop} (ho : s.heap.get? it = some o) (hc : o.cls = .type n) (hd : o.data = .fields vs)
    (hn:["enumerate","zip","dict_itemiterator","dict_reverseitemiterator","odict_iterator","itertools.zip_longest","itertools.pairwise"].contains n=false) (hQ:Q () s):wpAny M A (letOwnedTupleGo tg (.ref it) u) Q E s:=by
  unfold letOwnedTupleGo
  cases tg <;> first
    | exact wpAny_pure hQ
    | (cases u <;> first
        | exact wpAny_pure hQ
        | (refine wpAny_bind (wpAny_load ho ?_)
           rw [hc,hd]
           show wpAny M A (if (["enumerate","zip","dict_itemiterator","dict_reverseitemiterator","odict_iterator","itertools.zip_longest","itertools.pairwise"].contains n && vs[0]? == some (rawInt _))=true then _ else _) Q E s
           rw [if_neg (by intro h;rw [hn,Bool.false_and] at h;cases h)]
           exact wpAny_pure hQ))
def Itl (K:q0a) (a:Addr):It :=
 ⟨λi H => ∃ xs x,SqL K H a xs/\xs[i]? = some x,λi H x H'=>H'=H/\∀ xs,SqL K H a xs->xs[i]? = some x,λi H => ∃ xs,SqL K H a xs/\xs.length<=i⟩
def Itr (lo:Int) (n:Nat):It:=⟨λi _=>i<n,λi H x H'=>H'=H/\x=.int (lo+i),λi _=>n<=i⟩
theorem aO3 {P:Program} {w:World} {K:q0a} {tg:Expr} (a it:Addr):aX0 P w K tg (Itl K a) [it] it (λi h=>h.IsListIter it a i) where
 mem:=by simp
 obj:=λi h st b hb=>by
  have e:b=it:=by simpa using hb
  subst e;obtain ⟨o,e,c,d⟩:=st;exact ⟨o,e,λv z=>by rw [d] at z;cases z⟩
 keep:=λi h h' st k=>st.at λo e=>k it (by simp) o e
 item:=by
  intro X hP hw hK hc i pins s σ H E I hf st hg;subst hP hw hK;obtain ⟨xs,x,hq,hx⟩:=hg;obtain ⟨its,rv,p,hz⟩:=I.list hq;obtain ⟨u,hu,ru⟩:=rv.get hx;obtain ⟨f0,f1,f2,f3,f4,f5⟩:=hf it (by simp)
  refine wpAny_pyNext_list_item st p.isList (x:=u) (by simpa using hu) λh' st' sb=>?_
  have I1:Inv X pins σ H { s with heap:=h' }:=I.turned (t':=s.toks) (λb o hb e=>(sb.2 b hb).trans e) f0 f1 f3 f4 f5;obtain ⟨o,e,c,d⟩:=id st';exact ⟨u,rfl,bb6 (s:={ s with heap:=h' }) e c d (by decide) ⟨x,H,I1,ru,⟨rfl,λys hy=>by rw [I.list_inj hy hq];exact hx⟩,st',λb hb=>(hf b hb).1⟩⟩
 done:=by
  intro X hP hw hK hc i pins s σ H E I hf st hg;subst hP hw hK;obtain ⟨xs,hq,hx⟩:=hg;obtain ⟨its,rv,p,hz⟩:=I.list hq;obtain ⟨f0,f1,f2,f3,f4,f5⟩:=hf it (by simp)
  have hl:=rv.length;exact wpAny_pyNext_list_end (I.ok.hd hc) st p.isList (by simp;omega) λh' eb=>⟨rfl,I.turned (t':=s.toks) (λb o hb e=>eb b o hb e) f0 f1 f3 f4 f5⟩
 self:=λ_ _ _ _ _ st h=>wpAny_pyIter_listiter st h
theorem aG6 {P:Program} {w:World} {K:q0a} {tg:Expr} (it:Addr) (lo:Int) (n:Nat):aX0 P w K tg (Itr lo n) [it] it (λi h=>IsRangeIter h it (lo+(i:Nat)*1) ((n:Int)-(i:Nat)) 1) where
 mem:=by simp
 obj:=λi h st b hb=>by
  have e:b=it:=by simpa using hb
  subst e
  exact ⟨_,st,λv z=>by
   have z':Data.fields _=Data.cell v:=z
   cases z'⟩
 keep:=λi h h' st k=>k it (by simp) _ st
 item:=by
  intro X hP hw hK hc i pins s σ H E I hf st hg;subst hP hw hK;obtain ⟨f0,f1,f2,f3,f4,f5⟩:=hf it (by simp)
  have W:=Walks.range (prog:=X.prog) (w:=X.w) (I.ok.hd hc) it lo 1 n;refine W.item i s _ _ hg st λv h' tk hv st' kk=>?_;obtain ⟨t,rfl⟩:=hv;have I1:Inv X pins σ H { s with heap:=h',toks:=tk }:=I.turned (λb o hb e=>kk b o (by simpa using hb) e) f0 f1 f3 f4 f5
  refine ⟨_,rfl,bb6 (s:={ s with heap:=h',toks:=tk }) (n := "range_iterator") st' rfl rfl (by decide) ⟨.int (lo+i),H,I1,⟨t,?_⟩,⟨rfl,rfl⟩,st',λb hb=>(hf b hb).1⟩⟩
  rw [Int.mul_one]
 done:=by
  intro X hP hw hK hc i pins s σ H E I hf st hg;subst hP hw hK;obtain ⟨f0,f1,f2,f3,f4,f5⟩:=hf it (by simp)
  exact wpAny_pyNext_range_end (I.ok.hd hc) st (by have:n<=i:=hg;omega) λh' eb=>⟨rfl,I.turned (t':=s.toks) (λb o hb e=>eb b o hb e) f0 f1 f3 f4 f5⟩
 self:=λ_ _ _ _ _ st h=>wpAny_pyIter_rangeiter st h
section
variable {X:Cx} {tg:Expr}
def aa7 (K:q0a) (tl:TE):TI:=λσ H R=>tl σ H λx H1 => ∃ a,x=.ref a/\(∃ xs,SqL K H1 a xs)/\R (Itl K a) H1
theorem x9 {l:Expr} {tl:TE} (hl:PE X l tl):PI X tg l (aa7 X.K tl):=by
 intro pins s σ H R I h;refine thn (hl pins s σ H _ I h) λv s1 zq=>?_;obtain ⟨x,H1,I1,r1,q1⟩:=zq;obtain ⟨a,e,⟨xs,hq⟩,q⟩:=q1;subst e
 cases r1
 obtain ⟨its,rv,p,hz⟩:=I1.list hq;refine wpAny_pyIter_list p.isList ?_;refine ⟨s1.heap.objs.size,[s1.heap.objs.size],_,_,H1,rfl,I1.kept (t':=s1.toks) λb o e=>q0n _ e,aO3 a _,⟨_,z0x _ rfl,rfl,rfl⟩,λb hb=>?_,q⟩;have e:b=s1.heap.objs.size:=by simpa using hb
 subst e;exact I1.fpOk (q0k _) (I1.hok.fresh (q0k _))
theorem aD5 {pins:List (Addr × Obj)} {σ:St} {H:Hp} {s:Shared} {R:It->Hp->Prop} {E:Value->Shared->Prop} {lo hi:Int} {t u v:Tok} {tk:Nat} (I:Inv X pins σ H s) (h1:-(2 ^ 62)<=lo) (h2:lo<2 ^ 62) (h3:-(2 ^ 62)<=hi) (h4:hi<2 ^ 62)
  (q:R (Itr lo (hi-lo).toNat) H):wpAny (model X.prog X.w) X.A (pyIter (.ref s.heap.objs.size)) (PIE X pins σ tg R) E { s with heap:=s.heap.push { cls:=.type "range",data:=.fields #[.int lo t,.int hi u,.int 1 v] },toks:=tk }:=by
 refine wpAny_pyIter_range (IsRange.new ..) (small_one h1 h2 h3 h4) ?_;have I1:Inv X pins σ H { s with heap:=s.heap.push { cls:=.type "range",data:=.fields #[.int lo t,.int hi u,.int 1 v] },toks:=tk }:=I.kept λb o e=>q0n _ e
 refine ⟨(s.heap.push { cls:=.type "range",data:=.fields #[.int lo t,.int hi u,.int 1 v] }).objs.size,[(s.heap.push { cls:=.type "range",data:=.fields #[.int lo t,.int hi u,.int 1 v] }).objs.size],_,_,H,rfl,
  I1.kept (t':=tk) λb o e=>q0n _ e,aG6 _ lo (hi-lo).toNat,?_,λb hb=>?_,q⟩
 ·have e1:lo+((0:Nat):Int)*1=lo:=by simp
  have e2:(((hi-lo).toNat:Nat):Int)-((0:Nat):Int)=Builtin.Range.rangeSize lo hi 1:=by rw [rangeSize_one];split <;> omega
  show IsRangeIter _ _ (lo+((0:Nat):Int)*1) ((((hi-lo).toNat:Nat):Int)-((0:Nat):Int)) 1;rw [e1,e2];exact z0x _ rfl
 ·have e:b=(s.heap.push { cls:=.type "range",data:=.fields #[.int lo t,.int hi u,.int 1 v] }).objs.size:=by simpa using hb
  subst e;exact I1.fpOk (q0k _) (I1.hok.fresh (q0k _))
def an2 (ta:TA):TI:=λσ H R=>ta σ H λvs H1 => ∃ j:Int,vs=[.int j]/\-(2 ^ 62)<=j/\j<2 ^ 62/\R (Itr 0 j.toNat) H1
def an1 (ta:TA):TI:=λσ H R=>ta σ H λvs H1 => ∃ i j:Int,vs=[.int i,.int j]/\(-(2 ^ 62)<=i/\i<2 ^ 62/\-(2 ^ 62)<=j/\j<2 ^ 62)/\R (Itr i (j-i).toNat) H1
theorem o0 {a:Expr} {ta:TA} {p pos:Pos} (hg:Gl X "range") (hm:X.mg "range" = none) (ha:PA X [a] ta) (hs:starEach [a] X.env=[(false,eval a X.env)]:=by rfl):PI X tg (.Call (.Name "range" p) [a] [] pos) (an2 ta):=by
 intro pins s σ H R I h;refine Call_ (ah1 I hg hm boot_range (PyProof.Rows.callWith_type1 (thn (ha pos pins s σ H _ I h) λus s1 zq=>?_) hs rfl));obtain ⟨vs,H1,I1,r1,q1⟩:=zq;obtain ⟨j,e,q1,q2,q⟩:=q1;subst e
 cases r1 with
 | cons r rr =>
  cases rr
  obtain ⟨t,rfl⟩:=r;exact call_range_1 (aD5 I1 ⋯ ⋯ q1 q2 (by simpa using q))
theorem ak1 {a b:Expr} {ta:TA} {p pos:Pos} (hg:Gl X "range") (hm:X.mg "range" = none) (ha:PA X [a,b] ta) (hs:starEach [a,b] X.env=[(false,eval a X.env),(false,eval b X.env)]:=by rfl) (hs2:starEach [b] X.env=[(false,eval b X.env)]:=by rfl) :
  PI X tg (.Call (.Name "range" p) [a,b] [] pos) (an1 ta):=by
 intro pins s σ H R I h;refine Call_ (ah1 I hg hm boot_range (PyProof.Rows.callWith_type1 (thn (ha pos pins s σ H _ I h) λus s1 zq=>?_) (by rw [hs,hs2]) (by rw [hs2];rfl)))
 obtain ⟨vs,H1,I1,r1,q1⟩:=zq;obtain ⟨i,j,e,⟨q1,q2,q3,q4⟩,q⟩:=q1;subst e
 cases r1 with
 | cons r rr =>
  cases rr with
  | cons r' rr =>
   cases rr
   obtain ⟨t,rfl⟩:=r;obtain ⟨t',rfl⟩:=r';exact call_range_2 (aD5 I1 q1 q2 q3 q4 q)
def bh9 (wi:TI) (g:TG) (tb:TS):TS:=λD σ H=>wi σ H λJ H1 => ∃ W:Nat->Nat->St->Hp->Prop,(∃ m,W 0 m σ H1)/\∀ i m σ H,W i m σ H ->
 (J.stop i H/\D.nx σ H) \/ (J.go i H/\∃ N:St->Hp->Prop,(∀ σ' H',N σ' H'->∃ m',m'<m/\W (i+1) m' σ' H')/\∀ x H',J.yld i H x H'->g x σ H' λσ2 H2=>tb { D with nx:=N,ct:=N,bk:=D.nx } σ2 H2)
def aA0 (fp:List Addr) (h:Heap):List (Addr × Obj):=fp.filterMap λb=>(h.get? b).map λo=>(b,o)
theorem m3 {fp:List Addr} {h:Heap} {b:Addr} {o:Obj} (hb:b ∈ fp) (e:h.get? b=some o):(b,o) ∈ aA0 fp h:=g0c.mpr ⟨b,hb,by rw [e];rfl⟩
theorem aP5 {fp:List Addr} {h:Heap} {p:Addr × Obj} (hp:p ∈ aA0 fp h):p.1 ∈ fp/\h.get? p.1=some p.2:=by
 obtain ⟨b,hb,e⟩:=g0c.mp hp
 cases q:h.get? b with
 | none=>rw [q] at e;cases e
 | some o =>
  rw [q] at e;have e':(b,o)=p:=Option.some.inj e;subst e';exact ⟨hb,q⟩
theorem Inv.pinned {pins:List (Addr × Obj)} {σ:St} {H:Hp} {s:Shared} {fp:List Addr} (I:Inv X pins σ H s) (hf:∀ b ∈ fp,aa2 X pins H b) (ho:∀ b ∈ fp,∃ o,s.heap.get? b=some o/\∀ v,o.data ≠ .cell v):Inv X (pins ++ aA0 fp s.heap) σ H s :=
 I.pins_of λp hp=>(j0p.mp hp).elim (λz=>I.pin p (q0e _ z)) λz=>by
  obtain ⟨hb,e⟩:=aP5 z;obtain ⟨f0,f1,f2,_⟩:=hf p.1 hb;obtain ⟨o,e',d⟩:=ho p.1 hb;rw [e] at e';cases e';exact ⟨e,f0,f1,f2,d⟩
theorem Inv.unpinned {pins pl:List (Addr × Obj)} {σ:St} {H:Hp} {s:Shared} (I:Inv X (pins ++ pl) σ H s):Inv X pins σ H s:=I.pins_of λp hp=>I.pin p (q0e _ (u0q _ hp))
theorem C6 {iter:Expr} {body:List Stmt} {wi:TI} {g:TG} {tb:TS} {pos:Pos} (hp:PassesOwn (model X.prog X.w) X.A X.env X.xe) (hc:X.calm=true) (hi:PI X tg iter wi) (hg:PG X tg g) (hb:PSs X body tb)
  (hs:∀ x,foldedSetIterable iter X.env x=pure x:=by intro _;rfl):PS X (.For tg iter body [] pos) (bh9 wi g tb):=by
 intro pins s σ H D I h;refine wpAny_For (thn (hi pins s σ H _ I h) λv s1 h1=>thn h1 λitv s2 h2=>?_) hs;obtain ⟨it,fp,tn,J,H2,e,I2,T,st2,f2,W,⟨m0,w0⟩,turn⟩:=h2;subst e
 -- what stays true of the iterator's objects through the loop
 have stat:∀ {H':Hp},(∀ b ∈ fp,H' b=none)->∀ b ∈ fp,aa2 X pins H' b:=λhn b hb=>⟨hn b hb,(f2 b hb).2⟩;refine codeAny_forLoop_any (λn s' => ∃ i σ' H',Inv X pins σ' H' s'/\tn i s'.heap/\(∀ b ∈ fp,H' b=none)/\W i n σ' H') ?_ m0 ⟨0,σ,H2,I2,st2,λb hb=>(f2 b hb).1,w0⟩;rintro n s3 ⟨i,σ3,H3,I3,st3,fr3,w3⟩;rcases turn i n σ3 H3 w3 with ⟨stop,qn⟩ | ⟨go,N,hN,step⟩
 ·refine wpAny_passesOwn hp (thn (T.done X rfl rfl rfl hc i pins s3 σ3 H3 X.xe I3 (stat fr3) st3 stop) λr s4 zq=>?_)
  obtain ⟨hr,I4⟩:=zq;subst hr;exact wpAny_execs_nil ⟨σ3,H3,I4,qn⟩
 ·refine wpAny_passesOwn hp (thn (T.item X rfl rfl rfl hc i pins s3 σ3 H3 X.xe I3 (stat fr3) st3 go) λr s4 zq=>?_)
  obtain ⟨u,hr,h4⟩:=zq;subst hr;refine wpAny_passesOwn hp (thn h4 λ_ s5 zq=>?_);obtain ⟨x,H5,I5,r5,y5,st5,fr5⟩:=zq;have I5':=I5.pinned (stat fr5) (T.obj _ _ st5);refine wpAny_passesOwn hp (thn (hg _ s5 σ3 H5 x u _ I5' r5 (step x H5 y5)) λ_ s6 zq=>?_);obtain ⟨σ6,H6,I6,q6⟩:=zq;refine wpAny_passesOwn hp (thn (hb _ s6 σ6 H6 _ I6 q6) λf s7 q7=>?_)
  have again:∀ {σ7:St} {H7:Hp},Inv X (pins ++ aA0 fp s5.heap) σ7 H7 s7->N σ7 H7->∃ m,m<n/\∃ i σ' H',Inv X pins σ' H' s7/\tn i s7.heap/\(∀ b ∈ fp,H' b=none)/\W i m σ' H':=fun {σ7 H7} I7 n7=>by
   obtain ⟨m',hm,w7⟩:=hN σ7 H7 n7;refine ⟨m',hm,i+1,σ7,H7,I7.unpinned,T.keep _ _ _ st5 λb hb o e=>(I7.pin (b,o) (q0e _ (q0e _ (m3 hb e)))).1,λb hb=>?_,w7⟩;obtain ⟨o,e,d⟩:=T.obj _ _ st5 b hb;exact (I7.pin (b,o) (q0e _ (q0e _ (m3 hb e)))).2.1
  cases f with
  | next=>obtain ⟨σ7,H7,I7,n7⟩:=q7;exact again I7 n7
  | cont=>obtain ⟨σ7,H7,I7,n7⟩:=q7;exact again I7 n7
  | brk=>obtain ⟨σ7,H7,I7,q7⟩:=q7;exact ⟨σ7,H7,I7.unpinned,q7⟩
  | ret v=>obtain ⟨x7,σ7,H7,I7,r7,q7⟩:=q7;exact ⟨x7,σ7,H7,I7.unpinned,r7,q7⟩
end
theorem ar9 {K:q0a} {a:Addr} {xs:List V} {g:TG} {tb:TS} {D:ah5} {σ:St} {H:Hp} (Pv:Nat->St->Hp->Prop) (h0:Pv 0 σ H) (hl:∀ i σ H,i<=xs.length->Pv i σ H->SqL K H a xs)
  (hs:∀ i x σ H,xs[i]? = some x->Pv i σ H->g x σ H λσ2 H2=>tb { D with nx:=Pv (i+1),ct:=Pv (i+1),bk:=D.nx } σ2 H2) (hd:∀ σ H,Pv xs.length σ H->D.nx σ H) :
  ∃ W:Nat->Nat->St->Hp->Prop,(∃ m,W 0 m σ H)/\∀ i m σ H,W i m σ H ->
   ((Itl K a).stop i H/\D.nx σ H) \/ ((Itl K a).go i H/\∃ N:St->Hp->Prop,(∀ σ' H',N σ' H'->∃ m',m'<m/\W (i+1) m' σ' H')/\∀ x H',(Itl K a).yld i H x H'->g x σ H' λσ2 H2=>tb { D with nx:=N,ct:=N,bk:=D.nx } σ2 H2):=by
 refine ⟨λi m σ H=>m=xs.length-i/\i<=xs.length/\Pv i σ H,⟨xs.length,by simp,z0f _,h0⟩,?_⟩
 rintro i m σ H ⟨rfl,hi,p⟩;have q:=hl i σ H hi p
 by_cases hlt:i<xs.length
 ·refine .inr ⟨⟨xs,xs[i],q,by simp [hlt]⟩,Pv (i+1),λσ' H' p'=>⟨xs.length-(i+1),⋯,rfl,hlt,p'⟩,λx H' y=>?_⟩
  obtain ⟨e,y⟩:=y;subst e;exact hs i x σ _ (y xs q) p
 ·have e:i=xs.length:=⋯
  subst e;exact .inl ⟨⟨xs,q,q0k _⟩,hd σ H p⟩
theorem C1 {lo:Int} {n:Nat} {g:TG} {tb:TS} {D:ah5} {σ:St} {H:Hp} (Pv:Nat->St->Hp->Prop) (h0:Pv 0 σ H)
  (hs:∀ i σ H,i<n->Pv i σ H->g (.int (lo+i)) σ H λσ2 H2=>tb { D with nx:=Pv (i+1),ct:=Pv (i+1),bk:=D.nx } σ2 H2) (hd:∀ σ H,Pv n σ H->D.nx σ H) :
  ∃ W:Nat->Nat->St->Hp->Prop,(∃ m,W 0 m σ H)/\∀ i m σ H,W i m σ H ->
   ((Itr lo n).stop i H/\D.nx σ H) \/ ((Itr lo n).go i H/\∃ N:St->Hp->Prop,(∀ σ' H',N σ' H'->∃ m',m'<m/\W (i+1) m' σ' H')/\∀ x H',(Itr lo n).yld i H x H'->g x σ H' λσ2 H2=>tb { D with nx:=N,ct:=N,bk:=D.nx } σ2 H2):=by
 refine ⟨λi m σ H=>m=n-i/\i<=n/\Pv i σ H,⟨n,by simp,z0f _,h0⟩,?_⟩
 rintro i m σ H ⟨rfl,hi,p⟩
 by_cases hlt:i<n
 ·refine .inr ⟨hlt,Pv (i+1),λσ' H' p'=>⟨n-(i+1),⋯,rfl,hlt,p'⟩,λx H' y=>?_⟩
  obtain ⟨e,y⟩:=y;subst e y;exact hs i σ _ hlt p
 ·have e:i=n:=⋯
  subst e;exact .inl ⟨q0k _,hd σ H p⟩
theorem aC4 {c:TT} {tb:TS} {D:ah5} {σ:St} {H:Hp} (Pv:St->Hp->Prop) (μ:St->Hp->Nat) (h0:Pv σ H)
  (hs:∀ σ H,Pv σ H->c σ H λb H1=>if b=true then tb { D with nx:=λσ' H'=>Pv σ' H'/\μ σ' H'<μ σ H,ct:=λσ' H'=>Pv σ' H'/\μ σ' H'<μ σ H,bk:=D.nx } σ H1 else D.nx σ H1)
  (mono:∀ σ H Q Q',(∀ b H1,Q b H1->Q' b H1)->c σ H Q->c σ H Q'):aq2 c tb D σ H:=by
 refine ⟨λm σ H=>m=μ σ H/\Pv σ H,⟨_,rfl,h0⟩,?_⟩;rintro m σ H ⟨rfl,p⟩;refine mono σ H _ _ (λb H1 q=>?_) (hs σ H p)
 cases b with
 | true=>exact ⟨_,λσ' H' ⟨p',l⟩=>⟨_,l,rfl,p'⟩,q⟩
 | false=>exact q
abbrev R2:=V->V->Hp->VK->Prop
def OpR (X:Cx) (f:Value->Value->Sem Value) (r:R2):Prop :=
 ∀ (pins:List (Addr × Obj)) (s:Shared) (σ:St) (H:Hp) (x y:V) (v u:Value) (Q:VK),Inv X pins σ H s->y1 x v->y1 y u->r x y H Q ->
  wpAny (model X.prog X.w) X.A (f v u) (EP X pins σ Q) X.xe s
def UnR (X:Cx) (f:Value->Sem Value) (r:V->Hp->VK->Prop):Prop :=
 ∀ (pins:List (Addr × Obj)) (s:Shared) (σ:St) (H:Hp) (x:V) (v:Value) (Q:VK),Inv X pins σ H s->y1 x v->r x H Q ->
  wpAny (model X.prog X.w) X.A (f v) (EP X pins σ Q) X.xe s
def Y4 (X:Cx) (f:Value) (r:List V->Hp->VK->Prop):Prop :=
 ∀ (pins:List (Addr × Obj)) (s:Shared) (σ:St) (H:Hp) (xs:List V) (us:List Value) (Q:VK),Inv X pins σ H s->m6 xs us->r xs H Q ->
  wpAny (model X.prog X.w) X.A (call f us) (EP X pins σ Q) X.xe s
def bi6 (X:Cx) (r:V->Hp->(Bool->Hp->Prop)->Prop):Prop :=
 ∀ (pins:List (Addr × Obj)) (s:Shared) (σ:St) (H:Hp) (x:V) (v:Value) (Q:Bool->Hp->Prop),Inv X pins σ H s->y1 x v->r x H Q ->
  wpAny (model X.prog X.w) X.A (truthy v) (TP X pins σ Q) X.xe s
def tOp (r:R2) (ta tb:TE):TE:=λσ H Q=>ta σ H λx H1=>tb σ H1 λy H2=>r x y H2 Q
def tUn (r:V->Hp->VK->Prop) (ta:TE):TE:=λσ H Q=>ta σ H λx H1=>r x H1 Q
def rI (C:Int->Int->Prop) (g:Int->Int->V):R2:=λx y H Q => ∃ i j,x=.int i/\y=.int j/\C i j/\Q (g i j) H
def rI0 (g:Int->Int->V):R2:=λx y H Q => ∃ i j,x=.int i/\y=.int j/\Q (g i j) H
def rU (g:Int->V):V->Hp->VK->Prop:=λx H Q => ∃ i,x=.int i/\Q (g i) H
section
variable {X:Cx} {a b c:Expr} {ta tb tc:TE} {pos:Pos}
theorem be7 (ha:PE X a ta) (hb:PE X b tb) {pins:List (Addr × Obj)} {s:Shared} {σ:St} {H:Hp} {R:V->V->Hp->Prop} (I:Inv X pins σ H s)
  (h:ta σ H λx H1=>tb σ H1 λy H2=>R x y H2) {Q:Value->Shared->Prop} {f:Value->Value->Sem Value}
  (hf:∀ v u s2 x y H2,Inv X pins σ H2 s2->y1 x v->y1 y u->R x y H2->wpAny (model X.prog X.w) X.A (f v u) Q X.xe s2) :
  wpAny (model X.prog X.w) X.A (eval a X.env) (λv s₁=>wpAny (model X.prog X.w) X.A (eval b X.env) (λu s₂=>wpAny (model X.prog X.w) X.A (f v u) Q X.xe s₂) X.xe s₁) X.xe s:=by
 refine thn (ha pins s σ H _ I h) λv s1 zq=>?_;obtain ⟨x,H1,I1,r1,q1⟩:=zq;refine thn (hb pins s1 σ H1 _ I1 q1) λu s2 zq=>?_;obtain ⟨y,H2,I2,r2,q2⟩:=zq;exact hf v u s2 x y H2 I2 r1 r2 q2
theorem i7 {op:Operator} {r:R2} (ho:OpR X (binaryOp op) r) (ha:PE X a ta) (hb:PE X b tb):PE X (.BinOp a op b pos) (tOp r ta tb):=by
 intro pins s σ H Q I h;exact wpAny_BinOp (be7 ha hb I h λv u s2 x y H2 I2 rx ry q=>ho pins s2 σ H2 x y v u Q I2 rx ry q)
theorem aE1 {op:UnaryOp} {r:V->Hp->VK->Prop} (ho:UnR X (unaryOp op) r) (ha:PE X a ta):PE X (.UnaryOp op a pos) (tUn r ta):=by
 intro pins s σ H Q I h;exact UnaryOp_ (thn (ha pins s σ H _ I h) λv s1 ⟨x,H1,I1,r1,q1⟩=>ho pins s1 σ H1 x v Q I1 r1 q1)
theorem opI {f:Value->Value->Sem Value} {C:Int->Int->Prop} {g:Int->Int->Int}
  (rule:∀ (i j:Int) (t u:Tok) (s:Shared) (Q:Value->Shared->Prop) (E:Value->Shared->Prop),C i j->Q (.int (g i j) s.toks) { s with toks:=s.toks+1 }->wpAny (model X.prog X.w) X.A (f (.int i t) (.int j u)) Q E s) :
  OpR X f (rI C λi j=>.int (g i j)):=by
 intro pins s σ H x y v u Q I rx ry h;obtain ⟨i,j,rfl,rfl,hc,q⟩:=h;obtain ⟨t,rfl⟩:=rx;obtain ⟨t',rfl⟩:=ry;exact rule i j t t' s _ _ hc ⟨.int (g i j),H,I.tok _,⟨_,rfl⟩,q⟩
theorem bg2 {f:Value->Value->Sem Value} {g:Int->Int->Int}
  (rule:∀ (i j:Int) (t u:Tok) (s:Shared) (Q:Value->Shared->Prop) (E:Value->Shared->Prop),Q (.int (g i j) s.toks) { s with toks:=s.toks+1 }->wpAny (model X.prog X.w) X.A (f (.int i t) (.int j u)) Q E s) :
  OpR X f (rI0 λi j=>.int (g i j)):=by
 intro pins s σ H x y v u Q I rx ry h;obtain ⟨i,j,rfl,rfl,q⟩:=h;obtain ⟨t,rfl⟩:=rx;obtain ⟨t',rfl⟩:=ry;exact rule i j t t' s _ _ ⟨.int (g i j),H,I.tok _,⟨_,rfl⟩,q⟩
theorem bc8 {f:Value->Value->Sem Value} {g:Int->Int->Bool}
  (rule:∀ (i j:Int) (t u:Tok) (s:Shared) (Q:Value->Shared->Prop) (E:Value->Shared->Prop),Q (.bool (g i j)) s->wpAny (model X.prog X.w) X.A (f (.int i t) (.int j u)) Q E s) :
  OpR X f (rI0 λi j=>.bl (g i j)):=by
 intro pins s σ H x y v u Q I rx ry h;obtain ⟨i,j,rfl,rfl,q⟩:=h;obtain ⟨t,rfl⟩:=rx;obtain ⟨t',rfl⟩:=ry;exact rule i j t t' s _ _ ⟨.bl (g i j),H,I,rfl,q⟩
def bf5 (i j:Int):Prop:=0<=j/\j<=1000000/\i.natAbs<2 ^ 64
theorem B4:OpR X (binaryOp .Add) (rI0 λi j=>.int (i+j)):=bg2 λ_ _ _ _ _ _ _ q=>add_int q
theorem ac3:OpR X (binaryOp .Sub) (rI0 λi j=>.int (i-j)):=bg2 λ_ _ _ _ _ _ _ q=>sub_int q
theorem M1:OpR X (binaryOp .Mod) (rI (λ_ j=>j ≠ 0) λi j=>.int (i.fmod j)):=opI λ_ _ _ _ _ _ _ hc q=>mod_int' hc q
theorem ac4:OpR X (binaryOp .Pow) (rI bf5 λi j=>.int (i ^ j.toNat)):=opI λ_ _ _ _ _ _ _ hc q=>pow_int_small hc.1 hc.2.1 hc.2.2 q
theorem unI {f:Value->Sem Value} {g:Int->Int}
  (rule:∀ (i:Int) (t:Tok) (s:Shared) (Q:Value->Shared->Prop) (E:Value->Shared->Prop),Q (.int (g i) s.toks) { s with toks:=s.toks+1 }->wpAny (model X.prog X.w) X.A (f (.int i t)) Q E s) :
  UnR X f (rU λi=>.int (g i)):=by
 intro pins s σ H x v Q I rx h;obtain ⟨i,rfl,q⟩:=h;obtain ⟨t,rfl⟩:=rx;exact rule i t s _ _ ⟨.int (g i),H,I.tok _,⟨_,rfl⟩,q⟩
theorem aq1:UnR X (unaryOp .USub) (rU λi=>.int (-i)):=unI λ_ _ _ _ _ q=>neg_int q
def aH1:V->V->Bool
 | .non,.non=>true | .non,.int _=>true | .int _,.non=>true | .non,.bl _=>true | .bl _,.non=>true | .non,.str _=>true | .str _,.non=>true
 | .int _,.int _=>true | .bl _,.bl _=>true | .str _,.str _=>true | .byt _,.byt _=>true
 | .int _,.str _=>true | .str _,.int _=>true | .bl _,.str _=>true | .str _,.bl _=>true
 | _,_=>false
def rEq:R2:=λx y H Q=>aH1 x y=true/\Q (.bl (decide (x=y))) H
def rNe:R2:=λx y H Q=>aH1 x y=true/\Q (.bl (!decide (x=y))) H
theorem aN4 {i j:Int}:decide (V.int i=V.int j)=(i == j):=by
 rw [u0t]
 simp
theorem aW7 {i j:Bool}:decide (V.bl i=V.bl j)=(i == j):=by
 rw [u0t]
 simp
theorem aN3 {i j:Str}:decide (V.str i=V.str j)=(i == j):=by
 rw [u0t]
 simp
theorem aN5 {i j:Array UInt8}:decide (V.byt i=V.byt j)=(i.toList == j.toList):=by
 rw [u0t]
 cases i
 cases j
 simp
theorem t6 {pins:List (Addr × Obj)} {σ:St} {H:Hp} {s:Shared} {Q:VK} {k k':Bool} (I:Inv X pins σ H s) (q:Q (.bl k) H) (e:k=k'):EP X pins σ Q (.bool k') s:=by
 subst e;exact ⟨.bl k,H,I,rfl,q⟩
theorem X4:OpR X (compareOp .Eq) rEq:=by
 intro pins s σ H x y v u Q I rx ry h;obtain ⟨hs,q⟩:=h
 cases x with
 | non =>
  cases rx
  cases y with
  | non=>cases ry;exact PySem.EqNone.eq_none_none (t6 I q (by simp))
  | bl j=>cases ry;exact PySem.EqNone.eq_none_bool (t6 I q (by simp))
  | int j=>obtain ⟨t',rfl⟩:=ry;exact PySem.EqNone.eq_none_int (t6 I q (by simp))
  | str j=>obtain ⟨t',rfl⟩:=ry;exact PySem.EqNone.eq_none_str (t6 I q (by simp))
  | _=>exact absurd (show false=true from hs) q0u
 | bl i =>
  cases rx
  cases y with
  | non=>cases ry;exact PySem.EqNone.eq_bool_none (t6 I q (by simp))
  | bl j=>cases ry;exact eq_bool (t6 I q aW7)
  | str j=>obtain ⟨t',rfl⟩:=ry;exact PySem.EqMixed.eq_bool_str (t6 I q (by simp))
  | _=>exact absurd (show false=true from hs) q0u
 | int i =>
  obtain ⟨t,rfl⟩:=rx
  cases y with
  | non=>cases ry;exact PySem.EqNone.eq_int_none (t6 I q (by simp))
  | int j=>obtain ⟨t',rfl⟩:=ry;exact eq_int (t6 I q aN4)
  | str j=>obtain ⟨t',rfl⟩:=ry;exact PySem.EqMixed.eq_int_str (t6 I q (by simp))
  | _=>exact absurd (show false=true from hs) q0u
 | str i =>
  obtain ⟨t,rfl⟩:=rx
  cases y with
  | non=>cases ry;exact PySem.EqNone.eq_str_none (t6 I q (by simp))
  | bl j=>cases ry;exact PySem.EqMixed.eq_str_bool (t6 I q (by simp))
  | int j=>obtain ⟨t',rfl⟩:=ry;exact PySem.EqMixed.eq_str_int (t6 I q (by simp))
  | str j=>obtain ⟨t',rfl⟩:=ry;exact eq_str (t6 I q aN3)
  | _=>exact absurd (show false=true from hs) q0u
 | byt i =>
  obtain ⟨t,rfl⟩:=rx
  cases y with
  | byt j=>obtain ⟨t',rfl⟩:=ry;exact PySem.W.eq_bytes (t6 I q aN5)
  | _=>exact absurd (show false=true from hs) q0u
 | _=>cases y <;> exact absurd (show false=true from hs) q0u
theorem af9:OpR X (compareOp .NotEq) rNe:=by
 intro pins s σ H x y v u Q I rx ry h;obtain ⟨hs,q⟩:=h
 cases x with
 | non =>
  cases rx
  cases y with
  | non=>cases ry;exact PySem.EqNone.ne_none_none (t6 I q (by simp))
  | bl j=>cases ry;exact PySem.EqNone.ne_none_bool (t6 I q (by simp))
  | int j=>obtain ⟨t',rfl⟩:=ry;exact PySem.EqNone.ne_none_int (t6 I q (by simp))
  | str j=>obtain ⟨t',rfl⟩:=ry;exact PySem.EqNone.ne_none_str (t6 I q (by simp))
  | _=>exact absurd (show false=true from hs) q0u
 | bl i =>
  cases rx
  cases y with
  | non=>cases ry;exact PySem.EqNone.ne_bool_none (t6 I q (by simp))
  | bl j=>cases ry;exact ne_bool (t6 I q (congrArg not aW7))
  | str j=>obtain ⟨t',rfl⟩:=ry;exact PySem.EqMixed.ne_bool_str (t6 I q (by simp))
  | _=>exact absurd (show false=true from hs) q0u
 | int i =>
  obtain ⟨t,rfl⟩:=rx
  cases y with
  | non=>cases ry;exact PySem.EqNone.ne_int_none (t6 I q (by simp))
  | int j=>obtain ⟨t',rfl⟩:=ry;exact ne_int (t6 I q (congrArg not aN4))
  | str j=>obtain ⟨t',rfl⟩:=ry;exact PySem.EqMixed.ne_int_str (t6 I q (by simp))
  | _=>exact absurd (show false=true from hs) q0u
 | str i =>
  obtain ⟨t,rfl⟩:=rx
  cases y with
  | non=>cases ry;exact PySem.EqNone.ne_str_none (t6 I q (by simp))
  | bl j=>cases ry;exact PySem.EqMixed.ne_str_bool (t6 I q (by simp))
  | int j=>obtain ⟨t',rfl⟩:=ry;exact PySem.EqMixed.ne_str_int (t6 I q (by simp))
  | str j=>obtain ⟨t',rfl⟩:=ry;exact ne_str (t6 I q (congrArg not aN3))
  | _=>exact absurd (show false=true from hs) q0u
 | byt i =>
  obtain ⟨t,rfl⟩:=rx
  cases y with
  | byt j=>obtain ⟨t',rfl⟩:=ry;exact PySem.W.ne_bytes (t6 I q (congrArg not aN5))
  | _=>exact absurd (show false=true from hs) q0u
 | _=>cases y <;> exact absurd (show false=true from hs) q0u
theorem aq6:OpR X (compareOp .Lt) (rI0 λi j=>.bl (decide (i<j))):=bc8 λ_ _ _ _ _ _ _ q=>lt_int q
theorem ai5:OpR X (compareOp .Gt) (rI0 λi j=>.bl (decide (j<i))):=bc8 λ_ _ _ _ _ _ _ q=>gt_int q
theorem bg1:OpR X (compareOp .GtE) (rI0 λi j=>.bl (decide (j<=i))):=bc8 λ_ _ _ _ _ _ _ q=>ge_int q
theorem aY6:OpR X (compareOp .IsNot) (λx y H Q=>y=.non/\Q (.bl (!decide (x=.non))) H):=by
 intro pins s σ H x y v u Q I rx ry h;obtain ⟨rfl,q⟩:=h
 cases ry
 refine isnot_none_gen (t6 I q ?_)
 cases x <;> first
  | (cases rx;rfl)
  | (obtain ⟨t,rfl⟩:=rx;rfl)
theorem j9 (b:Expr) {op:CmpOp} (h:op ≠ .In:=by decide) (h2:op ≠ .NotIn:=by decide):behindInMarks op b=false:=by
 have e1:(op == CmpOp.In)=false:=by cases op <;> first | rfl | exact absurd rfl h
 have e2:(op == CmpOp.NotIn)=false:=by cases op <;> first | rfl | exact absurd rfl h2
 cases b <;> simp [behindInMarks,e1,e2]
theorem K3 {op:CmpOp} {r:R2} (ho:OpR X (compareOp op) r) (ha:PE X a ta) (hb:PE X b tb) (hm:behindInMarks op b=false):PE X (.Compare a [op] [b] pos) (tOp r ta tb):=by
 intro pins s σ H Q I h;exact wpAny_Compare1 (be7 ha hb I h λv u s2 x y H2 I2 rx ry q=>ho pins s2 σ H2 x y v u Q I2 rx ry q) hm
def al8 (t:TE):TT:=λσ H Q=>t σ H λx H' => ∃ k,x=.bl k/\Q k H'
theorem l5 {op:CmpOp} {r:R2} (ho:OpR X (compareOp op) r) (ha:PE X a ta) (hb:PE X b tb) (hm:behindInMarks op b=false):PT X (.Compare a [op] [b] pos) (al8 (tOp r ta tb)):=by
 intro pins s σ H Q I h
 refine wpAny_isTrue_Compare1 (thn (ha pins s σ H _ I h) λv s1 ⟨x,H1,I1,r1,q1⟩=>thn (hb pins s1 σ H1 _ I1 q1) λu s2 ⟨y,H2,I2,r2,q2⟩ =>
  thn (ho pins s2 σ H2 x y v u _ I2 r1 r2 q2) λc s3 ⟨z,H3,I3,r3,k,e,q3⟩=>?_) hm
 subst e
 cases r3
 exact wpAny_truthy_bool ⟨H3,I3,q3⟩
def ba4 (K:q0a) (x:V) (H:Hp) (k:Bool):Prop :=
 match x with
 | .non=>k=false
 | .bl b=>k=b
 | .int i=>k=(i != 0)
 | .str y=>y.length<=sizeLine/\k=((y.length:Int) != 0)
 | .byt y=>y.size<=sizeLine/\k=((y.size:Int) != 0)
 | .ref p=>(∃ xs,SqL K H p xs/\k = !xs.isEmpty) \/ (∃ xs,SqT K H p xs/\k = !xs.isEmpty) \/ ∃ kvs,H p=some (.dK kvs)/\k = !kvs.isEmpty
 | _=>False
theorem aI9 {κ:Type} {kvs:List (κ × V)} {vs:List (κ × Value)} (r:KV kvs vs):(!vs.isEmpty) = !kvs.isEmpty:=by
 cases r <;> rfl
theorem ar7 {xs:List V} {its:List Value} (r:m6 xs its):(!its.toArray.isEmpty) = !xs.isEmpty:=by
 cases r <;> simp
theorem al1:(sizeLine:Nat)<2 ^ 63:=by rw [sizeLine_eq];decide
theorem bb9:bi6 X (λx H Q => ∃ k,ba4 X.K x H k/\Q k H):=by
 intro pins s σ H x v Q I rx h;obtain ⟨k,e,q⟩:=h;have hl:=al1;have hs:sizeLine=16777216:=sizeLine_eq
 cases x with
 | non =>
  cases rx
  have e':k=false:=e;subst e';exact truthy_none ⟨H,I,q⟩
 | bl b =>
  cases rx
  have e':k=b:=e;subst e';exact wpAny_truthy_bool ⟨H,I,q⟩
 | int i =>
  obtain ⟨t,rfl⟩:=rx;have e':k=(i != 0):=e;subst e';exact PySem.P.truthy_int ⟨H,I,q⟩
 | str y =>
  obtain ⟨t,rfl⟩:=rx;obtain ⟨hy,e'⟩:y.length<=sizeLine/\k=((y.length:Int) != 0):=e;subst e';exact PySem.P.truthy_str ⋯ ⟨H,I.tok _,q⟩
 | byt y =>
  obtain ⟨t,rfl⟩:=rx;obtain ⟨hy,e'⟩:y.size<=sizeLine/\k=((y.size:Int) != 0):=e;subst e';exact PySem.W.truthy_bytes ⋯ ⟨H,I.tok _,q⟩
 | ref p =>
  cases rx
  have e':(∃ xs,SqL X.K H p xs/\k = !xs.isEmpty) \/ (∃ xs,SqT X.K H p xs/\k = !xs.isEmpty) \/ ∃ kvs,H p=some (.dK kvs)/\k = !kvs.isEmpty:=e;rcases e' with ⟨xs,hx,e'⟩ | ⟨xs,hx,e'⟩ | ⟨kvs,hx,e'⟩
  ·subst e'
   obtain ⟨its,r,pl,hz⟩:=I.list hx;have hlen:=r.length;exact wpAny_truthy_list pl.isList (by simp only [q0t];omega) ⟨H,I.tok _,by rw [ar7 r];exact q⟩
  ·subst e'
   obtain ⟨its,r,pl,hz⟩:=I.tuple hx;have hlen:=r.length;exact truthy_tuple pl (by simp only [q0t];omega) ⟨H,I.tok _,by rw [ar7 r];exact q⟩
  ·subst e'
   obtain ⟨hz,hS,vs,r,m⟩:kvs.length<=sizeLine/\(p == sysModules)=false/\∃ vs,KV kvs vs/\s.heap.DictOf (aB0 X.prog X.w) p vs:=I.hok p _ hx;have hlen:kvs.length=vs.length:=Paired.length r;exact wpAny_truthy_dict hS m ⋯ ⟨H,I.tok _,by rw [aI9 r];exact q⟩
 | _=>exact (show False from e).elim
theorem aq3 (ha:PE X a ta) (he:∀ whole,isTrue a X.env whole=(do let v <- whole;standAt a.pos;holding [v] (truthy v))) :
  PT X a (λσ H Q=>ta σ H λx H' => ∃ k,ba4 X.K x H' k/\Q k H'):=by
 intro pins s σ H Q I h;exact isTrue_plain (thn (ha pins s σ H _ I h) λv s1 ⟨x,H1,I1,r1,q1⟩=>bb9 pins s1 σ H1 x v Q I1 r1 q1) (he _)
theorem aq0 {x:V} {us:List Value} (r:m6 [x] us):∃ u,us=[u]/\y1 x u:=by
 cases r with
 | cons r1 r2=>cases r2;exact ⟨_,rfl,r1⟩
theorem ba8 {x y:V} {us:List Value} (r:m6 [x,y] us):∃ u w',us=[u,w']/\y1 x u/\y1 y w':=by
 cases r with
 | cons r1 r2 =>
  cases r2 with
  | cons r3 r4=>cases r4;exact ⟨_,_,rfl,r1,r3⟩
theorem ad8:Y4 X (.builtin "abs") (λxs H Q => ∃ i,xs=[.int i]/\Q (.int (if i<0 then -i else i)) H):=by
 intro pins s σ H xs us Q I r h;obtain ⟨i,rfl,q⟩:=h;obtain ⟨u,rfl,t,rfl⟩:=aq0 r;exact call_abs_int λu tk=>⟨.int (if i<0 then -i else i),H,I.tok _,⟨_,rfl⟩,q⟩
theorem ax9 (hc:X.calm=true):Y4 X (.builtin "max") (λxs H Q => ∃ i j,xs=[.int i,.int j]/\Q (.int (if j > i then j else i)) H):=by
 intro pins s σ H xs us Q I r h;obtain ⟨i,j,rfl,q⟩:=h;obtain ⟨u,w',rfl,⟨t,rfl⟩,⟨t',rfl⟩⟩:=ba8 r;refine max_two_ints (I.ok.hd hc) λh' tk k=>⟨_,H,I.kept k,?_,q⟩
 by_cases hj:j > i
 ·rw [if_pos hj,if_pos hj];exact ⟨_,rfl⟩
 ·rw [if_neg hj,if_neg hj];exact ⟨_,rfl⟩
theorem aR0 (hc:X.calm=true):Y4 X (.builtin "min") (λxs H Q => ∃ i j,xs=[.int i,.int j]/\Q (.int (if j<i then j else i)) H):=by
 intro pins s σ H xs us Q I r h;obtain ⟨i,j,rfl,q⟩:=h;obtain ⟨u,w',rfl,⟨t,rfl⟩,⟨t',rfl⟩⟩:=ba8 r;refine min_two_ints (I.ok.hd hc) λh' tk k=>⟨_,H,I.kept k,?_,q⟩
 by_cases hj:j<i
 ·rw [if_pos hj,if_pos hj];exact ⟨_,rfl⟩
 ·rw [if_neg hj,if_neg hj];exact ⟨_,rfl⟩
theorem N5:Y4 X (.type "int") (λxs H Q=>(∃ i,xs=[.int i]/\Q (.int i) H) \/ ∃ k,xs=[.bl k]/\Q (.int (if k then 1 else 0)) H):=by
 intro pins s σ H xs us Q I r h;rcases h with ⟨i,rfl,q⟩ | ⟨k,rfl,q⟩
 ·obtain ⟨u,rfl,t,rfl⟩:=aq0 r
  exact call_int_int ⟨.int i,H,I,⟨_,rfl⟩,q⟩
 ·obtain ⟨u,rfl,r1⟩:=aq0 r
  cases r1
  exact call_int_bool ⟨.int (if k then 1 else 0),H,I.tok _,⟨_,rfl⟩,q⟩
end
structure bf4 (h:Heap) (x dx C:Addr) (mA:Str->Option Value):Prop where
 obj:h.get? x=some (g0w C dx)
 ns:h.Ns1 dx mA
 ne:dx ≠ x
theorem aP6 {h:Heap} {dx:Addr} {mA:Str->Option Value} (n:h.Ns1 dx mA):∃ od,h.get? dx=some od/\∀ name,m0g name od=some (mA name):=by
 obtain ⟨o,es,ep,ho,hd,hk,_,hm⟩:=n;refine ⟨o,ho,λname=>?_⟩;have e:=hm name;unfold nsFind findBy at e;rw [<- Array.find?_toList] at e;unfold m0g;rw [hd]
 dsimp only
 split
 ·rename_i y q
  rw [q] at e;exact congrArg some e
 ·rename_i q
  rw [q] at e
  have a:es.toList.any (·.refKey)=false:=by
   rw [List.any_eq_false];intro y hy;obtain ⟨z,t,hkey⟩:=hk y (Array.mem_toList_iff.mp hy)
   simp [DictEntry.refKey,hkey]
  have a':¬ es.toList.any (·.refKey)=true:=by rw [a];exact q0u
  rw [if_neg a'];exact congrArg some e
theorem bf4.look {h:Heap} {x dx C:Addr} {mA:Str->Option Value} (I:bf4 h x dx C mA):∃ od,PySem.W.InstAt h x (g0w C dx) C (some od)/\∀ name,m0g name od=some (mA name) :=
 let ⟨od,ho,hl⟩:=aP6 I.ns
 ⟨od,⟨I.obj,rfl,rfl,ho⟩,hl⟩
section
variable {P:Program} {w:World} {H H':Hp} {h h':Heap} {a C dx:Addr} {fs fs':List (Str × V)}
theorem aZ3 (hok:HOk P w H h) (e:H a=some (.ins C dx fs)):∃ mA,bf4 h a dx C mA/\(∀ f,bf1 (fs.lookup f) (mA f))/\PySem.Within mA (fs.map (·.1))/\fs.length<=1000/\H dx=some (.own a):=by
 obtain ⟨d,z,ne,ob,mA,n,r,q⟩:=(show C9 P w H h a (.ins C dx fs) from hok a _ e);exact ⟨mA,⟨ob,n,ne⟩,r,q,z,d⟩
end
structure Cls (K:q0a) (C:Addr):Prop where
 pg:PySem.W.plainGet K C Str.empty=true
 hd:PySem.W.hasDictIn K C=true
 po:PySem.W.plainOver K C=true
 sa:v0y K (.ref C) "__setattr__" = some (some (.builtin "object.__setattr__"))
theorem Cls.get {K:q0a} {C:Addr} (c:Cls K C) (f:Str):PySem.W.plainGet K C f=true:=c.pg
structure Con (K:q0a) (C:Addr) (f:Str) (v:V) (u:Value):Prop where
 at_:v0y K (.ref C) f=some (some u)
 rel:y1 v u
 get:PySem.W.specialIn K u "__get__" = some none
 cp:PySem.W.copiedNames.contains f=false
structure Meth (K:q0a) (C:Addr) (m:Str) (f:Addr):Prop where
 at_:v0y K (.ref C) m=some (some (.ref f))
 fn:PySem.W.isFn K (.ref f)=true
 kp:y0f K (.ref f)=true
section
variable {X:Cx} {pins:List (Addr × Obj)} {σ:St} {H:Hp} {s:Shared} {A:Around} {E:Value->Shared->Prop} {Q:Value->Shared->Prop} {c:Value} {b:Bool}
inductive al6 (K:q0a) (H:Hp):V->Value->Prop where
 | non:al6 K H .non (.type "NoneType")
 | bl (x:Bool):al6 K H (.bl x) (.type "bool")
 | int (i:Int):al6 K H (.int i) (.type "int")
 | str (x:Str):al6 K H (.str x) (.type "str")
 | flt (x:UInt64):al6 K H (.flt x) (.type "float")
 | lst {a:Addr} {xs:List V} (e:H a=some (.lst xs)):al6 K H (.ref a) (.type "list")
 | frz {a:Addr} {o:Obj} {xs:List V} (e:H a=some (.frz o (.lst xs))):al6 K H (.ref a) (.type "list")
 | tup {a:Addr} {xs:List V} (e:H a=some (.tup xs)):al6 K H (.ref a) (.type "tuple")
 | dK {a:Addr} {kvs:List (Key × V)} (e:H a=some (.dK kvs)):al6 K H (.ref a) (.type "dict")
 | dT {a:Addr} {kvs:List (List Key × V)} (e:H a=some (.dT kvs)):al6 K H (.ref a) (.type "dict")
 | ins {a C dx:Addr} {fs:List (Str × V)} (e:H a=some (.ins C dx fs)) (cl:Cls K C) (ha:v0y K (.ref C) "__class__" = some (some (.builtin "object.__class__")))
   (hn:PySem.W.specialIn K (.builtin "object.__class__") "__get__" = some (some (.builtin "getset_descriptor.__get__"))) (htk:PySem.W.takesIn K (.builtin "object.__class__")=some true)
   (hm:PySem.W.mroIn K C (.type "object")=some true):al6 K H (.ref a) (.ref C)
theorem aP8 {x:V} {u t:Value} (I:Inv X pins σ H s) (rx:y1 x u) (ty:al6 X.K H x t) (e:z0b X.K t c=some b) (h:∀ tk,Q (.bool b) { s with toks:=tk }) :
  wpAny (model X.prog X.w) A (call (.builtin "isinstance") [u,c]) Q E s:=by
 cases ty with
 | non=>cases (show u=Value.none from rx);exact j0q PySem.W.kitx_none I.kIn True.intro e (λz=>nomatch z) h
 | bl y=>cases (show u=Value.bool y from rx);exact j0q PySem.W.kitx_bool I.kIn True.intro e (λz=>nomatch z) h
 | int i=>obtain ⟨t,q⟩:=(show ∃ t,u=Value.int i t from rx);cases q;exact j0q PySem.W.kitx_int I.kIn True.intro e (λz=>nomatch z) h
 | str y=>obtain ⟨t,q⟩:=(show ∃ t,u=Value.str y t from rx);cases q;exact j0q PySem.W.kitx_str I.kIn True.intro e (λz=>nomatch z) h
 | flt y=>obtain ⟨t,q⟩:=(show ∃ t,u=Value.float y t from rx);cases q;exact j0q PySem.W.kitx_float I.kIn True.intro e (λz=>nomatch z) h
 | @lst a xs ea =>
  cases (show u=Value.ref a from rx)
  obtain ⟨_,_,n,_,h1⟩:=(show C9 X.prog X.w H s.heap a (.lst xs) from I.hok a _ ea);exact j0q PySem.W.kitx_list I.kIn ⟨_,h1,rfl⟩ e (λz=>nomatch z) h
 | @frz a ob xs ea =>
  cases (show u=Value.ref a from rx)
  obtain ⟨_,_,_,n,_,h1⟩:=(show C9 X.prog X.w H s.heap a (.frz ob (.lst xs)) from I.hok a _ ea);exact j0q PySem.W.kitx_list I.kIn ⟨_,h1,rfl⟩ e (λz=>nomatch z) h
 | @tup a xs ea =>
  cases (show u=Value.ref a from rx)
  obtain ⟨_,_,_,p⟩:=(show C9 X.prog X.w H s.heap a (.tup xs) from I.hok a _ ea);obtain ⟨o,h1,h2,_⟩:=p;exact j0q PySem.W.kitx_tuple I.kIn ⟨o,h1,h2⟩ e (λz=>nomatch z) h
 | @dK a kvs ea =>
  cases (show u=Value.ref a from rx)
  obtain ⟨_,_,vs,_,p⟩:=(show C9 X.prog X.w H s.heap a (.dK kvs) from I.hok a _ ea);obtain ⟨o,es,ep,h1,h2,_⟩:=p;exact j0q PySem.W.kitx_dict I.kIn ⟨o,h1,h2.1⟩ e (λz=>nomatch z) h
 | @dT a kvs ea =>
  cases (show u=Value.ref a from rx)
  obtain ⟨_,_,xs,_,o,es,ep,h1,h2,_⟩:=(show C9 X.prog X.w H s.heap a (.dT kvs) from I.hok a _ ea);exact j0q PySem.W.kitx_dict I.kIn ⟨o,h1,h2.1⟩ e (λz=>nomatch z) h
 | @ins a C dx fs ea cl ha hn htk hm =>
  cases (show u=Value.ref a from rx)
  obtain ⟨mA,O,_⟩:=aZ3 I.hok ea;obtain ⟨od,J,_⟩:=O.look;exact j0q (PySem.W.kitx_own (cl.get _) cl.hd ha hn htk hm) I.kIn J e (λz=>nomatch z) h
end
structure T5 (k:Nat) (A:Around):Prop where
 hd:A.handled=none
 dp:A.depth+3*k+5<recursionLimit
 un:A.units+16*k+200<cLine
theorem T5.mono {j k:Nat} {A:Around} (r:T5 k A) (h:j<=k):T5 j A:=⟨r.hd,by have:=r.dp;omega,by have:=r.un;omega⟩
theorem T5.deeper {k:Nat} {A:Around} (r:T5 (k+1) A) (env:Env):T5 k (A.deeper env) :=
 ⟨r.hd,by have:=r.dp;show A.depth+1+3*k+5<_;omega,by have:=r.un;show A.units+3+16*k+200<_;omega⟩
theorem T5.depth {k:Nat} {A:Around} (r:T5 k A):A.depth<recursionLimit:=by have:=r.dp;omega
theorem T5.units {k:Nat} {A:Around} (r:T5 k A):A.units+64<cLine:=by have:=r.un;omega
def ao5:TA:=λ_ H Q=>Q [] H
def T9 (ta:TE) (tr:TA):TA:=λσ H Q=>ta σ H λx H1=>tr σ H1 λxs H2=>Q (x :: xs) H2
section
variable {X:Cx} {e:Expr} {es:List Expr} {te:TE} {t:TA} {pos:Pos}
theorem a8:PA X [] ao5:=λ_ _ _ _ H Q I h=>Calls.spliced_nil ⟨[],H,I,.nil,h⟩
theorem a7 (ha:PE X e te) (hr:PA X es t) (hs:starEach (e :: es) X.env=(false,eval e X.env) :: starEach es X.env:=by rfl):PA X (e :: es) (T9 te t):=by
 intro pos pins s σ H Q I h;rw [hs]
 show wpAny _ _ (spliced ((false,eval e X.env) :: backTo pos (starEach es X.env))) _ _ s;refine Calls.spliced_cons (thn (ha pins s σ H _ I h) λu s1 zq=>?_);obtain ⟨x,H1,I1,r1,q1⟩:=zq;refine thn (hr pos pins s1 σ H1 _ I1 q1) λus s2 zq=>?_;obtain ⟨xs,H2,I2,r2,q2⟩:=zq;exact ⟨x :: xs,H2,I2,.cons r1 r2,q2⟩
def aC5 (t:TA):TE:=λσ H Q=>t σ H λxs H1=>xs.length<=sizeLine/\∀ p,H1 p=none->Q (.ref p) (upd H1 p (.tup xs))
def aC7 (t:TA):TE:=λσ H Q=>t σ H λxs H1=>xs.length<=sizeLine/\∀ p,H1 p=none->Q (.ref p) (upd H1 p (.lst xs))
theorem m5 {x1} (h:PA X es t):PE X (.Tuple es x1 pos) (aC5 t):=by
 intro pins s σ H Q I hq;refine wpAny_Tuple_spliced (thn (h pos pins s σ H _ I hq) λus s1 ⟨xs,H1,I1,r,z,q⟩=>⟨by rw [<- r.length];exact z,?_⟩)
 have hf:H1 s1.heap.objs.size=none:=I1.hok.fresh (q0k _);refine ⟨.ref s1.heap.objs.size,upd H1 s1.heap.objs.size (.tup xs),I1.laid (t':=s1.toks) (λb u e=>q0n _ e) (q0k _) ?_,rfl,q _ hf⟩;exact ⟨z,us,r,⟨_,z0x _ rfl,rfl,_,rfl⟩⟩
theorem F8 (h:PA X es t):PE X (.List es pos) (aC7 t):=by
 intro pins s σ H Q I hq;refine wpAny_List_spliced (thn (h pos pins s σ H _ I hq) λus s1 ⟨xs,H1,I1,r,z,q⟩=>⟨by rw [<- r.length];exact z,?_⟩)
 have hf:H1 s1.heap.objs.size=none:=I1.hok.fresh (q0k _);refine ⟨.ref s1.heap.objs.size,upd H1 s1.heap.objs.size (.lst xs),I1.laid (t':=s1.toks) (λb u e=>q0n _ e) (q0k _) ?_,rfl,q _ hf⟩;exact ⟨z,us,0,r,z0x _ rfl⟩
end
abbrev Sp:=List V->Hp->VK->XK->Prop
abbrev CXT:=List Env->Hp->Shared->XK->Value->Shared->Prop
structure aR2 (P:Program) (w:World) (K:q0a) (mg:Str->Option Value) (base:Heap) (A:Around) (outer:List Env) (s:Shared) (H:Hp):Prop where
 frames:A.frames=some outer
 mod:Mod K mg base
 bs:∀ b o,base.get? b=some o->s.heap.get? b=some o/\H b=none
 bsz:base.objs.size<=s.heap.objs.size
 funs:s.heap.FunFrames base outer
 frf:∀ b ∈ frs outer,H b=none
 hok:HOk P w H s.heap
 bare:AllBare s.gens
def CE (outer:List Env) (P:Program) (w:World) (H:Hp) (s:Shared) (Q:VK) (u:Value) (s':Shared):Prop :=
 ∃ v H',s'.os=s.os/\AllBare s'.gens/\Un (frs outer) [] H H' s.heap s'.heap/\HOk P w H' s'.heap/\y1 v u/\Q v H'
def CR (CX:CXT) (outer:List Env) (P:Program) (w:World) (H:Hp) (s:Shared) (Q:VK) (E:XK) (r:Result) (s':Shared):Prop :=
 match r with
 | .ok (.ret u)=>CE outer P w H s Q u s'
 | .ok _=>False
 | .error e=>CX outer H s E e s'
structure aj5 (P:Program) (w:World) (K:q0a) (mg:Str->Option Value) (base:Heap) (CX:CXT) (k:Nat) (f:Addr) (fd:FuncData) (ps:List Str) (sp:Sp):Prop where
 len:∀ vs H Q E,sp vs H Q E->vs.length=ps.length
 run:∀ (A:Around) (outer:List Env) (s:Shared) (H:Hp) (args:Args) (us:List Value) (vs:List V) (Q:VK) (E:XK),T5 k A->aR2 P w K mg base A outer s H->BindsTo s fd args (ps.zip us)->m6 vs us->sp vs H Q E ->
  codeAny (model P w) A (.call (.ref f) args) (CR CX outer P w H s Q E) s
theorem aj5.mono {P:Program} {w:World} {K:q0a} {mg:Str->Option Value} {base:Heap} {CX:CXT} {j k:Nat} {f:Addr} {fd:FuncData} {ps:List Str} {sp:Sp} (F:aj5 P w K mg base CX j f fd ps sp) (h:j<=k) :
  aj5 P w K mg base CX k f fd ps sp:=⟨F.len,λA outer s H args us vs Q E hr=>F.run A outer s H args us vs Q E (hr.mono h)⟩
section
variable {X:Cx} {pins:List (Addr × Obj)} {σ:St} {H:Hp} {s s':Shared}
theorem Inv.env0 (I:Inv X pins σ H s):aR2 X.prog X.w X.K X.mg X.base X.A X.stack s H :=
 ⟨I.ok.frames,I.ok.mod,I.bs,q0p I.ok.bsz I.sz,I.stack,I.stkFree,I.hok,I.bare⟩
theorem Inv.after {Q:VK} {u:Value} (I:Inv X pins σ H s) (h:CE X.stack X.prog X.w H s Q u s'):EP X pins σ Q u s':=by
 obtain ⟨v,H',os,bare,un,hok,r,q⟩:=h;obtain ⟨hh,g,d,t,os'⟩:=s';obtain rfl:os'=s.os:=os;exact ⟨v,H',I.call (h':=hh) (g':=g) (d':=d) (t':=t) (ch:=[]) un hok bare (λb z=>absurd z (by simp)),r,q⟩
end
def ba9 (sp:Sp) (dvs:List V) (E:XK) (t:TA):TE:=λσ H Q=>t σ H λvs H1=>sp (vs ++ dvs) H1 Q E
def ae1 (K:q0a) (fd:FuncData) (ps:List Str) (ds:List Value):Prop :=
 ∀ (s:Shared) (us:List Value),K.In s.heap->(us ++ ds).length=ps.length->BindsTo s fd ⟨us,[]⟩ (ps.zip (us ++ ds))
theorem ae1.all {K:q0a} {fd:FuncData} {ps:List Str} (h:∀ us:List Value,us.length=ps.length->bindArgs fd ⟨us,[]⟩=pure (ps.zip us)):ae1 K fd ps []:=λs us _ hl=>by
 rw [v0b] at hl ⊢;exact .of_eq (h us hl)
def al7 (CX:CXT) (X:Cx) (E:XK):Prop:=∀ (pins:List (Addr × Obj)) (σ:St) (H:Hp) (s:Shared) (e:Value) (s':Shared),Inv X pins σ H s->CX X.stack H s E e s'->X.xe e s'
section
variable {X:Cx} {CX:CXT} {k:Nat} {f C:Addr} {fd:FuncData} {ps:List Str} {sp:Sp} {dvs:List V} {ds:List Value} {E:XK} {x m:Str} {p pos apos:Pos} {e o:Expr} {es:List Expr} {ta:TE} {t:TA}
theorem bc3 {pins:List (Addr × Obj)} {σ:St} {H:Hp} {s:Shared} {Q:VK} {us:List Value} {vs:List V} (F:aj5 X.prog X.w X.K X.mg X.base CX k f fd ps sp) (hr:T5 k X.A) (hb:ae1 X.K fd ps ds) (hd:m6 dvs ds) (hx:al7 CX X E)
  (I:Inv X pins σ H s) (r:m6 vs us) (h:sp (vs ++ dvs) H Q E):wpAny (model X.prog X.w) X.A (call (.ref f) us) (EP X pins σ Q) X.xe s:=by
 have r2:m6 (vs ++ dvs) (us ++ ds):=r.append hd;have hl:(us ++ ds).length=ps.length:=by rw [<- r2.length];exact F.len _ _ _ _ h
 refine wpAny_call (codeAny_mono (F.run X.A X.stack s H ⟨us,[]⟩ (us ++ ds) (vs ++ dvs) Q E hr I.env0 (hb s us I.kIn hl) r2 h) λr s' hq=>?_)
 cases r with
 | error e=>exact hx pins σ H s e s' I hq
 | ok fl =>
  cases fl with
  | ret u=>exact I.after hq
  | next=>exact False.elim hq
  | brk=>exact False.elim hq
  | cont=>exact False.elim hq
theorem aY4 (F:aj5 X.prog X.w X.K X.mg X.base CX k f fd ps sp) (hr:T5 k X.A) (hg:Gl X x) (hm:X.mg x=some (.ref f)) (hk:y0f X.K (.ref f)=true) (hb:ae1 X.K fd ps ds) (hd:m6 dvs ds) (hx:al7 CX X E)
  (ha:PA X (e :: es) t) (hdb:(x == ("__debug__" : Str))=false:=by decide) (he:starEach (e :: es) X.env=(false,eval e X.env) :: starEach es X.env:=by rfl) (hpl:(backTo pos (starEach es X.env)).any (·.1)=false:=by rfl) :
  PE X (.Call (.Name x p) (e :: es) [] pos) (ba9 sp dvs E t):=by
 intro pins s σ H Q I h;refine wpAny_Call_Name_kw (aj0 I hg hm ?_ hdb);refine PySem.W.callWith_K (h₀:=X.base) I.ok.mod.kin hk (thn (ha pos pins s σ H _ I h) λus s1 ⟨vs,H1,I1,r,q⟩=>⟨I1.kIn,?_⟩) he hpl;exact bc3 F hr hb hd hx I1 r q
structure Mk (K:q0a) (C f:Addr):Prop where
 makes:PySem.W.makesIn K C=true
 init:v0y K (.ref C) "__init__" = some (some (.ref f))
 fn:PySem.W.isFn K (.ref f)=true
 kp:y0f K (.ref C)=true
end
section
variable {X:Cx} {CX:CXT} {k:Nat} {f C:Addr} {fd:FuncData} {ps ks:List Str} {sp:Sp} {E:XK} {x m:Str} {p pos apos kpos:Pos} {e o:Expr} {es:List Expr} {kws:List Keyword} {te ta:TE} {t tk:TA} {nm:Option Str}
structure KBinds (K:q0a) (fd:FuncData) (ps ks:List Str) (g:List Value->List Value->List Value) (gV:List V->List V->List V):Prop where
 to:∀ (s:Shared) (us ws:List Value),K.In s.heap->(g us ws).length=ps.length->BindsTo s fd ⟨us,ks.zip ws⟩ (ps.zip (g us ws))
 rel:∀ {vs:List V} {us:List Value} {zs:List V} {ws:List Value},m6 vs us->m6 zs ws->m6 (gV vs zs) (g us ws)
variable {g:List Value->List Value->List Value} {gV:List V->List V->List V}
end
structure j1 (N P:List Str) (sc:Scope):Prop where
 kind:sc.kind=.function
 co:sc.isCoroutine=false
 gen:sc.isGenerator=false
 nd:N.Nodup
 pre:N.take P.length=P
 par:∀ x ∈ P,sc.names.lookup x=some .local \/ sc.names.lookup x=some .cell
 nofree:∀ y ∈ sc.names,y.2 ≠ .free
theorem ay0 {kindOf:Str->Option NameKind} {x:Str}:∀ {binds:List (Str × Value)} {m:Str->Option Value},(∀ v,(x,v) ∉ binds)->bindL kindOf binds m x=m x
 | [],_,_=>rfl
 | (n,v) :: r,m,h=>by
  unfold bindL;rw [ay0 λw hw=>h w (q0z _ hw)]
  split
  ·have:x ≠ n:=by rintro rfl;exact h v z0g
   simp [this]
  ·rfl
theorem ay2 {kindOf:Str->Option NameKind} {x:Str}:∀ {binds:List (Str × Value)} {m:Str->Option Value},(∀ v,(x,v) ∉ binds)->bindC kindOf binds m x=m x
 | [],_,_=>rfl
 | (n,v) :: r,m,h=>by
  unfold bindC;rw [ay2 λw hw=>h w (q0z _ hw)]
  split
  ·rfl
  ·have:x ≠ n:=by rintro rfl;exact h v z0g
   simp [this]
theorem ay1 {kindOf:Str->Option NameKind} {x:Str} {v:Value}:∀ {P:List Str} {vs:List Value} {i:Nat} {m:Str->Option Value},P.Nodup->P[i]? = some x->vs[i]? = some v->kindOf x=some .local ->
  bindL kindOf (P.zip vs) m x=some v
 | [],_,_,_,_,h,_,_=>by simp at h
 | _ :: _,[],_,_,_,_,h,_=>by simp at h
 | p :: P,w :: vs,0,m,nd,h1,h2,hk=>by
  simp at h1 h2;subst h1;subst h2
  show bindL kindOf ((p,w) :: P.zip vs) m p=_;unfold bindL;rw [ay0 λv hv=>(j0z.mp nd).1 (u0u hv).1,if_pos hk]
  simp
 | p :: P,w :: vs,i+1,m,nd,h1,h2,hk=>by
  show bindL kindOf ((p,w) :: P.zip vs) m x=_;unfold bindL;exact ay1 (i:=i) (j0z.mp nd).2 (by simpa using h1) (by simpa using h2) hk
theorem ay3 {kindOf:Str->Option NameKind} {x:Str} {v:Value}:∀ {P:List Str} {vs:List Value} {i:Nat} {m:Str->Option Value},P.Nodup->P[i]? = some x->vs[i]? = some v->kindOf x ≠ some .local ->
  bindC kindOf (P.zip vs) m x=some v
 | [],_,_,_,_,h,_,_=>by simp at h
 | _ :: _,[],_,_,_,_,h,_=>by simp at h
 | p :: P,w :: vs,0,m,nd,h1,h2,hk=>by
  simp at h1 h2;subst h1;subst h2
  show bindC kindOf ((p,w) :: P.zip vs) m p=_;unfold bindC;rw [ay2 λv hv=>(j0z.mp nd).1 (u0u hv).1,if_neg hk]
  simp
 | p :: P,w :: vs,i+1,m,nd,h1,h2,hk=>by
  show bindC kindOf ((p,w) :: P.zip vs) m x=_;unfold bindC;exact ay3 (i:=i) (j0z.mp nd).2 (by simpa using h1) (by simpa using h2) hk
def start (N:List Str) (vs:List V):St:=vs.map some ++ y0m (N.length-vs.length) none
def ad4 (CX:CXT) (P:Program) (w:World) (K:q0a) (mg:Str->Option Value) (base:Heap) (N:List Str) (qual:Str) (scope:Scope) (f:Addr) (cd:Value) (A:Around) (outer:List Env) (s:Shared) (H:Hp) (E:XK):Cx where
 prog:=P
 w:=w
 K:=K
 mg:=mg
 base:=base
 A:=A.deeper (envOfC qual scope s.heap.objs.size f cd)
 N:=N
 s₀:=s
 H₀:=H
 env:=envOfC qual scope s.heap.objs.size f cd
 outer:=outer
 stack:=envOfC qual scope s.heap.objs.size f cd :: outer
 ex:=[]
 calm:=true
 fn:=λ_=>true
 pn:=[]
 xe:=λe s'=>wpAny (model P w) (A.deeper (envOfC qual scope s.heap.objs.size f cd)) (leaving (envOfC qual scope s.heap.objs.size f cd) e) (λ_ s''=>CX outer H s E e s'') (λe' s''=>CX outer H s E e' s'') s'
theorem aG4 {sc:Scope} {n:Nat} {x:Str} (h:sc.names.lookup x=some .cell):∃ c,(cellsFrom n sc.names []).lookup x=some c:=by
 have q:=u0h sc.names n [] (.inl h);exact v0t.mp q
theorem ax1 {CX:CXT} {P:Program} {w:World} {K:q0a} {mg:Str->Option Value} {base:Heap} {N ps:List Str} {qual:Str} {scope:Scope} {f:Addr} {cd:Value} {A:Around} {outer:List Env} {s s1:Shared} {H:Hp} {E:XK} {us:List Value} {vs:List V}
  (S:j1 N ps scope) (hd:A.handled=none) (e0:aR2 P w K mg base A outer s H) (hl:vs.length=ps.length) (r:m6 vs us)
  (x:InCallC s s.heap.objs.size (bindL (envOfC qual scope s.heap.objs.size f cd).kindOf (ps.zip us) λ_=>none) (cellsFrom (s.heap.objs.size+1) scope.names []) (bindC (envOfC qual scope s.heap.objs.size f cd).kindOf (ps.zip us) λ_=>none) s1) :
  Inv (ad4 CX P w K mg base N qual scope f cd A outer s H E) [] (start N vs) H s1:=by
 have hpl:ps.length<=N.length:=by have:=congrArg List.length S.pre;rw [q0x] at this;omega
 obtain ⟨h1,tk,rfl,hk⟩:=x.done;have noA:∀ b:Addr,b ∉ (ad4 CX P w K mg base N qual scope f cd A outer s H E).ex:=λb z=>absurd (show b ∈ ([]:List Addr) from z) (by simp)
 refine ⟨⟨e0.mod,S.kind,rfl,rfl,q0k _,λy z c h1 h2=>?_,λy hy=>?_,λy c _ h=>?_,λ_=>hd,Around.frames_deeper e0.frames,.inr ⟨rfl,rfl⟩,λb z=>absurd z (noA b),e0.bs,e0.bsz,λb _ _=>noA b,λb z=>absurd z (noA b),e0.funs,e0.frf⟩,
  rfl,e0.bare,Un.kept hk,⟨_,x.toInCall.ns,λi y v h1 h2 h3=>?_⟩,λy c h=>⟨_,x.cell y c h⟩,e0.hok.fresh (q0k _),λy c h=>?_,λp hp=>absurd (show p ∈ ([]:List (Addr × Obj)) from hp) (by simp),e0.hok.kept hk,?_⟩
 ·exact name_of_addr x.apart (PySem.mem_of_lookup h1) (PySem.mem_of_lookup h2)
 ·have hy:scope.names.lookup y=some .cell \/ scope.names.lookup y=some .free:=hy
  rcases hy with hy | hy
  ·exact aG4 hy
  ·exact absurd rfl (S.nofree _ (PySem.mem_of_lookup hy))
 ·exact y0q (x.above y c (PySem.mem_of_lookup h))
 ·have hi:i<vs.length:=by
   unfold start at h2
   by_cases hi:i<vs.length
   ·exact hi
   ·rw [j0k (by simpa using hi)] at h2
    rw [v0a] at h2
    split at h2 <;> cases h2
  have ha:vs[i]? = some v:=by
   unfold start at h2;rw [j0f (by simpa using hi),q0f] at h2
   cases e:vs[i]? with
   | none=>rw [e] at h2;cases h2
   | some a=>rw [e] at h2;cases h2;rfl
  obtain ⟨u,hu,rv⟩:=r.get ha
  have hp:ps[i]? = some y:=by
   rw [<- S.pre,g0j ⋯];exact h1
  have ndP:ps.Nodup:=by rw [<- S.pre];exact S.nd.sublist (List.take_sublist _ _)
  refine ⟨u,rv,?_⟩;rcases S.par y (q0j hp) with k | k
  ·exact .inl ⟨k,ay1 ndP hp hu k⟩
  ·obtain ⟨c,e⟩:=aG4 (n:=s.heap.objs.size+1) k
   refine .inr ⟨.inl k,c,e,?_⟩;have q:=x.cell y c e;rw [ay3 ndP hp hu (by show scope.names.lookup y ≠ _;rw [k];decide)] at q
   exact q
 ·exact e0.hok.fresh (y0q (x.above y c (PySem.mem_of_lookup h)))
 ·unfold start
  show _=N.length;rw [j0g,q0b,v0g];omega
theorem bb7 {CX:CXT} {P:Program} {w:World} {K:q0a} {mg:Str->Option Value} {base:Heap} {k:Nat} {f:Addr} {name qual:Str} {params:Arguments} {body:List Stmt} {scope:Scope} {dV kV doc pm cdv ct oc:Value} {an od:Option Addr}
  {osl:Array (Option Value)} {N ps:List Str} {sp:Sp} (lk:K.lookup f=some ⟨oc,od,.func (y0u name qual params body scope dV kV doc pm an cdv ct),osl⟩) (hcd:m0h K cdv qual=true) (S:j1 N ps scope)
  (len:∀ vs H Q E,sp vs H Q E->vs.length=ps.length)
  (hbody:∀ (A:Around) (outer:List Env) (s:Shared) (H:Hp) (vs:List V) (Q:VK) (E:XK),T5 k (A.deeper (envOfC qual scope s.heap.objs.size f cdv))->sp vs H Q E ->
   ∃ t,PSs (ad4 CX P w K mg base N qual scope f cdv A outer s H E) body t/\t { nx:=λ_ H'=>Q .non H',rt:=Q } (start N vs) H) :
  aj5 P w K mg base CX (k+1) f (y0u name qual params body scope dV kV doc pm an cdv ct) ps sp:=by
 refine ⟨len,λA outer s H args us vs Q E hr e0 hb r hsp=>?_⟩;have hl:=len _ _ _ _ hsp;have KX:K.In s.heap:=e0.mod.kin.keeps λb o e=>(e0.bs b o e).1;have lim:s.heap.NoLimit:=e0.mod.nolimit.keeps λb o e=>(e0.bs b o e).1
 have hkind:∀ y ∈ ps.zip us,scope.names.lookup y.1=some .local \/ (scope.names.lookup y.1=some .cell/\((cellsFrom (s.heap.objs.size+1) scope.names []).lookup y.1).isSome=true):=λ⟨n,v⟩ hy=>by
  rcases S.par n (u0u hy).1 with q | q
  ·exact .inl q
  ·exact .inr ⟨q,u0h _ _ _ (.inl q)⟩
 refine codeAny_call_function hr.depth (KX _ _ lk) rfl S.co S.gen rfl (PySem.W.codeRec_of KX hcd) (hb _ _ _ _ ?_);refine wpAny_newFunctionEnv_cells S.kind hkind λenv he s1 x=>?_;subst he;refine ⟨lim.keeps x.toInCall.keep,codeAny_func ?_⟩;obtain ⟨t,ht,hq⟩:=hbody A outer s H vs Q E (hr.deeper _) hsp;have I:Inv (ad4 CX P w K mg base N qual scope f cdv A outer s H E) [] (start N vs) H s1:=ax1 S hr.hd e0 hl r x;refine wpAny_mono (ht [] s1 (start N vs) H _ I hq) (λfl s' hs=>?_) λe s' hs=>hs
 have fin:∀ {σ':St} {H':Hp} {v:V} {u:Value},Inv (ad4 CX P w K mg base N qual scope f cdv A outer s H E) [] σ' H' s'->y1 v u->Q v H'->CE outer P w H s Q u s' :=
  fun {σ' H' v u} J rv q=>⟨v,H',J.os,J.bare,J.base,J.hok,rv,q⟩
 cases fl with
 | ret u =>
  obtain ⟨v,σ',H',J,rv,q⟩:=hs;exact fin J rv q
 | next =>
  obtain ⟨σ',H',J,q⟩:=hs;exact fin (v:=V.non) (u:=Value.none) J rfl q
 | brk =>
  obtain ⟨_,_,_,q⟩:=hs;exact False.elim q
 | cont =>
  obtain ⟨_,_,_,q⟩:=hs;exact False.elim q
section
variable {X:Cx} {x:Str} {p pos:Pos} {e:Expr} {es:List Expr} {t:TA} {id T:String} {r:List V->Hp->VK->Prop}
def tCB (r:List V->Hp->VK->Prop) (t:TA):TE:=λσ H Q=>t σ H λvs H1=>r vs H1 Q
theorem h8 (hc : Y4 X (.builtin id) r) (hg : Gl X x) (hm : X.mg x = none) (hv : bootBuiltins x = some (.builtin id)) (ha : PA X (e :: es) t) (hn : x ≠ "__name__" := by decide) (hdb : (x == ("__debug__" : Str)) = false := by decide)
    (he:starEach (e :: es) X.env=(false,eval e X.env) :: starEach es X.env:=by rfl) (hpl:(backTo pos (starEach es X.env)).any (·.1)=false:=by rfl):PE X (.Call (.Name x p) (e :: es) [] pos) (tCB r t):=by
  intro pins s σ H Q I h;refine wpAny_Call_Name_kw (ah1 I hg hm hv ?_ hn hdb);exact PyProof.Rows.callWith_builtin1 (thn (ha pos pins s σ H _ I h) λus s1 ⟨vs,H1,I1,r1,q1⟩=>hc pins s1 σ H1 vs us Q I1 r1 q1) he hpl
theorem E5 (hc : Y4 X (.type T) r) (hg : Gl X x) (hm : X.mg x = none) (hv : bootBuiltins x = some (.type T)) (ha : PA X (e :: es) t) (hn : x ≠ "__name__" := by decide) (hdb : (x == ("__debug__" : Str)) = false := by decide)
    (he:starEach (e :: es) X.env=(false,eval e X.env) :: starEach es X.env:=by rfl) (hpl:(backTo pos (starEach es X.env)).any (·.1)=false:=by rfl):PE X (.Call (.Name x p) (e :: es) [] pos) (tCB r t):=by
  intro pins s σ H Q I h;refine wpAny_Call_Name_kw (ah1 I hg hm hv ?_ hn hdb);exact PyProof.Rows.callWith_type1 (thn (ha pos pins s σ H _ I h) λus s1 ⟨vs,H1,I1,r1,q1⟩=>hc pins s1 σ H1 vs us Q I1 r1 q1) he hpl
end
end L2
namespace HT
open PySem PyProof.Rows
section
open PySem.SeqAt
open PySem.AutoSeq1 (wpAny_loadPart')
open PySem.MeetsSeq PySem.MeetsSeq2 PySem.MeetsSeq3
end
section
variable {prog:Program} {w:World} {A:Around} {E:Value->Shared->Prop} {s:Shared}
def sIx (n d:Nat):Option Int->Nat
 | none=>d
 | some v=>if v<0 then (v+(n:Int)).toNat else min v.toNat n
end
end HT
namespace L2
open PySem PySem.Spec PyProof.Rows
abbrev TO:=St->Hp->(Option Int->Hp->Prop)->Prop
def PO (X:Cx) (e:Option Expr) (t:TO):Prop :=
 ∀ (pins:List (Addr × Obj)) (s:Shared) (σ:St) (H:Hp) (Q:Option Int->Hp->Prop),Inv X pins σ H s->t σ H Q ->
  wpAny (model X.prog X.w) X.A (evalPart e X.env) (λu s' => ∃ o H',Inv X pins σ H' s'/\IsPart u o/\Q o H') X.xe s
def T8:TO:=λ_ H Q=>Q none H
def al9 (t:TE):TO:=λσ H Q=>t σ H λx H1 => ∃ i,x=.int i/\Q (some i) H1
section
variable {X:Cx} {e:Expr} {te:TE} {lo hi:Option Expr} {tl th:TO} {pos p2:Pos}
theorem V2:PO X none T8:=by
 intro pins s σ H Q I h;rw [evalPart_none];exact wpAny_pure ⟨none,H,I,.none,h⟩
theorem V1 (h:PE X e te):PO X (some e) (al9 te):=by
 intro pins s σ H Q I hw;rw [evalPart_some];refine thn (h pins s σ H _ I hw) λu s1 zq=>?_;obtain ⟨x,H1,I1,r1,q1⟩:=zq;obtain ⟨i,rfl,q⟩:=q1;obtain ⟨t,rfl⟩:=r1;exact ⟨some i,H1,I1,.int i t,q⟩
def SlR (X:Cx) (r:V->Option Int->Option Int->Hp->VK->Prop):Prop :=
 ∀ (pins:List (Addr × Obj)) (s:Shared) (σ:St) (H:Hp) (x:V) (v vl vu:Value) (lo hi:Option Int) (sl:Addr) (Q:VK),Inv X pins σ H s->y1 x v->s.heap.IsSliceOf sl vl vu .none->IsPart vl lo->IsPart vu hi->r x lo hi H Q ->
  ∃ T id,typeLookup (.type T) "__getitem__" = pure (some (.builtin id))/\s.TypeIs v T/\wpAny (model X.prog X.w) X.A (getItem v (.ref sl)) (EP X pins σ Q) X.xe s
def tSl (r:V->Option Int->Option Int->Hp->VK->Prop) (te:TE) (tl th:TO):TE:=λσ H Q=>te σ H λx H1=>tl σ H1 λl H2=>th σ H2 λu H3=>r x l u H3 Q
theorem O5 {r:V->Option Int->Option Int->Hp->VK->Prop} (hr:SlR X r) (he:PE X e te) (hl:PO X lo tl) (hu:PO X hi th):PE X (.Subscript e (.Slice lo hi none p2) pos) (tSl r te tl th):=by
 intro pins s σ H Q I h;refine Subscript_ (thn (he pins s σ H _ I h) λv s1 zq=>?_);obtain ⟨x,H1,I1,r1,q1⟩:=zq;refine wpAny_Slice (thn (hl pins s1 σ H1 _ I1 q1) λvl s2 ⟨l,H2,I2,pl,q2⟩=>thn (hu pins s2 σ H2 _ I2 q2) λvu s3 zq=>?_);obtain ⟨u,H3,I3,pu,q3⟩:=zq;rw [evalPart_none];refine wpAny_pure ?_;have I4:Inv X pins σ H3 { s3 with heap:=s3.heap.push { cls:=.type "slice",data:=.fields #[vl,vu,.none] } }:=I3.kept (t':=s3.toks) λb ob q=>q0n _ q
 obtain ⟨T,id,hT,ht,hg⟩:=hr pins { s3 with heap:=s3.heap.push { cls:=.type "slice",data:=.fields #[vl,vu,.none] } } σ H3 x v vl vu l u s3.heap.objs.size Q I4 r1 (Heap.IsSliceOf.new ..) pl pu q3
 show wpAny (model X.prog X.w) X.A (subscriptTail e (.Slice lo hi none p2) v (.ref s3.heap.objs.size)) (EP X pins σ Q) X.xe { s3 with heap:=s3.heap.push { cls:=.type "slice",data:=.fields #[vl,vu,.none] } }
 exact tail_any (ops:=[.ref s3.heap.objs.size,v]) ht hT hg (by with_unfolding_all rfl)
def aC1 (xs:List V) (lo hi:Option Int):List V:=(xs.drop (HT.sIx xs.length 0 lo)).take (HT.sIx xs.length xs.length hi-HT.sIx xs.length 0 lo)
theorem ad6 (xs:List V) (lo hi:Option Int):(aC1 xs lo hi).length<=xs.length:=by
 unfold aC1;rw [q0x,j0w];omega
end
def ixN (n:Nat) (i:Int):Option Nat:=if 0<=i then (if i<n then some i.toNat else none) else if -(n:Int)<=i then some (i+n).toNat else none
def atI {α:Type} (xs:List α) (i:Int):Option α:=(ixN xs.length i).bind λj=>xs[j]?
theorem aM6 {n:Nat} {i:Int} {j:Nat} (h:ixN n i=some j):seqIndex? i n=some j/\j<n/\-(n:Int)<=i/\i<n:=by
 unfold ixN at h
 by_cases h0:0<=i
 ·rw [if_pos h0] at h
  by_cases h1:i<n
  ·rw [if_pos h1] at h
   have e:i.toNat=j:=Option.some.inj h;exact ⟨by rw [seqIndex_of h0 h1,e],⋯,⋯,h1⟩
  ·rw [if_neg h1] at h;cases h
 ·rw [if_neg h0] at h
  by_cases h1:-(n:Int)<=i
  ·rw [if_pos h1] at h
   have e:(i+n).toNat=j:=Option.some.inj h;exact ⟨by rw [seqIndex_neg ⋯ h1,e],⋯,h1,⋯⟩
  ·rw [if_neg h1] at h;cases h
theorem aN8 {α:Type} {xs:List α} {i:Int} {v:α} (h:atI xs i=some v):∃ j,seqIndex? i xs.length=some j/\xs[j]? = some v/\j<xs.length/\-(xs.length:Int)<=i/\i<xs.length:=by
 unfold atI at h
 cases e:ixN xs.length i with
 | none=>rw [e] at h;cases h
 | some j =>
  rw [e] at h;obtain ⟨h1,h2,h3,h4⟩:=aM6 e;exact ⟨j,h1,h,h2,h3,h4⟩
theorem j3 {α:Type} {xs:List α} {j:Nat} {v:α} (h:xs[j]? = some v):atI xs (j:Int)=some v:=by
 have hj:j<xs.length:=(q0h.mp h).1
 have e:ixN xs.length (j:Int)=some j:=by
  unfold ixN;rw [if_pos ⋯,if_pos ⋯];simp
 unfold atI;rw [e];exact h
def ba5 (b:Expr):Prop:=∀ o i,subscripted b false o i=operate [o,i] (getItem o i)
def IxR (X:Cx) (r:R2):Prop :=
 ∀ (value slice:Expr) (pins:List (Addr × Obj)) (s:Shared) (σ:St) (H:Hp) (x y:V) (v u:Value) (Q:VK),Inv X pins σ H s->y1 x v->y1 y u->r x y H Q ->
  subscripted slice false v u=operate [v,u] (getItem v u)->wpAny (model X.prog X.w) X.A (subscriptTail value slice v u) (EP X pins σ Q) X.xe s
def MtR (X:Cx) (id:String) (r:V->List V->Hp->VK->Prop):Prop :=
 ∀ (pins:List (Addr × Obj)) (s:Shared) (σ:St) (H:Hp) (x:V) (xs:List V) (v:Value) (us:List Value) (Q:VK),Inv X pins σ H s->y1 x v->m6 xs us->r x xs H Q ->
  wpAny (model X.prog X.w) X.A (call (.builtin id) (v :: us)) (EP X pins σ Q) X.xe s
section
variable {X:Cx} {a b:Expr} {ta tb:TE} {pos:Pos}
theorem d8 {r:R2} (hr:IxR X r) (ha:PE X a ta) (hb:PE X b tb) (hs:ba5 b):PE X (.Subscript a b pos) (tOp r ta tb):=by
 intro pins s σ H Q I h;exact Subscript_ (be7 ha hb I h λv u s2 x y H2 I2 rx ry q=>hr a b pins s2 σ H2 x y v u Q I2 rx ry q (hs _ _))
def Z3 (K:q0a):R2:=λx y H Q => ∃ p xs i v,x=.ref p/\y=.int i/\SqL K H p xs/\atI xs i=some v/\Q v H
def au1 (K:q0a):R2:=λx y H Q => ∃ p xs i v,x=.ref p/\y=.int i/\SqT K H p xs/\atI xs i=some v/\Q v H
theorem i6:IxR X (Z3 X.K):=by
 intro value slice pins s σ H x y v u Q I rx ry h hs;obtain ⟨p,xs,i,z,rfl,rfl,hq,he,q⟩:=h
 cases rx
 obtain ⟨t,rfl⟩:=ry;obtain ⟨its,r,pl,hz⟩:=I.list hq;obtain ⟨j,h1,h2,h3,h4,h5⟩:=aN8 he;obtain ⟨w,ew,rw'⟩:=r.get h2;have hl:=r.length;have hn:=al1;have fin:EP X pins σ Q w s:=⟨z,H,I,rw',q⟩
 by_cases h0:0<=i
 ·have hj:i.toNat=j:=by
   rw [seqIndex_of h0 h5] at h1;exact Option.some.inj h1
  exact item_listR pl.isList h0 ⋯ (by rw [hj];simpa using ew) fin hs
 ·have hj:(i+(its.toArray.size:Int)).toNat=j:=by
   rw [seqIndex_neg ⋯ h4] at h1;rw [q0t,<- hl];exact Option.some.inj h1
  exact subscriptTail_builtinR (x:=w) pl.isList.typeIs slot_list_getitem.lookup
   (wpAny_getItem_list_neg (Q:=λr s'=>r=w/\EP X pins σ Q r s') pl.isList ⋯ (by rw [q0t] <;> omega) ⋯ (by rw [hj];simpa using ew) ⟨rfl,fin⟩) hs
theorem j8:IxR X (au1 X.K):=by
 intro value slice pins s σ H x y v u Q I rx ry h hs;obtain ⟨p,xs,i,z,rfl,rfl,hq,he,q⟩:=h
 cases rx
 obtain ⟨t,rfl⟩:=ry;obtain ⟨its,r,pl,hz⟩:=I.tuple hq;obtain ⟨j,h1,h2,h3,h4,h5⟩:=aN8 he;obtain ⟨w,ew,rw'⟩:=r.get h2;have hl:=r.length;have hn:=al1;have fin:EP X pins σ Q w s:=⟨z,H,I,rw',q⟩
 exact subscriptTail_builtinR (x:=w) pl.typeIs slot_tuple_getitem.lookup
  (getItem_tuple (j:=j) (Q:=λr s'=>r=w/\EP X pins σ Q r s') pl ⋯ ⋯ (by rw [q0t,<- hl];exact h1) (by simpa using ew) ⟨rfl,fin⟩) hs
theorem aI7 (its:List Value) (n j:Nat) (u:Value):Obj.mapSeq (·.setIfInBounds j u) { cls:=.type "list",data:=.seq its.toArray n }={ cls:=.type "list",data:=.seq (its.set j u).toArray n }:=by
 simp [Obj.mapSeq]
theorem Inv.lst {pins:List (Addr × Obj)} {σ:St} {H:Hp} {s:Shared} {p:Addr} {xs:List V} (I:Inv X pins σ H s) (h:H p=some (.lst xs)) :
  ∃ (its:List Value) (n:Nat),m6 xs its/\s.heap.get? p=some { cls:=.type "list",data:=.seq its.toArray n }/\xs.length<=sizeLine:=by
 obtain ⟨z,its,n,r,e⟩:=I.hok p _ h;exact ⟨its,n,r,e,z⟩
theorem Inv.lstUpd {pins:List (Addr × Obj)} {σ:St} {H:Hp} {s:Shared} {p:Addr} {xs ys:List V} {its its':List Value} {n n':Nat} {f:Obj->Obj} (I:Inv X pins σ H s) (h:H p=some (.lst xs))
  (ho:s.heap.get? p=some { cls:=.type "list",data:=.seq its.toArray n }) (hf:f { cls:=.type "list",data:=.seq its.toArray n }={ cls:=.type "list",data:=.seq its'.toArray n' }) (r:m6 ys its') (hz:ys.length<=sizeLine) (t:Nat) :
  Inv X pins σ (upd H p (.lst ys)) { s with heap:=s.heap.update p f,toks:=t }:=by
 have e:(s.heap.update p f).get? p=some { cls:=.type "list",data:=.seq its'.toArray n' }:=by
  rw [Heap.get?_update_self f ho (by rw [hf] <;> rfl),hf]
 refine I.write (x:=p) (e:=p) (by rw [h];trivial) (.inl rfl) (λb u hb q=>(m0d _ _ (Ne.symm hb)).trans q) ⟨_,e⟩ ?_
 exact ⟨hz,its',n',r,e⟩
def aa4:V->V->V->Hp->(Hp->Prop)->Prop:=λo i v H Q => ∃ p xs k j,o=.ref p/\i=.int k/\H p=some (.lst xs)/\ixN xs.length k=some j/\Q (upd H p (.lst (xs.set j v)))
theorem C7:bh1 X aa4:=by
 intro pins s σ H o i v ov iv u Q I ro ri rv h;obtain ⟨p,xs,k,j,rfl,rfl,hp,hj,q⟩:=h
 cases ro
 obtain ⟨t,rfl⟩:=ri;obtain ⟨its,n,r,ho,hz⟩:=I.lst hp;obtain ⟨h1,h2,h3,h4⟩:=aM6 hj;have hl:=r.length;have hn:=al1
 have I':Inv X pins σ (upd H p (.lst (xs.set j v))) { s with heap:=s.heap.update p (Obj.mapSeq (·.setIfInBounds j u)) } :=
  I.lstUpd hp ho (aI7 its n j u) (r.set rv j) (by rw [z0k];exact hz) s.toks
 by_cases h0:0<=k
 ·have hk:k.toNat=j:=by
   rw [seqIndex_of h0 h4] at h1;exact Option.some.inj h1
  exact PySem.W.ki_setAt ho h0 ⋯ (by rw [q0t,<- hl];exact h4) (by rw [hk];exact ⟨_,I',q⟩)
 ·have hk:(k+(its.toArray.size:Int)).toNat=j:=by
   rw [seqIndex_neg ⋯ h3] at h1;rw [q0t,<- hl];exact Option.some.inj h1
  exact PySem.W.ki_setBack ho ⋯ (by rw [q0t,<- hl];exact h3) ⋯ (by rw [hk];exact ⟨_,I',q⟩)
theorem az2 (lo hi:Option Int) (n:Nat):(sliceBounds lo hi none n).1=((HT.sIx n 0 lo:Nat):Int)/\(sliceBounds lo hi none n).2.1=((HT.sIx n n hi:Nat):Int)/\(sliceBounds lo hi none n).2.2=1:=by
 refine ⟨?_,?_,rfl⟩
 ·cases lo with
  | none=>simp [sliceBounds,HT.sIx]
  | some i =>
   simp only [sliceBounds,HT.sIx,Option.getD_none,show (1:Int) > 0 by decide,if_true]
   by_cases h:i<0
   ·simp only [h,if_true] <;> omega
   ·simp only [h,if_false] <;> omega
 ·cases hi with
  | none=>simp [sliceBounds,HT.sIx]
  | some i =>
   simp only [sliceBounds,HT.sIx,Option.getD_none,show (1:Int) > 0 by decide,if_true]
   by_cases h:i<0
   ·simp only [h,if_true] <;> omega
   ·simp only [h,if_false] <;> omega
theorem at7 (its:List Value) (lo hi:Option Int):slicePick its.toArray lo hi none=((its.drop (HT.sIx its.length 0 lo)).take (HT.sIx its.length its.length hi-HT.sIx its.length 0 lo)).toArray:=by
 obtain ⟨h1,h2,h3⟩:=az2 lo hi its.toArray.size;unfold slicePick;rw [h1,h2,h3];simp only [sliceRange_one,pick_run,q0t] <;> rfl
def aH3 (K:q0a):V->Option Int->Option Int->Hp->VK->Prop:=λx lo hi H Q => ∃ a xs,x=.ref a/\SqL K H a xs/\∀ p,H p=none->Q (.ref p) (upd H p (.lst (aC1 xs lo hi)))
theorem U0:SlR X (aH3 X.K):=by
 intro pins s σ H x v vl vu lo hi sl Q I rx hs pl pu h;obtain ⟨a,xs,rfl,hx,q⟩:=h
 cases rx
 obtain ⟨its,r,ht,hz⟩:=I.list hx;have hlen:=r.length;refine ⟨"list",_,slot_list_getitem.lookup,ht.isList.typeIs,?_⟩
 refine wpAny_getItem_list_slice ht.isList hs pl pu .none (by simp) ?_ (by rw [q0t] <;> omega)
 rw [at7,<- hlen];refine ⟨.ref s.heap.objs.size,_,I.laid (t':=s.toks) (o:=.lst (aC1 xs lo hi)) (λb ob q=>q0n _ q) (q0k _) ?_,rfl,q _ (I.hok.fresh (q0k _))⟩;exact ⟨q0p (ad6 xs lo hi) hz,_,0,(r.drop (HT.sIx xs.length 0 lo)).take (HT.sIx xs.length xs.length hi-HT.sIx xs.length 0 lo),z0x _ rfl⟩
def T2:V->Bool
 | .non=>true
 | .bl _=>true
 | .int _=>true
 | .str _=>true
 | _=>false
def eqV:V->V->Bool
 | .non,.non=>true
 | .bl a,.bl b=>a == b
 | .bl a,.int b=>(if a then 1 else 0) == b
 | .int a,.bl b=>a == (if b then 1 else 0)
 | .int a,.int b=>a == b
 | .str a,.str b=>a == b
 | _,_=>false
theorem aW0 {A:Around} {s:Shared} {y x:V} {u v:Value} (ry:y1 y u) (rx:y1 x v) (fy:T2 y=true) (fx:T2 x=true):SeqAt.EqAt A s u v (eqV y x):=by
 cases y with
 | non =>
  cases ry
  cases x with
  | non=>cases rx;exact SeqAt.EqAt.same _
  | bl b=>cases rx;exact SeqAt.EqAt.none_bool b
  | int b=>obtain ⟨t,rfl⟩:=rx;exact SeqAt.EqAt.none_int b t
  | str b=>obtain ⟨t,rfl⟩:=rx;exact SeqAt.EqAt.none_str b t
  | _=>exact absurd (show false=true from fx) q0u
 | bl a =>
  cases ry
  cases x with
  | non=>cases rx;exact SeqAt.EqAt.bool_none a
  | bl b=>cases rx;exact SeqAt.EqAt.bool_bool a b
  | int b=>obtain ⟨t,rfl⟩:=rx;exact SeqAt.EqAt.bool_int a b t
  | str b=>obtain ⟨t,rfl⟩:=rx;exact SeqAt.EqAt.bool_str a b t
  | _=>exact absurd (show false=true from fx) q0u
 | int a =>
  obtain ⟨t',rfl⟩:=ry
  cases x with
  | non=>cases rx;exact SeqAt.EqAt.int_none a t'
  | bl b=>cases rx;exact SeqAt.EqAt.int_bool a t' b
  | int b=>obtain ⟨t,rfl⟩:=rx;exact SeqAt.EqAt.int_int a t' b t
  | str b=>obtain ⟨t,rfl⟩:=rx;exact SeqAt.EqAt.int_str a t' b t
  | _=>exact absurd (show false=true from fx) q0u
 | str a =>
  obtain ⟨t',rfl⟩:=ry
  cases x with
  | non=>cases rx;exact SeqAt.EqAt.str_none a t'
  | bl b=>cases rx;exact SeqAt.EqAt.str_bool a t' b
  | int b=>obtain ⟨t,rfl⟩:=rx;exact SeqAt.EqAt.str_int a t' b t
  | str b=>obtain ⟨t,rfl⟩:=rx;exact SeqAt.EqAt.str_str a t' b t
  | _=>exact absurd (show false=true from fx) q0u
 | _=>exact absurd (show false=true from fy) q0u
def eqU (x:V) (u:Value):Bool:=match u with
 | .none=>eqV .non x
 | .bool b=>eqV (.bl b) x
 | .int i _=>eqV (.int i) x
 | .str z _=>eqV (.str z) x
 | _=>false
theorem aJ1 {x y:V} {u:Value} (r:y1 y u) (f:T2 y=true):eqU x u=eqV y x:=by
 cases y with
 | non=>cases r;rfl
 | bl b=>cases r;rfl
 | int i=>obtain ⟨t,rfl⟩:=r;rfl
 | str z=>obtain ⟨t,rfl⟩:=r;rfl
 | _=>exact absurd (show false=true from f) q0u
theorem ar4 {A:Around} {s:Shared} {x:V} {v:Value} (rx:y1 x v) (fx:T2 x=true):∀ {xs:List V} {us:List Value},m6 xs us->xs.all T2=true->∀ u ∈ us,SeqAt.EqAt A s u v (eqU x u)
 | _,_,.nil,_=>λu hu=>by cases hu
 | y :: xs,u :: us,.cons r t,f=>λu' hu=>by
  rw [g0d,j0t] at f;rcases z0n.mp hu with rfl | hu
  ·rw [aJ1 r f.1];exact aW0 r rx f.1 fx
  ·exact ar4 rx fx t f.2 u' hu
theorem k8:Y4 X (.builtin "len") (λxs H Q => ∃ p ys,xs=[.ref p]/\(SqL X.K H p ys \/ SqT X.K H p ys)/\Q (.int ys.length) H):=by
 intro pins s σ H xs us Q I r h;obtain ⟨p,ys,rfl,hq,q⟩:=h;obtain ⟨u,rfl,rx⟩:=aq0 r
 cases rx
 have hn:=al1;rcases hq with hq | hq
 ·obtain ⟨its,r',pl,hz⟩:=I.list hq
  have hlen:=r'.length;exact Calls.call_len_list pl.isList (by simp only [q0t] <;> omega) ⟨.int ys.length,H,I.tok _,⟨s.toks+1,by rw [q0t,hlen]⟩,q⟩
 ·obtain ⟨its,r',pl,hz⟩:=I.tuple hq
  have hlen:=r'.length;exact len_tuple pl (by simp only [q0t] <;> omega) ⟨.int ys.length,H,I.tok _,⟨s.toks+1,by rw [q0t,hlen]⟩,q⟩
theorem aa1:Y4 X (.type "list") (λxs H Q => ∃ p ys,xs=[.ref p]/\(SqL X.K H p ys \/ SqT X.K H p ys)/\∀ l,H l=none->Q (.ref l) (upd H l (.lst ys))):=by
 intro pins s σ H xs us Q I r h;obtain ⟨p,ys,rfl,hq,q⟩:=h;obtain ⟨u,rfl,rx⟩:=aq0 r
 cases rx
 have fin:∀ (its:List Value),m6 ys its->ys.length<=sizeLine->∀ (h':Heap) (c':Nat),(∀ b o',s.heap.get? b=some o'->h'.get? b=some o') ->
   h'.get? s.heap.objs.size=some { cls:=.type "list",dict:=none,data:=.seq its.toArray c',slots:=#[] }->EP X pins σ Q (.ref s.heap.objs.size) { s with heap:=h' }:=λits r' hz h' c' kp e =>
  ⟨.ref s.heap.objs.size,_,I.laid (t':=s.toks) kp (q0k _) (show C9 X.prog X.w _ h' _ (.lst ys) from ⟨hz,its,c',r',e⟩),rfl,q _ (I.hok.fresh (q0k _))⟩
 rcases hq with hq | hq
 ·obtain ⟨its,r',pl,hz⟩:=I.list hq
  have hlen:=r'.length;obtain ⟨o,ho,hc,n,hd⟩:=pl.isList;exact call_list_seq p (.inl rfl) ho hc hd (λh' c' kp e=>fin its r' hz h' c' kp e) (by simp only [q0t] <;> omega)
 ·obtain ⟨its,r',pl,hz⟩:=I.tuple hq
  have hlen:=r'.length;obtain ⟨o,ho,hc,n,hd⟩:=pl;exact call_list_seq p (.inr rfl) ho hc hd (λh' c' kp e=>fin its r' hz h' c' kp e) (by simp only [q0t] <;> omega)
def tyV (K:PySem.W.Frag) (T:String) (x:V) (H:Hp):Prop:=match x with
  | .str _=>T = "str"
  | .int _=>T = "int"
  | .ref p => (T = "list" ∧ ∃ xs, SqL K H p xs) ∨ (T = "tuple" ∧ ∃ o, K.lookup p = some o ∧ o.cls = .type "tuple" ∧ o.dict = none) ∨
      (T = "dict"/\((∃ kvs,H p=some (.dK kvs)) \/ ∃ kvs,H p=some (.dT kvs))) \/ (T = "set"/\∃ S n,H p=some (.set S n))
  | _=>False
theorem aR5 {pins:List (Addr × Obj)} {σ:St} {H:Hp} {s:Shared} {T:String} {x:V} {v:Value} (I:Inv X pins σ H s) (r:y1 x v) (ty:tyV X.K T x H) :
  s.TypeIs v T/\∀ a,v=.ref a->∃ ob,s.heap.get? a=some ob/\ob.dict=none:=by
 cases x with
 | str z =>
  obtain ⟨t,rfl⟩:=r
  cases (show T = "str" from ty)
  exact ⟨typeIs_str s z t,λ_ e=>nomatch e⟩
 | int i =>
  obtain ⟨t,rfl⟩:=r
  cases (show T = "int" from ty)
  exact ⟨typeIs_int s i t,λ_ e=>nomatch e⟩
 | ref p =>
  cases r
  rcases ty with ⟨rfl,xs,hq⟩ | ⟨rfl,o,hk,hc,hd⟩ | ⟨rfl,hk⟩ | ⟨rfl,S,n,hk⟩
  ·obtain ⟨its,_,pl,_⟩:=I.list hq
   refine ⟨pl.isList.typeIs,λa e=>?_⟩
   cases e
   obtain ⟨o,n,e,c,hd,_⟩:=pl;exact ⟨o,e,hd⟩
  ·refine ⟨⟨o,I.kIn p o hk,hc⟩,λa e=>?_⟩
   cases e
   exact ⟨o,I.kIn _ o hk,hd⟩
  ·have z:∃ o,s.heap.get? p=some o/\o.ExactDict:=by
    rcases hk with ⟨kvs,hk⟩ | ⟨kvs,hk⟩
    ·obtain ⟨_,_,_,_,o,_,_,e,ex,_⟩:=I.hok p _ hk
     exact ⟨o,e,ex⟩
    ·obtain ⟨_,_,_,_,o,_,_,e,ex,_⟩:=I.hok p _ hk
     exact ⟨o,e,ex⟩
   obtain ⟨o,e,ex⟩:=z;refine ⟨⟨o,e,ex.1⟩,λa e2=>?_⟩
   cases e2
   exact ⟨o,e,ex.2.1⟩
  ·obtain ⟨o,_,_,_,e,ex,_⟩:=I.hok p _ hk
   refine ⟨⟨o,e,ex.1⟩,λa e2=>?_⟩
   cases e2
   exact ⟨o,e,ex.2.1⟩
 | _=>exact False.elim ty
def aD0 (K:q0a) (T:String) (r:V->List V->Hp->VK->Prop) (to:TE):TE:=λσ H Q=>to σ H λx H1=>tyV K T x H1/\r x [] H1 Q
def tBM (K:q0a) (T:String) (r:V->List V->Hp->VK->Prop) (to:TE) (t:TA):TE:=λσ H Q=>to σ H λx H1=>tyV K T x H1/\t σ H1 λxs H2=>r x xs H2 Q
variable {o e:Expr} {es:List Expr} {to:TE} {t:TA} {name:Str} {apos cpos:Pos} {T id:String} {r:V->List V->Hp->VK->Prop}
theorem aH6 (pa:PlainAttrs T) (slot:Slot T name id) (hty:typeOf (.builtin id)=pure (.type "method_descriptor")) (hm:MtR X id r) (ho:PE X o to)
  (hbase:attributeBase o name X.env (eval o X.env)=eval o X.env:=by rfl) (hline:(apos.endLine == cpos.line)=true:=by rfl):PE X (.Call (.Attribute o name apos) [] [] cpos) (aD0 X.K T r to):=by
 intro pins s σ H Q I h;refine wpAny_Call_method0_late hbase hline (thn (ho pins s σ H _ I h) λv s1 zq=>?_);obtain ⟨x,H1,I1,r1,ty,q1⟩:=zq;obtain ⟨h1,h2⟩:=aR5 I1 r1 ty;exact ⟨T,id,pa,slot,hty,h1,h2,Calls.callWith_builtin rfl (PySem.evalArgs_none (hm pins s1 σ H1 x [] v [] Q I1 r1 .nil q1))⟩
theorem R4 (pa:PlainAttrs T) (slot:Slot T name id) (hty:typeOf (.builtin id)=pure (.type "method_descriptor")) (hm:MtR X id r) (ho:PE X o to) (ha:PA X (e :: es) t)
  (hbase:attributeBase o name X.env (eval o X.env)=eval o X.env:=by rfl)
  (hfew:((backTo cpos (starEach (e :: es) X.env)).all (λx => !x.1) && (backToKw cpos (keywordEach [] X.env)).all (λx=>x.1.isSome)
   && decide ((e :: es).length+([]:List Keyword).length+(if ([]:List Keyword).isEmpty then 0 else 1)<30))=true:=by rfl)
  (hline:(apos.endLine == cpos.line)=true:=by rfl) (hs:starEach (e :: es) X.env=(false,eval e X.env) :: starEach es X.env:=by rfl) (hplain:(backTo cpos (starEach es X.env)).any (·.1)=false:=by rfl) :
  PE X (.Call (.Attribute o name apos) (e :: es) [] cpos) (tBM X.K T r to t):=by
 intro pins s σ H Q I h;refine wpAny_Call_method_late hbase hfew hline rfl (thn (ho pins s σ H _ I h) λv s1 zq=>?_);obtain ⟨x,H1,I1,r1,ty,q1⟩:=zq;obtain ⟨h1,h2⟩:=aR5 I1 r1 ty;refine ⟨T,id,pa,slot,hty,h1,h2,?_⟩;have hA:=ha cpos pins s1 σ H1 _ I1 q1;rw [hs] at hA ⊢;refine Calls.callWith_builtin (by show (false || (backTo cpos (starEach es X.env)).any (·.1))=false;rw [hplain] <;> rfl) (Calls.evalArgs_plain ?_)
 refine thn hA λus s2 zq=>?_;obtain ⟨vs,H2,I2,r2,q2⟩:=zq;exact hm pins s2 σ H2 x vs v us Q I2 r1 r2 q2
end
def MtM (X:Cx) (id:String) (r:V->List V->Hp->VK->Prop):Prop :=
 ∀ (pins:List (Addr × Obj)) (s:Shared) (σ:St) (H:Hp) (x:V) (xs:List V) (v:Value) (us:List Value) (Q:VK),Inv X pins σ H s->y1 x v->m6 xs us->r x xs H Q ->
  wpAny (model X.prog X.w) X.A (call (.builtin id) (v :: us)) (EP X pins σ Q) X.xe s
theorem m6.one:∀ {x:V} {us:List Value},m6 [x] us->∃ u,us=[u]/\y1 x u
 | _,_,.cons r .nil=>⟨_,rfl,r⟩
theorem m6.two:∀ {x y:V} {us:List Value},m6 [x,y] us->∃ u v,us=[u,v]/\y1 x u/\y1 y v
 | _,_,_,.cons r (.cons q .nil)=>⟨_,_,rfl,r,q⟩
theorem m6.zero:∀ {us:List Value},m6 [] us->us=[]
 | _,.nil=>rfl
section
variable {X:Cx} {pins:List (Addr × Obj)} {σ:St} {H:Hp} {s:Shared} {l b:Addr} {xs ys zs:List V}
theorem Inv.lset {its its':List Value} {n:Nat} {f:Array Value->Array Value} {t':Nat} (I:Inv X pins σ H s) (hH:H l=some (.lst xs))
  (e:s.heap.get? l=some { cls:=.type "list",data:=.seq its.toArray n }) (hf:f its.toArray=its'.toArray) (hv:m6 ys its') (hz:ys.length<=sizeLine) :
  Inv X pins σ (upd H l (.lst ys)) { s with heap:=s.heap.update l (Obj.mapSeq f),toks:=t' }:=by
 have q:=PySem.IsL.update e f;rw [hf] at q;refine I.write (x:=l) (e:=l) (by rw [hH];exact trivial) (.inl rfl) (λb' u hb hu=>(m0d s.heap (Obj.mapSeq f) (Ne.symm hb)).trans hu) ⟨_,q⟩ ?_
 exact ⟨hz,its',_,hv,q⟩
theorem Inv.lnew {its:List Value} {t':Nat} (I:Inv X pins σ H s) (hv:m6 ys its) (hz:ys.length<=sizeLine) :
  Inv X pins σ (upd H s.heap.objs.size (.lst ys)) { s with heap:=s.heap.push { cls:=.type "list",data:=.seq its.toArray },toks:=t' } :=
 I.laid (λ_ _ q=>q0n _ q) (q0k _) ⟨hz,its,0,hv,z0x _ rfl⟩
theorem Inv.fresh (I:Inv X pins σ H s):H s.heap.objs.size=none:=I.hok.fresh (q0k _)
theorem Inv.lstM (I:Inv X pins σ H s) (hH:H l=some (.lst xs)):xs.length<=sizeLine/\∃ (its:List Value) (n:Nat),m6 xs its/\xs.length=its.length/\s.heap.get? l=some { cls:=.type "list",data:=.seq its.toArray n }:=by
 obtain ⟨z,its,n,r,e⟩:=I.hok l _ hH;exact ⟨z,its,n,r,r.length,e⟩
end
section
variable {X:Cx}
def U9:V->List V->Hp->VK->Prop:=λx vs H Q => ∃ l xs y,x=.ref l/\vs=[y]/\H l=some (.lst xs)/\xs.length<sizeLine/\Q .non (upd H l (.lst (xs ++ [y])))
theorem B9:MtM X "list.append" U9:=by
 intro pins s σ H x vs v us Q I rx rv h;obtain ⟨l,xs,y,rfl,rfl,hH,hz,q⟩:=h
 cases rx
 obtain ⟨u,rfl,ru⟩:=rv.one;obtain ⟨z,its,n,r,hl,e⟩:=I.lstM hH;refine call_meets F.slot_list_append ⟨_,e,rfl⟩ F.entry_list_append (F.args_list_append_2 _ _) (PySem.list_append l its.toArray n u (by rw [q0t];omega)) ⟨e,?_⟩
 refine ⟨.non,_,I.lset (its':=its ++ [u]) hH e (by simp) (r.append (.cons ru .nil)) ?_,rfl,q⟩
 rw [j0g,List.length_singleton];omega
def rExtend:V->List V->Hp->VK->Prop:=λx vs H Q => ∃ l b xs zs,x=.ref l/\vs=[.ref b]/\H l=some (.lst xs)/\H b=some (.lst zs)/\xs.length+zs.length<=sizeLine/\Q .non (upd H l (.lst (xs ++ zs)))
def rPop:V->List V->Hp->VK->Prop:=λx vs H Q => ∃ l xs y,x=.ref l/\vs=[]/\H l=some (.lst xs)/\xs[xs.length-1]? = some y/\Q y (upd H l (.lst xs.dropLast))
def bc4:V->List V->Hp->VK->Prop:=λx vs H Q => ∃ l xs,x=.ref l/\vs=[]/\H l=some (.lst xs)/\Q .non (upd H l (.lst []))
theorem aU6:MtM X "list.clear" bc4:=by
 intro pins s σ H x vs v us Q I rx rv h;obtain ⟨l,xs,rfl,rfl,hH,q⟩:=h
 cases rx
 have hus:=rv.zero;subst hus;obtain ⟨z,its,n,r,hl,e⟩:=I.lstM hH;refine call_meets F.slot_list_clear ⟨_,e,rfl⟩ F.entry_list_clear (F.args_list_clear_1 _) (AutoSeq1.list_clear_list_0 l its.toArray n (by rw [q0t];omega)) ⟨e,?_⟩
 exact ⟨.non,_,I.lset (its':=[]) (ys:=[]) hH e rfl .nil (z0f _),rfl,q⟩
def aY3:R2:=λx y H Q => ∃ l b xs zs,x=.ref l/\y=.ref b/\H l=some (.lst xs)/\H b=some (.lst zs)/\xs.length+zs.length<=sizeLine/\∀ p,H p=none->Q (.ref p) (upd H p (.lst (xs ++ zs)))
theorem V6:OpR X (binaryOp .Add) aY3:=by
 intro pins s σ H x y v u Q I rx ry h;obtain ⟨l,b,xs,zs,rfl,rfl,hH,hB,hz,q⟩:=h
 cases rx
 cases ry
 obtain ⟨z,its,n,r,hl,e⟩:=I.lstM hH;obtain ⟨z2,its2,n2,r2,hl2,e2⟩:=I.lstM hB;refine PySem.P.add_list e e2 ?_ (by rw [q0t,q0t];omega)
 have ea:its.toArray ++ its2.toArray=(its ++ its2).toArray:=by simp
 rw [ea];exact ⟨.ref _,_,I.lnew (t':=s.toks) (r.append r2) (by rw [j0g];omega),rfl,q _ I.fresh⟩
end
end L2
namespace Att
open PySem PySem.W PySem.Calls PyProof.Rows
theorem ap2 {P:Params} {h:Heap}:∀ (ns:List Int) (vs:List Value),WellAll P h vs (ns.map WData.int)->IntsAre vs ns:=by
 intro ns
 induction ns with
 | nil =>
  intro vs w;rw [u0v] at w
  cases w
  exact .nil
 | cons n ns ih =>
  intro vs w;rw [j0a] at w
  cases w with
  | cons a b =>
   cases a
   exact .cons _ _ (ih _ b)
theorem aO7 {l:OpenLaw} {n:Nat} (hn:l.most=some n) {P:Params} {h:Heap} {args:List WData} {vals:List Value}
  (hpre:l.row.toRowW.claim.pre args=true) (hwl:WellAll P h vals args) :
  ∃ a vs ns,vals=[Value.ref a]/\args=[WData.list (ns.map WData.int)]/\h.get? a=some { cls:=.type "list",data:=.seq vs.toArray }/\IntsAre vs ns/\ns.length<=n:=by
 have hsh:WShape.hasAll [] args [.list .int]=true:=(pre_splitW hpre).1;have hc:l.pre.holds [] { args:=args }=true:=(pre_splitW hpre).2;obtain ⟨d,r,rfl,h1,h2⟩:=hasAllW_cons hsh;obtain rfl:=hasAllW_nil h2;obtain ⟨xs,rfl,h3⟩:=hasW_list h1;obtain ⟨ns,rfl⟩:=items_int h3
 have hlen:ns.length<=n:=by
  unfold OpenLaw.pre at hc
  have h4:(WTm.not (.lt (.lit (.int (n:Int))) (.len (.arg 0)))).holds [] { args:=[.list (ns.map .int)] }=true:=by
   have h4:=(holds_andW hc).1;rw [hn] at h4;exact h4
  have h5:=condW_of h4 (w_not (w_lt w_lit (w_len_list (w_arg rfl))));rw [q0b] at h5;refine Nat.le_of_not_lt λq=>?_;have q':(n:Int)<((ns.length:Nat):Int):=⋯
  first
   | (rw [decide_eq_true q'] at h5;exact absurd h5 (by decide))
   | (simp at h5;omega)
 cases hwl with
 | cons w1 w2 =>
  cases w2
  cases w1 with
  | list ho hall=>exact ⟨_,_,ns,rfl,rfl,ho,ap2 ns _ hall,hlen⟩
theorem aP1 (l:OpenLaw) (args:List WData):l.row.toRowW.claim.post args (.bool true) args=true :=
 postW_of (r:=l.row.toRowW) (X:=(true == true))
  (show WShape.has [] (.bool true) .bool=true by first | rfl | decide | simp [WShape.has,WShape.arms,WShape.armsAll])
  (show (WTm.eq .res (.lit (.bool true))).value [] { args:=args,res:=some (.bool true),after:=args }=some (.bool (true == true)) from w_eq_bool (w_res rfl) w_lit) rfl
theorem attach_call {l:OpenLaw} {n:Nat} {q:Program} {loose:List Str} {XP:(Str->Option Value)->Heap->Prop} {YP:World->Heap->Prop} {d:DefRec}
  (hn:l.most=some n) (hdf:d.params.defaults=[])
  (call:∀ (w:World) (s₀ s₁:Shared) (mg mb:Str->Option Value) (fa:Addr) (o:Obj) (pm cd doc:Value) (a:Addr) (vs:List Value) (ns:List Int),
   Ground q loose [] XP w s₀ mg mb s₁.heap->YP w s₁.heap ->
   s₁.heap.get? fa=some o->o.data=.func (docDef d.name d.params d.body d.scope pm cd doc)->s₁.heap.CodeRec cd d.name->mg d.name=some (.ref fa) ->
   s₁.heap.get? a=some { cls:=.type "list",data:=.seq vs.toArray }->IntsAre vs ns->ns.length<=n->s₁.gens = #[] ->
   codeAny (model l.prog w) callerA (.call (.ref fa) ⟨[.ref a],[]⟩) (λr s'=>r=.ok (.ret (.bool true))/\OldK s₁.heap s'.heap/\s'.os=s₁.os/\AllBare s'.gens) s₁) :
  WalkO q loose XP YP l.row.toRowW d [] (λf vs=>PySem.call f vs):=by
 intro w s₀ s₁ mg mb G Y fa o pm cd doc dV kV ho hd hcd hD hmg hg args vals as hpre hlay hrd hwl hlo;obtain rfl:dV=.none:=Dflts.none hD hdf;obtain rfl:kV=.none:=Dflts.noKw hD;obtain ⟨a,vs,ns,rfl,rfl,hobj,hints,hlen⟩:=aO7 hn hpre hwl;refine enter_call (codeAny_mono (call w s₀ s₁ mg mb fa o pm cd doc a vs ns G Y ho (fd_plain hd) hcd hmg hobj hints hlen hg) λr s' hq=>?_);obtain ⟨rfl,h2,h3,h4⟩:=hq;exact ⟨.inl ⟨.bool true,.bool true,[],rfl,λ_=>rfl,.bool true,aP1 l _,λ_=>⟨List.Pairwise.nil,λ_ hm=>(nomatch hm)⟩⟩,h2,h3,h4⟩
end Att
namespace L2
open PySem PySem.Spec PyProof.Rows
theorem av6:∀ {vs:List Value} {ns:List Int},IntsAre vs ns->m6 (ns.map V.int) vs
 | _,_,.nil=>.nil
 | _,_,.cons n t h=>.cons ⟨t,rfl⟩ (av6 h)
def bf3 (H:Hp):Prop:=∀ b,H b=none \/ ∃ o xs,H b=some (.frz o (.lst xs))
theorem aU8 {P:Program} {w:World} {K:q0a} {mg mb:Str->Option Value} {CX:CXT} {k:Nat} {fa a:Addr} {fd:FuncData} {x:Str} {sp:Sp} {s₁:Shared} {vs:List Value} {ns:List Int}
  (KX:K.In s₁.heap) (hns:s₁.heap.Ns mainGlobals mg) (hb:s₁.heap.Ns builtinsNs mb) (hbb:∀ x:Str,x ≠ "__name__"->mb x=bootBuiltins x) (hlim:s₁.heap.NoLimit) (hg:s₁.gens = #[])
  (ha:s₁.heap.get? a=some { cls:=.type "list",data:=.seq vs.toArray }) (hi:IntsAre vs ns) (hl:ns.length<=sizeLine) (hr:T5 k callerA)
  (F:∀ base:Heap,K.In base->base.Ns mainGlobals mg->aj5 P w K mg base CX k fa fd [x] sp) (hbind:∀ (s:Shared) (u:Value),BindsTo s fd ⟨[u],[]⟩ [(x,u)])
  (hsp:∀ H:Hp,bf3 H->SqL K H a (ns.map V.int)->sp [.ref a] H (λv _=>v=.bl true) λ_ _ _=>False)
  (hCX:∀ H e s',CX [] H s₁ (λ_ _ _=>False) e s'->False) :
  codeAny (model P w) callerA (.call (.ref fa) ⟨[.ref a],[]⟩) (λr s'=>r=.ok (.ret (.bool true))/\OldK s₁.heap s'.heap/\s'.os=s₁.os/\AllBare s'.gens) s₁:=by
 have rv:=av6 hi;have lenV:=hi.length
 -- from an abstract heap in which nothing but the script may be tracked
 have core:∀ H:Hp,bf3 H->SqL K H a (ns.map V.int)->HOk P w H s₁.heap->(∀ b,H b ≠ none->b=a)->(H a ≠ none->K.lookup a=none) ->
   codeAny (model P w) callerA (.call (.ref fa) ⟨[.ref a],[]⟩) (λr s'=>r=.ok (.ret (.bool true))/\OldK s₁.heap s'.heap/\s'.os=s₁.os/\AllBare s'.gens) s₁:=by
  intro H hO hS hok hA hK;have base_of:∀ {b:Addr} {o:Obj},s₁.heap.get? b=some o->H b=none->(aB3 s₁.heap H).get? b=some o:=λe n=>aV2 e n
  have noA:∀ {b:Addr} {o:Obj} {es:Array DictEntry} {ep:Nat},s₁.heap.get? b=some o->o.data=.dict es ep->H b=none:=fun {b o es ep} e d=>by
   cases q:H b with
   | none=>rfl
   | some u =>
    have e':b=a:=hA b (by rw [q];simp)
    subst e';rw [ha] at e;cases e;have d':Data.seq vs.toArray _=Data.dict es ep:=d
    cases d'
  have nsK:∀ {b:Addr} {m:Str->Option Value},s₁.heap.Ns b m->(aB3 s₁.heap H).Ns b m:=fun {b m} ⟨o,es,ep,e,d,r⟩=>⟨o,es,ep,base_of e (noA e d),d,r⟩
  have hKb:K.In (aB3 s₁.heap H):=λb o e=>base_of (KX b o e) (by
   cases q:H b with
   | none=>rfl
   | some u =>
    have e':b=a:=hA b (by rw [q];simp)
    subst e';rw [hK (by rw [q];simp)] at e;cases e)
  have hM:Mod K mg (aB3 s₁.heap H):=⟨hKb,nsK hns,⟨mb,nsK hb,hbb⟩,let ⟨mc,h1,h2⟩:=hlim;⟨mc,nsK h1,h2⟩⟩;have e0:aR2 P w K mg (aB3 s₁.heap H) callerA [] s₁ H:=⟨rfl,hM,λb o e=>aY7 e,Nat.le_of_eq (aQ0 _ _),trivial,λb hb=>absurd (show b ∈ ([]:List Addr) from hb) (by simp),hok,.of_eq hg⟩
  refine codeAny_mono ((F _ hKb (nsK hns)).run callerA [] s₁ H ⟨[.ref a],[]⟩ [.ref a] [.ref a] _ _ hr e0 (hbind s₁ (.ref a)) (.cons rfl .nil) (hsp H hO hS)) λr s' h=>?_
  cases r with
  | error e=>exact (hCX H e s' h).elim
  | ok fl =>
   cases fl with
   | next=>exact False.elim h
   | brk=>exact False.elim h
   | cont=>exact False.elim h
   | ret u =>
    obtain ⟨v,H',os,bare,un,hok',r',q⟩:=h;have q':v=.bl true:=q;subst q';obtain rfl:u=Value.bool true:=r';refine ⟨rfl,OldK.of_keep λb o e=>?_,os,bare⟩
    cases q:H b with
    | none=>exact un.keep b o e q (by intro z;exact absurd (show b ∈ ([]:List Addr) from z) (by simp)) (by simp)
    | some u =>
     rcases hO b with z | ⟨ob,xs,z⟩
     ·rw [q] at z;cases z
     ·have z2:=un.frzs b ob _ z
      obtain ⟨e1,_⟩:=hok b _ z;obtain ⟨e2,_⟩:=hok' b _ z2;rw [e] at e1;cases e1;exact e2
 cases hk:K.lookup a with
 | some o =>
  -- the script is one of the module's own objects
  have e:=KX a o hk;rw [ha] at e
  cases e
  refine core (λ_=>none) (λ_=>.inl rfl) (.inr ⟨_,vs.toArray,_,hk,rfl,rfl,rfl,by rw [q0t,lenV];exact hl,by simpa using rv⟩) (λb u z=>by have z':(none:Option HO)=some u:=z;cases z') (λb z=>absurd rfl z) λz=>absurd rfl z
 | none =>
  refine core (λb=>if b=a then some (.frz { cls:=.type "list",data:=.seq vs.toArray } (.lst (ns.map V.int))) else none) (λb=>?_) (.inl (.inr ⟨{ cls:=.type "list",data:=.seq vs.toArray },if_pos rfl⟩)) (λb u z=>?_) (λb z=>?_) λ_=>hk
  ·by_cases hb:b=a
   ·exact .inr ⟨_,_,if_pos hb⟩
   ·exact .inl (if_neg hb)
  ·by_cases hb:b=a
   ·have z':=(if_pos hb).symm.trans z
    cases z'
    subst hb;exact ⟨ha,by rw [q0b];exact hl,vs,_,rv,ha⟩
   ·have z':=(if_neg hb).symm.trans z
    cases z'
  ·by_cases hb:b=a
   ·exact hb
   ·exact absurd (if_neg hb) z
abbrev KOf {K:q0a} {h:Heap} (_:K.In h):q0a:=K
theorem aK1 {l:g0y} {n k:Nat} {q:Program} {loose:List Str} {XP:(Str->Option Value)->Heap->Prop} {YP:World->Heap->Prop} {d:DefRec} {K:Params->q0a} {CX:World->CXT} {sp:World->Sp} {x:Str}
  (hn:l.most=some n) (hn2:n<=sizeLine) (hdf:d.params.defaults=[]) (hr:T5 k callerA)
  (hY:∀ (w:World) (h:Heap),YP w h->(K w.params).In h)
  (F:∀ (w:World) (mg:Str->Option Value) (fa:Addr) (h:Heap),(K w.params).In h->h.Ns mainGlobals mg->mg d.name=some (.ref fa) ->
   ∃ fd:FuncData,(∀ (s:Shared) (u:Value),BindsTo s fd ⟨[u],[]⟩ [(x,u)]) /\
    ∀ base:Heap,(K w.params).In base->base.Ns mainGlobals mg->aj5 l.prog w (K w.params) mg base (CX w) k fa fd [x] (sp w))
  (hsp:∀ (w:World) (H:Hp) (a:Addr) (ns:List Int),ns.length<=n->bf3 H->SqL (K w.params) H a (ns.map V.int)->sp w [.ref a] H (λv _=>v=.bl true) λ_ _ _=>False)
  (hCX:∀ (w:World) (H:Hp) (s:Shared) (e:Value) (s':Shared),CX w [] H s (λ_ _ _=>False) e s'->False) :
  PySem.W.WalkO q loose XP YP l.row.toRowW d [] (λf vs=>PySem.call f vs):=by
 refine Att.attach_call hn hdf λw s₀ s₁ mg mb fa o pm cd doc a vs ns G Y ho hd hcd hmg hobj hints hlen hg=>?_;have KX:=hY w _ Y;obtain ⟨fd,hb,hF⟩:=F w mg fa _ KX G.T.g hmg;exact aU8 KX G.T.g G.T.b G.T.builtins G.T.nolimit hg hobj hints (q0p hlen hn2) hr hF hb (λH hO hS=>hsp w H a ns hlen hO hS) λH e s'=>hCX w H s₁ e s'
end L2
namespace L2
open PySem PySem.Spec PyProof.Rows
def ae6 (s:Stmt):Arguments:=match s with
 | .FunctionDef _ a _ _ _ _ _ _ _ _=>a
 | _=>{ posonlyargs:=[],args:=[],vararg:=none,kwonlyargs:=[],kw_defaults:=[],kwarg:=none,defaults:=[] }
def M5 (s:Stmt):List Stmt:=match s with
 | .FunctionDef _ _ b _ _ _ _ _ _ _=>b
 | _=>[]
def b9 (s:Stmt):Scope:=match s with
 | .FunctionDef _ _ _ _ _ _ sc _ _ _=>sc
 | _=>{ kind:=.function,names:=[],isGenerator:=false,isCoroutine:=false }
abbrev CX0:CXT:=λ_ _ _ _ _ _=>False
abbrev E0:XK:=λ_ _ _=>False
theorem j0 {X:Cx}:al7 CX0 X E0:=λ_ _ _ _ _ _ _ h=>h.elim
structure Fun (K:q0a) (x qual:Str) (st:Stmt) (f:Addr) (fd:FuncData):Prop where
 ex:∃ (oc:Value) (od:Option Addr) (kV doc pm:Value) (an:Option Addr) (cdv ct:Value) (osl:Array (Option Value)),
  fd=y0u x qual (ae6 st) (M5 st) (b9 st) .none kV doc pm an cdv ct/\K.lookup f=some ⟨oc,od,.func fd,osl⟩/\m0h K cdv qual=true
 kp:y0f K (.ref f)=true
section
variable {P:Program} {w:World} {K:q0a} {mg:Str->Option Value} {base:Heap}
theorem Fun.ok {x qual:Str} {st:Stmt} {f:Addr} {fd:FuncData} {N ps:List Str} {k:Nat} {sp:Sp} (F:Fun K x qual st f fd) (S:j1 N ps (b9 st)) (len:∀ vs H Q E,sp vs H Q E->vs.length=ps.length)
  (hbody:∀ (cdv:Value) (A:Around) (outer:List Env) (s:Shared) (H:Hp) (vs:List V) (Q:VK) (E:XK),T5 k (A.deeper (envOfC qual (b9 st) s.heap.objs.size f cdv))->sp vs H Q E ->
   ∃ t,PSs (ad4 CX0 P w K mg base N qual (b9 st) f cdv A outer s H E).nox (M5 st) t/\t { nx:=λ_ H'=>Q .non H',rt:=Q } (start N vs) H):aj5 P w K mg base CX0 (k+1) f fd ps sp:=by
 obtain ⟨oc,od,kV,doc,pm,an,cdv,ct,osl,rfl,lk,hcd⟩:=F.ex;refine bb7 lk hcd S len λA outer s H vs Q E hr hsp=>?_;obtain ⟨t,h,q⟩:=hbody cdv A outer s H vs Q E hr hsp;exact ⟨t,h.nox,q⟩
theorem Fun.binds {x qual:Str} {st:Stmt} {f:Addr} {fd:FuncData} {ps:List Str} (F:Fun K x qual st f fd)
  (h:∀ (kV doc pm:Value) (an:Option Addr) (cdv ct:Value) (us:List Value),us.length=ps.length->bindArgs (y0u x qual (ae6 st) (M5 st) (b9 st) .none kV doc pm an cdv ct) ⟨us,[]⟩=pure (ps.zip us)):ae1 K fd ps []:=by
 obtain ⟨oc,od,kV,doc,pm,an,cdv,ct,osl,rfl,lk,hcd⟩:=F.ex;exact .all (h kV doc pm an cdv ct)
theorem be1 {x qual:Str} {st:Stmt} {f:Addr} {oc:Value} {od an:Option Addr} {osl:Array (Option Value)} {kV doc pm cdv ct:Value} (l:K.lookup f=some ⟨oc,od,.func (y0u x qual (ae6 st) (M5 st) (b9 st) .none kV doc pm an cdv ct),osl⟩)
  (c:m0h K cdv qual=true) (k:y0f K (.ref f)=true):Fun K x qual st f (y0u x qual (ae6 st) (M5 st) (b9 st) .none kV doc pm an cdv ct):=⟨⟨oc,od,kV,doc,pm,an,cdv,ct,osl,rfl,l,c⟩,k⟩
end
section
variable {X:Cx}
theorem pv (i : Nat) {x : Str} {pos : Pos} (hN : X.N[i]? = some x := by rfl) (hv : Vis X.env.scope x := by first | exact Or.inl rfl | exact Or.inr (Or.inl rfl) | exact Or.inr (Or.inr rfl)) (hd : (x == ("__debug__" : Str)) = false := by decide)
    (hcd:(x == ("__classdict__" : Str))=false:=by decide):PE X (.Name x pos) (Y5 i):=bc6 hN hv hd hcd
end
theorem bi3 {A B:Prop} (h:A):if true=true then A else B:=by
 rw [if_pos rfl];exact h
theorem A9 {c A B:Prop} [Decidable c] (h1:c->A) (h2:¬ c->B):if c then A else B:=by
 by_cases h:c
 ·rw [if_pos h]
  exact h1 h
 ·rw [if_neg h]
  exact h2 h
def c5 (H H':Hp):Prop:=∀ b o,H b=some o->H' b=some o
theorem c5.refl (H:Hp):c5 H H:=λ_ _ h=>h
theorem c5.trans {H H1 H2:Hp} (a:c5 H H1) (b:c5 H1 H2):c5 H H2:=λc o h=>b c o (a c o h)
theorem c5.free {H H':Hp} (e:c5 H H') {l:Addr} (h:H' l=Option.none):H l=Option.none:=by
 cases q:H l with
 | none=>rfl
 | some o =>
  rw [e l o q] at h
  cases h
theorem c5.seq {K:q0a} {H H':Hp} {a:Addr} {xs:List V} (e:c5 H H') (h:SqL K H a xs):SqL K H' a xs:=by
 rcases h with (h | ⟨o,h⟩) | h
 ·exact .inl (.inl (e _ _ h))
 ·exact .inl (.inr ⟨o,e _ _ h⟩)
 ·exact .inr h
section
variable {P:Program} {w:World} {H:Hp} {h:Heap} {a:Addr} {o:HO}
theorem C9.there (x:C9 P w H h a o):∃ ob,h.get? a=some ob:=by
 cases o with
 | lst xs=>obtain ⟨_,_,_,_,e⟩:=x;exact ⟨_,e⟩
 | tup xs=>obtain ⟨_,_,_,ob,e,_⟩:=x;exact ⟨_,e⟩
 | dK kvs=>obtain ⟨_,_,_,_,o,_,_,e,_⟩:=x;exact ⟨_,e⟩
 | dT kvs=>obtain ⟨_,_,_,_,o,_,_,e,_⟩:=x;exact ⟨_,e⟩
 | set S n=>obtain ⟨o,_,_,_,e,_⟩:=x;exact ⟨_,e⟩
 | ins C dx fs=>obtain ⟨_,_,_,e,_⟩:=x;exact ⟨_,e⟩
 | own y=>obtain ⟨_,e⟩:=x;exact ⟨_,e⟩
 | xd fs=>obtain ⟨_,⟨_,_,_,e,_⟩,_⟩:=x;exact ⟨_,e⟩
 | rng lo hi=>obtain ⟨_,_,_,e⟩:=x;exact ⟨_,e⟩
 | frz ob u=>obtain ⟨e,_⟩:=x;exact ⟨_,e⟩
 | tbl ps=>exact ⟨_,(show h.get? a=some _ from x)⟩
 | met f y=>exact ⟨_,(show h.get? a=some _ from x)⟩
 | ext φ=>obtain ⟨_,e,_⟩:=x;exact e
end
def CXR (P:Program) (w:World):CXT:=λouter H s E e s' => ∃ (a:Addr) (cls a0:Value) (H':Hp) (B:Heap),e=.ref a/\s'.os=s.os/\AllBare s'.gens /\
 m0v B outer a cls a0 s'.heap/\(∀ b o,s.heap.get? b=some o->H b=none->b ∉ frs outer->B.get? b=some o)/\(∀ b o,s.heap.get? b=some o->b ∉ frs outer->∃ o',B.get? b=some o') /\
 HOk P w H' B/\Un (frs outer) [] H H' s.heap s'.heap/\H' a=none/\E cls none H'
def aX2 (X:Cx) (R:Value->Hp->Prop):Prop:=∀ (pins:List (Addr × Obj)) (σ:St) (H:Hp) (s:Shared) (h':Heap) (e:Addr) (cls:Value) (vs:List Value),Inv X pins σ H s->Heap.MadeExcOf s.heap h' e cls vs->R cls H ->
 X.xe (.ref e) { s with heap:=h' }
section
variable {CX:CXT} {P:Program} {w:World} {K:q0a} {mg:Str->Option Value} {base:Heap} {N:List Str} {qual:Str} {scope:Scope} {f:Addr} {cd:Value} {A:Around} {outer:List Env} {s₀:Shared} {H₀:Hp} {E:XK}
abbrev cxR (P:Program) (w:World) (K:q0a) (mg:Str->Option Value) (base:Heap) (N:List Str) (qual:Str) (scope:Scope) (f:Addr) (cd:Value) (A:Around) (outer:List Env) (s₀:Shared) (H₀:Hp) (E:XK):Cx:=ad4 (CXR P w) P w K mg base N qual scope f cd A outer s₀ H₀ E
theorem be0 {X:Cx} {pins:List (Addr × Obj)} {σ:St} {H:Hp} {s:Shared} (I:Inv X pins σ H s):HOk X.prog X.w H (g0x s.heap (frs X.stack)):=λb u e=>by
 refine (I.hok b u e).stay (λc v hc q=>y0x _ q λhm=>?_) (λ_ q=>q) λ_ _ q=>q;have z:=I.stkFree c hm;rcases hc with rfl | hc
 ·rw [z] at e;cases e
 ·rw [z] at hc;cases hc
theorem aO9:aX2 (cxR P w K mg base N qual scope f cd A outer s₀ H₀ E) (λcls H'=>E cls none H'):=by
 intro pins σ H s h' e cls vs I hx hE;have frS:=I.stack;have hin:∀ env ∈ (cxR P w K mg base N qual scope f cd A outer s₀ H₀ E).stack,∀ b,env.frame=some b->b ∈ frs (cxR P w K mg base N qual scope f cd A outer s₀ H₀ E).stack:=λenv he b hb=>g0c.mpr ⟨env,he,hb⟩
 have lo:∀ b o,s₀.heap.get? b=some o->b ∉ frs outer->b ∉ frs (cxR P w K mg base N qual scope f cd A outer s₀ H₀ E).stack:=λb o q hb hm=>by
  rcases z0n.mp (I.stkSub b hm) with z | z
  ·exact absurd z (q0q (q0d (q0g q) I.ok.above))
  ·exact hb z
 refine wpAny_leaves_madeW (base:=g0x s.heap (frs (cxR P w K mg base N qual scope f cd A outer s₀ H₀ E).stack)) I.ok.frames rfl (λb o q=>PySem.W.of_hideAll _ q) (PySem.W.funFrames_hide frS hin) hx λh2 t x1 x2 x3 x4=>?_;have hk:∀ b o,s.heap.get? b=some o->b ∉ frs (cxR P w K mg base N qual scope f cd A outer s₀ H₀ E).stack->h2.get? b=some o:=λb o q hb=>x1.1 b o (y0x _ q hb)
 have hfr:∀ b o,s.heap.get? b=some o->b ∈ frs (cxR P w K mg base N qual scope f cd A outer s₀ H₀ E).stack->∃ sl,h2.get? b=some { o with slots:=sl }:=λb o q hb=>by
  obtain ⟨_,ob,hob,hnf⟩:=frS.mem hb;rw [q] at hob;cases hob;exact x4 b o (hx.keeps b o q) hnf
 have hany:∀ b o,s.heap.get? b=some o->∃ o',h2.get? b=some o':=λb o q=>by
  by_cases hb:b ∈ frs (cxR P w K mg base N qual scope f cd A outer s₀ H₀ E).stack
  ·obtain ⟨sl,z⟩:=hfr b o q hb;exact ⟨_,z⟩
  ·exact ⟨_,hk b o q hb⟩
 have nx:∀ b:Addr,b ∉ (cxR P w K mg base N qual scope f cd A outer s₀ H₀ E).ex:=λb z=>absurd (show b ∈ ([]:List Addr) from z) (by simp)
 refine ⟨e,cls,.ref t,H,_,rfl,I.os,I.bare,x1,λb o q n hb=>y0x _ (I.base.keep b o q n hb (nx b)) (lo b o q hb),λb o q hb=>?_,be0 I,⟨λb o q n hb _=>?_,λb o q n hb _=>?_,λb o q n _=>I.base.free b o q n (nx b),λb o q _=>?_,I.base.tups,I.base.frzs,I.base.tbls⟩,?_,hE⟩
 ·obtain ⟨o',z⟩:=I.base.there b o q (nx b)
  exact ⟨o',y0x _ z (lo b o q hb)⟩
 ·exact hk b o (I.base.keep b o q n hb (nx b)) (lo b o q hb)
 ·obtain ⟨sl,z⟩:=I.base.slot b o q n hb (nx b)
  have hm:b ∈ frs (cxR P w K mg base N qual scope f cd A outer s₀ H₀ E).stack:=by
   show b ∈ frs (_ :: outer);unfold frs at hb ⊢;rw [y0c];exact q0z _ hb
  obtain ⟨sl',z'⟩:=hfr b _ z hm;exact ⟨sl',z'⟩
 ·obtain ⟨o',z⟩:=I.base.there b o q (nx b)
  exact hany b o' z
 ·cases q:H e with
  | none=>rfl
  | some u =>
   obtain ⟨ob,z⟩:=(I.hok e u q).there;rw [hx.new] at z;cases z
theorem aP2 {E2:XK} (h:∀ cls H',E2 cls none H'->E cls none H'):al7 (CXR P w) (cxR P w K mg base N qual scope f cd A outer s₀ H₀ E) E2:=by
 intro pins σ H s e s' I hcx;obtain ⟨a,cls,a0,H',B,rfl,os,bare,fl,hB,hth,hok,un,hn,hE⟩:=hcx
 have lo:∀ b o,s₀.heap.get? b=some o->b ∉ frs outer->b ∉ frs (cxR P w K mg base N qual scope f cd A outer s₀ H₀ E).stack:=λb o q hb hm=>by
  rcases z0n.mp (I.stkSub b hm) with z | z
  ·exact absurd z (q0q (q0d (q0g q) I.ok.above))
  ·exact hb z
 have nx:∀ b:Addr,b ∉ (cxR P w K mg base N qual scope f cd A outer s₀ H₀ E).ex:=λb z=>absurd (show b ∈ ([]:List Addr) from z) (by simp)
 refine wpAny_leaves_onW I.ok.frames rfl fl λh2 x1 x2=>?_
 have fro:∀ b ∈ frs outer,b ∈ frs (cxR P w K mg base N qual scope f cd A outer s₀ H₀ E).stack:=λb hb=>by
  show b ∈ frs (_ :: outer);unfold frs at hb ⊢;rw [y0c];exact q0z _ hb
 have hfr:∀ b o,s'.heap.get? b=some o->b ∈ frs (cxR P w K mg base N qual scope f cd A outer s₀ H₀ E).stack->∃ sl,h2.get? b=some { o with slots:=sl }:=λb o q hb=>by
  obtain ⟨_,ob,hob,hnf⟩:=fl.2.2.1.mem hb;rw [q] at hob;cases hob;exact x2 b o q hnf
 refine ⟨a,cls,a0,H',B,rfl,os.trans I.os,bare,x1,λb o q n hb=>hB b o (I.base.keep b o q n hb (nx b)) (I.base.free b o q n (nx b)) (lo b o q hb),λb o q hb=>?_,hok,⟨λb o q n hb _=>?_,λb o q n hb _=>?_,λb o q n _=>?_,λb o q _=>?_,λb xs q=>un.tups b xs (I.base.tups b xs q),λb ob xs q=>un.frzs b ob xs (I.base.frzs b ob xs q),λb ps q=>?_⟩,hn,h _ _ hE⟩
 ·obtain ⟨o',z⟩:=I.base.there b o q (nx b)
  exact hth b o' z (lo b o q hb)
 ·exact x1.1 b o (hB b o (I.base.keep b o q n hb (nx b)) (I.base.free b o q n (nx b)) (lo b o q hb))
 ·obtain ⟨sl,z⟩:=I.base.slot b o q n hb (nx b)
  obtain ⟨sl',z'⟩:=un.slot b _ z (I.base.free b o q n (nx b)) (fro b hb) (by simp)
  obtain ⟨sl2,z2⟩:=hfr b _ z' (fro b hb);exact ⟨sl2,z2⟩
 ·obtain ⟨o',z⟩:=I.base.there b o q (nx b)
  exact un.free b o' z (I.base.free b o q n (nx b)) (by simp)
 ·obtain ⟨o',z⟩:=I.base.there b o q (nx b)
  by_cases hb:b ∈ frs (cxR P w K mg base N qual scope f cd A outer s₀ H₀ E).stack
  ·obtain ⟨o2,z2⟩:=un.there b o' z (by simp)
   obtain ⟨sl,z3⟩:=hfr b o2 z2 hb;exact ⟨_,z3⟩
  ·obtain ⟨o2,z2⟩:=hth b o' z hb
   exact ⟨o2,x1.1 b o2 z2⟩
 ·obtain ⟨m1,z1⟩:=I.base.tbls b ps q
  obtain ⟨m2,z2⟩:=un.tbls b _ z1;exact ⟨m1 ++ m2,by rw [z2,Array.append_assoc]⟩
end
structure ba6 (K:q0a) (C:Addr) (bm:List Value) (newId:String):Prop where
 ok:m0q K C bm newId=true
theorem ba6.obj {K:q0a} {C:Addr} {bm:List Value} {newId:String} (O:ba6 K C bm newId) {h:Heap} (X:K.In h) :
  ∃ tl N nm q bs hdct sn sub ab col dd k0 k1 k2 k3 k5 mN,h.get? C=some (excClassObj nm q C N bs tl hdct sn sub ab col dd k0 k1 k2 k3 k5 newId)/\h.Ns N mN/\mN "__init__" = none/\OwnTail h bm tl:=by
 have q:=O.ok;unfold m0q at q
 split at q
 ·rename_i dd cd sl ho
  split at q
  ·rename_i C' bm' k0 k1 k2 k3 n k5 hm hs
   simp only [j0t,beq_iff_eq,y0k] at q;obtain ⟨⟨⟨⟨⟨rfl,rfl⟩,hdel⟩,ht⟩,hok⟩,hni⟩:=q;obtain ⟨nm,bs,mro,ns,qn,hd,sn,sub,ab,col,del⟩:=cd
   dsimp only at hm hdel hok hni
   subst hm hdel
   have hsl:sl = #[k0,k1,k2,k3,some (.builtin n),k5]:=by
    obtain ⟨l⟩:=sl;simp only at hs;rw [hs]
   subst hsl;exact ⟨bm',ns,nm,qn,bs,hd,sn,sub,ab,col,dd,k0,k1,k2,k3,k5,_,X _ _ ho,.of_isNs (PySem.W.isNs_of_in X hok),PySem.W.nsMap_none_of_in X hok hni,PySem.W.tail_of_in X ht⟩
  ·cases q
 ·cases q
section
variable {X:Cx} {x:Str} {C:Addr} {bm:List Value} {newId B initId:String} {e:Expr} {es:List Expr} {te:TA} {np cpos pos:Pos} {R:Value->Hp->Prop}
def aa9 (C:Addr) (te:TA) (R:Value->Hp->Prop):TS:=λ_ σ H=>te σ H λvs H1=>vs.length<=sizeLine/\R (.ref C) H1
theorem aS9 (O:ba6 X.K C bm newId) (FB:ExcBaseFacts B newId initId bm) (hc:X.calm=true) (hg:Gl X x) (hm:X.mg x=some (.ref C)) (hr:aX2 X R) (he:PA X (e :: es) te)
  (hst:starEach (e :: es) X.env=(false,eval e X.env) :: starEach es X.env:=by rfl) (hplain:(backTo cpos (starEach es X.env)).any (·.1)=false:=by rfl) (hd:(x == ("__debug__" : Str))=false:=by decide) :
  PS X (.Raise (some (.Call (.Name x np) (e :: es) [] cpos)) none pos) (aa9 C te R):=by
 intro pins s σ H D I h;obtain ⟨tl,N,nm,q,bs,hdct,sn,sub,ab,col,dd,k0,k1,k2,k3,k5,mN,hC,hN,hni,T⟩:=O.obj I.ok.mod.kin
 refine wpAny_Raise_call_subT (C:=C) (nm:=nm) (q:=q) (N:=N) (bs:=bs) (bm:=tl) (hdct:=hdct) (sn:=sn) (sub:=sub) (ab:=ab) (col:=col) (dd:=dd) (k0:=k0) (k1:=k1) (k2:=k2) (k3:=k3) (k5:=k5)
  FB (mN:=mN) (T.hasType FB.hasBase) (I.ok.hd hc) (by rw [hst];show (false || (backTo cpos (starEach es X.env)).any (·.1))=false;rw [hplain];rfl) hni (aj0 I hg hm ⟨rfl,?_⟩ hd)
 have hA:=he cpos pins s σ H _ I h;rw [hst] at hA ⊢;refine Calls.evalArgs_plain (thn hA λus s2 ⟨vs,H1,I1,r1,hl,q1⟩=>⟨rfl,?_,I1.bk _ _ hC,hN.keeps I1.bk,T.keeps I1.bk,λh' a hx=>hr pins σ H1 s2 h' a _ us I1 hx q1⟩)
 show us.length<=sizeLine;rw [<- r1.length];exact hl
end
section
variable {X:Cx} {pins:List (Addr × Obj)} {σ:St} {H H':Hp} {s s':Shared}
theorem Inv.reA {A2:Around} {c2:Bool} {E2:Value->Shared->Prop} (I:Inv X pins σ H s) (hf:A2.frames=X.A.frames) (hc:c2=true->A2.handled=none):Inv { X with A:=A2,calm:=c2,xe:=E2 } pins σ H s :=
 ⟨⟨I.ok.mod,I.ok.kind,I.ok.glob,I.ok.blt,I.ok.above,I.ok.inj,I.ok.has,I.ok.cab,hc,hf.trans I.ok.frames,I.ok.stk,I.ok.exf,I.ok.bs,I.ok.bsz,I.ok.noex,I.ok.exfs,I.ok.funs,I.ok.frf⟩,
  I.os,I.bare,I.base,I.loc,I.cell,I.free,I.freeC,I.pin,I.hok,I.len⟩
theorem Inv.unA {A2:Around} {c2:Bool} {E2:Value->Shared->Prop} (I:Inv { X with A:=A2,calm:=c2,xe:=E2 } pins σ H s) (ok:X.Ok):Inv X pins σ H s :=
 ⟨ok,I.os,I.bare,I.base,I.loc,I.cell,I.free,I.freeC,I.pin,I.hok,I.len⟩
theorem Inv.bear {E2:Value->Shared->Prop} (I:Inv X pins σ H s):Inv { X with xe:=E2,pn:=X.pn ++ pins } [] σ H s :=
 ⟨⟨I.ok.mod,I.ok.kind,I.ok.glob,I.ok.blt,I.ok.above,I.ok.inj,I.ok.has,I.ok.cab,I.ok.hd,I.ok.frames,I.ok.stk,I.ok.exf,I.ok.bs,I.ok.bsz,I.ok.noex,I.ok.exfs,I.ok.funs,I.ok.frf⟩,
  I.os,I.bare,I.base,I.loc,I.cell,I.free,I.freeC,λp hp=>I.pin p (by simpa using hp),I.hok,I.len⟩
theorem Inv.unbear {E2:Value->Shared->Prop} {pins':List (Addr × Obj)} (I:Inv { X with xe:=E2,pn:=X.pn ++ pins } pins' σ H s):Inv X pins σ H s :=
 ⟨⟨I.ok.mod,I.ok.kind,I.ok.glob,I.ok.blt,I.ok.above,I.ok.inj,I.ok.has,I.ok.cab,I.ok.hd,I.ok.frames,I.ok.stk,I.ok.exf,I.ok.bs,I.ok.bsz,I.ok.noex,I.ok.exfs,I.ok.funs,I.ok.frf⟩,
  I.os,I.bare,I.base,I.loc,I.cell,I.free,I.freeC,λp hp=>I.pin p (u0q _ hp),I.hok,I.len⟩
def am9 (X:Cx):St:=y0m X.N.length none
theorem Inv.forget (I:Inv X pins σ H s):Inv X pins (am9 X) H s :=
 I.weak (by unfold am9;rw [v0g];exact I.len.symm) λi v e=>by
  unfold am9 at e;rw [v0a] at e
  split at e <;> cases e
theorem Inv.relocal {h':Heap} {m':Str->Option Value} {t':Nat} (I:Inv X pins σ H s) (hn':h'.Ns X.env.locals m') (hs:u0r X.env.locals s.heap h'):Inv X pins (am9 X) H { s with heap:=h',toks:=t' }:=by
 have cne:=I.cne;refine ⟨I.ok,I.os,I.bare,⟨λb o e n hb hx=>?_,λb o e n hb hx=>?_,I.base.free,λb o e hx=>?_,I.base.tups,I.base.frzs,I.base.tbls⟩,⟨_,hn',λj y v' e1 e2 e3=>?_⟩,λy c e=>?_,I.free,I.freeC,λp hp=>?_,λb ob e=>?_,?_⟩
 ·exact (hs.2 b (q0q (q0d (q0g e) I.ok.above))).trans (I.base.keep b o e n hb hx)
 ·obtain ⟨sl,e1⟩:=I.base.slot b o e n hb hx
  exact ⟨sl,(hs.2 b (q0q (q0d (q0g e) I.ok.above))).trans e1⟩
 ·obtain ⟨o',e1⟩:=I.base.there b o e hx
  exact ⟨o',(hs.2 b (q0q (q0d (q0g e) I.ok.above))).trans e1⟩
 ·unfold am9 at e2
  rw [v0a] at e2
  split at e2 <;> cases e2
 ·obtain ⟨w',z⟩:=I.cell y c e
  exact ⟨w',z.sameBut hs (cne y c e)⟩
 ·obtain ⟨e,n,ne,nf,d⟩:=I.pin p hp
  exact ⟨(hs.2 p.1 ne).trans e,n,ne,nf,d⟩
 ·refine (I.hok b ob e).stay (λc w' hc q=>(hs.2 c ?_).trans q) (λ_ q=>q) λ_ _ q=>q
  rintro rfl;rcases hc with rfl | hc
  ·rw [I.free] at e;cases e
  ·rw [I.free] at hc;cases hc
 ·show (y0m X.N.length none).length=_
  exact v0g
def Exc (cls:Value) (a:Addr):HO:=.ext λh => ∃ o vs,h.get? a=some o/\o.cls=cls/\o.data=.fields vs
end
theorem Exc.ok {P:Program} {w:World} {H:Hp} {h:Heap} {cls:Value} {a:Addr} {o:Obj} {vs:Array Value} (h1:h.get? a=some o) (h2:o.cls=cls) (h3:o.data=.fields vs):C9 P w H h a (Exc cls a) :=
 ⟨⟨o,vs,h1,h2,h3⟩,⟨o,h1⟩,λ_ _ ⟨o,vs,q1,q2,q3⟩ k=>⟨o,vs,k o q1,q2,q3⟩⟩
theorem Inv.track {X:Cx} {pins:List (Addr × Obj)} {σ:St} {H:Hp} {s:Shared} {o:HO} {a:Addr} (I:Inv X pins σ H s) (hn:H a=none) (new:C9 X.prog X.w (upd H a o) s.heap a o)
  (h1:∀ b ob,X.s₀.heap.get? b=some ob->X.H₀ b=none->b ∉ X.ex->b ≠ a) (h2:X.env.locals ≠ a) (h3:∀ x c,X.env.cells.lookup x=some c->c ≠ a) (h4:∀ p ∈ X.pn ++ pins,p.1 ≠ a):Inv X pins σ (upd H a o) s :=
 ⟨I.ok,I.os,I.bare,⟨I.base.keep,I.base.slot,λb ob q n hx=>by rw [c8 (h1 b ob q n hx)];exact I.base.free b ob q n hx,I.base.there,λb xs q=>by rw [c8 (c7 (I.base.tups b xs q) hn)];exact I.base.tups b xs q,
   λb ob u q=>by rw [c8 (c7 (I.base.frzs b ob u q) hn)];exact I.base.frzs b ob u q,λb ps q=>by obtain ⟨m,z⟩:=I.base.tbls b ps q;exact ⟨m,by rw [c8 (c7 z hn)];exact z⟩⟩,
  I.loc,I.cell,by rw [c8 h2];exact I.free,λx c q=>by rw [c8 (h3 x c q)];exact I.freeC x c q,λp hp=>let ⟨e1,e2,e3⟩:=I.pin p hp;⟨e1,by rw [c8 (h4 p hp)];exact e2,e3⟩,
  λb u e=>by
   by_cases hb:b=a
   ·subst hb;rw [a9] at e;cases e;exact new
   ·rw [c8 hb] at e
    exact (I.hok b u e).stay (λ_ _ _ q=>q) (λc q=>by rw [c8 (c7 q hn)];exact q) λc xs q=>by rw [c8 (c7 q hn)];exact q,
  I.len⟩
theorem Inv.caught {X:Cx} {pins:List (Addr × Obj)} {σ:St} {H:Hp} {s s':Shared} {a:Addr} {cls a0:Value} {H':Hp} {B h6:Heap} (I:Inv X pins σ H s) (os:s'.os=s.os) (bare:AllBare s'.gens) (fl:m0v B X.stack a cls a0 s'.heap)
  (hB:∀ b o,s.heap.get? b=some o->H b=none->b ∉ frs X.stack->B.get? b=some o) (hth:∀ b o,s.heap.get? b=some o->b ∉ frs X.stack->∃ o',B.get? b=some o') (hok:HOk X.prog X.w H' B)
  (un:Un (frs X.stack) [] H H' s.heap s'.heap) (st:B.StaysIn h6) (up:s'.heap.UpToSlots h6):Inv X pins σ H' { s' with heap:=h6 }:=by
 have hfr:∀ b o,s'.heap.get? b=some o->b ∈ frs X.stack->∃ sl,h6.get? b=some { o with slots:=sl }:=λb o q hb=>by
  obtain ⟨_,ob,hob,hnf⟩:=fl.2.2.1.mem hb;rw [q] at hob;cases hob;exact up b o q hnf
 refine I.call' (s':={ s' with heap:=h6 }) (ch:=[]) os ⟨λb o q n hb _=>st b o (hB b o q n hb),λb o q n hb _=>?_,un.free,λb o q _=>?_,un.tups,un.frzs,un.tbls⟩ (hok.kept λb u q=>st b u q) bare (λb z=>absurd z (by simp))
 ·obtain ⟨sl,z⟩:=un.slot b o q n hb (by simp)
  obtain ⟨sl2,z2⟩:=hfr b _ z hb;exact ⟨sl2,z2⟩
 ·by_cases hb:b ∈ frs X.stack
  ·obtain ⟨o2,z2⟩:=un.there b o q (by simp)
   obtain ⟨sl,z3⟩:=hfr b o2 z2 hb;exact ⟨_,z3⟩
  ·obtain ⟨o2,z2⟩:=hth b o q hb
   exact ⟨o2,st b o2 z2⟩
abbrev Cx.body (X:Cx) (xe:Value->Shared->Prop) (pn:List (Addr × Obj)):Cx:={ X with xe:=xe,pn:=pn }
abbrev Cx.suite (X:Cx) (a:Addr):Cx:={ X with A:=X.A.mark (some (.ref a)),calm:=false,xe:=λ_ _=>False }
def bc1 (K:q0a) (n C i:Nat) (tb:XK->TS) (th:Addr->TS):TS:=λD σ H =>
 tb (λcls _ H'=>PySem.W.exmOne K cls (.ref C)=some true/\∀ a,H' a=none->th a { nx:=λ_ _=>False,rt:=D.rt } ((y0m n none).set i (some (.ref a))) (upd H' a (Exc cls a))) D σ H
section
variable {X:Cx}
theorem aS8 {body:List Stmt} {x n:Str} {C:Addr} {i:Nat} {b₀:Stmt} {suite:List Stmt} {tb:XK->TS} {th:Addr->TS} {np hpos pos:Pos} {l:List Env} (hst:X.stack=X.env :: l) (hfr:X.env.frame=some X.env.locals)
  (hex0:X.ex=[]) (hN:X.N.Nodup) (hi:X.N[i]? = some n) (hl:X.env.kindOf n=some .local) (hg:Gl X x) (hm:X.mg x=some (.ref C)) 
  (hb:∀ (E:XK) (xe:Value->Shared->Prop) (pn:List (Addr × Obj)),al7 (CXR X.prog X.w) (X.body xe pn) E->PSs (X.body xe pn) body (tb E))
  (hs:∀ a,PSs (X.suite a) (b₀ :: suite) (th a)) (hd:(x == ("__debug__" : Str))=false:=by decide) :
  PS X (.Try body [.ExceptHandler (some (.Name x np)) (some n) (b₀ :: suite) hpos] [] [] pos) (bc1 X.K X.N.length C i tb th):=by
 intro pins s σ H D I h;refine wpAny_Try_except ?_;refine wpAny_mono (hb _ (λe s₁=>wpAny (model X.prog X.w) X.A (noteFrame e X.env) (λ_ s₂=>wpAny (model X.prog X.w) X.A (setFlight e none) (λ_ s₃=>wpAny (model X.prog X.w) X.A (handleBy e X.env [.ExceptHandler (some (.Name x np)) (some n) (b₀ :: suite) hpos]) (SP X pins D) X.xe s₃) X.xe s₂) X.xe s₁) (X.pn ++ pins) ?_ [] s σ H D I.bear h) ?_ λ_ _ z=>z
 case refine_2 =>
  intro f s1 hf
  cases f with
  | next =>
   obtain ⟨σ',H',J,q⟩:=hf;exact wpAny_execs_nil ⟨σ',H',J.unbear,q⟩
  | brk =>
   obtain ⟨σ',H',J,q⟩:=hf;exact ⟨σ',H',J.unbear,q⟩
  | cont =>
   obtain ⟨σ',H',J,q⟩:=hf;exact ⟨σ',H',J.unbear,q⟩
  | ret u =>
   obtain ⟨v,σ',H',J,r,q⟩:=hf;exact ⟨v,σ',H',J.unbear,r,q⟩
 case refine_1 =>
  intro pins' σ' H1 s1 e s2 J0 hcx;have J:Inv X pins σ' H1 s1:=J0.unbear;obtain ⟨a,cls,a0,H2,B,rfl,os,bare,fl,hB,hth,hok,un,hn,hE⟩:=hcx;obtain ⟨hex,hsu⟩:=hE;have fl':m0v B (X.env :: l) a cls a0 s2.heap:=by rw [<- hst];exact fl
  refine wpAny_looks_onW (by rw [J.ok.frames,hst]) hfr fl' λh4 held4 up4=>?_
  refine wpAny_landsW held4 λh5 fl5 up5=>?_;have J5:Inv X pins σ' H2 { s2 with heap:=h5 }:=J.caught os bare fl hB hth hok un fl5.1 (up4.trans up5);obtain ⟨ob,hob,hobc⟩:=fl5.there;have LT:PySem.W.Looks (model X.prog X.w) h5 (typeOf (.ref a)) cls:=hobc ▸ (PySem.W.Looks.ld hob).andThen .now;have J5h:Inv (X.suite a) pins σ' H2 { s2 with heap:=h5 }:=J5.reA rfl (λz=>nomatch z);refine wpAny_handleBy_cons (codeAny_handlers_test (aj0 (X:=X.suite a) J5h hg hm ?_ hd)) (by intro q;cases q)
  refine (PySem.W.exm_one (M:=model X.prog X.w) J5.kIn LT hex).at ?_;refine codeAny_handlers_suite_as ?_;refine lands_againW fl5 λh6 fl6 up6=>?_;have J6:Inv X pins σ' H2 { s2 with heap:=h6 }:=J.caught os bare fl hB hth hok un fl6.1 ((up4.trans up5).trans up6);have J6h:Inv (X.suite a) pins (am9 X) H2 { s2 with heap:=h6 }:=(show Inv (X.suite a) pins σ' H2 { s2 with heap:=h6 } from J6.reA rfl (λz=>nomatch z)).forget
  -- the exception is tracked
  obtain ⟨oe,ws,hoe,hoec,hoed,_⟩:=fl6.first
  have nfr:∀ b ∈ frs X.stack,b ≠ a:=λb hb z=>by
   obtain ⟨_,o',ho',hnf⟩:=fl6.2.2.1.mem (show b ∈ frs (X.env :: l) from hst ▸ hb);subst z;have ho6:h6.get? b=some o':=ho';rw [hoe] at ho6;cases ho6;exact hnf ws hoed
  have nB:∀ b o,B.get? b=some o->b ≠ a:=λb o q z=>by rw [z,fl.2.1] at q;cases q
  have nL:X.env.locals ≠ a:=nfr _ (by rw [hst];unfold frs;rw [y0c,hfr];exact z0g)
  have J7:Inv (X.suite a) pins (am9 X) (upd H2 a (Exc cls a)) { s2 with heap:=h6 }:=by
   refine J6h.track hn (Exc.ok hoe hoec hoed) (λb ob q n hx=>?_) nL (λy c q=>?_) (λp hp=>?_)
   ·have hx':b ∉ X.ex:=hx
    by_cases hbf:b ∈ frs X.stack
    ·exact nfr b hbf
    ·have z1:b ∉ X.fs:=λz=>hbf (by
      rcases J.ok.stk with e | ⟨e,_⟩
      ·rw [e];exact z
      ·rw [e];unfold frs;rw [y0c,hfr];exact q0z _ z)
     exact nB b ob (hB b ob (J.base.keep b ob q n z1 hx') (J.base.free b ob q n hx') hbf)
   ·obtain ⟨v,o',ho',hd'⟩:=J6h.cell y c q
    intro z;subst z;have z1:h6.get? c=some o':=ho';rw [hoe] at z1;cases z1;rw [hoed] at hd';cases hd'
   ·have hp':p ∈ X.pn ++ pins:=hp
    obtain ⟨e1,e2,e3,e4,_⟩:=J.pin p hp';refine nB p.1 p.2 (hB p.1 p.2 e1 e2 λz=>?_);rcases z0n.mp (J.stkSub p.1 z) with y | y
    ·exact e3 y
    ·exact e4 y
  refine ab1 (X:=X.suite a) J7 hN hi (.inl hl) (v:=.ref a) (u:=.ref a) rfl (λs8 J8=>?_) (.inr hl);refine wpAny_mono (hs a pins s8 _ _ { nx:=λ_ _=>False,rt:=D.rt } J8 (hsu a hn)) (λf s9 hf=>?_) λ_ _ z=>False.elim z
  cases f with
  | next=>obtain ⟨_,_,_,q⟩:=hf;exact False.elim q
  | brk=>obtain ⟨_,_,_,q⟩:=hf;exact False.elim q
  | cont=>obtain ⟨_,_,_,q⟩:=hf;exact False.elim q
  | ret u =>
   obtain ⟨v,σ9,H9,J9,r9,q9⟩:=hf;obtain ⟨m9,hn9,_⟩:=id J9.loc;have J9':Inv X pins σ9 H9 s9:=J9.unA J.ok;refine wpAny_nameGoes hl hn9 (by rw [J.ok.kind];rfl) λh' m' hn' hs'=>?_
   exact ⟨v,am9 X,H9,J9'.relocal hn' hs',r9,q9⟩
end
structure N0 (k:Nat) (A:Around):Prop where
 dp:A.depth+3*k+5<recursionLimit
 un:A.units+16*k+200<cLine
theorem T5.toX {k:Nat} {A:Around} (r:T5 k A):N0 k A:=⟨r.dp,r.un⟩
theorem N0.mono {j k:Nat} {A:Around} (r:N0 k A) (h:j<=k):N0 j A:=⟨by have:=r.dp;omega,by have:=r.un;omega⟩
theorem N0.deeper {k:Nat} {A:Around} (r:N0 (k+1) A) (env:Env):N0 k (A.deeper env) :=
 ⟨by have:=r.dp;show A.depth+1+3*k+5<_;omega,by have:=r.un;show A.units+3+16*k+200<_;omega⟩
theorem N0.mark {k:Nat} {A:Around} (r:N0 k A) (v:Option Value):N0 k (A.mark v):=⟨r.dp,r.un⟩
theorem N0.depth {k:Nat} {A:Around} (r:N0 k A):A.depth<recursionLimit:=by have:=r.dp;omega
structure aO0 (P:Program) (w:World) (K:q0a) (mg:Str->Option Value) (base:Heap) (k:Nat) (f:Addr) (fd:FuncData) (ps:List Str) (sp:Sp):Prop where
 len:∀ vs H Q E,sp vs H Q E->vs.length=ps.length
 run:∀ (A:Around) (outer:List Env) (s:Shared) (H:Hp) (args:Args) (us:List Value) (vs:List V) (Q:VK) (E:XK),N0 k A->aR2 P w K mg base A outer s H->BindsTo s fd args (ps.zip us)->m6 vs us->sp vs H Q E ->
  codeAny (model P w) A (.call (.ref f) args) (CR CX0 outer P w H s Q E) s
abbrev cxX (P:Program) (w:World) (K:q0a) (mg:Str->Option Value) (base:Heap) (N:List Str) (qual:Str) (scope:Scope) (f:Addr) (cd:Value) (A:Around) (outer:List Env) (s₀:Shared) (H₀:Hp) (E:XK):Cx :=
 { ad4 CX0 P w K mg base N qual scope f cd A outer s₀ H₀ E with calm:=false,xe:=λ_ _=>False }
theorem Fun.okX {P:Program} {w:World} {K:q0a} {mg:Str->Option Value} {base:Heap} {x qual:Str} {st:Stmt} {f:Addr} {fd:FuncData} {N ps:List Str} {k:Nat} {sp:Sp} (F:Fun K x qual st f fd) (S:j1 N ps (b9 st)) (len:∀ vs H Q E,sp vs H Q E->vs.length=ps.length)
  (hbody:∀ (cdv:Value) (A:Around) (outer:List Env) (s:Shared) (H:Hp) (vs:List V) (Q:VK) (E:XK),N0 k (A.deeper (envOfC qual (b9 st) s.heap.objs.size f cdv))->sp vs H Q E ->
   ∃ t,PSs (cxX P w K mg base N qual (b9 st) f cdv A outer s H E) (M5 st) t/\t { nx:=λ_ H'=>Q .non H',rt:=Q } (start N vs) H):aO0 P w K mg base (k+1) f fd ps sp:=by
 obtain ⟨oc,od,kV,doc,pm,an,cdv,ct,osl,rfl,lk,hcd⟩:=F.ex;refine ⟨len,λA outer s H args us vs Q E hr e0 hb r hsp=>?_⟩;have hl:=len _ _ _ _ hsp;have KX:K.In s.heap:=e0.mod.kin.keeps λb o e=>(e0.bs b o e).1;have lim:s.heap.NoLimit:=e0.mod.nolimit.keeps λb o e=>(e0.bs b o e).1
 have hkind:∀ y ∈ ps.zip us,(b9 st).names.lookup y.1=some .local \/ ((b9 st).names.lookup y.1=some .cell/\((cellsFrom (s.heap.objs.size+1) (b9 st).names []).lookup y.1).isSome=true):=λ⟨n,v⟩ hy=>by
  rcases S.par n (u0u hy).1 with q | q
  ·exact .inl q
  ·exact .inr ⟨q,u0h _ _ _ (.inl q)⟩
 refine codeAny_call_function hr.depth (KX _ _ lk) rfl S.co S.gen rfl (PySem.W.codeRec_of KX hcd) (hb _ _ _ _ ?_);refine wpAny_newFunctionEnv_cells S.kind hkind λenv he s1 x=>?_;subst he;refine ⟨lim.keeps x.toInCall.keep,codeAny_func ?_⟩;obtain ⟨t,ht,hq⟩:=hbody cdv A outer s H vs Q E (hr.deeper _) hsp;have e0':aR2 P w K mg base { A with handled:=none } outer s H:=⟨e0.frames,e0.mod,e0.bs,e0.bsz,e0.funs,e0.frf,e0.hok,e0.bare⟩;have I0:Inv (ad4 CX0 P w K mg base N qual (b9 st) f cdv { A with handled:=none } outer s H E) [] (start N vs) H s1:=ax1 S rfl e0' hl r x;have I:Inv (cxX P w K mg base N qual (b9 st) f cdv A outer s H E) [] (start N vs) H s1:=I0.reA (A2:=A.deeper (envOfC qual (b9 st) s.heap.objs.size f cdv)) (by rfl) (λz=>nomatch z)
 refine wpAny_mono (ht [] s1 (start N vs) H _ I hq) (λfl s' hs=>?_) λe s' hs=>False.elim hs
 have fin:∀ {σ':St} {H':Hp} {v:V} {u:Value},Inv (cxX P w K mg base N qual (b9 st) f cdv A outer s H E) [] σ' H' s'->y1 v u->Q v H'->CE outer P w H s Q u s' :=
  fun {σ' H' v u} J rv q=>⟨v,H',J.os,J.bare,J.base,J.hok,rv,q⟩
 cases fl with
 | ret u =>
  obtain ⟨v,σ',H',J,rv,q⟩:=hs;exact fin J rv q
 | next =>
  obtain ⟨σ',H',J,q⟩:=hs;exact fin (v:=V.non) (u:=Value.none) J rfl q
 | brk =>
  obtain ⟨_,_,_,q⟩:=hs;exact False.elim q
 | cont =>
  obtain ⟨_,_,_,q⟩:=hs;exact False.elim q
section
variable {X:Cx} {CX:CXT} {k:Nat} {f:Addr} {fd:FuncData} {ps:List Str} {sp:Sp} {E:XK} {x:Str} {p pos:Pos} {e:Expr} {es:List Expr} {t:TA}
theorem aY1 {pins:List (Addr × Obj)} {σ:St} {H:Hp} {s:Shared} {Q:VK} {us:List Value} {vs:List V} (F:aO0 X.prog X.w X.K X.mg X.base k f fd ps sp) (hr:N0 k X.A) (hb:ae1 X.K fd ps [])
  (I:Inv X pins σ H s) (r:m6 vs us) (h:sp vs H Q E):wpAny (model X.prog X.w) X.A (call (.ref f) us) (EP X pins σ Q) X.xe s:=by
 have hl:(us ++ []).length=ps.length:=by rw [v0b,<- r.length];exact F.len _ _ _ _ h
 have hb':=hb s us I.kIn hl;rw [v0b] at hb';refine wpAny_call (codeAny_mono (F.run X.A X.stack s H ⟨us,[]⟩ us vs Q E hr I.env0 hb' r h) λr s' hq=>?_)
 cases r with
 | error e=>exact False.elim hq
 | ok fl =>
  cases fl with
  | ret u=>exact I.after hq
  | next=>exact False.elim hq
  | brk=>exact False.elim hq
  | cont=>exact False.elim hq
def Y6 (sp:Sp) (t:TA):TE:=λσ H Q=>t σ H λvs H1=>sp vs H1 Q E0
theorem aT3 (F:aO0 X.prog X.w X.K X.mg X.base k f fd ps sp) (hr:N0 k X.A) (hg:Gl X x) (hm:X.mg x=some (.ref f)) (hk:y0f X.K (.ref f)=true) (hb:ae1 X.K fd ps [])
  (ha:PA X (e :: es) t) (hdb:(x == ("__debug__" : Str))=false:=by decide) (he:starEach (e :: es) X.env=(false,eval e X.env) :: starEach es X.env:=by rfl) (hpl:(backTo pos (starEach es X.env)).any (·.1)=false:=by rfl) :
  PE X (.Call (.Name x p) (e :: es) [] pos) (Y6 sp t):=by
 intro pins s σ H Q I h;refine wpAny_Call_Name_kw (aj0 I hg hm ?_ hdb);refine PySem.W.callWith_K (h₀:=X.base) I.ok.mod.kin hk (thn (ha pos pins s σ H _ I h) λus s1 ⟨vs,H1,I1,r,q⟩=>⟨I1.kIn,?_⟩) he hpl;exact aY1 F hr hb I1 r q
structure FnV (P:Program) (w:World) (K:q0a) (mg:Str->Option Value) (base:Heap) (k:Nat) (f:Addr) (sp:Sp):Prop where
 ex:∃ fd ps,aj5 P w K mg base (CXR P w) k f fd ps sp/\ae1 K fd ps []
 kp:y0f K (.ref f)=true
end
end L2
-- the class of an exception,isinstance,great numbers
set_option maxRecDepth 100000
namespace L2
open PySem PySem.W PySem.Spec PyProof.Rows Builtin Builtin.ObjectAttr Builtin.Getset_descriptor
section
variable {prog:Program} {w:World} {A:Around} {E:Value->Shared->Prop} {s:Shared} {K:Frag} {a C:Addr} {o:Obj}
theorem av0 {R:Result->Shared->Prop} {tp:Value} (X:K.In s.heap) (hx:s.heap.get? a=some o) (hc:o.cls=.ref C) (hm:mroIn K C (.type "object")=some true)
  (h:R (.ok (.ret (.ref C))) s):codeAny (model prog w) A (.call (.builtin "getset_descriptor.__get__") ⟨[.builtin "object.__class__",.ref a,tp],[]⟩) R s:=by
 obtain ⟨hh,g,dr,t,os⟩:=s;have L0:Looks (model prog w) hh (typeOf (.ref a)) (.ref C):=hc ▸ (Looks.ld hx).andThen .now;have L1:=looks_mroIn (M:=model prog w) X hm;refine codeAny_call_builtin KF.slot_gs.plain KF.entry_gs (KF.slot_gs.check _ _ _ _ _ _ _ _ KF.type_class (KF.args_gs _ _ _) ?_);unfold Builtin.«getset_descriptor.__get__» descrGet;rw [dga_obj];refine wpAny_bind (wpAny_pure ?_);unfold descrGetter descrCheckInstance descrNameAndClass isInstance;simp only [KF.owner_class]
 repeat lk
 refine ⟨Code.quiet_builtin _ (by decide +kernel),codeAny_builtin KF.entry_class ?_⟩
 unfold Builtin.«object.__class__» shownTypeOf
 repeat lk
 exact h
theorem aQ2 {tk:Tok} {Q:Fin->Shared->Prop} (X:K.In s.heap) (hx:s.heap.get? a=some o) (hc:o.cls=.ref C) (g3:findIn K (.ref C) "__class__" = some (some (.builtin "object.__class__"))) (hm:mroIn K C (.type "object")=some true)
  (hq:Q (.done (.ret (.ref C))) s):wpAny (model prog w) A (Builtin.«object.__getattribute__» ⟨[.ref a,.str "__class__" tk],[]⟩) Q E s:=by
 obtain ⟨hh,g,dr,t,os⟩:=s;have L0:Looks (model prog w) hh (typeOf (.ref a)) (.ref C):=hc ▸ (Looks.ld hx).andThen .now;have L1:=looks_findIn (M:=model prog w) X g3;have f5:typeOf (.builtin "object.__class__")=pure (.type "getset_descriptor"):=KF.type_class
 have f6:=F.slot_gs_get.lookup;have f7:=F.slot_gs_set.lookup
 repeat (any_goals (first | assumption | (with_reducible refine wpAny_loadPart_at hx ?_;rw [hc]) | with_reducible refine L1.at ?_ | wp_step))
 refine av0 X hx hc hm ?_
 repeat (any_goals (first | assumption | wp_step))
theorem aQ4 {M:Model} {nameV:Value} {Q:Unit->Shared->Prop} (X:K.In s.heap) (hx:s.heap.get? a=some o) (hc:o.cls=.ref C) (hmB:mroIn K C (.type "BaseException")=some true) (hq:Q () s) :
  wpAny M A (checkBuiltinCall "BaseException.__getattribute__" ⟨[.ref a,nameV],[]⟩) Q E s:=by
 obtain ⟨hh,g,d,t,os⟩:=s;have L3:=looks_mroIn (M:=M) X hmB;have hk:builtinKind "BaseException.__getattribute__" = some .slot:=by decide +kernel
 have hsplit:splitId "BaseException.__getattribute__" = some ("BaseException","__getattribute__"):=by decide +kernel
 have ha:=F.args_bexc_ga (.ref a) nameV;simp only [checkBuiltinCall,hk,hsplit];refine wpAny_bind ?_
 ·unfold isInstance
  repeat (first | (with_reducible refine wpAny_loadPart_at hx ?_;rw [hc]) | with_reducible refine L3.at ?_ | wp_step)
  exact hq
theorem aQ3 {Q:Option Value->Shared->Prop} (X:K.In s.heap) (hx:s.heap.get? a=some o) (hc:o.cls=.ref C) (g1:findIn K (.ref C) "__getattribute__" = some (some (.builtin "BaseException.__getattribute__"))) (g2:findIn K (.ref C) "__getattr__" = some none)
  (g3:findIn K (.ref C) "__class__" = some (some (.builtin "object.__class__"))) (hm:mroIn K C (.type "object")=some true) (hmB:mroIn K C (.type "BaseException")=some true) 
  (h:Q (some (.ref C)) { s with toks:=s.toks+1 }):wpAny (model prog w) A (getAttr? (.ref a) "__class__") Q E s:=by
 obtain ⟨hh,g,d,t,os⟩:=s;have L0:Looks (model prog w) hh (typeOf (.ref a)) (.ref C):=hc ▸ (Looks.ld hx).andThen .now;have L1:=looks_findIn (M:=model prog w) X g1;have L2:=looks_findIn (M:=model prog w) X g2;have L3:=looks_mroIn (M:=model prog w) X hmB;unfold getAttr? getAttrBy? getAttrBy;refine wpAny_bind (wpAny_mkText (wpAny_bind (wpAny_attempt (wpAny_holding (wpAny_bind (L0.at (wpAny_bind (L1.at ?_))))))));have hx2:(Value.builtin "BaseException.__getattribute__" == Value.builtin "object.__getattribute__")=false:=by decide +kernel
 have hx1:(onTheHeap (Value.ref C) && Value.builtin "BaseException.__getattribute__" == Value.builtin "object.__getattribute__")=false:=by rw [hx2];rfl
 show wpAny _ _ (if (onTheHeap (Value.ref C) && Value.builtin "BaseException.__getattribute__" == Value.builtin "object.__getattribute__")=true then _ else _) _ _ _
 rw [if_neg (by rw [hx1];decide)]
 have f3:=PySem.F.attr_ValueError.ga.bind (.ref a);have hx0:(false && onTheHeap (Value.builtin "BaseException.__getattribute__"))=false:=rfl
 unfold getAttrByItsOwn hookBefore
 repeat (any_goals (first | assumption | (with_reducible refine wpAny_loadPart_at hx ?_;rw [hc]) | with_reducible refine L1.at ?_ | with_reducible refine L2.at ?_ | wp_step))
 refine codeAny_call_builtin PySem.F.attr_ValueError.ga.plain F.entry_bexc_ga (aQ4 X hx hc hmB (aQ2 X hx hc g3 hm ?_))
 dsimp only
 unfold handedOut;exact wpAny_pure (wpAny_pure h)
structure at4 (K:Frag) (C:Addr):Prop where
 cl:(clsIn K C).isSome=true
 g1:findIn K (.ref C) "__getattribute__" = some (some (.builtin "BaseException.__getattribute__"))
 g2:findIn K (.ref C) "__getattr__" = some none
 g3:findIn K (.ref C) "__class__" = some (some (.builtin "object.__class__"))
 hm:mroIn K C (.type "object")=some true
 hB:mroIn K C (.type "BaseException")=some true
theorem aU9 (c:at4 K C):KitX K (.ref a) (.ref C) (λh => ∃ o,h.get? a=some o/\o.cls=.ref C) where
 ty:=λ_ _ _ ⟨o,hx,hc⟩=>hc ▸ (Looks.ld hx).andThen .now
 it:=λ_ _ X _=>by
  obtain ⟨cdD,hcD⟩:=v0t.mp c.cl;unfold clsIn at hcD
  split at hcD
  ·rename_i c' d' cd' sl' ho
   intro A' Q' E' s' k q;unfold isType loadHead;exact wpAny_bind (wpAny_loadPart (k _ _ (X _ _ ho)) (wpAny_pure q))
  ·cases hcD
 ne:=λh tp dd its n sl X htp=>by
  obtain ⟨cdD,hcD⟩:=v0t.mp c.cl;refine Bool.eq_false_iff.mpr λq=>?_;have e:C=tp:=Value.ref.inj (beq_iff_eq.mp q);subst e;unfold clsIn at hcD
  split at hcD
  ·rename_i c' d' cd' sl' ho
   have z:=(X _ _ ho).symm.trans htp
   cases z
  ·cases hcD
 ca:=λX ⟨o,hx,hc⟩ k=>aQ3 X hx hc c.g1 c.g2 c.g3 c.hm c.hB k
end
section
variable {X:Cx}
def bg9:V->Value
 | .ty n=>.type n
 | .ref a=>.ref a
 | _=>.none
def isC:V->Prop
 | .ty _=>True
 | .ref _=>True
 | _=>False
inductive TyX (K:Frag) (H:Hp):V->Value->Prop where
 | of {x:V} {t:Value} (h:al6 K H x t):TyX K H x t
 | exc {a C:Addr} (e:H a=some (Exc (.ref C) a)) (c:at4 K C):TyX K H (.ref a) (.ref C)
 | sqt {a:Addr} {xs:List V} (h:SqT K H a xs):TyX K H (.ref a) (.type "tuple")
 | sql {a:Addr} {xs:List V} (h:SqL K H a xs):TyX K H (.ref a) (.type "list")
def aD7 (K:Frag):List V->Hp->VK->Prop:=λxs H Q => ∃ x c t b,xs=[x,c]/\isC c/\TyX K H x t/\kitOne K t (bg9 c)=some b/\Q (.bl b) H
theorem j6:Y4 X (.builtin "isinstance") (aD7 X.K):=by
 intro pins s σ H us vs Q I r h;obtain ⟨x,c,t,b,rfl,ic,ty,e,q⟩:=h;obtain ⟨u,cu,rfl,rx,rc⟩:=m6.two r
 have ec:cu=bg9 c:=by
  cases c with
  | ty n=>exact rc
  | ref a=>exact rc
  | _=>exact False.elim ic
 subst ec;have fin:∀ tk,EP X pins σ Q (.bool b) { s with toks:=tk }:=λtk=>⟨.bl b,H,I.tok tk,rfl,q⟩
 cases ty with
 | of ty=>exact aP8 I rx ty e fin
 | @exc a C ea cl =>
  cases (show u=Value.ref a from rx)
  obtain ⟨⟨o,_,h1,h2,_⟩,_⟩:=(show C9 X.prog X.w H s.heap a (Exc (.ref C) a) from I.hok a _ ea);exact kia_one (aU9 cl) I.kIn ⟨o,h1,h2⟩ e (λz=>nomatch z) fin
 | @sqt a xs h =>
  cases (show u=Value.ref a from rx)
  obtain ⟨_,_,⟨o,h1,h2,_⟩,_⟩:=I.tuple h;exact kia_one kitx_tuple I.kIn ⟨o,h1,h2⟩ e (λz=>nomatch z) fin
 | @sql a xs h =>
  cases (show u=Value.ref a from rx)
  obtain ⟨_,_,⟨o,n,h1,h2,_⟩,_⟩:=I.list h;exact kia_one kitx_list I.kIn ⟨o,h1,h2⟩ e (λz=>nomatch z) fin
theorem q8:OpR X (binaryOp .Mult) (rI IntMulOk λi j=>.int (i*j)):=opI λ_ _ _ _ _ _ _ hc q=>mul_int q hc
def ao4 (_ j:Int):Prop:=j ≠ 0/\j.natAbs.log2<9000
theorem A7:OpR X (binaryOp .FloorDiv) (rI ao4 λi j=>.int (i.fdiv j)):=opI λ_ _ _ _ _ _ _ hc q=>floordiv_int hc.1 q (.inl (PyProof.noPylong_of_log2 hc.2))
end
open PySem PySem.Spec PyProof.Rows
inductive D where
 | v (x:V)
 | tup (ds:List D)
 | lst (ds:List D)
mutual
def eqD:D->D->Bool
 | .v x,.v y=>eqV x y
 | .tup a,.tup b=>F9 a b
 | .lst a,.lst b=>F9 a b
 | _,_=>false
def F9:List D->List D->Bool
 | [],[]=>true
 | x :: xs,y :: ys=>eqD x y && F9 xs ys
 | _,_=>false
end
mutual
def okD:D->D->Bool
 | .v _,.v _=>true
 | .tup a,.tup b=>X8 a b
 | .lst a,.lst b=>X8 a b
 | _,_=>false
def X8:List D->List D->Bool
 | x :: xs,y :: ys=>okD x y && X8 xs ys
 | _,_=>true
end
mutual
def dpD:D->Nat
 | .v _=>0
 | .tup a=>ad3 a+1
 | .lst a=>ad3 a+1
def ad3:List D->Nat
 | []=>0
 | x :: xs=>max (dpD x) (ad3 xs)
end
mutual
inductive IsD (K:q0a) (H:Hp):V->D->Prop where
 | v {x:V} (f:T2 x=true):IsD K H x (.v x)
 | tup {p:Addr} {xs:List V} {ds:List D} (h:SqT K H p xs) (t:Y3 K H xs ds):IsD K H (.ref p) (.tup ds)
 | lst {p:Addr} {xs:List V} {ds:List D} (h:SqL K H p xs) (t:Y3 K H xs ds):IsD K H (.ref p) (.lst ds)
inductive Y3 (K:q0a) (H:Hp):List V->List D->Prop where
 | nil:Y3 K H [] []
 | cons {x:V} {xs:List V} {d:D} {ds:List D} (h:IsD K H x d) (t:Y3 K H xs ds):Y3 K H (x :: xs) (d :: ds)
end
theorem Y3.length {K:q0a} {H:Hp}:∀ {xs:List V} {ds:List D},Y3 K H xs ds->xs.length=ds.length
 | _,_,.nil=>rfl
 | _,_,.cons _ t=>congrArg (· + 1) t.length
theorem aV7:∀ {x:V},T2 x=true->eqV x x=true
 | .non,_=>rfl
 | .bl a,_=>by simp [eqV]
 | .int a,_=>by simp [eqV]
 | .str a,_=>by simp [eqV]
 | .byt _,h=>absurd (show false=true from h) q0u
 | .flt _,h=>absurd (show false=true from h) q0u
 | .ref _,h=>absurd (show false=true from h) q0u
 | .ty _,h=>absurd (show false=true from h) q0u
section
variable {X:Cx} {pins:List (Addr × Obj)} {σ:St} {H:Hp} {s:Shared}
mutual
theorem as1 (I:Inv X pins σ H s):∀ {x:V} {d d':D},IsD X.K H x d->IsD X.K H x d'->okD d d'=true->eqD d d'=true
 | _,_,_,.v f,b,_=>by
  cases b with
  | v _=>rw [eqD];exact aV7 f
  | tup _ _=>exact absurd (show false=true from f) q0u
  | lst _ _=>exact absurd (show false=true from f) q0u
 | _,_,_,.tup h t,b,ok=>by
  cases b with
  | v f=>exact absurd (show false=true from f) q0u
  | tup h' t' =>
   have e:=I.tuple_inj h h';subst e;rw [eqD];rw [okD] at ok;exact al3 I t t' ok
  | lst _ _=>simp [okD] at ok
 | _,_,_,.lst h t,b,ok=>by
  cases b with
  | v f=>exact absurd (show false=true from f) q0u
  | tup _ _=>simp [okD] at ok
  | lst h' t' =>
   have e:=I.list_inj h h';subst e;rw [eqD];rw [okD] at ok;exact al3 I t t' ok
theorem al3 (I:Inv X pins σ H s):∀ {xs:List V} {ds ds':List D},Y3 X.K H xs ds->Y3 X.K H xs ds'->X8 ds ds'=true->F9 ds ds'=true
 | _,_,_,.nil,b,_=>by cases b;rw [F9]
 | _,_,_,.cons h t,b,ok=>by
  cases b with
  | cons h' t' =>
   rw [X8,j0t] at ok;rw [F9,as1 I h h' ok.1,al3 I t t' ok.2];rfl
end
def ad2 (ds ds':List D) (j:Nat):Bool:=match ds[j]?,ds'[j]? with
 | some d,some d'=>eqD d d'
 | _,_=>true
theorem ae0 (n:Nat) (e:Nat->Bool):(z0e (n+1)).all e=(e 0 && (z0e n).all λj=>e (j+1)):=by
 rw [m0e,g0d,List.all_map];rfl
theorem ae9:∀ (ds ds':List D),((z0e (min ds.length ds'.length)).all (ad2 ds ds') && ds.length == ds'.length)=F9 ds ds'
 | [],[]=>by rw [F9];rfl
 | [],_ :: _=>by simp [F9]
 | _ :: _,[]=>by simp [F9]
 | x :: xs,y :: ys=>by
  have ih:=ae9 xs ys;rw [F9,<- ih];have e1:min (x :: xs).length (y :: ys).length=min xs.length ys.length+1:=by simp only [j0x];omega
  rw [e1,ae0]
  have e2:((x :: xs).length == (y :: ys).length)=(xs.length == ys.length):=by
   by_cases h:xs.length=ys.length <;> simp [h]
  rw [e2,Bool.and_assoc];rfl
theorem ag0 (ds ds':List D) (h:ds.length=ds'.length):(z0e ds.length).all (ad2 ds ds')=F9 ds ds':=by
 rw [<- ae9,<- h,Nat.min_self];simp
theorem as0:∀ (ds ds':List D),ds.length ≠ ds'.length->F9 ds ds'=false
 | [],[],h=>absurd rfl h
 | [],_ :: _,_=>by simp [F9]
 | _ :: _,[],_=>by simp [F9]
 | x :: xs,y :: ys,h=>by
  rw [F9,as0 xs ys (λe=>h (by simp [e]))];simp
theorem aw3 (I:Inv X pins σ H s) {p p':Addr} {xs ys:List V} {ds ds':List D} {A:Around} (h:SqT X.K H p xs) (t:Y3 X.K H xs ds) (h':SqT X.K H p' ys) (t':Y3 X.K H ys ds') (hu:A.units<cLine)
  (q:∀ {us vs:List Value},m6 xs us->m6 ys vs->∀ (j:Nat) (h1:j<us.length) (h2:j<vs.length),SeqAt.EqAt A.in1 s us[j] vs[j] (ad2 ds ds' j)):SeqAt.RcAt A s (.ref p) (.ref p') (F9 ds ds'):=by
  obtain ⟨its,r1,i1,_⟩:=I.tuple h;obtain ⟨its',r2,i2,_⟩:=I.tuple h';have z:=SeqAt.RcAt.tuples (A:=A) (items:=its.toArray) (items2:=its'.toArray) (e:=ad2 ds ds') i1 i2 hu (λj h1 h2=>q r1 r2 j (by simpa using h1) (by simpa using h2))
  have e1:its.toArray.size=ds.length:=by rw [q0t,<- r1.length,t.length]
  have e2:its'.toArray.size=ds'.length:=by rw [q0t,<- r2.length,t'.length]
  rw [e1,e2,ae9] at z;exact z
theorem aw4 (I:Inv X pins σ H s) {p p':Addr} {xs ys:List V} {ds ds':List D} {A:Around} (h:SqL X.K H p xs) (t:Y3 X.K H xs ds) (h':SqL X.K H p' ys) (t':Y3 X.K H ys ds') (hu:A.units<cLine)
  (q:∀ {us vs:List Value},m6 xs us->m6 ys vs->∀ (j:Nat) (h1:j<us.length) (h2:j<vs.length),SeqAt.EqAt A.in1 s us[j] vs[j] (ad2 ds ds' j)):SeqAt.RcAt A s (.ref p) (.ref p') (F9 ds ds'):=by
  obtain ⟨its,r1,i1,_⟩:=I.list h;obtain ⟨its',r2,i2,_⟩:=I.list h';have e1:its.toArray.size=ds.length:=by rw [q0t,<- r1.length,t.length]
  have e2:its'.toArray.size=ds'.length:=by rw [q0t,<- r2.length,t'.length]
  by_cases hl:ds.length=ds'.length
  ·have z:=SeqAt.RcAt.lists (A:=A) (items:=its.toArray) (items2:=its'.toArray) (e:=ad2 ds ds') i1.isList i2.isList (by rw [e1,e2,hl]) hu (λj h1 h2=>q r1 r2 j (by simpa using h1) (by simpa using h2))
   rw [e1,ag0 ds ds' hl] at z;exact z
  ·rw [as0 ds ds' hl]
   exact SeqAt.RcAt.lists_lengths i1.isList i2.isList (by rw [e1,e2];simpa using hl) hu
mutual
theorem be3 (I:Inv X pins σ H s):∀ {x y:V} {d d':D} {u v:Value} {A:Around},IsD X.K H x d->IsD X.K H y d'->okD d d'=true->y1 x u->y1 y v->A.units+dpD d<cLine->SeqAt.EqAt A s u v (eqD d d')
 | _,_,_,_,_,_,_,.v f,b,ok,r,r',_=>by
  cases b with
  | v f'=>rw [eqD];exact aW0 r r' f f'
  | tup _ _=>simp [okD] at ok
  | lst _ _=>simp [okD] at ok
 | _,_,_,_,u,v,A,.tup (p:=p) h t,b,ok,r,r',hu=>by
  cases b with
  | v _=>simp [okD] at ok
  | @tup p' _ _ h' t' =>
   cases (show u=Value.ref p from r)
   cases (show v=Value.ref p' from r')
   by_cases hp:p=p'
   ·subst hp
    rw [as1 I (.tup h t) (.tup h' t') ok];exact SeqAt.EqAt.same _
   ·rw [okD] at ok
    rw [dpD] at hu;rw [eqD];exact SeqAt.EqAt.of_refs hp (aw3 I h t h' t' ⋯ λr1 r2 j h1 h2=>Z8 (A:=A.in1) I t t' ok r1 r2 (by show A.units+1+_<_;omega) j h1 h2)
  | lst _ _=>simp [okD] at ok
 | _,_,_,_,u,v,A,.lst (p:=p) h t,b,ok,r,r',hu=>by
  cases b with
  | v _=>simp [okD] at ok
  | tup _ _=>simp [okD] at ok
  | @lst p' _ _ h' t' =>
   cases (show u=Value.ref p from r)
   cases (show v=Value.ref p' from r')
   by_cases hp:p=p'
   ·subst hp
    rw [as1 I (.lst h t) (.lst h' t') ok];exact SeqAt.EqAt.same _
   ·rw [okD] at ok
    rw [dpD] at hu;rw [eqD];exact SeqAt.EqAt.of_refs hp (aw4 I h t h' t' ⋯ λr1 r2 j h1 h2=>Z8 (A:=A.in1) I t t' ok r1 r2 (by show A.units+1+_<_;omega) j h1 h2)
theorem Z8 (I:Inv X pins σ H s):∀ {xs ys:List V} {ds ds':List D} {us vs:List Value} {A:Around},Y3 X.K H xs ds->Y3 X.K H ys ds'->X8 ds ds'=true->m6 xs us->m6 ys vs->A.units+ad3 ds<cLine ->
  ∀ (j:Nat) (h1:j<us.length) (h2:j<vs.length),SeqAt.EqAt A s us[j] vs[j] (ad2 ds ds' j)
 | _,_,_,_,_,_,_,.nil,_,_,r,_,_=>λj h1 _=>by cases r;exact absurd h1 (Nat.not_lt_zero _)
 | _,_,_,_,_,_,A,.cons h t,b,ok,r,r',hu=>λj h1 h2=>by
  cases b with
  | nil=>cases r';exact absurd h2 (Nat.not_lt_zero _)
  | cons h' t' =>
   cases r with
   | cons r rs =>
    cases r' with
    | cons r' rs' =>
     rw [X8,j0t] at ok;rw [ad3] at hu
     cases j with
     | zero=>exact be3 I h h' ok.1 r r' ⋯
     | succ j=>exact Z8 I t t' ok.2 rs rs' ⋯ j (by simpa using h1) (by simpa using h2)
end
def D.isV:D->Bool
 | .v _=>true
 | _=>false
def bf8 (K:q0a):R2:=λx y H Q => ∃ d d',d.isV=false/\IsD K H x d/\IsD K H y d'/\okD d d'=true/\dpD d<=60/\Q (.bl (eqD d d')) H
theorem aq7 (hu:X.A.units+64<cLine):OpR X (compareOp .Eq) (bf8 X.K):=by
 intro pins s σ H x y v u Q I rx ry h;obtain ⟨d,d',nf,h1,h2,ok,dp,q⟩:=h;have fin:EP X pins σ Q (.bool (eqD d d')) s:=⟨.bl _,H,I,rfl,q⟩
 cases h1 with
 | v f =>
  cases h2 with
  | v f'=>exact absurd (show true=false from nf) (by decide)
  | tup _ _=>simp [okD] at ok
  | lst _ _=>simp [okD] at ok
 | @tup p xs ds h t =>
  cases h2 with
  | v f'=>simp [okD] at ok
  | @tup p' ys ds' h' t' =>
   cases (show v=Value.ref p from rx)
   cases (show u=Value.ref p' from ry)
   rw [okD] at ok;rw [dpD] at dp;rw [eqD] at fin;exact aw3 I h t h' t' ⋯ (λr1 r2 j h1 h2=>Z8 (A:=X.A.in1) I t t' ok r1 r2 (by show X.A.units+1+_<_;omega) j h1 h2) X.prog X.w X.xe _ fin
  | lst _ _=>simp [okD] at ok
 | @lst p xs ds h t =>
  cases h2 with
  | v f'=>simp [okD] at ok
  | tup _ _=>simp [okD] at ok
  | @lst p' ys ds' h' t' =>
   cases (show v=Value.ref p from rx)
   cases (show u=Value.ref p' from ry)
   rw [okD] at ok;rw [dpD] at dp;rw [eqD] at fin;exact aw4 I h t h' t' ⋯ (λr1 r2 j h1 h2=>Z8 (A:=X.A.in1) I t t' ok r1 r2 (by show X.A.units+1+_<_;omega) j h1 h2) X.prog X.w X.xe _ fin
end
open PySem PySem.Spec PyProof.Rows
section
variable {X:Cx}
def U8:V->List V->Hp->VK->Prop:=λx vs H Q => ∃ i,x=.int i/\vs=[]/\Q (.int (Builtin.Int.intBits i)) H
theorem aw8:MtM X "int.bit_length" U8:=by
 intro pins s σ H x vs v us Q I rx rv h;obtain ⟨i,rfl,rfl,q⟩:=h;obtain ⟨t,rfl⟩:=rx
 cases m6.zero rv
 exact call_int_bit_length ⟨.int _,H,I.tok _,⟨_,rfl⟩,q⟩
theorem ax8 {x:V}:∀ {xs:List V} {us:List Value},m6 xs us->xs.all T2=true->us.countP (eqU x)=xs.countP λy=>eqV y x
 | _,_,.nil,_=>rfl
 | y :: xs,u :: us,.cons r t,f=>by
  rw [g0d,j0t] at f;rw [y0n,y0n,aJ1 r f.1,ax8 t f.2]
def ab9:V->List V->Hp->VK->Prop:=λx vs H Q => ∃ l xs y,x=.ref l/\vs=[y]/\H l=some (.lst xs)/\T2 y=true/\xs.all T2=true/\Q (.int (xs.countP λz=>eqV z y)) H
theorem R9:MtM X "list.count" ab9:=by
 intro pins s σ H x vs v us Q I rx rv h;obtain ⟨l,xs,y,rfl,rfl,hH,fy,fx,q⟩:=h
 cases rx
 obtain ⟨u,rfl,ru⟩:=rv.one;obtain ⟨z,its,n,r,hl,e⟩:=I.lstM hH;refine call_meets F.slot_list_count ⟨_,e,rfl⟩ F.entry_list_count (F.args_list_count_2 _ _) (SeqAt.list_countAt l its.toArray n none #[] u (eqU y)) ⟨e,λw hw=>ar4 ru fy r fx w (by simpa using hw),?_⟩
 refine ⟨.int _,H,I.tok _,⟨_,rfl⟩,?_⟩;rw [show its.toArray.toList=its from rfl,ax8 r fx];exact q
theorem aN0 {y:V} {xs:List V} {us:List Value} (r:m6 xs us) (f:xs.all T2=true) (j:Nat) (hj:j<us.length) (hx:j<xs.length):eqU y us[j]=eqV xs[j] y:=by
 obtain ⟨u,e1,e2⟩:=r.get (q0c hx);have e3:us[j]=u:=by rw [q0c hj] at e1;exact Option.some.inj e1
 rw [e3];exact aJ1 e2 (g0k.mp f _ (g0m hx))
def ab8:V->List V->Hp->VK->Prop:=λx vs H Q => ∃ l xs y j,x=.ref l/\vs=[y]/\H l=some (.lst xs)/\T2 y=true/\xs.all T2=true/\(xs.findIdx? λz=>eqV z y)=some j/\Q (.int (j:Nat)) H
theorem aU5:MtM X "list.index" ab8:=by
  intro pins s σ H x vs v us Q I rx rv h;obtain ⟨l,xs,y,j,rfl,rfl,hH,fy,fx,hi,q⟩:=h
  cases rx
  obtain ⟨u,rfl,ru⟩:=rv.one;obtain ⟨z,its,n,r,hl,e⟩:=I.lstM hH;obtain ⟨hj,h1,h2⟩:=List.findIdx?_eq_some_iff_getElem.mp hi;have hz:xs.length<2 ^ 63:=Nat.lt_of_le_of_lt z al1
  refine call_meets F.slot_list_index ⟨_, e, rfl⟩ F.entry_list_index (F.args_list_index_2 _ _) (SeqAt.list_indexAt l its.toArray n none #[] u (eqU y) j (by simpa [← hl] using hj) (by have : (xs.length : Int) < 2 ^ 63 := by exact_mod_cast hz
                                                                                                                                                                                       omega) ?_ ?_) ⟨e,λw hw=>ar4 ru fy r fx w (by simpa using hw),?_⟩
  · rw [show its.toArray[j]'(by simpa [<- hl] using hj)=its[j]'(by rw [<- hl];exact hj) from rfl,aN0 r fx j _ hj];exact h1
  · intro m hm hlt
    have hm':m<its.length:=by simpa using hm
    rw [show its.toArray[m]'hm=its[m]'hm' from rfl,aN0 r fx m _ (by rw [hl];exact hm')]
    have:=h2 m hlt
    simpa using this
  · exact ⟨.int _,H,I.tok _,⟨_,rfl⟩,q⟩
theorem av5:∀ (t:Nat) (ps:List Str),m6 (ps.map V.str) (strsFrom t ps)
 | _,[]=>.nil
 | t,p :: ps=>.cons ⟨_,rfl⟩ (av5 (t+1) ps)
def ae4 (x y:Str):List Str:=Builtin.Str.partsBetween x (Builtin.Str.occurrences x y 0 x.length (x.length+1)) y.length
def ab7:V->List V->Hp->VK->Prop:=λv vs H Q => ∃ x y,v=.str x/\vs=[.str y]/\(decide (x.length<y.length) || decide (Builtin.Str.strKind x<Builtin.Str.strKind y))=false/\(y.length == 0)=false /\
 (Builtin.Str.occurrences x y 0 x.length (x.length+1)).isEmpty=false/\x.length<=sizeLine/\(ae4 x y).length<=sizeLine/\∀ l,H l=none->Q (.ref l) (upd H l (.lst ((ae4 x y).map V.str)))
theorem aU4:MtM X "str.split" ab7:=by
 intro pins s σ H x vs v us Q I rx rv h;obtain ⟨x',y,rfl,rfl,h1,h2,h3,h4,h5,q⟩:=h;obtain ⟨t,rfl⟩:=rx;obtain ⟨u,rfl,t',rfl⟩:=rv.one;refine call_meets F.slot_str_split rfl F.entry_str_split (F.args_str_split_2 _ _) (meets_str_split_sep x' y t t' h1 h2 h3 h4 h5) ?_;exact ⟨.ref _,_,I.lnew (ys:=(ae4 x' y).map V.str) (av5 _ _) (by rw [q0b];exact h5),rfl,q _ I.fresh⟩
end
open PySem PySem.Spec PyProof.Rows
structure Df (K:q0a) (mg:Str->Option Value) (x:Str) (st:Stmt) (ps:List Str) (f:Addr):Prop where
 ex:∃ fd,Fun K x x st f fd/\ae1 K fd ps []
 m:mg x=some (.ref f)
structure Def (P:Program) (w:World) (K:q0a) (mg:Str->Option Value) (base:Heap) (CX:CXT) (k:Nat) (x:Str) (f:Addr) (ps:List Str) (sp:Sp):Prop where
 ex:∃ fd,aj5 P w K mg base CX k f fd ps sp/\ae1 K fd ps []
 m:mg x=some (.ref f)
 kp:y0f K (.ref f)=true
structure aX6 (P:Program) (w:World) (K:q0a) (mg:Str->Option Value) (base:Heap) (k:Nat) (x:Str) (f:Addr) (ps:List Str) (sp:Sp):Prop where
 ex:∃ fd,aO0 P w K mg base k f fd ps sp/\ae1 K fd ps []
 m:mg x=some (.ref f)
 kp:y0f K (.ref f)=true
section
variable {P:Program} {w:World} {K:q0a} {mg:Str->Option Value} {base:Heap} {k:Nat} {x:Str} {f:Addr} {ps N:List Str} {sp:Sp} {st:Stmt} {CX:CXT}
theorem Df.ok (d:Df K mg x st ps f) (S:j1 N ps (b9 st)) (len:∀ vs H Q E,sp vs H Q E->vs.length=ps.length)
  (hbody:∀ (cdv:Value) (A:Around) (outer:List Env) (s:Shared) (H:Hp) (vs:List V) (Q:VK) (E:XK),T5 k (A.deeper (envOfC x (b9 st) s.heap.objs.size f cdv))->sp vs H Q E ->
   ∃ t,PSs (ad4 CX0 P w K mg base N x (b9 st) f cdv A outer s H E).nox (M5 st) t/\t { nx:=λ_ H'=>Q .non H',rt:=Q } (start N vs) H):Def P w K mg base CX0 (k+1) x f ps sp:=by
 obtain ⟨fd,F,b⟩:=d.ex;exact ⟨⟨fd,F.ok S len hbody,b⟩,d.m,F.kp⟩
theorem Df.okR (d:Df K mg x st ps f) (S:j1 N ps (b9 st)) (len:∀ vs H Q E,sp vs H Q E->vs.length=ps.length)
  (hbody:∀ (cdv:Value) (A:Around) (outer:List Env) (s:Shared) (H:Hp) (vs:List V) (Q:VK) (E:XK),T5 k (A.deeper (envOfC x (b9 st) s.heap.objs.size f cdv))->sp vs H Q E ->
   ∃ t,PSs (cxR P w K mg base N x (b9 st) f cdv A outer s H E) (M5 st) t/\t { nx:=λ_ H'=>Q .non H',rt:=Q } (start N vs) H):Def P w K mg base (CXR P w) (k+1) x f ps sp:=by
 obtain ⟨fd,F,b⟩:=d.ex;have kp:=F.kp;obtain ⟨oc,od,kV,doc,pm,an,cdv,ct,osl,rfl,lk,hcd⟩:=F.ex;exact ⟨⟨_,bb7 lk hcd S len λA outer s H vs Q E hr hsp=>hbody cdv A outer s H vs Q E hr hsp,b⟩,d.m,kp⟩
theorem Df.okX (d:Df K mg x st ps f) (S:j1 N ps (b9 st)) (len:∀ vs H Q E,sp vs H Q E->vs.length=ps.length)
  (hbody:∀ (cdv:Value) (A:Around) (outer:List Env) (s:Shared) (H:Hp) (vs:List V) (Q:VK) (E:XK),N0 k (A.deeper (envOfC x (b9 st) s.heap.objs.size f cdv))->sp vs H Q E ->
   ∃ t,PSs (cxX P w K mg base N x (b9 st) f cdv A outer s H E) (M5 st) t/\t { nx:=λ_ H'=>Q .non H',rt:=Q } (start N vs) H):aX6 P w K mg base (k+1) x f ps sp:=by
 obtain ⟨fd,F,b⟩:=d.ex;exact ⟨⟨fd,F.okX S len hbody,b⟩,d.m,F.kp⟩
end
section
variable {X:Cx} {CX:CXT} {k j:Nat} {f:Addr} {ps:List Str} {sp:Sp} {E:XK} {x:Str} {p pos:Pos} {e:Expr} {es:List Expr} {t:TA}
def at5 (sp:Sp) (E:XK) (t:TA):TE:=λσ H Q=>t σ H λvs H1=>sp vs H1 Q E
theorem d6 (d : Def X.prog X.w X.K X.mg X.base CX j x f ps sp) (hr : T5 k X.A) (ha : PA X (e :: es) t) (hx : al7 CX X E) (hj : j ≤ k := by decide) (hg : Gl X x := by rfl)
    (hdb:(x == ("__debug__" : Str))=false:=by decide) (he:starEach (e :: es) X.env=(false,eval e X.env) :: starEach es X.env:=by rfl) (hpl:(backTo pos (starEach es X.env)).any (·.1)=false:=by rfl) :
    PE X (.Call (.Name x p) (e :: es) [] pos) (at5 sp E t):=by
  obtain ⟨fd,F,b⟩:=d.ex;have z:=aY4 (E:=E) (es:=es) (e:=e) (p:=p) (pos:=pos) (F.mono hj) hr hg d.m d.kp b .nil hx ha hdb he hpl;intro pins s σ H Q I h;refine z pins s σ H Q I ?_;unfold ba9
  simpa only [List.append_nil,at5] using h
theorem aM1 (d : aX6 X.prog X.w X.K X.mg X.base j x f ps sp) (hr : N0 k X.A) (ha : PA X (e :: es) t) (hj : j ≤ k := by decide) (hg : Gl X x := by rfl)
    (hdb:(x == ("__debug__" : Str))=false:=by decide) (he:starEach (e :: es) X.env=(false,eval e X.env) :: starEach es X.env:=by rfl) (hpl:(backTo pos (starEach es X.env)).any (·.1)=false:=by rfl) :
    PE X (.Call (.Name x p) (e :: es) [] pos) (Y6 sp t):=by
  obtain ⟨fd,F,b⟩:=d.ex;exact aT3 F (hr.mono hj) hg d.m d.kp b ha hdb he hpl
end
theorem c5.new {H:Hp} {p:Addr} (h:H p=none) (o:HO):c5 H (upd H p o):=λb u q=>by rw [c8 (c7 q h)];exact q
theorem c5.tup {K:q0a} {H H':Hp} {a:Addr} {xs:List V} (e:c5 H H') (h:SqT K H a xs):SqT K H' a xs:=by
 rcases h with h | h
 ·rcases h with h | ⟨o,h⟩
  ·exact .inl (.inl (e _ _ h))
  ·exact .inl (.inr ⟨o,e _ _ h⟩)
 ·exact .inr h
open PySem PySem.Spec PyProof.Rows
section
variable {prog:Program} {w:World} {A:Around} {R:Result->Shared->Prop} {s:Shared}
theorem ae7 {elt target iter:Expr} {scope:Scope} {pos:Pos} {it acc:Value} {env:Env} (I:Nat->Shared->Prop)
  (turn:∀ n s,I n s->wpAny (model prog w) A (pyNext it) (λr s₁=>match r with
   | none=>R (.ok .next) s₁
   | some v=>wpAny (model prog w) A (letOwnedTupleGo target it v) (λ_ s₁'=>wpAny (model prog w) A (assign target env v) (λ_ s₂=>wpAny (model prog w) A (eval elt env) (λx s₃ =>
     wpAny (model prog w) A (call (.builtin "list.append") [acc,x]) (λ_ s₄ => ∃ m,m<n/\I m s₄) (λ_ _=>False) s₃)
     (λ_ _=>False) s₂) (λ_ _=>False) s₁') (λ_ _=>False) s₁) (λ_ _=>False) s)
  (n:Nat) (h:I n s) :
  codeAny (model prog w) A (.compLoop (.ListComp elt [⟨target,iter,[],0⟩] scope pos) 0 it acc env) R s:=by
 refine codeAny_loop rfl I (λn s hI=>?_) n h
 show wpAny _ _ ((compTurn (.ListComp elt [⟨target,iter,[],0⟩] scope pos) 0 it acc env).onRaise (λx=>do noteFrame x env;theTreesLotGoes x)) _ _ s
 refine wpAny_noted ?_;rw [compTurn_list1];have no:∀ {P:Value->Shared->Prop} (e:Value) (s:Shared),False->P e s:=λ_ _ h=>h.elim;refine wpAny_bind (wpAny_standAt (wpAny_bind (wpAny_mono (turn n s hI) (λr s₁ h₁=>?_) no)))
 cases r with
 | none=>exact wpAny_pure h₁
 | some v =>
  refine wpAny_bind (wpAny_mono h₁ (λ_ s₁' h₁'=>?_) no)
  exact wpAny_bind (wpAny_mono h₁' (λ_ s₂ h₂=>wpAny_bind (wpAny_bind (wpAny_mono h₂ (λx s₃ h₃=>wpAny_bind (wpAny_mono h₃
   (λ_ s₄ h₄=>wpAny_pure (wpAny_pure ⟨rfl,h₄⟩)) no)) no))) no)
end
abbrev Cx.block (X:Cx) (scope:Scope) (cl:List (Str × Addr)) (C:Addr) (Nc:List Str) (s₂:Shared) (H₂:Hp) (fp:List Addr) (pins:List (Addr × Obj)):Cx :=
 { X with N:=Nc,s₀:=s₂,H₀:=H₂,env:=compEnvC scope cl C X.env,outer:=X.stack,ex:=fp,fn:=λ_=>false,pn:=X.pn ++ pins,xe:=λ_ _=>False }
def A5 (caps:List (Option Nat)) (σ:St):St:=caps.map λo=>o.bind λj=>(σ[j]?).join
def aC9 (wi:TI) (caps:List (Option Nat)) (g:TG) (te:TE):TE:=λσ H Q=>wi σ H λJ H1 => ∀ D,H1 D=none->∃ W:Nat->Nat->St->Hp->Prop,(∃ m,W 0 m (A5 caps σ) (upd H1 D (.lst []))) /\
 ∀ i m σc H2,W i m σc H2->(J.stop i H2/\Q (.ref D) H2) \/
  (J.go i H2/\∀ x H3,J.yld i H2 x H3->g x σc H3 λσ4 H4=>te σ4 H4 λy H5 => ∃ ys,H5 D=some (.lst ys)/\ys.length<sizeLine/\∃ m',m'<m/\W (i+1) m' σ4 (upd H5 D (.lst (ys ++ [y]))))
section
variable {X:Cx}
structure J3 (X:Cx) (scope:Scope) (cl:List (Str × Addr)) (Nc:List Str) (caps:List (Option Nat)):Prop where
 clos:closureFor scope X.env=pure cl
 sub:∀ x c,cl.lookup x=some c->X.env.cells.lookup x=some c
 has:∀ x,(relabel scope X.env).names.lookup x=some .cell \/ (relabel scope X.env).names.lookup x=some .free->∃ c,cl.lookup x=some c
 nocell:∀ x ∈ scope.names,x.2 ≠ .cell
 kind:scope.kind=.function
 names:∀ x ∈ scope.names,x.2=.local->scope.names.lookup x.1=some .local
 len:caps.length=Nc.length
 cap:∀ (i j:Nat) (x:Str),caps[i]? = some (some j)->Nc[i]? = some x->X.N[j]? = some x/\Vis X.env.scope x/\X.env.kindOf x ≠ some .local/\((relabel scope X.env).names.lookup x=some .cell \/ (relabel scope X.env).names.lookup x=some .free)
theorem Inv.sameC {pins:List (Addr × Obj)} {σ:St} {H H':Hp} {s s':Shared} {h'':Heap} {fp:List Addr} {C:Addr} (I:Inv X pins σ H s) (hf:∀ b ∈ fp,aa2 X pins H b) (os:s'.os=s.os) (bare:AllBare s'.gens)
  (un:Un (frs X.stack) fp H H' s.heap s'.heap) (hok:HOk X.prog X.w H' s'.heap) (hC:s.heap.objs.size<=C) (hCn:H' C=none) (sb:u0r C s'.heap h''):Inv X pins σ H' { s' with heap:=h'' }:=by
 have ne:∀ b o,s.heap.get? b=some o->b ≠ C:=λb o e=>q0q (q0d (q0g e) hC);refine I.call' (s':={ s' with heap:=h'' }) (ch:=fp) os ⟨λb o e n h1 h2=>(sb.2 b (ne b o e)).trans (un.keep b o e n h1 h2),λb o e n h1 h2=>?_,un.free,λb o e h2=>?_,un.tups,un.frzs,un.tbls⟩ (λb u e=>?_) bare (λb hb=>?_)
 ·obtain ⟨sl,z⟩:=un.slot b o e n h1 h2
  exact ⟨sl,(sb.2 b (ne b o e)).trans z⟩
 ·obtain ⟨o',z⟩:=un.there b o e h2
  exact ⟨o',(sb.2 b (ne b o e)).trans z⟩
 ·refine (hok b u e).stay (λc v hc q=>(sb.2 c ?_).trans q) (λ_ q=>q) λ_ _ q=>q
  rintro rfl;rcases hc with rfl | hc
  ·rw [hCn] at e;cases e
  ·rw [hCn] at hc;cases hc
 ·obtain ⟨_,f1,_,f3,f4,f5⟩:=hf b hb
  exact ⟨f3,f1,f4,f5⟩
theorem w8 {elt tg iter:Expr} {scope:Scope} {pos:Pos} {cl:List (Str × Addr)} {Nc:List Str} {caps:List (Option Nat)} {wi:TI} {g:TG} {te:TE} (hc:X.calm=true) (cp:J3 X scope cl Nc caps) (hi:PI X tg iter wi)
  (hg:∀ C s₂ H₂ fp pins,PG (X.block scope cl C Nc s₂ H₂ fp pins) tg g) (he:∀ C s₂ H₂ fp pins,PE (X.block scope cl C Nc s₂ H₂ fp pins) elt te) (hs:∀ x,foldedSetIterable iter X.env x=pure x:=by intro _;rfl) :
  PE X (.ListComp elt [⟨tg,iter,[],0⟩] scope pos) (aC9 wi caps g te):=by
 intro pins s σ H Q I h;rw [eval_ListComp];refine wpAny_comprehension_free (use:=none) rfl hs cp.clos cp.kind cp.names ?_;refine thn (hi pins s σ H _ I h) λv s1 h1=>thn h1 λitv s2 h2=>?_;obtain ⟨it,fp,tn,J,H2,e,I2,T,st2,f2,hW⟩:=h2;subst e;refine wpAny_newObj_type ?_ (by show 0<=sizeLine;exact z0f _)
 refine wpAny_newFunctionEnv cp.nocell (by intro y hy;simp at hy) (λh4 hns hsb=>?_) cp.kind
 dsimp only at hns hsb ⊢
 generalize hH3:s2.heap.push { cls:=.type "list",dict:=none,data:=.seq ([]:List Value).toArray }=H3 at hns hsb ⊢
 have hCe:H3.objs.size=s2.heap.objs.size+1:=by rw [<- hH3,j0n]
 have M8:∀ b o,s2.heap.get? b=some o->b ≠ H3.objs.size:=λb o e=>by rw [hCe];exact q0q (v0d (q0g e))
 have old:∀ b o,s2.heap.get? b=some o->h4.get? b=some o:=λb o e=>hsb.extBut b o (M8 b o e) (q0n _ (hH3 ▸ q0n _ e))
 have hD:h4.get? s2.heap.objs.size=some { cls:=.type "list",dict:=none,data:=.seq ([]:List Value).toArray } :=
  hsb.extBut _ _ (by rw [hCe];exact q0q (j0j _)) (q0n _ (hH3 ▸ z0x _ rfl))
 have hDn:H2 s2.heap.objs.size=none:=I2.fresh;have hCn:H2 H3.objs.size=none:=I2.hok.fresh (by rw [hCe];exact j0r _)
 have hCs:s2.heap.objs.size<=H3.objs.size:=by rw [hCe];exact j0r _
 have hDC:s2.heap.objs.size ≠ H3.objs.size:=by rw [hCe];exact q0q (j0j _)
 have fpl:∀ b ∈ fp,∃ o,s2.heap.get? b=some o:=λb hb=>let ⟨o,e,_⟩:=T.obj _ _ st2 b hb;⟨o,e⟩;have fpC:∀ b ∈ fp,b ≠ H3.objs.size:=λb hb=>let ⟨o,e⟩:=fpl b hb;M8 b o e;have fpD:∀ b ∈ fp,b ≠ s2.heap.objs.size:=λb hb=>let ⟨o,e⟩:=fpl b hb;q0q (q0g e);have stkN:∀ b,b ≠ X.env.locals->b ∉ X.fs->b ∉ frs X.stack:=λb h1 h2 z=>(z0n.mp (I2.stkSub b z)).elim h1 h2;obtain ⟨W,⟨m0,w0⟩,turn⟩:=hW s2.heap.objs.size hDn
 have okB:(X.block scope cl H3.objs.size Nc s2 H2 fp pins).Ok:=by
  refine ⟨I2.ok.mod,?_,I2.ok.glob,I2.ok.blt,hCs,λx y c h1 h2=>I2.ok.inj x y c (cp.sub x c h1) (cp.sub y c h2),λx hx=>cp.has x hx,λx c h=>(by cases h),I2.ok.hd,I2.ok.frames,.inl rfl,λb hb=>⟨fpC b hb,λx c h=>(f2 b hb).2.2.2.2.1 x c (cp.sub x c h)⟩,I2.bs,q0p I2.ok.bsz I2.sz,λb o e hb=>?_,λb hb=>stkN b (f2 b hb).2.1 (f2 b hb).2.2.1,I2.stack,I2.stkFree⟩
  ·exact cp.kind
  ·rcases (f2 b hb).2.2.2.1 with z | z
   ·exact I2.ok.noex b o e z
   ·exact absurd (q0d (q0g e) (q0p I2.ok.bsz z)) (j0y _)
 have hokB:HOk X.prog X.w (upd H2 s2.heap.objs.size (.lst [])) h4:=I2.hok.laid old (q0k _) ⟨z0f _,[],_,.nil,hD⟩
 have IB:Inv (X.block scope cl H3.objs.size Nc s2 H2 fp pins) [] (A5 caps σ) (upd H2 s2.heap.objs.size (.lst [])) { s2 with heap:=h4,toks:=s2.toks+([]:List (Str × Value)).length }:=by
  refine ⟨okB,rfl,I2.bare,Un.laid old (q0k _) hDn,⟨_,hns,λi x v e1 e2 e3=>?_⟩,λx c e=>?_,(show upd H2 s2.heap.objs.size (.lst []) H3.objs.size=none by rw [c8 (Ne.symm hDC)];exact hCn),λx c e=>?_,λp hp=>?_,hokB,?_⟩
  ·unfold A5 at e2
   rw [q0f] at e2
   cases hcap:caps[i]? with
   | none=>rw [hcap] at e2;cases e2
   | some o =>
    rw [hcap] at e2
    cases o with
    | none=>cases e2
    | some j =>
     have hj:σ[j]? = some (some v):=by
      have e2':(σ[j]?).join=some v:=Option.some.inj e2
      cases q:σ[j]? with
      | none=>rw [q] at e2';cases e2'
      | some z=>rw [q] at e2';exact congrArg some e2'
     obtain ⟨n1,n2,n3,n4⟩:=cp.cap i j x hcap e1;obtain ⟨m,hm,hl⟩:=I2.loc;obtain ⟨u,r,q⟩:=hl j x v n1 hj n2;rcases q with ⟨k,_⟩ | ⟨k,c,ec,z⟩
     ·exact absurd k n3
     ·obtain ⟨c',ec'⟩:=cp.has x n4
      have:=cp.sub x c' ec';rw [ec] at this;cases this;obtain ⟨oc,ho,hd⟩:=z;exact ⟨u,r,.inr ⟨n4,c,ec',oc,old _ _ ho,hd⟩⟩
  ·obtain ⟨v,oc,ho,hd⟩:=I2.cell x c (cp.sub x c e)
   exact ⟨v,oc,old _ _ ho,hd⟩
  ·obtain ⟨v,oc,ho,hd⟩:=I2.cell x c (cp.sub x c e)
   rw [c8 (q0q (q0g ho))];exact I2.freeC x c (cp.sub x c e)
  ·have hp':p ∈ X.pn ++ pins:=by simpa using hp
   obtain ⟨e1,e2,e3,e4,e5⟩:=I2.pin p hp';exact ⟨old _ _ e1,by rw [c8 (q0q (q0g e1))];exact e2,M8 _ _ e1,stkN _ e3 e4,e5⟩
  ·show (A5 caps σ).length=Nc.length
   unfold A5;rw [q0b];exact cp.len
 have stat:∀ {H':Hp},(∀ b ∈ fp,H' b=none)->∀ b ∈ fp,aa2 (X.block scope cl H3.objs.size Nc s2 H2 fp pins) [] H' b:=λhn b hb =>
  ⟨hn b hb,fpC b hb,stkN b (f2 b hb).2.1 (f2 b hb).2.2.1,.inl hb,λx c h=>(f2 b hb).2.2.2.2.1 x c (cp.sub x c h),λp hp=>(f2 b hb).2.2.2.2.2 p (by simpa using hp)⟩
 have loop:∀ s5:Shared,s5={ s2 with heap:=h4,toks:=s2.toks+([]:List (Str × Value)).length } ->
   codeAny (model X.prog X.w) X.A (.compLoop (.ListComp elt [⟨tg,iter,[],0⟩] scope pos) 0 (.ref it) (.ref s2.heap.objs.size) (compEnvC scope cl H3.objs.size X.env))
    (compPost (model X.prog X.w) X.A X.xe none (EP X pins σ Q) (.ref s2.heap.objs.size) H3.objs.size) s5:=by
  rintro s5 rfl;refine ae7 (λn s' => ∃ i σ' H',Inv (X.block scope cl H3.objs.size Nc s2 H2 fp pins) [] σ' H' s'/\tn i s'.heap/\(∀ b ∈ fp,H' b=none)/\W i n σ' H') ?_ m0 ⟨0,_,_,IB,T.keep _ _ _ st2 λb hb o e=>old b o e,λb hb=>by rw [c8 (fpD b hb)];exact (f2 b hb).1,w0⟩
  rintro n s6 ⟨i,σ6,H6,I6,st6,fr6,w6⟩;rcases turn i n σ6 H6 w6 with ⟨stop,qn⟩ | ⟨go,step⟩
  ·refine thn (T.done (X.block scope cl H3.objs.size Nc s2 H2 fp pins) rfl rfl rfl hc i [] s6 σ6 H6 _ I6 (stat fr6) st6 stop) λr s7 zq=>?_
   obtain ⟨hr,I7⟩:=zq;subst hr;obtain ⟨m7,hn7,_⟩:=id I7.loc;exact ⟨m7,hn7,λh' sb=>⟨.ref s2.heap.objs.size,H6,I2.sameC f2 I7.os I7.bare I7.base I7.hok hCs I7.free sb,rfl,qn⟩⟩
  ·refine thn (T.item (X.block scope cl H3.objs.size Nc s2 H2 fp pins) rfl rfl rfl hc i [] s6 σ6 H6 _ I6 (stat fr6) st6 go) λr s7 zq=>?_
   obtain ⟨u,hr,h7⟩:=zq;subst hr;refine thn h7 λ_ s8 zq=>?_;obtain ⟨x,H8,I8,r8,y8,st8,fr8⟩:=zq;have I8':=I8.pinned (stat fr8) (T.obj _ _ st8);refine thn (hg _ _ _ _ _ _ s8 σ6 H8 x u _ I8' r8 (step x H8 y8)) λ_ s9 zq=>?_;obtain ⟨σ9,H9,I9,q9⟩:=zq;refine thn (he _ _ _ _ _ _ s9 σ9 H9 _ I9 q9) λu10 s10 zq=>?_;obtain ⟨v10,H10,I10,r10,ys,hys,hlen,m',hm',w'⟩:=zq;refine thn (B9 _ s10 σ9 H10 (.ref s2.heap.objs.size) [v10] (.ref s2.heap.objs.size) [u10] (λ_ H11=>H11=upd H10 s2.heap.objs.size (.lst (ys ++ [v10]))) I10 rfl (.cons r10 .nil) ⟨_,ys,v10,rfl,rfl,hys,hlen,rfl⟩) λ_ s11 zq=>?_;obtain ⟨_,H11,I11,_,hH11⟩:=zq;subst hH11;refine ⟨m',hm',i+1,σ9,_,I11.unpinned,T.keep _ _ _ st8 λb hb o e=>(I11.pin (b,o) (q0e _ (q0e _ (m3 hb e)))).1,λb hb=>?_,w'⟩;obtain ⟨o,e,d⟩:=T.obj _ _ st8 b hb;exact (I11.pin (b,o) (q0e _ (q0e _ (m3 hb e)))).2.1
 exact codeAny_compStart_list (loop _ rfl) (T.self _ 0 _ _ _ (T.keep _ _ _ st2 λb hb o e=>old b o e) (loop _ rfl))
end
open PySem PySem.Spec PyProof.Rows
def O4 (scope osc:Scope):List (Str × NameKind):=scope.names.map λ(n,k)=>if (k == .free && osc.kind == .function && osc.names.lookup n == some .cell) then (n,.cell) else (n,k)
def aP9 (o:Option NameKind):Bool:=o == some .cell || o == some .free
def aW8 (scope osc:Scope) (N ks Nc:List Str) (caps:List (Option Nat)):Bool :=
 ((O4 scope osc).all λy => !(y.2 == .cell || y.2 == .free) || ks.contains y.1) && (scope.names.all λy=>y.2 != .cell) && scope.kind == .function &&
 (scope.names.all λy=>y.2 != .local || scope.names.lookup y.1 == some .local) && caps.length == Nc.length &&
 ((caps.zip Nc).all λp=>match p.1 with
  | none=>true
  | some j=>N[j]? == some p.2 && aP9 (osc.names.lookup p.2) && aP9 ((O4 scope osc).lookup p.2))
theorem ah0 {α β:Type} [BEq α] [LawfulBEq α]:∀ {l:List (α × β)} {x:α} {v:β},l.lookup x=some v->(x,v) ∈ l
 | [],_,_,h=>by simp at h
 | (a,b) :: r,x,v,h=>by
  rw [y0v] at h
  split at h
  ·rename_i e
   have:=eq_of_beq e;subst this
   cases h
   exact z0g
  ·exact q0z _ (ah0 h)
theorem N9 {β:Type}:∀ {l:List (Str × β)} {x:Str},x ∈ l.map (·.1)->∃ c,l.lookup x=some c
 | [],_,h=>by simp at h
 | (a,b) :: r,x,h=>by
  rw [y0v]
  by_cases e:x=a
  ·subst e;exact ⟨b,by simp⟩
  ·have:(x == a)=false:=by simpa using e
   rw [this];rcases z0n.mp h with z | z
   ·exact absurd z e
   ·exact N9 z
theorem ap8 {o:Option NameKind} (h:aP9 o=true):o=some .cell \/ o=some .free:=by
 unfold aP9 at h;simp only [g0z,beq_iff_eq] at h;exact h
theorem J3.of {X:Cx} {scope osc:Scope} {cl:List (Str × Addr)} {N ks Nc:List Str} {caps:List (Option Nat)} (clos:closureFor scope X.env=pure cl) (hN:X.N=N) (hosc:X.env.scope=osc) (hks:cl.map (·.1)=ks)
  (sub:∀ x c,cl.lookup x=some c->X.env.cells.lookup x=some c) (ok:aW8 scope osc N ks Nc caps=true):J3 X scope cl Nc caps:=by
 unfold aW8 at ok;simp only [j0t,g0k,beq_iff_eq,g0z,y0k,bne_iff_ne,ne_eq] at ok;obtain ⟨⟨⟨⟨⟨o1,o2⟩,o3⟩,o4⟩,o5⟩,o6⟩:=ok;have er:(relabel scope X.env).names=O4 scope osc:=by subst hosc;rfl
 have kof:∀ x,X.env.kindOf x=osc.names.lookup x:=λx=>by subst hosc;rfl
 refine ⟨clos,sub,λx h=>?_,λx hx=>o2 x hx,o3,λx hx hl=>?_,o5,λi j x h1 h2=>?_⟩
 ·rw [er] at h
  refine N9 ?_;rw [hks]
  have key:∀ k,(O4 scope osc).lookup x=some k->(k=.cell \/ k=.free)->x ∈ ks:=λk hk hcf=>by
   rcases o1 (x,k) (ah0 hk) with z | z
   ·rcases hcf with rfl | rfl <;> simp at z
   ·simpa using z
  rcases h with h | h
  ·exact key _ h (.inl rfl)
  ·exact key _ h (.inr rfl)
 ·rcases o4 x hx with z | z
  ·exact absurd hl z
  ·exact z
 ·have hm:(some j,x) ∈ caps.zip Nc:=by
   have:(caps.zip Nc)[i]? = some (some j,x):=by
    rw [g0g];exact ⟨h1,h2⟩
   exact q0j this
  have z:=o6 _ hm;simp only [j0t,beq_iff_eq] at z;obtain ⟨⟨z1,z2⟩,z3⟩:=z;have c2:=ap8 z2;have c3:=ap8 z3;refine ⟨by rw [hN];exact z1,?_,?_,?_⟩
  ·rw [hosc]
   rcases c2 with c | c
   ·exact .inr (.inl c)
   ·exact .inr (.inr c)
  ·rw [kof]
   rcases c2 with c | c <;> rw [c] <;> decide
  ·rw [er];exact c3
open PySem PySem.Spec PyProof.Rows
section
variable {X:Cx} {pins:List (Addr × Obj)} {σ:St} {H:Hp} {s:Shared}
theorem Inv.turnLaid {h':Heap} {t':Nat} {fp:List Addr} {a:Addr} {o:HO} (I:Inv X pins σ H s) (hf:∀ b ∈ fp,aa2 X pins H b)
  (k:∀ b u,b ∉ fp->s.heap.get? b=some u->h'.get? b=some u) (hp:s.heap.objs.size<=a) (new:C9 X.prog X.w (upd H a o) h' a o):Inv X pins σ (upd H a o) { s with heap:=h',toks:=t' }:=by
 have hn:H a=none:=I.hok.fresh hp;have nf:∀ b u,H b=some u->b ∉ fp:=λb u e z=>by rw [(hf b z).1] at e;cases e
 have ne:∀ b u,s.heap.get? b=some u->b ≠ a:=λb u e=>q0q (q0d (q0g e) hp)
 refine I.step (g':=s.gens) (d':=s.drawn) (ch:=fp) (λb hb=>?_) (λb o _ _ hc e _=>k b o hc e) (λb o _ _ hc e _=>⟨o.slots,k b o hc e⟩) (λb o _ e n=>by rw [c8 (ne b o e)];exact n)
  (λb o hc e=>⟨o,k b o hc e⟩) (λb xs e=>by rw [c8 (c7 e hn)];exact e) (λb o u e=>by rw [c8 (c7 e hn)];exact e) (λb ps e=>⟨#[],by rw [c8 (c7 e hn),e];simp⟩) (λm hm=>?_) (λb u e=>?_) I.bare
 ·obtain ⟨_,f1,_,f3,f4,f5⟩:=hf b hb
  exact ⟨f3,f1,f4,f5⟩
 ·obtain ⟨o,es,ep,ho,r⟩:=hm
  exact ⟨o,es,ep,k _ o (λz=>(hf _ z).2.1 rfl) ho,r⟩
 ·by_cases hb:b=a
  ·subst hb;rw [a9] at e;cases e;exact new
  ·rw [c8 hb] at e
   refine (I.hok b u e).stay (λc v hc q=>k c v ?_ q) (λc q=>by rw [c8 (c7 q hn)];exact q) λc xs q=>by rw [c8 (c7 q hn)];exact q
   rcases hc with z | z
   ·rw [z];exact nf b u e
   ·exact nf c _ z
end
def Ite (K:q0a) (a:Addr):It :=
 ⟨λi H => ∃ xs x,SqL K H a xs/\xs[i]? = some x,λi H y H' => ∀ xs,SqL K H a xs->∃ x p,xs[i]? = some x/\H p=none/\y=.ref p/\H'=upd H p (.tup [.int i,x]),λi H => ∃ xs,SqL K H a xs/\xs.length<=i⟩
theorem aO4 {P:Program} {w:World} {K:q0a} {elts:List Expr} {k:Nat} {tpos:Pos} (a e it:Addr) (hei:e ≠ it) :
  aX0 P w K (.Tuple elts k tpos) (Ite K a) [e,it] e (λi h=>(∃ old,IsEnum h e it ((i:Nat):Int) old)/\h.IsListIter it a i) where
 mem:=by simp
 obj:=λi h st b hb=>by
  obtain ⟨⟨old,he⟩,hit⟩:=st;rcases (by simpa using hb:b=e \/ b=it) with z | z
  ·subst z
   exact ⟨_,he,λv z=>by cases z⟩
  ·subst z
   obtain ⟨o,e,c,d⟩:=hit;exact ⟨o,e,λv z=>by rw [d] at z;cases z⟩
 keep:=λi h h' st k=>⟨let ⟨old,he⟩:=st.1;⟨old,k e (by simp) _ he⟩,st.2.at λo e=>k it (by simp) o e⟩
 item:=by
  intro X hP hw hK hc i pins s σ H E I hf st hg;subst hP hw hK;obtain ⟨xs,x,hq,hx⟩:=hg;obtain ⟨its,rv,p,hz⟩:=I.list hq;obtain ⟨u,hu,ru⟩:=rv.get hx;obtain ⟨⟨old,he⟩,hit⟩:=st;have helt:e<s.heap.objs.size:=q0g he;have hilt:it<s.heap.objs.size:=by obtain ⟨_,x,_⟩:=id hit;exact q0g x
  refine wpAny_pyNext_enum_item he hit p.isList (x:=u) (by simpa using hu) hei λh' ho hit' hT hsz kk=>?_
  refine ⟨_,rfl,?_⟩;refine wpAny_letOwnedTupleGo_enum (s:={ s with heap:=h',toks:=s.toks+1 }) ho λh'' he' sb=>?_;have hT':h''.get? s.heap.objs.size=some { cls:=.type "tuple",data:=.seq #[.int i s.toks,u] }:=(sb.2 _ (v0f helt)).trans hT
  refine ⟨.ref s.heap.objs.size,upd H s.heap.objs.size (.tup [.int i,x]),I.turnLaid (fp:=[e,it]) (t':=s.toks+1) hf (λb v hb q=>?_) (q0k _) ?_,rfl,?_,?_,λb hb=>?_⟩
  ·have h1:b ≠ e:=λz=>hb (by simp [z])
   have h2:b ≠ it:=λz=>hb (by simp [z])
   exact (sb.2 b h1).trans (kk b v h1 h2 q)
  ·exact ⟨(show 2<=sizeLine by decide +kernel),[.int i s.toks,u],.cons ⟨_,rfl⟩ (.cons ru .nil),_,hT',rfl,_,rfl⟩
  ·intro ys hy
   rw [I.list_inj hy hq];exact ⟨x,_,hx,I.fresh,rfl,rfl⟩
  ·refine ⟨⟨u,by have:=he';simpa using this⟩,hit'.at λo q=>(sb.2 it hei.symm).trans q⟩
  ·have hlt:b<s.heap.objs.size:=by
    rcases (by simpa using hb:b=e \/ b=it) with z | z
    ·rw [z];exact helt
    ·rw [z];exact hilt
   rw [c8 (q0q hlt)];exact (hf b hb).1
 done:=by
  intro X hP hw hK hc i pins s σ H E I hf st hg;subst hP hw hK;obtain ⟨xs,hq,hx⟩:=hg;obtain ⟨its,rv,p,hz⟩:=I.list hq;obtain ⟨⟨old,he⟩,hit⟩:=st;obtain ⟨f0,f1,f2,f3,f4,f5⟩:=hf it (by simp)
  have hl:=rv.length;exact wpAny_pyNext_enum_end (I.ok.hd hc) he hit p.isList (by simp;omega) λh' eb=>⟨rfl,I.turned (t':=s.toks) (λb o hb e=>eb b o hb e) f0 f1 f3 f4 f5⟩
 self:=λ_ _ _ _ _ st h=>by
  obtain ⟨⟨old,he⟩,_⟩:=st;exact wpAny_pyIter_enum he h
section
variable {X:Cx}
def an3 (K:q0a) (ta:TA):TI:=λσ H R=>ta σ H λvs H1 => ∃ a,vs=[.ref a]/\(∃ xs,SqL K H1 a xs)/\R (Ite K a) H1
theorem ap5 {elts:List Expr} {k:Nat} {tpos:Pos} {l:Expr} {ta:TA} {p pos:Pos} (hg:Gl X "enumerate") (hm:X.mg "enumerate" = none) (ha:PA X [l] ta) (hs:starEach [l] X.env=[(false,eval l X.env)]:=by rfl) :
  PI X (.Tuple elts k tpos) (.Call (.Name "enumerate" p) [l] [] pos) (an3 X.K ta):=by
 intro pins s σ H R I h;refine Call_ (ah1 I hg hm (u:=.type "enumerate") (by decide +kernel) (PyProof.Rows.callWith_type1 (thn (ha pos pins s σ H _ I h) λus s1 ⟨vs,H1,I1,r1,q1⟩=>?_) hs rfl))
 obtain ⟨a,e,⟨xs,hq⟩,q⟩:=q1;subst e;obtain ⟨u,rfl,rx⟩:=aq0 r1
 cases rx
 obtain ⟨its,rv,p,hz⟩:=I1.list hq;refine call_enumerate_list p.isList λh' he hit hsz kk=>?_;refine wpAny_pyIter_enum he ?_;have I2:Inv X pins σ H1 { s1 with heap:=h' }:=I1.kept (t':=s1.toks) kk;refine ⟨s1.heap.objs.size+1,[s1.heap.objs.size+1,s1.heap.objs.size],_,_,H1,rfl,I2,aO4 a _ _ (Nat.succ_ne_self _),⟨⟨_,he⟩,hit⟩,λb hb=>?_,q⟩
 have hb':s1.heap.objs.size<=b:=by
  rcases (by simpa using hb:b=s1.heap.objs.size+1 \/ b=s1.heap.objs.size) with z | z
  ·rw [z];exact j0r _
  ·rw [z];exact q0k _
 obtain ⟨f0,f1,f2,f3,f4,f5⟩:=I1.fpOk (H':=H1) hb' (I1.hok.fresh hb');exact ⟨f0,f1,f2,f3,f4,f5⟩
end
section
variable {prog:Program} {w:World} {A:Around} {R:Result->Shared->Prop} {s:Shared}
theorem aG3 {elt target iter c:Expr} {scope:Scope} {pos:Pos} {it acc:Value} {env:Env} (I:Nat->Shared->Prop)
  (turn:∀ n s,I n s->wpAny (model prog w) A (pyNext it) (λr s₁=>match r with
   | none=>R (.ok .next) s₁
   | some v=>wpAny (model prog w) A (letOwnedTupleGo target it v) (λ_ s₁'=>wpAny (model prog w) A (assign target env v) (λ_ s₂ =>
     wpAny (model prog w) A (isTrue c env (eval c env)) (λok s₂'=>if ok=true then wpAny (model prog w) A (eval elt env) (λx s₃ =>
     wpAny (model prog w) A (call (.builtin "list.append") [acc,x]) (λ_ s₄ => ∃ m,m<n/\I m s₄) (λ_ _=>False) s₃)
     (λ_ _=>False) s₂' else ∃ m,m<n/\I m s₂') (λ_ _=>False) s₂) (λ_ _=>False) s₁') (λ_ _=>False) s₁) (λ_ _=>False) s)
  (n:Nat) (h:I n s) :
  codeAny (model prog w) A (.compLoop (.ListComp elt [⟨target,iter,[c],0⟩] scope pos) 0 it acc env) R s:=by
 refine codeAny_loop rfl I (λn s hI=>?_) n h
 show wpAny _ _ ((compTurn (.ListComp elt [⟨target,iter,[c],0⟩] scope pos) 0 it acc env).onRaise (λx=>do noteFrame x env;theTreesLotGoes x)) _ _ s
 refine wpAny_noted ?_;rw [compTurn_list];have no:∀ {P:Value->Shared->Prop} (e:Value) (s:Shared),False->P e s:=λ_ _ h=>h.elim;refine wpAny_bind (wpAny_standAt (wpAny_bind (wpAny_mono (turn n s hI) (λr s₁ h₁=>?_) no)))
 cases r with
 | none=>exact wpAny_pure h₁
 | some v =>
  refine wpAny_bind (wpAny_mono h₁ (λ_ s₁' h₁'=>?_) no);refine wpAny_bind (wpAny_mono h₁' (λ_ s₂ h₂=>?_) no);refine wpAny_bind (wpAny_tests_one (wpAny_mono h₂ (λok s₂' h₂'=>?_) no))
  cases ok with
  | true =>
   rw [if_pos rfl] at h₂' ⊢;exact wpAny_bind (wpAny_bind (wpAny_mono h₂' (λx s₃ h₃=>wpAny_bind (wpAny_mono h₃ (λ_ s₄ h₄=>wpAny_pure (wpAny_pure ⟨rfl,h₄⟩)) no)) no))
  | false =>
   rw [if_neg (by decide)] at h₂' ⊢
   exact wpAny_pure ⟨rfl,h₂'⟩
end
def aK3 (wi:TI) (caps:List (Option Nat)) (g:TG) (tt:TT) (te:TE):TE:=λσ H Q=>wi σ H λJ H1 => ∀ D,H1 D=none->∃ W:Nat->Nat->St->Hp->Prop,(∃ m,W 0 m (A5 caps σ) (upd H1 D (.lst []))) /\
 ∀ i m σc H2,W i m σc H2->(J.stop i H2/\Q (.ref D) H2) \/
  (J.go i H2/\∀ x H3,J.yld i H2 x H3->g x σc H3 λσ4 H4=>tt σ4 H4 λb H4'=>if b=true then te σ4 H4' λy H5 => ∃ ys,H5 D=some (.lst ys)/\ys.length<sizeLine/\∃ m',m'<m/\W (i+1) m' σ4 (upd H5 D (.lst (ys ++ [y])))
   else ∃ m',m'<m/\W (i+1) m' σ4 H4')
open PySem PySem.Spec PyProof.Rows
section
variable {X:Cx}
theorem av2 (bs:List Bool):(z0e bs.length).all (λi=>(bs[i]?).getD true)=bs.all id:=by
 induction bs with
 | nil=>rfl
 | cons b bs ih =>
  rw [j0x,ae0,g0d,<- ih];rfl
theorem aG5 (hc:X.calm=true):Y4 X (.builtin "all") (λxs H Q => ∃ (p:Addr) (bs:List Bool),xs=[.ref p]/\SqL X.K H p (bs.map V.bl)/\Q (.bl (bs.all id)) H):=by
 intro pins s σ H xs us Q I r h;obtain ⟨p,bs,rfl,hq,q⟩:=h;obtain ⟨u,rfl,rx⟩:=aq0 r
 cases rx
 obtain ⟨its,r',pl,hz⟩:=I.list hq;have hlen:its.length=bs.length:=by rw [<- r'.length,q0b]
 have hp:p ≠ s.heap.objs.size:=by
  obtain ⟨o,ho,_⟩:=pl.isList;exact q0q (q0g ho)
 refine call_all_walk (wpAny_pyIter_list pl.isList ?_);refine ⟨s.heap.objs.size,_,_,_,_,_,λi=>(bs[i]?).getD true,rfl,Walks.list (A:=X.A.in1) (I.ok.hd hc) _ p hp its.toArray,⟨⟨_,z0x _ rfl,rfl,rfl⟩,pl.isList.at λo e=>q0n _ e⟩,?_,?_⟩
 ·intro i v s' Q' E' hv hQ
  have hv':its[i]? = some v:=by simpa using hv
  have hi:i<bs.length:=by rw [<- hlen];exact (q0h.mp hv').1
  obtain ⟨u,hu,ru⟩:=r'.get (i:=i) (x:=.bl bs[i]) (by rw [q0f,q0c hi];rfl)
  rw [hv'] at hu
  cases hu
  cases ru
  simp only [q0c hi] at hQ;exact wpAny_truthy_bool hQ
 ·intro h' tk kk
  have e:(z0e its.toArray.size).all (λi=>(bs[i]?).getD true)=bs.all id:=by rw [q0t,hlen,av2]
  rw [e];refine ⟨.bl _,H,I.kept (t':=tk) λb o e=>kk b o ?_ (q0n _ e),rfl,q⟩;intro z;have:b=s.heap.objs.size:=by simpa using z
  exact absurd (q0g e) (by rw [this];exact j0y _)
def bi1 (K:q0a):R2:=λx y H Q => ∃ d d',d.isV=false/\IsD K H x d/\IsD K H y d'/\okD d d'=true/\dpD d<=60/\Q (.bl (!eqD d d')) H
theorem aT6 (hu:X.A.units+64<cLine):OpR X (compareOp .NotEq) (bi1 X.K):=by
 intro pins s σ H x y v u Q I rx ry h;obtain ⟨d,d',nf,h1,h2,ok,dp,q⟩:=h;have fin:EP X pins σ Q (.bool (!eqD d d')) s:=⟨.bl _,H,I,rfl,q⟩
 cases h1 with
 | v f =>
  cases h2 with
  | v f'=>exact absurd (show true=false from nf) (by decide)
  | tup _ _=>simp [okD] at ok
  | lst _ _=>simp [okD] at ok
 | @tup p xs ds h t =>
  cases h2 with
  | v f'=>simp [okD] at ok
  | @tup p' ys ds' h' t' =>
   cases (show v=Value.ref p from rx)
   cases (show u=Value.ref p' from ry)
   rw [okD] at ok;rw [dpD] at dp;rw [eqD] at fin;obtain ⟨its,r1,i1,_⟩:=I.tuple h;obtain ⟨its',r2,i2,_⟩:=I.tuple h';have q':∀ (j:Nat) (h1:j<its.length) (h2:j<its'.length),SeqAt.EqAt X.A.in1 s its[j] its'[j] (ad2 ds ds' j):=λj h1 h2=>Z8 (A:=X.A.in1) I t t' ok r1 r2 (by show X.A.units+1+_<_;omega) j h1 h2
   have z:=SeqAt.RcNeAt.tuples (A:=X.A) (items:=its.toArray) (items2:=its'.toArray) (e:=ad2 ds ds') i1 i2 ⋯ (λj h1 h2=>q' j (by simpa using h1) (by simpa using h2))
   have e1:its.toArray.size=ds.length:=by rw [q0t,<- r1.length,t.length]
   have e2:its'.toArray.size=ds'.length:=by rw [q0t,<- r2.length,t'.length]
   rw [e1,e2,ae9] at z;exact PySem.EqBoolInt.of_rcne z fin
  | lst _ _=>simp [okD] at ok
 | @lst p xs ds h t =>
  cases h2 with
  | v f'=>simp [okD] at ok
  | tup _ _=>simp [okD] at ok
  | @lst p' ys ds' h' t' =>
   cases (show v=Value.ref p from rx)
   cases (show u=Value.ref p' from ry)
   rw [okD] at ok;rw [dpD] at dp;rw [eqD] at fin;obtain ⟨its,r1,i1,_⟩:=I.list h;obtain ⟨its',r2,i2,_⟩:=I.list h';have q':∀ (j:Nat) (h1:j<its.length) (h2:j<its'.length),SeqAt.EqAt X.A.in1 s its[j] its'[j] (ad2 ds ds' j):=λj h1 h2=>Z8 (A:=X.A.in1) I t t' ok r1 r2 (by show X.A.units+1+_<_;omega) j h1 h2
   have e1:its.toArray.size=ds.length:=by rw [q0t,<- r1.length,t.length]
   have e2:its'.toArray.size=ds'.length:=by rw [q0t,<- r2.length,t'.length]
   by_cases hl:ds.length=ds'.length
   ·have z:=SeqAt.RcNeAt.lists (A:=X.A) (items:=its.toArray) (items2:=its'.toArray) (e:=ad2 ds ds') i1.isList i2.isList (by rw [e1,e2,hl]) ⋯ (λj h1 h2=>q' j (by simpa using h1) (by simpa using h2))
    rw [e1,ag0 ds ds' hl] at z;exact PySem.EqBoolInt.of_rcne z fin
   ·rw [as0 ds ds' hl] at fin
    exact PySem.EqBoolInt.of_rcne (SeqAt.RcNeAt.lists_lengths (A:=X.A) i1.isList i2.isList (by rw [e1,e2];simpa using hl) ⋯) fin
end
def r6 (D:Addr) (n:Nat) (Pv:Nat->St->Hp->Prop) (i:Nat) (σ4:St) (y:V) (H5:Hp):Prop :=
 ∃ ys,H5 D=some (.lst ys)/\ys.length<sizeLine/\∃ m',m'<n-i/\(m'=n-(i+1)/\i+1<=n/\Pv (i+1) σ4 (upd H5 D (.lst (ys ++ [y]))))
theorem r6.mk {D:Addr} {n:Nat} {Pv:Nat->St->Hp->Prop} {i:Nat} {σ4:St} {y:V} {H5:Hp} {ys:List V} (hi:i<n) (h:H5 D=some (.lst ys)) (hl:ys.length<sizeLine) (p:Pv (i+1) σ4 (upd H5 D (.lst (ys ++ [y])))):r6 D n Pv i σ4 y H5 :=
 ⟨ys,h,hl,_,⋯,rfl,hi,p⟩
def aO1 (n:Nat) (Pv:Nat->St->Hp->Prop) (i:Nat) (σ4:St) (H5:Hp):Prop:=∃ m',m'<n-i/\(m'=n-(i+1)/\i+1<=n/\Pv (i+1) σ4 H5)
theorem aO1.mk {n:Nat} {Pv:Nat->St->Hp->Prop} {i:Nat} {σ4:St} {H5:Hp} (hi:i<n) (p:Pv (i+1) σ4 H5):aO1 n Pv i σ4 H5:=⟨_,⋯,rfl,hi,p⟩
section
variable {K:q0a} {a D:Addr} {xs:List V} {g:TG} {te:TE} {σ0:St} {H0:Hp} {Q:VK}
theorem aQ7 (Pv:Nat->St->Hp->Prop) (h0:Pv 0 σ0 H0) (hl:∀ i σ H,i<=xs.length->Pv i σ H->SqL K H a xs)
  (hs:∀ i x σ H,xs[i]? = some x->Pv i σ H->g x σ H λσ4 H4=>te σ4 H4 λy H5=>r6 D xs.length Pv i σ4 y H5) (hd:∀ σ H,Pv xs.length σ H->Q (.ref D) H) :
  ∃ W:Nat->Nat->St->Hp->Prop,(∃ m,W 0 m σ0 H0)/\∀ i m σc H2,W i m σc H2->((Itl K a).stop i H2/\Q (.ref D) H2) \/
   ((Itl K a).go i H2/\∀ x H3,(Itl K a).yld i H2 x H3->g x σc H3 λσ4 H4=>te σ4 H4 λy H5 => ∃ ys,H5 D=some (.lst ys)/\ys.length<sizeLine/\∃ m',m'<m/\W (i+1) m' σ4 (upd H5 D (.lst (ys ++ [y])))):=by
 refine ⟨λi m σ H=>m=xs.length-i/\i<=xs.length/\Pv i σ H,⟨xs.length,by simp,z0f _,h0⟩,?_⟩
 rintro i m σ H ⟨rfl,hi,p⟩;have q:=hl i σ H hi p
 by_cases hlt:i<xs.length
 ·refine .inr ⟨⟨xs,xs[i],q,q0c hlt⟩,?_⟩
  rintro x H3 ⟨rfl,hx⟩;exact hs i x σ _ (hx xs q) p
 ·have e:i=xs.length:=⋯
  subst e;exact .inl ⟨⟨xs,q,q0k _⟩,hd σ H p⟩
theorem aJ6 {lo:Int} {n:Nat} (Pv:Nat->St->Hp->Prop) (h0:Pv 0 σ0 H0)
  (hs:∀ i σ H,i<n->Pv i σ H->g (.int (lo+i)) σ H λσ4 H4=>te σ4 H4 λy H5=>r6 D n Pv i σ4 y H5) (hd:∀ σ H,Pv n σ H->Q (.ref D) H) :
  ∃ W:Nat->Nat->St->Hp->Prop,(∃ m,W 0 m σ0 H0)/\∀ i m σc H2,W i m σc H2->((Itr lo n).stop i H2/\Q (.ref D) H2) \/
   ((Itr lo n).go i H2/\∀ x H3,(Itr lo n).yld i H2 x H3->g x σc H3 λσ4 H4=>te σ4 H4 λy H5 => ∃ ys,H5 D=some (.lst ys)/\ys.length<sizeLine/\∃ m',m'<m/\W (i+1) m' σ4 (upd H5 D (.lst (ys ++ [y])))):=by
 refine ⟨λi m σ H=>m=n-i/\i<=n/\Pv i σ H,⟨n,by simp,z0f _,h0⟩,?_⟩
 rintro i m σ H ⟨rfl,hi,p⟩
 by_cases hlt:i<n
 ·refine .inr ⟨hlt,?_⟩
  rintro x H3 ⟨rfl,rfl⟩;exact hs i σ _ hlt p
 ·have e:i=n:=⋯
  subst e;exact .inl ⟨q0k _,hd σ H p⟩
end
end L2
namespace R
theorem ar1 {n d:Int} (hd:0<d) (hc:q0s n d=1):(q0w n d).num=n/\((q0w n d).den:Int)=d:=by
 obtain ⟨k,rfl⟩:∃ k:Nat,d=k:=⟨d.toNat,⋯⟩;have hk:k ≠ 0:=⋯
 have hc':n.natAbs.Coprime k:=by
  rw [Int.gcd_eq_natAbs_gcd_natAbs] at hc
  simpa [m0z] using hc
 have e:(⟨n,k,hk,hc'⟩:Rat)=q0w n k:=Rat.mk_eq_divInt;rw [<- e];exact ⟨rfl,rfl⟩
theorem aj3 {n d t b:Int} (hd:0<d) (hc:q0s n d=1) (hb:b ≠ 0) (h:n*b=t*d):n=(q0w t b).num/\d=((q0w t b).den:Int):=by
 have e:q0w n d=q0w t b:=(z0d ⋯ hb).mpr h;obtain ⟨h1,h2⟩:=ar1 hd hc;rw [e] at h1 h2;exact ⟨h1.symm,h2.symm⟩
theorem m4 {g n:Int} (hg:g ≠ 0):(g*n).fdiv g=n:=by
 rw [m0w];exact Int.mul_fdiv_cancel n hg
theorem Z7 {t b:Int} (hb:b ≠ 0):0<q0s t b:=Int.gcd_pos_of_ne_zero_right t hb
theorem av1 {t b n d:Int} (hb:b ≠ 0) (h1:t=(q0s t b:Int)*n) (h2:b=(q0s t b:Int)*d):q0s n d=1:=by
 have hg:=Z7 (t:=t) hb
 have e:q0s ((q0s t b:Int)*n) ((q0s t b:Int)*d)=q0s t b*q0s n d:=by
  rw [Int.gcd_mul_left];simp
 rw [<- h1,<- h2] at e;exact Nat.eq_of_mul_eq_mul_left hg (by rw [<- e,Nat.mul_one])
theorem al0 {t b g:Int} (hb:b ≠ 0) (hg:g=if b<0 then -(Int.gcd t b:Int) else (Int.gcd t b:Int)):t.fdiv g=(Rat.divInt t b).num/\b.fdiv g=((Rat.divInt t b).den:Int):=by
  have hp:(0:Int)<Int.gcd t b:=by have:=Z7 (t:=t) hb;omega
  obtain ⟨n,hn⟩:=Int.gcd_dvd_left t b;obtain ⟨d,hd⟩:=Int.gcd_dvd_right t b;have hc:=av1 hb hn hd
  by_cases hs:b<0
  · rw [if_pos hs] at hg
    subst hg;have hg0:(-(Int.gcd t b:Int)) ≠ 0:=⋯;have e1:t=-(Int.gcd t b:Int)*(-n):=by rw [Int.neg_mul_neg];exact hn
    have e2:b=-(Int.gcd t b:Int)*(-d):=by rw [Int.neg_mul_neg];exact hd
    have f1 : t.fdiv (-(Int.gcd t b : Int)) = -n := by conv => lhs; arg 1; rw [e1]
                                                       exact m4 hg0
    have f2 : b.fdiv (-(Int.gcd t b : Int)) = -d := by conv => lhs; arg 1; rw [e2]
                                                       exact m4 hg0
    rw [f1,f2]
    have hd0:0 < -d:=by
      rcases Int.lt_or_le d 0 with z | z
      · omega
      · have:=Int.mul_nonneg (Int.le_of_lt hp) z;omega
    refine aj3 hd0 (by rw [Int.gcd_neg,Int.neg_gcd];exact hc) hb ?_
    conv=>lhs;rw [hd]
    conv=>rhs;rw [hn]
    generalize (Int.gcd t b:Int)=g
    grind
  · rw [if_neg hs] at hg
    subst hg;have hg0:((Int.gcd t b:Int)) ≠ 0:=⋯
    have f1 : t.fdiv (Int.gcd t b : Int) = n := by conv => lhs; arg 1; rw [hn]
                                                   exact m4 hg0
    have f2 : b.fdiv (Int.gcd t b : Int) = d := by conv => lhs; arg 1; rw [hd]
                                                   exact m4 hg0
    rw [f1,f2]
    have hd0:0<d:=by
      rcases Int.lt_or_le 0 d with z | z
      · exact z
      · have:=Int.mul_nonneg (Int.le_of_lt hp) (show 0<=-d by omega);rw [Int.mul_neg] at this;omega
    refine aj3 hd0 hc hb ?_
    conv=>lhs;rw [hd]
    conv=>rhs;rw [hn]
    generalize (Int.gcd t b:Int)=g
    grind
theorem v9 (q:Rat):(0:Int)<q.den:=by have:=q.den_nz;omega
theorem aJ8 (p q:Rat):p+q=q0w (p.num*q.den+q.num*p.den) (p.den*q.den):=by
 have h1:=v9 p;have h2:=v9 q
 conv=>lhs;rw [<- z0p p,<- z0p q]
 exact u0m _ _ ⋯ ⋯
theorem aG9 (p q:Rat):p-q=q0w (p.num*q.den-q.num*p.den) (p.den*q.den):=by
 have h1:=v9 p;have h2:=v9 q
 conv=>lhs;rw [<- z0p p,<- z0p q]
 exact Rat.divInt_sub_divInt _ _ ⋯ ⋯
theorem ar2 (p q:Rat):p*q=q0w (p.num*q.num) (p.den*q.den):=by
 conv=>lhs;rw [<- z0p p,<- z0p q]
 exact y0g _ _
theorem aJ4 (p q:Rat):p / q=q0w (p.num*q.den) (p.den*q.num):=by
 rw [u0j,Rat.inv_def]
 conv=>lhs;lhs;rw [<- z0p p]
 exact y0g _ _
theorem aF7 (a b:Int):q0s b (a.fmod b)=q0s a b:=by
 have e:=Int.mul_fdiv_add_fmod a b;rw [Int.gcd_comm a b]
 conv=>rhs;rw [<- e]
 rw [show b*a.fdiv b+a.fmod b=a.fmod b+a.fdiv b*b by rw [m0w,Int.add_comm]]
 simp
theorem ac6 (a:Int) {b:Int} (hb:b ≠ 0):(a.fmod b).natAbs<b.natAbs:=by
 rcases Int.lt_or_le b 0 with h | h
 ·have e:=Int.neg_fmod_neg a b
  have h1:=y0d (-a) (show 0 < -b by omega)
  have h2:=y0r (-a) (show 0 < -b by omega)
  omega
 ·have h1:=y0d a (show 0<b by omega)
  have h2:=y0r a (show 0<b by omega)
  omega
open PySem L2 PyProof.Rows
section
variable {P:Program} {w:World} {K:q0a} {mg:Str->Option Value} {base:Heap}
theorem N4 {a:Int} {m:Nat} (h:a.natAbs<2 ^ m):Builtin.Int.intBits a<=m:=by
 unfold Builtin.Int.intBits
 split
 ·exact z0f _
 ·rename_i hz
  have h0:a.natAbs ≠ 0:=by
   intro z;have:a=0:=⋯
   simp [this] at hz
  have:=(Nat.log2_lt h0).mpr h;omega
theorem L6 {a b:Int} {m n:Nat} (ha:a.natAbs<2 ^ m) (hb:b.natAbs<2 ^ n) (h:m+n<=134217728:=by decide):IntMulOk a b:=IntMulOk.of_le (N4 ha) (N4 hb) h
theorem Y1 {j:Int} (h0:j ≠ 0) (h:j.natAbs<2 ^ 9000):ao4 i j:=⟨h0,(Nat.log2_lt ⋯).mpr h⟩
theorem i5 {m n:Nat} (h:m<=n):2 ^ m<=2 ^ n:=z0v (by decide) h
theorem ai8 {a:Nat} {m n:Nat} (h:a<2 ^ m) (hm:m<=n:=by decide):a<2 ^ n:=q0d h (i5 hm)
def A1 (q:Rat):List V:=[.int q.num,.int (q.den:Int)]
structure Bd (q:Rat):Prop where
 n:q.num.natAbs<2 ^ 3000
 d:q.den<2 ^ 3000
def Num (K:q0a) (H:Hp) (v:V) (q:Rat):Prop:=∃ p,v=.ref p/\SqT K H p (A1 q)
def at3 (H:Hp) (Q:VK) (q:Rat):Prop:=∀ r H',c5 H H'->H' r=some (.tup (A1 q))->Q (.ref r) H'
theorem u0:(2:Nat)<=sizeLine:=by decide
theorem aS2:(1:Nat)<=sizeLine:=by decide
theorem aJ0 {a b:Int} {n:Nat} (hb:b ≠ 0) (h:b.natAbs<n):((q0s a b:Nat):Int).natAbs<n:=by
 have h1:q0s a b ∣ b.natAbs:=by
  have:=v0h.mpr (v0e a b)
  simpa using this
 have h2:=v0m ⋯ h1;simp only [q0r];omega
theorem aM7 {a g:Int} (hg:0<g) (hd:g ∣ a):(a.fdiv g).natAbs<=a.natAbs:=by
 obtain ⟨n,rfl⟩:=hd;rw [m4 ⋯,z0a];exact y0e _ ⋯
theorem aE8 {q:Rat}:q.num=0 ↔ q=0:=by
 constructor
 ·intro h;exact Rat.num_eq_zero.mp h
 ·intro h;rw [h];rfl
theorem at0 (q:Rat):atI (A1 q) 0=some (.int q.num):=rfl
theorem at1 (q:Rat):atI (A1 q) 1=some (.int (q.den:Int)):=rfl
theorem bd2 {a b:Int} (h:a.natAbs<2 ^ 64):IntMulOk a b:=IntMulOk.of_left (N4 h)
theorem aF1 {a b:Int} (h:b.natAbs<2 ^ 64):IntMulOk a b:=IntMulOk.of_right (N4 h)
def am5:Sp:=λvs H Q _ => ∃ t b:Int,vs=[.int t,.int b]/\b ≠ 0/\b.natAbs<2 ^ 6000/\at3 H Q (q0w t b)
def p8 (H:Hp) (u:Addr):Prop:=∃ g m p:Int,H u=some (.lst [.int g,.int m,.int p])/\0<=g/\0<=m/\m<2 ^ 40/\0<p/\p<2 ^ 40
def p9 (u:Addr) (H H':Hp):Prop:=∀ b o,H b=some o->b ≠ u->H' b=some o
theorem c5.x {H H':Hp} (s:c5 H H') (u:Addr):p9 u H H':=λb o h _=>s b o h
theorem p9.trans {u:Addr} {H H1 H2:Hp} (a:p9 u H H1) (b:p9 u H1 H2):p9 u H H2:=λc o h n=>b c o (a c o h n) n
theorem p9.upd (u:Addr) (H:Hp) (o:HO):p9 u H (upd H u o):=λb p h n=>by rw [c8 n];exact h
theorem c5.urn {H H':Hp} {u:Addr} (s:c5 H H') (h:p8 H u):p8 H' u:=let ⟨g,m,p,h1,r⟩:=h;⟨g,m,p,s _ _ h1,r⟩
def bb0 (K:q0a):Sp:=λvs H Q _ => ∃ (a:Addr) (ns:List Int) (k:Int),vs=[.ref a,.int k]/\SqL K H a (ns.map V.int)/\0<=k/\k<64/\∀ r H',c5 H H'->H r=none->p8 H' r->Q (.ref r) H'
def bc5:List V:=[.int 1899999979,.int 1899998977,.int 1899997949,.int 1899996929,.int 1899995927,.int 1899994903,.int 1899993877,.int 1899992839]
theorem aT1 {k:Int} (h0:0<=k):∃ p:Int,atI bc5 (k.fmod 8)=some (.int p)/\1899992839<=p/\p<=1899999979:=by
 have h1:=y0d k (show (0:Int)<8 by decide)
 have h2:=y0r k (show (0:Int)<8 by decide)
 have h3:k.fmod 8=0 \/ k.fmod 8=1 \/ k.fmod 8=2 \/ k.fmod 8=3 \/ k.fmod 8=4 \/ k.fmod 8=5 \/ k.fmod 8=6 \/ k.fmod 8=7:=⋯;rcases h3 with h | h | h | h | h | h | h | h <;> rw [h] <;> exact ⟨_,rfl,by decide,by decide⟩
theorem aR1 {ns:List Int} {k:Int} (h0:0<=k) (h:k<(ns.length:Int)):∃ v:Int,atI (ns.map V.int) k=some (.int v):=by
 have hk:k.toNat<ns.length:=⋯;have ek:k=((k.toNat:Nat):Int):=⋯;have q:atI (ns.map V.int) ((k.toNat:Nat):Int)=some (.int ns[k.toNat]):=j3 (by rw [q0f,q0c hk] <;> rfl)
 rw [<- ek] at q;exact ⟨_,q⟩
def y9:Sp:=λvs H Q _ => ∃ (u:Addr) (n:Int),vs=[.ref u,.int n]/\p8 H u/\0<n/\n<2 ^ 40/\∀ r H',0<=r->r<n->p9 u H H'->p8 H' u->Q (.int r) H'
structure Sm (q:Rat):Prop where
 n:q.num.natAbs<=10 ^ 12
 d:q.den<=10 ^ 12
theorem Q5 {t b:Int} (hb:b ≠ 0):(q0w t b).num.natAbs<=t.natAbs/\(q0w t b).den<=b.natAbs:=by
 have hp:=Z7 (t:=t) hb;obtain ⟨e1,e2⟩:=al0 (t:=t) (b:=b) (g:=if b<0 then -(q0s t b:Int) else (q0s t b:Int)) hb rfl
 have key:∀ x:Int,(q0s t b:Int) ∣ x->(x.fdiv (if b<0 then -(q0s t b:Int) else (q0s t b:Int))).natAbs<=x.natAbs:=by
  rintro x ⟨n,hn⟩
  split
  ·have:x=-(q0s t b:Int)*(-n):=by rw [Int.neg_mul_neg];exact hn
   rw [this,m4 ⋯,z0a];exact y0e _ ⋯
  ·rw [hn,m4 ⋯,z0a]
   exact y0e _ ⋯
 have k1:=key t (v0j t b);have k2:=key b (v0e t b);rw [e1] at k1;rw [e2] at k2;exact ⟨k1,⋯⟩
theorem bf7 {t b:Int} (hb:b ≠ 0) (h1:t.natAbs<=10 ^ 12) (h2:b.natAbs<=10 ^ 12):Sm (q0w t b):=by
 obtain ⟨e1,e2⟩:=Q5 (t:=t) hb;exact ⟨⋯,⋯⟩
theorem C4 {H:Hp} {u l:Addr} (hu:p8 H u) (hl:H l=none):l ≠ u:=by
 obtain ⟨g,m,p,h,r⟩:=hu;exact (c7 h hl).symm
theorem T7 {H:Hp} {u l:Addr} {o:HO} (hu:p8 H u) (hl:H l=none):p8 (upd H l o) u:=by
 obtain ⟨g,m,p,h,r⟩:=hu;exact ⟨g,m,p,by rw [c8 (c7 h hl)];exact h,r⟩
def spNumber:Sp:=λvs H Q _ => ∃ u kd,vs=[.ref u,.int kd]/\p8 H u/\∀ r q H',Sm q->p9 u H H'->p8 H' u->H' r=some (.tup (A1 q))->Q (.ref r) H'
def ah7:Sp:=λvs H Q _ => ∃ i:Int,vs=[.int i]/\Q (.bl true) H
theorem aF4:z0b K (.type "int") (.type "int")=some true:=by unfold z0b;rw [if_pos (by decide)]
theorem aB2:z0b K (.type "int") (.type "bool")=some false:=by kernel_rfl
theorem an0:z0b K (.type "tuple") (.type "tuple")=some true:=by unfold z0b;rw [if_pos (by decide)]
def P9 (q:Rat):D:=.tup [.v (.int q.num),.v (.int (q.den:Int))]
theorem ap7 {H:Hp} {a:Addr} {q:Rat} (h:SqT K H a (A1 q)):IsD K H (.ref a) (P9 q):=.tup h (.cons (.v rfl) (.cons (.v rfl) .nil))
theorem aN1 (q:Rat):eqD (P9 q) (P9 q)=true:=by simp [P9,eqD,F9,eqV]
theorem aM4 (p q:Rat):okD (P9 p) (P9 q)=true:=by simp [P9,okD,X8]
theorem be5 (q:Rat):dpD (P9 q)<=60:=by simp [P9,dpD,ad3]
def az1 (K:q0a):Sp:=λvs H Q _ => ∃ x q,vs=[x]/\(∃ p,x=.ref p/\SqT K H p (A1 q))/\(q.den:Int).natAbs<2 ^ 6000/\∀ H',c5 H H'->Q (.bl true) H'
end
open PySem L2 PyProof.Rows
inductive C3 (H:Hp):List V->List Rat->Prop where
 | nil:C3 H [] []
 | cons {p:Addr} {q:Rat} {vs:List V} {qs:List Rat} (h:H p=some (.tup (A1 q))) (t:C3 H vs qs):C3 H (.ref p :: vs) (q :: qs)
def W5 (H H':Hp):Prop:=∀ b xs,H b=some (.tup xs)->H' b=some (.tup xs)
theorem _root_.L2.c5.tups {H H':Hp} (s:c5 H H'):W5 H H':=λb xs h=>s b _ h
theorem p9.tups {u:Addr} {H H':Hp} (s:p9 u H H') (hu:p8 H u):W5 H H':=λb xs h=>by
 obtain ⟨g,m,p,e,_⟩:=hu;exact s b _ h (bb3 h e (by intro z;cases z))
theorem W5.lst {H:Hp} {a:Addr} {xs:List V} {o:HO} (h:H a=some (.lst xs)):W5 H (upd H a o):=λb ys e=>by
 rw [c8 (bb3 e h (by intro z;cases z))];exact e
theorem C3.mono {H H':Hp} (e:W5 H H'):∀ {vs:List V} {qs:List Rat},C3 H vs qs->C3 H' vs qs
 | _,_,.nil=>.nil
 | _,_,.cons h t=>.cons (e _ _ h) (t.mono e)
theorem C3.length {H:Hp}:∀ {vs:List V} {qs:List Rat},C3 H vs qs->vs.length=qs.length
 | _,_,.nil=>rfl
 | _,_,.cons _ t=>congrArg (· + 1) t.length
theorem C3.append {H:Hp}:∀ {vs ws:List V} {qs rs:List Rat},C3 H vs qs->C3 H ws rs->C3 H (vs ++ ws) (qs ++ rs)
 | _,_,_,_,.nil,b=>b
 | _,_,_,_,.cons h t,b=>.cons h (t.append b)
theorem C3.get {H:Hp}:∀ {vs:List V} {qs:List Rat} {i:Nat} {q:Rat},C3 H vs qs->qs[i]? = some q->∃ p,vs[i]? = some (.ref p)/\H p=some (.tup (A1 q))
 | _,_,_,_,.nil,e=>by simp at e
 | _,_,0,_,.cons h t,e=>by
  have:=Option.some.inj e;subst this;exact ⟨_,rfl,h⟩
 | _,_,i+1,_,.cons h t,e=>by
  obtain ⟨p,e1,e2⟩:=t.get (i:=i) (by simpa using e)
  exact ⟨p,by simpa using e1,e2⟩
theorem C3.getV {H:Hp}:∀ {vs:List V} {qs:List Rat} {i:Nat} {v:V},C3 H vs qs->vs[i]? = some v->∃ p q,v=.ref p/\qs[i]? = some q/\H p=some (.tup (A1 q))
 | _,_,_,_,.nil,e=>by simp at e
 | _,_,0,_,.cons h t,e=>by
  have:=Option.some.inj e;subst this;exact ⟨_,_,rfl,rfl,h⟩
 | _,_,i+1,_,.cons h t,e=>by
  obtain ⟨p,q,e0,e1,e2⟩:=t.getV (i:=i) (by simpa using e)
  exact ⟨p,q,e0,by simpa using e1,e2⟩
theorem C3.isDs {K:q0a} {H:Hp}:∀ {vs:List V} {qs:List Rat},C3 H vs qs->Y3 K H vs (qs.map P9)
 | _,_,.nil=>.nil
 | _,_,.cons h t=>.cons (ap7 (SqT.of h)) t.isDs
theorem aY2 {p q:Rat} (h1:p.num=q.num) (h2:p.den=q.den):p=q:=by
 cases p;cases q;simp at h1 h2;subst h1 h2;rfl
theorem aV8 (p q:Rat):eqD (P9 p) (P9 q)=decide (p=q):=by
 by_cases h:p=q
 ·subst h;rw [aN1];simp
 ·rw [decide_eq_false h]
  simp only [P9,eqD,F9,eqV,Bool.and_true]
  by_cases h1:p.num=q.num
  ·have h2:p.den ≠ q.den:=λz=>h (aY2 h1 z)
   have:((p.den:Int) == (q.den:Int))=false:=by
    rw [beq_eq_false_iff_ne];intro z;exact h2 ⋯
   rw [this,Bool.and_false]
  ·have:(p.num == q.num)=false:=by rw [beq_eq_false_iff_ne];exact h1
   rw [this,Bool.false_and]
theorem ax3:∀ ps qs:List Rat,F9 (ps.map P9) (qs.map P9)=decide (ps=qs)
 | [],[]=>by simp [F9]
 | [],_ :: _=>by simp [F9]
 | _ :: _,[]=>by simp [F9]
 | p :: ps,q :: qs=>by
  rw [j0a,j0a,F9,aV8,ax3 ps qs]
  by_cases h1:p=q <;> by_cases h2:ps=qs <;> simp [h1,h2]
theorem aw7:∀ ps qs:List Rat,X8 (ps.map P9) (qs.map P9)=true
 | [],[]=>by simp [X8]
 | [],_ :: _=>by simp [X8]
 | _ :: _,[]=>by simp [X8]
 | p :: ps,q :: qs=>by rw [j0a,j0a,X8,aM4,aw7 ps qs];rfl
theorem ax5:∀ qs:List Rat,ad3 (qs.map P9)<=1
 | []=>by simp [ad3]
 | q :: qs=>by
  have h1:dpD (P9 q)<=1:=by simp [P9,dpD,ad3]
  have h2:=ax5 qs;rw [j0a,ad3];omega
def M7 (qs:List Rat):D:=.lst (qs.map P9)
theorem aV1 {K:q0a} {H:Hp} {a:Addr} {vs:List V} {qs:List Rat} (h:SqL K H a vs) (n:C3 H vs qs):IsD K H (.ref a) (M7 qs):=.lst h n.isDs
theorem aF9 (ps qs:List Rat):eqD (M7 ps) (M7 qs)=decide (ps=qs):=by unfold M7;rw [eqD,ax3]
theorem aU0 (ps qs:List Rat):okD (M7 ps) (M7 qs)=true:=by unfold M7;rw [okD,aw7]
theorem ba1 (qs:List Rat):dpD (M7 qs)<=2:=by unfold M7;rw [dpD];have:=ax5 qs;omega
structure aX5 (qs:List Rat) (m:Nat):Prop where
 le:m<=qs.length
 zero:∀ (i:Nat) (q:Rat),m<=i->qs[i]? = some q->q=0
 last:m ≠ 0->∀ q,qs[m-1]? = some q->q ≠ 0
theorem as7 (vs:List V) {m:Nat} (h:m<=vs.length):aC1 vs none (some (m:Int))=vs.take m:=by
 unfold aC1;have e1:HT.sIx vs.length 0 none=0:=by simp [HT.sIx]
 have e2:HT.sIx vs.length vs.length (some (m:Int))=m:=by
  simp only [HT.sIx]
  split <;> omega
 rw [e1,e2];simp
end R
set_option maxRecDepth 100000
namespace L2
open PySem PySem.Spec PyProof.Rows
theorem c5.over {H H1:Hp} {l:Addr} (s:c5 H H1) (hl:H l=none) (o:HO):c5 H (upd H1 l o):=λb u h=>by
 rw [c8 (c7 h hl)];exact s b u h
def ao3 (J:It) (D:Addr) (σ0:St) (H0:Hp) (g:TG) (te:TE) (Q:VK):Prop:=∃ W:Nat->Nat->St->Hp->Prop,(∃ m,W 0 m σ0 H0) /\
 ∀ i m σc H2,W i m σc H2->(J.stop i H2/\Q (.ref D) H2) \/
  (J.go i H2/\∀ x H3,J.yld i H2 x H3->g x σc H3 λσ4 H4=>te σ4 H4 λy H5 => ∃ ys,H5 D=some (.lst ys)/\ys.length<sizeLine/\∃ m',m'<m/\W (i+1) m' σ4 (upd H5 D (.lst (ys ++ [y]))))
theorem Q6 (wi:TI) (caps:List (Option Nat)) (g:TG) (te:TE):aC9 wi caps g te=λσ H Q=>wi σ H λJ H1 => ∀ D,H1 D=none->ao3 J D (A5 caps σ) (upd H1 D (.lst [])) g te Q:=rfl
def aX7 (J:It) (D:Addr) (σ0:St) (H0:Hp) (g:TG) (tt:TT) (te:TE) (Q:VK):Prop:=∃ W:Nat->Nat->St->Hp->Prop,(∃ m,W 0 m σ0 H0) /\
 ∀ i m σc H2,W i m σc H2->(J.stop i H2/\Q (.ref D) H2) \/
  (J.go i H2/\∀ x H3,J.yld i H2 x H3->g x σc H3 λσ4 H4=>tt σ4 H4 λb H4'=>if b=true then te σ4 H4' λy H5 => ∃ ys,H5 D=some (.lst ys)/\ys.length<sizeLine/\∃ m',m'<m/\W (i+1) m' σ4 (upd H5 D (.lst (ys ++ [y])))
   else ∃ m',m'<m/\W (i+1) m' σ4 H4')
theorem K4 (wi:TI) (caps:List (Option Nat)) (g:TG) (tt:TT) (te:TE):aK3 wi caps g tt te=λσ H Q=>wi σ H λJ H1 => ∀ D,H1 D=none->aX7 J D (A5 caps σ) (upd H1 D (.lst [])) g tt te Q:=rfl
section
variable {K:q0a} {a D:Addr} {xs:List V} {g:TG} {te:TE} {σ0:St} {H0:Hp} {Q:VK}
theorem B7 (xs:List V) (Pv:Nat->St->Hp->Prop) (h0:Pv 0 σ0 H0) (hl:∀ i σ H,i<=xs.length->Pv i σ H->SqL K H a xs)
  (hs:∀ i x σ H,xs[i]? = some x->Pv i σ H->g x σ H λσ4 H4=>te σ4 H4 λy H5=>r6 D xs.length Pv i σ4 y H5) (hd:∀ σ H,Pv xs.length σ H->Q (.ref D) H):ao3 (Itl K a) D σ0 H0 g te Q:=aQ7 Pv h0 hl hs hd
theorem G0 {lo:Int} {n:Nat} (Pv:Nat->St->Hp->Prop) (h0:Pv 0 σ0 H0)
  (hs:∀ i σ H,i<n->Pv i σ H->g (.int (lo+i)) σ H λσ4 H4=>te σ4 H4 λy H5=>r6 D n Pv i σ4 y H5) (hd:∀ σ H,Pv n σ H->Q (.ref D) H):ao3 (Itr lo n) D σ0 H0 g te Q:=aJ6 Pv h0 hs hd
end
theorem l9 {cells:List (Str × Addr)}:∀ (x:Str) (c:Addr),([]:List (Str × Addr)).lookup x=some c->cells.lookup x=some c:=λx c h=>by cases h
theorem j5 {cells cl:List (Str × Addr)} {k:Str} {a:Addr} (h:cells.lookup k=some a) (r:∀ (x:Str) (c:Addr),cl.lookup x=some c->cells.lookup x=some c):∀ (x:Str) (c:Addr),((k,a) :: cl).lookup x=some c->cells.lookup x=some c:=λx c e=>by
 rw [y0v] at e
 split at e
 ·rename_i q
  have:=eq_of_beq q;subst this
  cases e
  exact h
 ·exact r x c e
end L2
namespace R
open PySem L2 PyProof.Rows
theorem p9.over {u:Addr} {H H1:Hp} {l:Addr} (s:p9 u H H1) (hl:H l=none) (o:HO):p9 u H (L2.upd H1 l o):=λb x h n=>by
 rw [c8 (c7 h hl)];exact s b x h n
theorem p9.free {u:Addr} {H H':Hp} {l:Addr} (s:p9 u H H') (hu:p8 H' u) (h:H' l=none):H l=none:=by
 cases e:H l with
 | none=>rfl
 | some o =>
  by_cases q:l=u
  ·subst q
   obtain ⟨_,_,_,z,_⟩:=hu;rw [z] at h;cases h
  ·rw [s l o e q] at h;cases h
theorem p8.other {H:Hp} {u l:Addr} {o:HO} (h:p8 H u) (ne:l ≠ u):p8 (upd H l o) u:=by
 obtain ⟨g,m,p,e,r⟩:=h;exact ⟨g,m,p,by rw [c8 ne.symm];exact e,r⟩
theorem V8 {K:q0a}:z0b K (.type "list") (.type "list")=some true:=by unfold z0b;rw [if_pos (by decide)]
end R
set_option maxRecDepth 100000
namespace L2
open PySem PySem.Spec PyProof.Rows
def Itz (K:PySem.W.Frag) (a b:Addr):It :=
  ⟨λi H => ∃ xs ys x y,SqL K H a xs/\SqL K H b ys/\xs[i]? = some x/\ys[i]? = some y,
   λi H v H' => ∀ xs ys,SqL K H a xs->SqL K H b ys->∃ x y p,xs[i]? = some x/\ys[i]? = some y/\H p=none/\v=.ref p/\H'=upd H p (.tup [x,y]),
   λi H => ∃ xs ys,SqL K H a xs/\SqL K H b ys/\(xs.length<=i \/ ys.length<=i)⟩
theorem aR6 {P:Program} {w:World} {K:q0a} {elts:List Expr} {k:Nat} {tpos:Pos} (a b z TI TO i1 i2:Addr) (D:ZipApart z TI TO i1 i2 a b) :
  aX0 P w K (.Tuple elts k tpos) (Itz K a b) [z,TI,TO,i1,i2] z (λi h=>IsZip h z TI TO .none/\IsPair h TI (.ref i1) (.ref i2)/\(∃ a b,IsPair h TO a b)/\h.IsListIter i1 a i/\h.IsListIter i2 b i) where
 mem:=by simp
 obj:=λi h st c hc=>by
  obtain ⟨hz,hTI,⟨p,q,hTO⟩,h1,h2⟩:=st;rcases (by simpa using hc:c=z \/ c=TI \/ c=TO \/ c=i1 \/ c=i2) with e | e | e | e | e <;> subst e
  ·exact ⟨_,hz,λv z=>by cases z⟩
  ·exact ⟨_,hTI,λv z=>by cases z⟩
  ·exact ⟨_,hTO,λv z=>by cases z⟩
  ·obtain ⟨o,e,c,d⟩:=h1
   exact ⟨o,e,λv z=>by rw [d] at z;cases z⟩
  ·obtain ⟨o,e,c,d⟩:=h2
   exact ⟨o,e,λv z=>by rw [d] at z;cases z⟩
 keep:=λi h h' st k=>by
  obtain ⟨hz,hTI,⟨p,q,hTO⟩,h1,h2⟩:=st;exact ⟨k z (by simp) _ hz,k TI (by simp) _ hTI,⟨p,q,k TO (by simp) _ hTO⟩,h1.at λo e=>k i1 (by simp) o e,h2.at λo e=>k i2 (by simp) o e⟩
 item:=by
  intro X hP hw hK hc i pins s σ H E I hf st hg;subst hP hw hK;obtain ⟨xs,ys,x,y,hq,hq',hx,hy⟩:=hg;obtain ⟨its,rv,p,hlz⟩:=I.list hq;obtain ⟨its',rv',p',hlz'⟩:=I.list hq';obtain ⟨u,hu,ru⟩:=rv.get hx;obtain ⟨u',hu',ru'⟩:=rv'.get hy;obtain ⟨hz,hTI,⟨pa,pb,hTO⟩,h1,h2⟩:=st;have zlt:z<s.heap.objs.size:=q0g hz;refine wpAny_pyNext_zip_item D hz hTI hTO h1 h2 p.isList p'.isList (x:=u) (y:=u') (by simpa using hu) (by simpa using hu') λh' a1 a2 a3 a4 a5 a6 kk=>?_
  refine ⟨_,rfl,?_⟩;refine wpAny_letOwnedTupleGo_zip (s:={ s with heap:=h' }) a1 λh'' hz'' sb=>?_;have up:∀ c o,c ≠ z->h'.get? c=some o->h''.get? c=some o:=λc o n q=>(sb.2 c n).trans q;have hT':h''.get? s.heap.objs.size=some { cls:=.type "tuple",data:=.seq #[u,u'] }:=up _ _ (v0f zlt) a5
  refine ⟨.ref s.heap.objs.size,upd H s.heap.objs.size (.tup [x,y]),I.turnLaid (fp:=[z,TI,TO,i1,i2]) (t':=s.toks) hf (λc v hb q=>?_) (q0k _) ?_,rfl,?_,?_,λc hb=>?_⟩
  ·have n1:c ≠ z:=λe=>hb (by simp [e])
   have n2:c ≠ TO:=λe=>hb (by simp [e])
   have n3:c ≠ i1:=λe=>hb (by simp [e])
   have n4:c ≠ i2:=λe=>hb (by simp [e])
   exact up c v n1 (kk c v n1 n2 n3 n4 q)
  ·exact ⟨(show 2<=sizeLine by decide +kernel),[u,u'],.cons ru (.cons ru' .nil),_,hT',rfl,_,rfl⟩
  ·intro vs ws hv hw
   rw [I.list_inj hv hq,I.list_inj hw hq'];exact ⟨x,y,_,hx,hy,I.fresh,rfl,rfl⟩
  ·refine ⟨hz'',up _ _ D.TIz (kk _ _ D.TIz D.TITO D.TIi1 D.TIi2 hTI),⟨u,u',up _ _ D.TOz a2⟩,a3.at λo q=>up _ o D.i1z q,a4.at λo q=>up _ o D.i2z q⟩
  ·have hlt:c<s.heap.objs.size:=by
    have l1:i1<s.heap.objs.size:=by obtain ⟨_,e,_⟩:=h1;exact q0g e
    have l2:i2<s.heap.objs.size:=by obtain ⟨_,e,_⟩:=h2;exact q0g e
    rcases (by simpa using hb:c=z \/ c=TI \/ c=TO \/ c=i1 \/ c=i2) with e | e | e | e | e <;> rw [e]
    ·exact zlt
    ·exact q0g hTI
    ·exact q0g hTO
    ·exact l1
    ·exact l2
   rw [c8 (q0q hlt)];exact (hf c hb).1
 done:=by
  intro X hP hw hK hc i pins s σ H E I hf st hg;subst hP hw hK;obtain ⟨xs,ys,hq,hq',hend⟩:=hg;obtain ⟨its,rv,p,hlz⟩:=I.list hq;obtain ⟨its',rv',p',hlz'⟩:=I.list hq';obtain ⟨hz,hTI,⟨pa,pb,hTO⟩,h1,h2⟩:=st;have l1:=rv.length;have l2:=rv'.length;refine wpAny_pyNext_zip_end (I.ok.hd hc) D hz hTI hTO h1 h2 p.isList p'.isList ?_ λh' kk=>⟨rfl,?_⟩
  ·rcases hend with e | e
   ·exact .inl (by simp;omega)
   ·exact .inr (by simp;omega)
  ·have nf:∀ b u,H b=some u->b ∉ [z,TI,TO,i1,i2]:=λb u e q=>by rw [(hf b q).1] at e;cases e
   have k:∀ b u,b ∉ [z,TI,TO,i1,i2]->s.heap.get? b=some u->h'.get? b=some u:=λc o hb q=>kk c o (λe=>hb (by simp [e])) (λe=>hb (by simp [e])) (λe=>hb (by simp [e])) (λe=>hb (by simp [e])) q
   refine I.step (t':=s.toks) (g':=s.gens) (d':=s.drawn) (ch:=[z,TI,TO,i1,i2]) (λb hb=>?_) (λb o _ _ hc e _=>k b o hc e) (λb o _ _ hc e _=>⟨o.slots,k b o hc e⟩) (λb o _ e n=>n)
    (λb o hc e=>⟨o,k b o hc e⟩) (λb xs e=>e) (λb o u e=>e) (λb ps e=>⟨#[],by rw [e];simp⟩) (λm hm=>?_) (λb u e=>?_) I.bare
   ·obtain ⟨_,f1,_,f3,f4,f5⟩:=hf b hb
    exact ⟨f3,f1,f4,f5⟩
   ·obtain ⟨o,es,ep,ho,r⟩:=hm
    exact ⟨o,es,ep,k _ o (λq=>(hf _ q).2.1 rfl) ho,r⟩
   ·refine (I.hok b u e).stay (λc v hc q=>k c v ?_ q) (λc q=>q) λc xs q=>q
    rcases hc with q | q
    ·rw [q];exact nf b u e
    ·exact nf c _ q
 self:=λ_ _ _ _ _ st h=>wpAny_pyIter_zip st.1 h
section
variable {X:Cx}
def aF6 (K:q0a) (ta:TA):TI:=λσ H R=>ta σ H λvs H1 => ∃ a b,vs=[.ref a,.ref b]/\(∃ xs,SqL K H1 a xs)/\(∃ ys,SqL K H1 b ys)/\R (Itz K a b) H1
theorem aq5 {elts:List Expr} {k:Nat} {tpos:Pos} {l l':Expr} {ta:TA} {p pos:Pos} (hg:Gl X "zip") (hm:X.mg "zip" = none) (ha:PA X [l,l'] ta) (hs:starEach [l,l'] X.env=[(false,eval l X.env),(false,eval l' X.env)]:=by rfl) (hs2:starEach [l'] X.env=[(false,eval l' X.env)]:=by rfl) :
  PI X (.Tuple elts k tpos) (.Call (.Name "zip" p) [l,l'] [] pos) (aF6 X.K ta):=by
 intro pins s σ H R I h;refine Call_ (ah1 I hg hm (u:=.type "zip") (by decide +kernel) (PyProof.Rows.callWith_type1 (thn (ha pos pins s σ H _ I h) λus s1 ⟨vs,H1,I1,r1,q1⟩=>?_) (by rw [hs,hs2]) (by rw [hs2];rfl)))
 obtain ⟨a,b,e,⟨xs,hq⟩,⟨ys,hq'⟩,q⟩:=q1;subst e;obtain ⟨u,u',rfl,rx,rx'⟩:=m6.two r1
 cases rx
 cases rx'
 obtain ⟨its,rv,p,hz⟩:=I1.list hq;obtain ⟨its',rv',p',hz'⟩:=I1.list hq';have a1:a<s1.heap.objs.size:=by obtain ⟨_,e,_⟩:=p.isList;exact q0g e
 have a2:b<s1.heap.objs.size:=by obtain ⟨_,e,_⟩:=p'.isList;exact q0g e
 refine call_zip_2 p.isList p'.isList λh' hz hTI hTO hi1 hi2 hsz kk=>?_;refine wpAny_pyIter_zip hz ?_;have I2:Inv X pins σ H1 { s1 with heap:=h' }:=I1.kept (t':=s1.toks) kk;refine ⟨_,_,_,_,H1,rfl,I2,aR6 a b _ _ _ _ _ (zipApart_new a1 a2),⟨hz,hTI,⟨_,_,hTO⟩,hi1,hi2⟩,λc hb=>?_,q⟩
 have hb':s1.heap.objs.size<=c:=by
  rcases (by simpa using hb:c=s1.heap.objs.size+4 \/ c=s1.heap.objs.size+2 \/ c=s1.heap.objs.size+3 \/ c=s1.heap.objs.size \/ c=s1.heap.objs.size+1) with e | e | e | e | e <;> rw [e]
  ·exact u0k _ _
  ·exact u0k _ _
  ·exact u0k _ _
  ·exact q0k _
  ·exact u0k _ _
 obtain ⟨f0,f1,f2,f3,f4,f5⟩:=I1.fpOk (H':=H1) hb' (I1.hok.fresh hb');exact ⟨f0,f1,f2,f3,f4,f5⟩
end
end L2
set_option maxRecDepth 100000
namespace R
open PySem L2 PyProof.Rows
structure BdN (k:Nat) (q:Rat):Prop where
 n:q.num.natAbs<2 ^ k
 d:q.den<2 ^ k
theorem BdN.mono {m n:Nat} {q:Rat} (h:BdN m q) (l:m<=n):BdN n q:=⟨q0d h.n (i5 l),q0d h.d (i5 l)⟩
theorem Sm.bdN {q:Rat} (s:Sm q):BdN 40 q:=⟨q0m s.n (by decide),q0m s.d (by decide)⟩
theorem BdN.zero {n:Nat} (h:1<=n):BdN n 0:=by
 have:(2:Nat) ^ 1<=2 ^ n:=i5 h;exact ⟨by show (0:Int).natAbs<_;simp;omega,by show (1:Nat)<_;omega⟩
theorem BdN.mul {m n:Nat} {p q:Rat} (a:BdN m p) (b:BdN n q):BdN (m+n) (p*q):=by
 rw [ar2];have hb:(p.den:Int)*q.den ≠ 0:=m0x (q1a (v9 p) (v9 q));obtain ⟨e1,e2⟩:=Q5 (t:=p.num*q.num) hb;rw [z0a] at e1 e2;refine ⟨q0m e1 ?_,q0m e2 ?_⟩
 ·rw [z0u];exact j0e a.n b.n
 ·rw [z0u,q0r,q0r];exact j0e a.d b.d
structure SmW (q:Rat):Prop where
 n:q.num.natAbs<2 ^ 42
 d:q.den<2 ^ 40
def scl (s:Rat) (ws:List Int):List Rat:=ws.map λw:Int=>s*(w:Rat)
def t4 (qs:List Rat):Nat:=qs.foldl (λb q=>u0n b q.den) 1
theorem aP7 (qs:List Rat) (q:Rat):t4 (qs ++ [q])=u0n (t4 qs) q.den:=by simp [t4]
theorem an6:∀ (qs:List Rat) (b m:Nat),b ∣ m->(∀ q ∈ qs,q.den ∣ m)->qs.foldl (λb q=>u0n b q.den) b ∣ m
 | [],_,_,h,_=>h
 | q :: qs,b,m,h,k=>an6 qs _ m (Nat.lcm_dvd h (k q z0g)) λr hr=>k r (q0z _ hr)
theorem ar6 {qs:List Rat} {m:Nat} (h:∀ q ∈ qs,q.den ∣ m):t4 qs ∣ m:=an6 qs 1 m (Nat.one_dvd _) h
theorem aj2:∀ (qs:List Rat) (b:Nat),b ∣ qs.foldl (λb q=>u0n b q.den) b
 | [],_=>Nat.dvd_refl _
 | q :: qs,b=>m0r (Nat.dvd_lcm_left _ _) (aj2 qs _)
theorem an5:∀ (qs:List Rat) (b:Nat) (q:Rat),q ∈ qs->q.den ∣ qs.foldl (λb q=>u0n b q.den) b
 | r :: qs,b,q,h=>by
  rcases z0n.mp h with e | e
  ·subst e;exact m0r (Nat.dvd_lcm_right _ _) (aj2 qs _)
  ·exact an5 qs _ q e
theorem ae5 {qs:List Rat} {q:Rat} (h:q ∈ qs):q.den ∣ t4 qs:=an5 qs 1 q h
def J2 (ws:List Int):Nat:=ws.foldl (λc w=>q0s w c) 0
theorem aQ1 (ws:List Int) (w:Int):J2 (ws ++ [w])=q0s w (J2 ws):=by simp [J2]
theorem an8:∀ (ws:List Int) (c:Nat),(ws.foldl (λc w=>q0s w c) c ∣ c)/\∀ w ∈ ws,((ws.foldl (λc w=>q0s w c) c:Nat):Int) ∣ w
 | [],c=>⟨Nat.dvd_refl _,by simp⟩
 | w :: ws,c=>by
  obtain ⟨h1,h2⟩:=an8 ws (q0s w c);have a1:q0s w c ∣ c:=by have:=v0e w (c:Int);exact j0s.mp this
  refine ⟨m0r h1 a1,λv hv=>?_⟩;rcases z0n.mp hv with e | e
  ·subst e
   exact Int.dvd_trans (j0s.mpr h1) (v0j v (c:Int))
  ·exact h2 v e
theorem ar8 {ws:List Int} {w:Int} (h:w ∈ ws):((J2 ws:Nat):Int) ∣ w:=(an8 ws 0).2 w h
theorem an7:∀ (ws:List Int),ws.foldl (λc w=>q0s w c) 1=1
 | []=>rfl
 | w :: ws=>by
  rw [v0q];have:q0s w ((1:Nat):Int)=1:=by simp
  rw [this,an7 ws]
theorem aV4 {ws:List Int} (i:Nat) (h:J2 (ws.take i)=1):J2 ws=1:=by
 have e:ws=ws.take i ++ ws.drop i:=(List.take_append_drop i ws).symm;rw [e];unfold J2 at h ⊢;rw [List.foldl_append,h,an7]
def z7 (B:Nat) (qs:List Rat):List Int:=qs.map λq=>q.num*(B:Int).fdiv (q.den:Int)
theorem aR3 {B:Nat} {q:Rat} (hB:0<B) (h:q.den ∣ B):q=q0w (q.num*(B:Int).fdiv (q.den:Int)) B:=by
 obtain ⟨e,he⟩:=h;have hd:(q.den:Int) ≠ 0:=by have:=q.den_nz;omega
 have e1:(B:Int).fdiv (q.den:Int)=(e:Int):=by
  rw [he,j0h];exact m4 hd
 rw [e1]
 conv=>lhs;rw [<- z0p q]
 rw [z0d hd ⋯,he,j0h]
 grind
end R
namespace L2
open PySem PySem.Spec PyProof.Rows
section
variable {K:q0a} {a b D:Addr} {xs ys:List V} {g:TG} {te:TE} {σ0:St} {H0:Hp} {Q:VK}
theorem aC0 (xs ys:List V) (Pv:Nat->St->Hp->Prop) (h0:Pv 0 σ0 H0) (hl:∀ i σ H,Pv i σ H->SqL K H a xs/\SqL K H b ys)
  (hs:∀ i x y σ H p,xs[i]? = some x->ys[i]? = some y->Pv i σ H->H p=none->g (.ref p) σ (upd H p (.tup [x,y])) λσ4 H4=>te σ4 H4 λv H5=>r6 D (min xs.length ys.length) Pv i σ4 v H5)
  (hd:∀ σ H,Pv (min xs.length ys.length) σ H->Q (.ref D) H):ao3 (Itz K a b) D σ0 H0 g te Q:=by
 refine ⟨λi m σ H=>m=min xs.length ys.length-i/\i<=min xs.length ys.length/\Pv i σ H,⟨_,rfl,z0f _,h0⟩,?_⟩;rintro i m σ H ⟨rfl,hi,p⟩;obtain ⟨q,q'⟩:=hl i σ H p
 by_cases hlt:i<min xs.length ys.length
 ·have h1:i<xs.length:=⋯
  have h2:i<ys.length:=⋯;refine .inr ⟨⟨xs,ys,xs[i],ys[i],q,q',q0c h1,q0c h2⟩,?_⟩;intro v H3 hy;obtain ⟨x,y,r,e1,e2,hr,rfl,rfl⟩:=hy xs ys q q';exact hs i x y σ _ r e1 e2 p hr
 ·have e:i=min xs.length ys.length:=⋯
  subst e;exact .inl ⟨⟨xs,ys,q,q',⋯⟩,hd σ H p⟩
theorem cw_enum (xs:List V) (Pv:Nat->St->Hp->Prop) (h0:Pv 0 σ0 H0) (hl:∀ i σ H,Pv i σ H->SqL K H a xs)
  (hs:∀ i x σ H p,xs[i]? = some x->Pv i σ H->H p=none->g (.ref p) σ (upd H p (.tup [.int i,x])) λσ4 H4=>te σ4 H4 λv H5=>r6 D xs.length Pv i σ4 v H5)
  (hd:∀ σ H,Pv xs.length σ H->Q (.ref D) H):ao3 (Ite K a) D σ0 H0 g te Q:=by
 refine ⟨λi m σ H=>m=xs.length-i/\i<=xs.length/\Pv i σ H,⟨_,rfl,z0f _,h0⟩,?_⟩;rintro i m σ H ⟨rfl,hi,p⟩;have q:=hl i σ H p
 by_cases hlt:i<xs.length
 ·refine .inr ⟨⟨xs,xs[i],q,q0c hlt⟩,?_⟩
  intro x H3 hy;obtain ⟨y,r,hy1,hr,rfl,rfl⟩:=hy xs q;exact hs i y σ _ r hy1 p hr
 ·have e:i=xs.length:=⋯
  subst e;exact .inl ⟨⟨xs,q,q0k _⟩,hd σ H p⟩
theorem aj1 {tb:TS} {E:ah5} {σ:St} {H:Hp} (xs:List V) (Pv:Nat->St->Hp->Prop) (h0:Pv 0 σ H) (hl:∀ i σ H,Pv i σ H->SqL K H a xs)
  (hs:∀ i x σ H p,xs[i]? = some x->Pv i σ H->H p=none->g (.ref p) σ (upd H p (.tup [.int i,x])) λσ2 H2=>tb { E with nx:=Pv (i+1),ct:=Pv (i+1),bk:=E.nx } σ2 H2) (hd:∀ σ H,Pv xs.length σ H->E.nx σ H) :
  ∃ W:Nat->Nat->St->Hp->Prop,(∃ m,W 0 m σ H)/\∀ i m σ H,W i m σ H ->
   ((Ite K a).stop i H/\E.nx σ H) \/ ((Ite K a).go i H/\∃ N:St->Hp->Prop,(∀ σ' H',N σ' H'->∃ m',m'<m/\W (i+1) m' σ' H')/\∀ x H',(Ite K a).yld i H x H'->g x σ H' λσ2 H2=>tb { E with nx:=N,ct:=N,bk:=E.nx } σ2 H2):=by
 refine ⟨λi m σ H=>m=xs.length-i/\i<=xs.length/\Pv i σ H,⟨_,rfl,z0f _,h0⟩,?_⟩;rintro i m σ H ⟨rfl,hi,p⟩;have q:=hl i σ H p
 by_cases hlt:i<xs.length
 ·refine .inr ⟨⟨xs,xs[i],q,q0c hlt⟩,Pv (i+1),λσ' H' n=>⟨_,⋯,rfl,hlt,n⟩,?_⟩
  intro x H3 hy;obtain ⟨y,r,hy1,hr,rfl,rfl⟩:=hy xs q;exact hs i y σ _ r hy1 p hr
 ·have e:i=xs.length:=⋯
  subst e;exact .inl ⟨⟨xs,q,q0k _⟩,hd σ H p⟩
end
end L2
set_option maxRecDepth 100000
namespace R
open PySem L2 PyProof.Rows
def j4 (f:Nat->Rat):Nat->Rat
 | 0=>0
 | n+1=>j4 f n+f n
theorem am4 (f:Nat->Rat):∀ n,j4 f (n+1)=f 0+j4 (λi=>f (i+1)) n
 | 0=>by simp only [j4];grind
 | n+1=>by
  rw [j4,am4 f n,j4];grind
theorem i4 {f g:Nat->Rat}:∀ {n},(∀ i,i<n->f i=g i)->j4 f n=j4 g n
 | 0,_=>rfl
 | n+1,h=>by rw [j4,j4,i4 λi hi=>h i ⋯,h n ⋯]
def term (p q:List Rat) (k i:Nat):Rat:=if i<=k then (p[i]?).getD 0*(q[k-i]?).getD 0 else 0
end R
namespace L2
theorem c9 {t R:TS} {D:ah5} {σ:St} {H:Hp} (P:St->Hp->Prop) (first:∀ N:St->Hp->Prop,(∀ σ H,P σ H->N σ H)->t { D with nx:=N } σ H) (ao8:∀ σ H,P σ H->R D σ H):ay5 t R D σ H:=first _ ao8
end L2
set_option maxRecDepth 100000
namespace R
section
variable {α:Type} [Lean.Grind.CommRing α]
def syn (c:α):List α->List α
 | []=>[]
 | a :: p=>match syn c p with
  | []=>[a]
  | h :: t=>(a+c*h) :: h :: t
def pass (c:α) (k:Nat) (l:List α):List α:=l.take k ++ syn c (l.drop k)
end
open PySem L2 PyProof.Rows
structure Bd6 (q:Rat):Prop where
 n:q.num.natAbs<2 ^ 6000
 d:q.den<2 ^ 6000
theorem BdN.bd6 {n:Nat} {q:Rat} (h:BdN n q) (l:n<=6000):Bd6 q:=⟨q0d h.n (i5 l),q0d h.d (i5 l)⟩
theorem an4:∀ (qs:List Rat) (b:Nat),0<b->0<qs.foldl (λb q=>u0n b q.den) b
 | [],b,h=>h
 | q :: qs,b,h=>an4 qs _ (Nat.lcm_pos h (by have:=q.den_nz;omega))
theorem ad1 (qs:List Rat):0<t4 qs:=an4 qs 1 (by decide)
theorem Y7 {f:Nat->Rat}:∀ n,(∀ i,i<n->f i=0)->j4 f n=0
 | 0,_=>rfl
 | n+1,h=>by
  rw [j4,Y7 n (λi hi=>h i ⋯),h n ⋯]
  grind
open PySem L2 PyProof.Rows
structure ClN (W:Nat) (qs:List Rat):Prop where
 l:t4 qs<2 ^ W
 w:∀ v ∈ z7 (t4 qs) qs,j0m v<2 ^ W
theorem ClN.den {W:Nat} {qs:List Rat} (h:ClN W qs) {q:Rat} (hq:q ∈ qs):q.den<2 ^ W:=q0m (v0m (ad1 qs) (ae5 hq)) h.l
theorem ClN.num {W:Nat} {qs:List Rat} (h:ClN W qs) {q:Rat} (hq:q ∈ qs):q.num.natAbs<2 ^ W:=by
 have h1:=h.w _ (z0w.mpr ⟨q,hq,rfl⟩);obtain ⟨e,he⟩:=ae5 hq;have hp:=ad1 qs;have h0:(q.den:Int) ≠ 0:=by have:=q.den_nz;omega
 have e1:(t4 qs:Int).fdiv (q.den:Int)=(e:Int):=by
  rw [he,j0h];exact m4 h0
 rw [e1,z0a,q0r] at h1;refine q0m (u0a _ ?_) h1;rcases v0u e with z | z
 ·rw [z] at he;omega
 ·exact z
theorem ClN.take {W:Nat} {qs:List Rat} (h:ClN W qs) (i:Nat):t4 (qs.take i)<2 ^ W :=
 q0m (v0m (ad1 qs) (ar6 λq hq=>ae5 (u0w hq))) h.l
theorem aq8 (v:Int) (L:Nat):q0w 1 L*(v:Rat)=q0w v L:=by
 have h1:=z0p (v:Rat);rw [v0r,v0s] at h1
 conv=>lhs;rw [<- h1]
 rw [y0g]
 simp
theorem as6 (v:Int) {L:Nat} (h:0<L):(q0w v L).den ∣ L:=by
 have hL:(L:Int) ≠ 0:=⋯;obtain ⟨_,e2⟩:=al0 (t:=v) (b:=(L:Int)) (g:=(q0s v L:Int)) hL (by rw [if_neg ⋯])
 obtain ⟨k,hk⟩:=v0e v (L:Int);have hg:=Z7 (t:=v) hL
 have e3:(L:Int).fdiv (q0s v L:Int)=k:=by
  conv=>lhs;arg 1;rw [hk]
  exact m4 ⋯
 rw [e3] at e2;have:((q0w v L).den:Int) ∣ (L:Int):=⟨_,by rw [m0w,<- e2];exact hk⟩
 exact j0s.mp this
theorem aB8 (v:Int) {L:Nat} (h:0<L):(q0w v L).num*L=v*((q0w v L).den:Int):=by
 have hL:(L:Int) ≠ 0:=⋯;have hd:((q0w v L).den:Int) ≠ 0:=by have:=(q0w v L).den_nz;omega
 exact (z0d hd hL).mp (z0p _)
theorem aQ8 {L W:Nat} {vs:List Int} (hL0:0<L) (hL:L<2 ^ W) (hv:∀ v ∈ vs,j0m v<2 ^ W):ClN W (scl (q0w 1 L) vs):=by
 have hd:t4 (scl (q0w 1 L) vs) ∣ L:=ar6 λq hq=>by
  obtain ⟨v,_,rfl⟩:=z0w.mp hq;rw [aq8];exact as6 v hL0
 have hle:=v0m hL0 hd;refine ⟨q0m hle hL,λu hu=>?_⟩;obtain ⟨q,hq,rfl⟩:=z0w.mp hu;obtain ⟨e,he⟩:=ae5 hq;have h0:(q.den:Int) ≠ 0:=by have:=q.den_nz;omega
 have e1:(t4 (scl (q0w 1 L) vs):Int).fdiv (q.den:Int)=(e:Int):=by
  rw [he,j0h];exact m4 h0
 obtain ⟨v,hvm,hvq⟩:=z0w.mp hq;rw [aq8] at hvq;have hc:=aB8 v hL0;rw [hvq] at hc
 have hc':q.num.natAbs*L=v.natAbs*q.den:=by
  have:=congrArg j0m hc
  rwa [z0a,z0a,q0r,q0r] at this
 rw [e1,z0a,q0r];refine q0m ?_ (hv v hvm)
 have h2:(q.num.natAbs*e)*L<=v.natAbs*L:=by
  calc (q.num.natAbs*e)*L=(q.num.natAbs*L)*e:=by rw [Nat.mul_right_comm]
   _=v.natAbs*(q.den*e):=by rw [hc',Nat.mul_assoc]
   _<=v.natAbs*L:=y0y _ (by rw [<- he];exact hle)
 exact Nat.le_of_mul_le_mul_right h2 hL0
open PySem L2 PyProof.Rows
structure bf2 (H:Hp) (p:Addr) (qs:List Rat):Prop where
 ex:∃ xs,H p=some (.lst xs)/\C3 H xs qs
 bd:∀ q ∈ qs,q.den<2 ^ 6000
 len:qs.length<900
 tl:aX5 qs qs.length
inductive aX3 (H:Hp):List Addr->List (List Rat)->Prop where
 | nil:aX3 H [] []
 | cons {p:Addr} {ps:List Addr} {L:List Rat} {Ls:List (List Rat)} (h:bf2 H p L) (t:aX3 H ps Ls):aX3 H (p :: ps) (L :: Ls)
theorem aJ2:∀ Ls:List (List Rat),F9 (Ls.map M7) (Ls.map M7)=true
 | []=>by simp [F9]
 | L :: Ls=>by rw [j0a,F9,aF9,aJ2 Ls];simp
theorem as5:∀ Ls:List (List Rat),ad3 (Ls.map M7)<=2
 | []=>by simp [ad3]
 | L :: Ls=>by
  have h1:=ba1 L;have h2:=as5 Ls;rw [j0a,ad3];omega
theorem Q8 {ts:List Addr} {i:Nat} {x:V} (h:(ts.map V.ref)[i]? = some x):∃ p,ts[i]? = some p/\x=.ref p:=by
 rw [q0f] at h
 cases hw:ts[i]? with
 | none=>rw [hw] at h;cases h
 | some v=>rw [hw] at h;cases h;exact ⟨v,rfl,rfl⟩
theorem an9:∀ Ls Ms:List (List Rat),F9 (Ls.map M7) (Ms.map M7)=decide (Ls=Ms)
 | [],[]=>by simp [F9]
 | [],_ :: _=>by simp [F9]
 | _ :: _,[]=>by simp [F9]
 | p :: ps,q :: qs=>by
  rw [j0a,j0a,F9,aF9,an9 ps qs]
  by_cases h1:p=q <;> by_cases h2:ps=qs <;> simp [h1,h2]
theorem am8:∀ Ls Ms:List (List Rat),X8 (Ls.map M7) (Ms.map M7)=true
 | [],[]=>by simp [X8]
 | [],_ :: _=>by simp [X8]
 | _ :: _,[]=>by simp [X8]
 | p :: ps,q :: qs=>by rw [j0a,j0a,X8,aU0,am8 ps qs];rfl
def M6 (Ls:List (List Rat)):D:=.lst (Ls.map M7)
theorem al4 (Ls Ms:List (List Rat)):eqD (M6 Ls) (M6 Ms)=decide (Ls=Ms):=by unfold M6;rw [eqD,an9]
theorem ak5 (Ls Ms:List (List Rat)):okD (M6 Ls) (M6 Ms)=true:=by unfold M6;rw [okD,am8]
theorem as4 (Ls:List (List Rat)):dpD (M6 Ls)<=60:=by unfold M6;rw [dpD];have:=as5 Ls;omega
end R
set_option maxRecDepth 100000
namespace L2
open PySem PySem.Spec PyProof.Rows
theorem ak6 {h:Heap} {a:Addr} {m:Str->Option Value} {o:Obj} (n:h.Ns a m) (e:h.get? a=some o) (v:Option Value) (z:o.data=.cell v):False:=by
 obtain ⟨o',es,ep,e',r⟩:=n;rw [e] at e'
 cases e'
 have d:=r.1;rw [d] at z;cases z
section
variable {X:Cx}
theorem Q9 {elt tg iter:Expr} {scope:Scope} {pos spos py:Pos} {y:Str} {i₀:Nat} {cl:List (Str × Addr)} {Nc:List Str} {caps:List (Option Nat)} {wi:TI} {g:TG} {te:TE} (hN:X.N.Nodup) (hi₀:X.N[i₀]? = some y) (hx:Loc X.env.scope y) (hc:X.calm=true) (cp:J3 X scope cl Nc caps) (hi:PI X tg iter wi)
  (hg:∀ C s₂ H₂ fp pins,PG (X.block scope cl C Nc s₂ H₂ fp pins) tg g) (he:∀ C s₂ H₂ fp pins,PE (X.block scope cl C Nc s₂ H₂ fp pins) elt te) (hs:∀ x,foldedSetIterable iter X.env x=pure x:=by intro _;rfl) (hsw:swapsWith (.ListComp elt [⟨tg,iter,[],0⟩] scope pos) (some (.Name y py)) spos.line X.env=pure true:=by rfl)
  (hf:X.fn y=true \/ X.env.scope.names.lookup y=some .local:=by first | exact .inl rfl | exact .inr rfl | assumption) :
  PS X (.Assign [.Name y py] (.ListComp elt [⟨tg,iter,[],0⟩] scope pos) spos) (ao6 (aC9 wi caps g te) (k9 i₀)):=by
 intro pins s σ H DD I h;rw [exec_Assign_Name_used _ _ _ _ hsw];refine wpAny_bind (wpAny_standAt (wpAny_bind ?_))
 show wpAny _ X.A (do let _ <- comprehension (.ListComp elt [⟨tg,iter,[],0⟩] scope pos) scope X.env _ (newList []) false (eval iter X.env) (some (assign (.Name y py) X.env))) _ _ s
 refine wpAny_bind (wpAny_mono (wpAny_comprehension_free (use:=some (assign (.Name y py) X.env)) (Q:=λ_ s'=>SP X pins DD .next s') rfl hs cp.clos cp.kind cp.names ?_) (λ_ s' hq=>wpAny_pure (wpAny_pure hq)) λ_ _ e=>e);refine thn (hi pins s σ H _ I h) λv s1 h1=>thn h1 λitv s2 h2=>?_;obtain ⟨it,fp,tn,J,H2,e,I2,T,st2,f2,hW⟩:=h2;subst e;refine wpAny_newObj_type ?_ (by show 0<=sizeLine;exact z0f _)
 refine wpAny_newFunctionEnv cp.nocell (by intro y hy;simp at hy) (λh4 hns hsb=>?_) cp.kind
 dsimp only at hns hsb ⊢
 generalize hH3:s2.heap.push { cls:=.type "list",dict:=none,data:=.seq ([]:List Value).toArray }=H3 at hns hsb ⊢
 have hCe:H3.objs.size=s2.heap.objs.size+1:=by rw [<- hH3,j0n]
 have M8:∀ b o,s2.heap.get? b=some o->b ≠ H3.objs.size:=λb o e=>by rw [hCe];exact q0q (v0d (q0g e))
 have old:∀ b o,s2.heap.get? b=some o->h4.get? b=some o:=λb o e=>hsb.extBut b o (M8 b o e) (q0n _ (hH3 ▸ q0n _ e))
 have hD:h4.get? s2.heap.objs.size=some { cls:=.type "list",dict:=none,data:=.seq ([]:List Value).toArray } :=
  hsb.extBut _ _ (by rw [hCe];exact q0q (j0j _)) (q0n _ (hH3 ▸ z0x _ rfl))
 have hDn:H2 s2.heap.objs.size=none:=I2.fresh;have hCn:H2 H3.objs.size=none:=I2.hok.fresh (by rw [hCe];exact j0r _)
 have hCs:s2.heap.objs.size<=H3.objs.size:=by rw [hCe];exact j0r _
 have hDC:s2.heap.objs.size ≠ H3.objs.size:=by rw [hCe];exact q0q (j0j _)
 have fpl:∀ b ∈ fp,∃ o,s2.heap.get? b=some o:=λb hb=>let ⟨o,e,_⟩:=T.obj _ _ st2 b hb;⟨o,e⟩;have fpC:∀ b ∈ fp,b ≠ H3.objs.size:=λb hb=>let ⟨o,e⟩:=fpl b hb;M8 b o e;have fpD:∀ b ∈ fp,b ≠ s2.heap.objs.size:=λb hb=>let ⟨o,e⟩:=fpl b hb;q0q (q0g e);have stkN:∀ b,b ≠ X.env.locals->b ∉ X.fs->b ∉ frs X.stack:=λb h1 h2 z=>(z0n.mp (I2.stkSub b z)).elim h1 h2;obtain ⟨W,⟨m0,w0⟩,turn⟩:=hW s2.heap.objs.size hDn
 have okB:(X.block scope cl H3.objs.size Nc s2 H2 fp pins).Ok:=by
  refine ⟨I2.ok.mod,?_,I2.ok.glob,I2.ok.blt,hCs,λx y c h1 h2=>I2.ok.inj x y c (cp.sub x c h1) (cp.sub y c h2),λx hx=>cp.has x hx,λx c h=>(by cases h),I2.ok.hd,I2.ok.frames,.inl rfl,λb hb=>⟨fpC b hb,λx c h=>(f2 b hb).2.2.2.2.1 x c (cp.sub x c h)⟩,I2.bs,q0p I2.ok.bsz I2.sz,λb o e hb=>?_,λb hb=>stkN b (f2 b hb).2.1 (f2 b hb).2.2.1,I2.stack,I2.stkFree⟩
  ·exact cp.kind
  ·rcases (f2 b hb).2.2.2.1 with z | z
   ·exact I2.ok.noex b o e z
   ·exact absurd (q0d (q0g e) (q0p I2.ok.bsz z)) (j0y _)
 have hokB:HOk X.prog X.w (upd H2 s2.heap.objs.size (.lst [])) h4:=I2.hok.laid old (q0k _) ⟨z0f _,[],_,.nil,hD⟩
 have IB:Inv (X.block scope cl H3.objs.size Nc s2 H2 fp pins) [] (A5 caps σ) (upd H2 s2.heap.objs.size (.lst [])) { s2 with heap:=h4,toks:=s2.toks+([]:List (Str × Value)).length }:=by
  refine ⟨okB,rfl,I2.bare,Un.laid old (q0k _) hDn,⟨_,hns,λi x v e1 e2 e3=>?_⟩,λx c e=>?_,(show upd H2 s2.heap.objs.size (.lst []) H3.objs.size=none by rw [c8 (Ne.symm hDC)];exact hCn),λx c e=>?_,λp hp=>?_,hokB,?_⟩
  ·unfold A5 at e2
   rw [q0f] at e2
   cases hcap:caps[i]? with
   | none=>rw [hcap] at e2;cases e2
   | some o =>
    rw [hcap] at e2
    cases o with
    | none=>cases e2
    | some j =>
     have hj:σ[j]? = some (some v):=by
      have e2':(σ[j]?).join=some v:=Option.some.inj e2
      cases q:σ[j]? with
      | none=>rw [q] at e2';cases e2'
      | some z=>rw [q] at e2';exact congrArg some e2'
     obtain ⟨n1,n2,n3,n4⟩:=cp.cap i j x hcap e1;obtain ⟨m,hm,hl⟩:=I2.loc;obtain ⟨u,r,q⟩:=hl j x v n1 hj n2;rcases q with ⟨k,_⟩ | ⟨k,c,ec,z⟩
     ·exact absurd k n3
     ·obtain ⟨c',ec'⟩:=cp.has x n4
      have:=cp.sub x c' ec';rw [ec] at this;cases this;obtain ⟨oc,ho,hd⟩:=z;exact ⟨u,r,.inr ⟨n4,c,ec',oc,old _ _ ho,hd⟩⟩
  ·obtain ⟨v,oc,ho,hd⟩:=I2.cell x c (cp.sub x c e)
   exact ⟨v,oc,old _ _ ho,hd⟩
  ·obtain ⟨v,oc,ho,hd⟩:=I2.cell x c (cp.sub x c e)
   rw [c8 (q0q (q0g ho))];exact I2.freeC x c (cp.sub x c e)
  ·have hp':p ∈ X.pn ++ pins:=by simpa using hp
   obtain ⟨e1,e2,e3,e4,e5⟩:=I2.pin p hp';exact ⟨old _ _ e1,by rw [c8 (q0q (q0g e1))];exact e2,M8 _ _ e1,stkN _ e3 e4,e5⟩
  ·show (A5 caps σ).length=Nc.length
   unfold A5;rw [q0b];exact cp.len
 have stat:∀ {H':Hp},(∀ b ∈ fp,H' b=none)->∀ b ∈ fp,aa2 (X.block scope cl H3.objs.size Nc s2 H2 fp pins) [] H' b:=λhn b hb =>
  ⟨hn b hb,fpC b hb,stkN b (f2 b hb).2.1 (f2 b hb).2.2.1,.inl hb,λx c h=>(f2 b hb).2.2.2.2.1 x c (cp.sub x c h),λp hp=>(f2 b hb).2.2.2.2.2 p (by simpa using hp)⟩
 have loop:∀ s5:Shared,s5={ s2 with heap:=h4,toks:=s2.toks+([]:List (Str × Value)).length } ->
   codeAny (model X.prog X.w) X.A (.compLoop (.ListComp elt [⟨tg,iter,[],0⟩] scope pos) 0 (.ref it) (.ref s2.heap.objs.size) (compEnvC scope cl H3.objs.size X.env))
    (compPost (model X.prog X.w) X.A X.xe (some (assign (.Name y py) X.env)) (λ_ s'=>SP X pins DD .next s') (.ref s2.heap.objs.size) H3.objs.size) s5:=by
  rintro s5 rfl;refine ae7 (λn s' => ∃ i σ' H',Inv (X.block scope cl H3.objs.size Nc s2 H2 fp pins) [] σ' H' s'/\tn i s'.heap/\(∀ b ∈ fp,H' b=none)/\W i n σ' H') ?_ m0 ⟨0,_,_,IB,T.keep _ _ _ st2 λb hb o e=>old b o e,λb hb=>by rw [c8 (fpD b hb)];exact (f2 b hb).1,w0⟩
  rintro n s6 ⟨i,σ6,H6,I6,st6,fr6,w6⟩;rcases turn i n σ6 H6 w6 with ⟨stop,qn⟩ | ⟨go,step⟩
  ·refine thn (T.done (X.block scope cl H3.objs.size Nc s2 H2 fp pins) rfl rfl rfl hc i [] s6 σ6 H6 _ I6 (stat fr6) st6 stop) λr s7 zq=>?_
   obtain ⟨hr,I7⟩:=zq;subst hr;obtain ⟨m7,hn7,_⟩:=id I7.loc;have Io:Inv X pins σ H6 s7:=I2.sameC (h'':=s7.heap) f2 I7.os I7.bare I7.base I7.hok hCs I7.free ⟨rfl,λ_ _=>rfl⟩;have fC:aa2 X pins H6 H3.objs.size:=I2.fpOk hCs I7.free;have fC':∀ b ∈ [H3.objs.size],aa2 X pins H6 b:=λb hb=>by rw [z0c.mp hb];exact fC
   obtain ⟨oC,esC,epC,hoC,restC⟩:=id hn7
   have obC:∀ b ∈ [H3.objs.size],∃ o,s7.heap.get? b=some o/\∀ v,o.data ≠ .cell v:=λb hb=>by
    rw [z0c.mp hb];exact ⟨oC,hoC,λv z=>ak6 hn7 hoC v z⟩
   have Ip:=Io.pinned fC' obC
   show wpAny (model X.prog X.w) X.A (assign (.Name y py) X.env (.ref s2.heap.objs.size)) _ _ s7;refine thn (c6 (pos:=py) hN hi₀ hx hf _ s7 σ H6 (.ref s2.heap.objs.size) (.ref s2.heap.objs.size) DD.nx Ip rfl qn) λ_ s9 zq=>?_;obtain ⟨σ9,H9,I9,q9⟩:=zq;have keepC:=(I9.pin (H3.objs.size,oC) (q0e _ (q0e _ (m3 (by simp) hoC)))).1
   have H9C:=(I9.pin (H3.objs.size,oC) (q0e _ (q0e _ (m3 (by simp) hoC)))).2.1
   refine ⟨m7,hn7.at' λo e=>by rw [hoC] at e;cases e;exact keepC,λh' sb=>?_⟩
   obtain ⟨_,g1,g2,g3,g4,g5⟩:=fC;exact ⟨σ9,H9,I9.unpinned.turned (t':=s9.toks) (λb o hb e=>(sb.2 b hb).trans e) H9C g1 g3 g4 g5,q9⟩
  ·refine thn (T.item (X.block scope cl H3.objs.size Nc s2 H2 fp pins) rfl rfl rfl hc i [] s6 σ6 H6 _ I6 (stat fr6) st6 go) λr s7 zq=>?_
   obtain ⟨u,hr,h7⟩:=zq;subst hr;refine thn h7 λ_ s8 zq=>?_;obtain ⟨x,H8,I8,r8,y8,st8,fr8⟩:=zq;have I8':=I8.pinned (stat fr8) (T.obj _ _ st8);refine thn (hg _ _ _ _ _ _ s8 σ6 H8 x u _ I8' r8 (step x H8 y8)) λ_ s9 zq=>?_;obtain ⟨σ9,H9,I9,q9⟩:=zq;refine thn (he _ _ _ _ _ _ s9 σ9 H9 _ I9 q9) λu10 s10 zq=>?_;obtain ⟨v10,H10,I10,r10,ys,hys,hlen,m',hm',w'⟩:=zq;refine thn (B9 _ s10 σ9 H10 (.ref s2.heap.objs.size) [v10] (.ref s2.heap.objs.size) [u10] (λ_ H11=>H11=upd H10 s2.heap.objs.size (.lst (ys ++ [v10]))) I10 rfl (.cons r10 .nil) ⟨_,ys,v10,rfl,rfl,hys,hlen,rfl⟩) λ_ s11 zq=>?_;obtain ⟨_,H11,I11,_,hH11⟩:=zq;subst hH11;refine ⟨m',hm',i+1,σ9,_,I11.unpinned,T.keep _ _ _ st8 λb hb o e=>(I11.pin (b,o) (q0e _ (q0e _ (m3 hb e)))).1,λb hb=>?_,w'⟩;obtain ⟨o,e,d⟩:=T.obj _ _ st8 b hb;exact (I11.pin (b,o) (q0e _ (q0e _ (m3 hb e)))).2.1
 exact codeAny_compStart_list (loop _ rfl) (T.self _ 0 _ _ _ (T.keep _ _ _ st2 λb hb o e=>old b o e) (loop _ rfl))
end
def aD6 (K:q0a):List V->Hp->VK->Prop:=λxs H Q => ∃ p ys,xs=[.ref p]/\(SqL K H p ys \/ SqT K H p ys)/\Q (.int ys.length) H
end L2
set_option maxRecDepth 100000
namespace R
open PySem L2 PyProof.Rows
theorem ad5 (xs:List V) {n:Nat} (h:n<=xs.length):aC1 xs (some (n:Int)) none=xs.drop n:=by
 unfold aC1
 have e1:HT.sIx xs.length 0 (some (n:Int))=n:=by
  simp only [HT.sIx];rw [if_neg ⋯];omega
 have e2:HT.sIx xs.length xs.length none=xs.length:=rfl;rw [e1,e2,v0c (by rw [j0w];omega)]
theorem d9 {α:Type} {l:List α} {i:Nat} {x:α} (h:l[i]? = some x):l.take (i+1)=l.take i ++ [x]:=by rw [v0z,h];rfl
theorem p9.seq {K:q0a} {u:Addr} {H H':Hp} {b:Addr} {xs:List V} (s:p9 u H H') (hu:H u=none) (h:SqL K H b xs):SqL K H' b xs:=by
 rcases h with h | h
 ·rcases h with h | ⟨o,h⟩
  ·exact .inl (.inl (s _ _ h (c7 h hu)))
  ·exact .inl (.inr ⟨o,s _ _ h (c7 h hu)⟩)
 ·exact .inr h
def aK9 (K:q0a):Sp:=λvs H Q _ => ∃ (a:Addr) (ns:List Int),vs=[.ref a]/\SqL K H a (ns.map V.int)/\ns.length<=63/\∀ H',Q (.bl true) H'
structure ExT (K:q0a) (mg:Str->Option Value) (x:Str) (C:Addr):Prop where
 m:mg x=some (.ref C)
 ox:ba6 K C [.type "ValueError",.type "Exception",.type "BaseException",.type "object"] "ValueError.__new__"
 ec:at4 K C
structure CAd where
 c_NoFraction:Addr
 c_NoPolynomial:Addr
 c_NoStretch:Addr
 c_NoRow:Addr
 c_NoPair:Addr
 c_NoBack:Addr
 c_NoForm:Addr
 c_NoParts:Addr
 c_NoDegree:Addr
 c_NoSteps:Addr
 c_NoBox:Addr
 c_NoGain:Addr
 c_NoText:Addr
 c_NoLine:Addr
 c_NoName:Addr
 c_NoDeed:Addr
 c_RestError:Addr
structure XTx (K:q0a) (mg:Str->Option Value) (a:CAd):Prop where
 x_NoFraction:ExT K mg "NoFraction" a.c_NoFraction
 x_NoPolynomial:ExT K mg "NoPolynomial" a.c_NoPolynomial
 x_NoStretch:ExT K mg "NoStretch" a.c_NoStretch
 x_NoRow:ExT K mg "NoRow" a.c_NoRow
 x_NoPair:ExT K mg "NoPair" a.c_NoPair
 x_NoBack:ExT K mg "NoBack" a.c_NoBack
 x_NoForm:ExT K mg "NoForm" a.c_NoForm
 x_NoParts:ExT K mg "NoParts" a.c_NoParts
 x_NoDegree:ExT K mg "NoDegree" a.c_NoDegree
 x_NoSteps:ExT K mg "NoSteps" a.c_NoSteps
 x_NoBox:ExT K mg "NoBox" a.c_NoBox
 x_NoGain:ExT K mg "NoGain" a.c_NoGain
 x_NoText:ExT K mg "NoText" a.c_NoText
 x_NoLine:ExT K mg "NoLine" a.c_NoLine
 x_NoName:ExT K mg "NoName" a.c_NoName
 x_NoDeed:ExT K mg "NoDeed" a.c_NoDeed
structure ba7 (K:q0a) (a:CAd) (C:Addr) (j:Nat):Prop where
 k_NoFraction:z0b K (.ref C) (.ref a.c_NoFraction)=some (decide (j=0))
 k_NoPolynomial:z0b K (.ref C) (.ref a.c_NoPolynomial)=some (decide (j=1))
 k_NoStretch:z0b K (.ref C) (.ref a.c_NoStretch)=some (decide (j=2))
 k_NoRow:z0b K (.ref C) (.ref a.c_NoRow)=some (decide (j=3))
 k_NoPair:z0b K (.ref C) (.ref a.c_NoPair)=some (decide (j=4))
 k_NoBack:z0b K (.ref C) (.ref a.c_NoBack)=some (decide (j=5))
 k_NoForm:z0b K (.ref C) (.ref a.c_NoForm)=some (decide (j=6))
 k_NoParts:z0b K (.ref C) (.ref a.c_NoParts)=some (decide (j=7))
 k_NoDegree:z0b K (.ref C) (.ref a.c_NoDegree)=some (decide (j=8))
 k_NoSteps:z0b K (.ref C) (.ref a.c_NoSteps)=some (decide (j=9))
 k_NoBox:z0b K (.ref C) (.ref a.c_NoBox)=some (decide (j=10))
 k_NoGain:z0b K (.ref C) (.ref a.c_NoGain)=some (decide (j=11))
 k_NoText:z0b K (.ref C) (.ref a.c_NoText)=some (decide (j=12))
 k_NoLine:z0b K (.ref C) (.ref a.c_NoLine)=some (decide (j=13))
 k_NoName:z0b K (.ref C) (.ref a.c_NoName)=some (decide (j=14))
 k_NoDeed:z0b K (.ref C) (.ref a.c_NoDeed)=some (decide (j=15))
 kV:z0b K (.ref C) (.type "ValueError")=some true
 ec:at4 K C
 ex:PySem.W.exmOne K (.ref C) (.ref a.c_RestError)=some true
def aI5 (j:Nat):Str:=[("fraction" : Str),"polynomial","stretch","row","pair","back","form","parts","degree","steps","box","gain","text","line","name","deed"].getD j ""
def ah8 (K:q0a) (a:CAd):Sp:=λvs H Q _ => ∃ e C j,vs=[.ref e]/\ba7 K a C j/\j<16/\H e=some (Exc (.ref C) e)/\∀ H',c5 H H'->Q (.str (aI5 j)) H'
def aR8 (j:Nat):List V:=[V.bl (decide (j=0)),V.bl (decide (j=1)),V.bl (decide (j=2)),V.bl (decide (j=3))] ++ [V.bl (decide (j=4)),V.bl (decide (j=5)),V.bl (decide (j=6)),V.bl (decide (j=7))] ++ [V.bl (decide (j=8)),V.bl (decide (j=9)),V.bl (decide (j=10)),V.bl (decide (j=11))] ++ [V.bl (decide (j=12)),V.bl (decide (j=13)),V.bl (decide (j=14)),V.bl (decide (j=15))]
theorem aG7:∀ j,j<16->(aR8 j).countP (λz=>eqV z (V.bl true))=1:=by decide
theorem aR7:∀ j,j<16->(aR8 j).findIdx? (λz=>eqV z (V.bl true))=some j:=by decide
theorem av7:∀ j,j<16->(aR8 j).all T2=true:=by decide
theorem am7:ae4 "fraction polynomial stretch row pair back form parts degree steps box gain text line name deed" " " = [("fraction" : Str),"polynomial","stretch","row","pair","back","form","parts","degree","steps","box","gain","text","line","name","deed"]:=by decide +kernel
theorem aZ0 {j:Nat} (hj:j<16):atI ((ae4 "fraction polynomial stretch row pair back form parts degree steps box gain text line name deed" " ").map V.str) (j:Int)=some (.str (aI5 j)):=by
 rw [am7];refine j3 ?_;have:∀ j,j<16->((["fraction","polynomial","stretch","row","pair","back","form","parts","degree","steps","box","gain","text","line","name","deed"]:List Str).map V.str)[j]? = some (.str (aI5 j)):=by decide
 exact this j hj
end R
namespace L2
open PySem PyProof.Rows
end L2
set_option maxRecDepth 100000
namespace R
open PySem L2 PyProof.Rows
mutual
def noU:D->Bool
 | .v _=>true
 | .tup ds=>bd1 ds
 | .lst ds=>(ds.length != 3) && bd1 ds
def bd1:List D->Bool
 | []=>true
 | d :: ds=>noU d && bd1 ds
end
end R
set_option maxRecDepth 100000
namespace L2
open PySem PySem.Spec PyProof.Rows
def au0 (K:q0a):List V->Hp->VK->Prop:=λxs H Q => ∃ p ys,xs=[.ref p]/\(SqL K H p ys \/ SqT K H p ys)/\∀ l,H l=none->Q (.ref l) (upd H l (.lst ys))
open PySem PyProof.Rows
theorem aZ4 {K:q0a} {a b:Addr} {g:TG} {tb:TS} {E:ah5} {σ:St} {H:Hp} (xs ys:List V) (Pv:Nat->St->Hp->Prop) (h0:Pv 0 σ H) (hl:∀ i σ H,Pv i σ H->SqL K H a xs/\SqL K H b ys)
  (hs:∀ i x y σ H p,xs[i]? = some x->ys[i]? = some y->Pv i σ H->H p=none->g (.ref p) σ (upd H p (.tup [x,y])) λσ2 H2=>tb { E with nx:=Pv (i+1),ct:=Pv (i+1),bk:=E.nx } σ2 H2) (hd:∀ σ H,Pv (min xs.length ys.length) σ H->E.nx σ H) :
  ∃ W:Nat->Nat->St->Hp->Prop,(∃ m,W 0 m σ H)/\∀ i m σ H,W i m σ H ->
   ((Itz K a b).stop i H/\E.nx σ H) \/ ((Itz K a b).go i H/\∃ N:St->Hp->Prop,(∀ σ' H',N σ' H'->∃ m',m'<m/\W (i+1) m' σ' H')/\∀ x H',(Itz K a b).yld i H x H'->g x σ H' λσ2 H2=>tb { E with nx:=N,ct:=N,bk:=E.nx } σ2 H2):=by
 refine ⟨λi m σ H=>m=min xs.length ys.length-i/\i<=min xs.length ys.length/\Pv i σ H,⟨_,rfl,z0f _,h0⟩,?_⟩;rintro i m σ H ⟨rfl,hi,p⟩;obtain ⟨q,q'⟩:=hl i σ H p
 by_cases hlt:i<min xs.length ys.length
 ·have h1:i<xs.length:=⋯
  have h2:i<ys.length:=⋯;refine .inr ⟨⟨xs,ys,xs[i],ys[i],q,q',q0c h1,q0c h2⟩,Pv (i+1),λσ' H' n=>⟨_,⋯,rfl,⋯,n⟩,?_⟩;intro v H3 hy;obtain ⟨x,y,r,e1,e2,hr,rfl,rfl⟩:=hy xs ys q q';exact hs i x y σ _ r e1 e2 p hr
 ·have e:i=min xs.length ys.length:=⋯
  subst e;exact .inl ⟨⟨xs,ys,q,q',⋯⟩,hd σ H p⟩
end L2
namespace R
open PySem L2 PyProof.Rows
inductive Rws (H:Hp):List Addr->List (List Rat)->Prop where
 | nil:Rws H [] []
 | cons {p:Addr} {xs:List V} {ps:List Addr} {L:List Rat} {Ls:List (List Rat)} (h:H p=some (.lst xs)) (n:C3 H xs L) (t:Rws H ps Ls):Rws H (p :: ps) (L :: Ls)
theorem Rws.length {H:Hp}:∀ {ts:List Addr} {M:List (List Rat)},Rws H ts M->ts.length=M.length
 | _,_,.nil=>rfl
 | _,_,.cons _ _ t=>congrArg (· + 1) t.length
theorem Rws.same {H H':Hp} (s:c5 H H'):∀ {ts:List Addr} {M:List (List Rat)},Rws H ts M->Rws H' ts M
 | _,_,.nil=>.nil
 | _,_,.cons h n t=>.cons (s _ _ h) (n.mono s.tups) (t.same s)
theorem Rws.samex {u:Addr} {H H':Hp} (s:p9 u H H') (hu:p8 H u):∀ {ts:List Addr} {M:List (List Rat)},(∀ t ∈ ts,t ≠ u)->Rws H ts M->Rws H' ts M
 | _,_,_,.nil=>.nil
 | _,_,hn,.cons h n t=>.cons (s _ _ h (hn _ z0g)) (n.mono (s.tups hu)) (t.samex s hu λx hx=>hn x (q0z _ hx))
theorem Rws.over {H:Hp} {l:Addr} {xs:List V} {o:HO} (hl:H l=some (.lst xs)):∀ {ts:List Addr} {M:List (List Rat)},l ∉ ts->Rws H ts M->Rws (upd H l o) ts M
 | _,_,_,.nil=>.nil
 | _,_,hn,.cons h n t=>.cons (by rw [c8 (λz=>hn (by rw [<- z];exact z0g))];exact h) (n.mono (W5.lst hl)) (t.over hl λz=>hn (q0z _ z))
theorem Rws.append {H:Hp}:∀ {ts us:List Addr} {M N:List (List Rat)},Rws H ts M->Rws H us N->Rws H (ts ++ us) (M ++ N)
 | _,_,_,_,.nil,h=>h
 | _,_,_,_,.cons h n t,k=>.cons h n (t.append k)
theorem Rws.get {H:Hp}:∀ {ts:List Addr} {M:List (List Rat)} {i:Nat} {p:Addr},Rws H ts M->ts[i]? = some p->∃ xs L,M[i]? = some L/\H p=some (.lst xs)/\C3 H xs L
 | _,_,_,_,.nil,e=>by simp at e
 | _,_,0,_,.cons h n _,e=>by cases e;exact ⟨_,_,rfl,h,n⟩
 | _,_,i+1,_,.cons _ _ t,e=>t.get (i:=i) (by simpa using e)
theorem Rws.isDs {K:q0a} {H:Hp}:∀ {ts:List Addr} {M:List (List Rat)},Rws H ts M->Y3 K H (ts.map V.ref) (M.map M7)
 | _,_,.nil=>.nil
 | _,_,.cons h n t=>.cons (aV1 (SqL.of h) n) t.isDs
def M4 (p q:List Rat):Rat:=(g0n (· * ·) p q).foldl (· + ·) 0
theorem ax2 (l:List Rat):∀ a:Rat,l.foldl (· + ·) a=a+l.foldl (· + ·) 0:=by
 induction l with
 | nil=>intro a;simp;grind
 | cons x l ih =>
  intro a;rw [v0q,v0q,ih (a+x),ih (0+x)];grind
theorem aQ5 {p q:List Rat} (n:Nat) {x y:Rat} (hx:p[n]? = some x) (hy:q[n]? = some y):M4 (p.take (n+1)) (q.take (n+1))=M4 (p.take n) (q.take n)+x*y:=by
 have h1:n<p.length:=(q0h.mp hx).1;have h2:n<q.length:=(q0h.mp hy).1;unfold M4;rw [d9 hx,d9 hy,m0u (by rw [q0x,q0x];omega)]
 simp
end R
set_option maxRecDepth 100000
namespace L2
open PySem PySem.Spec PyProof.Rows
theorem J4 {M:Model} {A:Around} {E:Value->Shared->Prop} {s:Shared} {scope:Scope} {globals:Addr} {cl:List (Str × Addr)} {qual:Str} {func:Option Addr} {code:Value} {outer:Env} {Q:Env->Shared->Prop}
  (hQ:Q { scope,locals:=s.heap.objs.size,globals,cells:=cellsFrom (s.heap.objs.size+1) scope.names cl,qual,func,code:=outer.code,frame:=outer.frame,builtins:=outer.builtins }
   { s with heap:=pushCells (s.heap.push { cls:=.type "dict",data:=.dict #[] }) scope.names }) :
  wpAny M A (newFunctionEnv scope globals cl [] qual func code (some outer)) Q E s:=by
 simp only [newFunctionEnv,Option.isSome_some,if_true];refine wpAny_bind (wpAny_alloc ?_);refine wpAny_bind (wpAny_layCells _ (λname kind cells=>by cases hkc:kind == NameKind.cell <;> simp [hkc]) _ _ _ _ ?_)
 rw [show ({ s with heap:=s.heap.push { cls:=.type "dict",data:=.dict #[] } }:Shared).heap.objs.size=s.heap.objs.size+1 from j0n ..]
 rw [List.forIn_nil];exact wpAny_bind (wpAny_pure (wpAny_pure hQ))
structure aX4 (h h':Heap) (names:List (Str × NameKind)) (acc cs:List (Str × Addr)):Prop where
 cell:∀ x c,cs.lookup x=some c->∃ v,h'.IsCell c v
 inj:∀ x y c,cs.lookup x=some c->cs.lookup y=some c->x=y
 old:∀ x c,cs.lookup x=some c->acc.lookup x=some c \/ h.objs.size<=c
 fresh:∀ x,(x,NameKind.cell) ∈ names->∀ c,cs.lookup x=some c->h.objs.size<=c
theorem Y0 {x name:Str} {a c:Addr} {acc:List (Str × Addr)} (h:((name,a) :: acc).lookup x=some c):(x=name/\c=a) \/ (x ≠ name/\acc.lookup x=some c):=by
 rw [y0v] at h
 by_cases e:x=name
 ·subst e
  simp at h
  exact .inl ⟨rfl,h.symm⟩
 ·have:(x == name)=false:=by simpa using e
  rw [this] at h;exact .inr ⟨e,h⟩
theorem ae8 : ∀ (names : List (Str × NameKind)) (h : Heap) (acc : List (Str × Addr)), (∀ x c, acc.lookup x = some c → ∃ v, h.IsCell c v) → (∀ x y c, acc.lookup x = some c → acc.lookup y = some c → x = y) →
    aX4 h (pushCells h names) names acc (cellsFrom h.objs.size names acc)
  | [],h,acc,hc,hi=>⟨hc,hi,λ_ _ e=>.inl e,λ_ hm=>by cases hm⟩
  | (name,kind) :: r,h,acc,hc,hi=>by
    unfold pushCells cellsFrom
    split
    · have ih := ae8 r (h.push { cls := .type "cell", data := .cell none }) ((name, h.objs.size) :: acc)
        (λx c e=>by
          rcases Y0 e with ⟨_,e2⟩ | ⟨_,e2⟩
          · subst e2;exact ⟨none,_,Heap.get?_push_size _ rfl,rfl⟩
          · obtain ⟨v,z⟩:=hc x c e2
            exact ⟨v,z.keeps λb o e=>Heap.get?_push_of_some _ e⟩)
        (λx y c e1 e2=>by
          rcases Y0 e1 with ⟨a1,a2⟩ | ⟨a1,a2⟩ <;> rcases Y0 e2 with ⟨b1,b2⟩ | ⟨b1,b2⟩
          · rw [a1,b1]
          · obtain ⟨v,z⟩:=hc y c b2
            exact absurd z.lt (by rw [a2];exact Nat.lt_irrefl _)
          · obtain ⟨v,z⟩:=hc x c a2
            exact absurd z.lt (by rw [b2];exact Nat.lt_irrefl _)
          · exact hi x y c a2 b2)
      rw [Heap.size_push] at ih;refine ⟨ih.cell,ih.inj,λx c e=>?_,λx hm c e=>?_⟩
      · rcases ih.old x c e with z | z
        · rcases Y0 z with ⟨_,e2⟩ | ⟨_,e2⟩
          · exact .inr (by rw [e2];exact Nat.le_refl _)
          · exact .inl e2
        · rw [Heap.size_push] at z
          exact .inr (Nat.le_of_succ_le z)
      · rcases List.mem_cons.mp hm with z | z
        · cases z
          rcases ih.old _ c e with z | z
          · rcases Y0 z with ⟨_,e2⟩ | ⟨e1,_⟩
            · rw [e2];exact Nat.le_refl _
            · exact absurd rfl e1
          · rw [Heap.size_push] at z
            exact Nat.le_of_succ_le z
        · have:=ih.fresh x z c e
          rw [Heap.size_push] at this;exact Nat.le_of_succ_le this
    · rename_i hk
      have ih:=ae8 r h acc hc hi;refine ⟨ih.cell,ih.inj,ih.old,λx hm c e=>?_⟩;rcases List.mem_cons.mp hm with z | z
      · cases z;exact absurd rfl hk
      · exact ih.fresh x z c e
theorem aa0 {x:Str}:∀ (names:List (Str × NameKind)) (n:Nat) (acc:List (Str × Addr)),(x,NameKind.cell) ∉ names->(cellsFrom n names acc).lookup x=acc.lookup x
 | [],_,_,_=>rfl
 | (name,kind) :: r,n,acc,h=>by
  unfold cellsFrom;have hr:(x,NameKind.cell) ∉ r:=λz=>h (q0z _ z)
  split
  ·rename_i hk
   rw [aa0 r _ _ hr,y0v]
   have:(x == name)=false:=by
    refine beq_eq_false_iff_ne.mpr λe=>h ?_;subst e;rw [<- beq_iff_eq.mp hk];exact z0g
   rw [this]
  ·exact aa0 r _ _ hr
theorem W3 {x:Str}:∀ (names:List (Str × NameKind)) (n:Nat) (acc:List (Str × Addr)),((x,NameKind.cell) ∈ names \/ ∃ c,acc.lookup x=some c)->∃ c,(cellsFrom n names acc).lookup x=some c
 | [],_,_,h=>h.elim (λz=>by cases z) id
 | (name,kind) :: r,n,acc,h=>by
  unfold cellsFrom
  have up:(∃ c,acc.lookup x=some c)->∃ c,((name,n) :: acc).lookup x=some c:=λ⟨c,e⟩=>by
   rw [y0v]
   split
   ·exact ⟨_,rfl⟩
   ·exact ⟨c,e⟩
  split
  ·refine W3 r _ _ ?_
   rcases h with z | z
   ·rcases z0n.mp z with z | z
    ·cases z
     exact .inr ⟨n,by simp⟩
    ·exact .inl z
   ·exact .inr (up z)
  ·rename_i hk
   refine W3 r _ _ ?_;rcases h with z | z
   ·rcases z0n.mp z with z | z
    ·cases z;exact absurd rfl hk
    ·exact .inl z
   ·exact .inr z
def aP3 (scope:Scope) (x:Str):Bool:=scope.names.any λy=>y.1 == x && y.2 == .cell
theorem aA1 {scope:Scope} {x:Str} (h:aP3 scope x=true):(x,NameKind.cell) ∈ scope.names:=by
 unfold aP3 at h;obtain ⟨⟨a,k⟩,hm,hh⟩:=List.any_eq_true.mp h;simp only [j0t,beq_iff_eq] at hh;obtain ⟨rfl,rfl⟩:=hh;exact hm
abbrev Cx.blockC (X:Cx) (scope:Scope) (cl:List (Str × Addr)) (C:Addr) (Nc:List Str) (s₂:Shared) (H₂:Hp) (fp:List Addr) (pins:List (Addr × Obj)):Cx :=
 { X with N:=Nc,s₀:=s₂,H₀:=H₂,env:=compEnvC scope (cellsFrom (C+1) scope.names cl) C X.env,outer:=X.stack,ex:=fp,fn:=aP3 scope,pn:=X.pn ++ pins,xe:=λ_ _=>False }
structure ag1 (X:Cx) (scope:Scope) (cl:List (Str × Addr)) (Nc:List Str) (caps:List (Option Nat)):Prop where
 clos:closureFor scope X.env=pure cl
 sub:∀ x c,cl.lookup x=some c->X.env.cells.lookup x=some c
 has:∀ n x,(relabel scope X.env).names.lookup x=some .cell \/ (relabel scope X.env).names.lookup x=some .free->∃ c,(cellsFrom n scope.names cl).lookup x=some c
 kind:scope.kind=.function
 names:∀ x ∈ scope.names,x.2=.local->scope.names.lookup x.1=some .local
 len:caps.length=Nc.length
 cap:∀ (i j:Nat) (x:Str),caps[i]? = some (some j)->Nc[i]? = some x->X.N[j]? = some x/\Vis X.env.scope x/\X.env.kindOf x ≠ some .local/\((relabel scope X.env).names.lookup x=some .cell \/ (relabel scope X.env).names.lookup x=some .free) /\
  (∃ c,cl.lookup x=some c)/\∀ n c,cl.lookup x=some c->(cellsFrom n scope.names cl).lookup x=some c
def aN6 (scope osc:Scope) (N ks Nc:List Str) (caps:List (Option Nat)):Bool :=
 ((O4 scope osc).all λy => !(y.2 == .cell || y.2 == .free) || ks.contains y.1 || aP3 scope y.1) && scope.kind == .function &&
 (scope.names.all λy=>y.2 != .local || scope.names.lookup y.1 == some .local) && caps.length == Nc.length &&
 ((caps.zip Nc).all λp=>match p.1 with
  | none=>true
  | some j=>N[j]? == some p.2 && aP9 (osc.names.lookup p.2) && aP9 ((O4 scope osc).lookup p.2) && ks.contains p.2 && !aP3 scope p.2)
theorem ag1.of {X:Cx} {scope osc:Scope} {cl:List (Str × Addr)} {N ks Nc:List Str} {caps:List (Option Nat)} (clos:closureFor scope X.env=pure cl) (hN:X.N=N) (hosc:X.env.scope=osc) (hks:cl.map (·.1)=ks)
  (sub:∀ x c,cl.lookup x=some c->X.env.cells.lookup x=some c) (ok:aN6 scope osc N ks Nc caps=true):ag1 X scope cl Nc caps:=by
 unfold aN6 at ok;simp only [j0t,g0k,beq_iff_eq,g0z,y0k,bne_iff_ne,ne_eq] at ok;obtain ⟨⟨⟨⟨o1,o3⟩,o4⟩,o5⟩,o6⟩:=ok;have er:(relabel scope X.env).names=O4 scope osc:=by subst hosc;rfl
 have kof:∀ x,X.env.kindOf x=osc.names.lookup x:=λx=>by subst hosc;rfl
 refine ⟨clos,sub,λn x h=>?_,o3,λx hx hl=>?_,o5,λi j x h1 h2=>?_⟩
 ·rw [er] at h
  have key:∀ k,(O4 scope osc).lookup x=some k->(k=.cell \/ k=.free)->∃ c,(cellsFrom n scope.names cl).lookup x=some c:=λk hk hcf=>by
   refine W3 _ _ _ ?_;rcases o1 (x,k) (ah0 hk) with (z | z) | z
   ·rcases hcf with rfl | rfl <;> simp at z
   ·refine .inr (N9 ?_)
    rw [hks];simpa using z
   ·exact .inl (aA1 z)
  rcases h with h | h
  ·exact key _ h (.inl rfl)
  ·exact key _ h (.inr rfl)
 ·rcases o4 x hx with z | z
  ·exact absurd hl z
  ·exact z
 ·have hm:(some j,x) ∈ caps.zip Nc:=by
   have:(caps.zip Nc)[i]? = some (some j,x):=by
    rw [g0g];exact ⟨h1,h2⟩
   exact q0j this
  have z:=o6 _ hm;simp only [j0t,beq_iff_eq,y0k] at z;obtain ⟨⟨⟨⟨z1,z2⟩,z3⟩,z4⟩,z5⟩:=z;have c2:=ap8 z2;have c3:=ap8 z3;refine ⟨by rw [hN];exact z1,?_,?_,?_,N9 (by rw [hks];simpa using z4),λn c e=>?_⟩
  ·rw [hosc]
   rcases c2 with c | c
   ·exact .inr (.inl c)
   ·exact .inr (.inr c)
  ·rw [kof]
   rcases c2 with c | c <;> rw [c] <;> decide
  ·rw [er];exact c3
  ·rw [aa0 _ _ _ λhm=>?_]
   ·exact e
   ·have:aP3 scope x=true:=List.any_eq_true.mpr ⟨_,hm,by simp⟩
    rw [z5] at this;cases this
section
variable {X:Cx}
theorem ac2 {elt tg iter:Expr} {scope:Scope} {pos:Pos} {cl:List (Str × Addr)} {Nc:List Str} {caps:List (Option Nat)} {wi:TI} {g:TG} {te:TE} (hc:X.calm=true) (cp:ag1 X scope cl Nc caps) (hi:PI X tg iter wi)
  (hg:∀ C s₂ H₂ fp pins,PG (X.blockC scope cl C Nc s₂ H₂ fp pins) tg g) (he:∀ C s₂ H₂ fp pins,PE (X.blockC scope cl C Nc s₂ H₂ fp pins) elt te) (hs:∀ x,foldedSetIterable iter X.env x=pure x:=by intro _;rfl) :
  PE X (.ListComp elt [⟨tg,iter,[],0⟩] scope pos) (aC9 wi caps g te):=by
 intro pins s σ H Q I h;rw [eval_ListComp];refine wpAny_comprehension_free (use:=none) rfl hs cp.clos cp.kind cp.names ?_;refine thn (hi pins s σ H _ I h) λv s1 h1=>thn h1 λitv s2 h2=>?_;obtain ⟨it,fp,tn,J,H2,e,I2,T,st2,f2,hW⟩:=h2;subst e;refine wpAny_newObj_type ?_ (by show 0<=sizeLine;exact z0f _)
 refine J4 ?_
 dsimp only
 generalize hH3:s2.heap.push { cls:=.type "list",dict:=none,data:=.seq ([]:List Value).toArray }=H3
 have hCe:H3.objs.size=s2.heap.objs.size+1:=by rw [<- hH3,j0n]
 have M8:∀ b o,s2.heap.get? b=some o->b ≠ H3.objs.size:=λb o e=>by rw [hCe];exact q0q (v0d (q0g e))
 have hns0:=(Heap.Ns.new H3 (.type "dict")).keeps (pushCells_keeps scope.names _)
 have old0:∀ b o,s2.heap.get? b=some o->(pushCells (H3.push { cls:=.type "dict",data:=.dict #[] }) scope.names).get? b=some o:=λb o e=>pushCells_keeps _ _ b o (q0n _ (hH3 ▸ q0n _ e))
 have hD0:(pushCells (H3.push { cls:=.type "dict",data:=.dict #[] }) scope.names).get? s2.heap.objs.size=some { cls:=.type "list",dict:=none,data:=.seq ([]:List Value).toArray } :=
  pushCells_keeps _ _ _ _ (q0n _ (hH3 ▸ z0x _ rfl))
 have own:=ae8 scope.names (H3.push { cls:=.type "dict",data:=.dict #[] }) cl (λx c e=>by
   obtain ⟨v,o,ho,hd⟩:=I2.cell x c (cp.sub x c e);exact ⟨v,o,q0n _ (hH3 ▸ q0n _ ho),hd⟩) (λx y c h1 h2=>I2.ok.inj x y c (cp.sub x c h1) (cp.sub y c h2))
 rw [j0n] at own;generalize hh4:pushCells (H3.push { cls:=.type "dict",data:=.dict #[] }) scope.names=h4 at own hns0 old0 hD0 ⊢
 have hns:=hns0;have old:=old0;have hD:=hD0;have isOld:∀ x c,(cellsFrom (H3.objs.size+1) scope.names cl).lookup x=some c->X.env.cells.lookup x=some c \/ H3.objs.size+1<=c:=λx c e=>(own.old x c e).imp (cp.sub x c) λz=>by rw [j0n] at z;exact z
 have hDn:H2 s2.heap.objs.size=none:=I2.fresh;have hCn:H2 H3.objs.size=none:=I2.hok.fresh (by rw [hCe];exact j0r _)
 have hCs:s2.heap.objs.size<=H3.objs.size:=by rw [hCe];exact j0r _
 have hDC:s2.heap.objs.size ≠ H3.objs.size:=by rw [hCe];exact q0q (j0j _)
 have fpl:∀ b ∈ fp,∃ o,s2.heap.get? b=some o:=λb hb=>let ⟨o,e,_⟩:=T.obj _ _ st2 b hb;⟨o,e⟩;have fpC:∀ b ∈ fp,b ≠ H3.objs.size:=λb hb=>let ⟨o,e⟩:=fpl b hb;M8 b o e;have fpD:∀ b ∈ fp,b ≠ s2.heap.objs.size:=λb hb=>let ⟨o,e⟩:=fpl b hb;q0q (q0g e);have stkN:∀ b,b ≠ X.env.locals->b ∉ X.fs->b ∉ frs X.stack:=λb h1 h2 z=>(z0n.mp (I2.stkSub b z)).elim h1 h2
 have fpX:∀ b ∈ fp,∀ x c,(cellsFrom (H3.objs.size+1) scope.names cl).lookup x=some c->c ≠ b:=λb hb x c h=>by
  rcases isOld x c h with z | z
  ·exact (f2 b hb).2.2.2.2.1 x c z
  ·obtain ⟨o,e⟩:=fpl b hb
   exact v0f (q0d (q0g e) (q0p (q0p hCs (j0r _)) z))
 obtain ⟨W,⟨m0,w0⟩,turn⟩:=hW s2.heap.objs.size hDn
 have okB:(X.blockC scope cl H3.objs.size Nc s2 H2 fp pins).Ok:=by
  refine ⟨I2.ok.mod,?_,I2.ok.glob,I2.ok.blt,hCs,λx y c h1 h2=>own.inj x y c h1 h2,λx hx=>cp.has _ x hx,λx c h e=>q0p (q0p hCs (j0r _)) (by have z:=own.fresh x (aA1 h) c e;rw [j0n] at z;exact z),I2.ok.hd,I2.ok.frames,.inl rfl,λb hb=>⟨fpC b hb,λx c h=>fpX b hb x c h⟩,I2.bs,q0p I2.ok.bsz I2.sz,λb o e hb=>?_,λb hb=>stkN b (f2 b hb).2.1 (f2 b hb).2.2.1,I2.stack,I2.stkFree⟩
  ·exact cp.kind
  ·rcases (f2 b hb).2.2.2.1 with z | z
   ·exact I2.ok.noex b o e z
   ·exact absurd (q0d (q0g e) (q0p I2.ok.bsz z)) (j0y _)
 have hokB:HOk X.prog X.w (upd H2 s2.heap.objs.size (.lst [])) h4:=I2.hok.laid old (q0k _) ⟨z0f _,[],_,.nil,hD⟩
 have IB:Inv (X.blockC scope cl H3.objs.size Nc s2 H2 fp pins) [] (A5 caps σ) (upd H2 s2.heap.objs.size (.lst [])) { s2 with heap:=h4 }:=by
  refine ⟨okB,rfl,I2.bare,Un.laid old (q0k _) hDn,⟨_,hns,λi x v e1 e2 e3=>?_⟩,λx c e=>?_,(show upd H2 s2.heap.objs.size (.lst []) H3.objs.size=none by rw [c8 (Ne.symm hDC)];exact hCn),λx c e=>?_,λp hp=>?_,hokB,?_⟩
  ·unfold A5 at e2
   rw [q0f] at e2
   cases hcap:caps[i]? with
   | none=>rw [hcap] at e2;cases e2
   | some o =>
    rw [hcap] at e2
    cases o with
    | none=>cases e2
    | some j =>
     have hj:σ[j]? = some (some v):=by
      have e2':(σ[j]?).join=some v:=Option.some.inj e2
      cases q:σ[j]? with
      | none=>rw [q] at e2';cases e2'
      | some z=>rw [q] at e2';exact congrArg some e2'
     obtain ⟨n1,n2,n3,n4,n5,n6⟩:=cp.cap i j x hcap e1;obtain ⟨m,hm,hl⟩:=I2.loc;obtain ⟨u,r,q⟩:=hl j x v n1 hj n2;rcases q with ⟨k,_⟩ | ⟨k,c,ec,z⟩
     ·exact absurd k n3
     ·obtain ⟨c',ec'⟩:=n5
      have:=cp.sub x c' ec';rw [ec] at this;cases this;obtain ⟨oc,ho,hd⟩:=z;exact ⟨u,r,.inr ⟨n4,c,n6 _ _ ec',oc,old _ _ ho,hd⟩⟩
  ·exact own.cell x c e
  ·show upd H2 s2.heap.objs.size (.lst []) c=none
   rcases isOld x c e with z | z
   ·obtain ⟨v,oc,ho,hd⟩:=I2.cell x c z
    rw [c8 (q0q (q0g ho))];exact I2.freeC x c z
   ·have hz:s2.heap.objs.size<c:=q0d (q0m hCs (j0j _)) z
    rw [c8 (v0f hz)];exact I2.hok.fresh (y0q hz)
  ·have hp':p ∈ X.pn ++ pins:=by simpa using hp
   obtain ⟨e1,e2,e3,e4,e5⟩:=I2.pin p hp';exact ⟨old _ _ e1,by rw [c8 (q0q (q0g e1))];exact e2,M8 _ _ e1,stkN _ e3 e4,e5⟩
  ·show (A5 caps σ).length=Nc.length
   unfold A5;rw [q0b];exact cp.len
 have stat:∀ {H':Hp},(∀ b ∈ fp,H' b=none)->∀ b ∈ fp,aa2 (X.blockC scope cl H3.objs.size Nc s2 H2 fp pins) [] H' b:=λhn b hb =>
  ⟨hn b hb,fpC b hb,stkN b (f2 b hb).2.1 (f2 b hb).2.2.1,.inl hb,λx c h=>fpX b hb x c h,λp hp=>(f2 b hb).2.2.2.2.2 p (by simpa using hp)⟩
 have loop:∀ s5:Shared,s5={ s2 with heap:=h4 } ->
   codeAny (model X.prog X.w) X.A (.compLoop (.ListComp elt [⟨tg,iter,[],0⟩] scope pos) 0 (.ref it) (.ref s2.heap.objs.size) (compEnvC scope (cellsFrom (H3.objs.size+1) scope.names cl) H3.objs.size X.env))
    (compPost (model X.prog X.w) X.A X.xe none (EP X pins σ Q) (.ref s2.heap.objs.size) H3.objs.size) s5:=by
  rintro s5 rfl;refine ae7 (λn s' => ∃ i σ' H',Inv (X.blockC scope cl H3.objs.size Nc s2 H2 fp pins) [] σ' H' s'/\tn i s'.heap/\(∀ b ∈ fp,H' b=none)/\W i n σ' H') ?_ m0 ⟨0,_,_,IB,T.keep _ _ _ st2 λb hb o e=>old b o e,λb hb=>by rw [c8 (fpD b hb)];exact (f2 b hb).1,w0⟩
  rintro n s6 ⟨i,σ6,H6,I6,st6,fr6,w6⟩;rcases turn i n σ6 H6 w6 with ⟨stop,qn⟩ | ⟨go,step⟩
  ·refine thn (T.done (X.blockC scope cl H3.objs.size Nc s2 H2 fp pins) rfl rfl rfl hc i [] s6 σ6 H6 _ I6 (stat fr6) st6 stop) λr s7 zq=>?_
   obtain ⟨hr,I7⟩:=zq;subst hr;obtain ⟨m7,hn7,_⟩:=id I7.loc;exact ⟨m7,hn7,λh' sb=>⟨.ref s2.heap.objs.size,H6,I2.sameC f2 I7.os I7.bare I7.base I7.hok hCs I7.free sb,rfl,qn⟩⟩
  ·refine thn (T.item (X.blockC scope cl H3.objs.size Nc s2 H2 fp pins) rfl rfl rfl hc i [] s6 σ6 H6 _ I6 (stat fr6) st6 go) λr s7 zq=>?_
   obtain ⟨u,hr,h7⟩:=zq;subst hr;refine thn h7 λ_ s8 zq=>?_;obtain ⟨x,H8,I8,r8,y8,st8,fr8⟩:=zq;have I8':=I8.pinned (stat fr8) (T.obj _ _ st8);refine thn (hg _ _ _ _ _ _ s8 σ6 H8 x u _ I8' r8 (step x H8 y8)) λ_ s9 zq=>?_;obtain ⟨σ9,H9,I9,q9⟩:=zq;refine thn (he _ _ _ _ _ _ s9 σ9 H9 _ I9 q9) λu10 s10 zq=>?_;obtain ⟨v10,H10,I10,r10,ys,hys,hlen,m',hm',w'⟩:=zq;refine thn (B9 _ s10 σ9 H10 (.ref s2.heap.objs.size) [v10] (.ref s2.heap.objs.size) [u10] (λ_ H11=>H11=upd H10 s2.heap.objs.size (.lst (ys ++ [v10]))) I10 rfl (.cons r10 .nil) ⟨_,ys,v10,rfl,rfl,hys,hlen,rfl⟩) λ_ s11 zq=>?_;obtain ⟨_,H11,I11,_,hH11⟩:=zq;subst hH11;refine ⟨m',hm',i+1,σ9,_,I11.unpinned,T.keep _ _ _ st8 λb hb o e=>(I11.pin (b,o) (q0e _ (q0e _ (m3 hb e)))).1,λb hb=>?_,w'⟩;obtain ⟨o,e,d⟩:=T.obj _ _ st8 b hb;exact (I11.pin (b,o) (q0e _ (q0e _ (m3 hb e)))).2.1
 exact codeAny_compStart_list (loop _ rfl) (T.self _ 0 _ _ _ (T.keep _ _ _ st2 λb hb o e=>old b o e) (loop _ rfl))
end
end L2
set_option maxRecDepth 100000
namespace R
open PySem L2 PyProof.Rows
def ah4 (H:Hp) (Q:VK) (M:List (List Rat)):Prop:=∀ (r:Addr) (ts:List Addr) (H':Hp),c5 H H'->H r=none->(∀ t ∈ ts,H t=none/\t ≠ r)->ts.Nodup->H' r=some (.lst (ts.map V.ref))->Rws H' ts M->Q (.ref r) H'
structure G1 (H:Hp) (D:Addr) (M:List (List Rat)) (H2:Hp):Prop where
 same:c5 H H2
 at':∃ ts:List Addr,H2 D=some (.lst (ts.map V.ref))/\(∀ t ∈ ts,H t=none/\t ≠ D)/\ts.Nodup/\Rws H2 ts M
structure G2 (H:Hp) (D:Addr) (L:List Rat) (H2:Hp):Prop where
 same:c5 H H2
 at':∃ xs:List V,H2 D=some (.lst xs)/\C3 H2 xs L
theorem G1.start {H:Hp} {D:Addr} (h:H D=none):G1 H D [] (upd H D (.lst [])):=⟨c5.new h _,[],a9,by simp,.nil,.nil⟩
theorem G2.start {H:Hp} {D:Addr} (h:H D=none):G2 H D [] (upd H D (.lst [])):=⟨c5.new h _,[],a9,.nil⟩
theorem G1.res {H H2:Hp} {D:Addr} {M:List (List Rat)} {Q:VK} (k:ah4 H Q M) (h:H D=none) (t:G1 H D M H2):Q (.ref D) H2 :=
 let ⟨s,ts,e,hn,nd,r⟩:=t;k D ts H2 s h hn nd e r
theorem G2.add {H H2 H3:Hp} {D p:Addr} {L:List Rat} {q:Rat} (t:G2 H D L H2) (h:H D=none) (s:c5 H2 H3) (e:H3 p=some (.tup (A1 q))) :
  ∃ ys,H3 D=some (.lst ys)/\ys.length=L.length/\G2 H D (L ++ [q]) (upd H3 D (.lst (ys ++ [.ref p]))):=by
 obtain ⟨s2,xs,e2,n2⟩:=t;have eD:=s _ _ e2;exact ⟨xs,eD,n2.length,(s2.trans s).over h _,_,a9,((n2.mono s.tups).append (.cons e .nil)).mono (W5.lst eD)⟩
theorem G1.add {H H2 H3:Hp} {D D2:Addr} {M:List (List Rat)} {L:List Rat} (t:G1 H D M H2) (h:H D=none) (h2:H2 D2=none) (r:G2 H2 D2 L H3) :
  ∃ ys,H3 D=some (.lst ys)/\ys.length=M.length/\G1 H D (M ++ [L]) (upd H3 D (.lst (ys ++ [.ref D2]))):=by
 obtain ⟨s2,ts,e2,hn,nd,n2⟩:=t;obtain ⟨s,xs,e3,n3⟩:=r;have eD:=s _ _ e2;have hD2:D2 ≠ D:=(c7 e2 h2).symm
 have hnt:D2 ∉ ts:=λz=>by
  obtain ⟨i,hi⟩:=y0h.mp z;obtain ⟨_,_,_,e,_⟩:=n2.get hi;rw [h2] at e;cases e
 refine ⟨_,eD,by rw [q0b,n2.length],(s2.trans s).over h _,ts ++ [D2],by rw [a9,j0v];rfl,?_,?_,?_⟩
 ·intro t ht
  rcases j0p.mp ht with z | z
  ·exact hn t z
  ·rw [z0c.mp z]
   refine ⟨?_,hD2⟩
   cases q:H D2 with
   | none=>rfl
   | some o=>rw [s2 _ _ q] at h2;cases h2
 ·rw [g0f]
  refine ⟨nd,by simp,λa ha b hb=>?_⟩
  rw [z0c.mp hb];rintro rfl;exact hnt ha
 ·refine ((n2.same s).append (.cons e3 n3 .nil)).over eD λz=>?_
  rcases j0p.mp z with z | z
  ·exact (hn D z).2 rfl
  ·exact hD2 (z0c.mp z).symm
def NmC (K:q0a) (H:Hp) (p:Addr) (q:Rat):Prop:=H p=some (.tup (A1 q)) \/ ∀ H',SqT K H' p (A1 q)
theorem NmC.sqt {K:q0a} {H:Hp} {p:Addr} {q:Rat}:NmC K H p q->SqT K H p (A1 q)
 | .inl h=>SqT.of h
 | .inr h=>h H
theorem NmC.mono {K:q0a} {H H':Hp} {p:Addr} {q:Rat} (e:W5 H H'):NmC K H p q->NmC K H' p q
 | .inl h=>.inl (e _ _ h)
 | .inr h=>.inr h
inductive A0 (K:q0a) (H:Hp):List V->List Rat->Prop where
 | nil:A0 K H [] []
 | cons {p:Addr} {q:Rat} {vs:List V} {qs:List Rat} (h:NmC K H p q) (t:A0 K H vs qs):A0 K H (.ref p :: vs) (q :: qs)
theorem A0.mono {K:q0a} {H H':Hp} (e:W5 H H'):∀ {vs:List V} {qs:List Rat},A0 K H vs qs->A0 K H' vs qs
 | _,_,.nil=>.nil
 | _,_,.cons h t=>.cons (h.mono e) (t.mono e)
theorem A0.length {K:q0a} {H:Hp}:∀ {vs:List V} {qs:List Rat},A0 K H vs qs->vs.length=qs.length
 | _,_,.nil=>rfl
 | _,_,.cons _ t=>congrArg (· + 1) t.length
theorem A0.append {K:q0a} {H:Hp}:∀ {vs ws:List V} {qs rs:List Rat},A0 K H vs qs->A0 K H ws rs->A0 K H (vs ++ ws) (qs ++ rs)
 | _,_,_,_,.nil,b=>b
 | _,_,_,_,.cons h t,b=>.cons h (t.append b)
theorem A0.getV {K:q0a} {H:Hp}:∀ {vs:List V} {qs:List Rat} {i:Nat} {v:V},A0 K H vs qs->vs[i]? = some v->∃ p q,v=.ref p/\qs[i]? = some q/\NmC K H p q
 | _,_,_,_,.nil,e=>by simp at e
 | _,_,0,_,.cons h t,e=>by cases e;exact ⟨_,_,rfl,rfl,h⟩
 | _,_,i+1,_,.cons _ t,e=>t.getV (i:=i) (by simpa using e)
theorem A0.isDs {K:q0a} {H:Hp}:∀ {vs:List V} {qs:List Rat},A0 K H vs qs->Y3 K H vs (qs.map P9)
 | _,_,.nil=>.nil
 | _,_,.cons h t=>.cons (ap7 h.sqt) t.isDs
theorem C3.toC {K:q0a} {H:Hp}:∀ {vs:List V} {qs:List Rat},C3 H vs qs->A0 K H vs qs
 | _,_,.nil=>.nil
 | _,_,.cons h t=>.cons (.inl h) t.toC
inductive L7 (K:q0a) (H:Hp):List Addr->List (List Rat)->Prop where
 | nil:L7 K H [] []
 | cons {p:Addr} {xs:List V} {ps:List Addr} {L:List Rat} {Ls:List (List Rat)} (h:H p=some (.lst xs)) (n:A0 K H xs L) (t:L7 K H ps Ls):L7 K H (p :: ps) (L :: Ls)
theorem Rws.toC {K:q0a} {H:Hp}:∀ {ts:List Addr} {M:List (List Rat)},Rws H ts M->L7 K H ts M
 | _,_,.nil=>.nil
 | _,_,.cons h n t=>.cons h n.toC t.toC
theorem L7.length {K:q0a} {H:Hp}:∀ {ts:List Addr} {M:List (List Rat)},L7 K H ts M->ts.length=M.length
 | _,_,.nil=>rfl
 | _,_,.cons _ _ t=>congrArg (· + 1) t.length
theorem L7.same {K:q0a} {H H':Hp} (s:c5 H H'):∀ {ts:List Addr} {M:List (List Rat)},L7 K H ts M->L7 K H' ts M
 | _,_,.nil=>.nil
 | _,_,.cons h n t=>.cons (s _ _ h) (n.mono s.tups) (t.same s)
theorem L7.over {K:q0a} {H:Hp} {l:Addr} {xs:List V} {o:HO} (hl:H l=some (.lst xs)):∀ {ts:List Addr} {M:List (List Rat)},l ∉ ts->L7 K H ts M->L7 K (upd H l o) ts M
 | _,_,_,.nil=>.nil
 | _,_,hn,.cons h n t=>.cons (by rw [c8 (λz=>hn (by rw [<- z];exact z0g))];exact h) (n.mono (W5.lst hl)) (t.over hl λz=>hn (q0z _ z))
theorem L7.append {K:q0a} {H:Hp}:∀ {ts us:List Addr} {M N:List (List Rat)},L7 K H ts M->L7 K H us N->L7 K H (ts ++ us) (M ++ N)
 | _,_,_,_,.nil,h=>h
 | _,_,_,_,.cons h n t,k=>.cons h n (t.append k)
theorem L7.get {K:q0a} {H:Hp}:∀ {ts:List Addr} {M:List (List Rat)} {i:Nat} {p:Addr},L7 K H ts M->ts[i]? = some p->∃ xs L,M[i]? = some L/\H p=some (.lst xs)/\A0 K H xs L
 | _,_,_,_,.nil,e=>by simp at e
 | _,_,0,_,.cons h n _,e=>by cases e;exact ⟨_,_,rfl,h,n⟩
 | _,_,i+1,_,.cons _ _ t,e=>t.get (i:=i) (by simpa using e)
theorem L7.isDs {K:q0a} {H:Hp}:∀ {ts:List Addr} {M:List (List Rat)},L7 K H ts M->Y3 K H (ts.map V.ref) (M.map M7)
 | _,_,.nil=>.nil
 | _,_,.cons h n t=>.cons (.lst (SqL.of h) n.isDs) t.isDs
structure av3 (K:q0a) (H:Hp) (D:Addr) (M:List (List Rat)) (H2:Hp):Prop where
 same:c5 H H2
 at':∃ ts:List Addr,H2 D=some (.lst (ts.map V.ref))/\(∀ t ∈ ts,H t=none/\t ≠ D)/\ts.Nodup/\L7 K H2 ts M
structure av4 (K:q0a) (H:Hp) (D:Addr) (L:List Rat) (H2:Hp):Prop where
 same:c5 H H2
 at':∃ xs:List V,H2 D=some (.lst xs)/\A0 K H2 xs L
theorem av3.start {K:q0a} {H:Hp} {D:Addr} (h:H D=none):av3 K H D [] (upd H D (.lst [])):=⟨c5.new h _,[],a9,by simp,.nil,.nil⟩
theorem av4.start {K:q0a} {H:Hp} {D:Addr} (h:H D=none):av4 K H D [] (upd H D (.lst [])):=⟨c5.new h _,[],a9,.nil⟩
theorem av4.add {K:q0a} {H H2 H3:Hp} {D p:Addr} {L:List Rat} {q:Rat} (t:av4 K H D L H2) (h:H D=none) (s:c5 H2 H3) (e:NmC K H3 p q) :
  ∃ ys,H3 D=some (.lst ys)/\ys.length=L.length/\av4 K H D (L ++ [q]) (upd H3 D (.lst (ys ++ [.ref p]))):=by
 obtain ⟨s2,xs,e2,n2⟩:=t;have eD:=s _ _ e2;exact ⟨xs,eD,n2.length,(s2.trans s).over h _,_,a9,((n2.mono s.tups).append (.cons e .nil)).mono (W5.lst eD)⟩
theorem av3.add {K:q0a} {H H2 H3:Hp} {D D2:Addr} {M:List (List Rat)} {L:List Rat} (t:av3 K H D M H2) (h:H D=none) (h2:H2 D2=none) (r:av4 K H2 D2 L H3) :
  ∃ ys,H3 D=some (.lst ys)/\ys.length=M.length/\av3 K H D (M ++ [L]) (upd H3 D (.lst (ys ++ [.ref D2]))):=by
 obtain ⟨s2,ts,e2,hn,nd,n2⟩:=t;obtain ⟨s,xs,e3,n3⟩:=r;have eD:=s _ _ e2;have hD2:D2 ≠ D:=(c7 e2 h2).symm
 have hnt:D2 ∉ ts:=λz=>by
  obtain ⟨i,hi⟩:=y0h.mp z;obtain ⟨_,_,_,e,_⟩:=n2.get hi;rw [h2] at e;cases e
 refine ⟨_,eD,by rw [q0b,n2.length],(s2.trans s).over h _,ts ++ [D2],by rw [a9,j0v];rfl,?_,?_,?_⟩
 ·intro t ht
  rcases j0p.mp ht with z | z
  ·exact hn t z
  ·rw [z0c.mp z]
   refine ⟨?_,hD2⟩
   cases q:H D2 with
   | none=>rfl
   | some o=>rw [s2 _ _ q] at h2;cases h2
 ·rw [g0f]
  refine ⟨nd,by simp,λa ha b hb=>?_⟩
  rw [z0c.mp hb];rintro rfl;exact hnt ha
 ·refine ((n2.same s).append (.cons e3 n3 .nil)).over eD λz=>?_
  rcases j0p.mp z with z | z
  ·exact (hn D z).2 rfl
  ·exact hD2 (z0c.mp z).symm
def ah3 (M:List (List Rat)) (j:Nat):List Rat:=M.map λL=>(L[j]?).getD 0
def w4 (M:List (List Rat)) (n:Nat):List (List Rat):=(z0e n).map (ah3 M)
def aa8 (n:Nat):List (List Rat):=(z0e n).map λi=>(z0e n).map λj=>if i=j then 1 else 0
def aa6 (M N:List (List Rat)):List (List Rat):=M.map λL=>(w4 N N.length).map (M4 L)
theorem az8 {n i:Nat} (h:i<n):(z0e n)[i]? = some i:=by rw [q0c (by simpa using h)];simp
theorem aF8 {M:List (List Rat)} {n i:Nat} (h:i<n):(w4 M n)[i]? = some (ah3 M i):=by unfold w4;rw [q0f,az8 h];rfl
theorem T0 (M:List (List Rat)) (n:Nat):(w4 M n).length=n:=by simp [w4]
theorem Z9 (M:List (List Rat)) (n:Nat):(ah3 M n).length=M.length:=by simp [ah3]
theorem aR4 {n i:Nat} (h:i<n):(aa8 n)[i]? = some ((z0e n).map λj=>if i=j then 1 else 0):=by unfold aa8;rw [q0f,az8 h];rfl
theorem t9 {α:Type} {l:List α} {n:Nat} (h:l.length<=n):l.take n=l:=v0c h
theorem t5 {n:Nat} (h:n<=100):n<sizeLine:=q0m h (by decide)
theorem ah4.from {H H1:Hp} {Q:VK} {M:List (List Rat)} (k:ah4 H Q M) (s:c5 H H1):ah4 H1 Q M:=λr ts H' s' hr hts nd e R=>k r ts H' (s.trans s') (s.free hr) (λt ht=>⟨s.free (hts t ht).1,(hts t ht).2⟩) nd e R
theorem aE0 {M N:List (List Rat)} {i:Nat} {L:List Rat} (h:M[i]? = some L):(aa6 M N)[i]? = some ((w4 N N.length).map (M4 L)):=by unfold aa6;rw [q0f,h];rfl
theorem ac0 (M N:List (List Rat)):(aa6 M N).length=M.length:=by simp [aa6]
def ClA (D:Addr) (H:Hp) (v:V) (p:List Rat):Prop:=∃ r l,v=.ref r/\H r=some (.tup [.ref l,.int (t4 p)])/\H l=some (.lst ((z7 (t4 p) p).map V.int))/\l ≠ D
inductive ClL (D:Addr) (H:Hp):List V->List (List Rat)->Prop where
 | nil:ClL D H [] []
 | cons {v:V} {p:List Rat} {vs:List V} {ps:List (List Rat)} (h:ClA D H v p) (t:ClL D H vs ps):ClL D H (v :: vs) (p :: ps)
structure ClR (H:Hp) (D:Addr) (M:List (List Rat)) (H2:Hp):Prop where
 same:c5 H H2
 at':∃ vs:List V,H2 D=some (.lst vs)/\ClL D H2 vs M
def bc0:List D->Bool
 | [.v (.int _),.v (.int _),.v (.int _)]=>true
 | _=>false
mutual
def noW:D->Bool
 | .v _=>true
 | .tup ds=>bd0 ds
 | .lst ds => !bc0 ds && bd0 ds
def bd0:List D->Bool
 | []=>true
 | d :: ds=>noW d && bd0 ds
end
mutual
def smD (m:Nat):D->Prop
 | .v (.int i)=>i.natAbs<2 ^ m
 | .v _=>True
 | .tup ds=>bc2 m ds
 | .lst ds=>bc2 m ds
def bc2 (m:Nat):List D->Prop
 | []=>True
 | d :: ds=>smD m d/\bc2 m ds
end
def M8 (p q:Rat):Bool:=decide (p.num*(q.den:Int)<q.num*(p.den:Int))
structure IsBox (B:List (Rat × Rat)):Prop where
 l2:2<=B.length
 l8:B.length<=8
 le:∀ s ∈ B,s.1<=s.2
 last:∀ s,B[B.length-1]? = some s->0<s.1
def zs (t b a:Int):List Int->List Int
 | []=>[b*a]
 | x :: r=>(b*a+t*x) :: zs t b x r
structure MidN (n:Nat) (R:List Rat):Prop where
 ex:∃ (B:Nat) (ws:List Int),0<B/\B<2 ^ (40*n+1)/\R=scl (q0w 1 B) ws/\∀ v ∈ ws,j0m v<2 ^ (41*n+1)
 len:R.length=n+1
 last:R[n]? = some 1
inductive aX1 (H:Hp):List V->List (Rat × Rat)->Prop where
 | nil:aX1 H [] []
 | cons {p a b:Addr} {s:Rat × Rat} {vs:List V} {B:List (Rat × Rat)} (h:H p=some (.tup [.ref a,.ref b])) (ha:H a=some (.tup (A1 s.1))) (hb:H b=some (.tup (A1 s.2))) (t:aX1 H vs B):aX1 H (.ref p :: vs) (s :: B)
theorem V9 {n k:Nat} (h:k<n):ixN n (k:Int)=some k:=by
 unfold ixN;rw [if_pos ⋯]
 simp;omega
structure TbX (u:Addr) (H:Hp) (a:Addr) (ts:List Addr) (M:List (List Rat)):Prop where
 au:a ≠ u
 tu:∀ t ∈ ts,t ≠ u
 at':H a=some (.lst (ts.map V.ref))
 rws:Rws H ts M
structure LsX (u:Addr) (H:Hp) (a:Addr) (xs:List V) (qs:List Rat):Prop where
 au:a ≠ u
 at':H a=some (.lst xs)
 nums:C3 H xs qs
theorem LsX.samex {u a:Addr} {H H':Hp} {xs:List V} {qs:List Rat} (t:LsX u H a xs qs) (s:p9 u H H') (hu:p8 H u):LsX u H' a xs qs:=⟨t.au,s _ _ t.at' t.au,t.nums.mono (s.tups hu)⟩
theorem LsX.same {u a:Addr} {H H':Hp} {xs:List V} {qs:List Rat} (t:LsX u H a xs qs) (s:c5 H H'):LsX u H' a xs qs:=⟨t.au,s _ _ t.at',t.nums.mono s.tups⟩
def hc (a:Nat->Rat) (i j:Nat):Rat:=if (i+j) % 2=1 then a i*a j else 0
def hf (a:Nat->Rat):Nat->Nat->Rat
 | 0,j=>hc a 0 (j+1)
 | i+1,j=>hc a (i+1) (j+1)-hf a i (j+1)
def pw (x:Rat):Nat->Rat
 | 0=>1
 | i+1=>pw x i*x
theorem y3 (c:Rat) (f:Nat->Rat):∀ n,c*j4 f n=j4 (λi=>c*f i) n
 | 0=>by simp [j4]
 | n+1=>by rw [j4,j4,<- y3 c f n];grind
theorem K8 (f g:Nat->Rat):∀ n,j4 f n+j4 g n=j4 (λi=>f i+g i) n
 | 0=>by simp [j4];grind
 | n+1=>by rw [j4,j4,j4,<- K8 f g n];grind
def hR (a:Nat->Rat) (n i:Nat) (y:Rat):Rat:=j4 (λj=>hf a i j*pw y j) n
def hC (a:Nat->Rat) (n i:Nat) (y:Rat):Rat:=j4 (λj=>hc a i j*pw y j) (n+1)
def sg (i:Nat):Rat:=if i % 2=0 then 1 else -1
def OvB (B W:Nat) (q:Rat):Prop:=∃ v:Int,q=q0w v B/\v.natAbs<2 ^ W
theorem OvB.mono {B V W:Nat} {q:Rat} (h:OvB B V q) (l:V<=W):OvB B W q:=let ⟨v,e,b⟩:=h;⟨v,e,q0d b (i5 l)⟩
theorem OvB.zero (B W:Nat):OvB B W 0:=⟨0,by rw [Rat.zero_divInt],u0x _⟩
theorem OvB.mul {B C V W:Nat} {p q:Rat} (h:OvB B V p) (k:OvB C W q):OvB (B*C) (V+W) (p*q):=by
 obtain ⟨v,rfl,b⟩:=h;obtain ⟨u,rfl,c⟩:=k;refine ⟨v*u,by rw [y0g,j0h],?_⟩
 rw [z0a,z0u];exact j0e b c
theorem OvB.add {B W:Nat} (hB:0<B) {p q:Rat} (h:OvB B W p) (k:OvB B W q):OvB B (W+1) (p+q):=by
 obtain ⟨v,rfl,b⟩:=h;obtain ⟨u,rfl,c⟩:=k;refine ⟨v+u,?_,?_⟩
 ·have hz:(B:Int) ≠ 0:=⋯
  rw [u0m _ _ hz hz];refine (z0d (y0a hz hz) hz).mpr ?_
  grind
 ·have:=u0d v u
  rw [Nat.pow_succ];omega
theorem OvB.bdN {B W:Nat} (hB:0<B) (hW:B<2 ^ W) {q:Rat} (h:OvB B W q):BdN W q:=by
 obtain ⟨v,rfl,b⟩:=h;have:=Q5 (t:=v) (b:=(B:Int)) ⋯;rw [q0r] at this;exact ⟨q0m this.1 b,q0m this.2 hW⟩
theorem aQ6 (x y:Rat) (p q:List Rat):M4 (x :: p) (y :: q)=x*y+M4 p q:=by
 unfold M4;rw [m0f,v0q,ax2];grind
theorem aM3 {B C V W:Nat} (hB:0<B) (hC:0<C):∀ {p q:List Rat},(∀ x ∈ p,OvB B V x)->(∀ x ∈ q,OvB C W x)->OvB (B*C) (V+W+p.length) (M4 p q)
 | [],q,_,_=>by simp only [M4,List.zipWith_nil_left,List.foldl_nil];exact OvB.zero _ _
 | x :: p,[],_,_=>by simp only [M4,List.zipWith_nil_right,List.foldl_nil];exact OvB.zero _ _
 | x :: p,y :: q,h,k=>by
  rw [aQ6];have ih:=aM3 hB hC (p:=p) (q:=q) (λa ha=>h a (q0z _ ha)) (λa ha=>k a (q0z _ ha));have h1:=(h x z0g).mul (k y z0g);exact ((h1.mono ⋯).add (v0n hB hC) ih).mono (by rw [j0x];omega)
def aQ (qs:List Rat) (k:Nat):Rat:=(qs[k]?).getD 0
def aZ (ws:List Int) (k:Nat):Int:=(ws[k]?).getD 0
theorem aN9 {ws:List Int} {W:Nat} (h:∀ v ∈ ws,j0m v<2 ^ W):∀ k,(aZ ws k).natAbs<2 ^ W:=λk=>by
 unfold aZ
 cases q:ws[k]? with
 | none=>exact u0x _
 | some v=>exact h v (q0j q)
theorem aW6 {p q:List Rat} (h:p.length=q.length) (x y:Rat):M4 (p ++ [x]) (q ++ [y])=M4 p q+x*y:=by
 unfold M4;rw [m0u h,List.foldl_append];rfl
theorem ax7 (f g:Nat->Rat):∀ n,M4 ((z0e n).map f) ((z0e n).map g)=j4 (λi=>f i*g i) n
 | 0=>rfl
 | n+1=>by
  rw [List.range_succ,j0v,j0v];simp only [j0a,u0v];rw [aW6 (by simp),ax7 f g n];rfl
def cv (f g:Nat->Rat) (k:Nat):Rat:=j4 (λi=>f i*g (k-i)) (k+1)
theorem G3 (g:Nat->Rat) (t:Nat):∀ n,j4 (λi=>if i=t then g i else 0) n=if t<n then g t else 0
 | 0=>by rw [if_neg ⋯];rfl
 | n+1=>by
  rw [j4,G3 g t n]
  by_cases h:t<n
  ·rw [if_pos h,if_neg ⋯,if_pos ⋯];grind
  ·by_cases h2:n=t
   ·rw [if_neg h,if_pos h2,if_pos ⋯,h2];grind
   ·rw [if_neg h,if_neg h2,if_neg ⋯];grind
def zc (ws:List Int) (k:Nat):Rat:=(aZ ws k:Rat)
structure bh2 (ws:List Int) (m:Nat):Prop where
 le:m<=ws.length
 zero:∀ i v,m<=i->ws[i]? = some v->v=0
 last:m ≠ 0->∀ v,ws[m-1]? = some v->v ≠ 0
theorem OvB.up {B W:Nat} {q:Rat} (h:OvB B W q) (hB:0<B) {C c:Nat} (hC:0<C) (hc:C<2 ^ c):OvB (B*C) (W+c) q:=by
 obtain ⟨v,rfl,b⟩:=h;refine ⟨v*C,?_,?_⟩
 ·rw [j0h]
  refine (z0d ⋯ (y0a ⋯ ⋯)).mpr ?_
  grind
 ·rw [z0a,q0r,z0u]
  exact j0e b hc
theorem aQ9 {B W:Nat} (hB:0<B) (hW:B<2 ^ W) {qs:List Rat} (h:∀ x ∈ qs,OvB B W x):ClN W qs:=by
 have:∃ vs:List Int,qs=scl (q0w 1 B) vs/\∀ v ∈ vs,j0m v<2 ^ W:=by
  induction qs with
  | nil=>exact ⟨[],rfl,by simp⟩
  | cons q qs ih =>
   obtain ⟨vs,e,hv⟩:=ih λx hx=>h x (q0z _ hx);obtain ⟨v,e2,b⟩:=h q z0g;refine ⟨v :: vs,?_,λu hu=>?_⟩
   ·rw [e]
    show q :: _=(q0w 1 B*(v:Rat)) :: _;rw [aq8,<- e2];rfl
   ·rcases z0n.mp hu with z | z
    ·rw [z];exact b
    ·exact hv u z
 obtain ⟨vs,rfl,hv⟩:=this;exact aQ8 hB hW hv
def bh3 (u:Addr) (H:Hp) (v:V) (ps qs:List Rat):Prop:=v=.non \/ ∃ td l1 l2 zs1 zs2 g0 g1,v=.ref td/\td ≠ u/\H td=some (.tup [.ref l1,.ref l2])/\LsX u H l1 zs1 g0/\LsX u H l2 zs2 g1/\aX5 g0 g0.length/\aX5 g1 g1.length/\g1.length<qs.length/\∀ k,aQ ps k=cv (aQ qs) (aQ g0) k+aQ g1 k
structure PairOk (u:Addr) (H:Hp) (ap aq:Addr) (due:V) (xs ys:List V) (ps qs:List Rat) (S W1 W2:Nat):Prop where
 lp:LsX u H ap xs ps
 lq:LsX u H aq ys qs
 tp:aX5 ps ps.length
 tq:aX5 qs qs.length
 q0:qs ≠ []
 c1:ClN W1 ps
 c2:ClN W2 qs
 w1:1<=W1
 w2:1<=W2
 w3:W2<=690
 t:W1+S*(W2+1)+W2<=2300
 s:ps.length+1<=qs.length+S
 pl:ps.length<=16
 ql:qs.length<=16
 due:bh3 u H due ps qs
def mA (a b:Rat) (f:Nat->Rat):Nat->Rat
 | 0=>a*f 0
 | k+1=>a*f (k+1)+b*f k
def dl:Nat->Rat:=λk=>if k=0 then 1 else 0
def Dg (f:Nat->Rat) (n:Nat):Prop:=∀ k,n<=k->f k=0
structure Eu (p q A B:Nat->Rat) (lp lq la lb:Nat):Prop where
 inv:∀ m,m<la->∀ u v,Dg u (lq-m)->Dg v (lp-m)->Dg (λk=>cv u p k+cv v q k) m ->
  ∃ a b,(∀ k,cv u p k+cv v q k=cv a A k+cv b B k)/\Dg a (lb-m)/\Dg b (la-m)/\((∀ k,a k=0)->(∀ k,b k=0)->∀ k,u k=0/\v k=0)
 le:la<=max lp lq
theorem aG0 {d:Nat}:∀ (ws:List Int) (c:Nat),d ∣ c->(∀ w ∈ ws,(d:Int) ∣ w)->d ∣ ws.foldl (λc w=>q0s w c) c
 | [],c,h,_=>h
 | w :: r,c,h,hw=>aG0 r _ (Int.dvd_gcd (hw w z0g) (by exact j0s.mpr h)) λx hx=>hw x (q0z _ hx)
def bF (c x:Nat):Nat:=(c+1)*(x*(x+1))
structure SgS (c d0 L K:Nat) (P0 Q0:List Int) (s t:Rat) (A B:List Int):Prop where
 tA:bh2 A A.length
 tB:bh2 B B.length
 lA:A.length<=L
 lB:B.length<A.length
 gB:B ≠ []->J2 B=1
 eu:Eu (zc P0) (zc Q0) (zc A) (zc B) P0.length Q0.length A.length B.length
 s0:s ≠ 0
 t0:t ≠ 0
 wA:∀ k,(aZ A k).natAbs<2 ^ (c*(2*(L-A.length)+1))
 wB:∀ k,(aZ B k).natAbs<2 ^ (c*(2*(L-A.length)+1))
 sd:s.den<2 ^ (d0+bF c (L-A.length-1))
 sn:s.num.natAbs<2 ^ (d0+2*bF c (L-A.length-1))
 td:t.den<2 ^ (d0+bF c (L-A.length))
 tn:t.num.natAbs<2 ^ (d0+2*bF c (L-A.length))
def FmX (K:q0a) (D:Addr) (H:Hp) (r:Addr) (s:Rat) (ws:List Int):Prop:=∃ rs l,SqT K H r [.ref rs,.ref l]/\SqT K H rs (A1 s)/\H l=some (.lst (ws.map V.int))/\l ≠ D
inductive Fms (K:q0a) (D:Addr) (H:Hp):List V->List (Rat × List Int)->Prop where
 | nil:Fms K D H [] []
 | cons {r:Addr} {s:Rat} {ws:List Int} {xs:List V} {fs:List (Rat × List Int)} (h:FmX K D H r s ws) (t:Fms K D H xs fs):Fms K D H (.ref r :: xs) ((s,ws) :: fs)
theorem as9 {ws:List Int} {X:Nat} (h:∀ k,(aZ ws k).natAbs<X):∀ v ∈ ws,j0m v<X:=λv hv=>by
 obtain ⟨k,hk,ek⟩:=v0p hv;have h2:aZ ws k=v:=by unfold aZ;rw [q0c hk,ek];rfl
 rw [<- h2];exact h k
end R
set_option maxRecDepth 100000
namespace L2
open PySem PySem.Spec PyProof.Rows
structure Stp (prog:Program) (w:World) (it src:Addr) (ar:Array Value) (st:Nat->Heap->Prop):Prop where
 stay:∀ {k:Nat} {h h':Heap},st k h->(∀ o,h.get? it=some o->h'.get? it=some o)->(∀ o,h.get? src=some o->h'.get? src=some o)->st k h'
 item:∀ {A:Around} {E:Value->Shared->Prop} {s:Shared} {k:Nat} {v:Value} {Q:Value->Shared->Prop},st k s.heap->ar[k]? = some v->(∀ h',st (k+1) h'->u0r it s.heap h'->Q v { s with heap:=h' })->wpAny (model prog w) A (Builtin.SmallTypes.nextOf (.ref it)) Q E s
 fin:∀ {A:Around} {E:Value->Shared->Prop} {s:Shared} {k:Nat} {Q:Value->Shared->Prop},A.handled=none->st k s.heap->ar[k]? = none->(∀ h' e,Heap.ExtBut it s.heap h'->(∃ o,h'.get? e=some o/\o.cls=.type "StopIteration")->E (.ref e) { s with heap:=h' })->wpAny (model prog w) A (Builtin.SmallTypes.nextOf (.ref it)) Q E s
open PySem PyProof.Rows
section
variable {X:Cx}
theorem az9 {elt tg iter cnd:Expr} {scope:Scope} {pos spos py:Pos} {y:Str} {i₀:Nat} {cl:List (Str × Addr)} {Nc:List Str} {caps:List (Option Nat)} {wi:TI} {g:TG} {tt:TT} {te:TE} (hN:X.N.Nodup) (hi₀:X.N[i₀]? = some y) (hx:Loc X.env.scope y) (hc:X.calm=true) (cp:J3 X scope cl Nc caps) (hi:PI X tg iter wi)
  (hg:∀ C s₂ H₂ fp pins,PG (X.block scope cl C Nc s₂ H₂ fp pins) tg g) (ht:∀ C s₂ H₂ fp pins,PT (X.block scope cl C Nc s₂ H₂ fp pins) cnd tt) (he:∀ C s₂ H₂ fp pins,PE (X.block scope cl C Nc s₂ H₂ fp pins) elt te) (hs:∀ x,foldedSetIterable iter X.env x=pure x:=by intro _;rfl) (hsw:swapsWith (.ListComp elt [⟨tg,iter,[cnd],0⟩] scope pos) (some (.Name y py)) spos.line X.env=pure true:=by rfl)
  (hf:X.fn y=true \/ X.env.scope.names.lookup y=some .local:=by first | exact .inl rfl | exact .inr rfl | assumption) :
  PS X (.Assign [.Name y py] (.ListComp elt [⟨tg,iter,[cnd],0⟩] scope pos) spos) (ao6 (aK3 wi caps g tt te) (k9 i₀)):=by
 intro pins s σ H DD I h;rw [exec_Assign_Name_used _ _ _ _ hsw];refine wpAny_bind (wpAny_standAt (wpAny_bind ?_))
 show wpAny _ X.A (do let _ <- comprehension (.ListComp elt [⟨tg,iter,[cnd],0⟩] scope pos) scope X.env _ (newList []) false (eval iter X.env) (some (assign (.Name y py) X.env))) _ _ s
 refine wpAny_bind (wpAny_mono (wpAny_comprehension_free (use:=some (assign (.Name y py) X.env)) (Q:=λ_ s'=>SP X pins DD .next s') rfl hs cp.clos cp.kind cp.names ?_) (λ_ s' hq=>wpAny_pure (wpAny_pure hq)) λ_ _ e=>e);refine thn (hi pins s σ H _ I h) λv s1 h1=>thn h1 λitv s2 h2=>?_;obtain ⟨it,fp,tn,J,H2,e,I2,T,st2,f2,hW⟩:=h2;subst e;refine wpAny_newObj_type ?_ (by show 0<=sizeLine;exact z0f _)
 refine wpAny_newFunctionEnv cp.nocell (by intro y hy;simp at hy) (λh4 hns hsb=>?_) cp.kind
 dsimp only at hns hsb ⊢
 generalize hH3:s2.heap.push { cls:=.type "list",dict:=none,data:=.seq ([]:List Value).toArray }=H3 at hns hsb ⊢
 have hCe:H3.objs.size=s2.heap.objs.size+1:=by rw [<- hH3,j0n]
 have M8:∀ b o,s2.heap.get? b=some o->b ≠ H3.objs.size:=λb o e=>by rw [hCe];exact q0q (v0d (q0g e))
 have old:∀ b o,s2.heap.get? b=some o->h4.get? b=some o:=λb o e=>hsb.extBut b o (M8 b o e) (q0n _ (hH3 ▸ q0n _ e))
 have hD:h4.get? s2.heap.objs.size=some { cls:=.type "list",dict:=none,data:=.seq ([]:List Value).toArray } :=
  hsb.extBut _ _ (by rw [hCe];exact q0q (j0j _)) (q0n _ (hH3 ▸ z0x _ rfl))
 have hDn:H2 s2.heap.objs.size=none:=I2.fresh;have hCn:H2 H3.objs.size=none:=I2.hok.fresh (by rw [hCe];exact j0r _)
 have hCs:s2.heap.objs.size<=H3.objs.size:=by rw [hCe];exact j0r _
 have hDC:s2.heap.objs.size ≠ H3.objs.size:=by rw [hCe];exact q0q (j0j _)
 have fpl:∀ b ∈ fp,∃ o,s2.heap.get? b=some o:=λb hb=>let ⟨o,e,_⟩:=T.obj _ _ st2 b hb;⟨o,e⟩;have fpC:∀ b ∈ fp,b ≠ H3.objs.size:=λb hb=>let ⟨o,e⟩:=fpl b hb;M8 b o e;have fpD:∀ b ∈ fp,b ≠ s2.heap.objs.size:=λb hb=>let ⟨o,e⟩:=fpl b hb;q0q (q0g e);have stkN:∀ b,b ≠ X.env.locals->b ∉ X.fs->b ∉ frs X.stack:=λb h1 h2 z=>(z0n.mp (I2.stkSub b z)).elim h1 h2;obtain ⟨W,⟨m0,w0⟩,turn⟩:=hW s2.heap.objs.size hDn
 have okB:(X.block scope cl H3.objs.size Nc s2 H2 fp pins).Ok:=by
  refine ⟨I2.ok.mod,?_,I2.ok.glob,I2.ok.blt,hCs,λx y c h1 h2=>I2.ok.inj x y c (cp.sub x c h1) (cp.sub y c h2),λx hx=>cp.has x hx,λx c h=>(by cases h),I2.ok.hd,I2.ok.frames,.inl rfl,λb hb=>⟨fpC b hb,λx c h=>(f2 b hb).2.2.2.2.1 x c (cp.sub x c h)⟩,I2.bs,q0p I2.ok.bsz I2.sz,λb o e hb=>?_,λb hb=>stkN b (f2 b hb).2.1 (f2 b hb).2.2.1,I2.stack,I2.stkFree⟩
  ·exact cp.kind
  ·rcases (f2 b hb).2.2.2.1 with z | z
   ·exact I2.ok.noex b o e z
   ·exact absurd (q0d (q0g e) (q0p I2.ok.bsz z)) (j0y _)
 have hokB:HOk X.prog X.w (upd H2 s2.heap.objs.size (.lst [])) h4:=I2.hok.laid old (q0k _) ⟨z0f _,[],_,.nil,hD⟩
 have IB:Inv (X.block scope cl H3.objs.size Nc s2 H2 fp pins) [] (A5 caps σ) (upd H2 s2.heap.objs.size (.lst [])) { s2 with heap:=h4,toks:=s2.toks+([]:List (Str × Value)).length }:=by
  refine ⟨okB,rfl,I2.bare,Un.laid old (q0k _) hDn,⟨_,hns,λi x v e1 e2 e3=>?_⟩,λx c e=>?_,(show upd H2 s2.heap.objs.size (.lst []) H3.objs.size=none by rw [c8 (Ne.symm hDC)];exact hCn),λx c e=>?_,λp hp=>?_,hokB,?_⟩
  ·unfold A5 at e2
   rw [q0f] at e2
   cases hcap:caps[i]? with
   | none=>rw [hcap] at e2;cases e2
   | some o =>
    rw [hcap] at e2
    cases o with
    | none=>cases e2
    | some j =>
     have hj:σ[j]? = some (some v):=by
      have e2':(σ[j]?).join=some v:=Option.some.inj e2
      cases q:σ[j]? with
      | none=>rw [q] at e2';cases e2'
      | some z=>rw [q] at e2';exact congrArg some e2'
     obtain ⟨n1,n2,n3,n4⟩:=cp.cap i j x hcap e1;obtain ⟨m,hm,hl⟩:=I2.loc;obtain ⟨u,r,q⟩:=hl j x v n1 hj n2;rcases q with ⟨k,_⟩ | ⟨k,c,ec,z⟩
     ·exact absurd k n3
     ·obtain ⟨c',ec'⟩:=cp.has x n4
      have:=cp.sub x c' ec';rw [ec] at this;cases this;obtain ⟨oc,ho,hd⟩:=z;exact ⟨u,r,.inr ⟨n4,c,ec',oc,old _ _ ho,hd⟩⟩
  ·obtain ⟨v,oc,ho,hd⟩:=I2.cell x c (cp.sub x c e)
   exact ⟨v,oc,old _ _ ho,hd⟩
  ·obtain ⟨v,oc,ho,hd⟩:=I2.cell x c (cp.sub x c e)
   rw [c8 (q0q (q0g ho))];exact I2.freeC x c (cp.sub x c e)
  ·have hp':p ∈ X.pn ++ pins:=by simpa using hp
   obtain ⟨e1,e2,e3,e4,e5⟩:=I2.pin p hp';exact ⟨old _ _ e1,by rw [c8 (q0q (q0g e1))];exact e2,M8 _ _ e1,stkN _ e3 e4,e5⟩
  ·show (A5 caps σ).length=Nc.length
   unfold A5;rw [q0b];exact cp.len
 have stat:∀ {H':Hp},(∀ b ∈ fp,H' b=none)->∀ b ∈ fp,aa2 (X.block scope cl H3.objs.size Nc s2 H2 fp pins) [] H' b:=λhn b hb =>
  ⟨hn b hb,fpC b hb,stkN b (f2 b hb).2.1 (f2 b hb).2.2.1,.inl hb,λx c h=>(f2 b hb).2.2.2.2.1 x c (cp.sub x c h),λp hp=>(f2 b hb).2.2.2.2.2 p (by simpa using hp)⟩
 have loop:∀ s5:Shared,s5={ s2 with heap:=h4,toks:=s2.toks+([]:List (Str × Value)).length } ->
   codeAny (model X.prog X.w) X.A (.compLoop (.ListComp elt [⟨tg,iter,[cnd],0⟩] scope pos) 0 (.ref it) (.ref s2.heap.objs.size) (compEnvC scope cl H3.objs.size X.env))
    (compPost (model X.prog X.w) X.A X.xe (some (assign (.Name y py) X.env)) (λ_ s'=>SP X pins DD .next s') (.ref s2.heap.objs.size) H3.objs.size) s5:=by
  rintro s5 rfl;refine aG3 (λn s' => ∃ i σ' H',Inv (X.block scope cl H3.objs.size Nc s2 H2 fp pins) [] σ' H' s'/\tn i s'.heap/\(∀ b ∈ fp,H' b=none)/\W i n σ' H') ?_ m0 ⟨0,_,_,IB,T.keep _ _ _ st2 λb hb o e=>old b o e,λb hb=>by rw [c8 (fpD b hb)];exact (f2 b hb).1,w0⟩
  rintro n s6 ⟨i,σ6,H6,I6,st6,fr6,w6⟩;rcases turn i n σ6 H6 w6 with ⟨stop,qn⟩ | ⟨go,step⟩
  ·refine thn (T.done (X.block scope cl H3.objs.size Nc s2 H2 fp pins) rfl rfl rfl hc i [] s6 σ6 H6 _ I6 (stat fr6) st6 stop) λr s7 zq=>?_
   obtain ⟨hr,I7⟩:=zq;subst hr;obtain ⟨m7,hn7,_⟩:=id I7.loc;have Io:Inv X pins σ H6 s7:=I2.sameC (h'':=s7.heap) f2 I7.os I7.bare I7.base I7.hok hCs I7.free ⟨rfl,λ_ _=>rfl⟩;have fC:aa2 X pins H6 H3.objs.size:=I2.fpOk hCs I7.free;have fC':∀ b ∈ [H3.objs.size],aa2 X pins H6 b:=λb hb=>by rw [z0c.mp hb];exact fC
   obtain ⟨oC,esC,epC,hoC,restC⟩:=id hn7
   have obC:∀ b ∈ [H3.objs.size],∃ o,s7.heap.get? b=some o/\∀ v,o.data ≠ .cell v:=λb hb=>by
    rw [z0c.mp hb];exact ⟨oC,hoC,λv z=>ak6 hn7 hoC v z⟩
   have Ip:=Io.pinned fC' obC
   show wpAny (model X.prog X.w) X.A (assign (.Name y py) X.env (.ref s2.heap.objs.size)) _ _ s7;refine thn (c6 (pos:=py) hN hi₀ hx hf _ s7 σ H6 (.ref s2.heap.objs.size) (.ref s2.heap.objs.size) DD.nx Ip rfl qn) λ_ s9 zq=>?_;obtain ⟨σ9,H9,I9,q9⟩:=zq;have keepC:=(I9.pin (H3.objs.size,oC) (q0e _ (q0e _ (m3 (by simp) hoC)))).1
   have H9C:=(I9.pin (H3.objs.size,oC) (q0e _ (q0e _ (m3 (by simp) hoC)))).2.1
   refine ⟨m7,hn7.at' λo e=>by rw [hoC] at e;cases e;exact keepC,λh' sb=>?_⟩
   obtain ⟨_,g1,g2,g3,g4,g5⟩:=fC;exact ⟨σ9,H9,I9.unpinned.turned (t':=s9.toks) (λb o hb e=>(sb.2 b hb).trans e) H9C g1 g3 g4 g5,q9⟩
  ·refine thn (T.item (X.block scope cl H3.objs.size Nc s2 H2 fp pins) rfl rfl rfl hc i [] s6 σ6 H6 _ I6 (stat fr6) st6 go) λr s7 zq=>?_
   obtain ⟨u,hr,h7⟩:=zq;subst hr;refine thn h7 λ_ s8 zq=>?_;obtain ⟨x,H8,I8,r8,y8,st8,fr8⟩:=zq;have I8':=I8.pinned (stat fr8) (T.obj _ _ st8);refine thn (hg _ _ _ _ _ _ s8 σ6 H8 x u _ I8' r8 (step x H8 y8)) λ_ s9 zq=>?_;obtain ⟨σ9,H9,I9,q9⟩:=zq;refine thn (ht _ _ _ _ _ _ s9 σ9 H9 _ I9 q9) λbb s9' zq=>?_;obtain ⟨H9',I9',q9'⟩:=zq
   cases bb with
   | false =>
    rw [if_neg (by decide)] at q9' ⊢
    obtain ⟨m',hm',w'⟩:=q9';refine ⟨m',hm',i+1,σ9,H9',I9'.unpinned,T.keep _ _ _ st8 λb hb o e=>(I9'.pin (b,o) (q0e _ (q0e _ (m3 hb e)))).1,λb hb=>?_,w'⟩;obtain ⟨o,e,d⟩:=T.obj _ _ st8 b hb;exact (I9'.pin (b,o) (q0e _ (q0e _ (m3 hb e)))).2.1
   | true =>
    rw [if_pos rfl] at q9' ⊢;refine thn (he _ _ _ _ _ _ s9' σ9 H9' _ I9' q9') λu10 s10 zq=>?_;obtain ⟨v10,H10,I10,r10,ys,hys,hlen,m',hm',w'⟩:=zq;refine thn (B9 _ s10 σ9 H10 (.ref s2.heap.objs.size) [v10] (.ref s2.heap.objs.size) [u10] (λ_ H11=>H11=upd H10 s2.heap.objs.size (.lst (ys ++ [v10]))) I10 rfl (.cons r10 .nil) ⟨_,ys,v10,rfl,rfl,hys,hlen,rfl⟩) λ_ s11 zq=>?_;obtain ⟨_,H11,I11,_,hH11⟩:=zq;subst hH11;refine ⟨m',hm',i+1,σ9,_,I11.unpinned,T.keep _ _ _ st8 λb hb o e=>(I11.pin (b,o) (q0e _ (q0e _ (m3 hb e)))).1,λb hb=>?_,w'⟩;obtain ⟨o,e,d⟩:=T.obj _ _ st8 b hb;exact (I11.pin (b,o) (q0e _ (q0e _ (m3 hb e)))).2.1
 exact codeAny_compStart_list (loop _ rfl) (T.self _ 0 _ _ _ (T.keep _ _ _ st2 λb hb o e=>old b o e) (loop _ rfl))
end
end L2
set_option maxRecDepth 100000
namespace HT
open PySem PyProof.Rows
end HT
namespace L2
open PySem PySem.Spec PyProof.Rows
end L2
set_option maxRecDepth 100000
namespace PySem
open Sem (wp)
open AutoSeq1 (wpAny_loadPart')
end PySem
namespace L2
open PySem PySem.Spec PyProof.Rows
section
variable {X:Cx}
theorem aD8 {elt tg iter:Expr} {scope:Scope} {pos spos py:Pos} {y:Str} {i₀:Nat} {cl:List (Str × Addr)} {Nc:List Str} {caps:List (Option Nat)} {wi:TI} {g:TG} {te:TE} (hN:X.N.Nodup) (hi₀:X.N[i₀]? = some y) (hx:Loc X.env.scope y) (hc:X.calm=true) (cp:ag1 X scope cl Nc caps) (hi:PI X tg iter wi)
  (hg:∀ C s₂ H₂ fp pins,PG (X.blockC scope cl C Nc s₂ H₂ fp pins) tg g) (he:∀ C s₂ H₂ fp pins,PE (X.blockC scope cl C Nc s₂ H₂ fp pins) elt te) (hs:∀ x,foldedSetIterable iter X.env x=pure x:=by intro _;rfl) (hsw:swapsWith (.ListComp elt [⟨tg,iter,[],0⟩] scope pos) (some (.Name y py)) spos.line X.env=pure true:=by rfl)
  (hf:X.fn y=true \/ X.env.scope.names.lookup y=some .local:=by first | exact .inl rfl | exact .inr rfl | assumption) :
  PS X (.Assign [.Name y py] (.ListComp elt [⟨tg,iter,[],0⟩] scope pos) spos) (ao6 (aC9 wi caps g te) (k9 i₀)):=by
 intro pins s σ H DD I h;rw [exec_Assign_Name_used _ _ _ _ hsw];refine wpAny_bind (wpAny_standAt (wpAny_bind ?_))
 show wpAny _ X.A (do let _ <- comprehension (.ListComp elt [⟨tg,iter,[],0⟩] scope pos) scope X.env _ (newList []) false (eval iter X.env) (some (assign (.Name y py) X.env))) _ _ s
 refine wpAny_bind (wpAny_mono (wpAny_comprehension_free (use:=some (assign (.Name y py) X.env)) (Q:=λ_ s'=>SP X pins DD .next s') rfl hs cp.clos cp.kind cp.names ?_) (λ_ s' hq=>wpAny_pure (wpAny_pure hq)) λ_ _ e=>e);refine thn (hi pins s σ H _ I h) λv s1 h1=>thn h1 λitv s2 h2=>?_;obtain ⟨it,fp,tn,J,H2,e,I2,T,st2,f2,hW⟩:=h2;subst e;refine wpAny_newObj_type ?_ (by show 0<=sizeLine;exact z0f _)
 refine J4 ?_
 dsimp only
 generalize hH3:s2.heap.push { cls:=.type "list",dict:=none,data:=.seq ([]:List Value).toArray }=H3
 have hCe:H3.objs.size=s2.heap.objs.size+1:=by rw [<- hH3,j0n]
 have M8:∀ b o,s2.heap.get? b=some o->b ≠ H3.objs.size:=λb o e=>by rw [hCe];exact q0q (v0d (q0g e))
 have hns0:=(Heap.Ns.new H3 (.type "dict")).keeps (pushCells_keeps scope.names _)
 have old0:∀ b o,s2.heap.get? b=some o->(pushCells (H3.push { cls:=.type "dict",data:=.dict #[] }) scope.names).get? b=some o:=λb o e=>pushCells_keeps _ _ b o (q0n _ (hH3 ▸ q0n _ e))
 have hD0:(pushCells (H3.push { cls:=.type "dict",data:=.dict #[] }) scope.names).get? s2.heap.objs.size=some { cls:=.type "list",dict:=none,data:=.seq ([]:List Value).toArray } :=
  pushCells_keeps _ _ _ _ (q0n _ (hH3 ▸ z0x _ rfl))
 have own:=ae8 scope.names (H3.push { cls:=.type "dict",data:=.dict #[] }) cl (λx c e=>by
   obtain ⟨v,o,ho,hd⟩:=I2.cell x c (cp.sub x c e);exact ⟨v,o,q0n _ (hH3 ▸ q0n _ ho),hd⟩) (λx y c h1 h2=>I2.ok.inj x y c (cp.sub x c h1) (cp.sub y c h2))
 rw [j0n] at own;generalize hh4:pushCells (H3.push { cls:=.type "dict",data:=.dict #[] }) scope.names=h4 at own hns0 old0 hD0 ⊢
 have hns:=hns0;have old:=old0;have hD:=hD0;have isOld:∀ x c,(cellsFrom (H3.objs.size+1) scope.names cl).lookup x=some c->X.env.cells.lookup x=some c \/ H3.objs.size+1<=c:=λx c e=>(own.old x c e).imp (cp.sub x c) λz=>by rw [j0n] at z;exact z
 have hDn:H2 s2.heap.objs.size=none:=I2.fresh;have hCn:H2 H3.objs.size=none:=I2.hok.fresh (by rw [hCe];exact j0r _)
 have hCs:s2.heap.objs.size<=H3.objs.size:=by rw [hCe];exact j0r _
 have hDC:s2.heap.objs.size ≠ H3.objs.size:=by rw [hCe];exact q0q (j0j _)
 have fpl:∀ b ∈ fp,∃ o,s2.heap.get? b=some o:=λb hb=>let ⟨o,e,_⟩:=T.obj _ _ st2 b hb;⟨o,e⟩;have fpC:∀ b ∈ fp,b ≠ H3.objs.size:=λb hb=>let ⟨o,e⟩:=fpl b hb;M8 b o e;have fpD:∀ b ∈ fp,b ≠ s2.heap.objs.size:=λb hb=>let ⟨o,e⟩:=fpl b hb;q0q (q0g e);have stkN:∀ b,b ≠ X.env.locals->b ∉ X.fs->b ∉ frs X.stack:=λb h1 h2 z=>(z0n.mp (I2.stkSub b z)).elim h1 h2
 have fpX:∀ b ∈ fp,∀ x c,(cellsFrom (H3.objs.size+1) scope.names cl).lookup x=some c->c ≠ b:=λb hb x c h=>by
  rcases isOld x c h with z | z
  ·exact (f2 b hb).2.2.2.2.1 x c z
  ·obtain ⟨o,e⟩:=fpl b hb
   exact v0f (q0d (q0g e) (q0p (q0p hCs (j0r _)) z))
 obtain ⟨W,⟨m0,w0⟩,turn⟩:=hW s2.heap.objs.size hDn
 have okB:(X.blockC scope cl H3.objs.size Nc s2 H2 fp pins).Ok:=by
  refine ⟨I2.ok.mod,?_,I2.ok.glob,I2.ok.blt,hCs,λx y c h1 h2=>own.inj x y c h1 h2,λx hx=>cp.has _ x hx,λx c h e=>q0p (q0p hCs (j0r _)) (by have z:=own.fresh x (aA1 h) c e;rw [j0n] at z;exact z),I2.ok.hd,I2.ok.frames,.inl rfl,λb hb=>⟨fpC b hb,λx c h=>fpX b hb x c h⟩,I2.bs,q0p I2.ok.bsz I2.sz,λb o e hb=>?_,λb hb=>stkN b (f2 b hb).2.1 (f2 b hb).2.2.1,I2.stack,I2.stkFree⟩
  ·exact cp.kind
  ·rcases (f2 b hb).2.2.2.1 with z | z
   ·exact I2.ok.noex b o e z
   ·exact absurd (q0d (q0g e) (q0p I2.ok.bsz z)) (j0y _)
 have hokB:HOk X.prog X.w (upd H2 s2.heap.objs.size (.lst [])) h4:=I2.hok.laid old (q0k _) ⟨z0f _,[],_,.nil,hD⟩
 have IB:Inv (X.blockC scope cl H3.objs.size Nc s2 H2 fp pins) [] (A5 caps σ) (upd H2 s2.heap.objs.size (.lst [])) { s2 with heap:=h4 }:=by
  refine ⟨okB,rfl,I2.bare,Un.laid old (q0k _) hDn,⟨_,hns,λi x v e1 e2 e3=>?_⟩,λx c e=>?_,(show upd H2 s2.heap.objs.size (.lst []) H3.objs.size=none by rw [c8 (Ne.symm hDC)];exact hCn),λx c e=>?_,λp hp=>?_,hokB,?_⟩
  ·unfold A5 at e2
   rw [q0f] at e2
   cases hcap:caps[i]? with
   | none=>rw [hcap] at e2;cases e2
   | some o =>
    rw [hcap] at e2
    cases o with
    | none=>cases e2
    | some j =>
     have hj:σ[j]? = some (some v):=by
      have e2':(σ[j]?).join=some v:=Option.some.inj e2
      cases q:σ[j]? with
      | none=>rw [q] at e2';cases e2'
      | some z=>rw [q] at e2';exact congrArg some e2'
     obtain ⟨n1,n2,n3,n4,n5,n6⟩:=cp.cap i j x hcap e1;obtain ⟨m,hm,hl⟩:=I2.loc;obtain ⟨u,r,q⟩:=hl j x v n1 hj n2;rcases q with ⟨k,_⟩ | ⟨k,c,ec,z⟩
     ·exact absurd k n3
     ·obtain ⟨c',ec'⟩:=n5
      have:=cp.sub x c' ec';rw [ec] at this;cases this;obtain ⟨oc,ho,hd⟩:=z;exact ⟨u,r,.inr ⟨n4,c,n6 _ _ ec',oc,old _ _ ho,hd⟩⟩
  ·exact own.cell x c e
  ·show upd H2 s2.heap.objs.size (.lst []) c=none
   rcases isOld x c e with z | z
   ·obtain ⟨v,oc,ho,hd⟩:=I2.cell x c z
    rw [c8 (q0q (q0g ho))];exact I2.freeC x c z
   ·have hz:s2.heap.objs.size<c:=q0d (q0m hCs (j0j _)) z
    rw [c8 (v0f hz)];exact I2.hok.fresh (y0q hz)
  ·have hp':p ∈ X.pn ++ pins:=by simpa using hp
   obtain ⟨e1,e2,e3,e4,e5⟩:=I2.pin p hp';exact ⟨old _ _ e1,by rw [c8 (q0q (q0g e1))];exact e2,M8 _ _ e1,stkN _ e3 e4,e5⟩
  ·show (A5 caps σ).length=Nc.length
   unfold A5;rw [q0b];exact cp.len
 have stat:∀ {H':Hp},(∀ b ∈ fp,H' b=none)->∀ b ∈ fp,aa2 (X.blockC scope cl H3.objs.size Nc s2 H2 fp pins) [] H' b:=λhn b hb =>
  ⟨hn b hb,fpC b hb,stkN b (f2 b hb).2.1 (f2 b hb).2.2.1,.inl hb,λx c h=>fpX b hb x c h,λp hp=>(f2 b hb).2.2.2.2.2 p (by simpa using hp)⟩
 have loop:∀ s5:Shared,s5={ s2 with heap:=h4 } ->
   codeAny (model X.prog X.w) X.A (.compLoop (.ListComp elt [⟨tg,iter,[],0⟩] scope pos) 0 (.ref it) (.ref s2.heap.objs.size) (compEnvC scope (cellsFrom (H3.objs.size+1) scope.names cl) H3.objs.size X.env))
    (compPost (model X.prog X.w) X.A X.xe (some (assign (.Name y py) X.env)) (λ_ s'=>SP X pins DD .next s') (.ref s2.heap.objs.size) H3.objs.size) s5:=by
  rintro s5 rfl;refine ae7 (λn s' => ∃ i σ' H',Inv (X.blockC scope cl H3.objs.size Nc s2 H2 fp pins) [] σ' H' s'/\tn i s'.heap/\(∀ b ∈ fp,H' b=none)/\W i n σ' H') ?_ m0 ⟨0,_,_,IB,T.keep _ _ _ st2 λb hb o e=>old b o e,λb hb=>by rw [c8 (fpD b hb)];exact (f2 b hb).1,w0⟩
  rintro n s6 ⟨i,σ6,H6,I6,st6,fr6,w6⟩;rcases turn i n σ6 H6 w6 with ⟨stop,qn⟩ | ⟨go,step⟩
  ·refine thn (T.done (X.blockC scope cl H3.objs.size Nc s2 H2 fp pins) rfl rfl rfl hc i [] s6 σ6 H6 _ I6 (stat fr6) st6 stop) λr s7 zq=>?_
   obtain ⟨hr,I7⟩:=zq;subst hr;obtain ⟨m7,hn7,_⟩:=id I7.loc;have Io:Inv X pins σ H6 s7:=I2.sameC (h'':=s7.heap) f2 I7.os I7.bare I7.base I7.hok hCs I7.free ⟨rfl,λ_ _=>rfl⟩;have fC:aa2 X pins H6 H3.objs.size:=I2.fpOk hCs I7.free;have fC':∀ b ∈ [H3.objs.size],aa2 X pins H6 b:=λb hb=>by rw [z0c.mp hb];exact fC
   obtain ⟨oC,esC,epC,hoC,restC⟩:=id hn7
   have obC:∀ b ∈ [H3.objs.size],∃ o,s7.heap.get? b=some o/\∀ v,o.data ≠ .cell v:=λb hb=>by
    rw [z0c.mp hb];exact ⟨oC,hoC,λv z=>ak6 hn7 hoC v z⟩
   have Ip:=Io.pinned fC' obC
   show wpAny (model X.prog X.w) X.A (assign (.Name y py) X.env (.ref s2.heap.objs.size)) _ _ s7;refine thn (c6 (pos:=py) hN hi₀ hx hf _ s7 σ H6 (.ref s2.heap.objs.size) (.ref s2.heap.objs.size) DD.nx Ip rfl qn) λ_ s9 zq=>?_;obtain ⟨σ9,H9,I9,q9⟩:=zq;have keepC:=(I9.pin (H3.objs.size,oC) (q0e _ (q0e _ (m3 (by simp) hoC)))).1
   have H9C:=(I9.pin (H3.objs.size,oC) (q0e _ (q0e _ (m3 (by simp) hoC)))).2.1
   refine ⟨m7,hn7.at' λo e=>by rw [hoC] at e;cases e;exact keepC,λh' sb=>?_⟩
   obtain ⟨_,g1,g2,g3,g4,g5⟩:=fC;exact ⟨σ9,H9,I9.unpinned.turned (t':=s9.toks) (λb o hb e=>(sb.2 b hb).trans e) H9C g1 g3 g4 g5,q9⟩
  ·refine thn (T.item (X.blockC scope cl H3.objs.size Nc s2 H2 fp pins) rfl rfl rfl hc i [] s6 σ6 H6 _ I6 (stat fr6) st6 go) λr s7 zq=>?_
   obtain ⟨u,hr,h7⟩:=zq;subst hr;refine thn h7 λ_ s8 zq=>?_;obtain ⟨x,H8,I8,r8,y8,st8,fr8⟩:=zq;have I8':=I8.pinned (stat fr8) (T.obj _ _ st8);refine thn (hg _ _ _ _ _ _ s8 σ6 H8 x u _ I8' r8 (step x H8 y8)) λ_ s9 zq=>?_;obtain ⟨σ9,H9,I9,q9⟩:=zq;refine thn (he _ _ _ _ _ _ s9 σ9 H9 _ I9 q9) λu10 s10 zq=>?_;obtain ⟨v10,H10,I10,r10,ys,hys,hlen,m',hm',w'⟩:=zq;refine thn (B9 _ s10 σ9 H10 (.ref s2.heap.objs.size) [v10] (.ref s2.heap.objs.size) [u10] (λ_ H11=>H11=upd H10 s2.heap.objs.size (.lst (ys ++ [v10]))) I10 rfl (.cons r10 .nil) ⟨_,ys,v10,rfl,rfl,hys,hlen,rfl⟩) λ_ s11 zq=>?_;obtain ⟨_,H11,I11,_,hH11⟩:=zq;subst hH11;refine ⟨m',hm',i+1,σ9,_,I11.unpinned,T.keep _ _ _ st8 λb hb o e=>(I11.pin (b,o) (q0e _ (q0e _ (m3 hb e)))).1,λb hb=>?_,w'⟩;obtain ⟨o,e,d⟩:=T.obj _ _ st8 b hb;exact (I11.pin (b,o) (q0e _ (q0e _ (m3 hb e)))).2.1
 exact codeAny_compStart_list (loop _ rfl) (T.self _ 0 _ _ _ (T.keep _ _ _ st2 λb hb o e=>old b o e) (loop _ rfl))
end
end L2
set_option maxRecDepth 100000
namespace R
open PySem L2 PyProof.Rows
def top (i:Nat):Stmt:=PySem.Challenge.pw_restward_k22_forms_led_to_squares.main.body.getD i (.Pass ⟨0,0,0,0⟩)
end R
set_option maxRecDepth 100000
local macro_rules | `(tactic| simp! [$ls,*]) => do
  let a <- ("L2.aD6 L2.au0 L2.Q6 L2.K4 L2.aF6 L2.tSl L2.al9 L2.T8 L2.aH3 L2.U9 L2.an3 L2.A5 j0a u0v g0p g0q g0r L2.ay5 L2.aC8 L2.aD1 L2.tOr L2.aC6 L2.al8 L2.tB L2.tOp L2.tUn L2.aD0 L2.tBM L2.Y5 L2.tC L2.tCB L2.ay6 L2.ao6 L2.k9 L2.ap3 L2.E9 L2.k6 L2.F2 L2.T9 L2.ao5 L2.ay7 L2.aC5 L2.aC7 L2.tIf L2.am3 L2.am0 L2.at5 L2.Y6 L2.am2 L2.am1 L2.ab0 L2.aa9 L2.rI L2.rI0 L2.rU L2.U8 L2.Z3 L2.au1 L2.aa4 L2.rEq L2.rNe L2.ab9 L2.ab8 L2.ab7 L2.aD7 L2.aY3 L2.an2 L2.an1 L2.aa7 L2.ad4 L2.cxR L2.cxX L2.Cx.nox L2.Cx.wish L2.Cx.body L2.Cx.suite u0b u0c v0v v0w Option.some.injEq L2.V.int.injEq L2.V.bl.injEq L2.V.ref.injEq L2.V.str.injEq exists_eq_left' exists_eq_left exists_and_left true_and and_true List.cons.injEq reduceCtorEq y0s if_false if_true exists_const L2.tyV j0x m0a exists_eq v0b g0s m0b decide_eq_true_eq not_true_eq_false not_false_eq_true y0k decide_eq_false_iff_not m0s m0j and_assoc false_and false_or or_false".splitOn " ").toArray.mapM λs => `(Lean.Parser.Tactic.simpLemma| $(Lean.mkIdent s.toName):ident)
  let b:=ls.getElems.map λx=>(⟨x.raw⟩:Lean.TSyntax `Lean.Parser.Tactic.simpLemma)
  let c:=a ++ b
  `(tactic| simp only [↓reduceIte,$[$c],*])
local macro_rules | `(tactic| subst_eqs) => `(tactic| simp! [])
local macro_rules | `(tactic| and_intros) => `(tactic| exact ⟨rfl, rfl, rfl, by decide +kernel, rfl, by decide +kernel, by decide +kernel⟩)
namespace R
open PySem L2 PyProof.Rows
section
variable {P:Program} {w:World} {K:q0a} {mg:Str->Option Value} {base:Heap}
def at6:Sp:=λvs H Q _ => ∃ a b:Int,vs=[.int a,.int b]/\(a.natAbs<2 ^ 6000 \/ b.natAbs<2 ^ 6000)/\Q (.int (q0s a b)) H
abbrev G4:Stmt:=top 24
theorem U2:j1 ["one","other"] ["one","other"] (b9 G4):=by and_intros
theorem ai6 {f:Addr} (d:Df K mg "common_divisor" G4 ["one","other"] f) (c_SHORT:∃ t,mg "SHORT" = some (.int 6000 t)) (n_abs:mg "abs" = none):Def P w K mg base CX0 1 "common_divisor" f ["one","other"] at6:=by
  obtain ⟨tS,c_SHORT⟩:=c_SHORT;refine d.ok (N:=["one","other"]) U2 (λvs H Q E ⟨a,b,h,_⟩=>by rw [h];rfl) (λcdv A outer s H vs Q E hr h=>?_)
  obtain ⟨a,b,rfl,hab,q⟩:=h
  refine ⟨_, (b8 (z9 (PW.pt (aS7 (l5 ai5 (aH6 PySem.F.plainAttrs_int PySem.F.slot_int_bit_length PySem.F.type_int_bit_length aw8 (pv 1)) (z8 (v := .int 6000) rfl c_SHORT ⟨_, rfl⟩) (j9 _)) (aL8 (l5 ai5 (aH6 PySem.F.plainAttrs_int PySem.F.slot_int_bit_length PySem.F.type_int_bit_length aw8 (pv 0)) (z8 (v := .int 6000) rfl c_SHORT ⟨_, rfl⟩) (j9 _))))) (c4 aD9) m8)
      (b8 (aq4 PassesOwn.never (aq3 (pv 1) (λ_=>rfl)) (c4 (aT0 (i:=0) (j:=1) rfl U2.nd rfl rfl (by decide) rfl rfl (a7 (pv 1) (a7 (i7 M1 (pv 0) (pv 1)) a8)) rfl)))
      (c4 (i9 (h8 ad8 rfl n_abs (by decide +kernel) (a7 (pv 0) a8)))))),?_⟩
  rw [show start ["one","other"] [.int a,.int b]=[some (.int a),some (.int b)] from rfl]
  have hno:¬ ((6000:Int)<Builtin.Int.intBits b/\(6000:Int)<Builtin.Int.intBits a):=by
    rintro ⟨h1,h2⟩;rcases hab with z | z
    · have:=N4 z;omega
    · have:=N4 z;omega
  have main : ∀ {D : ah5} , (∀ x : Int, ∀ y : Int, y = 0 → Int.gcd x y = Int.gcd a b → D.nx [some (.int x), some (.int y)] H) → aq2 (fun σ H_1 Q => Y5 1 σ H_1 fun x H' => ∃ k, ba4 K x H' k ∧ Q k H')
      (ay7 0 1 (T9 (Y5 1) (T9 (tOp (rI (λx j=>j ≠ 0) λi j=>V.int (i.fmod j)) (Y5 0) (Y5 1)) ao5))) D [some (.int a),some (.int b)] H:=by
    intro D hD;refine aC4 (λσ H1=>H1=H/\∃ x y:Int,σ=[some (.int x),some (.int y)]/\Int.gcd x y=Int.gcd a b) (λσ _=>match σ with | [_,some (.int y)]=>y.natAbs | _=>0) ⟨rfl,a,b,rfl,rfl⟩ ?_ ?_
    · rintro σ H1 ⟨rfl,x,y,rfl,hg⟩
      simp! [ba4]
      split
      · rename_i hy
        have hy':y ≠ 0:=by simpa using hy
        exact ⟨hy',by rw [aF7];exact hg,ac6 x hy'⟩
      · rename_i hy
        have hy':y=0:=by simpa using hy
        exact hD x y hy' hg
    · intro σ H1 Q Q' hQ h
      obtain ⟨v,e1,k,e2,e3⟩:=h;exact ⟨v,e1,k,e2,hQ _ _ e3⟩
  have fin:∀ x y:Int,y=0->Int.gcd x y=Int.gcd a b->Q (.int (if x<0 then -x else x)) H:=λx y hy hg=>by
    subst hy
    have e:(if x<0 then -x else x)=(Int.gcd a b:Int):=by
      rw [<- hg,Int.gcd_zero_right]
      split <;> omega
    rw [e];exact q
  have nxt:∀ x y:Int,y=0->Int.gcd x y=Int.gcd a b->(ay6 (tCB (λxs H Q => ∃ i,xs=[V.int i]/\Q (V.int (if i<0 then -i else i)) H) (T9 (Y5 0) ao5)) { nx:=λx H'=>Q V.non H',rt:=Q }) [some (.int x),some (.int y)] H:=λx y hy hg=>by
    subst_eqs
    exact fin x y hy hg
  subst_eqs
  split
  · split
    · exact hno ⟨‹_›,‹_›⟩
    · exact main nxt
  · exact main nxt
def ag4:Sp:=λvs H Q _ => ∃ t b:Int,vs=[.int t,.int b]/\b.natAbs<2 ^ 6000/\b ≠ 0/\at3 H Q (q0w t b)
abbrev Y9:Stmt:=top 25
theorem ab4:j1 ["top","bottom","shared"] ["top","bottom"] (b9 Y9):=by and_intros
theorem aE3 {f fc:Addr} (d:Df K mg "fraction" Y9 ["top","bottom"] f) (G_common_divisor:Def P w K mg base CX0 1 "common_divisor" fc ["one","other"] at6):Def P w K mg base CX0 2 "fraction" f ["top","bottom"] ag4:=by
 refine d.ok (N:=["top","bottom","shared"]) ab4 (by rintro vs H Q E ⟨a,b,h,_⟩;rw [h];rfl) (λcdv A outer s H vs Q E hr h=>?_)
 obtain ⟨t,b,rfl,hb,h0,q⟩:=h
 refine ⟨_,(b8 (z9 (l5 X4 (pv 1) b7 (j9 _)) (c4 aD9) m8)
   (b8 (i8 (i:=2) ab4.nd rfl (q0y rfl) (d6 G_common_divisor hr (a7 (pv 0) (a7 (pv 1) a8)) j0))
   (b8 (z9 (l5 aq6 (pv 1) b7 (j9 _)) (c4 (i8 (i:=2) ab4.nd rfl (q0y rfl) (aE1 aq1 (pv 2)))) m8)
   (c4 (i9 (m5 (a7 (i7 A7 (pv 0) (pv 2)) (a7 (i7 A7 (pv 1) (pv 2)) a8)))))))),?_⟩
 rw [show start ["top","bottom","shared"] [.int t,.int b]=[some (.int t),some (.int b),none] from rfl]
 simp! [aH1,at6]
 rw [if_neg h0];refine ⟨.inr hb,?_⟩;have hg:=Z7 (t:=t) h0;have hgl:=aJ0 (a:=t) h0 hb
 by_cases hs:b<0
 ·rw [if_pos hs]
  obtain ⟨e1,e2⟩:=al0 (t:=t) (g:=-(q0s t b:Int)) h0 (by rw [if_pos hs])
  have dv:∀ i,ao4 i (-(q0s t b:Int)):=λi=>Y1 ⋯ (by rw [Int.natAbs_neg];exact ai8 hgl)
  refine ⟨dv _,dv _,u0,λr hr'=>?_⟩;exact q r _ (c5.new hr' _) (by rw [a9];unfold A1;rw [e1,e2])
 ·rw [if_neg hs]
  obtain ⟨e1,e2⟩:=al0 (t:=t) (g:=(q0s t b:Int)) h0 (by rw [if_neg hs])
  have dv:∀ i,ao4 i ((q0s t b:Int)):=λi=>Y1 ⋯ (ai8 hgl);refine ⟨dv _,dv _,u0,λr hr'=>?_⟩;exact q r _ (c5.new hr' _) (by rw [a9];unfold A1;rw [e1,e2])
instance {K:q0a} {H:Hp} {vs:List V} {qs:List Rat}:Coe (C3 H vs qs) (A0 K H vs qs):=⟨C3.toC⟩
theorem A0.get {K:q0a} {H:Hp}:∀ {vs:List V} {qs:List Rat} {i:Nat} {q:Rat},A0 K H vs qs->qs[i]? = some q->∃ p,vs[i]? = some (.ref p)/\NmC K H p q
 | _,_,_,_,.nil,e=>by simp at e
 | _,_,0,_,.cons h _,e=>by cases e;exact ⟨_,rfl,h⟩
 | _,_,i+1,_,.cons _ t,e=>t.get (i:=i) (by simpa using e)
def aj9 (K:q0a):Sp:=λvs H Q _ => ∃ a ws,vs=[.ref a]/\SqL K H a (ws.map V.int)/\(∀ w ∈ ws,j0m w<2 ^ 6000)/\Q (.int (J2 ws)) H
abbrev P3:Stmt:=top 29
theorem N6:j1 ["wholes","content","whole"] ["wholes"] (b9 P3):=by and_intros
theorem au4 {f fc:Addr} (d:Df K mg "content_of" P3 ["wholes"] f) (G_common_divisor:Def P w K mg base CX0 1 "common_divisor" fc ["one","other"] at6):Def P w K mg base CX0 2 "content_of" f ["wholes"] (aj9 K):=by
 refine d.ok (N:=["wholes","content","whole"]) N6 (by rintro vs H Q E ⟨a,b,h,_⟩;rw [h];rfl) (λcdv A outer s H vs Q E hr h=>?_)
 obtain ⟨a,ws,rfl,hS,hb,k⟩:=h
 refine ⟨_,(b8 (i8 (i:=1) N6.nd rfl (q0y rfl) b7)
   (b8 (C6 PassesOwn.never rfl (x9 (pv 0)) (c6 (i:=2) N6.nd rfl (q0y rfl)) (b8 (i8 (i:=1) N6.nd rfl (q0y rfl) (d6 G_common_divisor hr (a7 (pv 2) (a7 (pv 1) a8)) j0))
   (c4 (z9 (l5 X4 (pv 1) b7 (j9 _)) (c4 (i9 b7)) m8))))
   (c4 (i9 (pv 1))))),?_⟩
 rw [show start ["wholes","content","whole"] [.ref a]=[some (.ref a),none,none] from rfl]
 subst_eqs
 refine ⟨_,rfl,a,rfl,⟨_,hS⟩,ar9 (xs:=ws.map V.int) (λi σ H1=>H1=H/\∃ o,σ=[some (.ref a),some (.int (J2 (ws.take i):Nat)),o]) ⟨rfl,_,rfl⟩ (λi σ H1 _ ⟨e,_⟩=>e ▸ hS) ?_ ?_⟩
 ·rintro i x σ H1 hx ⟨rfl,o,rfl⟩
  rw [q0f] at hx
  cases hw:ws[i]? with
  | none=>rw [hw] at hx;cases hx
  | some v =>
   rw [hw] at hx
   cases hx
   have hm:=q0j hw
   simp! [at6]
   have es:ws.take (i+1)=ws.take i ++ [v]:=by rw [v0z,hw];rfl
   have eg:q0s v (J2 (ws.take i):Int)=J2 (ws.take (i+1)):=by rw [es,aQ1]
   refine ⟨.inl (q0d (hb v hm) (i5 (by decide))),?_⟩
   rw [eg];refine ⟨rfl,A9 (λh1=>?_) (λ_=>?_)⟩
   ·have:J2 (ws.take (i+1))=1:=⋯
    have e1:=aV4 _ this;rw [e1] at k;exact k
   ·exact ⟨rfl,_,rfl⟩
 ·rintro σ H1 ⟨rfl,o,rfl⟩
  rw [q0b,y0p];exact ⟨_,rfl,k⟩
def aw1 (K:q0a):Sp:=λvs H Q _ => ∃ a xs qs,vs=[.ref a]/\SqL K H a xs/\A0 K H xs qs/\(∃ W:Nat,ClN W qs/\W<=6000)/\qs.length<=100 /\
 ∀ r l H',c5 H H'->H l=none->H' r=some (.tup [.ref l,.int (t4 qs)])->H' l=some (.lst ((z7 (t4 qs) qs).map V.int))->Q (.ref r) H'
abbrev W9:Stmt:=top 31
theorem Y8:j1 ["numbers","bottom","number"] ["numbers"] (b9 W9):=by and_intros
theorem aI2 {f fc:Addr} (d:Df K mg "cleared" W9 ["numbers"] f) (G_common_divisor:Def P w K mg base CX0 1 "common_divisor" fc ["one","other"] at6):Def P w K mg base CX0 2 "cleared" f ["numbers"] (aw1 K):=by
 refine d.ok (N:=["numbers","bottom","number"]) Y8 (by rintro vs H Q E ⟨a,b,c,h,_⟩;rw [h];rfl) (λcdv A outer s H vs Q E hr h=>?_)
 obtain ⟨a,xs,qs,rfl,hS,hN,⟨W,hs,hm⟩,hl,k⟩:=h
 refine ⟨_,(b8 (i8 (i:=1) Y8.nd rfl (z0z rfl) b7)
   (b8 (C6 PassesOwn.never rfl (x9 (pv 0)) (c6 (i:=2) Y8.nd rfl (q0y rfl)) (c4 (i8 (i:=1) Y8.nd rfl (z0z rfl) (i7 q8 (i7 A7 (pv 1) (d6 G_common_divisor hr (a7 (pv 1) (a7 (d8 j8 (pv 2) b7 (λ_ _=>rfl)) a8)) j0)) (d8 j8 (pv 2) b7 (λ_ _=>rfl))))))
   (c4 (i9 (m5 (a7 (w8 (Nc:=["bottom","top","under"]) (caps:=[some 1,none,none]) rfl (J3.of (osc:=b9 W9) (N:=["numbers","bottom","number"]) (ks:=["bottom"]) rfl rfl rfl rfl (j5 rfl l9) (by decide +kernel)) (x9 (pv 0)) (λC s₂ H₂ fp pins=>(show PG _ _ (E9 K 2 (k6 (k9 1) (k6 (k9 2) F2))) from by (refine w5 (n:=2) ?_ ?_ ?_ ?_;rfl;(refine d7 ?_ ?_ ?_;(exact (c6 (i:=1) (show z0t (["bottom","top","under"]:List Str) by decide +kernel) rfl (q0y rfl) (z0z rfl)));(refine d7 ?_ ?_ ?_;(exact (c6 (i:=2) (show z0t (["bottom","top","under"]:List Str) by decide +kernel) rfl (q0y rfl) (z0z rfl)));(exact p4);rfl);rfl);rfl;rfl))) (λC s₂ H₂ fp pins=>(i7 q8 (pv 1) (i7 A7 (pv 0) (pv 2))))) (a7 (pv 1) a8))))))),?_⟩
 rw [show start ["numbers","bottom","number"] [.ref a]=[some (.ref a),none,none] from rfl]
 subst_eqs
 have small:∀ q ∈ qs,q.den<2 ^ 6000:=λq hq=>q0d (hs.den hq) (i5 hm)
 have hB:∀ i,0<t4 (qs.take i)/\t4 (qs.take i)<2 ^ 6000:=λi=>by
  exact ⟨ad1 _,q0d (hs.take i) (i5 hm)⟩
 refine ⟨_,rfl,a,rfl,⟨_,hS⟩,ar9 (xs:=xs) (λi σ H1=>H1=H/\∃ o,σ=[some (.ref a),some (.int (t4 (qs.take i):Nat)),o]) ⟨rfl,_,rfl⟩ (λi σ H1 _ ⟨e,_⟩=>e ▸ hS) ?_ ?_⟩
 ·rintro i x σ H1 hx ⟨rfl,o,rfl⟩
  obtain ⟨p,q,rfl,hq,hp⟩:=hN.getV hx;obtain ⟨b1,b2⟩:=hB i;have hd:=small q (q0j hq);have hd0:=v9 q;have es:qs.take (i+1)=qs.take i ++ [q]:=by rw [v0z,hq];rfl
  have gp:(0:Int)<(q0s (t4 (qs.take i):Int) (q.den:Int):Nat):=by
   have:=Z7 (t:=(t4 (qs.take i):Int)) (b:=(q.den:Int)) ⋯;omega
  have el:(t4 (qs.take i):Int).fdiv (q0s (t4 (qs.take i):Int) (q.den:Int):Nat)*(q.den:Int)=(t4 (qs.take (i+1)):Nat):=by
   rw [es,aP7];obtain ⟨e,he⟩:=v0j (t4 (qs.take i):Int) (q.den:Int);have hg:q0s (t4 (qs.take i):Int) (q.den:Int)=Nat.gcd (t4 (qs.take i)) q.den:=by simp [q0s]
   have h1:(t4 (qs.take i):Int).fdiv (q0s (t4 (qs.take i):Int) (q.den:Int):Nat)=e:=by
    conv=>lhs;arg 1;rw [he]
    exact m4 ⋯
   rw [h1];have h2:Nat.gcd (t4 (qs.take i)) q.den*u0n (t4 (qs.take i)) q.den=t4 (qs.take i)*q.den:=Nat.gcd_mul_lcm _ _
   have h3:((Nat.gcd (t4 (qs.take i)) q.den:Nat):Int)*(u0n (t4 (qs.take i)) q.den:Nat)=(t4 (qs.take i):Int)*(q.den:Int):=by
    rw [<- j0h,h2,j0h]
   rw [<- hg] at h3
   have h4:((q0s (t4 (qs.take i):Int) (q.den:Int):Nat):Int)*(e*q.den)=((q0s (t4 (qs.take i):Int) (q.den:Int):Nat):Int)*(u0n (t4 (qs.take i)) q.den:Nat):=by
    rw [h3,<- Int.mul_assoc,<- he]
   exact g0h ⋯ h4
  simp! [at6]
  have hd9:(q.den:Int).natAbs<2 ^ 6000:=by rw [q0r];exact hd
  exact ⟨_,hp.sqt,_,at1 q,_,rfl,.inr (ai8 hd9),Y1 ⋯ (aJ0 ⋯ (ai8 hd9)),_,hp.sqt,_,at1 q,_,rfl,L6 (m:=6000) (n:=6000) (q0m (aM7 ⋯ (v0j _ _)) (by rw [q0r];exact b2)) hd9,el,_,rfl⟩
 ·rintro σ H1 ⟨rfl,o,rfl⟩
  rw [<- hN.length] at hl;have e1:qs.take xs.length=qs:=by rw [hN.length,y0p]
  rw [e1]
  simp! [at6]
  refine ⟨⟨_,hS⟩,λD hD=>?_⟩;refine B7 xs (λi σ H2 => ∃ o1 o2,σ=[some (.int (t4 qs)),o1,o2]/\c5 H1 H2/\H2 D=some (.lst ((z7 (t4 qs) (qs.take i)).map V.int))) ⟨_,_,rfl,c5.new hD _,a9⟩ (λi σ H2 _ ⟨_,_,_,s2,_⟩=>s2.seq hS) ?_ ?_
  ·rintro i x σ H2 hx ⟨o1,o2,rfl,s2,e2⟩
   have hi:=(q0h.mp hx).1;obtain ⟨p,q,rfl,hq,hp⟩:=hN.getV hx;have hd:=small q (q0j hq);have hd0:=v9 q;have hd9:(q.den:Int).natAbs<2 ^ 6000:=by rw [q0r];exact hd
   have hn9:=hs.num (q0j hq);have es:qs.take (i+1)=qs.take i ++ [q]:=by rw [v0z,hq];rfl
   subst_eqs
   refine ⟨_,s2.tup hp.sqt,rfl,_,_,rfl,_,_,rfl,rfl,?_⟩;refine ⟨_,rfl,Y1 ⋯ (ai8 hd9),_,rfl,L6 (m:=6000) (n:=6000) (q0d hn9 (i5 ⋯)) (q0m (aM7 ⋯ (j0s.mpr (ae5 (q0j hq)))) (by rw [q0r];have:=(hB qs.length).2;rwa [y0p] at this)),?_⟩
   refine r6.mk hi e2 ?_ ⟨_,_,rfl,(s2.trans (c5.refl _)).over hD _,?_⟩
   ·simp only [q0b,z7,q0x]
    exact q0m (show _<=100 by omega) (by decide)
   ·rw [a9,es]
    simp [z7]
  ·rintro σ H2 ⟨o1,o2,rfl,s2,e2⟩
   rw [e1] at e2;refine ⟨u0,λp hp=>k p D _ (s2.trans (c5.new hp _)) hD a9 ?_⟩;rw [c8 (c7 e2 hp)];exact e2
end
theorem t7 {z:Int} (h:z ≠ 0):(z:Rat) ≠ 0:=λw=>h (y0b.mp (by rw [w,Rat.intCast_zero]))
def lf (n:Nat) (c v:Nat->Rat):Rat:=j4 (λi=>c i*v i) n
def sgd (i:Nat):Rat:=if i % 2=0 then 1 else -1
theorem aS3 (i:Nat):sgd (i+1)=- sgd i:=by
 unfold sgd;rcases Nat.mod_two_eq_zero_or_one i with h | h
 ·rw [if_pos h,if_neg ⋯]
 ·rw [if_pos (show (i+1) % 2=0 by omega),if_neg (show ¬ i % 2=0 by omega)];grind
abbrev Mt:=Nat->Nat->Rat
def mn (M:Mt) (i:Nat):Mt:=λr c=>M (if r<i then r else r+1) (c+1)
def dt:Nat->Mt->Rat
 | 0,_=>1
 | n+1,M=>j4 (λi=>sgd i*M i 0*dt n (mn M i)) (n+1)
theorem B6 (n:Nat) (M:Mt):dt (n+1) M=j4 (λi=>sgd i*M i 0*dt n (mn M i)) (n+1):=rfl
theorem C2:∀ {n:Nat} {M N:Mt},(∀ r,r<n->∀ c,c<n->M r c=N r c)->dt n M=dt n N
 | 0,_,_,_=>rfl
 | n+1,M,N,h=>by
  rw [B6,B6];refine i4 λi hi=>?_;rw [h i hi 0 ⋯,C2 (n:=n) (M:=mn M i) (N:=mn N i) λr hr c hc=>h _ (by split <;> omega) _ ⋯]
def setR (M:Mt) (r:Nat) (v:Nat->Rat):Mt:=λi c=>if i=r then v c else M i c
theorem W6 (M:Mt) (r:Nat):setR M r (M r)=M:=by
 funext i c
 unfold setR
 split
 ·rename_i h;rw [h]
 ·rfl
theorem ac7 (M:Mt) (r:Nat) (v:Nat->Rat):mn (setR M r v) r=mn M r:=by
 funext i c
 unfold mn setR;rw [if_neg (by split <;> omega)]
theorem ak7 (M:Mt) {r i:Nat} (v:Nat->Rat) (h:r<i):mn (setR M r v) i=setR (mn M i) r (λc=>v (c+1)):=by
 funext a c
 unfold mn setR
 by_cases z:a=r
 ·rw [if_pos z,if_pos (by rw [z,if_pos h])]
 ·rw [if_neg z,if_neg (by split <;> omega)]
theorem ak8 (M:Mt) {r i:Nat} (v:Nat->Rat) (h:i<r):mn (setR M r v) i=setR (mn M i) (r-1) (λc=>v (c+1)):=by
 funext a c
 unfold mn setR
 by_cases z:a=r-1
 ·rw [if_pos z,if_pos (by rw [z,if_neg ⋯];omega)]
 ·rw [if_neg z,if_neg (by split <;> omega)]
theorem ah2:∀ {n:Nat} (M:Mt) {r:Nat} (a b:Rat) (v w:Nat->Rat),r<n->dt n (setR M r λc=>a*v c+b*w c)=a*dt n (setR M r v)+b*dt n (setR M r w)
 | 0,_,_,_,_,_,_,h=>⋯
 | n+1,M,r,a,b,v,w,h=>by
  rw [B6,B6,B6,y3,y3,K8];refine i4 λi hi=>?_;rcases Nat.lt_trichotomy r i with z | z | z
  ·rw [ak7 M _ z,ak7 M _ z,ak7 M _ z,ah2 (mn M i) a b _ _ ⋯]
   have:∀ u:Nat->Rat,setR M r u i 0=M i 0:=λu=>if_neg ⋯;rw [this,this,this];grind
  ·subst z
   rw [ac7,ac7,ac7];have:∀ u:Nat->Rat,setR M r u r 0=u 0:=λu=>if_pos rfl;rw [this,this,this];grind
  ·rw [ak8 M _ z,ak8 M _ z,ak8 M _ z,ah2 (mn M i) a b _ _ ⋯]
   have:∀ u:Nat->Rat,setR M r u i 0=M i 0:=λu=>if_neg ⋯;rw [this,this,this];grind
theorem aY0 {f:Nat->Rat} {n r:Nat} (hr:r+1<n) (h:∀ i,i<n->i ≠ r->i ≠ r+1->f i=0):j4 f n=f r+f (r+1):=by
 have:j4 f n=j4 (λi=>(if i=r then f r else 0)+(if i=r+1 then f (r+1) else 0)) n:=i4 λi hi=>by
  by_cases z:i=r
  ·rw [if_pos z,if_neg ⋯,z];grind
  ·by_cases y:i=r+1
   ·rw [if_neg z,if_pos y,y];grind
   ·rw [if_neg z,if_neg y,h i hi z y];grind
 rw [this,<- K8,G3 (λ_=>f r),G3 (λ_=>f (r+1)),if_pos ⋯,if_pos hr]
theorem aB7:∀ {n:Nat} {M:Mt} {r:Nat},r+1<n->(∀ c,M r c=M (r+1) c)->dt n M=0
 | 0,_,_,h,_=>⋯
 | n+1,M,r,h,e=>by
  rw [B6];rw [aY0 h λi hi h1 h2=>?_]
  ·have:mn M r=mn M (r+1):=by
    funext a c
    unfold mn
    by_cases z:a=r
    ·rw [if_neg ⋯,if_pos ⋯,z,e]
    ·by_cases y:a<r
     ·rw [if_pos y,if_pos ⋯]
     ·rw [if_neg y,if_neg ⋯]
   rw [this,aS3,e 0];grind
  ·have:dt n (mn M i)=0:=by
    by_cases z:i<r
    ·refine aB7 (r:=r-1) ⋯ λc=>?_
     unfold mn;rw [if_neg ⋯,if_neg ⋯,show r-1+1=r by omega];exact e _
    ·refine aB7 (r:=r) ⋯ λc=>?_
     unfold mn;rw [if_pos ⋯,if_pos ⋯];exact e _
   rw [this];grind
def swR (M:Mt) (r s:Nat):Mt:=λi c=>M (if i=r then s else if i=s then r else i) c
theorem set_comm (M:Mt) {r s:Nat} (h:r ≠ s) (v w:Nat->Rat):setR (setR M r v) s w=setR (setR M s w) r v:=by
 funext i c
 unfold setR
 by_cases z:i=s
 ·rw [if_pos z,if_neg ⋯,if_pos z]
 ·rw [if_neg z]
  by_cases y:i=r
  ·rw [if_pos y,if_pos y]
  ·rw [if_neg y,if_neg y,if_neg z]
theorem aW5 {n:Nat} (M:Mt) {r:Nat} (v w:Nat->Rat) (h:r<n):dt n (setR M r λc=>v c+w c)=dt n (setR M r v)+dt n (setR M r w):=by
 have:=ah2 M 1 1 v w h;rw [show (λc=>v c+w c)=λc=>1*v c+1*w c by funext c;grind,this];grind
theorem aZ8 {n:Nat} {M:Mt} {r:Nat} (h:r+1<n):dt n (swR M r (r+1))=- dt n M:=by
 have e0:∀ v:Nat->Rat,dt n (setR (setR M r v) (r+1) v)=0:=λv=>aB7 h λc=>by
  unfold setR;rw [if_neg ⋯,if_pos rfl,if_pos rfl]
 have e1:=e0 λc=>M r c+M (r+1) c
 have x1:∀ w:Nat->Rat,dt n (setR (setR M r λc=>M r c+M (r+1) c) (r+1) w)=dt n (setR (setR M (r+1) w) r (M r))+dt n (setR (setR M (r+1) w) r (M (r+1))):=λw=>by
  rw [set_comm _ ⋯,aW5 _ _ _ ⋯]
 rw [aW5 _ _ _ h,x1,x1] at e1;rw [show setR (setR M (r+1) (M r)) r (M r)=setR (setR M r (M r)) (r+1) (M r) from set_comm _ ⋯ _ _,e0] at e1;rw [show setR (setR M (r+1) (M (r+1))) r (M (r+1))=setR (setR M r (M (r+1))) (r+1) (M (r+1)) from set_comm _ ⋯ _ _,e0] at e1;have s1:setR (setR M (r+1) (M (r+1))) r (M r)=M:=by rw [W6,W6]
 have s2:setR (setR M (r+1) (M r)) r (M (r+1))=swR M r (r+1):=by
  funext i c
  unfold setR swR
  by_cases z:i=r
  ·rw [if_pos z,if_pos z]
  ·rw [if_neg z,if_neg z]
   by_cases y:i=r+1
   ·rw [if_pos y,if_pos y]
   ·rw [if_neg y,if_neg y]
 rw [s1,s2] at e1
 grind
theorem as3 {n:Nat}:∀ (d:Nat) {M:Mt} {r:Nat},r+d+1<n->(∀ c,M r c=M (r+d+1) c)->dt n M=0
 | 0,_,_,h,e=>aB7 h e
 | d+1,M,r,h,e=>by
  have h1:=aZ8 (M:=M) (r:=r+d+1) (n:=n) ⋯
  have h2:dt n (swR M (r+d+1) (r+d+1+1))=0:=as3 d (r:=r) ⋯ λc=>by
   unfold swR;rw [if_neg ⋯,if_neg ⋯,if_pos rfl];exact e c
  rw [h2] at h1
  grind
theorem ax4 {n:Nat} {M:Mt} {r s:Nat} (hr:r<n) (hs:s<n) (hn:r ≠ s) (e:∀ c,M r c=M s c):dt n M=0:=by
 rcases z0q r s with z | z
 ·exact as3 (s-r-1) (r:=r) ⋯ λc=>by rw [show r+(s-r-1)+1=s by omega];exact e c
 ·exact as3 (r-s-1) (r:=s) ⋯ λc=>by rw [show s+(r-s-1)+1=r by omega];exact (e c).symm
theorem aB5 {n:Nat} {M:Mt} {r s:Nat} (a b:Rat) (hr:r<n) (hs:s<n) (hn:r ≠ s):dt n (setR M r λc=>a*M r c+b*M s c)=a*dt n M:=by
 rw [ah2 M a b (M r) (M s) hr,W6,ax4 (M:=setR M r (M s)) hr hs hn λc=>by
  unfold setR;rw [if_pos rfl,if_neg ⋯]]
 grind
theorem aW4 {n:Nat} {M:Mt} (h:∀ i,0<i->i<n+1->M i 0=0):dt (n+1) M=M 0 0*dt n (mn M 0):=by
 rw [B6]
 have:j4 (λi=>sgd i*M i 0*dt n (mn M i)) (n+1)=j4 (λi=>if i=0 then M 0 0*dt n (mn M 0) else 0) (n+1):=i4 λi hi=>by
  by_cases z:i=0
  ·rw [if_pos z,z]
   show sgd 0*_*_=_;unfold sgd;rw [if_pos (by decide)];grind
  ·rw [if_neg z,h i ⋯ hi];grind
 rw [this,G3 (λ_=>M 0 0*dt n (mn M 0)),if_pos ⋯]
def IsI (q:Rat):Prop:=∃ z:Int,q=(z:Rat)
def hz (A B:Nat->Rat):Mt:=λi c=>if c<i / 2 then 0 else if i % 2=0 then B (c-i / 2) else A (c-i / 2)
def behind (A B:Nat->Rat):Nat->Rat:=λj=>B 0*A (j+1)-A 0*B (j+1)
def hm (A B:Nat->Rat) (m:Nat):Mt:=λi c=>if i % 2=1/\i<m then B 0*hz A B i c-A 0*hz A B (i-1) c else hz A B i c
theorem aG2 {n:Nat} (M:Mt) (t:Nat->Rat):∀ m,m<=n->dt (n+1) (λr c=>if 0<r/\r<=m then M r c-t r*M 0 c else M r c)=dt (n+1) M
 | 0,_=>C2 λr _ c _=>by rw [if_neg ⋯]
 | m+1,h=>by
  rw [<- aG2 M t m ⋯]
  have e:(λr c=>if 0<r/\r<=m+1 then M r c-t r*M 0 c else M r c)=setR (λr c=>if 0<r/\r<=m then M r c-t r*M 0 c else M r c) (m+1) λc=>1*(λr c=>if 0<r/\r<=m then M r c-t r*M 0 c else M r c) (m+1) c+(- t (m+1))*(λr c=>if 0<r/\r<=m then M r c-t r*M 0 c else M r c) 0 c:=by
   funext r c
   unfold setR
   by_cases y:r=m+1
   ·rw [if_pos y,y]
    show (if 0<m+1/\m+1<=m+1 then _ else _)=1*(if 0<m+1/\m+1<=m then _ else _) + - t (m+1)*(if 0<0/\0<=m then _ else _);rw [if_pos ⋯,if_neg ⋯,if_neg ⋯];grind
   ·rw [if_neg y]
    show (if 0<r/\r<=m+1 then M r c-t r*M 0 c else M r c)=if 0<r/\r<=m then M r c-t r*M 0 c else M r c
    by_cases x:0<r/\r<=m
    ·rw [if_pos x,if_pos ⋯]
    ·rw [if_neg x,if_neg ⋯]
  rw [e,aB5 1 (- t (m+1)) ⋯ ⋯ ⋯];grind
theorem aZ9 {n:Nat} (M:Mt) (t:Nat->Rat):dt (n+1) (λr c=>if r=0 then M 0 c else M r c-t r*M 0 c)=dt (n+1) M:=by
 rw [<- aG2 M t n (q0k _)];refine C2 λr hr c _=>?_
 by_cases z:r=0
 ·rw [if_pos z,if_neg ⋯,z]
 ·rw [if_neg z,if_pos ⋯]
def red (B:Mt):Mt:=λr c=>B (r+1) (c+1)-B (r+1) 0*(B 0 0)⁻¹*B 0 (c+1)
theorem as2 {n:Nat} (B:Mt) (h:B 0 0 ≠ 0):dt (n+1) B=B 0 0*dt n (red B):=by
 rw [<- aZ9 B λr=>B r 0*(B 0 0)⁻¹,aW4 λi h0 hi=>?_]
 ·rw [if_pos rfl]
  congr 1
 ·rw [if_neg ⋯]
  have:=z0r _ h;generalize (B 0 0)⁻¹=u at *
  grind
def bnd (B:Mt) (k i j:Nat):Mt:=λr c=>B (if r=k then i else r) (if c=k then j else c)
def mi (B:Mt) (k i j:Nat):Rat:=dt (k+1) (bnd B k i j)
theorem Z6 (B:Mt) (i j:Nat):mi B 0 i j=B i j:=by
 unfold mi;rw [B6]
 show (0:Rat)+sgd 0*bnd B 0 i j 0 0*1=_;rw [show sgd 0=1 from if_pos (by decide)]
 show (0:Rat)+1*B (if 0=0 then i else 0) (if 0=0 then j else 0)*1=_;rw [if_pos rfl,if_pos rfl];grind
theorem ap6 (B:Mt) (k:Nat):mi B k k k=dt (k+1) B:=by
 unfold mi
 congr 1
 funext r c
 unfold bnd
 congr 1
 ·split
  ·rename_i h;exact h.symm
  ·rfl
 ·split
  ·rename_i h;exact h.symm
  ·rfl
theorem ak9 (B:Mt) (h:B 0 0 ≠ 0) (k i j:Nat):mi B (k+1) (i+1) (j+1)=B 0 0*mi (red B) k i j:=by
 unfold mi
 have e0:bnd B (k+1) (i+1) (j+1) 0 0=B 0 0:=by
  unfold bnd;rw [if_neg ⋯,if_neg ⋯]
 rw [as2 _ (by rw [e0];exact h),e0]
 congr 1
 refine C2 λr hr c hc=>?_;unfold red;rw [e0]
 have a1:bnd B (k+1) (i+1) (j+1) (r+1) (c+1)=B ((if r=k then i else r)+1) ((if c=k then j else c)+1):=by
  unfold bnd
  congr 1
  ·by_cases z:r=k
   ·rw [if_pos z,if_pos ⋯]
   ·rw [if_neg z,if_neg ⋯]
  ·by_cases z:c=k
   ·rw [if_pos z,if_pos ⋯]
   ·rw [if_neg z,if_neg ⋯]
 have a2:bnd B (k+1) (i+1) (j+1) (r+1) 0=B ((if r=k then i else r)+1) 0:=by
  unfold bnd;rw [if_neg (show ¬ 0=k+1 by omega)]
  congr 1
  by_cases z:r=k
  ·rw [if_pos z,if_pos ⋯]
  ·rw [if_neg z,if_neg ⋯]
 have a3:bnd B (k+1) (i+1) (j+1) 0 (c+1)=B 0 ((if c=k then j else c)+1):=by
  unfold bnd;rw [if_neg (show ¬ 0=k+1 by omega)]
  congr 1
  by_cases z:c=k
  ·rw [if_pos z,if_pos ⋯]
  ·rw [if_neg z,if_neg ⋯]
 rw [a1,a2,a3];rfl
theorem aF3 {B:Mt} {k:Nat} (h:∀ m,1<=m->m<=k+1->dt m B ≠ 0):B 0 0 ≠ 0/\∀ m,1<=m->m<=k->dt m (red B) ≠ 0:=by
 have b0:B 0 0 ≠ 0:=by
  have:=h 1 ⋯ ⋯;rw [<- ap6 B 0,Z6] at this;exact this
 refine ⟨b0,λm h1 h2 z=>?_⟩;have:=h (m+1) ⋯ ⋯;rw [as2 B b0,z] at this;exact this (by grind)
theorem aj6:∀ (k:Nat) (B:Mt),(∀ m,1<=m->m<=k->dt m B ≠ 0)->∀ i j,k<i->k<j->mi B k k k*mi B k i j-mi B k i k*mi B k k j=dt k B*mi B (k+1) i j
 | 0,B,_,i,j,hi,hj=>by
  rw [Z6,Z6,Z6,Z6]
  show _=1*mi B 1 i j;unfold mi;rw [B6]
  have d1:∀ M:Mt,dt 1 M=M 0 0:=λM=>by
   rw [B6]
   show (0:Rat)+sgd 0*M 0 0*1=_;rw [show sgd 0=1 from if_pos (by decide)];grind
  show _=1*((0:Rat)+sgd 0*bnd B 1 i j 0 0*dt 1 (mn (bnd B 1 i j) 0)+sgd 1*bnd B 1 i j 1 0*dt 1 (mn (bnd B 1 i j) 1));rw [d1,d1,show sgd 0=1 from if_pos (by decide),show sgd 1=-1 from if_neg (by decide)]
  show _=1*((0:Rat)+1*B 0 0*B i j + -1*B i 0*B 0 j)
  grind
 | k+1,B,h,i,j,hi,hj=>by
  obtain ⟨b0,hr⟩:=aF3 h;obtain ⟨i',rfl⟩:∃ i',i=i'+1:=⟨i-1,⋯⟩;obtain ⟨j',rfl⟩:∃ j',j=j'+1:=⟨j-1,⋯⟩;have ih:=aj6 k (red B) hr i' j' ⋯ ⋯;rw [ak9 B b0,ak9 B b0,ak9 B b0,ak9 B b0,ak9 B b0,as2 B b0];generalize B 0 0=b at *;generalize mi (red B) k k k=x1 at *;generalize mi (red B) k i' j'=x2 at *;generalize mi (red B) k i' k=x3 at *;generalize mi (red B) k k j'=x4 at *;generalize mi (red B) (k+1) i' j'=x5 at *;generalize dt k (red B)=x6 at *
  grind
theorem aG1:∀ (k n:Nat) (B:Mt),(∀ m,1<=m->m<=k->dt m B ≠ 0)->k<n->(∀ i,k<=i->i<n->mi B k i k=0)->dt n B=0
 | 0,n,B,_,hk,h=>by
  obtain ⟨m,rfl⟩:∃ m,n=m+1:=⟨n-1,⋯⟩;rw [B6];refine Y7 _ λi hi=>?_;have:=h i ⋯ hi;rw [Z6] at this;rw [this];grind
 | k+1,n,B,hl,hk,h=>by
  obtain ⟨b0,hr⟩:=aF3 hl;obtain ⟨m,rfl⟩:∃ m,n=m+1:=⟨n-1,⋯⟩;rw [as2 B b0,aG1 k m (red B) hr ⋯ λi h1 h2=>?_]
  ·grind
  ·have:=h (i+1) ⋯ ⋯
   rw [ak9 B b0] at this;rcases j0c.mp this with y | y
   ·exact absurd y b0
   ·exact y
def swN (B:Mt) (r s:Nat):Mt:=λi c=>if i=r then B s c else if i=s then-B r c else B i c
theorem be4 {n:Nat} {B:Mt} {r s:Nat} (hr:r<n) (hs:s<n) (h:r ≠ s):dt n (swN B r s)=dt n B:=by
 -- row r plus row s;row s less row r;row r plus row s
 have e1:=aB5 (M:=B) (r:=r) (s:=s) 1 1 hr hs h;obtain ⟨B1,h1⟩:∃ B1,B1=setR B r λc=>1*B r c+1*B s c:=⟨_,rfl⟩;rw [<- h1] at e1;have e2:=aB5 (M:=B1) (r:=s) (s:=r) 1 (-1) hs hr (Ne.symm h);obtain ⟨B2,h2⟩:∃ B2,B2=setR B1 s λc=>1*B1 s c+(-1)*B1 r c:=⟨_,rfl⟩;rw [<- h2] at e2;have e3:=aB5 (M:=B2) (r:=r) (s:=s) 1 1 hr hs h
 have e:setR B2 r (λc=>1*B2 r c+1*B2 s c)=swN B r s:=by
  funext i c
  have v1r:∀ c,B1 r c=B r c+B s c:=λc=>by rw [h1];unfold setR;rw [if_pos rfl];grind
  have v1s:∀ c,B1 s c=B s c:=λc=>by rw [h1];unfold setR;rw [if_neg (Ne.symm h)]
  have v2s:∀ c,B2 s c=- B r c:=λc=>by rw [h2];unfold setR;rw [if_pos rfl];show 1*B1 s c + -1*B1 r c=_;rw [v1s,v1r];grind
  have v2r:∀ c,B2 r c=B r c+B s c:=λc=>by rw [h2];unfold setR;rw [if_neg h,v1r]
  unfold setR swN
  by_cases z:i=r
  ·rw [if_pos z,if_pos z]
   show 1*B2 r c+1*B2 s c=_;rw [v2r,v2s];grind
  ·rw [if_neg z,if_neg z]
   by_cases y:i=s
   ·rw [if_pos y,y,v2s]
   ·rw [if_neg y,h2]
    unfold setR;rw [if_neg y,h1];unfold setR;rw [if_neg z]
 rw [<- e,e3,e2,e1];grind
structure Pos (n:Nat) (g:Nat->Nat->Rat):Prop where
 p:∀ i,i<=n->0<g i 0
 s:∀ i,1<=i->i<n->∀ j,g i 0*g (i-1) j=g i 0*g (i+1) (j+1)-g (i+1) 0*g i (j+1)
 l:1<=n->∀ j,g 0 0*g 1 (j+1)-g 1 0*g 0 (j+1)=0
 z:∀ i j,i<=n->i<2*j->g i j=0
theorem aB6 {W:Nat}:∀ {n:Nat} {M:Mt},n<=16->(∀ r c,∃ z:Int,M r c=(z:Rat)/\z.natAbs<2 ^ W)->∃ z:Int,dt n M=(z:Rat)/\z.natAbs<=2 ^ ((W+4)*n)
 | 0,_,_,_=>⟨1,rfl,by simp⟩
 | n+1,M,hn,h=>by
  have key:∀ m,m<=n+1->∃ z:Int,j4 (λi=>sgd i*M i 0*dt n (mn M i)) m=(z:Rat)/\z.natAbs<=m*(2 ^ W*2 ^ ((W+4)*n)):=by
   intro m
   induction m with
   | zero=>intro _;exact ⟨0,rfl,by simp⟩
   | succ m ih =>
    intro hm;obtain ⟨z,e,b⟩:=ih ⋯;obtain ⟨x,ex,bx⟩:=h m 0;obtain ⟨y,ey,by'⟩:=aB6 (n:=n) (M:=mn M m) ⋯ λr c=>h _ _
    obtain ⟨s,es,bs⟩:∃ s:Int,sgd m=(s:Rat)/\s.natAbs=1:=by
     unfold sgd
     split
     ·exact ⟨1,rfl,rfl⟩
     ·exact ⟨-1,by rw [m0c];rfl,rfl⟩
    refine ⟨z+s*x*y,?_,?_⟩
    ·rw [j4,e,ex,ey,es,y0j,q0v,q0v]
    ·have h1:(s*x*y).natAbs<=2 ^ W*2 ^ ((W+4)*n):=by
      rw [z0a,z0a,bs,Nat.one_mul];exact j0u (y0q bx) by'
     have h2:=u0d z (s*x*y);rw [Nat.succ_mul];omega
  obtain ⟨z,e,b⟩:=key (n+1) (q0k _);refine ⟨z,by rw [B6];exact e,q0p b ?_⟩
  have:(n+1)*(2 ^ W*2 ^ ((W+4)*n))<=2 ^ 4*(2 ^ W*2 ^ ((W+4)*n)):=y0t _ ⋯;refine q0p this ?_;rw [<- z0u,<- z0u];exact z0v (by decide) (by rw [u0y];omega)
inductive RwZ (H:Hp):List Addr->List (List Int)->Prop where
 | nil:RwZ H [] []
 | cons {p:Addr} {ps:List Addr} {L:List Int} {Ls:List (List Int)} (h:H p=some (.lst (L.map V.int))) (t:RwZ H ps Ls):RwZ H (p :: ps) (L :: Ls)
def zz (M:List (List Int)) (i j:Nat):Int:=aZ ((M[i]?).getD []) j
structure Eb (n:Nat) (A B:Mt) (at':Nat) (M:List (List Int)) (dv:Int):Prop where
 len:M.length=n
 row:∀ L ∈ M,L.length=n
 ent:∀ i j,at'<=i->i<n->at'<=j->j<n->((zz M i j:Int):Rat)=mi B at' i j
 zer:∀ i j,at'<=i->i<n->j<at'->zz M i j=0
 int:∀ r c,IsI (B r c)
 det:dt n B=dt n A
 led:∀ m,1<=m->m<=at'->dt m B ≠ 0
 div:((dv:Int):Rat)=dt at' B
def O6 (s:Nat->Rat):Nat->Rat
 | 0=>1
 | n+1=>O6 s n*s n
theorem P8 (s:Nat->Rat):∀ n,O6 s (n+1)=s 0*O6 (λi=>s (i+1)) n
 | 0=>by show 1*s 0=s 0*1;grind
 | n+1=>by
  show O6 s (n+1)*s (n+1)=s 0*(O6 (λi=>s (i+1)) n*s (n+1));rw [P8 s n];grind
theorem ai4 {s t:Nat->Rat}:∀ {n},(∀ i,i<n->s i=t i)->O6 s n=O6 t n
 | 0,_=>rfl
 | n+1,h=>by
  show O6 s n*s n=O6 t n*t n;rw [ai4 λi hi=>h i ⋯,h n ⋯]
theorem am6 (s:Nat->Rat):∀ (n i:Nat),i<=n->O6 s (n+1)=s i*O6 (λr=>s (if r<i then r else r+1)) n
 | n,0,_=>by
  rw [P8]
  congr 1
 | 0,i+1,h=>⋯
 | n+1,i+1,h=>by
  rw [P8,am6 (λr=>s (r+1)) n i ⋯];rw [P8 (λr=>s (if r<i+1 then r else r+1)) n,if_pos ⋯]
  rw [ai4 (s:=λr=>s (if r+1<i+1 then r+1 else r+1+1)) (t:=λr=>s ((if r<i then r else r+1)+1)) λr _=>by
   congr 1
   by_cases z:r<i
   ·rw [if_pos z,if_pos ⋯]
   ·rw [if_neg z,if_neg ⋯]]
  grind
theorem aW3:∀ (n:Nat) (s:Nat->Rat) (B:Mt),dt n (λr c=>s r*B r c)=O6 s n*dt n B
 | 0,_,_=>by show (1:Rat)=1*1;grind
 | n+1,s,B=>by
  rw [B6,B6,y3];refine i4 λi hi=>?_;have e:mn (λr c=>s r*B r c) i=λr c=>(λr=>s (if r<i then r else r+1)) r*mn B i r c:=rfl;rw [e,aW3 n,am6 s n i ⋯]
  grind
def swU (B:Mt) (r s:Nat):Mt:=λi c=>if i=r then B s c else if i=s then B r c else B i c
theorem aW2 {n:Nat} {B:Mt} {r s:Nat} (hr:r<n) (hs:s<n) (h:r ≠ s):dt n (swU B r s)=- dt n B:=by
 have e:swN B r s=setR (swU B r s) s λc=>(-1)*swU B r s s c+0*swU B r s s c:=by
  funext i c
  show (if i=r then B s c else if i=s then-B r c else B i c)=if i=s then -1*(if s=r then B s c else if s=s then B r c else B s c)+0*(if s=r then B s c else if s=s then B r c else B s c) else (if i=r then B s c else if i=s then B r c else B i c)
  by_cases a:i=r
  ·rw [if_pos a,if_neg ⋯,if_pos a]
  ·rw [if_neg a,if_neg a]
   by_cases b:i=s
   ·rw [if_pos b,if_pos b,if_neg (Ne.symm h),if_pos rfl];grind
   ·rw [if_neg b,if_neg b,if_neg b]
 have k:=be4 (B:=B) hr hs h;rw [e,ah2 _ (-1) 0 _ _ hs,W6] at k
 grind
theorem bd3 {B:Mt} {k s i j:Nat} (hs:k<s):mi (swU B k s) k i j=if i=k then mi B k s j else if i=s then mi B k k j else mi B k i j:=by
 have top:∀ (x:Nat),(∀ c,swU B k s i c=B x c)->mi (swU B k s) k i j=mi B k x j:=λx h=>by
  unfold mi;refine C2 λr hr c _=>?_;unfold bnd
  by_cases z:r=k
  ·rw [if_pos z,if_pos z,h]
  ·rw [if_neg z,if_neg z]
   unfold swU;rw [if_neg z,if_neg ⋯]
 by_cases a:i=k
 ·rw [if_pos a,top s λc=>by unfold swU;rw [if_pos a]]
 ·rw [if_neg a]
  by_cases b:i=s
  ·rw [if_pos b,top k λc=>by unfold swU;rw [if_neg a,if_pos b]]
  ·rw [if_neg b,top i λc=>by unfold swU;rw [if_neg a,if_neg b]]
def Sc (W:Nat) (B:Mt):Prop:=∃ b:Nat->Int,∀ r,0<b r/\(b r).natAbs<2 ^ W/\∀ c,∃ z:Int,((b r:Int):Rat)*B r c=(z:Rat)/\z.natAbs<2 ^ W
theorem Sc.swU {W:Nat} {B:Mt} {r s:Nat} (h:Sc W B):Sc W (swU B r s):=by
 obtain ⟨b,hb⟩:=h;refine ⟨λi=>if i=r then b s else if i=s then b r else b i,λi=>?_⟩;unfold R.swU
 by_cases x:i=r
 ·simp only [if_pos x];exact hb s
 ·by_cases y:i=s
  ·simp only [if_neg x,if_pos y];exact hb r
  ·simp only [if_neg x,if_neg y];exact hb i
theorem aw6 {x:Rat} {d m:Int} (e:x*((d:Int):Rat)=((m:Int):Rat)) (hd:d ≠ 0):x.num.natAbs<=m.natAbs/\x.den<=d.natAbs:=by
 have d0:((d:Int):Rat) ≠ 0:=λz=>hd (y0b.mp z)
 have:x=q0w m d:=by
  rw [u0e,<- e,Rat.mul_div_cancel d0]
 rw [this];exact Q5 hd
def qq (M:List (List Rat)) (i j:Nat):Rat:=aQ ((M[i]?).getD []) j
structure Ld (W n:Nat) (A B:Mt) (sg:Rat) (k:Nat) (M:List (List Rat)) (fd:Rat):Prop where
 len:M.length=n
 row:∀ L ∈ M,L.length=n
 ent:∀ i j,k<=i->i<n->k<=j->j<n->qq M i j*dt k B=mi B k i j
 zer:∀ i j,k<=i->i<n->j<k->qq M i j=0
 sc:Sc W B
 sgn:sg=1 \/ sg=-1
 det:dt n A=sg*dt n B
 led:∀ m,1<=m->m<=k->dt m B ≠ 0
 fnd:fd=sg*dt k B
section
variable {W n:Nat} {A B:Mt} {sg fd:Rat} {k:Nat} {M M':List (List Rat)}
theorem Ld.dk (E:Ld W n A B sg k M fd):dt k B ≠ 0:=by
 rcases v0u k with z | z
 ·rw [z];show (1:Rat) ≠ 0;decide
 ·exact E.led k z (q0k _)
theorem Ld.start (len:M.length=n) (row:∀ L ∈ M,L.length=n) (sc:Sc W (qq M)):Ld W n (qq M) (qq M) 1 0 M 1 :=
 ⟨len,row,λi j _ _ _ _=>by rw [Z6];show _*1=_;grind,λi j _ _ h=>⋯,sc,.inl rfl,by grind,λm h1 h2=>⋯,by show (1:Rat)=1*1;grind⟩
theorem Ld.swap (E:Ld W n A B sg k M fd) {s:Nat} (hk:k<s) (hs:s<n) (len:M'.length=n) (row:∀ L ∈ M',L.length=n) (e:∀ i j,qq M' i j=if i=k then qq M s j else if i=s then qq M k j else qq M i j):Ld W n A (swU B k s) (-sg) k M' (-fd):=by
 have lead:∀ m,m<=k->dt m (swU B k s)=dt m B:=λm hm=>C2 λr hr c _=>by
  unfold swU;rw [if_neg ⋯,if_neg ⋯]
 refine ⟨len,row,λi j h1 h2 h3 h4=>?_,λi j h1 h2 h3=>?_,E.sc.swU,?_,?_,λm h1 h2=>?_,?_⟩
 ·rw [e,bd3 hk,lead k (q0k _)]
  by_cases a:i=k
  ·rw [if_pos a,if_pos a,E.ent s j ⋯ hs h3 h4]
  ·rw [if_neg a,if_neg a]
   by_cases b:i=s
   ·rw [if_pos b,if_pos b,E.ent k j (q0k _) ⋯ h3 h4]
   ·rw [if_neg b,if_neg b,E.ent i j h1 h2 h3 h4]
 ·rw [e]
  split
  ·exact E.zer s j ⋯ hs h3
  ·split
   ·exact E.zer k j (q0k _) ⋯ h3
   ·exact E.zer i j h1 h2 h3
 ·rcases E.sgn with z | z
  ·right;rw [z]
  ·left;rw [z];decide
 ·rw [aW2 ⋯ hs ⋯,E.det];grind
 ·rw [lead m h2];exact E.led m h1 h2
 ·rw [lead k (q0k _),E.fnd];grind
theorem Ld.step (E:Ld W n A B sg k M fd) (hk:k<n) (h0:qq M k k ≠ 0) (len:M'.length=n) (row:∀ L ∈ M',L.length=n) (e:∀ i j,k<i->i<n->j<n->qq M' i j=qq M i j-qq M i k*(qq M k k)⁻¹*qq M k j):Ld W n A B sg (k+1) M' (fd*qq M k k):=by
 have ekk:=E.ent k k (q0k _) hk (q0k _) hk;have dk:=E.dk;have next:dt (k+1) B=qq M k k*dt k B:=by rw [ekk,ap6]
 have inv:=z0r _ h0;refine ⟨len,row,λi j h1 h2 h3 h4=>?_,λi j h1 h2 h3=>?_,E.sc,E.sgn,E.det,λm h1 h2=>?_,?_⟩
 ·rw [e i j ⋯ h2 h4,next]
  have sy:=aj6 k B E.led i j ⋯ ⋯;rw [<- ekk,<- E.ent i j ⋯ h2 ⋯ h4,<- E.ent i k ⋯ h2 (q0k _) hk,<- E.ent k j (q0k _) hk ⋯ h4] at sy
  have key:dt k B*((qq M i j-qq M i k*(qq M k k)⁻¹*qq M k j)*(qq M k k*dt k B))=dt k B*mi B (k+1) i j:=by
   rw [<- sy];generalize (qq M k k)⁻¹=u at *;generalize qq M k k=a at *;generalize qq M i j=b at *;generalize qq M i k=c at *;generalize qq M k j=d at *;generalize dt k B=f at *
   grind
  have iv:=z0r _ dk;have:=congrArg (λt=>(dt k B)⁻¹*t) key;simp only [<- Rat.mul_assoc] at this;rw [g0t (dt k B)⁻¹,iv,q1b,q1b] at this;rw [<- this];grind
 ·rw [e i j ⋯ h2 ⋯]
  rcases z0q j k with z | z
  ·rw [E.zer i j ⋯ h2 z,E.zer k j (q0k _) hk z];grind
  ·have:j=k:=⋯
   subst this;generalize (qq M j j)⁻¹=u at *
   grind
 ·rcases z0q k m with z | z
  ·have:m=k+1:=⋯
   subst this;rw [next];intro y;rcases j0c.mp y with y | y
   ·exact h0 y
   ·exact dk y
  ·exact E.led m h1 ⋯
 ·rw [next,E.fnd];grind
theorem Ld.stuck (E:Ld W n A B sg k M fd) (hk:k<n) (h:∀ i,k<=i->i<n->qq M i k=0):dt n A=0:=by
 rw [E.det,aG1 k n B E.led hk λi h1 h2=>?_]
 ·grind
 ·rw [<- E.ent i k h1 h2 (q0k _) hk,h i h1 h2];grind
theorem Ld.done (E:Ld W n A B sg n M fd):fd=dt n A:=by rw [E.fnd,E.det]
end
end R
set_option maxRecDepth 100000
namespace L2
open PySem PySem.Spec PyProof.Rows
theorem aJ5 {D:Addr} {g:TG} {tt:TT} {te:TE} {σ0:St} {H0:Hp} {Q:VK} {lo:Int} {n:Nat} (Pv:Nat->St->Hp->Prop) (h0:Pv 0 σ0 H0)
  (hs:∀ i σ H,i<n->Pv i σ H->g (.int (lo+i)) σ H λσ4 H4=>tt σ4 H4 λb H4'=>if b=true then te σ4 H4' λy H5=>r6 D n Pv i σ4 y H5 else aO1 n Pv i σ4 H4')
  (hd:∀ σ H,Pv n σ H->Q (.ref D) H):aX7 (Itr lo n) D σ0 H0 g tt te Q:=by
 refine ⟨λi m σ H=>m=n-i/\i<=n/\Pv i σ H,⟨_,rfl,z0f _,h0⟩,?_⟩;rintro i m σ H ⟨rfl,hi,p⟩
 by_cases hlt:i<n
 ·refine .inr ⟨hlt,?_⟩
  intro x H3 hy;obtain ⟨rfl,rfl⟩:=hy;exact hs i σ _ hlt p
 ·have e:i=n:=⋯
  subst e;exact .inl ⟨q0k _,hd σ H p⟩
end L2
namespace R
open PySem L2 PyProof.Rows
theorem L7.set {K:q0a} {H:Hp}:∀ {ts:List Addr} {M:List (List Rat)} (k:Nat) {p:Addr} {xs:List V} {L:List Rat},L7 K H ts M->H p=some (.lst xs)->A0 K H xs L->L7 K H (ts.set k p) (M.set k L)
 | _,_,_,_,_,_,.nil,_,_=>.nil
 | _,_,0,_,_,_,.cons _ _ t,e,f=>.cons e f t
 | _,_,k+1,_,_,_,.cons h n t,e,f=>.cons h n (t.set k e f)
theorem K7 {M:List (List Rat)} {k:Nat} (hk:k<M.length) (L:List Rat) (i j:Nat):qq (M.set k L) i j=if i=k then aQ L j else qq M i j:=by
 unfold qq;rw [u0f]
 by_cases z:k=i
 ·rw [if_pos z,if_pos hk,if_pos z.symm];rfl
 ·rw [if_neg z,if_neg (Ne.symm z)]
theorem L7.at {K:q0a} {H:Hp} {ts:List Addr} {M:List (List Rat)} {n m:Nat} (h:L7 K H ts M) (ln:M.length=n) (lm:∀ L ∈ M,L.length=m) {i:Nat} (hi:i<n):∃ (p:Addr) (xs:List V) (L:List Rat),(ts.map V.ref)[i]? = some (.ref p)/\ts[i]? = some p/\M[i]? = some L/\H p=some (.lst xs)/\A0 K H xs L/\L.length=m/\∀ j,qq M i j=aQ L j:=by
 have e:=q0c (l:=ts) (i:=i) (by rw [h.length,ln];exact hi)
 obtain ⟨xs,L,e1,e2,e3⟩:=h.get e;exact ⟨_,xs,L,by rw [q0f,e];rfl,e,e1,e2,e3,lm L (q0j e1),λj=>by unfold qq;rw [e1];rfl⟩
theorem ao0 {n:Nat} {M:Mt} {r:Nat} (hr:r<n) (h:∀ c,c<n->M r c=0):dt n M=0:=by
 rw [C2 (N:=λi c=>if i=r then 0 else M i c) λi _ c hc=>?_]
 ·have e:(λi c=>if i=r then 0 else M i c)=setR M r λc=>0*M r c+0*M r c:=by
   funext i c
   unfold setR
   by_cases z:i=r
   ·rw [if_pos z,if_pos z];grind
   ·rw [if_neg z,if_neg z]
  rw [e,ah2 M 0 0 _ _ hr];grind
 ·by_cases z:i=r
  ·rw [if_pos z,z,h c hc]
  ·rw [if_neg z]
structure Ew (n m:Nat) (A B:Mt) (k:Nat) (M:List (List Int)) (dv:Int):Prop where
 len:M.length=n
 row:∀ L ∈ M,L.length=m
 nm:n<=m
 ent:∀ i j,k<=i->i<n->k<=j->j<m->((zz M i j:Int):Rat)=mi B k i j
 zer:∀ i j,k<=i->i<n->j<k->zz M i j=0
 abv:∀ i j,i<k->k<=j->j<m->((zz M i j:Int):Rat)=mi B k (n+i) j
 dia:∀ i j,i<k->j<k->zz M i j=if i=j then dv else 0
 ext:∀ i c,B (n+i) c=if c=i then -1 else 0
 int:∀ r c,IsI (B r c)
 det:dt n B=dt n A
 led:∀ q,1<=q->q<=k->dt q B ≠ 0
 div:((dv:Int):Rat)=dt k B
theorem ag2 (f:Nat->Nat->Rat) (m:Nat):∀ n,j4 (λi=>j4 (λj=>f i j) m) n=j4 (λj=>j4 (λi=>f i j) n) m
 | 0=>(Y7 m λ_ _=>rfl).symm
 | n+1=>by
  show j4 (λi=>j4 (λj=>f i j) m) n+j4 (λj=>f n j) m=j4 (λj=>j4 (λi=>f i j) n+f n j) m;rw [ag2 f m n,K8]
theorem aN2 {n:Nat} (Q:Mt) (x:Nat->Rat) {s:Nat} (hs:s<n):∀ q,q<=n->dt n (setR Q s λc=>j4 (λj=>x j*Q j c) q)=if s<q then x s*dt n Q else 0
 | 0,_=>by
  rw [if_neg ⋯];exact ao0 (r:=s) hs λc _=>by unfold setR;rw [if_pos rfl];rfl
 | q+1,hq=>by
  have e:(λc=>j4 (λj=>x j*Q j c) (q+1))=λc=>1*j4 (λj=>x j*Q j c) q+x q*Q q c:=by
   funext c
   show j4 _ q+x q*Q q c=_
   grind
  rw [e,ah2 Q 1 (x q) _ _ hs,aN2 Q x hs q ⋯]
  by_cases z:q=s
  ·rw [z,W6,if_neg ⋯,if_pos ⋯];grind
  ·rw [ax4 (M:=setR Q s (Q q)) hs (show q<n by omega) (Ne.symm z) λc=>by unfold setR;rw [if_pos rfl,if_neg z]]
   by_cases y:s<q
   ·rw [if_pos y,if_pos ⋯];grind
   ·rw [if_neg y,if_neg ⋯];grind
theorem bg4 {n:Nat} {Q:Mt} (h:dt n Q ≠ 0) {x:Nat->Rat} (e:∀ c,c<n->j4 (λj=>x j*Q j c) n=0) {s:Nat} (hs:s<n):x s=0:=by
 have h1:=aN2 Q x hs n (q0k _);rw [if_pos hs,ao0 (r:=s) hs λc hc=>by unfold setR;rw [if_pos rfl];exact e c hc] at h1
 rcases j0c.mp h1.symm with z | z
 ·exact z
 ·exact absurd z h
def dij (i j:Nat):Rat:=if i=j then 1 else 0
theorem aG8 (f:Nat->Rat) {n c:Nat} (hc:c<n):j4 (λt=>f t*dij t c) n=f c:=by
 rw [i4 (g:=λt=>if t=c then f t else 0) λt _=>by unfold dij;split <;> grind,G3 f c n,if_pos hc]
abbrev Vc:=Nat->Rat
theorem ar5 (n:Nat) (a u w:Vc) (c:Rat):lf n a (λi=>u i+c*w i)=lf n a u+c*lf n a w:=by
 unfold lf;rw [y3,K8];exact i4 λi _=>by grind
theorem aB1 (n:Nat) (u w v:Vc) (c:Rat):lf n (λi=>u i+c*w i) v=lf n u v+c*lf n w v:=by
 unfold lf;rw [y3,K8];exact i4 λi _=>by grind
def af (N:Nat) (A:Mt) (w:Vc):Vc:=λs=>lf N (A s) w
def bl (N:Nat) (A:Mt) (v w:Vc):Rat:=lf N v (af N A w)
theorem aC3 (N:Nat) (A:Mt) (u w v:Vc) (c:Rat):bl N A (λi=>u i+c*w i) v=bl N A u v+c*bl N A w v:=aB1 _ _ _ _ _
theorem aN7 (N:Nat) (A:Mt) (v u w:Vc) (c:Rat):bl N A v (λi=>u i+c*w i)=bl N A v u+c*bl N A v w:=by
 unfold bl;rw [<- ar5]
 congr 1
 funext s
 exact ar5 _ _ _ _ _
def Sy (N:Nat) (A:Mt):Prop:=∀ i,i<N->∀ j,j<N->A i j=A j i
theorem as8 {N:Nat} {A:Mt} (h:Sy N A) (u v:Vc):bl N A u v=bl N A v u:=by
 have e:∀ x y:Vc,bl N A x y=j4 (λs=>j4 (λt=>x s*(A s t*y t)) N) N:=λx y=>i4 λs _=>y3 _ _ _;rw [e,e,ag2];exact i4 λs hs=>i4 λt ht=>by rw [h t ht s hs];grind
def cmv (c:Vc) (x:Nat->Vc):Nat->Vc
 | 0=>λ_=>0
 | n+1=>λi=>cmv c x n i+c n*x n i
theorem bg8 {φ:Vc->Rat} (h:∀ u w c,φ (λi=>u i+c*w i)=φ u+c*φ w) (c:Vc) (x:Nat->Vc):∀ n,φ (cmv c x n)=j4 (λk=>c k*φ (x k)) n
 | 0=>by
  have h1:=h (λ_=>0) (λ_=>0) (-1);have e:(λ_:Nat=>(0:Rat) + -1*0)=λ_=>0:=funext λ_=>by grind
  rw [e] at h1
  show φ (λ_=>0)=0
  grind
 | n+1=>by
  show φ (λi=>cmv c x n i+c n*x n i)=j4 _ n+_;rw [h,bg8 h c x n]
structure Frm (N:Nat) (A:Mt) (d:Vc):Prop where
 ex:∃ (x g:Nat->Vc),(∀ i,i<N->∀ j,j<N->bl N A (x i) (x j)=if i=j then d i else 0)/\∀ v,bl N A v v=j4 (λk=>d k*(lf N (g k) v*lf N (g k) v)) N
def aH4 (d:Vc) (N:Nat):Nat:=(z0e N).countP λk=>decide (0<d k)
def aI4 (d:Vc) (N:Nat):Nat:=(z0e N).countP λk=>decide (d k<0)
section
variable (N:Nat) (A:Mt) (es:Nat->Vc)
def Pr:Nat->Vc->Vc
 | 0,v=>v
 | k+1,v=>λi=>Pr k v i + -(bl N A (Pr k v) (Pr k (es k))*(bl N A (Pr k (es k)) (Pr k (es k)))⁻¹)*Pr k (es k) i
def px (c:Nat):Vc:=Pr N A es c (es c)
def pd (c:Nat):Rat:=bl N A (px N A es c) (px N A es c)
variable {N A es}
theorem V0 (k:Nat) (v:Vc):Pr N A es (k+1) v=λi=>Pr N A es k v i + -(bl N A (Pr N A es k v) (px N A es k)*(pd N A es k)⁻¹)*px N A es k i:=rfl
theorem V4:∀ (k:Nat) (u w:Vc) (c:Rat),Pr N A es k (λi=>u i+c*w i)=λi=>Pr N A es k u i+c*Pr N A es k w i
 | 0,_,_,_=>rfl
 | k+1,u,w,c=>by
  rw [V0,V0,V0,V4 k u w c,aC3]
  funext i
  grind
theorem Z5 (hs:Sy N A):∀ (k:Nat),(∀ c,c<k->pd N A es c ≠ 0)->∀ v c,c<k->bl N A (Pr N A es k v) (px N A es c)=0
 | 0,_,_,_,h=>⋯
 | k+1,h,v,c,hc=>by
  rw [V0,aC3];rcases z0q c k with y | y
  ·rw [Z5 hs k (λc hc=>h c ⋯) v c y]
   have:bl N A (px N A es k) (px N A es c)=0:=Z5 hs k (λc hc=>h c ⋯) (es k) c y;rw [this];grind
  ·have:c=k:=⋯
   subst this;have hd:=z0r _ (h c ⋯)
   show _+_*pd N A es c=0;generalize (pd N A es c)⁻¹=i at *
   grind
theorem aM0 (hs:Sy N A) {z:Vc}:∀ (k:Nat),(∀ c,c<k->bl N A z (px N A es c)=0)->∀ v,bl N A z (Pr N A es k v)=bl N A z v
 | 0,_,_=>rfl
 | k+1,h,v=>by
  rw [V0,aN7,aM0 hs k (λc hc=>h c ⋯) v,h k ⋯];grind
theorem aw5 (hs:Sy N A) {k:Nat} (h:∀ c,c<k->pd N A es c ≠ 0) (u v:Vc):bl N A (Pr N A es k u) v=bl N A (Pr N A es k u) (Pr N A es k v):=(aM0 hs k (λc hc=>Z5 hs k h u c hc) v).symm
variable (N A es)
def bdM (s:Vc) (k:Nat) (v κ:Vc):Mt:=λr c=>lf N (λi=>if r<k then s r*es r i else v i) (if c<k then af N A (es c) else κ)
def gd (s:Vc) (k:Nat):Rat:=dt k λr c=>s r*bl N A (es r) (es c)
variable {N A es}
theorem ad0 (N:Nat) (c:Rat) (a v:Vc):lf N (λi=>c*a i) v=c*lf N a v:=by
 unfold lf;rw [y3];exact i4 λi _=>by grind
theorem ad9 (hs:Sy N A) (s:Vc):∀ (k:Nat),(∀ c,c<k->pd N A es c ≠ 0)->(∀ c,c<k->s c ≠ 0)->(∀ m,1<=m->m<=k->gd N A es s m ≠ 0)/\(∀ v κ,dt (k+1) (bdM N A es s k v κ)=gd N A es s k*lf N (Pr N A es k v) κ)/\∀ c,c<k->gd N A es s (c+1)=gd N A es s c*s c*pd N A es c
 | 0,_,_=>by
  refine ⟨λm h1 h2=>⋯,λv κ=>?_,λc h=>⋯⟩;rw [B6]
  show (0:Rat)+sgd 0*bdM N A es s 0 v κ 0 0*1=1*_;rw [show sgd 0=1 from if_pos (by decide)]
  unfold bdM;rw [if_neg ⋯]
  show (0:Rat)+1*lf N (λi=>if 0<0 then s 0*es 0 i else v i) κ*1=1*lf N v κ;have e:(λi=>if 0<0 then s 0*es 0 i else v i)=v:=funext λi=>if_neg ⋯;rw [e];grind
 | k+1,hd,hn=>by
  obtain ⟨i1,i2,i3⟩:=ad9 hs s k (λc hc=>hd c ⋯) (λc hc=>hn c ⋯);have hdk:∀ c,c<k->pd N A es c ≠ 0:=λc hc=>hd c ⋯;have hk:=hd k ⋯;have sk:=hn k ⋯
  have g0:gd N A es s k ≠ 0:=by
   rcases v0u k with z | z
   ·rw [z];show (1:Rat) ≠ 0;decide
   ·exact i1 k z (q0k _)
  -- the next one
  have gk:gd N A es s (k+1)=gd N A es s k*s k*pd N A es k:=by
   have h1:=i2 (λi=>s k*es k i) (af N A (es k))
   have e:dt (k+1) (bdM N A es s k (λi=>s k*es k i) (af N A (es k)))=gd N A es s (k+1):=C2 λr hr c hc=>by
    unfold bdM
    have e1:(λi=>if r<k then s r*es r i else s k*es k i)=λi=>s r*es r i:=funext λi=>by
     split
     ·rfl
     ·rw [show r=k by omega]
    have e2:(if c<k then af N A (es c) else af N A (es k))=af N A (es c):=by
     split
     ·rfl
     ·rw [show c=k by omega]
    rw [e1,e2,ad0];rfl
   rw [<- e,h1]
   have e3:Pr N A es k (λi=>s k*es k i)=λi=>s k*Pr N A es k (es k) i:=by
    have h0:=V4 (N:=N) (A:=A) (es:=es) k (λ_=>0) (es k) (s k)
    have hz:Pr N A es k (λ_=>0)=λ_=>0:=by
     have h2:=V4 (N:=N) (A:=A) (es:=es) k (λ_=>0) (λ_=>0) (-1);have e4:(λ_:Nat=>(0:Rat) + -1*0)=λ_=>0:=funext λ_=>by grind
     rw [e4] at h2
     funext i
     have:=congrFun h2 i
     grind
    rw [hz] at h0;have e5:(λi=>(0:Rat)+s k*es k i)=λi=>s k*es k i:=funext λi=>by grind
    rw [e5] at h0;rw [h0]
    funext i
    grind
   rw [e3,ad0];have e6:lf N (Pr N A es k (es k)) (af N A (es k))=pd N A es k:=aw5 hs hdk (es k) (es k);rw [e6];grind
  refine ⟨λm h1 h2=>?_,λv κ=>?_,λc hc=>?_⟩
  ·rcases z0q m (k+1) with y | y
   ·exact i1 m h1 ⋯
   ·rw [show m=k+1 by omega,gk]
    exact λz=>by
     rcases j0c.mp z with y | y
     ·rcases j0c.mp y with w | w
      ·exact g0 w
      ·exact sk w
     ·exact hk y
  ·obtain ⟨B,hB⟩:∃ B,B=bdM N A es s (k+1) v κ:=⟨_,rfl⟩
   have lead:∀ m,m<=k+1->dt m B=gd N A es s m:=λm hm=>C2 λr hr c hc=>by
    rw [hB];unfold bdM;have e1:(λi=>if r<k+1 then s r*es r i else v i)=λi=>s r*es r i:=funext λi=>if_pos ⋯;rw [e1,if_pos ⋯,ad0];rfl
   have sy:=aj6 k B (λm h1 h2=>by rw [lead m ⋯];exact i1 m h1 h2) (k+1) (k+1) ⋯ ⋯
   have m1:mi B k k k=gd N A es s (k+1):=by rw [ap6,lead _ (q0k _)]
   have row:∀ (i j:Nat),(i=k \/ i=k+1)->(j=k \/ j=k+1)->mi B k i j=dt (k+1) (bdM N A es s k (if i=k then λt=>s k*es k t else v) (if j=k then af N A (es k) else κ)):=λi j hi hj=>C2 λr hr c hc=>by
    rw [hB];unfold bnd bdM
    have e1:(λt=>if (if r=k then i else r)<k+1 then s (if r=k then i else r)*es (if r=k then i else r) t else v t)=λt=>if r<k then s r*es r t else (if i=k then λt=>s k*es k t else v) t:=funext λt=>by
     by_cases z:r=k
     ·simp only [if_pos z]
      rw [if_neg (show ¬ r<k by omega)]
      rcases hi with y | y
      ·rw [if_pos ⋯,if_pos y,y]
      ·rw [if_neg ⋯,if_neg ⋯]
     ·simp only [if_neg z]
      rw [if_pos ⋯,if_pos ⋯]
    have e2:(if (if c=k then j else c)<k+1 then af N A (es (if c=k then j else c)) else κ)=if c<k then af N A (es c) else (if j=k then af N A (es k) else κ):=by
     by_cases z:c=k
     ·simp only [if_pos z]
      rw [if_neg (show ¬ c<k by omega)]
      rcases hj with y | y
      ·rw [if_pos ⋯,if_pos y,y]
      ·rw [if_neg ⋯,if_neg ⋯]
     ·simp only [if_neg z]
      rw [if_pos ⋯,if_pos ⋯]
    rw [e1,e2]
   rw [m1,row (k+1) (k+1) (.inr rfl) (.inr rfl),row (k+1) k (.inr rfl) (.inl rfl),row k (k+1) (.inl rfl) (.inr rfl),ap6,lead k ⋯] at sy;simp only [if_neg (show ¬ k+1=k by omega),if_true] at sy
   have e3:(λt=>s k*es k t)=λt=>(0:Rat)+s k*es k t:=funext λt=>by grind
   rw [i2,i2,i2] at sy
   have hz:Pr N A es k (λ_=>0)=λ_=>0:=by
    have h2:=V4 (N:=N) (A:=A) (es:=es) k (λ_=>0) (λ_=>0) (-1);have e4:(λ_:Nat=>(0:Rat) + -1*0)=λ_=>0:=funext λ_=>by grind
    rw [e4] at h2
    funext i
    have:=congrFun h2 i
    grind
   have h0:=V4 (N:=N) (A:=A) (es:=es) k (λ_=>0) (es k) (s k);rw [<- e3,hz] at h0;have e5:(λi=>(0:Rat)+s k*Pr N A es k (es k) i)=λi=>s k*px N A es k i:=funext λi=>by show _+_*px N A es k i=_;grind
   rw [e5] at h0;rw [h0,ad0] at sy;have e6:lf N (Pr N A es k v) (af N A (es k))=bl N A (Pr N A es k v) (px N A es k):=aw5 hs hdk v (es k);rw [e6,gk] at sy;rw [<- hB,V0,aB1,gk];have hi:=z0r _ hk;have gi:=z0r _ g0;generalize (pd N A es k)⁻¹=w at *;generalize bl N A (Pr N A es k v) (px N A es k)=b at *;generalize lf N (Pr N A es k v) κ=y at *;generalize lf N (px N A es k) κ=z at *;generalize pd N A es k=d at *;generalize dt (k+1+1) B=D at *;generalize (gd N A es s k)⁻¹=j at *;generalize gd N A es s k=g at *;generalize s k=t at *;have h1:D=j*(g*D):=by grind
   rw [h1,<- sy]
   grind
  ·rcases z0q c k with y | y
   ·exact i3 c y
   ·rw [show c=k by omega];exact gk
end
def sW (w:Nat->Nat):Nat->Nat
 | 0=>0
 | n+1=>w 0+sW (λc=>w (c+1)) n
theorem ai3:∀ {n:Nat} {w v:Nat->Nat},(∀ c,c<n->w c=v c)->sW w n=sW v n
 | 0,_,_,_=>rfl
 | n+1,w,v,h=>by
  show w 0+_=v 0+_;rw [h 0 ⋯,ai3 (n:=n) (w:=λc=>w (c+1)) (v:=λc=>v (c+1)) λc hc=>h (c+1) ⋯]
theorem ai2:∀ (n:Nat) (w:Nat->Nat),sW w (n+1)=sW w n+w n
 | 0,w=>by show w 0+0=0+w 0;omega
 | n+1,w=>by
  show w 0+sW (λc=>w (c+1)) (n+1)=w 0+sW (λc=>w (c+1)) n+w (n+1);rw [ai2 n];omega
def Wc (w:Nat->Nat) (B:Mt):Prop:=∀ r c,∃ z:Int,B r c=(z:Rat)/\z.natAbs<=2 ^ w c
theorem aJ3:∀ {n:Nat} {w:Nat->Nat} {M:Mt},n<=8->Wc w M->∃ z:Int,dt n M=(z:Rat)/\z.natAbs<=2 ^ (sW w n+3*n)
 | 0,_,_,_,_=>⟨1,rfl,Nat.one_le_two_pow⟩
 | n+1,w,M,hn,h=>by
  have key:∀ m,m<=n+1->∃ z:Int,j4 (λi=>sgd i*M i 0*dt n (mn M i)) m=(z:Rat)/\z.natAbs<=m*(2 ^ w 0*2 ^ (sW (λc=>w (c+1)) n+3*n)):=by
   intro m
   induction m with
   | zero=>intro _;exact ⟨0,rfl,by simp⟩
   | succ m ih =>
    intro hm;obtain ⟨z,e,b⟩:=ih ⋯;obtain ⟨x,ex,bx⟩:=h m 0;obtain ⟨y,ey,by'⟩:=aJ3 (n:=n) (w:=λc=>w (c+1)) (M:=mn M m) ⋯ λr c=>h _ _
    obtain ⟨s,es,bs⟩:∃ s:Int,sgd m=(s:Rat)/\s.natAbs=1:=by
     unfold sgd
     split
     ·exact ⟨1,rfl,rfl⟩
     ·exact ⟨-1,by rw [m0c];rfl,rfl⟩
    refine ⟨z+s*x*y,?_,?_⟩
    ·rw [j4,e,ex,ey,es,y0j,q0v,q0v]
    ·have h1:(s*x*y).natAbs<=2 ^ w 0*2 ^ (sW (λc=>w (c+1)) n+3*n):=by
      rw [z0a,z0a,bs,Nat.one_mul];exact j0u bx by'
     have h2:=u0d z (s*x*y);rw [Nat.succ_mul];omega
  obtain ⟨z,e,b⟩:=key (n+1) (q0k _);refine ⟨z,by rw [B6];exact e,q0p b ?_⟩
  refine q0p (y0t _ (show n+1<=2 ^ 3 by omega)) ?_
  rw [<- z0u,<- z0u];exact z0v (by decide) (by show _<=w 0+_+_;omega)
theorem Wc.swU {w:Nat->Nat} {B:Mt} {r s:Nat} (h:Wc w B):Wc w (swU B r s):=λi c=>by
 unfold R.swU
 split
 ·exact h s c
 ·split
  ·exact h r c
  ·exact h i c
def dS (w:Nat->Nat) (k:Nat):Nat:=sW w k+3*k
def mW (w:Nat->Nat) (k j:Nat):Nat:=sW w k+w j+3*(k+1)
theorem Wc.bnd {w:Nat->Nat} {B:Mt} (h:Wc w B) (k i j:Nat):Wc (λc=>if c=k then w j else w c) (bnd B k i j):=λr c=>by
 obtain ⟨z,e,b⟩:=h (if r=k then i else r) (if c=k then j else c);refine ⟨z,e,q0p b (z0v (by decide) ?_)⟩
 show w (if c=k then j else c)<=if c=k then w j else w c
 split <;> exact q0k _
theorem Wc.minor {w:Nat->Nat} {B:Mt} (h:Wc w B) {k i j:Nat} (hk:k<8) (hd:dt k B ≠ 0) {x:Rat} (e:x*dt k B=mi B k i j):x.num.natAbs<=2 ^ mW w k j/\x.den<=2 ^ (sW w k+3*k):=by
 obtain ⟨D,eD,bD⟩:=aJ3 (n:=k) ⋯ h;obtain ⟨m,em,bm⟩:=aJ3 (n:=k+1) ⋯ (h.bnd k i j);have D0:D ≠ 0:=λz=>hd (by rw [eD,z];rfl)
 have:=aw6 (x:=x) (d:=D) (m:=m) (by rw [<- eD,e,<- em];rfl) D0
 refine ⟨q0p this.1 (q0p bm (z0v (by decide) ?_)),q0p this.2 bD⟩
 unfold mW;rw [ai2,ai3 (v:=w) λc hc=>if_neg ⋯]
 show sW w k+(if k=k then w j else w k)+_<=_;rw [if_pos rfl];omega
theorem Wc.sc {w:Nat->Nat} {B:Mt} (h:Wc w B) {W:Nat} (hw:∀ c,w c<W):Sc W B:=⟨λ_=>1,λr=>⟨Int.one_pos,q0d (show 1<2 ^ 1 by decide) (z0v (by decide) (by have:=hw 0;omega)),λc=>by
 obtain ⟨z,e,b⟩:=h r c;exact ⟨z,by rw [e,Rat.intCast_one,q1b],q0m b (z0h (by decide) (hw c))⟩⟩⟩
section
variable {W n:Nat} {A B:Mt} {sg fd:Rat} {k:Nat} {M:List (List Rat)} {w:Nat->Nat}
theorem Ld.wbits (E:Ld W n A B sg k M fd) (c:Wc w B) (n8:n<=8) {i j:Nat} (h1:k<=i) (h2:i<n) (h4:j<n):(qq M i j).num.natAbs<=2 ^ mW w k j/\(qq M i j).den<=2 ^ (sW w k+3*k):=by
 rcases z0q j k with z | z
 ·rw [E.zer i j h1 h2 z]
  exact ⟨z0f _,Nat.one_le_two_pow⟩
 ·exact c.minor ⋯ E.dk (E.ent i j h1 h2 z h4)
theorem Ld.wfbits (E:Ld W n A B sg k M fd) (c:Wc w B) (n8:n<=8) (hk:k<=n):fd.num.natAbs<=2 ^ (sW w k+3*k)/\fd.den=1:=by
 obtain ⟨D,eD,bD⟩:=aJ3 (n:=k) ⋯ c
 have e:fd=((D:Int):Rat) \/ fd=((-D:Int):Rat):=by
  rcases E.sgn with z | z
  ·left;rw [E.fnd,z,eD];grind
  ·right;rw [E.fnd,z,eD,m0c];grind
 rcases e with e | e
 ·rw [e,v0r,v0s];exact ⟨bD,rfl⟩
 ·rw [e,v0r,v0s,Int.natAbs_neg];exact ⟨bD,rfl⟩
theorem Ld.often (E:Ld W n A B sg k M fd) (c:Wc w B) (n8:n<=8) (hk:k<n) {i:Nat} (h1:k<=i) (h2:i<n):(qq M k k).num.natAbs<=2 ^ dS w (k+1)/\(qq M i k / qq M k k).num.natAbs<=2 ^ dS w (k+1)/\(qq M k k ≠ 0->(qq M i k / qq M k k).den<=2 ^ dS w (k+1)):=by
 have e:mW w k k=dS w (k+1):=by unfold mW dS;rw [ai2]
 obtain ⟨x,ex,bx⟩:=aJ3 (n:=k+1) ⋯ (c.bnd k i k);obtain ⟨y,ey,by'⟩:=aJ3 (n:=k+1) ⋯ (c.bnd k k k)
 have le:sW (λc=>if c=k then w k else w c) (k+1)+3*(k+1)=dS w (k+1):=by
  unfold dS;rw [ai3 (v:=w) λc hc=>by split <;> (try rfl);next z=>rw [z]]
 rw [le] at bx by'
 have e1:qq M i k*dt k B=((x:Int):Rat):=by rw [E.ent i k h1 h2 (q0k _) hk,<- ex];rfl
 have e2:qq M k k*dt k B=((y:Int):Rat):=by rw [E.ent k k (q0k _) hk (q0k _) hk,<- ey];rfl
 have b:=E.wbits c n8 (q0k _) hk hk;rw [e] at b;refine ⟨b.1,?_⟩
 by_cases z:qq M k k=0
 ·rw [z,u0j,Rat.inv_zero,Rat.mul_zero]
  exact ⟨z0f _,λh=>absurd rfl h⟩
 ·have inv:=z0r _ z
  have dk:=E.dk
  have y0:y ≠ 0:=λw=>by
   rw [w] at e2;rcases j0c.mp e2 with u | u
   ·exact z u
   ·exact dk u
  have:=aw6 (x:=qq M i k / qq M k k) (d:=y) (m:=x) (by
   rw [<- e1,<- e2,u0j];generalize (qq M k k)⁻¹=u at *
   grind) y0
  exact ⟨q0p this.1 bx,λ_=>q0p this.2 by'⟩
end
def af1 (n:Nat->Nat):Nat->Nat
 | 0=>0
 | k+1=>af1 n k+n k
theorem aI8 {e a:Vc} {n:Nat->Nat} {M:Nat} (he:∀ t,e t=((n t:Int):Rat)):∀ N,(∀ t,t<N->∃ z:Int,a t=(z:Rat)/\z.natAbs<=M)->∃ w:Int,lf N e a=(w:Rat)/\w.natAbs<=af1 n N*M
 | 0,_=>⟨0,rfl,by simp⟩
 | N+1,h=>by
  obtain ⟨w,ew,bw⟩:=aI8 he N λt ht=>h t ⋯;obtain ⟨z,ez,bz⟩:=h N ⋯;refine ⟨w+(n N:Int)*z,?_,?_⟩
  ·show lf N e a+e N*a N=_
   rw [ew,ez,he,y0j,q0v]
  ·show _<=(af1 n N+n N)*M
   rw [Nat.add_mul];have h1:((n N:Int)*z).natAbs<=n N*M:=by rw [z0a,q0r];exact y0y _ bz
   omega
structure Fm (N:Nat) (A:Mt) (Bt W:Nat):Prop where
 sy:Sy N A
 b0:0<Bt
 bW:Bt<2 ^ W
 ov:∀ i,i<N->∀ j,j<N->OvB Bt W (A i j)
 n7:N<=7
structure Vk (N:Nat) (A:Mt) (Bt j:Nat) (s:Int) (e:Vc):Prop where
 s1:0<s
 sd:s ∣ (Bt:Int)
 ex:∃ n:Nat->Nat,(∀ t,e t=((n t:Int):Rat))/\af1 n N<=2 ^ j
 int:∀ t,t<N->IsI ((s:Rat)*af N A e t)
section
variable {N:Nat} {A:Mt} {Bt W:Nat}
theorem bf9 {B W:Nat} {q:Rat} (hB:0<B) (h:OvB B W q):∃ z:Int,((B:Int):Rat)*q=(z:Rat)/\z.natAbs<2 ^ W:=by
 obtain ⟨v,e,b⟩:=h;refine ⟨v,?_,b⟩;have Bn:((B:Int):Rat) ≠ 0:=t7 ⋯;have:=z0r _ Bn;rw [e,u0e,u0j];generalize ((B:Int):Rat)=y at *;generalize y⁻¹=x at *
 grind
theorem al2 (n:Nat) (a b:Vc):lf n a b=lf n b a:=i4 λi _=>by grind
theorem Vk.mono {i j:Nat} {s:Int} {e:Vc} (h:Vk N A Bt i s e) (l:i<=j):Vk N A Bt j s e:=by
 obtain ⟨n,e1,b⟩:=h.ex;exact ⟨h.s1,h.sd,⟨n,e1,q0p b (z0v (by decide) l)⟩,h.int⟩
theorem Vk.le {j:Nat} {s:Int} {e:Vc} (h:Vk N A Bt j s e) (F:Fm N A Bt W):s.natAbs<=Bt:=by
 have:=v0h.mpr h.sd;rw [q0r] at this;exact v0m F.b0 this
theorem Vk.cut {j:Nat} {s:Int} {e:Vc} (h:Vk N A Bt j s e) (F:Fm N A Bt W) {q:Rat} {M:Nat} (hi:IsI ((s:Rat)*q)) (hb:∃ z:Int,((Bt:Int):Rat)*q=(z:Rat)/\z.natAbs<=M):∃ z:Int,(s:Rat)*q=(z:Rat)/\z.natAbs<=M:=by
 obtain ⟨y,ey⟩:=hi;obtain ⟨z,ez,bz⟩:=hb;obtain ⟨c,hc⟩:=h.sd;have e:z=c*y:=y0b.mp (by rw [<- ez,hc,q0v,q0v,<- ey];grind)
 have c0:c ≠ 0:=λw=>by rw [w,Int.mul_zero] at hc;have:=F.b0;omega
 refine ⟨y,ey,q0p ?_ bz⟩;rw [e,z0a];exact y0e _ ⋯
theorem Vk.row {j:Nat} {s:Int} {e:Vc} (h:Vk N A Bt j s e) (F:Fm N A Bt W):∀ t,t<N->∃ z:Int,(s:Rat)*af N A e t=(z:Rat)/\z.natAbs<=2 ^ (j+W):=λt ht=>by
 obtain ⟨n,e1,b⟩:=h.ex;refine h.cut F (h.int t ht) ?_
 obtain ⟨w,ew,bw⟩:=aI8 (e:=e) (a:=λi=>((Bt:Int):Rat)*A t i) (M:=2 ^ W) e1 N λi hi=>by
  obtain ⟨z,ez,bz⟩:=bf9 F.b0 (F.ov t ht i hi);exact ⟨z,ez,y0q bz⟩
 refine ⟨w,?_,q0p bw (by rw [z0u];exact y0t _ b)⟩
 rw [<- ew]
 show _*lf N (A t) e=_;rw [<- ad0,al2]
theorem Vk.two {i j:Nat} {s s':Int} {e e':Vc} (h:Vk N A Bt i s e) (h':Vk N A Bt j s' e') (F:Fm N A Bt W):∃ z:Int,(s:Rat)*bl N A e e'=(z:Rat)/\z.natAbs<=2 ^ (j+(i+W)):=by
 obtain ⟨n,e1,b⟩:=h'.ex;obtain ⟨w,ew,bw⟩:=aI8 (e:=e') (a:=λt=>(s:Rat)*af N A e t) (M:=2 ^ (i+W)) e1 N (h.row F);refine ⟨w,?_,q0p bw (by rw [z0u 2 j];exact y0t _ b)⟩
 rw [<- ew,as8 F.sy]
 show _*lf N e' (af N A e)=_;rw [al2 N e' (af N A e),<- ad0,al2]
def un (t:Nat):Vc:=λi=>if i=t then 1 else 0
theorem ac9 (a:Vc) {t:Nat} (ht:t<N):lf N a (un t)=a t:=by
 have e:lf N a (un t)=j4 (λi=>if i=t then a i else 0) N:=i4 λi _=>by
  unfold un
  split <;> grind
 rw [e,G3,if_pos ht]
theorem ay8 {n:Nat->Nat} {t:Nat}:∀ {N},t<N->n t<=af1 n N
 | N+1,h=>by
  show _<=af1 n N+n N;rcases z0q t N with y | y
  ·have:=ay8 (n:=n) y;omega
  ·rw [show t=N by omega];omega
theorem Vk.crd {j t:Nat} {s:Int} {e:Vc} (h:Vk N A Bt j s e) (F:Fm N A Bt W) (ht:t<N):∃ z:Int,(s:Rat)*lf N e (un t)=(z:Rat)/\z.natAbs<=2 ^ (j+W):=by
 obtain ⟨n,e1,b⟩:=h.ex;rw [ac9 e ht,e1];refine ⟨s*(n t:Int),by rw [q0v],?_⟩
 rw [z0a,q0r,Nat.mul_comm,z0u];exact j0u (q0p (ay8 ht) b) (q0p (h.le F) (y0q F.bW))
variable {es:Nat->Vc} {ss:Nat->Int}
theorem aI6 (F:Fm N A Bt W) {k:Nat} (kN:k<=N) (hd:∀ c,c<k->pd N A es c ≠ 0) (hc:∀ c,c<k->Vk N A Bt 7 (ss c) (es c)) {s:Int} {e κ:Vc} (h:Vk N A Bt 7 s e) (hκ:(∃ s' e',Vk N A Bt 7 s' e'/\κ=af N A e') \/ ∃ t,t<N/\κ=un t):∃ z:Int,gd N A es (λc=>(ss c:Rat)) k*((s:Rat)*lf N (Pr N A es k e) κ)=(z:Rat)/\z.natAbs<=2 ^ ((W+15+4)*(k+1)):=by
 obtain ⟨_,b2,_⟩:=ad9 F.sy (λc=>(ss c:Rat)) k hd λc hk=>t7 (by have:=(hc c hk).s1;omega)
 have h2:=b2 (λi=>(s:Rat)*e i) κ;have h0:=V4 (N:=N) (A:=A) (es:=es) k (λ_=>0) e (s:Rat)
 have hz:Pr N A es k (λ_=>0)=λ_=>0:=by
  have h2:=V4 (N:=N) (A:=A) (es:=es) k (λ_=>0) (λ_=>0) (-1);have e4:(λ_:Nat=>(0:Rat) + -1*0)=λ_=>0:=funext λ_=>by grind
  rw [e4] at h2
  funext i
  have:=congrFun h2 i
  grind
 have e3:(λi=>(0:Rat)+(s:Rat)*e i)=λi=>(s:Rat)*e i:=funext λi=>by grind
 have e4:(λi=>(0:Rat)+(s:Rat)*Pr N A es k e i)=λi=>(s:Rat)*Pr N A es k e i:=funext λi=>by grind
 rw [hz,e3,e4] at h0;rw [h0,ad0] at h2;rw [<- h2];have n7:=F.n7;refine aB6 ⋯ λr c=>?_
 have one:∀ {s':Int} {e' κ':Vc},Vk N A Bt 7 s' e'->((∃ s'' e'',Vk N A Bt 7 s'' e''/\κ'=af N A e'') \/ ∃ t,t<N/\κ'=un t)->∃ z:Int,lf N (λi=>(s':Rat)*e' i) κ'=(z:Rat)/\z.natAbs<2 ^ (W+15):=fun {s' e' κ'} hv hκ'=>by
  rw [ad0];rcases hκ' with ⟨s'',e'',hv',rfl⟩ | ⟨t,ht,rfl⟩
  ·obtain ⟨z,ez,bz⟩:=hv.two hv' F
   exact ⟨z,ez,q0m bz (z0h (by decide) ⋯)⟩
  ·obtain ⟨z,ez,bz⟩:=hv.crd F ht
   exact ⟨z,ez,q0m bz (z0h (by decide) ⋯)⟩
 unfold bdM
 have col:(∃ s'' e'',Vk N A Bt 7 s'' e''/\(if c<k then af N A (es c) else κ)=af N A e'') \/ ∃ t,t<N/\(if c<k then af N A (es c) else κ)=un t:=by
  by_cases z:c<k
  ·rw [if_pos z];exact .inl ⟨_,_,hc c z,rfl⟩
  ·rw [if_neg z];exact hκ
 by_cases z:r<k
 ·have e5:(λi=>if r<k then (ss r:Rat)*es r i else (s:Rat)*e i)=λi=>(ss r:Rat)*es r i:=funext λi=>if_pos z
  rw [e5];exact one (hc r z) col
 ·have e5:(λi=>if r<k then (ss r:Rat)*es r i else (s:Rat)*e i)=λi=>(s:Rat)*e i:=funext λi=>if_neg z
  rw [e5];exact one h col
structure Sq (N:Nat) (A:Mt) (Bt j k:Nat) (es:Nat->Vc) (ss:Nat->Int) (bf:Int) (vs:List (Int × List Int)) (e:Nat->Vc):Prop where
 km:k+vs.length=N
 j7:j<=7
 ch:∀ c,c<k->Vk N A Bt 7 (ss c) (es c)/\pd N A es c ≠ 0
 dv:(bf:Rat)=gd N A es (λc=>(ss c:Rat)) k
 cur:∀ i s row,vs[i]? = some (s,row)->Vk N A Bt j s (e i)/\row.length=vs.length+N/\(∀ c,c<vs.length->((aZ row c:Int):Rat)=(bf:Rat)*((s:Rat)*bl N A (Pr N A es k (e i)) (Pr N A es k (e c))))/\∀ t,t<N->((aZ row (vs.length+t):Int):Rat)=(bf:Rat)*((s:Rat)*Pr N A es k (e i) t)
 sp:∀ a:Vc,(∀ c,c<k->lf N a (px N A es c)=0)->(∀ i,i<vs.length->lf N a (Pr N A es k (e i))=0)->∀ t,t<N->a t=0
theorem Sq.hd {j k:Nat} {bf:Int} {vs:List (Int × List Int)} {e:Nat->Vc} (S:Sq N A Bt j k es ss bf vs e):∀ c,c<k->pd N A es c ≠ 0:=λc hc=>(S.ch c hc).2
theorem Sq.b0 {j k:Nat} {bf:Int} {vs:List (Int × List Int)} {e:Nat->Vc} (S:Sq N A Bt j k es ss bf vs e) (F:Fm N A Bt W):bf ≠ 0:=λz=>by
 obtain ⟨b1,_,_⟩:=ad9 F.sy (λc=>(ss c:Rat)) k S.hd λc hk=>t7 (by have:=(S.ch c hk).1.s1;omega)
 have h:=S.dv;rw [z] at h;rcases v0u k with y | y
 ·rw [y] at h
  have:((0:Int):Rat)=1:=h;exact absurd this (by decide)
 ·exact b1 k y (q0k _) (by rw [<- h];rfl)
theorem Sq.bits {x k:Nat} {bf:Int} {vs:List (Int × List Int)} {e:Nat->Vc} (S:Sq N A Bt x k es ss bf vs e) (F:Fm N A Bt W) {i:Nat} {s:Int} {row:List Int} (h:vs[i]? = some (s,row)) (j:Nat):(aZ row j).natAbs<=2 ^ ((W+15+4)*(k+1)):=by
 obtain ⟨V,l,c1,c2⟩:=S.cur i s row h;have km:=S.km;have n7:=F.n7;have hi:=(q0h.mp h).1;have V7:=V.mono S.j7;rcases z0q j vs.length with y | y
 ·obtain ⟨⟨s',row'⟩,h'⟩:∃ x,vs[j]? = some x:=⟨_,q0c y⟩
  obtain ⟨V',_⟩:=S.cur j s' row' h';obtain ⟨z,ez,bz⟩:=aI6 F ⋯ S.hd (λc hc=>(S.ch c hc).1) V7 (κ:=af N A (e j)) (.inl ⟨_,_,V'.mono S.j7,rfl⟩)
  have:aZ row j=z:=y0b.mp (by
   rw [c1 j y,<- ez,S.dv,<- aw5 F.sy S.hd];rfl)
  rw [this];exact bz
 ·obtain ⟨t,rfl⟩:∃ t,j=vs.length+t:=⟨j-vs.length,⋯⟩
  rcases z0q t N with z | z
  ·obtain ⟨w,ew,bw⟩:=aI6 F ⋯ S.hd (λc hc=>(S.ch c hc).1) V7 (κ:=un t) (.inr ⟨t,z,rfl⟩)
   have:aZ row (vs.length+t)=w:=y0b.mp (by
    rw [c2 t z,<- ew,S.dv,ac9 _ z])
   rw [this];exact bw
  ·unfold aZ
   rw [j0d ⋯];exact z0f _
def cw (Bt W k:Nat):Nat:=(W+18)*k+(Bt.log2+11)
theorem bg6 {k c:Nat} (h:k<=c):cw Bt W k<=cw Bt W c:=by
 unfold cw;have:=y0y (W+18) h;omega
theorem bd4 (F:Fm N A Bt W) {k:Nat} (kN:k<=N) (hd:∀ c,c<k->pd N A es c ≠ 0) (hc:∀ c,c<k->Vk N A Bt 7 (ss c) (es c)) {s:Int} {e:Vc} (h:Vk N A Bt 7 s e) {t:Nat} (ht:t<N):∃ z:Int,gd N A es (λc=>(ss c:Rat)) k*((s:Rat)*Pr N A es k e t)=(z:Rat)/\z.natAbs<=2 ^ cw Bt W k:=by
 obtain ⟨_,b2,_⟩:=ad9 F.sy (λc=>(ss c:Rat)) k hd λc hk=>t7 (by have:=(hc c hk).s1;omega)
 have h2:=b2 (λi=>(s:Rat)*e i) (un t);have h0:=V4 (N:=N) (A:=A) (es:=es) k (λ_=>0) e (s:Rat)
 have hz:Pr N A es k (λ_=>0)=λ_=>0:=by
  have h2:=V4 (N:=N) (A:=A) (es:=es) k (λ_=>0) (λ_=>0) (-1);have e4:(λ_:Nat=>(0:Rat) + -1*0)=λ_=>0:=funext λ_=>by grind
  rw [e4] at h2
  funext i
  have:=congrFun h2 i
  grind
 have e3:(λi=>(0:Rat)+(s:Rat)*e i)=λi=>(s:Rat)*e i:=funext λi=>by grind
 have e4:(λi=>(0:Rat)+(s:Rat)*Pr N A es k e i)=λi=>(s:Rat)*Pr N A es k e i:=funext λi=>by grind
 rw [hz,e3,e4] at h0;rw [h0,ad0,ac9 _ ht] at h2;rw [<- h2];have n7:=F.n7
 have one:∀ {s':Int} {e':Vc},Vk N A Bt 7 s' e'->∀ c,∃ z:Int,lf N (λi=>(s':Rat)*e' i) (if c<k then af N A (es c) else un t)=(z:Rat)/\z.natAbs<=2 ^ (if c<k then W+15 else Bt.log2+8):=fun {s' e'} hv c=>by
  rw [ad0]
  by_cases y:c<k
  ·rw [if_pos y,if_pos y]
   obtain ⟨z,ez,bz⟩:=hv.two (hc c y) F;exact ⟨z,ez,q0p bz (z0v (by decide) ⋯)⟩
  ·rw [if_neg y,if_neg y]
   obtain ⟨n,e1,b⟩:=hv.ex;rw [ac9 e' ht,e1];refine ⟨s'*(n t:Int),by rw [q0v],?_⟩
   rw [z0a,q0r,show Bt.log2+8=(Bt.log2+1)+7 by omega,z0u]
   exact j0u (q0p (hv.le F) (y0q Nat.lt_log2_self)) (q0p (ay8 ht) b)
 obtain ⟨z,ez,bz⟩:=aJ3 (n:=k+1) (w:=λc=>if c<k then W+15 else Bt.log2+8) (M:=bdM N A es (λc=>(ss c:Rat)) k (λi=>(s:Rat)*e i) (un t)) ⋯ λr c=>by
  unfold bdM
  by_cases y:r<k
  ·have e5:(λi=>if r<k then (ss r:Rat)*es r i else (s:Rat)*e i)=λi=>(ss r:Rat)*es r i:=funext λi=>if_pos y
   rw [e5];exact one (hc r y) c
  ·have e5:(λi=>if r<k then (ss r:Rat)*es r i else (s:Rat)*e i)=λi=>(s:Rat)*e i:=funext λi=>if_neg y
   rw [e5];exact one h c
 refine ⟨z,ez,q0p bz (z0v (by decide) ?_)⟩
 have sc:∀ m,sW (λ_=>W+15) m=(W+15)*m:=λm=>by
  induction m with
  | zero=>rfl
  | succ m ih=>rw [ai2,ih,u0y]
 rw [ai2,ai3 (v:=λ_=>W+15) λc hc=>if_pos hc,sc]
 show (W+15)*k+(if k<k then _ else _)+_<=_;rw [if_neg ⋯];unfold cw;rw [show (W+18)*k=(W+15)*k+3*k by rw [<- Nat.add_mul]]
 omega
theorem Sq.cbits {x k:Nat} {bf:Int} {vs:List (Int × List Int)} {e:Nat->Vc} (S:Sq N A Bt x k es ss bf vs e) (F:Fm N A Bt W) {i:Nat} {s:Int} {row:List Int} (h:vs[i]? = some (s,row)) (t:Nat):(aZ row (vs.length+t)).natAbs<=2 ^ cw Bt W k:=by
 obtain ⟨V,l,c1,c2⟩:=S.cur i s row h;have km:=S.km;have n7:=F.n7;have hi:=(q0h.mp h).1;have V7:=V.mono S.j7;rcases z0q t N with z | z
 ·obtain ⟨w,ew,bw⟩:=bd4 F ⋯ S.hd (λc hc=>(S.ch c hc).1) V7 z
  have:aZ row (vs.length+t)=w:=y0b.mp (by rw [c2 t z,<- ew,S.dv])
  rw [this];exact bw
 ·unfold aZ
  rw [j0d ⋯];exact z0f _
end
section
variable {N:Nat} {A:Mt} {Bt W:Nat} {es:Nat->Vc} {ss:Nat->Int}
theorem ac1 {fs:Nat->Vc}:∀ (k:Nat),(∀ c,c<k->fs c=es c)->∀ v,Pr N A fs k v=Pr N A es k v
 | 0,_,_=>rfl
 | k+1,h,v=>by
  have ih:=ac1 (fs:=fs) k λc hc=>h c ⋯
  show (λi=>Pr N A fs k v i + -(bl N A (Pr N A fs k v) (Pr N A fs k (fs k))*(bl N A (Pr N A fs k (fs k)) (Pr N A fs k (fs k)))⁻¹)*Pr N A fs k (fs k) i)=_;rw [ih,ih,h k ⋯];rfl
theorem aT4 {fs:Nat->Vc} {c:Nat} (h:∀ i,i<=c->fs i=es i):pd N A fs c=pd N A es c:=by
 unfold pd px;rw [ac1 c (λi hi=>h i ⋯),h c (q0k _)]
def put (k:Nat) (v:Vc) (es:Nat->Vc):Nat->Vc:=λc=>if c=k then v else es c
def aP0 (k:Nat) (s:Int) (ss:Nat->Int):Nat->Int:=λc=>if c=k then s else ss c
def sk (at' i:Nat):Nat:=if i<at' then i else i+1
def upL (bf:Int) (at':Nat) (ra row:List Int):List Int :=
 let l:=g0n (λw o=>(aZ ra at'*w-aZ row at'*o).fdiv bf) row ra
 l.take at' ++ l.drop (at'+1)
def upV (bf:Int) (at':Nat) (ra:List Int) (vs:List (Int × List Int)):List (Int × List Int):=(vs.take at' ++ vs.drop (at'+1)).map λx=>(x.1,upL bf at' ra x.2)
theorem aB9 {α:Type} (l:List α) {at':Nat} (h:at'<l.length) (i:Nat):(l.take at' ++ l.drop (at'+1))[i]? = l[sk at' i]? := by
 unfold sk;have l1:(l.take at').length=at':=by rw [q0x];omega
 split
 ·rename_i y
  rw [j0f ⋯,g0j y]
 ·rw [j0k ⋯,l1,List.getElem?_drop]
  congr 1;omega
theorem aK2 {bf:Int} {at':Nat} {ra row:List Int} (h:at'<ra.length) (hl:row.length=ra.length) (j:Nat) (hj:j+1<ra.length):aZ (upL bf at' ra row) j=(aZ ra at'*aZ row (sk at' j)-aZ row at'*aZ ra (sk at' j)).fdiv bf:=by
 have hs:sk at' j<ra.length:=by unfold sk;split <;> omega
 unfold upL;unfold aZ;rw [aB9 _ (by rw [y0z];omega),m0k,q0c (l:=row) ⋯,q0c (l:=ra) hs];rfl
theorem aX9 {bf:Int} {at':Nat} {ra row:List Int} (h:at'<ra.length) (hl:row.length=ra.length):(upL bf at' ra row).length+1=ra.length:=by
 unfold upL;simp only [j0g,q0x,j0w,y0z];omega
theorem ap4 {bf:Int} {at':Nat} {ra:List Int} {vs:List (Int × List Int)} (h:at'<vs.length):(upV bf at' ra vs).length+1=vs.length:=by
 unfold upV;simp only [q0b,j0g,q0x,j0w];omega
theorem Sq.up {j k at':Nat} {bf sa:Int} {vs:List (Int × List Int)} {e:Nat->Vc} {ra:List Int} (S:Sq N A Bt j k es ss bf vs e) (F:Fm N A Bt W) (ha:vs[at']? = some (sa,ra)) (h0:aZ ra at' ≠ 0):Sq N A Bt j (k+1) (put k (e at') es) (aP0 k sa ss) (aZ ra at') (upV bf at' ra vs) (λi=>e (sk at' i))/\px N A (put k (e at') es) k=Pr N A es k (e at')/\∀ (i:Nat) (s:Int) (row:List Int),vs[i]? = some (s,row)->∀ c,c<ra.length->∃ z,aZ ra at'*aZ row c-aZ row at'*aZ ra c=bf*z:=by
 have km:=S.km;have hat:=(q0h.mp ha).1;have hd:=S.hd;have b0:=S.b0 F;have bq:=t7 b0;obtain ⟨Va,la,a1,a2⟩:=S.cur _ _ _ ha;have a0:=a1 at' hat;have cg:∀ c,c<k->put k (e at') es c=es c:=λc hc=>if_neg ⋯;have cp:∀ v,Pr N A (put k (e at') es) k v=Pr N A es k v:=ac1 k cg;have pk:put k (e at') es k=e at':=if_pos rfl;have hpx:px N A (put k (e at') es) k=Pr N A es k (e at'):=by unfold px;rw [cp,pk]
 have hpd:pd N A (put k (e at') es) k=bl N A (Pr N A es k (e at')) (Pr N A es k (e at')):=by unfold pd;rw [hpx]
 have hq:=t7 h0;have sq:=t7 (show sa ≠ 0 by have:=Va.s1;omega)
 have hd':∀ c,c<k+1->pd N A (put k (e at') es) c ≠ 0:=λc hc=>by
  rcases z0q c k with y | y
  ·rw [aT4 (es:=es) λi hi=>cg i ⋯];exact hd c y
  ·rw [show c=k by omega,hpd]
   exact λz=>hq (by rw [a0,z];grind)
 have ch':∀ c,c<k+1->Vk N A Bt 7 (aP0 k sa ss c) (put k (e at') es c):=λc hc=>by
  unfold aP0 put;rcases z0q c k with y | y
  ·rw [if_neg ⋯,if_neg ⋯];exact (S.ch c y).1
  ·rw [if_pos ⋯,if_pos ⋯];exact Va.mono S.j7
 obtain ⟨_,_,b3⟩:=ad9 F.sy (λc=>((aP0 k sa ss c:Int):Rat)) (k+1) hd' λc hc=>t7 (by have:=(ch' c hc).s1;omega)
 have gk:gd N A (put k (e at') es) (λc=>((aP0 k sa ss c:Int):Rat)) k=(bf:Rat):=by
  rw [S.dv];exact C2 λr hr c hc=>by rw [cg r hr,cg c hc];show ((if r=k then sa else ss r:Int):Rat)*_=_;rw [if_neg ⋯]
 have gk1:gd N A (put k (e at') es) (λc=>((aP0 k sa ss c:Int):Rat)) (k+1)=((aZ ra at':Int):Rat):=by
  rw [b3 k ⋯,gk,hpd,a0]
  show _*((if k=k then sa else ss k:Int):Rat)*_=_;rw [if_pos rfl];grind
 -- one number of a cleaned row
 have val:∀ (i:Nat) (s:Int) (row:List Int),vs[i]? = some (s,row)->∀ κ:Vc,((∃ s' e',Vk N A Bt 7 s' e'/\κ=af N A e') \/ ∃ t,t<N/\κ=un t)->∀ c,((aZ row c:Int):Rat)=(bf:Rat)*((s:Rat)*lf N (Pr N A es k (e i)) κ)->((aZ ra c:Int):Rat)=(bf:Rat)*((sa:Rat)*lf N (Pr N A es k (e at')) κ)->∃ z:Int,aZ ra at'*aZ row c-aZ row at'*aZ ra c=bf*z/\(z:Rat)=((aZ ra at':Int):Rat)*((s:Rat)*lf N (Pr N A (put k (e at') es) (k+1) (e i)) κ):=λi s row hi κ hκ c hr hra=>by
  obtain ⟨V,lr,r1,r2⟩:=S.cur _ _ _ hi;obtain ⟨z,ez,_⟩:=aI6 F (show k+1<=N by omega) hd' ch' (V.mono S.j7) hκ
  rw [gk1] at ez;refine ⟨z,y0b.mp ?_,ez.symm⟩;rw [Rat.intCast_sub,q0v,q0v,q0v,<- ez,V0,cp,hpx,hpd,aB1,hr,hra,r1 at' hat];have hinv:=z0r _ (show bl N A (Pr N A es k (e at')) (Pr N A es k (e at')) ≠ 0 from by rw [<- hpd];exact hd' k ⋯)
  rw [a0];generalize (bl N A (Pr N A es k (e at')) (Pr N A es k (e at')))⁻¹=w at *;generalize bl N A (Pr N A es k (e at')) (Pr N A es k (e at'))=p at *;generalize bl N A (Pr N A es k (e i)) (Pr N A es k (e at'))=q at *;generalize lf N (Pr N A es k (e i)) κ=x at *;generalize lf N (Pr N A es k (e at')) κ=y at *
  grind
 have num:∀ (i:Nat) (s:Int) (row:List Int),vs[i]? = some (s,row)->∀ c,c<ra.length->∃ z:Int,aZ ra at'*aZ row c-aZ row at'*aZ ra c=bf*z/\(c<vs.length->(z:Rat)=((aZ ra at':Int):Rat)*((s:Rat)*bl N A (Pr N A (put k (e at') es) (k+1) (e i)) (Pr N A (put k (e at') es) (k+1) (e c))))/\∀ t,t<N->c=vs.length+t->(z:Rat)=((aZ ra at':Int):Rat)*((s:Rat)*Pr N A (put k (e at') es) (k+1) (e i) t):=λi s row hi c hc=>by
  obtain ⟨V,lr,r1,r2⟩:=S.cur _ _ _ hi;rcases z0q c vs.length with y | y
  ·obtain ⟨⟨s',row'⟩,h'⟩:∃ x,vs[c]? = some x:=⟨_,q0c y⟩
   obtain ⟨V',_⟩:=S.cur c s' row' h';obtain ⟨z,e1,e2⟩:=val i s row hi (af N A (e c)) (.inl ⟨_,_,V'.mono S.j7,rfl⟩) c (by rw [r1 c y,<- aw5 F.sy hd];rfl) (by rw [a1 c y,<- aw5 F.sy hd];rfl)
   refine ⟨z,e1,λ_=>?_,λt ht hc=>⋯⟩;rw [e2,<- aw5 F.sy hd'];rfl
  ·obtain ⟨t,rfl⟩:∃ t,c=vs.length+t:=⟨c-vs.length,⋯⟩
   have ht:t<N:=⋯;obtain ⟨z,e1,e2⟩:=val i s row hi (un t) (.inr ⟨t,ht,rfl⟩) _ (by rw [r2 t ht,ac9 _ ht]) (by rw [a2 t ht,ac9 _ ht])
   refine ⟨z,e1,λh=>⋯,λt' ht' hc=>?_⟩;have:t'=t:=⋯;subst this;rw [e2,ac9 _ ht]
 refine ⟨⟨?_,S.j7,λc hc=>⟨ch' c hc,hd' c hc⟩,gk1.symm,λi s row hi=>?_,λa h1 h2=>?_⟩,hpx,λi s row hi c hc=>let ⟨z,hz,_⟩:=num i s row hi c hc;⟨z,hz⟩⟩
 ·have:=ap4 (bf:=bf) (ra:=ra) hat
  omega
 ·have lu:=ap4 (bf:=bf) (ra:=ra) hat
  unfold upV at hi;rw [q0f,aB9 vs hat] at hi
  cases hv:vs[sk at' i]? with
  | none=>rw [hv] at hi;cases hi
  | some x =>
   rw [hv] at hi;obtain ⟨s1,row1⟩:=x
   cases hi
   obtain ⟨V,lr,r1,r2⟩:=S.cur _ _ _ hv;have lrr:row1.length=ra.length:=⋯;refine ⟨V,?_,λc hc=>?_,λt ht=>?_⟩
   ·have:=aX9 (bf:=bf) (at':=at') (ra:=ra) (row:=row1) ⋯ lrr
    show (upL bf at' ra row1).length=_;omega
   ·rw [aK2 ⋯ lrr c ⋯]
    obtain ⟨z,e1,e2,_⟩:=num _ _ _ hv (sk at' c) (by unfold sk;split <;> omega)
    rw [e1,m4 b0];exact e2 (by unfold sk;split <;> omega)
   ·rw [aK2 ⋯ lrr _ ⋯]
    have es':sk at' ((upV bf at' ra vs).length+t)=vs.length+t:=by unfold sk;rw [if_neg ⋯];omega
    rw [es'];obtain ⟨z,e1,_,e3⟩:=num _ _ _ hv (vs.length+t) ⋯;rw [e1,m4 b0];exact e3 t ht rfl
 ·have lu:=ap4 (bf:=bf) (ra:=ra) hat
  refine S.sp a (λc hc=>?_) λi hi=>?_
  ·have:=h1 c ⋯
   unfold px at this;rw [ac1 (es:=es) c (λi hi=>cg i ⋯),cg c hc] at this;exact this
  ·have hx:=h1 k ⋯
   rw [hpx] at hx
   by_cases y:i=at'
   ·rw [y];exact hx
   ·have h3:=h2 (if i<at' then i else i-1) (by split <;> omega)
    have e4:sk at' (if i<at' then i else i-1)=i:=by
     unfold sk
     by_cases w:i<at'
     ·rw [if_pos w,if_pos w]
     ·rw [if_neg w,if_neg ⋯];omega
    rw [e4,V0,ar5,cp,hpx,hx] at h3
    grind
theorem aD2 (n m:Nat->Nat):∀ k,af1 (λi=>n i+m i) k=af1 n k+af1 m k
 | 0=>rfl
 | k+1=>by
  have:=aD2 n m k
  show af1 (λi=>n i+m i) k+(n k+m k)=af1 n k+n k+(af1 m k+m k);omega
theorem be9 (u w:Vc) (c:Rat) (t:Nat):af N A (λi=>u i+c*w i) t=af N A u t+c*af N A w t:=ar5 _ _ _ _ _
def ad (u w:Vc):Vc:=λi=>u i+1*w i
theorem Vk.mix {j:Nat} {s s' f g:Int} {e e':Vc} (h:Vk N A Bt j s e) (h':Vk N A Bt j s' e') (hf:f*s=g*s') (f1:0<f) (hd:f*s ∣ (Bt:Int)):Vk N A Bt (j+1) (f*s) (ad e e'):=by
 obtain ⟨n,e1,b1⟩:=h.ex;obtain ⟨m,e2,b2⟩:=h'.ex;refine ⟨q1a f1 h.s1,hd,⟨λt=>n t+m t,λt=>?_,?_⟩,λt ht=>?_⟩
 ·show e t+1*e' t=_
  rw [e1,e2,Int.natCast_add,y0j];grind
 ·rw [aD2,Nat.pow_succ];omega
 ·unfold ad
  rw [be9];obtain ⟨a,ha⟩:=h.int t ht;obtain ⟨b,hb⟩:=h'.int t ht;refine ⟨f*a+g*b,?_⟩;have hq:(f:Rat)*(s:Rat)=(g:Rat)*(s':Rat):=by rw [<- q0v,<- q0v,hf]
  rw [y0j,q0v,q0v,q0v,<- ha,<- hb];generalize af N A e t=x at *;generalize af N A e' t=y at *
  grind
def af6 (f g:Int) (ra rb:List Int):List Int:=g0n (λa b=>f*a+g*b) ra rb
def aC2 (a b:Nat) (row:List Int):List Int:=row.take a ++ [aZ row a+aZ row b] ++ row.drop (a+1)
theorem aL9 {α:Type} (l:List α) {i:Nat} (x:α) (hi:i<l.length):l.take i ++ [x] ++ l.drop (i+1)=l.set i x:=by
 rw [List.set_eq_take_append_cons_drop,if_pos hi,List.append_assoc];rfl
theorem aj4 {a b:Nat} {row:List Int} (h:a<row.length):aC2 a b row=row.set a (aZ row a+aZ row b):=aL9 _ _ h
theorem aJ9 {row:List Int} {a:Nat} {v:Int} (h:a<row.length) (j:Nat):aZ (row.set a v) j=if j=a then v else aZ row j:=by
 unfold aZ;rw [u0f]
 by_cases z:a=j
 ·rw [if_pos z,if_pos h,if_pos z.symm];rfl
 ·rw [if_neg z,if_neg (Ne.symm z)]
theorem ac8 {f g:Int} {ra rb:List Int} (h:rb.length=ra.length) (j:Nat):aZ (af6 f g ra rb) j=f*aZ ra j+g*aZ rb j:=by
 unfold af6 aZ;rw [m0k];rcases z0q j ra.length with y | y
 ·rw [q0c y,q0c ⋯];rfl
 ·rw [j0d y,j0d ⋯]
  show (0:Int)=f*0+g*0;omega
def au9 (f g:Int) (a b:Nat) (sa:Int) (ra rb:List Int) (vs:List (Int × List Int)):List (Int × List Int):=(vs.set a (f*sa,af6 f g ra rb)).map λx=>(x.1,aC2 a b x.2)
theorem Sq.mix {j k a b:Nat} {bf sa sb f g:Int} {vs:List (Int × List Int)} {e:Nat->Vc} {ra rb:List Int} (S:Sq N A Bt j k es ss bf vs e) (F:Fm N A Bt W) (jk:j+1<=7) (ha:vs[a]? = some (sa,ra)) (hb:vs[b]? = some (sb,rb)) (ab:a ≠ b) (hf:f*sa=g*sb) (f1:0<f) (hd:f*sa ∣ (Bt:Int)):Sq N A Bt (j+1) k es ss bf (au9 f g a b sa ra rb vs) (λi=>if i=a then ad (e a) (e b) else e i):=by
 have hat:=(q0h.mp ha).1;have hbt:=(q0h.mp hb).1;obtain ⟨Va,la,a1,a2⟩:=S.cur _ _ _ ha;obtain ⟨Vb,lb,b1,b2⟩:=S.cur _ _ _ hb;have lm:(au9 f g a b sa ra rb vs).length=vs.length:=by unfold au9;rw [q0b,z0k]
 have hq:(f:Rat)*(sa:Rat)=(g:Rat)*(sb:Rat):=by rw [<- q0v,<- q0v,hf]
 have pad:Pr N A es k (ad (e a) (e b))=λi=>Pr N A es k (e a) i+1*Pr N A es k (e b) i:=V4 _ _ _ _
 have pe:∀ i,Pr N A es k (if i=a then ad (e a) (e b) else e i)=if i=a then (λt=>Pr N A es k (e a) t+1*Pr N A es k (e b) t) else Pr N A es k (e i):=λi=>by
  by_cases z:i=a
  ·rw [if_pos z,if_pos z];exact pad
  ·rw [if_neg z,if_neg z]
 -- the rows ahead of the columns' sum
 have rowOf:∀ (i:Nat) (s:Int) (row:List Int),(vs.set a (f*sa,af6 f g ra rb))[i]? = some (s,row)->Vk N A Bt (j+1) s (if i=a then ad (e a) (e b) else e i)/\row.length=vs.length+N/\(∀ c,c<vs.length->((aZ row c:Int):Rat)=(bf:Rat)*((s:Rat)*bl N A (Pr N A es k (if i=a then ad (e a) (e b) else e i)) (Pr N A es k (e c))))/\∀ t,t<N->((aZ row (vs.length+t):Int):Rat)=(bf:Rat)*((s:Rat)*Pr N A es k (if i=a then ad (e a) (e b) else e i) t):=λi s row hi=>by
  rw [u0f] at hi
  by_cases z:a=i
  ·rw [if_pos z,if_pos hat] at hi
   cases hi
   rw [if_pos z.symm,pad];refine ⟨Va.mix Vb hf f1 hd,?_,λc hc=>?_,λt ht=>?_⟩
   ·unfold af6;rw [y0z];omega
   ·rw [ac8 ⋯,y0j,q0v,q0v,a1 c hc,b1 c hc,aC3,q0v]
    generalize bl N A (Pr N A es k (e a)) (Pr N A es k (e c))=x;generalize bl N A (Pr N A es k (e b)) (Pr N A es k (e c))=y
    grind
   ·rw [ac8 ⋯,y0j,q0v,q0v,a2 t ht,b2 t ht,q0v]
    show _=_*(_*(Pr N A es k (e a) t+1*Pr N A es k (e b) t));generalize Pr N A es k (e a) t=x;generalize Pr N A es k (e b) t=y
    grind
  ·rw [if_neg z] at hi
   rw [if_neg (Ne.symm z)];obtain ⟨V,l,c1,c2⟩:=S.cur _ _ _ hi;exact ⟨V.mono ⋯,l,c1,c2⟩
 refine ⟨by rw [lm];exact S.km,jk,S.ch,S.dv,λi s row hi=>?_,λx h1 h2=>?_⟩
 ·rw [lm]
  unfold au9 at hi;rw [q0f] at hi
  cases hv:(vs.set a (f*sa,af6 f g ra rb))[i]? with
  | none=>rw [hv] at hi;cases hi
  | some x =>
   rw [hv] at hi;obtain ⟨s1,row1⟩:=x
   cases hi
   obtain ⟨V,l,c1,c2⟩:=rowOf _ _ _ hv;refine ⟨V,?_,λc hc=>?_,λt ht=>?_⟩
   ·show (aC2 a b row1).length=_
    rw [aj4 ⋯,z0k];exact l
   ·show ((aZ (aC2 a b row1) c:Int):Rat)=_
    rw [aj4 ⋯,aJ9 ⋯]
    by_cases z:c=a
    ·rw [if_pos z,pe c,if_pos z,aN7,y0j,c1 a hat,c1 b hbt];grind
    ·rw [if_neg z,pe c,if_neg z];exact c1 c hc
   ·show ((aZ (aC2 a b row1) (vs.length+t):Int):Rat)=_
    rw [aj4 ⋯,aJ9 ⋯,if_neg ⋯];exact c2 t ht
 ·rw [lm] at h2
  refine S.sp x h1 λi hi=>?_
  by_cases z:i=a
  ·have h3:=h2 a hat
   have h4:=h2 b hbt;rw [pe,if_pos rfl,ar5] at h3;rw [pe,if_neg (Ne.symm ab)] at h4;rw [h4] at h3;rw [z];grind
  ·have h3:=h2 i hi
   rw [pe,if_neg z] at h3;exact h3
theorem Sq.start (F:Fm N A Bt W) {vs:List (Int × List Int)} (lv:vs.length=N) (h:∀ (i:Nat) (s:Int) (row:List Int),vs[i]? = some (s,row)->0<s/\s ∣ (Bt:Int)/\row.length=N+N/\(∀ c,c<N->((aZ row c:Int):Rat)=(s:Rat)*A i c)/\∀ t,t<N->aZ row (N+t)=if t=i then s else 0):Sq N A Bt 0 0 es ss 1 vs un:=by
 refine ⟨⋯,⋯,λc hc=>⋯,rfl,λi s row hi=>?_,λa h1 h2 t ht=>?_⟩
 ·obtain ⟨s1,sd,l,c1,c2⟩:=h i s row hi
  have iN:i<N:=by rw [<- lv];exact (q0h.mp hi).1
  have eb:∀ c,c<N->bl N A (un i) (un c)=A i c:=λc hc=>by
   show lf N (un i) (af N A (un c))=_;rw [al2,ac9 _ iN]
   show lf N (A i) (un c)=_;rw [ac9 _ hc]
  refine ⟨⟨s1,sd,⟨λt=>if t=i then 1 else 0,λt=>?_,?_⟩,λt ht=>?_⟩,⋯,λc hc=>?_,λt ht=>?_⟩
  ·show (if t=i then (1:Rat) else 0)=(((if t=i then 1 else 0:Nat):Int):Rat)
   split <;> rfl
  ·have:∀ M,af1 (λt=>if t=i then 1 else 0) M<=1/\(M<=i->af1 (λt=>if t=i then 1 else 0) M=0):=λM=>by
    induction M with
    | zero=>exact ⟨z0f _,λ_=>rfl⟩
    | succ M ih =>
     obtain ⟨i1,i2⟩:=ih;refine ⟨?_,λh=>?_⟩
     ·show af1 _ M+(if M=i then 1 else 0)<=1
      split
      ·rename_i y;rw [i2 ⋯];omega
      ·omega
     ·show af1 _ M+(if M=i then 1 else 0)=0
      rw [i2 ⋯,if_neg ⋯]
   exact (this N).1
  ·refine ⟨aZ row t,?_⟩
   rw [c1 t ht]
   show _*lf N (A t) (un i)=_;rw [ac9 _ iN,F.sy t ht i iN]
  ·show _=((1:Int):Rat)*((s:Rat)*bl N A (un i) (un c))
   rw [eb c ⋯,c1 c ⋯,show ((1:Int):Rat)=1 from rfl];grind
  ·show _=((1:Int):Rat)*((s:Rat)*un i t)
   rw [lv,c2 t ht,show ((1:Int):Rat)=1 from rfl];unfold un
   split
   ·grind
   ·show (0:Rat)=_;grind
 ·have:=h2 t ⋯
  show a t=0;have e:Pr N A es 0 (un t)=un t:=rfl;rw [e,ac9 _ ht] at this;exact this
def vc (col:List Int):Vc:=λt=>((aZ col t:Int):Rat)
def Tc (N b:Nat) (col:List Int) (x:Vc):Prop:=col.length=N/\(∀ t,(aZ col t).natAbs<=2 ^ b)/\∃ τ:Rat,τ ≠ 0/\∀ t,t<N->vc col t=τ*x t
theorem Tc.lf {col:List Int} {x:Vc} {τ:Rat} (h:∀ t,t<N->vc col t=τ*x t) (a:Vc):lf N a (vc col)=τ*lf N a x:=by
 unfold R.lf;rw [y3];exact i4 λt ht=>by rw [h t ht];grind
theorem Tc.bl {c d:List Int} {x y:Vc} {τ υ:Rat} (h:∀ t,t<N->vc c t=τ*x t) (k:∀ t,t<N->vc d t=υ*y t):bl N A (vc c) (vc d)=τ*(υ*bl N A x y):=by
 unfold R.bl;have e:af N A (vc d)=λs=>υ*af N A y s:=funext λs=>Tc.lf k (A s);rw [al2,Tc.lf h,e,ad0,al2]
structure T4 (N:Nat) (A:Mt) (Bt W:Nat) (cols:List (List Int)) (qs:List Rat):Prop where
 lc:cols.length=N
 lq:qs.length=N
 ll:∀ L ∈ cols,L.length=N
 ho:∀ i,i<N->∀ j,j<N->bl N A (vc ((cols[i]?).getD [])) (vc ((cols[j]?).getD []))=if i=j then (qs[i]?).getD 0 else 0
 sp:∀ a:Vc,(∀ i,i<N->lf N a (vc ((cols[i]?).getD []))=0)->∀ t,t<N->a t=0
 bt:∀ i,i<N->∀ t,(aZ ((cols[i]?).getD []) t).natAbs<=2 ^ cw Bt W i
theorem aS6 {fs:Nat->Vc} {c:Nat} (h:∀ i,i<=c->fs i=es i):px N A fs c=px N A es c:=by
 unfold px;rw [ac1 c (λi hi=>h i ⋯),h c (q0k _)]
structure Fnd (N:Nat) (A:Mt) (Bt W:Nat) (es:Nat->Vc) (k:Nat) (found:List (List Int × Rat)):Prop where
 len:found.length=k
 at':∀ (c:Nat) (col:List Int) (q:Rat),found[c]? = some (col,q)->Tc N (cw Bt W c) col (px N A es c)/\q=bl N A (vc col) (vc col)
theorem Fnd.snoc {k:Nat} {found:List (List Int × Rat)} (h:Fnd N A Bt W es k found) {v:Vc} {col:List Int} (hc:Tc N (cw Bt W k) col (px N A (put k v es) k)):Fnd N A Bt W (put k v es) (k+1) (found ++ [(col,bl N A (vc col) (vc col))]):=by
 refine ⟨by rw [j0g,h.len];rfl,λc col' q hg=>?_⟩
 rcases z0q c k with y | y
 ·rw [j0f (by rw [h.len];exact y)] at hg
  obtain ⟨h1,h2⟩:=h.at' _ _ _ hg;rw [aS6 (es:=es) (fs:=put k v es) (c:=c) λi hi=>if_neg ⋯];exact ⟨h1,h2⟩
 ·rw [j0k (by rw [h.len];exact y),h.len] at hg
  have c0:c-k=0:=by
   have:=(q0h.mp hg).1
   simp at this;omega
  rw [c0] at hg
  cases hg
  rw [show c=k by omega]
  exact ⟨hc,rfl⟩
theorem Sq.finish {j k:Nat} {bf:Int} {vs:List (Int × List Int)} {e:Nat->Vc} (S:Sq N A Bt j k es ss bf vs e) (F:Fm N A Bt W) {found:List (List Int × Rat)} (f:Fnd N A Bt W es k found) {R:List (List Int)} (lR:R.length=vs.length) (hR:∀ (i:Nat) (col:List Int),R[i]? = some col->Tc N (cw Bt W k) col (Pr N A es k (e i))) (z:∀ (i:Nat) (s:Int) (row:List Int),vs[i]? = some (s,row)->∀ c,i<=c->c<vs.length->aZ row c=0):T4 N A Bt W (found.map (·.1) ++ R) (found.map (·.2) ++ y0m vs.length 0):=by
 have km:=S.km;have hd:=S.hd;have b0:=t7 (S.b0 F);have lf':=f.len
 have up:∀ i c,i<=c->c<vs.length->bl N A (Pr N A es k (e i)) (Pr N A es k (e c))=0:=λi c h1 h2=>by
  obtain ⟨⟨s,row⟩,h⟩:∃ x,vs[i]? = some x:=⟨_,q0c ⋯⟩;obtain ⟨V,_,c1,_⟩:=S.cur _ _ _ h;have h3:=c1 c h2;rw [z _ _ _ h c h1 h2] at h3;have sq:=t7 (show s ≠ 0 by have:=V.s1;omega)
  have h4:(bf:Rat)*((s:Rat)*bl N A (Pr N A es k (e i)) (Pr N A es k (e c)))=0:=h3.symm;rcases j0c.mp h4 with y | y
  ·exact absurd y b0
  ·rcases j0c.mp y with w | w
   ·exact absurd w sq
   ·exact w
 have all0:∀ i,i<vs.length->∀ c,c<vs.length->bl N A (Pr N A es k (e i)) (Pr N A es k (e c))=0:=λi hi c hc=>by
  rcases Nat.le_total i c with y | y
  ·exact up i c y hc
  ·rw [as8 F.sy];exact up c i y hi
 obtain ⟨x,hx⟩:∃ x:Nat->Vc,x=λi=>if i<k then px N A es i else Pr N A es k (e (i-k)):=⟨_,rfl⟩
 have ox:∀ i,i<N->∀ j,j<N->i ≠ j->bl N A (x i) (x j)=0:=λi hi j hj ij=>by
  rw [hx]
  show bl N A (if i<k then _ else _) (if j<k then _ else _)=0
  by_cases a:i<k
  ·rw [if_pos a]
   by_cases b:j<k
   ·rw [if_pos b]
    rcases z0q j i with y | y
    ·exact Z5 F.sy i (λc hc=>hd c ⋯) (es i) j y
    ·rw [as8 F.sy]
     exact Z5 F.sy j (λc hc=>hd c ⋯) (es j) i ⋯
   ·rw [if_neg b,as8 F.sy]
    exact Z5 F.sy k hd _ i a
  ·rw [if_neg a]
   by_cases b:j<k
   ·rw [if_pos b]
    exact Z5 F.sy k hd _ j b
   ·rw [if_neg b]
    exact all0 _ ⋯ _ ⋯
 have tc:∀ i,i<N->Tc N (cw Bt W i) (((found.map (·.1) ++ R)[i]?).getD []) (x i):=λi hi=>by
  rw [hx]
  show Tc N _ _ (if i<k then _ else _)
  by_cases a:i<k
  ·rw [if_pos a,j0f (by rw [q0b];omega),q0f]
   obtain ⟨⟨col,q⟩,h⟩:∃ x,found[i]? = some x:=⟨_,q0c ⋯⟩;rw [h];exact (f.at' _ _ _ h).1
  ·rw [if_neg a,j0k (by rw [q0b];omega),q0b,lf']
   obtain ⟨col,h⟩:∃ x,R[i-k]? = some x:=⟨_,q0c ⋯⟩;rw [h];obtain ⟨h1,h2,h3⟩:=hR _ _ h;exact ⟨h1,λt=>q0p (h2 t) (z0v (by decide) (bg6 ⋯)),h3⟩
 refine ⟨by rw [j0g,q0b];omega,by rw [j0g,q0b,v0g];omega,λL hL=>?_,λi hi j hj=>?_,λa ha=>?_,λi hi=>(tc i hi).2.1⟩
 ·obtain ⟨i,hi,rfl⟩:=v0p hL
  have h1:=(tc i (by rw [j0g,q0b] at hi;omega)).1
  rw [q0c hi] at h1;exact h1
 ·obtain ⟨li,_,τ,τ0,ht⟩:=tc i hi
  obtain ⟨lj,_,υ,υ0,hu⟩:=tc j hj
  by_cases ij:i=j
  ·subst ij
   rw [if_pos rfl]
   by_cases a:i<k
   ·obtain ⟨⟨col,q⟩,h⟩:∃ x,found[i]? = some x:=⟨_,q0c ⋯⟩
    have h2:=(f.at' _ _ _ h).2;have g1:(found.map (·.1) ++ R)[i]? = some col:=by rw [j0f (by rw [q0b];omega),q0f,h];rfl
    have g2:(found.map (·.2) ++ y0m vs.length (0:Rat))[i]? = some q:=by rw [j0f (by rw [q0b];omega),q0f,h];rfl
    rw [g1,g2];exact h2.symm
   ·have g2:(found.map (·.2) ++ y0m vs.length (0:Rat))[i]? = some 0:=by rw [j0k (by rw [q0b];omega),v0a,if_pos (by rw [q0b];omega)]
    rw [g2,Tc.bl ht ht,hx]
    show τ*(τ*bl N A (if i<k then _ else _) (if i<k then _ else _))=0;rw [if_neg a,all0 _ ⋯ _ ⋯];grind
  ·rw [if_neg ij,Tc.bl ht hu,ox i hi j hj ij];grind
 ·have key:∀ i,i<N->lf N a (x i)=0:=λi hi=>by
   obtain ⟨li,_,τ,τ0,ht⟩:=tc i hi;have h1:=ha i hi;rw [Tc.lf ht] at h1;rcases j0c.mp h1 with y | y
   ·exact absurd y τ0
   ·exact y
  refine S.sp a (λc hc=>?_) λi hi=>?_
  ·have:=key c ⋯
   rw [hx] at this;simp only [if_pos hc] at this;exact this
  ·have:=key (k+i) ⋯
   rw [hx] at this;simp only [if_neg (show ¬ k+i<k by omega),g0v] at this
   exact this
end
section
variable {P:Program} {w:World} {K:q0a} {mg:Str->Option Value} {base:Heap}
abbrev Z1:Stmt:=top 46
theorem O1:j1 ["_law_top","_law_bottom","_law_one","_law_other_here"] ["_law_top","_law_bottom"] (b9 Z1):=by and_intros
theorem aE5 {f:Addr} (d:Df K mg "_law_low" Z1 ["_law_top","_law_bottom"] f) (n_abs:mg "abs" = none):Def P w K mg base CX0 1 "_law_low" f ["_law_top","_law_bottom"] am5:=by
  refine d.ok (N:=["_law_top","_law_bottom","_law_one","_law_other_here"]) O1 (λvs H Q E ⟨a,b,h,_⟩=>by rw [h];rfl) (λcdv A outer s H vs Q E hr h=>?_)
  obtain ⟨t,b,rfl,hb0,hb,k⟩:=h
  refine ⟨_, (b8 (i8 (i := 2) O1.nd rfl (Or.inl rfl) (h8 ad8 rfl n_abs (by decide +kernel) (a7 (pv 0) a8)))
      (b8 (i8 (i:=3) O1.nd rfl (Or.inl rfl) (h8 ad8 rfl n_abs (by decide +kernel) (a7 (pv 1) a8)))
      (b8 (aq4 PassesOwn.never (l5 ai5 (pv 3) b7 (j9 _)) (c4 (aT0 (i:=2) (j:=3) rfl O1.nd rfl rfl (by decide) rfl rfl (a7 (pv 3) (a7 (i7 M1 (pv 2) (pv 3)) a8)) rfl)))
      (b8 (z9 (l5 aq6 (pv 1) b7 (j9 _)) (c4 (i8 (i:=2) O1.nd rfl (Or.inl rfl) (i7 ac3 b7 (pv 2)))) m8)
      (c4 (i9 (m5 (a7 (i7 A7 (pv 0) (pv 2)) (a7 (i7 A7 (pv 1) (pv 2)) a8))))))))),?_⟩
  rw [show start ["_law_top","_law_bottom","_law_one","_law_other_here"] [.int t,.int b]=[some (.int t),some (.int b),none,none] from rfl]
  subst_eqs
  refine aC4 (λσ H1=>H1=H/\∃ x y:Int,σ=[some (.int t),some (.int b),some (.int x),some (.int y)]/\0<=x/\0<=y/\Int.gcd x y=Int.gcd t b) (λσ _=>match σ with | [_,_,_,some (.int y)]=>y.natAbs | _=>0)
    ⟨rfl,_,_,rfl,by split <;> omega,by split <;> omega,?_⟩ ?_ ?_
  · have e1:(if t<0 then -t else t)=(t.natAbs:Int):=by split <;> omega
    have e2:(if b<0 then -b else b)=(b.natAbs:Int):=by split <;> omega
    rw [e1,e2,Int.gcd_eq_natAbs_gcd_natAbs,Int.gcd_eq_natAbs_gcd_natAbs];simp
  · rintro σ H1 ⟨rfl,x,y,rfl,hx,hy,hg⟩
    subst_eqs
    split
    · rename_i hy0
      exact ⟨⋯,hy,Int.fmod_nonneg_of_pos x hy0,by rw [aF7];exact hg,ac6 x ⋯⟩
    · rename_i hy0
      have hy':y=0:=⋯;subst hy'
      have ex:x=(Int.gcd t b:Int):=by
        rw [Int.gcd_zero_right] at hg;omega
      have gp:=Z7 (t:=t) hb0;have gl:=aJ0 (a:=t) hb0 hb
      by_cases hs:b<0
      · rw [if_pos hs]
        obtain ⟨e1,e2⟩:=al0 (t:=t) (g:=0-x) hb0 (by rw [if_pos hs,ex];omega)
        have dv:∀ i,ao4 i (0-x):=λi=>Y1 ⋯ (by rw [show 0-x=-x by omega,Int.natAbs_neg,ex];exact ai8 gl)
        refine ⟨dv _,dv _,u0,λr hr'=>?_⟩;exact k r _ (c5.new hr' _) (by rw [a9];unfold A1;rw [e1,e2])
      · rw [if_neg hs]
        obtain ⟨e1,e2⟩:=al0 (t:=t) (g:=x) hb0 (by rw [if_neg hs,ex])
        have dv:∀ i,ao4 i x:=λi=>Y1 ⋯ (by rw [ex];exact ai8 gl)
        refine ⟨dv _,dv _,u0,λr hr'=>?_⟩;exact k r _ (c5.new hr' _) (by rw [a9];unfold A1;rw [e1,e2])
  · intro σ H1 Q1 Q2 hQ h
    simp only [aD6,au0,Q6,K4,aF6,tSl,al9,T8,aH3,U9,an3,A5,List.map_cons,List.map_nil,Option.bind_none,Option.bind_some,Option.join_some,ay5,aC8,aD1,tOr,aC6,al8,tB,tOp,tUn,aD0,tBM,Y5,tC,tCB,ay6,ao6,k9,ap3,E9,k6,F2,T9,ao5,ay7,aC5,aC7,tIf,am3,am0,at5,Y6,am2,am1,ab0,aa9,rI,rI0,rU,U8,Z3,au1,aa4,rEq,rNe,ab9,ab8,ab7,aD7,aY3,an2,an1,aa7,ad4,cxR,cxX,Cx.nox,Cx.wish,Cx.body,Cx.suite,List.getElem?_cons_zero,List.getElem?_cons_succ,List.set_cons_zero,List.set_cons_succ,Option.some.injEq,V.int.injEq,V.bl.injEq,V.ref.injEq,V.str.injEq,exists_eq_left',exists_eq_left,exists_and_left,true_and,and_true,List.cons.injEq,reduceCtorEq,Bool.false_eq_true,if_false,if_true,exists_const,↓reduceIte,tyV,List.length_cons,List.length_nil,exists_eq,List.append_nil,List.cons_append,List.nil_append,decide_eq_true_eq,not_true_eq_false,not_false_eq_true,Bool.not_eq_true',decide_eq_false_iff_not,Bool.not_true,Bool.not_false,and_assoc,false_and,false_or,or_false] at h ⊢;obtain ⟨v,e1,i,e2,e3⟩:=h;exact ⟨v,e1,i,e2,hQ _ _ e3⟩
abbrev Z0:Stmt:=top 44
theorem K9:j1 ["_law_script","_law_at","_law_cell","_law_prime","_law_great"] ["_law_script","_law_at"] (b9 Z0):=by and_intros
theorem aE4 {f:Addr} (d:Df K mg "_law_urn" Z0 ["_law_script","_law_at"] f) (n_len:mg "len" = none) (n_abs:mg "abs" = none):Def P w K mg base CX0 1 "_law_urn" f ["_law_script","_law_at"] (bb0 K):=by
 refine d.ok (N:=["_law_script","_law_at","_law_cell","_law_prime","_law_great"]) K9 (λvs H Q E ⟨x,y,p,h,_⟩=>by rw [h];rfl) (λcdv A outer s H vs Q E hr h=>?_)
 obtain ⟨a,ns,i,rfl,hS,h0,h64,k⟩:=h
 refine ⟨_,(b8 (i8 (i:=2) K9.nd rfl (q0y rfl) b7)
   (b8 (z9 (l5 aq6 (pv 1) (h8 k8 rfl n_len (by decide +kernel) (a7 (pv 0) a8)) (j9 _)) (c4 (i8 (i:=2) K9.nd rfl (q0y rfl) (d8 i6 (pv 0) (pv 1) (λ_ _=>rfl)))) m8)
   (b8 (i8 (i:=3) K9.nd rfl (q0y rfl) (d8 j8 (m5 (a7 b7 (a7 b7 (a7 b7 (a7 b7 (a7 b7 (a7 b7 (a7 b7 (a7 b7 a8))))))))) (i7 M1 (pv 1) b7) (λ_ _=>rfl)))
   (b8 (i8 (i:=4) K9.nd rfl (q0y rfl) b7)
   (b8 (z9 (l5 bg1 (h8 ad8 rfl n_abs (by decide +kernel) (a7 (pv 2) a8)) (i7 ac4 b7 b7) (j9 _)) (c4 (i8 (i:=4) K9.nd rfl (q0y rfl) (h8 ad8 rfl n_abs (by decide +kernel) (a7 (pv 2) a8)))) m8)
   (c4 (i9 (F8 (a7 (pv 4) (a7 (i7 M1 (i7 ac4 (i7 B4 (i7 B4 (i7 M1 (pv 2) (pv 3)) (i7 q8 b7 (pv 1))) b7) b7) (pv 3)) (a7 (pv 3) a8))))))))))),?_⟩
 rw [show start ["_law_script","_law_at","_law_cell","_law_prime","_law_great"] [.ref a,.int i]=[some (.ref a),some (.int i),none,none,none] from rfl]
 refine c9 (λσ H1=>H1=H/\σ=[some (.ref a),some (.int i),some (.int 0),none,none]) (λN hN=>?_) ?_
 ·subst_eqs
  exact hN _ _ ⟨rfl,rfl⟩
 rintro σ H1 ⟨rfl,rfl⟩;refine c9 (λσ H2=>H2=H1/\∃ c:Int,σ=[some (.ref a),some (.int i),some (.int c),none,none]) (λN hN=>?_) ?_
 ·subst_eqs
  refine ⟨_,.inl hS,A9 (λhl=>?_) (λ_=>hN _ _ ⟨rfl,_,rfl⟩)⟩;obtain ⟨c,hc⟩:=aR1 (ns:=ns) h0 (by simpa using hl)
  exact ⟨_,hS,_,hc,hN _ _ ⟨rfl,c,rfl⟩⟩
 rintro σ H2 ⟨rfl,c,rfl⟩;obtain ⟨pr,hpr,p1,p2⟩:=aT1 h0;refine c9 (λσ H3=>c5 H2 H3/\σ=[some (.ref a),some (.int i),some (.int c),some (.int pr),none]) (λN hN=>?_) ?_
 ·subst_eqs
  exact ⟨by decide,λp hp=>⟨by decide,_,SqT.of a9,_,hpr,hN _ _ ⟨c5.new hp _,rfl⟩⟩⟩
 rintro σ H3 ⟨s1,rfl⟩;refine c9 (λσ H4=>H4=H3/\σ=[some (.ref a),some (.int i),some (.int c),some (.int pr),some (.int 0)]) (λN hN=>?_) ?_
 ·subst_eqs
  exact hN _ _ ⟨rfl,rfl⟩
 rintro σ H4 ⟨rfl,rfl⟩;refine c9 (λσ H5=>H5=H4/\∃ g:Int,0<=g/\σ=[some (.ref a),some (.int i),some (.int c),some (.int pr),some (.int g)]) (λN hN=>?_) ?_
 ·subst_eqs
  exact ⟨⟨by decide,by decide,by decide⟩,A9 (λ_=>hN _ _ ⟨rfl,_,by split <;> omega,rfl⟩) (λ_=>hN _ _ ⟨rfl,_,Int.le_refl _,rfl⟩)⟩
 rintro σ H5 ⟨rfl,g,hg,rfl⟩
 subst_eqs
 have m0:=y0d c (show 0<pr by omega)
 have m1:=y0r c (show 0<pr by omega)
 refine ⟨⋯,bd2 (by decide),⟨by decide,by decide,⋯⟩,⋯,by decide,λr hr'=>?_⟩
 refine k r _ (s1.trans (c5.new hr' _)) (s1.free hr') ⟨g,_,pr,a9,hg,y0d _ ⋯,?_,⋯,⋯⟩;have:=y0r ((c.fmod pr+65537*i+101) ^ (3:Int).toNat) (show 0<pr by omega)
 omega
abbrev U7:Stmt:=top 45
theorem ai0:j1 ["_law_urn_here","_law_many","_law_drawn"] ["_law_urn_here","_law_many"] (b9 U7):=by and_intros
theorem aA8 {f:Addr} (d:Df K mg "_law_draw" U7 ["_law_urn_here","_law_many"] f):Def P w K mg base CX0 1 "_law_draw" f ["_law_urn_here","_law_many"] y9:=by
  refine d.ok (N:=["_law_urn_here","_law_many","_law_drawn"]) ai0 (λvs H Q E ⟨x,y,h,_⟩=>by rw [h];rfl) (λcdv A outer s H vs Q E hr h=>?_)
  obtain ⟨u,n,rfl,⟨g,m,p,hu,g0,m0,m1,p0,p1⟩,n0,n1,k⟩:=h
  refine ⟨_, (b8 (z9 (l5 ai5 (d8 i6 (pv 0) b7 (fun _ _ => rfl)) b7 (j9 _)) (b8 (i8 (i := 2) ai0.nd rfl (Or.inl rfl) (i7 M1 (d8 i6 (pv 0) b7 (fun _ _ => rfl)) (pv 1)))
      (b8 (F7 (i7 A7 (d8 i6 (pv 0) b7 (λ_ _=>rfl)) (pv 1)) (O7 (pv 0) b7 C7))
      (c4 (i9 (pv 2))))) m8)
      (b8 (F7 (i7 M1 (i7 B4 (i7 q8 (d8 i6 (pv 0) b7 (λ_ _=>rfl)) b7) b7) (d8 i6 (pv 0) b7 (λ_ _=>rfl))) (O7 (pv 0) b7 C7))
      (c4 (i9 (i7 M1 (i7 A7 (i7 M1 (i7 ac4 (i7 A7 (d8 i6 (pv 0) b7 (λ_ _=>rfl)) b7) b7) b7) b7) (pv 1)))))),?_⟩
  rw [show start ["_law_urn_here","_law_many","_law_drawn"] [.ref u,.int n]=[some (.ref u),some (.int n),none] from rfl]
  have L1:SqL K H u [.int g,.int m,.int p]:=SqL.of hu;have x0:∀ g m p:Int,atI [V.int g,.int m,.int p] 0=some (.int g):=λ_ _ _=>rfl;have x1:∀ g m p:Int,atI [V.int g,.int m,.int p] 1=some (.int m):=λ_ _ _=>rfl;have x2:∀ g m p:Int,atI [V.int g,.int m,.int p] 2=some (.int p):=λ_ _ _=>rfl
  subst_eqs
  have dn:∀ i,ao4 i n:=λi=>Y1 ⋯ (Nat.lt_of_lt_of_le (show n.natAbs<2 ^ 40 by omega) (i5 (by decide)))
  refine ⟨_,L1,_,x0 g m p,_,rfl,A9 (λhg=>?_) (λhg=>?_)⟩
  · refine ⟨_,L1,_,x0 g m p,_,rfl,⋯,_,L1,_,x0 g m p,_,rfl,dn _,_,hu,0,rfl,?_⟩
    exact k _ _ (Int.fmod_nonneg_of_pos _ n0) (Int.fmod_lt_of_pos _ n0) (p9.upd _ _ _) ⟨g.fdiv n,m,p,a9,Int.fdiv_nonneg g0 ⋯,m0,m1,p0,p1⟩
  · have q0:=Int.fmod_nonneg_of_pos (m*60013+12289) p0
    have q1:=Int.fmod_lt_of_pos (m*60013+12289) p0;have z:SqL K (upd H u (.lst [.int g,.int ((m*60013+12289).fmod p),.int p])) u [.int g,.int ((m*60013+12289).fmod p),.int p]:=SqL.of a9
    have d16:0<=((m*60013+12289).fmod p).fdiv 16/\((m*60013+12289).fmod p).fdiv 16<2 ^ 40:=by
      rw [Int.fdiv_eq_ediv_of_nonneg _ (by decide)]
      omega
    refine ⟨_,L1,_,x1 g m p,_,rfl,aF1 (by decide),_,L1,_,x2 g m p,_,rfl,⋯,_,hu,1,rfl,_,z,_,x1 _ _ _,_,rfl,Y1 (by decide) (Nat.lt_of_lt_of_le (show (16:Int).natAbs<2 ^ 40 by decide) (i5 (by decide))),⟨by decide,by decide,⋯⟩,by decide,Y1 (by decide) (Nat.lt_of_lt_of_le (show (8:Int).natAbs<2 ^ 40 by decide) (i5 (by decide))),⋯,?_⟩
    exact k _ _ (Int.fmod_nonneg_of_pos _ n0) (Int.fmod_lt_of_pos _ n0) (p9.upd _ _ _) ⟨g,_,p,a9,g0,q0,⋯,p0,p1⟩
abbrev N8:Stmt:=top 52
theorem ab5:j1 ["_law_urn_here","_law_kind","_law_top"] ["_law_urn_here","_law_kind"] (b9 N8):=by and_intros
abbrev P4:Stmt:=top 60
theorem at8:j1 ["_law_thing"] ["_law_thing"] (b9 P4):=by and_intros
theorem au5 {f:Addr} (d:Df K mg "_law_whole" P4 ["_law_thing"] f) (n_isinstance:mg "isinstance" = none) (n_int:mg "int" = none) (n_bool:mg "bool" = none):Def P w K mg base CX0 1 "_law_whole" f ["_law_thing"] ah7:=by
 refine d.ok (N:=["_law_thing"]) at8 (λvs H Q E ⟨u,h,_⟩=>by rw [h];rfl) (λcdv A outer s H vs Q E hr h=>?_)
 obtain ⟨i,rfl,k⟩:=h;refine ⟨_,(c4 (i9 (aH7 (h8 j6 rfl n_isinstance (by decide +kernel) (a7 (pv 0) (a7 (V3 (v:=.ty "int") rfl n_int (by decide +kernel) rfl) a8))) (aH5 (bc7 (h8 j6 rfl n_isinstance (by decide +kernel) (a7 (pv 0) (a7 (V3 (v:=.ty "bool") rfl n_bool (by decide +kernel) rfl) a8)))))))),?_⟩
 rw [show start ["_law_thing"] [.int i]=[some (.int i)] from rfl]
 subst_eqs
 exact ⟨trivial,_,.of (.int i),_,aF4,bi3 ⟨trivial,_,.of (.int i),_,aB2,k⟩⟩
abbrev G5:Stmt:=top 61
theorem ah9:j1 ["_law_thing"] ["_law_thing"] (b9 G5):=by and_intros
theorem ai7 {f fw fl : Addr} (d : Df K mg "_law_is_number" G5 ["_law_thing"] f) (G__law_whole : Def P w K mg base CX0 1 "_law_whole" fw ["_law_thing"] ah7) (G__law_low : Def P w K mg base CX0 1 "_law_low" fl ["_law_top", "_law_bottom"] am5) (n_isinstance : mg "isinstance" = none) (n_tuple : mg "tuple" = none) (n_len : mg "len" = none) :
    Def P w K mg base CX0 2 "_law_is_number" f ["_law_thing"] (az1 K):=by
  refine d.ok (N:=["_law_thing"]) ah9 (λvs H Q E ⟨u,q,h,_⟩=>by rw [h];rfl) (λcdv A outer s H vs Q E hr h=>?_)
  obtain ⟨x,q,rfl,⟨ap,rfl,hS⟩,hd,k⟩:=h;have hu:=hr.units
  refine ⟨_, (b8 (z9 (PW.pt (aa5 (N3 (N2 (h8 j6 rfl n_isinstance (by decide +kernel) (a7 (pv 0) (a7 (V3 (v := .ty "tuple") rfl n_tuple (by decide +kernel) rfl) a8))))) (aa5 (l5 af9 (h8 k8 rfl n_len (by decide +kernel) (a7 (pv 0) a8)) b7 (j9 _)) (aa5 (N3 (N2 (d6 G__law_whole hr (a7 (d8 j8 (pv 0) b7 (fun _ _ => rfl)) a8) j0))) (ag7 (N3 (N2 (d6 G__law_whole hr (a7 (d8 j8 (pv 0) b7 (fun _ _ => rfl)) a8) j0)))))))) (c4 (i9 X3)) m8)
      (c4 (i9 (aH7 (K3 ai5 (d8 j8 (pv 0) b7 (λ_ _=>rfl)) b7 (j9 _)) (aH5 (K3 (aq7 hu) (d6 G__law_low hr (a7 (d8 j8 (pv 0) b7 (λ_ _=>rfl)) (a7 (d8 j8 (pv 0) b7 (λ_ _=>rfl)) a8)) j0) (pv 0) (j9 _))))))),?_⟩
  rw [show start ["_law_thing"] [.ref ap]=[some (.ref ap)] from rfl]
  have dq:=v9 q
  simp! [ah7,aH1]
  refine ⟨trivial,_,.sqt hS,_,an0,?_⟩
  simp! [ah7,aH1]
  refine ⟨_,.inr hS,?_⟩
  simp! [ah7,aH1,A1]
  refine A9 (λhh=>absurd rfl hh) (λ_=>?_);refine ⟨_,hS,_,at0 q,_,rfl,_,hS,_,at1 q,_,rfl,_,hS,_,at1 q,_,rfl,?_⟩;rw [if_pos dq];refine ⟨_,hS,_,at0 q,_,hS,_,at1 q,_,_,rfl,⋯,hd,λr H' sm hr'=>?_⟩;rw [Rat.num_divInt_den] at hr';refine ⟨P9 q,P9 q,rfl,ap7 (SqT.of hr'),ap7 (sm.tup hS),aM4 q q,be5 q,?_⟩;rw [aN1];exact k H' sm
inductive VsH (X:Addr->Prop) (H:Hp):List V->List (Int × List Int)->Prop where
 | nil:VsH X H [] []
 | cons {p l:Addr} {s:Int} {row:List Int} {vs:List V} {ws:List (Int × List Int)} (h:H p=some (.tup [.int s,.ref l])) (e:H l=some (.lst (row.map V.int))) (f:X l) (t:VsH X H vs ws):VsH X H (.ref p :: vs) ((s,row) :: ws)
theorem VsH.same {X:Addr->Prop} {H H':Hp} (s:c5 H H'):∀ {vs:List V} {ws:List (Int × List Int)},VsH X H vs ws->VsH X H' vs ws
 | _,_,.nil=>.nil
 | _,_,.cons h e f t=>.cons (s _ _ h) (s _ _ e) f (t.same s)
theorem VsH.length {X:Addr->Prop} {H:Hp}:∀ {vs:List V} {ws:List (Int × List Int)},VsH X H vs ws->vs.length=ws.length
 | _,_,.nil=>rfl
 | _,_,.cons _ _ _ t=>congrArg (· + 1) t.length
theorem VsH.snoc {X:Addr->Prop} {H:Hp} {p l:Addr} {s:Int} {row:List Int} (h:H p=some (.tup [.int s,.ref l])) (e:H l=some (.lst (row.map V.int))) (f:X l):∀ {vs:List V} {ws:List (Int × List Int)},VsH X H vs ws->VsH X H (vs ++ [.ref p]) (ws ++ [(s,row)])
 | _,_,.nil=>.cons h e f .nil
 | _,_,.cons h' e' f' t=>.cons h' e' f' (t.snoc h e f)
theorem VsH.over {X:Addr->Prop} {H:Hp} {D:Addr} {ys:List V} {o:HO} (hD:H D=some (.lst ys)) (nD:∀ l,X l->l ≠ D):∀ {vs:List V} {ws:List (Int × List Int)},VsH X H vs ws->VsH X (upd H D o) vs ws
 | _,_,.nil=>.nil
 | _,_,.cons h e f t=>.cons (by rw [c8 (λz=>by rw [z,hD] at h;cases h)];exact h) (by rw [c8 (nD _ f)];exact e) f (t.over hD nD)
theorem VsH.get {X:Addr->Prop} {H:Hp}:∀ {vs:List V} {ws:List (Int × List Int)} {i:Nat} {v:V},VsH X H vs ws->vs[i]? = some v->∃ p l s row,v=.ref p/\ws[i]? = some (s,row)/\H p=some (.tup [.int s,.ref l])/\H l=some (.lst (row.map V.int))/\X l
 | _,_,_,_,.nil,e=>by simp at e
 | _,_,0,_,.cons h e' f _,e=>by cases e;exact ⟨_,_,_,_,rfl,rfl,h,e',f⟩
 | _,_,i+1,_,.cons _ _ _ t,e=>t.get (i:=i) (by simpa using e)
theorem VsH.to {X Y:Addr->Prop} {H:Hp} (h:∀ l,X l->Y l):∀ {vs:List V} {ws:List (Int × List Int)},VsH X H vs ws->VsH Y H vs ws
 | _,_,.nil=>.nil
 | _,_,.cons a b c t=>.cons a b (h _ c) (t.to h)
def aO2 (N i:Nat) (L:List Rat):Int × List Int:=(((t4 L:Nat):Int),z7 (t4 L) L ++ (z0e N).map λt=>if i=t then ((t4 L:Nat):Int) else 0)
def ah6 (M:List (List Rat)):List (Int × List Int):=M.mapIdx λi L=>aO2 M.length i L
def aR9 (K:q0a):Sp:=λvs H Q _ => ∃ (a:Addr) (ts:List Addr) (M:List (List Rat)),vs=[.ref a]/\H a=some (.lst (ts.map V.ref))/\Rws H ts M/\M.length<=7/\(∀ L ∈ M,L.length=M.length/\ClN 6000 L)/\∀ r us H',c5 H H'->H r=none->H' r=some (.lst us)->VsH (λl=>H l=none/\l ≠ r) H' us (ah6 M)->Q (.ref r) H'
abbrev L8:Stmt:=top 36
theorem E1:j1 ["form","vectors","place","numbers","wholes","bottom"] ["form"] (b9 L8):=by and_intros
theorem au2 {f f1:Addr} (d:Df K mg "vectors_of" L8 ["form"] f) (G_cleared:Def P w K mg base CX0 2 "cleared" f1 ["numbers"] (aw1 K)) (n_enumerate:mg "enumerate" = none) (n_range:mg "range" = none) (n_len:mg "len" = none):Def P w K mg base CX0 3 "vectors_of" f ["form"] (aR9 K):=by
 refine d.ok (N:=["form","vectors","place","numbers","wholes","bottom"]) E1 (by rintro vs H Q E ⟨_,_,_,h,_⟩;rw [h];rfl) (λcdv A outer s H vs Q E hr h=>?_)
 obtain ⟨a,ts,M,rfl,ea,rw',m7,hM,k⟩:=h;have hu:=hr.units
 refine ⟨_,(b8 (i8 (i:=1) E1.nd rfl (q0y rfl) (F8 a8))
   (b8 (C6 PassesOwn.never rfl (ap5 rfl n_enumerate (a7 (pv 0) a8)) (show PG _ _ (E9 K 2 (k6 (k9 2) (k6 (k9 3) F2))) from by (refine w5 (n:=2) ?_ ?_ ?_ ?_;rfl;(refine d7 ?_ ?_ ?_;(exact (c6 (i:=2) E1.nd rfl (z0z rfl)));(refine d7 ?_ ?_ ?_;(exact (c6 (i:=3) E1.nd rfl (q0y rfl)));(exact p4);rfl);rfl);rfl;rfl)) (b8 (F7 (d6 G_cleared hr (a7 (pv 3) a8) j0) (show PG _ _ (E9 K 2 (k6 (k9 4) (k6 (k9 5) F2))) from by (refine w5 (n:=2) ?_ ?_ ?_ ?_;rfl;(refine d7 ?_ ?_ ?_;(exact (c6 (i:=4) E1.nd rfl (q0y rfl)));(refine d7 ?_ ?_ ?_;(exact (c6 (i:=5) E1.nd rfl (z0z rfl)));(exact p4);rfl);rfl);rfl;rfl)))
   (c4 (Z4 (R4 PySem.F.plainAttrs_list PySem.F.slot_list_append PySem.F.type_list_append B9 (pv 1) (a7 (m5 (a7 (pv 5) (a7 (i7 V6 (pv 4) (w8 (Nc:=["place","bottom","other"]) (caps:=[some 2,some 5,none]) rfl (J3.of (osc:=b9 L8) (N:=["form","vectors","place","numbers","wholes","bottom"]) (ks:=["place","bottom"]) rfl rfl rfl rfl (j5 rfl (j5 rfl l9)) (by decide +kernel)) (o0 rfl n_range (a7 (h8 k8 rfl n_len (by decide +kernel) (a7 (pv 0) a8)) a8)) (λC s₂ H₂ fp pins=>(c6 (i:=2) (show z0t (["place","bottom","other"]:List Str) by decide +kernel) rfl (q0y rfl) (z0z rfl))) (λC s₂ H₂ fp pins=>(aE2 (l5 X4 (pv 0) (pv 2) (j9 _)) (pv 1) b7)))) a8))) a8))))))
   (c4 (i9 (pv 1))))),?_⟩
 rw [show start ["form","vectors","place","numbers","wholes","bottom"] [.ref a]=[some (.ref a),none,none,none,none,none] from rfl]
 have lts:=rw'.length;refine c9 (λσ H1 => ∃ lv,σ=[some (.ref a),some (.ref lv),none,none,none,none]/\c5 H H1/\H lv=none/\H1 lv=some (.lst [])) (λN hN=>?_) ?_
 ·subst_eqs
  exact ⟨by decide,λp hp=>hN _ _ ⟨p,rfl,c5.new hp _,hp,a9⟩⟩
 rintro σ H1 ⟨lv,rfl,S1,flv,ev⟩;obtain ⟨I,hI⟩:∃ I:Nat->L2.St->Hp->Prop,∀ i σ H2,I i σ H2 ↔ ∃ o2 o3 o4 o5 us,σ=[some (.ref a),some (.ref lv),o2,o3,o4,o5]/\c5 H H2/\H2 lv=some (.lst us)/\VsH (λl=>H l=none/\l ≠ lv) H2 us ((ah6 M).take i):=⟨_,λ_ _ _=>Iff.rfl⟩;refine c9 (λσ H2=>I ts.length σ H2) (λN hN=>?_) ?_
 ·refine ⟨_,rfl,a,rfl,⟨_,SqL.of (S1 _ _ ea)⟩,aj1 (ts.map V.ref) I ((hI _ _ _).mpr ⟨_,_,_,_,[],rfl,S1,ev,.nil⟩) (by intro i σ H2 h;obtain ⟨_,_,_,_,_,_,s2,_⟩:=(hI _ _ _).mp h;exact SqL.of (s2 _ _ ea)) ?_ (λσ H2 h=>hN _ _ (by rw [q0b] at h;exact h))⟩
  intro i x σ H2 pe hx h hpe;obtain ⟨o2,o3,o4,o5,us,rfl,s2,e2,v2⟩:=(hI _ _ _).mp h;rw [q0f] at hx
  cases ht:ts[i]? with
  | none=>rw [ht] at hx;cases hx
  | some t =>
   rw [ht] at hx
   cases hx
   have Xe:=c5.new hpe (.tup [.int i,.ref t]);obtain ⟨xs,L,hL,et,nL⟩:=(rw'.same (s2.trans Xe)).get ht;obtain ⟨lL,cl⟩:=hM L (q0j hL);have iM:=(q0h.mp hL).1;refine ⟨pe,_,rfl,SqT.of a9,rfl,_,_,rfl,_,_,rfl,rfl,?_⟩;have e2':=Xe _ _ e2;have v2':=v2.same Xe;have s2':=s2.trans Xe;generalize upd H2 pe (.tup [.int i,.ref t])=H3 at *;simp only [v0v,v0w];refine c9 (λσ H4 => ∃ lw,σ=[some (.ref a),some (.ref lv),some (.int (i:Int)),some (.ref t),some (.ref lw),some (.int ((t4 L:Nat):Int))]/\c5 H3 H4/\H3 lw=none/\H4 lw=some (.lst ((z7 (t4 L) L).map V.int))) (λN hN=>?_) ?_
   ·subst_eqs
    refine ⟨t,xs,L,rfl,SqL.of et,nL.toC,⟨6000,cl,q0k _⟩,⋯,λr l H4 s4 fl er el=>?_⟩;exact ⟨r,rfl,_,SqT.of er,rfl,_,_,rfl,_,_,rfl,rfl,hN _ _ ⟨l,rfl,s4,fl,el⟩⟩
   rintro σ H4 ⟨lw,rfl,s4,flw,ew⟩;have S4:=s2'.trans s4
   subst_eqs
   have la:(ts.map V.ref).length=M.length:=by rw [q0b];exact lts
   refine ⟨.inl ⟨_,SqL.of (s4 _ _ e2')⟩,_,.inl (SqL.of (S4 _ _ ea)),by rw [la];omega,by rw [la];omega,λD hD=>?_⟩
   obtain ⟨zs,hzs⟩:∃ zs:List Int,zs=(z0e M.length).map λt=>if i=t then ((t4 L:Nat):Int) else 0:=⟨_,rfl⟩;have lz:zs.length=M.length:=by rw [hzs,q0b,z0j]
   rw [la,show ((M.length:Int)).toNat=M.length by omega]
   refine G0 (λj σ H5 => ∃ o,σ=[some (.int (i:Int)),some (.int ((t4 L:Nat):Int)),o]/\c5 H4 H5/\H5 D=some (.lst ((zs.take j).map V.int))) ⟨_,rfl,c5.new hD _,a9⟩ ?_ ?_
   ·rintro j σ H5 hj ⟨o,rfl,s5,e5⟩
    have gz:zs[j]? = some (if i=j then ((t4 L:Nat):Int) else 0):=by rw [hzs,q0f,z0m hj];rfl
    have fin:∀ v:Int,v=(if i=j then ((t4 L:Nat):Int) else 0)->r6 D M.length (λj σ H5 => ∃ o,σ=[some (.int (i:Int)),some (.int ((t4 L:Nat):Int)),o]/\c5 H4 H5/\H5 D=some (.lst ((zs.take j).map V.int))) j [some (.int (i:Int)),some (.int ((t4 L:Nat):Int)),some (.int (0+(j:Int)))] (.int v) H5:=λv hv=>by
     refine r6.mk hj e5 (t5 (by rw [q0b,q0x];omega)) ⟨_,rfl,s5.over hD _,?_⟩
     rw [a9,d9 gz,j0v,hv];rfl
    subst_eqs
    refine ⟨rfl,A9 (λh=>fin _ ?_) (λh=>fin _ ?_)⟩
    ·rw [if_pos ⋯]
    ·rw [if_neg ⋯]
   ·rintro σ H5 ⟨o,rfl,s5,e5⟩
    rw [v0c ⋯] at e5;have S5:=S4.trans s5;have e25:=s5 _ _ (s4 _ _ e2');refine ⟨D,rfl,_,s5 _ _ ew,_,e5,q0p (show _<=100 by rw [q0b,q0b];have:(z7 (t4 L) L).length=L.length:=q0b _;omega) (by decide),λp hp=>⟨u0,λp1 hp1=>?_⟩⟩
    have X1:=c5.new hp (.lst ((z7 (t4 L) L).map V.int ++ zs.map V.int))
    have g1:upd H5 p (.lst ((z7 (t4 L) L).map V.int ++ zs.map V.int)) p=some (.lst ((aO2 M.length i L).2.map V.int)):=by
     rw [a9];unfold aO2;rw [<- hzs,j0v]
    generalize upd H5 p (.lst ((z7 (t4 L) L).map V.int ++ zs.map V.int))=H6 at *;have X2:=c5.new hp1 (.tup [.int ((t4 L:Nat):Int),.ref p]);have g2:upd H6 p1 (.tup [.int ((t4 L:Nat):Int),.ref p]) p1=some (.tup [.int (aO2 M.length i L).1,.ref p]):=a9;generalize upd H6 p1 (.tup [.int ((t4 L:Nat):Int),.ref p])=H7 at *;have S7:=S5.trans (X1.trans X2);have e7:=(X1.trans X2) _ _ e25;have v7:=v2'.same (s4.trans (s5.trans (X1.trans X2)));have plv:p ≠ lv:=(c7 e25 hp).symm;have p1lv:p1 ≠ lv:=(c7 (X1 _ _ e25) hp1).symm;have Hp:H p=none:=S5.free hp;have gv:(ah6 M)[i]? = some (aO2 M.length i L):=by unfold ah6;rw [m0m,hL];rfl
    have lus:=v2'.length;refine ⟨us,e7,t5 (by rw [lus,q0x];omega),(hI _ _ _).mpr ⟨_,_,_,_,_,rfl,S7.over flv _,a9,?_⟩⟩
    rw [d9 gv];exact VsH.snoc (by rw [c8 p1lv];exact g2) (by rw [c8 plv];exact X2 _ _ g1) ⟨Hp,plv⟩ (v7.over e7 λl hl=>hl.2)
 rintro σ H2 h;obtain ⟨o2,o3,o4,o5,us,rfl,s2,e2,v2⟩:=(hI _ _ _).mp h;rw [lts,show M.length=(ah6 M).length by unfold ah6;rw [List.length_mapIdx],y0p] at v2
 subst_eqs
 exact k lv us H2 s2 flv e2 v2
theorem aY9 {H:Hp} {a:Addr} (o:HO) (h:H a=none):∃ H',H'=upd H a o/\c5 H H'/\H' a=some o:=⟨_,rfl,c5.new h o,a9⟩
theorem U1 {K:q0a} {H:Hp} {a:Addr} {xs:List V} {lo hi:Option Int} {Q:VK} (e:SqL K H a xs) (k:∀ p H',H p=none->c5 H H'->H' p=some (.lst (aC1 xs lo hi))->Q (.ref p) H'):aH3 K (.ref a) lo hi H Q:=⟨a,xs,rfl,e,λp hp=>k p _ hp (c5.new hp _) a9⟩
theorem ad7 {H:Hp} {l b:Addr} {xs zs:List V} {Q:VK} (e1:H l=some (.lst xs)) (e2:H b=some (.lst zs)) (z:xs.length+zs.length<=sizeLine) (k:∀ p H',H p=none->c5 H H'->H' p=some (.lst (xs ++ zs))->Q (.ref p) H'):aY3 (.ref l) (.ref b) H Q:=⟨l,b,xs,zs,rfl,rfl,e1,e2,z,λp hp=>k p _ hp (c5.new hp _) a9⟩
structure Led (M M':List (List Int)) (k n m:Nat):Prop where
 len:M'.length=n
 row:∀ L ∈ M',L.length=m
 top:zz M' k k ≠ 0
 bit:∀ W,(∀ L ∈ M,∀ v ∈ L,j0m v<2 ^ W)->∀ L ∈ M',∀ v ∈ L,j0m v<2 ^ W
 alt:M'=M \/ ∃ s,k<s/\s<n/\∀ i j,zz M' i j=if i=k then zz M s j else if i=s then-zz M k j else zz M i j
def aL5 (K:q0a):Sp:=λvs H Q _ => ∃ (a b:Addr) (L C:List Int) (k:Nat) (dv:Int) (W:Nat),vs=[.ref a,.ref b,.int k,.int dv]/\SqL K H a (L.map V.int)/\SqL K H b (C.map V.int)/\L.length=C.length/\k<L.length/\L.length<=60/\dv ≠ 0/\dv.natAbs<2 ^ W/\(∀ v ∈ L,j0m v<2 ^ W)/\(∀ v ∈ C,j0m v<2 ^ W)/\W<=8900 /\
 ∀ r T H',c5 H H'->H r=none->H' r=some (.lst (T.map V.int))->T.length=L.length->(∀ j,j<T.length->aZ T j=(aZ C k*aZ L j-aZ L k*aZ C j).fdiv dv)->Q (.ref r) H'
abbrev X0:Stmt:=top 34
theorem ag6:j1 ["row","chosen","at","before","lead","own"] ["row","chosen","at","before"] (b9 X0):=by and_intros
theorem aI3 {f:Addr} (d:Df K mg "cleaned" X0 ["row","chosen","at","before"] f) (n_zip:mg "zip" = none):Def P w K mg base CX0 1 "cleaned" f ["row","chosen","at","before"] (aL5 K):=by
  refine d.ok (N:=["row","chosen","at","before","lead","own"]) ag6 (by rintro vs H Q E ⟨_,_,_,_,_,_,_,h,_⟩;rw [h];rfl) (λcdv A outer s H vs Q E hr h=>?_)
  obtain ⟨a,b,R,F,k,dv,W,rfl,hR,hF,lF,kl,l60,d0,db,wR,wF,hW,kk⟩:=h
  refine ⟨_, (b8 (F7 (m5 (a7 (d8 i6 (pv 1) (pv 2) (fun _ _ => rfl)) (a7 (d8 i6 (pv 0) (pv 2) (fun _ _ => rfl)) a8))) (show PG _ _ (E9 K 2 (k6 (k9 4) (k6 (k9 5) F2))) from by (refine w5 (n := 2) ?_ ?_ ?_ ?_; rfl; (refine d7 ?_ ?_ ?_; (exact (c6 (i := 4) ag6.nd rfl (Or.inr rfl))); (refine d7 ?_ ?_ ?_; (exact (c6 (i := 5) ag6.nd rfl (Or.inr rfl))); (exact p4); rfl); rfl); rfl; rfl)))
      (c4 (i9 (w8 (Nc:=["own","lead","before","whole","other"]) (caps:=[some 5,some 4,some 3,none,none]) rfl (J3.of (osc:=b9 X0) (N:=["row","chosen","at","before","lead","own"]) (ks:=["own","lead","before"]) rfl rfl rfl rfl (j5 rfl (j5 rfl (j5 rfl l9))) (by decide +kernel)) (aq5 rfl n_zip (a7 (pv 0) (a7 (pv 1) a8))) (λC s₂ H₂ fp pins=>(show PG _ _ (E9 K 2 (k6 (k9 3) (k6 (k9 4) F2))) from by (refine w5 (n:=2) ?_ ?_ ?_ ?_;rfl;(refine d7 ?_ ?_ ?_;(exact (c6 (i:=3) (show List.Nodup (["own","lead","before","whole","other"]:List Str) by decide +kernel) rfl (Or.inl rfl) (Or.inr rfl)));(refine d7 ?_ ?_ ?_;(exact (c6 (i:=4) (show List.Nodup (["own","lead","before","whole","other"]:List Str) by decide +kernel) rfl (Or.inl rfl) (Or.inr rfl)));(exact p4);rfl);rfl);rfl;rfl))) (λC s₂ H₂ fp pins=>(i7 A7 (i7 ac3 (i7 q8 (pv 1) (pv 3)) (i7 q8 (pv 0) (pv 4))) (pv 2))))))),?_⟩
  rw [show start ["row","chosen","at","before","lead","own"] [.ref a,.ref b,.int k,.int dv]=[some (.ref a),some (.ref b),some (.int k),some (.int dv),none,none] from rfl]
  have get':∀ {G:List Int} {i:Nat},i<G.length->(G.map V.int)[i]? = some (.int (aZ G i)):=fun {G i} h=>by
    unfold aZ;rw [List.getElem?_map,List.getElem?_eq_getElem h];rfl
  obtain ⟨tf,htf⟩:∃ tf:Nat->Int,∀ j,tf j=(aZ F k*aZ R j-aZ R k*aZ F j).fdiv dv:=⟨_,λ_=>rfl⟩
  subst_eqs
  refine ⟨_,hF,_,j3 (get' ⋯),_,hR,_,j3 (get' kl),u0,λp hp=>?_⟩;obtain ⟨H3,y,X,g3⟩:=aY9 (.tup [V.int (aZ F k),V.int (aZ R k)]) hp;rw [<- y];have R3:=X.seq hR;have F3:=X.seq hF;refine ⟨_,SqT.of g3,rfl,_,_,rfl,_,_,rfl,rfl,⟨_,R3⟩,⟨_,F3⟩,λD hD=>?_⟩;have mb:min (R.map V.int).length (F.map V.int).length=R.length:=by rw [List.length_map,List.length_map,<- lF,Nat.min_self]
  refine aC0 (R.map V.int) (F.map V.int) (λi σ H4 => ∃ o1 o2,σ=[some (V.int (aZ R k)),some (V.int (aZ F k)),some (V.int dv),o1,o2]/\c5 H3 H4/\H4 D=some (.lst (((List.range i).map tf).map V.int))) ⟨_,_,rfl,c5.new hD _,a9⟩ (by rintro i σ H4 ⟨_,_,_,s4,_⟩;exact ⟨s4.seq R3,s4.seq F3⟩) ?_ ?_
  · rintro i x y σ H4 q hx hy ⟨o1,o2,rfl,s4,e4⟩ hq
    have hi:i<R.length:=by
      have:=(List.getElem?_eq_some_iff.mp hx).1;rw [List.length_map] at this;exact this
    rw [get' hi] at hx;rw [get' ⋯] at hy
    cases hx
    cases hy
    have T:=c5.new hq (.tup [.int (aZ R i),.int (aZ F i)]);have eT:=T _ _ e4
    subst_eqs
    refine ⟨_,SqT.of a9,rfl,_,_,rfl,_,_,rfl,rfl,?_⟩;refine ⟨_,rfl,L6 (aN9 wF k) (aN9 wR _) ⋯,_,rfl,L6 (aN9 wR k) (aN9 wF _) ⋯,Y1 d0 (ai8 db ⋯),?_⟩;rw [mb];refine r6.mk hi eT ?_ ⟨_,_,rfl,(s4.trans T).over hD _,?_⟩
    · rw [List.length_map,List.length_map,List.length_range]
      exact Nat.lt_of_lt_of_le (show i<100 by omega) (by decide)
    · rw [a9,List.range_succ,List.map_append,List.map_append,<- htf];rfl
  · rintro σ H4 ⟨o1,o2,rfl,s4,e4⟩
    rw [mb] at e4;refine kk D ((List.range R.length).map tf) H4 (X.trans s4) (X.free hD) e4 (by rw [List.length_map,List.length_range]) λj hj=>?_
    rw [List.length_map,List.length_range] at hj;rw [<- htf];unfold aZ;rw [List.getElem?_map,List.getElem?_range hj];rfl
theorem bb8 {bf:Int} {at':Nat} {ra row T:List Int} (hl:row.length=ra.length) (lT:T.length=row.length) (h:∀ j,j<T.length->aZ T j=(aZ ra at'*aZ row j-aZ row at'*aZ ra j).fdiv bf):T=g0n (λw o=>(aZ ra at'*w-aZ row at'*o).fdiv bf) row ra:=by
 refine List.ext_getElem (by rw [y0z];omega) λj h1 h2=>?_
 have:=h j h1;unfold aZ at this;rw [q0c h1,q0c (l:=row) (i:=j) ⋯,q0c (l:=ra) (i:=j) ⋯] at this;rw [List.getElem_zipWith];exact this
def bf6 (K:q0a):Sp:=λvs H Q _ => ∃ (a:Addr) (us:List V) (ws:List (Int × List Int)) (X:Addr->Prop) (at':Nat) (bf sa:Int) (ra:List Int) (W:Nat),vs=[.ref a,.int at',.int bf]/\H a=some (.lst us)/\VsH X H us ws/\ws[at']? = some (sa,ra)/\at'<ra.length/\ra.length<=30/\ws.length<=30/\(∀ (i:Nat) (s:Int) (row:List Int),ws[i]? = some (s,row)->row.length=ra.length/\∀ j,(aZ row j).natAbs<2 ^ W)/\bf ≠ 0/\bf.natAbs<2 ^ W/\W<=8900/\∀ r us' H',c5 H H'->H r=none->H' r=some (.lst us')->VsH (λl=>H l=none/\l ≠ r) H' us' (upV bf at' ra ws)->Q (.ref r) H'
abbrev P2:Stmt:=top 39
theorem B3:j1 ["vectors","at","before","chosen","found","place","scale","row","line"] ["vectors","at","before"] (b9 P2):=by and_intros
theorem au3 {f f1:Addr} (d:Df K mg "upright_to" P2 ["vectors","at","before"] f) (G_cleaned:Def P w K mg base CX0 1 "cleaned" f1 ["row","chosen","at","before"] (aL5 K)) (n_enumerate:mg "enumerate" = none):Def P w K mg base CX0 2 "upright_to" f ["vectors","at","before"] (bf6 K):=by
  refine d.ok (N:=["vectors","at","before","chosen","found","place","scale","row","line"]) B3 (by rintro vs H Q E ⟨_,_,_,_,_,_,_,_,_,h,_⟩;rw [h];rfl) (λcdv A outer s H vs Q E hr h=>?_)
  obtain ⟨a,us,ws,X,at',bf,sa,ra,W,rfl,ea,hv,hat,ar,r30,w30,hrow,b0,bb,W8,k⟩:=h;have hu:=hr.units
  refine ⟨_, (b8 (i8 (i := 3) B3.nd rfl (Or.inl rfl) (d8 j8 (d8 i6 (pv 0) (pv 1) (fun _ _ => rfl)) b7 (fun _ _ => rfl)))
      (b8 (i8 (i:=4) B3.nd rfl (Or.inl rfl) (F8 a8))
      (b8 (C6 PassesOwn.never rfl (ap5 rfl n_enumerate (a7 (pv 0) a8)) (show PG _ _ (E9 K 2 (k6 (k9 5) (k6 (E9 K 2 (k6 (k9 6) (k6 (k9 7) F2))) F2))) from by (refine w5 (n:=2) ?_ ?_ ?_ ?_;rfl;(refine d7 ?_ ?_ ?_;(exact (c6 (i:=5) B3.nd rfl (Or.inl rfl)));(refine d7 ?_ ?_ ?_;(refine w5 (n:=2) ?_ ?_ ?_ ?_;rfl;(refine d7 ?_ ?_ ?_;(exact (c6 (i:=6) B3.nd rfl (Or.inl rfl)));(refine d7 ?_ ?_ ?_;(exact (c6 (i:=7) B3.nd rfl (Or.inl rfl)));(exact p4);rfl);rfl);rfl;rfl);(exact p4);rfl);rfl);rfl;rfl)) (c4 (z9 (l5 af9 (pv 5) (pv 1) (j9 _)) (b8 (i8 (i:=8) B3.nd rfl (Or.inl rfl) (d6 G_cleaned hr (a7 (pv 7) (a7 (pv 3) (a7 (pv 1) (a7 (pv 2) a8)))) j0))
      (c4 (Z4 (R4 PySem.F.plainAttrs_list PySem.F.slot_list_append PySem.F.type_list_append B9 (pv 4) (a7 (m5 (a7 (pv 6) (a7 (i7 V6 (O5 U0 (pv 8) V2 (V1 (pv 1))) (O5 U0 (pv 8) (V1 (i7 B4 (pv 1) b7)) V2)) a8))) a8))))) m8)))
      (c4 (i9 (pv 4)))))),?_⟩
  rw [show start ["vectors","at","before","chosen","found","place","scale","row","line"] [.ref a,.int at',.int bf]=[some (.ref a),some (.int at'),some (.int bf),none,none,none,none,none,none] from rfl]
  have lus:=hv.length;have hatl:=(List.getElem?_eq_some_iff.mp hat).1;obtain ⟨va,hva⟩:∃ v,us[at']? = some v:=⟨_,List.getElem?_eq_getElem ⋯⟩;obtain ⟨pa,la,sa',ra',rfl,ga,epa,ela,_⟩:=hv.get hva;rw [hat] at ga
  cases ga
  refine c9 (λσ H1=>σ=[some (.ref a),some (.int at'),some (.int bf),some (.ref la),none,none,none,none,none]/\H1=H) (λN hN=>?_) ?_
  · subst_eqs
    exact ⟨_,SqL.of ea,_,j3 hva,pa,rfl,_,SqT.of epa,_,rfl,hN _ _ ⟨rfl,rfl⟩⟩
  rintro σ H1 ⟨rfl,rfl⟩;refine c9 (λσ H2 => ∃ lf,σ=[some (.ref a),some (.int at'),some (.int bf),some (.ref la),some (.ref lf),none,none,none,none]/\c5 H1 H2/\H1 lf=none/\H2 lf=some (.lst [])) (λN hN=>?_) ?_
  · subst_eqs
    exact ⟨by decide,λp hp=>hN _ _ ⟨p,rfl,c5.new hp _,hp,a9⟩⟩
  rintro σ H2 ⟨lf,rfl,S2,flf,elf⟩;have lu:=ap4 (bf:=bf) (ra:=ra) hatl;obtain ⟨I,hI⟩:∃ I:Nat->L2.St->Hp->Prop,∀ i σ H3,I i σ H3 ↔ ∃ o5 o6 o7 o8 fs,σ=[some (.ref a),some (.int at'),some (.int bf),some (.ref la),some (.ref lf),o5,o6,o7,o8]/\c5 H1 H3/\H3 lf=some (.lst fs)/\VsH (λl=>H1 l=none/\l ≠ lf) H3 fs ((upV bf at' ra ws).take (if i<=at' then i else i-1)):=⟨_,λ_ _ _=>Iff.rfl⟩;refine c9 (λσ H3=>I us.length σ H3) (λN hN=>?_) ?_
  · refine ⟨_,rfl,a,rfl,⟨_,SqL.of (S2 _ _ ea)⟩,aj1 us I ((hI _ _ _).mpr ⟨_,_,_,_,[],rfl,S2,elf,by rw [if_pos (Nat.zero_le _)];exact .nil⟩) (by intro i σ H3 h;obtain ⟨_,_,_,_,_,_,s3,_⟩:=(hI _ _ _).mp h;exact SqL.of (s3 _ _ ea)) ?_ (λσ H3 h=>hN _ _ h)⟩
    intro i x σ H3 pe hx h hpe;obtain ⟨o5,o6,o7,o8,fs,rfl,s3,e3,v3⟩:=(hI _ _ _).mp h;have Xe:=c5.new hpe (.tup [.int i,x]);obtain ⟨p,l,s,row,rfl,gi,ep,el,_⟩:=(hv.same (s3.trans Xe)).get hx;have hi:=(List.getElem?_eq_some_iff.mp hx).1;obtain ⟨lr,br⟩:=hrow _ _ _ gi;refine ⟨pe,_,rfl,SqT.of a9,rfl,_,_,rfl,_,_,rfl,p,_,rfl,SqT.of ep,rfl,_,_,rfl,_,_,rfl,rfl,rfl,?_⟩;have e3':=Xe _ _ e3;have v3':=v3.same Xe;have s3':=s3.trans Xe;have lfs:=v3.length;generalize upd H3 pe (.tup [.int i,.ref p])=H4 at *;simp only [List.set_cons_zero,List.set_cons_succ];simp only [aD6,au0,Q6,K4,aF6,tSl,al9,T8,U9,an3,A5,List.map_cons,List.map_nil,Option.bind_none,Option.bind_some,Option.join_some,ay5,aC8,aD1,tOr,aC6,al8,tB,tOp,tUn,aD0,tBM,Y5,tC,tCB,ay6,ao6,k9,ap3,E9,k6,F2,T9,ao5,ay7,aC5,aC7,tIf,am3,am0,at5,Y6,am2,am1,ab0,aa9,rI,rI0,rU,U8,Z3,au1,aa4,rEq,rNe,ab9,ab8,ab7,aD7,an2,an1,aa7,ad4,cxR,cxX,Cx.nox,Cx.wish,Cx.body,Cx.suite,List.getElem?_cons_zero,List.getElem?_cons_succ,List.set_cons_zero,List.set_cons_succ,Option.some.injEq,V.int.injEq,V.bl.injEq,V.ref.injEq,V.str.injEq,exists_eq_left',exists_eq_left,exists_and_left,true_and,and_true,List.cons.injEq,reduceCtorEq,Bool.false_eq_true,if_false,if_true,exists_const,↓reduceIte,tyV,List.length_cons,List.length_nil,exists_eq,List.append_nil,List.cons_append,List.nil_append,decide_eq_true_eq,not_true_eq_false,not_false_eq_true,Bool.not_eq_true',decide_eq_false_iff_not,Bool.not_true,Bool.not_false,and_assoc,false_and,false_or,or_false];refine ⟨rfl,A9 (λhne=>?_) (λhne=>?_)⟩
    · have hne':i ≠ at':=λz=>hne (by rw [z])
      refine ⟨l,la,row,ra,at',bf,W,rfl,SqL.of el,SqL.of (s3' _ _ ela),lr,⋯,⋯,b0,bb,as9 (br),as9 ((hrow _ _ _ hat).2),W8,λr T H5 s5 f5 e5 lT hT=>?_⟩;have eT:=bb8 (bf:=bf) lr lT hT;have S5:=s3'.trans s5;have e35:=s5 _ _ e3';refine ⟨.inl ⟨_,SqL.of e35⟩,U1 (SqL.of e5) λq1 H6 f6 s6 e6=>U1 (SqL.of (s6 _ _ e5)) λq2 H7 f7 s7 e7=>ad7 (s7 _ _ e6) e7 ?_ λq3 H8 f8 s8 e8=>⟨u0,λp1 hp1=>?_⟩⟩
      · exact Nat.le_trans (Nat.add_le_add (ad6 _ _ _) (ad6 _ _ _)) (Nat.le_trans (show _<=100 by rw [List.length_map];omega) (by decide))
      rw [as7 _ (by rw [List.length_map];omega),show ((at':Int)+1)=((at'+1:Nat):Int) by omega,ad5 _ (by rw [List.length_map];omega),<- List.map_take,<- List.map_drop,<- List.map_append,eT] at e8
      have e8':H8 q3=some (.lst ((upL bf at' ra row).map V.int)):=e8;have X1:=c5.new hp1 (.tup [.int s,.ref q3]);have g1:upd H8 p1 (.tup [.int s,.ref q3]) p1=some (.tup [.int s,.ref q3]):=a9;generalize upd H8 p1 (.tup [.int s,.ref q3])=H9 at *;have S59:=s6.trans (s7.trans (s8.trans X1));have e39:=S59 _ _ e35;have v39:=v3'.same (s5.trans S59);have q3f:q3 ≠ lf:=(c7 ((s6.trans s7) _ _ e35) f8).symm;have p1f:p1 ≠ lf:=(c7 ((s6.trans (s7.trans s8)) _ _ e35) hp1).symm;have Hq3:H1 q3=none:=S5.free (s6.free (s7.free f8))
      obtain ⟨j,hj,sj⟩:∃ j,(if i<=at' then i else i-1)=j/\sk at' j=i:=by
        by_cases y:i<at'
        · exact ⟨i,if_pos ⋯,if_pos y⟩
        · exact ⟨i-1,if_neg ⋯,by unfold sk;rw [if_neg ⋯];omega⟩
      have gj:(upV bf at' ra ws)[j]? = some (s,upL bf at' ra row):=by
        unfold upV;rw [List.getElem?_map,aB9 _ hatl,sj,gi];rfl
      have nx:(if i+1<=at' then i+1 else i+1-1)=j+1:=by
        rw [<- hj]
        by_cases y:i<at'
        · rw [if_pos ⋯,if_pos ⋯]
        · rw [if_neg ⋯,if_neg ⋯];omega
      refine ⟨fs,e39,t5 (by rw [lfs,List.length_take];omega),(hI _ _ _).mpr ⟨_,_,_,_,_,rfl,(S5.trans S59).over flf _,a9,?_⟩⟩
      rw [nx,d9 gj];rw [hj] at v39;exact VsH.snoc (by rw [c8 p1f];exact g1) (by rw [c8 q3f];exact X1 _ _ e8') ⟨Hq3,q3f⟩ (v39.over e39 λl hl=>hl.2)
    · have hie : i = at' := by
        have:V.int (i:Int)=V.int (at':Int):=by simpa using hne
        have:=V.int.inj this;omega
      refine (hI _ _ _).mpr ⟨_,_,_,_,_,rfl,s3',e3',?_⟩;rw [if_pos ⋯] at v3';rw [if_neg ⋯,Nat.add_sub_cancel];exact v3'
  rintro σ H3 h;obtain ⟨o5,o6,o7,o8,fs,rfl,s3,e3,v3⟩:=(hI _ _ _).mp h;rw [lus,if_neg ⋯,show ws.length-1=(upV bf at' ra ws).length by omega,List.take_length] at v3
  subst_eqs
  exact k lf fs H3 s3 flf e3 v3
theorem VsH.set {X:Addr->Prop} {H:Hp} {p l:Addr} {s:Int} {row:List Int} (h:H p=some (.tup [.int s,.ref l])) (e:H l=some (.lst (row.map V.int))) (f:X l):∀ {vs:List V} {ws:List (Int × List Int)} (i:Nat),VsH X H vs ws->VsH X H (vs.set i (.ref p)) (ws.set i (s,row))
 | _,_,_,.nil=>.nil
 | _,_,0,.cons _ _ _ t=>.cons h e f t
 | _,_,i+1,.cons h' e' f' t=>.cons h' e' f' (t.set h e f i)
theorem aU7 {sa sb:Int} (ha:0<sa) (hb:0<sb):((q0s sa sb:Nat):Int) ≠ 0/\sb.fdiv (q0s sa sb)*sa=sa.fdiv (q0s sa sb)*sb/\0<sb.fdiv (q0s sa sb)/\0<sa.fdiv (q0s sa sb)/\sb.fdiv (q0s sa sb)<=sb/\sa.fdiv (q0s sa sb)<=sa/\∀ Bt:Nat,sa ∣ (Bt:Int)->sb ∣ (Bt:Int)->sb.fdiv (q0s sa sb)*sa ∣ (Bt:Int):=by
 have g0:((q0s sa sb:Nat):Int) ≠ 0:=λz=>by
  have:q0s sa sb=0:=⋯;have:=(Int.gcd_eq_zero_iff.mp this).1;omega
 obtain ⟨u,hu⟩:=v0j sa sb;obtain ⟨v,hv⟩:=v0e sa sb
 have eu:sa.fdiv (q0s sa sb)=u:=by
  conv=>lhs;arg 1;rw [hu]
  exact m4 g0
 have ev:sb.fdiv (q0s sa sb)=v:=by
  conv=>lhs;arg 1;rw [hv]
  exact m4 g0
 rw [eu,ev];obtain ⟨g,hg⟩:∃ g:Int,g=((q0s sa sb:Nat):Int):=⟨_,rfl⟩;have gp:0<g:=⋯;rw [<- hg] at hu hv
 have u1:0<u:=Classical.byContradiction λz=>by
  have:g*u<=g*0:=g0b ⋯ ⋯;omega
 have v1:0<v:=Classical.byContradiction λz=>by
  have:g*v<=g*0:=g0b ⋯ ⋯;omega
 have ul:u<=sa:=by
  have:1*u<=g*u:=u0z ⋯ ⋯;omega
 have vl:v<=sb:=by
  have:1*v<=g*v:=u0z ⋯ ⋯;omega
 refine ⟨g0,by rw [hu,hv];grind,v1,u1,vl,ul,λBt da db=>?_⟩
 have hl:v*sa=((Int.lcm sa sb:Nat):Int):=by
  have h1:=Int.gcd_mul_lcm sa sb
  have h2:g*((Int.lcm sa sb:Nat):Int)=sa*sb:=by
   rw [hg,<- j0h,h1,j0h,m0n ⋯,m0n ⋯]
  have h3:g*(v*sa)=g*((Int.lcm sa sb:Nat):Int):=by rw [h2,hv];grind
  exact g0h ⋯ h3
 rw [hl];exact j0s.mpr (Int.lcm_dvd da db)
def aK8 (K:q0a):Sp:=λvs H Q _ => ∃ (a:Addr) (us:List V) (ws:List (Int × List Int)) (X:Addr->Prop) (one other:Nat) (sa sb:Int) (ra rb:List Int),vs=[.ref a,.int one,.int other]/\H a=some (.lst us)/\VsH X H us ws/\ws[one]? = some (sa,ra)/\ws[other]? = some (sb,rb)/\one<ra.length/\other<ra.length/\ra.length<=30/\ws.length<=30/\(∀ (i:Nat) (s:Int) (row:List Int),ws[i]? = some (s,row)->row.length=ra.length/\∀ j,(aZ row j).natAbs<2 ^ 6000)/\0<sa/\0<sb/\sa.natAbs<2 ^ 1000/\sb.natAbs<2 ^ 1000/\∀ r us' H',c5 H H'->H r=none->H' r=some (.lst us')->VsH (λl=>H l=none/\l ≠ r) H' us' (au9 (sb.fdiv (q0s sa sb)) (sa.fdiv (q0s sa sb)) one other sa ra rb ws)->Q (.ref r) H'
abbrev ae3:Stmt:=top 37
theorem K0:j1 ["vectors","one","other","shared","total","both","factor","other_factor","scale","row","other_scale","other_row"] ["vectors","one","other"] (b9 ae3):=by and_intros
theorem aT8 {f f1:Addr} (d:Df K mg "mixed" ae3 ["vectors","one","other"] f) (G_common_divisor:Def P w K mg base CX0 1 "common_divisor" f1 ["one","other"] at6) (n_zip:mg "zip" = none):Def P w K mg base CX0 2 "mixed" f ["vectors","one","other"] (aK8 K):=by
  refine d.ok (N:=["vectors","one","other","shared","total","both","factor","other_factor","scale","row","other_scale","other_row"]) K0 (by rintro vs H Q E ⟨_,_,_,_,_,_,_,_,_,_,h,_⟩;rw [h];rfl) (λcdv A outer s H vs Q E hr h=>?_)
  obtain ⟨a,us,ws,X,one,other,sa,sb,ra,rb,rfl,ea,hv,g1,g2,ol,tl,r30,w30,hrow,sa0,sb0,sab,sbb,k⟩:=h;have hu:=hr.units
  refine ⟨_, (b8 (F7 (m5 (a7 (d8 i6 (pv 0) (pv 1) (fun _ _ => rfl)) (a7 (d8 i6 (pv 0) (pv 2) (fun _ _ => rfl)) a8))) (show PG _ _ (E9 K 2 (k6 (E9 K 2 (k6 (k9 8) (k6 (k9 9) F2))) (k6 (E9 K 2 (k6 (k9 10) (k6 (k9 11) F2))) F2))) from by (refine w5 (n := 2) ?_ ?_ ?_ ?_; rfl; (refine d7 ?_ ?_ ?_; (refine w5 (n := 2) ?_ ?_ ?_ ?_; rfl; (refine d7 ?_ ?_ ?_; (exact (c6 (i := 8) K0.nd rfl (Or.inl rfl))); (refine d7 ?_ ?_ ?_; (exact (c6 (i := 9) K0.nd rfl (Or.inl rfl))); (exact p4); rfl); rfl); rfl; rfl); (refine d7 ?_ ?_ ?_; (refine w5 (n := 2) ?_ ?_ ?_ ?_; rfl; (refine d7 ?_ ?_ ?_; (exact (c6 (i := 10) K0.nd rfl (Or.inl rfl))); (refine d7 ?_ ?_ ?_; (exact (c6 (i := 11) K0.nd rfl (Or.inl rfl))); (exact p4); rfl); rfl); rfl; rfl); (exact p4); rfl); rfl); rfl; rfl)))
      (b8 (i8 (i:=3) K0.nd rfl (Or.inl rfl) (d6 G_common_divisor hr (a7 (pv 8) (a7 (pv 10) a8)) j0))
      (b8 (F7 (m5 (a7 (i7 A7 (pv 10) (pv 3)) (a7 (i7 A7 (pv 8) (pv 3)) a8))) (show PG _ _ (E9 K 2 (k6 (k9 6) (k6 (k9 7) F2))) from by (refine w5 (n:=2) ?_ ?_ ?_ ?_;rfl;(refine d7 ?_ ?_ ?_;(exact (c6 (i:=6) K0.nd rfl (Or.inr rfl)));(refine d7 ?_ ?_ ?_;(exact (c6 (i:=7) K0.nd rfl (Or.inr rfl)));(exact p4);rfl);rfl);rfl;rfl)))
      (b8 (Q9 (i₀:=4) K0.nd rfl (Or.inl rfl) (Nc:=["other_factor","factor","a","b"]) (caps:=[some 7,some 6,none,none]) rfl (J3.of (osc:=b9 ae3) (N:=["vectors","one","other","shared","total","both","factor","other_factor","scale","row","other_scale","other_row"]) (ks:=["other_factor","factor"]) rfl rfl rfl rfl (j5 rfl (j5 rfl l9)) (by decide +kernel)) (aq5 rfl n_zip (a7 (pv 9) (a7 (pv 11) a8))) (λC s₂ H₂ fp pins=>(show PG _ _ (E9 K 2 (k6 (k9 2) (k6 (k9 3) F2))) from by (refine w5 (n:=2) ?_ ?_ ?_ ?_;rfl;(refine d7 ?_ ?_ ?_;(exact (c6 (i:=2) (show List.Nodup (["other_factor","factor","a","b"]:List Str) by decide +kernel) rfl (Or.inl rfl) (Or.inr rfl)));(refine d7 ?_ ?_ ?_;(exact (c6 (i:=3) (show List.Nodup (["other_factor","factor","a","b"]:List Str) by decide +kernel) rfl (Or.inl rfl) (Or.inr rfl)));(exact p4);rfl);rfl);rfl;rfl))) (λC s₂ H₂ fp pins=>(i7 B4 (i7 q8 (pv 1) (pv 2)) (i7 q8 (pv 0) (pv 3)))))
      (b8 (i8 (i:=5) K0.nd rfl (Or.inl rfl) (i7 V6 (i7 V6 (O5 U0 (pv 0) V2 (V1 (pv 1))) (F8 (a7 (m5 (a7 (i7 q8 (pv 6) (pv 8)) (a7 (pv 4) a8))) a8))) (O5 U0 (pv 0) (V1 (i7 B4 (pv 1) b7)) V2)))
      (c4 (i9 (w8 (Nc:=["other","one","many","line"]) (caps:=[some 2,some 1,none,none]) rfl (J3.of (osc:=b9 ae3) (N:=["vectors","one","other","shared","total","both","factor","other_factor","scale","row","other_scale","other_row"]) (ks:=["other","one"]) rfl rfl rfl rfl (j5 rfl (j5 rfl l9)) (by decide +kernel)) (x9 (pv 5)) (λC s₂ H₂ fp pins=>(show PG _ _ (E9 K 2 (k6 (k9 2) (k6 (k9 3) F2))) from by (refine w5 (n:=2) ?_ ?_ ?_ ?_;rfl;(refine d7 ?_ ?_ ?_;(exact (c6 (i:=2) (show List.Nodup (["other","one","many","line"]:List Str) by decide +kernel) rfl (Or.inl rfl) (Or.inr rfl)));(refine d7 ?_ ?_ ?_;(exact (c6 (i:=3) (show List.Nodup (["other","one","many","line"]:List Str) by decide +kernel) rfl (Or.inl rfl) (Or.inr rfl)));(exact p4);rfl);rfl);rfl;rfl))) (λC s₂ H₂ fp pins=>(m5 (a7 (pv 2) (a7 (i7 V6 (i7 V6 (O5 (by exact U0:SlR _ (aH3 K)) (pv 3) V2 (V1 (pv 1))) (F8 (a7 (i7 B4 (d8 (by exact i6:IxR _ (Z3 K)) (pv 3) (pv 1) (λ_ _=>rfl)) (d8 (by exact i6:IxR _ (Z3 K)) (pv 3) (pv 0) (λ_ _=>rfl))) a8))) (O5 (by exact U0:SlR _ (aH3 K)) (pv 3) (V1 (i7 B4 (pv 1) b7)) V2)) a8)))))))))))),?_⟩
  rw [show start ["vectors","one","other","shared","total","both","factor","other_factor","scale","row","other_scale","other_row"] [.ref a,.int one,.int other]=[some (.ref a),some (.int one),some (.int other),none,none,none,none,none,none,none,none,none] from rfl]
  have lus:=hv.length;have h1:=(List.getElem?_eq_some_iff.mp g1).1;have h2:=(List.getElem?_eq_some_iff.mp g2).1;obtain ⟨v1,hv1⟩:∃ v,us[one]? = some v:=⟨_,List.getElem?_eq_getElem ⋯⟩;obtain ⟨v2,hv2⟩:∃ v,us[other]? = some v:=⟨_,List.getElem?_eq_getElem ⋯⟩;obtain ⟨p1,l1,s1,row1,rfl,z1,ep1,el1,_⟩:=hv.get hv1;obtain ⟨p2,l2,s2,row2,rfl,z2,ep2,el2,_⟩:=hv.get hv2;rw [g1] at z1;rw [g2] at z2
  cases z1
  cases z2
  obtain ⟨gn0,efg,f1',g1',fle,gle,_⟩:=aU7 sa0 sb0;obtain ⟨ff,hff⟩:∃ ff,ff=sb.fdiv (Int.gcd sa sb):=⟨_,rfl⟩;obtain ⟨gg,hgg⟩:∃ gg,gg=sa.fdiv (Int.gcd sa sb):=⟨_,rfl⟩;rw [<- hff,<- hgg] at k;rw [<- hff] at efg f1' fle;rw [<- hgg] at efg g1' gle;refine c9 (λσ H1=>σ=[some (.ref a),some (.int one),some (.int other),none,none,none,none,none,some (.int sa),some (.ref l1),some (.int sb),some (.ref l2)]/\c5 H H1) (λN hN=>?_) ?_
  · subst_eqs
    refine ⟨us,SqL.of ea,_,j3 hv1,us,SqL.of ea,_,j3 hv2,u0,λp hp=>?_⟩;have X:=c5.new hp (.tup [.ref p1,.ref p2]);exact ⟨_,SqT.of a9,rfl,_,_,rfl,p1,rfl,_,SqT.of (X _ _ ep1),rfl,_,_,rfl,_,_,rfl,rfl,_,_,rfl,p2,rfl,_,SqT.of (X _ _ ep2),rfl,_,_,rfl,_,_,rfl,rfl,rfl,hN _ _ ⟨rfl,X⟩⟩
  rintro σ H1 ⟨rfl,S1⟩;refine c9 (λσ H2=>σ=[some (.ref a),some (.int one),some (.int other),some (.int (Int.gcd sa sb:Nat)),none,none,none,none,some (.int sa),some (.ref l1),some (.int sb),some (.ref l2)]/\H2=H1) (λN hN=>?_) ?_
  · simp! [at6]
    exact ⟨.inl (Nat.lt_of_lt_of_le sab (i5 (by decide))),hN _ _ ⟨rfl,rfl⟩⟩
  rintro σ H2 ⟨rfl,rfl⟩;refine c9 (λσ H3=>σ=[some (.ref a),some (.int one),some (.int other),some (.int (Int.gcd sa sb:Nat)),none,none,some (.int ff),some (.int gg),some (.int sa),some (.ref l1),some (.int sb),some (.ref l2)]/\c5 H2 H3) (λN hN=>?_) ?_
  · subst_eqs
    have gb:((Int.gcd sa sb:Nat):Int).natAbs<2 ^ 9000:=by
      rw [Int.natAbs_natCast];have h3:=Nat.le_of_dvd ⋯ (Int.natAbs_dvd_natAbs.mpr (Int.gcd_dvd_left sa sb));rw [Int.natAbs_natCast] at h3;exact Nat.lt_of_le_of_lt h3 (Nat.lt_of_lt_of_le sab (i5 (by decide)))
    refine ⟨Y1 gn0 gb,Y1 gn0 gb,u0,λp hp=>⟨_,SqT.of a9,rfl,_,_,rfl,_,_,rfl,rfl,?_⟩⟩;rw [<- hff,<- hgg];exact hN _ _ ⟨rfl,c5.new hp _⟩
  rintro σ H3 ⟨rfl,S3⟩;have S03:=S1.trans S3;obtain ⟨lr1,br1⟩:=hrow _ _ _ g1;obtain ⟨lr2,br2⟩:=hrow _ _ _ g2
  have get':∀ {G:List Int} {i:Nat},i<G.length->(G.map V.int)[i]? = some (.int (aZ G i)):=fun {G i} h=>by
    unfold aZ;rw [List.getElem?_map,List.getElem?_eq_getElem h];rfl
  have ffb:ff.natAbs<2 ^ 1000:=⋯;have ggb:gg.natAbs<2 ^ 1000:=⋯;refine c9 (λσ H4 => ∃ lt,σ=[some (.ref a),some (.int one),some (.int other),some (.int (Int.gcd sa sb:Nat)),some (.ref lt),none,some (.int ff),some (.int gg),some (.int sa),some (.ref l1),some (.int sb),some (.ref l2)]/\c5 H3 H4/\H4 lt=some (.lst ((af6 ff gg ra rb).map V.int))) (λN hN=>?_) ?_
  · subst_eqs
    have m1:=S03 _ _ el1;have m2:=S03 _ _ el2;refine ⟨⟨_,SqL.of m1⟩,⟨_,SqL.of m2⟩,λD hD=>?_⟩;have lm:(af6 ff gg ra rb).length=ra.length:=by unfold af6;rw [List.length_zipWith];omega
    have mb:min (ra.map V.int).length (rb.map V.int).length=ra.length:=by rw [List.length_map,List.length_map];omega
    refine aC0 (ra.map V.int) (rb.map V.int) (λi σ H4 => ∃ o1 o2,σ=[some (V.int gg),some (V.int ff),o1,o2]/\c5 H3 H4/\H4 D=some (.lst (((af6 ff gg ra rb).take i).map V.int))) ⟨_,_,rfl,c5.new hD _,a9⟩ (by rintro i σ H4 ⟨_,_,_,s4,_⟩;exact ⟨SqL.of (s4 _ _ m1),SqL.of (s4 _ _ m2)⟩) ?_ ?_
    · rintro i x y σ H4 q hx hy ⟨o1,o2,rfl,s4,e4⟩ hq
      have hi:i<ra.length:=by
        have:=(List.getElem?_eq_some_iff.mp hx).1;rw [List.length_map] at this;exact this
      rw [get' hi] at hx;rw [get' ⋯] at hy
      cases hx
      cases hy
      have T:=c5.new hq (.tup [.int (aZ ra i),.int (aZ rb i)]);have eT:=T _ _ e4
      have gm:(af6 ff gg ra rb)[i]? = some (ff*aZ ra i+gg*aZ rb i):=by
        have h5:=ac8 (f:=ff) (g:=gg) (ra:=ra) (rb:=rb) ⋯ i;unfold aZ at h5;rw [List.getElem?_eq_getElem ⋯] at h5 ⊢;exact congrArg some h5
      subst_eqs
      refine ⟨_,SqT.of a9,rfl,_,_,rfl,_,_,rfl,rfl,_,rfl,L6 ffb (br1 i) (by decide),_,rfl,L6 ggb (br2 i) (by decide),?_⟩
      rw [mb];refine r6.mk hi eT (t5 (by rw [List.length_map,List.length_take];omega)) ⟨_,_,rfl,(s4.trans T).over hD _,?_⟩
      rw [a9,d9 gm,List.map_append];rfl
    · rintro σ H4 ⟨o1,o2,rfl,s4,e4⟩
      rw [mb,List.take_of_length_le ⋯] at e4;exact hN _ _ ⟨D,rfl,s4,e4⟩
  rintro σ H4 ⟨lt,rfl,s4,et⟩;have S04:=S03.trans s4;have ea4:=S04 _ _ ea;have hv4:=(hv.same S04).to (Y:=λ_=>True) λ_ _=>trivial;refine c9 (λσ H5 => ∃ lb us2,σ=[some (.ref a),some (.int one),some (.int other),some (.int (Int.gcd sa sb:Nat)),some (.ref lt),some (.ref lb),some (.int ff),some (.int gg),some (.int sa),some (.ref l1),some (.int sb),some (.ref l2)]/\c5 H4 H5/\H5 lb=some (.lst us2)/\VsH (λ_=>True) H5 us2 (ws.set one (ff*sa,af6 ff gg ra rb))) (λN hN=>?_) ?_
  · simp only [aD6,au0,Q6,K4,aF6,tSl,al9,T8,U9,an3,A5,List.map_cons,List.map_nil,Option.bind_none,Option.bind_some,Option.join_some,ay5,aC8,aD1,tOr,aC6,al8,tB,tOp,tUn,aD0,tBM,Y5,tC,tCB,ay6,ao6,k9,ap3,E9,k6,F2,T9,ao5,ay7,aC5,aC7,tIf,am3,am0,at5,Y6,am2,am1,ab0,aa9,rI,rI0,rU,U8,Z3,au1,aa4,rEq,rNe,ab9,ab8,ab7,aD7,an2,an1,aa7,ad4,cxR,cxX,Cx.nox,Cx.wish,Cx.body,Cx.suite,List.getElem?_cons_zero,List.getElem?_cons_succ,List.set_cons_zero,List.set_cons_succ,Option.some.injEq,V.int.injEq,V.bl.injEq,V.ref.injEq,V.str.injEq,exists_eq_left',exists_eq_left,exists_and_left,true_and,and_true,List.cons.injEq,reduceCtorEq,Bool.false_eq_true,if_false,if_true,exists_const,↓reduceIte,tyV,List.length_cons,List.length_nil,exists_eq,List.append_nil,List.cons_append,List.nil_append,decide_eq_true_eq,not_true_eq_false,not_false_eq_true,Bool.not_eq_true',decide_eq_false_iff_not,Bool.not_true,Bool.not_false,and_assoc,false_and,false_or,or_false]
    refine U1 (SqL.of ea4) λq1 H5 f5 s5 e5=>⟨L6 ffb sab (by decide),u0,λp hp=>⟨aS2,λp3 hp3=>?_⟩⟩
    have X1:=c5.new hp (.tup [.int (ff*sa),.ref lt]);have u1:upd H5 p (.tup [.int (ff*sa),.ref lt]) p=some (.tup [.int (ff*sa),.ref lt]):=a9;generalize upd H5 p (.tup [.int (ff*sa),.ref lt])=H6 at *;have X2:=c5.new hp3 (.lst [.ref p]);have u2:upd H6 p3 (.lst [.ref p]) p3=some (.lst [.ref p]):=a9;generalize upd H6 p3 (.lst [.ref p])=H7 at *;have X12:=X1.trans X2;have S57:=s5.trans X12;rw [as7 us ⋯] at e5;refine ad7 (X12 _ _ e5) u2 (Nat.le_trans (show _<=100 by rw [List.length_take];simp;omega) (by decide)) λq4 H8 f8 s8 e8=>U1 (SqL.of (s8 _ _ (S57 _ _ ea4))) λq5 H9 f9 s9 e9=>?_
    rw [show ((one:Int)+1)=((one+1:Nat):Int) by omega,ad5 us ⋯] at e9
    refine ad7 (s9 _ _ e8) e9 (Nat.le_trans (show _<=100 by rw [List.length_append,List.length_take,List.length_drop];simp;omega) (by decide)) λq6 HA fA sA eA=>?_
    rw [aL9 us (.ref p) ⋯] at eA;have S4A:=S57.trans (s8.trans (s9.trans sA));exact hN _ _ ⟨q6,_,rfl,S4A,eA,VsH.set ((X2.trans (s8.trans (s9.trans sA))) _ _ u1) (S4A _ _ et) trivial one (hv4.same S4A)⟩
  rintro σ H5 ⟨lb,us2,rfl,s5,eb,hb⟩
  subst_eqs
  have lb2:=hb.length;rw [List.length_set] at lb2;obtain ⟨ws2,hws2⟩:∃ ws2,ws2=au9 ff gg one other sa ra rb ws:=⟨_,rfl⟩;rw [<- hws2] at k;have lw2:ws2.length=ws.length:=by rw [hws2];unfold au9;rw [List.length_map,List.length_set]
  refine ⟨⟨_,SqL.of eb⟩,λD hD=>?_⟩;refine B7 us2 (λi σ H6 => ∃ o1 o2 zs,σ=[some (V.int other),some (V.int one),o1,o2]/\c5 H5 H6/\H6 D=some (.lst zs)/\VsH (λl=>H5 l=none/\l ≠ D) H6 zs (ws2.take i)) ⟨_,_,[],rfl,c5.new hD _,a9,.nil⟩ (λi σ H6 _ ⟨_,_,_,_,s6,_⟩=>SqL.of (s6 _ _ eb)) ?_ ?_
  · rintro i x σ H6 hx ⟨o1,o2,zs,rfl,s6,e6,v6⟩
    obtain ⟨p,l,s,row,rfl,gi,ep,el,_⟩:=(hb.same s6).get hx;have hi:=(List.getElem?_eq_some_iff.mp gi).1;rw [List.length_set] at hi
    have lrow:row.length=ra.length:=by
      rw [List.getElem?_set] at gi
      by_cases y:one=i
      · rw [if_pos y,if_pos h1] at gi
        cases gi
        unfold af6;rw [List.length_zipWith];omega
      · rw [if_neg y] at gi
        exact (hrow _ _ _ gi).1
    have gw:ws2[i]? = some (s,aC2 one other row):=by rw [hws2];unfold au9;rw [List.getElem?_map,gi];rfl
    have lzs:=v6.length;simp only [aD6,au0,Q6,K4,aF6,tSl,al9,T8,U9,an3,A5,List.map_cons,List.map_nil,Option.bind_none,Option.bind_some,Option.join_some,ay5,aC8,aD1,tOr,aC6,al8,tB,tOp,tUn,aD0,tBM,Y5,tC,tCB,ay6,ao6,k9,ap3,E9,k6,F2,T9,ao5,ay7,aC5,aC7,tIf,am3,am0,at5,Y6,am2,am1,ab0,aa9,rI,rI0,rU,U8,Z3,au1,aa4,rEq,rNe,ab9,ab8,ab7,aD7,an2,an1,aa7,ad4,cxR,cxX,Cx.nox,Cx.wish,Cx.body,Cx.suite,List.getElem?_cons_zero,List.getElem?_cons_succ,List.set_cons_zero,List.set_cons_succ,Option.some.injEq,V.int.injEq,V.bl.injEq,V.ref.injEq,V.str.injEq,exists_eq_left',exists_eq_left,exists_and_left,true_and,and_true,List.cons.injEq,reduceCtorEq,Bool.false_eq_true,if_false,if_true,exists_const,↓reduceIte,tyV,List.length_cons,List.length_nil,exists_eq,List.append_nil,List.cons_append,List.nil_append,decide_eq_true_eq,not_true_eq_false,not_false_eq_true,Bool.not_eq_true',decide_eq_false_iff_not,Bool.not_true,Bool.not_false,and_assoc,false_and,false_or,or_false];refine ⟨_,SqT.of ep,rfl,_,_,rfl,_,_,rfl,rfl,?_⟩;refine U1 (SqL.of el) λq1 H7 f7 s7 e7=>?_;have el7:=s7 _ _ el;refine ⟨l,rfl,_,SqL.of el7,_,j3 (get' ⋯),l,rfl,_,SqL.of el7,_,j3 (get' ⋯),_,rfl,_,rfl,aS2,λp3 hp3=>?_⟩;have X2:=c5.new hp3 (.lst [.int (aZ row one+aZ row other)]);have u2:upd H7 p3 (.lst [.int (aZ row one+aZ row other)]) p3=some (.lst [.int (aZ row one+aZ row other)]):=a9;generalize upd H7 p3 (.lst [.int (aZ row one+aZ row other)])=H8 at *;rw [as7 _ (by rw [List.length_map];omega)] at e7
    refine ad7 (X2 _ _ e7) u2 (Nat.le_trans (show _<=100 by rw [List.length_take,List.length_map];simp;omega) (by decide)) λq4 H9 f9 s9 e9=>U1 (SqL.of (s9 _ _ (X2 _ _ el7))) λq5 HA fA sA eA=>?_
    rw [show ((one:Int)+1)=((one+1:Nat):Int) by omega,ad5 _ (by rw [List.length_map];omega)] at eA
    refine ad7 (sA _ _ e9) eA (Nat.le_trans (show _<=100 by rw [List.length_append,List.length_take,List.length_drop,List.length_map];simp;omega) (by decide)) λq6 HB fB sB eB=>⟨u0,λp6 hp6=>?_⟩
    have eB':HB q6=some (.lst ((aC2 one other row).map V.int)):=by
      rw [eB];unfold aC2;rw [List.map_append,List.map_append,List.map_take,List.map_drop];rfl
    have X6:=c5.new hp6 (.tup [.int s,.ref q6]);have u6:upd HB p6 (.tup [.int s,.ref q6]) p6=some (.tup [.int s,.ref q6]):=a9;generalize upd HB p6 (.tup [.int s,.ref q6])=HC at *;have S9:=s7.trans (X2.trans (s9.trans (sA.trans sB)));have S6C:=S9.trans X6;have eC:=S6C _ _ e6;have vC:=v6.same S6C;have q6D:q6 ≠ D:=(c7 ((s7.trans (X2.trans (s9.trans sA))) _ _ e6) fB).symm;have p6D:p6 ≠ D:=(c7 (S9 _ _ e6) hp6).symm;have Hq6:H5 q6=none:=s6.free ((s7.trans (X2.trans (s9.trans sA))).free fB);refine r6.mk ⋯ eC (t5 (by rw [lzs,List.length_take];omega)) ⟨_,_,rfl,(s6.trans S6C).over hD _,_,a9,?_⟩
    rw [d9 gw];exact VsH.snoc (by rw [c8 p6D];exact u6) (by rw [c8 q6D];exact X6 _ _ eB') ⟨Hq6,q6D⟩ (vC.over eC λl hl=>hl.2)
  · rintro σ H6 ⟨o1,o2,zs,rfl,s6,e6,v6⟩
    rw [List.take_of_length_le ⋯] at v6;have S:=S04.trans (s5.trans s6);have fr:=S04.trans s5;exact k D zs H6 S (fr.free hD) e6 (v6.to λl hl=>⟨fr.free hl.1,hl.2⟩)
def aH0 (K:q0a):Sp:=λvs H Q _ => ∃ (a:Addr) (us:List V) (ws:List (Int × List Int)) (X:Addr->Prop) (n:Nat),vs=[.ref a]/\H a=some (.lst us)/\VsH X H us ws/\ws.length<=n/\n<=30/\(∀ (i:Nat) (s:Int) (row:List Int),ws[i]? = some (s,row)->0<s/\s.natAbs<2 ^ 1000/\row.length=n/\∀ j,(aZ row j).natAbs<2 ^ 6000) /\
 (∀ at' sa ra,ws[at']? = some (sa,ra)->aZ ra at' ≠ 0->∀ r H',c5 H H'->H' r=some (.tup [.int (at':Nat),.ref a])->Q (.ref r) H') /\
 ((∀ i s row,ws[i]? = some (s,row)->aZ row i=0)->∀ one other sa sb ra rb,one<other->ws[one]? = some (sa,ra)->ws[other]? = some (sb,rb)->aZ ra other ≠ 0->∀ r b us' H',c5 H H'->H b=none->H' r=some (.tup [.int (one:Nat),.ref b])->H' b=some (.lst us')->VsH (λl=>H l=none/\l ≠ b) H' us' (au9 (sb.fdiv (q0s sa sb)) (sa.fdiv (q0s sa sb)) one other sa ra rb ws)->Q (.ref r) H') /\
 ((∀ (i:Nat) (s:Int) (row:List Int),ws[i]? = some (s,row)->∀ c,i<=c->c<ws.length->aZ row c=0)->∀ r H',c5 H H'->H' r=some (.tup [.non,.ref a])->Q (.ref r) H')
abbrev N7:Stmt:=top 38
theorem v4:j1 ["vectors","many","place","one","other","scale","row"] ["vectors"] (b9 N7):=by and_intros
theorem aq9 {f f1:Addr} (d:Df K mg "with_square" N7 ["vectors"] f) (G_mixed:Def P w K mg base CX0 2 "mixed" f1 ["vectors","one","other"] (aK8 K)) (n_enumerate:mg "enumerate" = none) (n_range:mg "range" = none) (n_len:mg "len" = none):Def P w K mg base CX0 3 "with_square" f ["vectors"] (aH0 K):=by
  refine d.ok (N:=["vectors","many","place","one","other","scale","row"]) v4 (by rintro vs H Q E ⟨_,_,_,_,_,h,_⟩;rw [h];rfl) (λcdv A outer s H vs Q E hr h=>?_)
  obtain ⟨a,us,ws,X,n,rfl,ea,hv,wn,n30,hrow,kA,kB,kC⟩:=h;have hu:=hr.units
  refine ⟨_, (b8 (i8 (i := 1) v4.nd rfl (Or.inl rfl) (h8 k8 rfl n_len (by decide +kernel) (a7 (pv 0) a8)))
      (b8 (C6 PassesOwn.never rfl (ap5 rfl n_enumerate (a7 (pv 0) a8)) (show PG _ _ (E9 K 2 (k6 (k9 2) (k6 (E9 K 2 (k6 (k9 5) (k6 (k9 6) F2))) F2))) from by (refine w5 (n:=2) ?_ ?_ ?_ ?_;rfl;(refine d7 ?_ ?_ ?_;(exact (c6 (i:=2) v4.nd rfl (Or.inl rfl)));(refine d7 ?_ ?_ ?_;(refine w5 (n:=2) ?_ ?_ ?_ ?_;rfl;(refine d7 ?_ ?_ ?_;(exact (c6 (i:=5) v4.nd rfl (Or.inl rfl)));(refine d7 ?_ ?_ ?_;(exact (c6 (i:=6) v4.nd rfl (Or.inl rfl)));(exact p4);rfl);rfl);rfl;rfl);(exact p4);rfl);rfl);rfl;rfl)) (c4 (z9 (aq3 (d8 i6 (pv 6) (pv 2) (λ_ _=>rfl)) (λ_=>rfl)) (c4 (i9 (m5 (a7 (pv 2) (a7 (pv 0) a8))))) m8)))
      (b8 (C6 PassesOwn.never rfl (ap5 rfl n_enumerate (a7 (pv 0) a8)) (show PG _ _ (E9 K 2 (k6 (k9 3) (k6 (E9 K 2 (k6 (k9 5) (k6 (k9 6) F2))) F2))) from by (refine w5 (n:=2) ?_ ?_ ?_ ?_;rfl;(refine d7 ?_ ?_ ?_;(exact (c6 (i:=3) v4.nd rfl (Or.inl rfl)));(refine d7 ?_ ?_ ?_;(refine w5 (n:=2) ?_ ?_ ?_ ?_;rfl;(refine d7 ?_ ?_ ?_;(exact (c6 (i:=5) v4.nd rfl (Or.inl rfl)));(refine d7 ?_ ?_ ?_;(exact (c6 (i:=6) v4.nd rfl (Or.inl rfl)));(exact p4);rfl);rfl);rfl;rfl);(exact p4);rfl);rfl);rfl;rfl)) (c4 (C6 PassesOwn.never rfl (ak1 rfl n_range (a7 (i7 B4 (pv 3) b7) (a7 (pv 1) a8))) (c6 (i:=4) v4.nd rfl (Or.inl rfl)) (c4 (z9 (aq3 (d8 i6 (pv 6) (pv 4) (λ_ _=>rfl)) (λ_=>rfl)) (c4 (i9 (m5 (a7 (pv 3) (a7 (d6 G_mixed hr (a7 (pv 0) (a7 (pv 3) (a7 (pv 4) a8))) j0) a8))))) m8)))))
      (c4 (i9 (m5 (a7 aT2 (a7 (pv 0) a8)))))))),?_⟩
  rw [show start ["vectors","many","place","one","other","scale","row"] [.ref a]=[some (.ref a),none,none,none,none,none,none] from rfl]
  have lus:=hv.length
  have get':∀ {G:List Int} {i:Nat},i<G.length->(G.map V.int)[i]? = some (.int (aZ G i)):=fun {G i} h=>by
    unfold aZ;rw [List.getElem?_map,List.getElem?_eq_getElem h];rfl
  refine c9 (λσ H1=>σ=[some (.ref a),some (.int (us.length:Int)),none,none,none,none,none]/\H1=H) (λN hN=>?_) ?_
  · subst_eqs
    exact ⟨_,.inl (SqL.of ea),hN _ _ ⟨rfl,rfl⟩⟩
  rintro σ H1 ⟨rfl,rfl⟩;obtain ⟨I,hI⟩:∃ I:Nat->L2.St->Hp->Prop,∀ i σ H2,I i σ H2 ↔ ∃ o2 o3 o4 o5 o6,σ=[some (.ref a),some (.int (us.length:Int)),o2,o3,o4,o5,o6]/\c5 H1 H2/\∀ (i':Nat) (s:Int) (row:List Int),i'<i->ws[i']? = some (s,row)->aZ row i'=0:=⟨_,λ_ _ _=>Iff.rfl⟩;refine c9 (λσ H2=>I us.length σ H2) (λN hN=>?_) ?_
  · refine ⟨_,rfl,a,rfl,⟨_,SqL.of ea⟩,aj1 us I ((hI _ _ _).mpr ⟨_,_,_,_,_,rfl,c5.refl _,λi' _ _ h=>⋯⟩) (by intro i σ H2 h;obtain ⟨_,_,_,_,_,_,s2,_⟩:=(hI _ _ _).mp h;exact SqL.of (s2 _ _ ea)) ?_ (λσ H2 h=>hN _ _ h)⟩
    intro i x σ H2 pe hx h hpe;obtain ⟨o2,o3,o4,o5,o6,rfl,s2,hz⟩:=(hI _ _ _).mp h;have Xe:=c5.new hpe (.tup [.int i,x]);obtain ⟨p,l,s,row,rfl,gi,ep,el,_⟩:=(hv.same (s2.trans Xe)).get hx;have hi:=(List.getElem?_eq_some_iff.mp hx).1;obtain ⟨_,_,lr,_⟩:=hrow _ _ _ gi;refine ⟨pe,_,rfl,SqT.of a9,rfl,_,_,rfl,_,_,rfl,p,_,rfl,SqT.of ep,rfl,_,_,rfl,_,_,rfl,rfl,rfl,?_⟩;have s2':=s2.trans Xe;generalize upd H2 pe (.tup [.int i,.ref p])=H3 at *;simp only [List.set_cons_zero,List.set_cons_succ]
    subst_eqs
    have ii:i<row.length:=⋯;refine ⟨_,SqL.of el,_,j3 (get' ii),_,rfl,A9 (λh1=>?_) (λh1=>?_)⟩
    · refine ⟨u0,λp1 hp1=>kA i s row gi (by simpa using h1) p1 _ (s2'.trans (c5.new hp1 _)) a9⟩
    · refine (hI _ _ _).mpr ⟨_,_,_,_,_,rfl,s2',λi' s' row' h1' h2'=>?_⟩
      rcases Nat.lt_or_ge i' i with y | y
      · exact hz i' s' row' y h2'
      · have:i'=i:=⋯
        subst this;rw [gi] at h2'
        cases h2'
        simpa using h1
  rintro σ H2 h;obtain ⟨o2,o3,o4,o5,o6,rfl,s2,hz⟩:=(hI _ _ _).mp h;have hz':∀ (i:Nat) (s:Int) (row:List Int),ws[i]? = some (s,row)->aZ row i=0:=λi s row h=>hz i s row (by have:=(List.getElem?_eq_some_iff.mp h).1;omega) h
  obtain ⟨J,hJ⟩:∃ J:Nat->L2.St->Hp->Prop,∀ i σ H3,J i σ H3 ↔ ∃ o2 o3 o4 o5 o6,σ=[some (.ref a),some (.int (us.length:Int)),o2,o3,o4,o5,o6]/\c5 H1 H3/\∀ (i':Nat) (s:Int) (row:List Int),i'<i->ws[i']? = some (s,row)->∀ c,i'<c->c<ws.length->aZ row c=0:=⟨_,λ_ _ _=>Iff.rfl⟩;refine c9 (λσ H3=>J us.length σ H3) (λN hN=>?_) ?_
  · refine ⟨_,rfl,a,rfl,⟨_,SqL.of (s2 _ _ ea)⟩,aj1 us J ((hJ _ _ _).mpr ⟨_,_,_,_,_,rfl,s2,λi' _ _ h=>⋯⟩) (by intro i σ H3 h;obtain ⟨_,_,_,_,_,_,s3,_⟩:=(hJ _ _ _).mp h;exact SqL.of (s3 _ _ ea)) ?_ (λσ H3 h=>hN _ _ h)⟩
    intro i x σ H3 pe hx h hpe;obtain ⟨o2,o3,o4,o5,o6,rfl,s3,hz3⟩:=(hJ _ _ _).mp h;have Xe:=c5.new hpe (.tup [.int i,x]);obtain ⟨p,l,s,row,rfl,gi,ep,el,_⟩:=(hv.same (s3.trans Xe)).get hx;have hi:=(List.getElem?_eq_some_iff.mp hx).1;obtain ⟨_,_,lr,_⟩:=hrow _ _ _ gi;refine ⟨pe,_,rfl,SqT.of a9,rfl,_,_,rfl,_,_,rfl,p,_,rfl,SqT.of ep,rfl,_,_,rfl,_,_,rfl,rfl,rfl,?_⟩;have s3':=s3.trans Xe;generalize upd H3 pe (.tup [.int i,.ref p])=H4 at *;simp only [List.set_cons_zero,List.set_cons_succ];obtain ⟨L,hL⟩:∃ L:Nat->L2.St->Hp->Prop,∀ v σ H5,L v σ H5 ↔ ∃ o4,σ=[some (.ref a),some (.int (us.length:Int)),o2,some (.int (i:Int)),o4,some (.int s),some (.ref l)]/\H5=H4/\∀ c,i<c->c<i+1+v->aZ row c=0:=⟨_,λ_ _ _=>Iff.rfl⟩;refine ⟨_,rfl,(i:Int),1,rfl,rfl,_,rfl,_,_,rfl,⟨⋯,⋯,⋯,⋯⟩,C1 L ((hL _ _ _).mpr ⟨_,rfl,rfl,λc h1 h2=>⋯⟩) ?_ (λσ H5 h=>?_)⟩
    · intro v σ H5 hv' h
      obtain ⟨o4,rfl,rfl,hz5⟩:=(hL _ _ _).mp h;have hw:i+1+v<us.length:=⋯;have ew:(i:Int)+1+(v:Int)=((i+1+v:Nat):Int):=⋯
      subst_eqs
      rw [ew];refine ⟨_,SqL.of el,_,j3 (get' (show i+1+v<row.length by omega)),_,rfl,A9 (λh1=>?_) (λh1=>?_)⟩
      · obtain ⟨⟨sb,rb⟩,gb⟩:∃ x,ws[i+1+v]? = some x:=⟨_,List.getElem?_eq_getElem ⋯⟩
        obtain ⟨sb0,sbb,lrb,_⟩:=hrow _ _ _ gb;obtain ⟨s0,sbd,_,_⟩:=hrow _ _ _ gi;refine ⟨a,us,ws,X,i,i+1+v,s,sb,row,rb,rfl,s3' _ _ ea,hv.same s3',gi,gb,⋯,⋯,⋯,⋯,λi' s' row' g'=>?_,s0,sb0,sbd,sbb,λr us' H6 s6 f6 e6 v6=>⟨u0,λp1 hp1=>?_⟩⟩
        · obtain ⟨_,_,l',b'⟩:=hrow _ _ _ g'
          exact ⟨⋯,b'⟩
        · have X1:=c5.new hp1 (.tup [.int (i:Int),.ref r])
          exact kB hz' i (i+1+v) s sb row rb ⋯ gi gb (by simpa using h1) p1 r us' _ (s3'.trans (s6.trans X1)) (s3'.free f6) a9 (X1 _ _ e6) ((v6.same X1).to λl hl=>⟨s3'.free hl.1,hl.2⟩)
      · refine (hL _ _ _).mpr ⟨_,rfl,rfl,λc h1' h2'=>?_⟩
        rcases Nat.lt_or_ge c (i+1+v) with y | y
        · exact hz5 c h1' y
        · rw [show c=i+1+v by omega];simpa using h1
    · obtain ⟨o4,rfl,rfl,hz5⟩:=(hL _ _ _).mp h
      refine (hJ _ _ _).mpr ⟨_,_,_,_,_,rfl,s3',λi' s' row' h1' h2' c h3' h4'=>?_⟩;rcases Nat.lt_or_ge i' i with y | y
      · exact hz3 i' s' row' y h2' c h3' h4'
      · have:i'=i:=⋯
        subst this;rw [gi] at h2'
        cases h2'
        exact hz5 c h3' ⋯
  rintro σ H3 h;obtain ⟨o2,o3,o4,o5,o6,rfl,s3,hz3⟩:=(hJ _ _ _).mp h
  subst_eqs
  refine ⟨u0,λp hp=>kC (λi s row h c h1 h2=>?_) p _ (s3.trans (c5.new hp _)) a9⟩;rcases Nat.eq_or_lt_of_le h1 with y | y
  · rw [<- y];exact hz' i s row h
  · exact hz3 i s row (by have:=(List.getElem?_eq_some_iff.mp h).1;omega) h c y h2
end
def NuX (K:q0a) (H:Hp) (x:V) (q:Rat):Prop:=∃ p,x=.ref p/\NmC K H p q
inductive FdH (K:q0a) (X:Addr->Prop) (H:Hp):List V->List (List Int × Rat)->Prop where
 | nil:FdH K X H [] []
 | cons {p l:Addr} {x:V} {col:List Int} {q:Rat} {vs:List V} {fs:List (List Int × Rat)} (h:H p=some (.tup [.ref l,x])) (e:H l=some (.lst (col.map V.int))) (n:NuX K H x q) (f:X l) (t:FdH K X H vs fs):FdH K X H (.ref p :: vs) ((col,q) :: fs)
theorem aU1 {K:q0a} {H H':Hp} {x:V} {q:Rat} (s:c5 H H'):NuX K H x q->NuX K H' x q
 | ⟨a,e,h⟩=>⟨a,e,h.mono s.tups⟩
theorem aE9 {K:q0a} {H:Hp} {D:Addr} {ys:List V} {o:HO} {x:V} {q:Rat} (hD:H D=some (.lst ys)):NuX K H x q->NuX K (upd H D o) x q
 | ⟨a,e,h⟩=>⟨a,e,h.mono (W5.lst hD)⟩
theorem FdH.same {K:q0a} {X:Addr->Prop} {H H':Hp} (s:c5 H H'):∀ {vs:List V} {fs:List (List Int × Rat)},FdH K X H vs fs->FdH K X H' vs fs
 | _,_,.nil=>.nil
 | _,_,.cons h e n f t=>.cons (s _ _ h) (s _ _ e) (aU1 s n) f (t.same s)
theorem FdH.length {K:q0a} {X:Addr->Prop} {H:Hp}:∀ {vs:List V} {fs:List (List Int × Rat)},FdH K X H vs fs->vs.length=fs.length
 | _,_,.nil=>rfl
 | _,_,.cons _ _ _ _ t=>congrArg (· + 1) t.length
theorem FdH.append {K:q0a} {X:Addr->Prop} {H:Hp} {us:List V} {gs:List (List Int × Rat)} (k:FdH K X H us gs):∀ {vs:List V} {fs:List (List Int × Rat)},FdH K X H vs fs->FdH K X H (vs ++ us) (fs ++ gs)
 | _,_,.nil=>k
 | _,_,.cons h e n f t=>.cons h e n f (FdH.append k t)
theorem FdH.over {K:q0a} {X:Addr->Prop} {H:Hp} {D:Addr} {ys:List V} {o:HO} (hD:H D=some (.lst ys)) (nD:∀ l,X l->l ≠ D):∀ {vs:List V} {fs:List (List Int × Rat)},FdH K X H vs fs->FdH K X (upd H D o) vs fs
 | _,_,.nil=>.nil
 | _,_,.cons h e n f t=>.cons (by rw [c8 (λz=>by rw [z,hD] at h;cases h)];exact h) (by rw [c8 (nD _ f)];exact e) (aE9 hD n) f (t.over hD nD)
theorem FdH.get {K:q0a} {X:Addr->Prop} {H:Hp}:∀ {vs:List V} {fs:List (List Int × Rat)} {i:Nat} {v:V},FdH K X H vs fs->vs[i]? = some v->∃ p l x col q,v=.ref p/\fs[i]? = some (col,q)/\H p=some (.tup [.ref l,x])/\H l=some (.lst (col.map V.int))/\NuX K H x q/\X l
 | _,_,_,_,.nil,e=>by simp at e
 | _,_,0,_,.cons h e' n f _,e=>by cases e;exact ⟨_,_,_,_,_,rfl,rfl,h,e',n,f⟩
 | _,_,i+1,_,.cons _ _ _ _ t,e=>t.get (i:=i) (by simpa using e)
theorem FdH.to {K:q0a} {X Y:Addr->Prop} {H:Hp} (h:∀ l,X l->Y l):∀ {vs:List V} {fs:List (List Int × Rat)},FdH K X H vs fs->FdH K Y H vs fs
 | _,_,.nil=>.nil
 | _,_,.cons a b c d t=>.cons a b c (h _ d) (t.to h)
def bh4 (ws:List (Int × List Int)) (v:V):Prop:=(v=.non/\∀ (i:Nat) (s:Int) (row:List Int),ws[i]? = some (s,row)->∀ c,i<=c->c<ws.length->aZ row c=0) \/ ∃ (at':Nat) (sa:Int) (ra:List Int),v=.int at'/\ws[at']? = some (sa,ra)/\aZ ra at' ≠ 0
section
variable {K:q0a} {N:Nat} {A:Mt} {Bt W:Nat} {es:Nat->Vc} {ss:Nat->Int}
theorem aK0 {a lf:Addr} {us:List V} {ws:List (Int × List Int)} {X:Addr->Prop} {j k:Nat} {bf:Int} {e:Nat->Vc} {H:Hp} {Q:VK} {o:HO} (F:Fm N A Bt W) (hW:(W+19)*14<6000) (S:Sq N A Bt j k es ss bf ws e) (jk:j<=k) (ea:H a=some (.lst us)) (al:a ≠ lf) (hv:VsH X H us ws) (hX:∀ l,X l->l ≠ lf) (hlf:H lf=some o) (c:∀ r b us' ws' e' j' v H',c5 H H'->H' r=some (.tup [v,.ref b])->H' b=some (.lst us')->b ≠ lf->VsH (λl=>l ≠ lf) H' us' ws'->Sq N A Bt j' k es ss bf ws' e'->j'<=k+1->bh4 ws' v->Q (.ref r) H'):aH0 K [.ref a] H Q E0:=by
 have km:=S.km;have n7:=F.n7;have W400:W<=409:=⋯
 have row:∀ (i:Nat) (s:Int) (row:List Int),ws[i]? = some (s,row)->0<s/\s.natAbs<2 ^ 1000/\row.length=ws.length+N/\∀ j,(aZ row j).natAbs<2 ^ 6000:=λi s row h=>by
  obtain ⟨V,l,_,_⟩:=S.cur _ _ _ h;have hi:=(q0h.mp h).1;refine ⟨V.s1,q0m (V.le F) (q0d F.bW (i5 ⋯)),l,λj=>q0m (S.bits F h j) (z0h (by decide) ?_)⟩
  have:(W+15+4)*(k+1)<=(W+19)*14:=j0u ⋯ ⋯;omega
 refine ⟨a,us,ws,X,ws.length+N,rfl,ea,hv,⋯,⋯,row,λat' sa ra h h0 r H' s' er=>?_,λhz one other sa sb ra rb h12 h1 h2 h0 r b us' H' s' fb er eb hb=>?_,λhz r H' s' er=>?_⟩
 ·exact c r a us ws e j _ H' s' er (s' _ _ ea) al ((hv.same s').to hX) S ⋯ (.inr ⟨at',sa,ra,rfl,h,h0⟩)
 ·have i1:=(q0h.mp h1).1
  have i2:=(q0h.mp h2).1;obtain ⟨sa0,_,lra,_⟩:=row _ _ _ h1;obtain ⟨sb0,_,lrb,_⟩:=row _ _ _ h2;obtain ⟨_,efg,f1,g1,_,_,dl⟩:=aU7 sa0 sb0;obtain ⟨Va,_,a1,_⟩:=S.cur _ _ _ h1;obtain ⟨Vb,_,b1,_⟩:=S.cur _ _ _ h2;have S':=S.mix F ⋯ h1 h2 ⋯ efg f1 (dl Bt Va.sd Vb.sd);have bl':b ≠ lf:=(c7 hlf fb).symm;refine c r b us' _ _ _ _ H' s' er eb bl' (hb.to λl hl=>(c7 hlf hl.1).symm) S' ⋯ (.inr ⟨one,sb.fdiv (q0s sa sb)*sa,aC2 one other (af6 (sb.fdiv (q0s sa sb)) (sa.fdiv (q0s sa sb)) ra rb),rfl,?_,?_⟩)
  ·unfold au9
   rw [q0f,u0f,if_pos rfl,if_pos i1];rfl
  ·have lm:(af6 (sb.fdiv (q0s sa sb)) (sa.fdiv (q0s sa sb)) ra rb).length=ws.length+N:=by unfold af6;rw [y0z];omega
   rw [aj4 ⋯,aJ9 ⋯,if_pos rfl,ac8 ⋯,ac8 ⋯,hz _ _ _ h1,hz _ _ _ h2]
   have e2:sa.fdiv (q0s sa sb)*aZ rb one=sb.fdiv (q0s sa sb)*aZ ra other:=y0b.mp (by
    have hq:((sb.fdiv (q0s sa sb):Int):Rat)*(sa:Rat)=((sa.fdiv (q0s sa sb):Int):Rat)*(sb:Rat):=by rw [<- q0v,<- q0v,efg]
    rw [q0v,q0v,b1 one i1,a1 other i2,as8 F.sy (Pr N A es k (e other))];generalize bl N A (Pr N A es k (e one)) (Pr N A es k (e other))=x at *;generalize ((sb.fdiv (q0s sa sb):Int):Rat)=y at *;generalize ((sa.fdiv (q0s sa sb):Int):Rat)=z at *
    grind)
   rw [e2];have h3:=y0a (show sb.fdiv (q0s sa sb) ≠ 0 by omega) h0
   omega
 ·exact c r a us ws e j _ H' s' er (s' _ _ ea) al ((hv.same s').to hX) S ⋯ (.inl ⟨rfl,hz⟩)
end
theorem aZ2 {ws:List Int} {i:Nat} {y:V} (h:(ws.map V.int)[i]? = some y):∃ v,ws[i]? = some v/\y=.int v:=by
 rw [q0f] at h
 cases hw:ws[i]? with
 | none=>rw [hw] at h;cases h
 | some v=>rw [hw] at h;cases h;exact ⟨v,rfl,rfl⟩
theorem bg5 {K:q0a} {l D:Addr} {ws:List Int} {g:Int} {H1:Hp} {Q:VK} (e:H1 l=some (.lst (ws.map V.int))) (hD:H1 D=none) (hl:ws.length<=100) (hg:g ≠ 0) (hb:g.natAbs<2 ^ 6000)
  (k:∀ H2,c5 H1 H2->H2 D=some (.lst ((ws.map λv=>v.fdiv g).map V.int))->Q (.ref D) H2):ao3 (Itl K l) D [some (.int g),none] (upd H1 D (.lst [])) (k9 1) (tOp (rI ao4 λi j=>V.int (i.fdiv j)) (Y5 1) (Y5 0)) Q:=by
 refine B7 (ws.map V.int) (λi σ H3 => ∃ o,σ=[some (.int g),o]/\c5 H1 H3/\H3 D=some (.lst (((ws.take i).map λv=>v.fdiv g).map V.int))) ⟨_,rfl,c5.new hD _,a9⟩ (λi σ H3 _ ⟨_,_,s3,_⟩=>SqL.of (s3 _ _ e)) ?_ ?_
 ·rintro i y σ H3 hy ⟨o,rfl,s3,e3⟩
  have hi:=(q0h.mp hy).1;obtain ⟨v,hv,rfl⟩:=aZ2 hy
  subst_eqs
  refine ⟨Y1 hg (ai8 hb (by decide)),r6.mk hi e3 ?_ ⟨_,rfl,s3.over hD _,?_⟩⟩
  ·simp only [q0b,q0x]
   rw [q0b] at hi;exact q0m (show _<=100 by omega) (by decide)
  ·rw [a9,v0z,hv]
   simp
 ·rintro σ H3 ⟨o,rfl,s3,e3⟩
  rw [q0b,y0p] at e3;exact k H3 s3 e3
theorem aV3 {ws:List Int} {m:Nat} (h0:J2 ws ≠ 0) (hb:∀ v ∈ ws,j0m v<2 ^ m):J2 ws<2 ^ m:=by
 obtain ⟨v,hv,v0⟩:∃ v ∈ ws,v ≠ 0:=by
  refine Classical.byContradiction λz=>h0 ?_;have all:∀ v ∈ ws,v=0:=λv hv=>Classical.byContradiction λh=>z ⟨v,hv,h⟩;have:0 ∣ J2 ws:=aG0 _ 0 (Nat.dvd_zero _) λv hv=>by rw [all v hv];exact Int.dvd_zero _
  exact Nat.eq_zero_of_zero_dvd this
 have:=v0h.mpr (ar8 hv);exact q0m (v0m ⋯ this) (hb v hv)
theorem aM8 {ws:List Int} (g0:J2 ws ≠ 0) (k:Nat):aZ ws k=((J2 ws:Nat):Int)*aZ (ws.map λv=>v.fdiv ((J2 ws:Nat):Int)) k:=by
 unfold aZ;rw [q0f]
 cases hk:ws[k]? with
 | none=>simp
 | some v =>
  show v=_*v.fdiv _;obtain ⟨y,hy⟩:=ar8 (q0j hk)
  have h1:v.fdiv ((J2 ws:Nat):Int)=y:=by
   conv=>lhs;arg 1;rw [hy]
   exact m4 ⋯
  rw [h1];exact hy
section
variable {P:Program} {w:World} {K:q0a} {mg:Str->Option Value} {base:Heap}
def aK7 (K:q0a):Sp:=λvs H Q _ => ∃ (a:Addr) (ws:List Int),vs=[.ref a]/\H a=some (.lst (ws.map V.int))/\(∀ v ∈ ws,j0m v<2 ^ 6000)/\ws.length<=40 /\
 ∀ r zs h H',c5 H H'->H r=none->H' r=some (.lst (zs.map V.int))->zs.length=ws.length->1<=h->(∀ k,aZ ws k=h*aZ zs k)->Q (.ref r) H'
abbrev F5:Stmt:=top 30
theorem aa3:j1 ["wholes","content"] ["wholes"] (b9 F5):=by and_intros
theorem ao9 {f f1:Addr} (d:Df K mg "over_content" F5 ["wholes"] f) (G_content_of:Def P w K mg base CX0 2 "content_of" f1 ["wholes"] (aj9 K)) (n_list:mg "list" = none):Def P w K mg base CX0 3 "over_content" f ["wholes"] (aK7 K):=by
 refine d.ok (N:=["wholes","content"]) aa3 (by rintro vs H Q E ⟨_,_,h,_⟩;rw [h];rfl) (λcdv A outer s H vs Q E hr h=>?_)
 obtain ⟨a,ws,rfl,hS,hb,l40,k⟩:=h;have hu:=hr.units
 refine ⟨_,(b8 (i8 (i:=1) aa3.nd rfl (z0z rfl) (d6 G_content_of hr (a7 (pv 0) a8) j0))
   (b8 (z9 (l5 aq6 (pv 1) b7 (j9 _)) (c4 (i9 (E5 aa1 rfl n_list (by decide +kernel) (a7 (pv 0) a8)))) m8)
   (c4 (i9 (w8 (Nc:=["content","whole"]) (caps:=[some 1,none]) rfl (J3.of (osc:=b9 F5) (N:=["wholes","content"]) (ks:=["content"]) rfl rfl rfl rfl (j5 rfl l9) (by decide +kernel)) (x9 (pv 0)) (λC s₂ H₂ fp pins=>(c6 (i:=1) (show z0t (["content","whole"]:List Str) by decide +kernel) rfl (q0y rfl) (z0z rfl))) (λC s₂ H₂ fp pins=>(i7 A7 (pv 1) (pv 0)))))))),?_⟩
 rw [show start ["wholes","content"] [.ref a]=[some (.ref a),none] from rfl]
 subst_eqs
 refine ⟨a,ws,rfl,SqL.of hS,hb,_,rfl,A9 (λh2=>⟨_,.inl (SqL.of hS),λp hp=>?_⟩) (λh2=>⟨⟨_,SqL.of hS⟩,λD hD=>?_⟩)⟩
 ·exact k p ws 1 _ (c5.new hp _) hp a9 rfl (Int.le_refl _) (λk=>⋯)
 ·have g0:J2 ws ≠ 0:=λz=>by rw [z] at h2;exact h2 (by decide)
  have gb:((J2 ws:Nat):Int).natAbs<2 ^ 6000:=by rw [q0r];exact aV3 g0 hb
  refine bg5 hS hD ⋯ ⋯ gb λH2 s2 e2=>?_;exact k D _ _ H2 s2 hD e2 (q0b _) ⋯ (aM8 g0)
end
def WgN (J:Nat->L2.St->Hp->Prop) (m:Nat):L2.St->Hp->Prop:=λσ' H' => ∃ m',m'<m/\J m' σ' H'
def WhG (tb:TS) (D:ah5) (J:Nat->L2.St->Hp->Prop) (m:Nat) (σ:L2.St) (H1:Hp):Prop :=
 ∃ N:L2.St->Hp->Prop,(∀ σ' H',N σ' H'->∃ m',m'<m/\J m' σ' H')/\tb { D with nx:=N,ct:=N,bk:=D.nx } σ H1
theorem WhG.mk {tb:TS} {D:ah5} {J:Nat->L2.St->Hp->Prop} {m:Nat} {σ:L2.St} {H1:Hp} (h:tb { D with nx:=WgN J m,ct:=WgN J m,bk:=D.nx } σ H1):WhG tb D J m σ H1:=⟨_,λ_ _ n=>n,h⟩
theorem WgN.mk {J:Nat->L2.St->Hp->Prop} {m m':Nat} {σ:L2.St} {H:Hp} (l:m'<m) (h:J m' σ H):WgN J m σ H:=⟨_,l,h⟩
theorem aX8 {c:TT} {tb:TS} {D:ah5} {σ:L2.St} {H:Hp} (J:Nat->L2.St->Hp->Prop) (m0:Nat) (h0:J m0 σ H)
  (hs:∀ m σ H,J m σ H->c σ H λb H1=>if b=true then WhG tb D J m σ H1 else D.nx σ H1):aq2 c tb D σ H:=⟨J,⟨_,h0⟩,hs⟩
theorem af0 (row:List Int) (m t:Nat):aZ (row.drop m) t=aZ row (m+t):=by unfold aZ;rw [List.getElem?_drop]
section
variable {N:Nat} {A:Mt} {Bt W:Nat} {es:Nat->Vc} {ss:Nat->Int}
theorem Sq.tc {j k i:Nat} {bf s h:Int} {ws:List (Int × List Int)} {e:Nat->Vc} {row zs:List Int} (S:Sq N A Bt j k es ss bf ws e) (F:Fm N A Bt W) (g:ws[i]? = some (s,row)) (lz:zs.length=N) (h0:h ≠ 0) (eh:∀ t,aZ (row.drop ws.length) t=h*aZ zs t):(∀ t,t<N->vc zs t=((bf:Rat)*(s:Rat)*(h:Rat)⁻¹)*Pr N A es k (e i) t)/\(bf:Rat)*(s:Rat)*(h:Rat)⁻¹ ≠ 0:=by
 obtain ⟨V,l,_,c2⟩:=S.cur _ _ _ g;have hq:=t7 h0;have hi:=z0r _ hq;refine ⟨λt ht=>?_,λz=>?_⟩
 ·have h1:=c2 t ht
  have h2:=eh t;rw [af0] at h2;rw [h2,q0v] at h1;unfold vc;generalize ((aZ zs t:Int):Rat)=x at *;generalize (h:Rat)⁻¹=y at *;generalize Pr N A es k (e i) t=p at *
  grind
 ·have b0:=t7 (S.b0 F)
  have s0:=t7 (show s ≠ 0 by have:=V.s1;omega)
  rcases j0c.mp z with y | y
  ·rcases j0c.mp y with w | w
   ·exact b0 w
   ·exact s0 w
  ·rw [y] at hi;grind
theorem Sq.cb {j k i:Nat} {bf s h:Int} {ws:List (Int × List Int)} {e:Nat->Vc} {row zs:List Int} (S:Sq N A Bt j k es ss bf ws e) (F:Fm N A Bt W) (g:ws[i]? = some (s,row)) (h0:h ≠ 0) (eh:∀ t,aZ (row.drop ws.length) t=h*aZ zs t) (t:Nat):(aZ zs t).natAbs<=2 ^ cw Bt W k:=by
 have h1:=S.cbits F g t;rw [<- af0,eh,z0a] at h1;exact q0p (y0e _ (Int.natAbs_pos.mpr h0)) h1
theorem Sq.col {j k at':Nat} {bf sa:Int} {ws:List (Int × List Int)} {e:Nat->Vc} {ra:List Int} (S:Sq N A Bt j k es ss bf ws e) (F:Fm N A Bt W) (hW:(W+19)*14<6000) (g:ws[at']? = some (sa,ra)) (h0:aZ ra at' ≠ 0):J2 (ra.drop ws.length) ≠ 0/\J2 (ra.drop ws.length)*J2 (ra.drop ws.length)<2 ^ 6000/\Tc N (cw Bt W k) ((ra.drop ws.length).map λv=>v.fdiv ((J2 (ra.drop ws.length):Nat):Int)) (Pr N A es k (e at'))/\q0w (bf*sa*aZ ra at') (((J2 (ra.drop ws.length):Nat):Int)*((J2 (ra.drop ws.length):Nat):Int))=bl N A (vc ((ra.drop ws.length).map λv=>v.fdiv ((J2 (ra.drop ws.length):Nat):Int))) (vc ((ra.drop ws.length).map λv=>v.fdiv ((J2 (ra.drop ws.length):Nat):Int))):=by
 have km:=S.km;have n7:=F.n7;obtain ⟨V,l,c1,c2⟩:=S.cur _ _ _ g;have hat:=(q0h.mp g).1;have a1:=c1 at' hat;have b0:=t7 (S.b0 F);have s0:=t7 (show sa ≠ 0 by have:=V.s1;omega)
 obtain ⟨c,hc⟩:∃ c,c=J2 (ra.drop ws.length):=⟨_,rfl⟩
 have c0:c ≠ 0:=λz=>by
  have all:∀ t,t<N->Pr N A es k (e at') t=0:=λt ht=>by
   have h1:=c2 t ht
   have hm:aZ ra (ws.length+t)=0:=by
    rw [<- af0];unfold aZ;have hl:t<(ra.drop ws.length).length:=by rw [j0w];omega
    rw [q0c hl];have:=ar8 (g0m hl);rw [<- hc,z] at this;exact Int.zero_dvd.mp this
   rw [hm] at h1;have h2:(bf:Rat)*((sa:Rat)*Pr N A es k (e at') t)=0:=h1.symm;rcases j0c.mp h2 with y | y
   ·exact absurd y b0
   ·rcases j0c.mp y with w | w
    ·exact absurd w s0
    ·exact w
  have z2:bl N A (Pr N A es k (e at')) (Pr N A es k (e at'))=0:=Y7 _ λt ht=>by rw [all t ht];grind
  rw [z2] at a1;exact t7 h0 (by rw [a1];grind)
 have bits:∀ v ∈ ra.drop ws.length,j0m v<2 ^ 2999:=λv hv=>by
  refine as9 (λt=>?_) v hv;rw [af0];refine q0m (S.bits F g _) (z0h (by decide) ?_)
  have:(W+15+4)*(k+1)<=(W+19)*7:=j0u ⋯ ⋯;omega
 have cb:=aV3 (by rw [<- hc];exact c0) bits
 rw [<- hc] at cb ⊢;have ec:∀ t,aZ (ra.drop ws.length) t=(c:Int)*aZ ((ra.drop ws.length).map λv=>v.fdiv (c:Int)) t:=λt=>by rw [hc];exact aM8 (by rw [<- hc];exact c0) t
 have lcol:((ra.drop ws.length).map λv=>v.fdiv (c:Int)).length=N:=by rw [q0b,j0w];omega
 obtain ⟨h1,h2⟩:=S.tc F g lcol ⋯ ec;refine ⟨c0,?_,⟨lcol,S.cb F g ⋯ ec,_,h2,h1⟩,?_⟩
 ·have:=j0e cb cb
  rw [<- z0u] at this;exact q0d this (i5 (by decide))
 ·rw [Tc.bl h1 h1,u0e,u0j,q0v,q0v,q0v,a1,Rat.inv_mul_rev]
  generalize ((c:Int):Rat)⁻¹=y
  grind
theorem Sq.bfb {j k:Nat} {bf:Int} {ws:List (Int × List Int)} {e:Nat->Vc} (S:Sq N A Bt j k es ss bf ws e) (F:Fm N A Bt W) (hW:(W+19)*14<6000):bf.natAbs<2 ^ 2999:=by
 have km:=S.km;have n7:=F.n7
 obtain ⟨z,ez,bz⟩:=aB6 (W:=W+15) (n:=k) (M:=λr c=>if r<k/\c<k then (ss r:Rat)*bl N A (es r) (es c) else 0) ⋯ λr c=>by
  by_cases h:r<k/\c<k
  ·simp only [if_pos h]
   obtain ⟨z,ez,bz⟩:=(S.ch r h.1).1.two (S.ch c h.2).1 F;exact ⟨z,ez,q0m bz (z0h (by decide) ⋯)⟩
  ·simp only [if_neg h]
   exact ⟨0,rfl,u0x _⟩
 have e1:bf=z:=y0b.mp (by
  rw [S.dv,<- ez];exact C2 λr hr c hc=>by rw [if_pos ⟨hr,hc⟩])
 rw [e1];refine q0m bz (z0h (by decide) ?_)
 have:(W+15+4)*k<=(W+19)*7:=j0u ⋯ ⋯;omega
end
section
variable {P:Program} {w:World} {K:q0a} {mg:Str->Option Value} {base:Heap}
def av8 (K:q0a):Sp:=λvs H Q _ => ∃ (a:Addr) (us:List V) (ws:List (Int × List Int)) (X:Addr->Prop) (N:Nat) (A:Mt) (Bt W:Nat) (es:Nat->Vc) (ss:Nat->Int) (e:Nat->Vc),vs=[.ref a]/\H a=some (.lst us)/\VsH X H us ws/\Fm N A Bt W/\(W+19)*14<6000/\Sq N A Bt 0 0 es ss 1 ws e/\∀ r rs fs H',c5 H H'->H r=none->H' r=some (.lst rs)->FdH K (λ_=>True) H' rs fs->T4 N A Bt W (fs.map (·.1)) (fs.map (·.2))->Q (.ref r) H'
abbrev Q4:Stmt:=top 40
theorem v5:j1 ["vectors","found","before","at","column","content","square","scale","row"] ["vectors"] (b9 Q4):=by and_intros
theorem aI0 {f f1 f2 f3 f4 f5 aN:Addr} (d:Df K mg "squared" Q4 ["vectors"] f) (G_with_square:Def P w K mg base CX0 3 "with_square" f1 ["vectors"] (aH0 K)) (G_content_of:Def P w K mg base CX0 2 "content_of" f2 ["wholes"] (aj9 K)) (G_fraction:Def P w K mg base CX0 2 "fraction" f3 ["top","bottom"] ag4) (G_upright_to:Def P w K mg base CX0 2 "upright_to" f4 ["vectors","at","before"] (bf6 K)) (G_over_content:Def P w K mg base CX0 3 "over_content" f5 ["wholes"] (aK7 K)) (c_NOUGHT:mg "NOUGHT" = some (.ref aN)) (tN:∀ H,SqT K H aN (A1 0)) (n_len:mg "len" = none):Def P w K mg base CX0 4 "squared" f ["vectors"] (av8 K):=by
 refine d.ok (N:=["vectors","found","before","at","column","content","square","scale","row"]) v5 (by rintro vs H Q E ⟨_,_,_,_,_,_,_,_,_,_,_,h,_⟩;rw [h];rfl) (λcdv A' outer s H vs Q E hr h=>?_)
 obtain ⟨a,us,ws,X,N,A,Bt,W,es,ss,e,rfl,ea,hv,F,hW,S0,kk⟩:=h;have hu:=hr.units
 refine ⟨_,(b8 (i8 (i:=1) v5.nd rfl (q0y rfl) (F8 a8))
   (b8 (i8 (i:=2) v5.nd rfl (q0y rfl) b7)
   (b8 (F7 (d6 G_with_square hr (a7 (pv 0) a8) j0) (show PG _ _ (E9 K 2 (k6 (k9 3) (k6 (k9 0) F2))) from by (refine w5 (n:=2) ?_ ?_ ?_ ?_;rfl;(refine d7 ?_ ?_ ?_;(exact (c6 (i:=3) v5.nd rfl (q0y rfl)));(refine d7 ?_ ?_ ?_;(exact (c6 (i:=0) v5.nd rfl (z0z rfl)));(exact p4);rfl);rfl);rfl;rfl)))
   (b8 (aq4 PassesOwn.never (l5 aY6 (pv 3) aT2 (j9 _)) (b8 (F7 (d8 i6 (pv 0) (pv 3) (λ_ _=>rfl)) (show PG _ _ (E9 K 2 (k6 (k9 7) (k6 (k9 8) F2))) from by (refine w5 (n:=2) ?_ ?_ ?_ ?_;rfl;(refine d7 ?_ ?_ ?_;(exact (c6 (i:=7) v5.nd rfl (q0y rfl)));(refine d7 ?_ ?_ ?_;(exact (c6 (i:=8) v5.nd rfl (q0y rfl)));(exact p4);rfl);rfl);rfl;rfl)))
   (b8 (i8 (i:=4) v5.nd rfl (q0y rfl) (O5 U0 (pv 8) (V1 (h8 k8 rfl n_len (by decide +kernel) (a7 (pv 0) a8))) V2))
   (b8 (i8 (i:=5) v5.nd rfl (z0z rfl) (d6 G_content_of hr (a7 (pv 4) a8) j0))
   (b8 (i8 (i:=6) v5.nd rfl (q0y rfl) (d6 G_fraction hr (a7 (i7 q8 (i7 q8 (pv 2) (pv 7)) (d8 i6 (pv 8) (pv 3) (λ_ _=>rfl))) (a7 (i7 q8 (pv 5) (pv 5)) a8)) j0))
   (b8 (Z4 (R4 PySem.F.plainAttrs_list PySem.F.slot_list_append PySem.F.type_list_append B9 (pv 1) (a7 (m5 (a7 (w8 (Nc:=["content","whole"]) (caps:=[some 5,none]) rfl (J3.of (osc:=b9 Q4) (N:=["vectors","found","before","at","column","content","square","scale","row"]) (ks:=["content"]) rfl rfl rfl rfl (j5 rfl l9) (by decide +kernel)) (x9 (pv 4)) (λC s₂ H₂ fp pins=>(c6 (i:=1) (show z0t (["content","whole"]:List Str) by decide +kernel) rfl (q0y rfl) (z0z rfl))) (λC s₂ H₂ fp pins=>(i7 A7 (pv 1) (pv 0)))) (a7 (pv 6) a8))) a8)))
   (b8 (i8 (i:=0) v5.nd rfl (z0z rfl) (d6 G_upright_to hr (a7 (pv 0) (a7 (pv 3) (a7 (pv 2) a8))) j0))
   (b8 (i8 (i:=2) v5.nd rfl (q0y rfl) (d8 i6 (pv 8) (pv 3) (λ_ _=>rfl)))
   (c4 (F7 (d6 G_with_square hr (a7 (pv 0) a8) j0) (show PG _ _ (E9 K 2 (k6 (k9 3) (k6 (k9 0) F2))) from by (refine w5 (n:=2) ?_ ?_ ?_ ?_;rfl;(refine d7 ?_ ?_ ?_;(exact (c6 (i:=3) v5.nd rfl (q0y rfl)));(refine d7 ?_ ?_ ?_;(exact (c6 (i:=0) v5.nd rfl (z0z rfl)));(exact p4);rfl);rfl);rfl;rfl))))))))))))
   (c4 (i9 (i7 V6 (pv 1) (w8 (Nc:=["vectors","scale","row"]) (caps:=[some 0,none,none]) rfl (J3.of (osc:=b9 Q4) (N:=["vectors","found","before","at","column","content","square","scale","row"]) (ks:=["vectors"]) rfl rfl rfl rfl (j5 rfl l9) (by decide +kernel)) (x9 (pv 0)) (λC s₂ H₂ fp pins=>(show PG _ _ (E9 K 2 (k6 (k9 1) (k6 (k9 2) F2))) from by (refine w5 (n:=2) ?_ ?_ ?_ ?_;rfl;(refine d7 ?_ ?_ ?_;(exact (c6 (i:=1) (show z0t (["vectors","scale","row"]:List Str) by decide +kernel) rfl (q0y rfl) (z0z rfl)));(refine d7 ?_ ?_ ?_;(exact (c6 (i:=2) (show z0t (["vectors","scale","row"]:List Str) by decide +kernel) rfl (q0y rfl) (z0z rfl)));(exact p4);rfl);rfl);rfl;rfl))) (λC s₂ H₂ fp pins=>(m5 (a7 (d6 G_over_content hr (a7 (O5 (by exact U0:SlR _ (aH3 K)) (pv 2) (V1 (h8 (by exact k8:Y4 _ (.builtin "len") (aD6 K)) rfl n_len (by decide +kernel) (a7 (pv 0) a8))) V2) a8) j0) (a7 (z8 (v:=.ref _) rfl c_NOUGHT rfl) a8)))))))))))),?_⟩
 rw [show start ["vectors","found","before","at","column","content","square","scale","row"] [.ref a]=[some (.ref a),none,none,none,none,none,none,none,none] from rfl]
 have n7:=F.n7;refine c9 (λσ H1 => ∃ lf,σ=[some (.ref a),some (.ref lf),none,none,none,none,none,none,none]/\c5 H H1/\H lf=none/\H1 lf=some (.lst [])) (λN hN=>?_) ?_
 ·subst_eqs
  exact ⟨by decide,λp hp=>hN _ _ ⟨p,rfl,c5.new hp _,hp,a9⟩⟩
 rintro σ H1 ⟨lf,rfl,S1,flf,elf⟩;refine c9 (λσ H2=>σ=[some (.ref a),some (.ref lf),some (.int 1),none,none,none,none,none,none]/\H2=H1) (λN hN=>?_) ?_
 ·subst_eqs
  exact hN _ _ ⟨rfl,rfl⟩
 rintro σ H2 ⟨rfl,rfl⟩;obtain ⟨J,hJ⟩:∃ J:Nat->L2.St->Hp->Prop,∀ m σ H3,J m σ H3 ↔ ∃ (k j:Nat) (es:Nat->Vc) (ss:Nat->Int) (bf:Int) (ws:List (Int × List Int)) (e:Nat->Vc) (lv:Addr) (us:List V) (v:V) (found:List (List Int × Rat)) (fs:List V) (o4 o5 o6 o7 o8:Option V),σ=[some (.ref lv),some (.ref lf),some (.int bf),some v,o4,o5,o6,o7,o8]/\c5 H H3/\H3 lv=some (.lst us)/\lv ≠ lf/\VsH (λl=>l ≠ lf) H3 us ws/\H3 lf=some (.lst fs)/\FdH K (λl=>l ≠ lf) H3 fs found/\Sq N A Bt j k es ss bf ws e/\j<=k+1/\Fnd N A Bt W es k found/\bh4 ws v/\m=ws.length:=⟨_,λ_ _ _=>Iff.rfl⟩;refine c9 (λσ H3=>J ws.length σ H3) (λNn hN=>?_) ?_
 ·subst_eqs
  have al:a ≠ lf:=c7 ea flf;have hv1:=(hv.same S1);have hX:∀ l,l ≠ lf->l ≠ lf:=λl h=>h
  have hv2:VsH (λl=>l ≠ lf) H2 us ws:=by
   have:∀ {vs:List V} {ws:List (Int × List Int)},VsH X H vs ws->VsH (λl=>l ≠ lf) H2 vs ws:=fun {vs ws} h=>by
    induction h with
    | nil=>exact .nil
    | cons h e f t ih=>exact .cons (S1 _ _ h) (S1 _ _ e) (c7 e flf) ih
   exact this hv
  refine aK0 F hW S0 (q0k _) (S1 _ _ ea) al hv2 hX elf λr b us' ws' e' j' v H3 s3 er eb bl' hv' S' jk hat=>?_;refine ⟨r,rfl,_,SqT.of er,rfl,_,_,rfl,_,_,rfl,rfl,hN _ _ ((hJ _ _ _).mpr ⟨0,j',es,ss,1,ws',e',b,us',v,[],[],_,_,_,_,_,rfl,S1.trans s3,eb,bl',hv',s3 _ _ elf,.nil,S',jk,⟨rfl,λc col q h=>by simp at h⟩,hat,?_⟩)⟩
  have h1:=S0.km;have h2:=S'.km;omega
 rintro σ H3 hJ3;refine c9 (λσ H4 => ∃ m,J m σ H4/\σ[3]? = some (some .non)) (λNn Nn'=>?_) ?_
 ·show aq2 _ _ _ _ _
  refine aX8 J ws.length hJ3 ?_;intro m σ H4 hm;obtain ⟨k,j,es,ss,bf,ws,e,lv,us,v,found,fs,o4,o5,o6,o7,o8,rfl,s4,elv,lvf,hv4,el4,fd4,S,jk,fnd,hat,rfl⟩:=(hJ _ _ _).mp hm
  subst_eqs
  refine A9 (λhv'=>WhG.mk ?_) (λhv'=>Nn' _ _ ⟨_,hm,?_⟩)
  ·obtain ⟨at',sa,ra,rfl,g,h0⟩:∃ (at':Nat) (sa:Int) (ra:List Int),v=.int at'/\ws[at']? = some (sa,ra)/\aZ ra at' ≠ 0:=by
    rcases hat with ⟨z,_⟩ | z
    ·exact absurd z (by simpa using hv')
    ·exact z
   have km:=S.km;have lus:=hv4.length;have hatl:=(q0h.mp g).1;obtain ⟨Va,lra,_,_⟩:=S.cur _ _ _ g;obtain ⟨va,hva⟩:∃ v,us[at']? = some v:=⟨_,q0c ⋯⟩;obtain ⟨pa,la,sa',ra',rfl,ga,epa,ela,laf⟩:=hv4.get hva;rw [g] at ga
   cases ga
   obtain ⟨cn0,cnb,tcol,qcol⟩:=S.col F hW g h0
   have bW:∀ (i:Nat) (s:Int) (row:List Int),ws[i]? = some (s,row)->row.length=ra.length/\∀ j,(aZ row j).natAbs<2 ^ 2999:=λi s row h=>by
    obtain ⟨_,l,_,_⟩:=S.cur _ _ _ h;refine ⟨⋯,λj=>q0m (S.bits F h j) (z0h (by decide) ?_)⟩
    have:(W+15+4)*(k+1)<=(W+19)*7:=j0u ⋯ ⋯;omega
   have get':∀ {G:List Int} {i:Nat},i<G.length->(G.map V.int)[i]? = some (.int (aZ G i)):=fun {G i} h=>by
    unfold aZ;rw [q0f,q0c h];rfl
   refine c9 (λσ H5=>σ=[some (.ref lv),some (.ref lf),some (.int bf),some (.int (at':Int)),o4,o5,o6,some (.int sa),some (.ref la)]/\H5=H4) (λN hN=>?_) ?_
   ·subst_eqs
    exact ⟨_,SqL.of elv,_,j3 hva,pa,rfl,_,SqT.of epa,rfl,_,_,rfl,_,_,rfl,rfl,hN _ _ ⟨rfl,rfl⟩⟩
   rintro σ H5 ⟨rfl,rfl⟩;refine c9 (λσ H6 => ∃ lc,σ=[some (.ref lv),some (.ref lf),some (.int bf),some (.int (at':Int)),some (.ref lc),o5,o6,some (.int sa),some (.ref la)]/\c5 H5 H6/\H6 lc=some (.lst ((ra.drop ws.length).map V.int))) (λN hN=>?_) ?_
   ·simp only [aD6,au0,Q6,K4,aF6,tSl,al9,T8,U9,an3,A5,j0a,u0v,g0p,g0q,g0r,ay5,aC8,aD1,tOr,aC6,al8,tB,tOp,tUn,aD0,tBM,Y5,tC,tCB,ay6,ao6,k9,ap3,E9,k6,F2,T9,ao5,ay7,aC5,aC7,tIf,am3,am0,at5,Y6,am2,am1,ab0,aa9,rI,rI0,rU,U8,Z3,au1,aa4,rEq,rNe,ab9,ab8,ab7,aD7,an2,an1,aa7,ad4,cxR,cxX,Cx.nox,Cx.wish,Cx.body,Cx.suite,u0b,u0c,v0v,v0w,Option.some.injEq,V.int.injEq,V.bl.injEq,V.ref.injEq,V.str.injEq,exists_eq_left',exists_eq_left,exists_and_left,true_and,and_true,List.cons.injEq,reduceCtorEq,y0s,if_false,if_true,exists_const,↓reduceIte,tyV,j0x,m0a,exists_eq,v0b,g0s,m0b,decide_eq_true_eq,not_true_eq_false,not_false_eq_true,y0k,decide_eq_false_iff_not,m0s,m0j,and_assoc,false_and,false_or,or_false]
    refine ⟨_,.inl (SqL.of elv),U1 (SqL.of ela) λq H6 f6 s6 e6=>hN _ _ ⟨q,rfl,s6,?_⟩⟩;rw [lus,ad5 _ (by rw [q0b];omega),<- List.map_drop] at e6
    exact e6
   rintro σ H6 ⟨lc,rfl,s6,ec⟩;have bcol:∀ v ∈ ra.drop ws.length,j0m v<2 ^ 2999:=λv hv=>as9 (λt=>by rw [af0];exact (bW _ _ _ g).2 _) v hv
   refine c9 (λσ H7=>σ=[some (.ref lv),some (.ref lf),some (.int bf),some (.int (at':Int)),some (.ref lc),some (.int (J2 (ra.drop ws.length):Nat)),o6,some (.int sa),some (.ref la)]/\H7=H6) (λN hN=>?_) ?_
   ·subst_eqs
    exact ⟨lc,_,rfl,SqL.of ec,λv hv=>q0d (bcol v hv) (i5 (by decide)),hN _ _ ⟨rfl,rfl⟩⟩
   rintro σ H7 ⟨rfl,rfl⟩;obtain ⟨cn,hcn⟩:∃ cn,cn=J2 (ra.drop ws.length):=⟨_,rfl⟩;rw [<- hcn] at cn0 cnb tcol qcol;rw [<- hcn];refine c9 (λσ H8 => ∃ ps,σ=[some (.ref lv),some (.ref lf),some (.int bf),some (.int (at':Int)),some (.ref lc),some (.int (cn:Int)),some (.ref ps),some (.int sa),some (.ref la)]/\c5 H7 H8/\H8 ps=some (.tup (A1 (q0w (bf*sa*aZ ra at') ((cn:Int)*(cn:Int)))))) (λN hN=>?_) ?_
   ·simp! [ag4]
    have bfb:=S.bfb F hW;have sab:sa.natAbs<2 ^ 1000:=q0m (Va.le F) (q0d F.bW (i5 ⋯))
    have bsb:(bf*sa).natAbs<2 ^ 3999:=by
     rw [z0a,show 3999=2999+1000 from rfl,z0u];exact j0e bfb sab
    have cb:(cn:Int).natAbs<2 ^ 6000:=by
     rw [q0r];exact q0m (u0a _ ⋯) cnb
    refine ⟨L6 bfb sab (by decide),_,SqL.of (s6 _ _ ela),_,j3 (get' ⋯),_,rfl,L6 bsb ((bW _ _ _ g).2 _) (by decide),L6 cb cb (by decide),?_,?_,λp H8 s8 e8=>hN _ _ ⟨p,rfl,s8,e8⟩⟩
    ·rw [<- j0h,q0r];exact cnb
    ·exact y0a ⋯ ⋯
   rintro σ H8 ⟨ps,rfl,s8,eps⟩;rw [qcol] at eps;have S48:=s6.trans s8;have lcol:((ra.drop ws.length).map λv=>v.fdiv (cn:Int)).length=N:=tcol.1;have lfs:=fd4.length;have lfn:=fnd.len;refine c9 (λσ H9 => ∃ fs',σ=[some (.ref lv),some (.ref lf),some (.int bf),some (.int (at':Int)),some (.ref lc),some (.int (cn:Int)),some (.ref ps),some (.int sa),some (.ref la)]/\c5 H H9/\H9 lv=some (.lst us)/\VsH (λl=>l ≠ lf) H9 us ws/\H9 lf=some (.lst fs')/\H9 la=some (.lst (ra.map V.int))/\FdH K (λl=>l ≠ lf) H9 fs' (found ++ [((ra.drop ws.length).map (λv=>v.fdiv (cn:Int)),bl N A (vc ((ra.drop ws.length).map λv=>v.fdiv (cn:Int))) (vc ((ra.drop ws.length).map λv=>v.fdiv (cn:Int))))])) (λN' hN=>?_) ?_
   ·subst_eqs
    have cb:(cn:Int).natAbs<2 ^ 6000:=by
     rw [q0r];exact q0m (u0a _ ⋯) cnb
    refine ⟨.inl ⟨_,SqL.of (S48 _ _ el4)⟩,⟨_,SqL.of (s8 _ _ ec)⟩,λD hD=>bg5 (s8 _ _ ec) hD (by rw [j0w];omega) ⋯ cb λH9 s9 e9=>⟨u0,λp hp=>?_⟩⟩
    have X1:=c5.new hp (.tup [.ref D,.ref ps]);have u1:upd H9 p (.tup [.ref D,.ref ps]) p=some (.tup [.ref D,.ref ps]):=a9;generalize upd H9 p (.tup [.ref D,.ref ps])=HX at *;have S8X:=s9.trans X1;have S4X:=S48.trans S8X;have elX:=S4X _ _ el4;have Dlf:D ≠ lf:=(c7 (S48 _ _ el4) hD).symm;have plf:p ≠ lf:=(c7 ((S48.trans s9) _ _ el4) hp).symm;have epX:=S8X.tups _ _ eps;have fdX:=(fd4.same S4X).over (o:=.lst (fs ++ [.ref p])) elX λl hl=>hl;refine ⟨fs,elX,t5 ⋯,hN _ _ ⟨fs ++ [.ref p],rfl,(s4.trans S4X).over flf _,by rw [c8 lvf];exact S4X _ _ elv,(hv4.same S4X).over elX λl hl=>hl,a9,by rw [c8 laf];exact S4X _ _ ela,?_⟩⟩
    refine FdH.append (FdH.cons (X:=λl=>l ≠ lf) (l:=D) (by rw [c8 plf];exact u1) (by rw [c8 Dlf];exact X1 _ _ e9) (aE9 elX ⟨ps,rfl,.inl epX⟩) Dlf .nil) fdX
   rintro σ H9 ⟨fs',rfl,s9,elv9,hv9,elf9,ela9,fd9⟩;obtain ⟨S',hpx,_⟩:=S.up F g h0;have bfb:=S.bfb F hW;refine c9 (λσ HA => ∃ lw us',σ=[some (.ref lw),some (.ref lf),some (.int bf),some (.int (at':Int)),some (.ref lc),some (.int (cn:Int)),some (.ref ps),some (.int sa),some (.ref la)]/\c5 H9 HA/\HA lw=some (.lst us')/\lw ≠ lf/\VsH (λl=>l ≠ lf) HA us' (upV bf at' ra ws)) (λN' hN=>?_) ?_
   ·subst_eqs
    exact ⟨lv,us,ws,_,at',bf,sa,ra,2999,rfl,elv9,hv9,g,⋯,⋯,⋯,bW,S.b0 F,bfb,by decide,λr us' HA sA fA eA vA=>hN _ _ ⟨r,us',rfl,sA,eA,(c7 elf9 fA).symm,vA.to λl hl=>(c7 elf9 hl.1).symm⟩⟩
   rintro σ HA ⟨lw,us',rfl,sA,ew,lwf,vA⟩;refine c9 (λσ HB=>σ=[some (.ref lw),some (.ref lf),some (.int (aZ ra at')),some (.int (at':Int)),some (.ref lc),some (.int (cn:Int)),some (.ref ps),some (.int sa),some (.ref la)]/\HB=HA) (λN' hN=>?_) ?_
   ·subst_eqs
    exact ⟨_,SqL.of (sA _ _ ela9),_,j3 (get' ⋯),hN _ _ ⟨rfl,rfl⟩⟩
   rintro σ HB ⟨rfl,rfl⟩;have fdA:=fd9.same sA
   subst_eqs
   refine aK0 F hW S' jk ew lwf vA (λl h=>h) (sA _ _ elf9) λr b us2 ws2 e2 j2 v2 HC sC er eb bl2 hv2 S2 jk2 hat2=>?_;refine ⟨r,rfl,_,SqT.of er,rfl,_,_,rfl,_,_,rfl,rfl,WgN.mk (m':=ws2.length) ?_ ((hJ _ _ _).mpr ⟨k+1,j2,_,_,aZ ra at',ws2,e2,b,us2,v2,_,_,_,_,_,_,_,rfl,s9.trans (sA.trans sC),eb,bl2,hv2,sC _ _ (sA _ _ elf9),fdA.same sC,S2,jk2,fnd.snoc ?_,hat2,rfl⟩)⟩
   ·have:=S2.km
    omega
   ·rw [hpx];exact tcol
  ·have:v=.non:=by simpa using hv'
   rw [this];rfl
 rintro σ H4 ⟨m,hm,hv3⟩;obtain ⟨k,j,es,ss,bf,ws,e,lv,us,v,found,fs,o4,o5,o6,o7,o8,rfl,s4,elv,lvf,hv4,el4,fd4,S,jk,fnd,hat,rfl⟩:=(hJ _ _ _).mp hm;have hvn:v=.non:=by simpa using hv3
 subst_eqs
 have km:=S.km;have lus:=hv4.length;have lfs:=fd4.length;have lfn:=fnd.len
 have hz:∀ (i:Nat) (s:Int) (row:List Int),ws[i]? = some (s,row)->∀ c,i<=c->c<ws.length->aZ row c=0:=by
  rcases hat with ⟨_,z⟩ | ⟨_,_,_,z,_⟩
  ·exact z
  ·rw [hvn] at z;cases z
 refine ⟨⟨_,SqL.of elv⟩,λD hD=>?_⟩;obtain ⟨I,hI⟩:∃ I:Nat->L2.St->Hp->Prop,∀ i σ H5,I i σ H5 ↔ ∃ (o1 o2:Option V) (zs:List V) (R:List (List Int)),σ=[some (.ref lv),o1,o2]/\c5 H4 H5/\H5 D=some (.lst zs)/\FdH K (λl=>H4 l=none/\l ≠ D) H5 zs (R.map λc=>(c,0))/\R.length=i/\∀ (i':Nat) (col:List Int),R[i']? = some col->Tc N (cw Bt W k) col (Pr N A es k (e i')):=⟨_,λ_ _ _=>Iff.rfl⟩;refine B7 us I ((hI _ _ _).mpr ⟨_,_,[],[],rfl,c5.new hD _,a9,.nil,rfl,λi' col h=>by simp at h⟩) (λi σ H5 _ h=>by obtain ⟨_,_,_,_,_,s5,_⟩:=(hI _ _ _).mp h;exact SqL.of (s5 _ _ elv)) ?_ ?_
 ·intro i x σ H5 hx h
  obtain ⟨o1,o2,zs,R,rfl,s5,e5,f5,lR,tR⟩:=(hI _ _ _).mp h;obtain ⟨p,l,s,row,rfl,g,ep,el,_⟩:=(hv4.same s5).get hx;have hi:=(q0h.mp g).1;obtain ⟨V',lr,_,_⟩:=S.cur _ _ _ g;have lzs:=f5.length;rw [q0b] at lzs;simp only [aD6,au0,Q6,K4,aF6,tSl,al9,T8,U9,an3,A5,j0a,u0v,g0p,g0q,g0r,ay5,aC8,aD1,tOr,aC6,al8,tB,tOp,tUn,aD0,tBM,Y5,tC,tCB,ay6,ao6,k9,ap3,E9,k6,F2,T9,ao5,ay7,aC5,aC7,tIf,am3,am0,at5,Y6,am2,am1,ab0,aa9,rI,rI0,rU,U8,Z3,au1,aa4,rEq,rNe,ab9,ab8,ab7,aD7,an2,an1,aa7,ad4,cxR,cxX,Cx.nox,Cx.wish,Cx.body,Cx.suite,u0b,u0c,v0v,v0w,Option.some.injEq,V.int.injEq,V.bl.injEq,V.ref.injEq,V.str.injEq,exists_eq_left',exists_eq_left,exists_and_left,true_and,and_true,List.cons.injEq,reduceCtorEq,y0s,if_false,if_true,exists_const,↓reduceIte,tyV,j0x,m0a,exists_eq,v0b,g0s,m0b,decide_eq_true_eq,not_true_eq_false,not_false_eq_true,y0k,decide_eq_false_iff_not,m0s,m0j,and_assoc,false_and,false_or,or_false];refine ⟨_,SqT.of ep,rfl,_,_,rfl,_,_,rfl,rfl,_,.inl (SqL.of (s5 _ _ elv)),U1 (SqL.of el) λq H6 f6 s6 e6=>?_⟩;rw [lus,ad5 _ (by rw [q0b];omega),<- List.map_drop] at e6
  have bR:∀ v ∈ row.drop ws.length,j0m v<2 ^ 6000:=λv hv=>as9 (λt=>by
   rw [af0];refine q0m (S.bits F g _) (z0h (by decide) ?_)
   have:(W+15+4)*(k+1)<=(W+19)*7:=j0u ⋯ ⋯;omega) v hv
  refine ⟨q,_,rfl,e6,bR,by rw [j0w];omega,λr zs2 hh H7 s7 f7 e7 lz7 h1 eh=>⟨u0,λp7 hp7=>?_⟩⟩
  have X7:=c5.new hp7 (.tup [.ref r,.ref aN]);have u7:upd H7 p7 (.tup [.ref r,.ref aN]) p7=some (.tup [.ref r,.ref aN]):=a9;generalize upd H7 p7 (.tup [.ref r,.ref aN])=H8 at *;have S58:=s6.trans (s7.trans X7);have e8:=S58 _ _ e5;have lzN:zs2.length=N:=by rw [lz7,j0w];omega
  obtain ⟨t1,t2⟩:=S.tc F g lzN ⋯ eh;have rD:r ≠ D:=(c7 (s6 _ _ e5) f7).symm;have pD:p7 ≠ D:=(c7 ((s6.trans s7) _ _ e5) hp7).symm;have fdX:=(f5.same S58).over (o:=.lst (zs ++ [.ref p7])) e8 λl hl=>hl.2;refine r6.mk ⋯ e8 (t5 ⋯) ((hI _ _ _).mpr ⟨_,_,_,R ++ [zs2],rfl,(s5.trans S58).over hD _,a9,?_,by rw [j0g,lR];rfl,λi' col h'=>?_⟩)
  ·rw [j0v]
   exact FdH.append (FdH.cons (by rw [c8 pD];exact u7) (by rw [c8 rD];exact X7 _ _ e7) ⟨aN,rfl,.inr tN⟩ ⟨s5.free (s6.free f7),rD⟩ .nil) fdX
  ·rcases z0q i' i with y | y
   ·rw [j0f ⋯] at h'
    exact tR _ _ h'
   ·rw [j0k ⋯,lR] at h'
    have i0:i'-i=0:=by
     have:=(q0h.mp h').1
     simp at this;omega
    rw [i0] at h'
    cases h'
    rw [show i'=i by omega]
    exact ⟨lzN,S.cb F g ⋯ eh,_,t2,t1⟩
 ·intro σ H5 h
  obtain ⟨o1,o2,zs,R,rfl,s5,e5,f5,lR,tR⟩:=(hI _ _ _).mp h;have lzs:=f5.length;rw [q0b] at lzs;refine ⟨D,rfl,fs,s5 _ _ el4,zs,e5,q0p (show _<=100 by omega) (by decide),λp hp=>?_⟩
  have X:=c5.new hp (.lst (fs ++ zs));have res:=S.finish F fnd ⋯ tR hz;refine kk p _ (found ++ R.map λc=>(c,0)) _ (s4.trans (s5.trans X)) (s4.free (s5.free hp)) a9 (FdH.append ((f5.same X).to λ_ _=>trivial) (((fd4.same s5).same X).to λ_ _=>trivial)) ?_
  have e1:(found ++ R.map λc=>(c,(0:Rat))).map (·.1)=found.map (·.1) ++ R:=by
   rw [j0v,m0y]
   congr 1
   exact List.map_id _
  have e2:(found ++ R.map λc=>(c,(0:Rat))).map (·.2)=found.map (·.2) ++ y0m ws.length 0:=by
   rw [j0v,m0y]
   congr 1
   refine List.ext_getElem (by simp;omega) λi h1 h2=>by simp
  rw [e1,e2];exact res
def ab2 (K:q0a):Sp:=λvs H Q _ => ∃ (a:Addr) (ts:List Addr) (M:List (List Rat)),vs=[.ref a]/\H a=some (.lst (ts.map V.ref))/\Rws H ts M/\(∀ L ∈ M,L.length=M.length)/\M.length<=8/\ah4 H Q (w4 M M.length)
abbrev ab6:Stmt:=top 33
theorem aO8:j1 ["table"] ["table"] (b9 ab6):=by and_intros
theorem aP4 {f:Addr} (d:Df K mg "turned" ab6 ["table"] f) (n_range:mg "range" = none) (n_len:mg "len" = none):Def P w K mg base CX0 1 "turned" f ["table"] (ab2 K):=by
 refine d.ok (N:=["table"]) aO8 (by rintro vs H Q E ⟨_,_,_,h,_⟩;rw [h];rfl) (λcdv A outer s H vs Q E hr h=>?_)
 obtain ⟨a,ts,M,rfl,ha,hR,hM,hl,k⟩:=h;refine ⟨_,(c4 (i9 (ac2 (Nc:=["table","place"]) (caps:=[some 0,none]) rfl (ag1.of (osc:=b9 ab6) (N:=["table"]) (ks:=["table"]) rfl rfl rfl rfl (j5 rfl l9) (by decide +kernel)) (o0 rfl n_range (a7 (h8 k8 rfl n_len (by decide +kernel) (a7 (pv 0) a8)) a8)) (λC s₂ H₂ fp pins=>(c6 (i:=1) (show z0t (["table","place"]:List Str) by decide +kernel) rfl (z0z rfl) (q0y rfl))) (λC s₂ H₂ fp pins=>(w8 (Nc:=["place","row"]) (caps:=[some 1,none]) rfl (J3.of (osc:=_) (N:=["table","place"]) (ks:=["place"]) rfl rfl rfl rfl (j5 rfl l9) (by kernel_rfl)) (show PI _ _ _ (aa7 K _) from by exact (x9 (pv 0))) (λC s₂ H₂ fp pins=>(c6 (i:=1) (show z0t (["place","row"]:List Str) by decide +kernel) rfl (q0y rfl) (z0z rfl))) (λC s₂ H₂ fp pins=>(d8 (by exact i6:IxR _ (Z3 K)) (pv 1) (pv 0) (λ_ _=>rfl)))))))),?_⟩
 rw [show start ["table"] [.ref a]=[some (.ref a)] from rfl]
 subst_eqs
 have hRl:=hR.length;refine ⟨_,.inl (SqL.of ha),⋯,by rw [q0b];omega,λD hD=>?_⟩
 refine G0 (λi σ H2 => ∃ o,σ=[some (.ref a),o]/\G1 H D ((w4 M M.length).take i) H2) ⟨_,rfl,G1.start hD⟩ ?_ ?_
 ·rintro i σ H2 hi ⟨o,rfl,T⟩
  subst_eqs
  have ha2:=T.same _ _ ha;have hi':i<M.length:=by rw [q0b] at hi;omega
  refine ⟨⟨_,SqL.of ha2⟩,λD2 hD2=>?_⟩;refine B7 (ts.map V.ref) (λj σ H3 => ∃ o,σ=[some (.int (0+i)),o]/\G2 H2 D2 ((ah3 M i).take j) H3) ⟨_,rfl,G2.start hD2⟩ (λj σ H3 _ ⟨_,_,R⟩=>SqL.of (R.same _ _ ha2)) ?_ ?_
  ·rintro j x σ H3 hx ⟨o,rfl,R⟩
   obtain ⟨t,ht,rfl⟩:=Q8 hx;obtain ⟨xs,L,hL,et,nt⟩:=hR.get ht
   subst_eqs
   have hLl:L.length=M.length:=hM L (q0j hL);have hq:L[i]? = some L[i]:=q0c ⋯;obtain ⟨p,hp,ep⟩:=nt.get hq;have S:=T.same.trans R.same;refine ⟨xs,SqL.of (S _ _ et),_,by rw [y0w,j3];exact hp,?_⟩
   have hj:=(q0h.mp hx).1;obtain ⟨ys,eD,yl,R'⟩:=R.add hD2 (λb o h=>h) (S _ _ ep);refine r6.mk hj eD (t5 (by rw [yl,q0x,Z9];omega)) ⟨_,rfl,?_⟩
   rw [d9 (l:=ah3 M i) (x:=L[i]) (by unfold ah3;rw [q0f,hL];simp only [Option.map_some,hq,Option.getD_some])]
   exact R'
  ·rintro σ H3 ⟨o,rfl,R⟩
   rw [t9 (by rw [q0b,Z9];omega)] at R
   obtain ⟨ys,eD,yl,T'⟩:=T.add hD hD2 R;refine r6.mk hi eD (t5 (by rw [yl,q0x,T0];omega)) ⟨_,rfl,?_⟩
   rw [d9 (aF8 hi')];exact T'
 ·rintro σ H2 ⟨o,rfl,T⟩
  rw [t9 (by rw [T0,q0b];omega)] at T
  exact T.res k hD
abbrev F6:Stmt:=top 55
theorem ao7:j1 ["_law_table"] ["_law_table"] (b9 F6):=by and_intros
theorem ap0 {f:Addr} (d:Df K mg "_law_flipped" F6 ["_law_table"] f) (n_range:mg "range" = none) (n_len:mg "len" = none):Def P w K mg base CX0 1 "_law_flipped" f ["_law_table"] (ab2 K):=by
 refine d.ok (N:=["_law_table"]) ao7 (by rintro vs H Q E ⟨_,_,_,h,_⟩;rw [h];rfl) (λcdv A outer s H vs Q E hr h=>?_)
 obtain ⟨a,ts,M,rfl,ha,hR,hM,hl,k⟩:=h;refine ⟨_,(c4 (i9 (ac2 (Nc:=["_law_table","_law_j"]) (caps:=[some 0,none]) rfl (ag1.of (osc:=b9 F6) (N:=["_law_table"]) (ks:=["_law_table"]) rfl rfl rfl rfl (j5 rfl l9) (by decide +kernel)) (o0 rfl n_range (a7 (h8 k8 rfl n_len (by decide +kernel) (a7 (pv 0) a8)) a8)) (λC s₂ H₂ fp pins=>(c6 (i:=1) (show z0t (["_law_table","_law_j"]:List Str) by decide +kernel) rfl (z0z rfl) (q0y rfl))) (λC s₂ H₂ fp pins=>(w8 (Nc:=["_law_j","_law_row"]) (caps:=[some 1,none]) rfl (J3.of (osc:=_) (N:=["_law_table","_law_j"]) (ks:=["_law_j"]) rfl rfl rfl rfl (j5 rfl l9) (by kernel_rfl)) (show PI _ _ _ (aa7 K _) from by exact (x9 (pv 0))) (λC s₂ H₂ fp pins=>(c6 (i:=1) (show z0t (["_law_j","_law_row"]:List Str) by decide +kernel) rfl (q0y rfl) (z0z rfl))) (λC s₂ H₂ fp pins=>(d8 (by exact i6:IxR _ (Z3 K)) (pv 1) (pv 0) (λ_ _=>rfl)))))))),?_⟩
 rw [show start ["_law_table"] [.ref a]=[some (.ref a)] from rfl]
 subst_eqs
 have hRl:=hR.length;refine ⟨_,.inl (SqL.of ha),⋯,by rw [q0b];omega,λD hD=>?_⟩
 refine G0 (λi σ H2 => ∃ o,σ=[some (.ref a),o]/\G1 H D ((w4 M M.length).take i) H2) ⟨_,rfl,G1.start hD⟩ ?_ ?_
 ·rintro i σ H2 hi ⟨o,rfl,T⟩
  subst_eqs
  have ha2:=T.same _ _ ha;have hi':i<M.length:=by rw [q0b] at hi;omega
  refine ⟨⟨_,SqL.of ha2⟩,λD2 hD2=>?_⟩;refine B7 (ts.map V.ref) (λj σ H3 => ∃ o,σ=[some (.int (0+i)),o]/\G2 H2 D2 ((ah3 M i).take j) H3) ⟨_,rfl,G2.start hD2⟩ (λj σ H3 _ ⟨_,_,R⟩=>SqL.of (R.same _ _ ha2)) ?_ ?_
  ·rintro j x σ H3 hx ⟨o,rfl,R⟩
   obtain ⟨t,ht,rfl⟩:=Q8 hx;obtain ⟨xs,L,hL,et,nt⟩:=hR.get ht
   subst_eqs
   have hLl:L.length=M.length:=hM L (q0j hL);have hq:L[i]? = some L[i]:=q0c ⋯;obtain ⟨p,hp,ep⟩:=nt.get hq;have S:=T.same.trans R.same;refine ⟨xs,SqL.of (S _ _ et),_,by rw [y0w,j3];exact hp,?_⟩
   have hj:=(q0h.mp hx).1;obtain ⟨ys,eD,yl,R'⟩:=R.add hD2 (λb o h=>h) (S _ _ ep);refine r6.mk hj eD (t5 (by rw [yl,q0x,Z9];omega)) ⟨_,rfl,?_⟩
   rw [d9 (l:=ah3 M i) (x:=L[i]) (by unfold ah3;rw [q0f,hL];simp only [Option.map_some,hq,Option.getD_some])]
   exact R'
  ·rintro σ H3 ⟨o,rfl,R⟩
   rw [t9 (by rw [q0b,Z9];omega)] at R
   obtain ⟨ys,eD,yl,T'⟩:=T.add hD hD2 R;refine r6.mk hi eD (t5 (by rw [yl,q0x,T0];omega)) ⟨_,rfl,?_⟩
   rw [d9 (aF8 hi')];exact T'
 ·rintro σ H2 ⟨o,rfl,T⟩
  rw [t9 (by rw [T0,q0b];omega)] at T
  exact T.res k hD
def aK4:Sp:=λvs H Q _ => ∃ n:Nat,vs=[.int n]/\n<=8/\ah4 H Q (aa8 n)
abbrev O3:Stmt:=top 54
theorem az3:j1 ["_law_n"] ["_law_n"] (b9 O3):=by and_intros
theorem aA2 {f:Addr} (d:Df K mg "_law_unit" O3 ["_law_n"] f) (n_range:mg "range" = none) (n_int:mg "int" = none):Def P w K mg base CX0 1 "_law_unit" f ["_law_n"] aK4:=by
 refine d.ok (N:=["_law_n"]) az3 (by rintro vs H Q E ⟨_,h,_⟩;rw [h];rfl) (λcdv A outer s H vs Q E hr h=>?_)
 obtain ⟨n,rfl,hn,k⟩:=h;refine ⟨_,(c4 (i9 (ac2 (Nc:=["_law_n","_law_i"]) (caps:=[some 0,none]) rfl (ag1.of (osc:=b9 O3) (N:=["_law_n"]) (ks:=["_law_n"]) rfl rfl rfl rfl (j5 rfl l9) (by decide +kernel)) (o0 rfl n_range (a7 (pv 0) a8)) (λC s₂ H₂ fp pins=>(c6 (i:=1) (show z0t (["_law_n","_law_i"]:List Str) by decide +kernel) rfl (z0z rfl) (q0y rfl))) (λC s₂ H₂ fp pins=>(w8 (Nc:=["_law_i","_law_j"]) (caps:=[some 1,none]) rfl (J3.of (osc:=_) (N:=["_law_n","_law_i"]) (ks:=["_law_i"]) rfl rfl rfl rfl (j5 rfl l9) (by kernel_rfl)) (o0 rfl n_range (a7 (pv 0) a8)) (λC s₂ H₂ fp pins=>(c6 (i:=1) (show z0t (["_law_i","_law_j"]:List Str) by decide +kernel) rfl (q0y rfl) (z0z rfl))) (λC s₂ H₂ fp pins=>(m5 (a7 (E5 N5 rfl n_int (by decide +kernel) (a7 (K3 X4 (pv 0) (pv 1) (j9 _)) a8)) (a7 b7 a8))))))))),?_⟩
 rw [show start ["_law_n"] [.int n]=[some (.int n)] from rfl]
 subst_eqs
 refine ⟨⋯,⋯,λD hD=>?_⟩;refine G0 (λi σ H2 => ∃ o,σ=[some (.int n),o]/\G1 H D ((aa8 n).take i) H2) ⟨_,rfl,G1.start hD⟩ ?_ ?_
 ·rintro i σ H2 hi ⟨o,rfl,T⟩
  subst_eqs
  have hi':i<n:=⋯;refine ⟨⋯,⋯,λD2 hD2=>?_⟩;refine G0 (λj σ H3 => ∃ o,σ=[some (.int (0+i)),o]/\G2 H2 D2 (((z0e n).map λj=>if i=j then (1:Rat) else 0).take j) H3) ⟨_,rfl,G2.start hD2⟩ ?_ ?_
  ·rintro j σ H3 hj ⟨o,rfl,R⟩
   have hj':j<n:=⋯
   subst_eqs
   refine ⟨rfl,u0,λp hp=>?_⟩
   have e:upd H3 p (HO.tup [V.int (if (0:Int) + ↑i=0 + ↑j then 1 else 0),V.int 1]) p=some (.tup (A1 (if i=j then (1:Rat) else 0))):=by
    rw [a9]
    by_cases h:i=j
    ·rw [if_pos ⋯,if_pos h];rfl
    ·rw [if_neg ⋯,if_neg h];rfl
   obtain ⟨ys,eD,yl,R'⟩:=R.add hD2 (c5.new hp _) e;refine r6.mk hj eD (t5 (by rw [yl,q0x];omega)) ⟨_,rfl,?_⟩
   rw [d9 (l:=(z0e n).map λj=>if i=j then (1:Rat) else 0) (x:=if i=j then (1:Rat) else 0) (by rw [q0f,az8 hj'];rfl)]
   exact R'
  ·rintro σ H3 ⟨o,rfl,R⟩
   rw [t9 (by simp)] at R
   obtain ⟨ys,eD,yl,T'⟩:=T.add hD hD2 R;refine r6.mk hi eD (t5 (by rw [yl,q0x];omega)) ⟨_,rfl,?_⟩
   rw [d9 (aR4 hi')];exact T'
 ·rintro σ H2 ⟨o,rfl,T⟩
  rw [t9 (by simp [aa8])] at T
  exact T.res k hD
end
theorem aA9:∀ (n:Nat) (Q:Mt),dt n Q=0->∃ y:Nat->Rat,(∃ i,i<n/\y i ≠ 0)/\∀ r,r<n->j4 (λc=>Q r c*y c) n=0
 | 0,Q,h=>absurd h (by show (1:Rat) ≠ 0;decide)
 | n+1,Q,h=>by
  have step:∀ B:Mt,B 0 0 ≠ 0->dt (n+1) B=0->∃ y:Nat->Rat,(∃ i,i<n+1/\y i ≠ 0)/\∀ r,r<n+1->j4 (λc=>B r c*y c) (n+1)=0:=λB b0 hB=>by
   rw [as2 B b0] at hB
   have hr:dt n (red B)=0:=by
    rcases j0c.mp hB with z | z
    ·exact absurd z b0
    ·exact z
   obtain ⟨y,⟨i,hi,yi⟩,k⟩:=aA9 n (red B) hr;obtain ⟨s,hs⟩:∃ s,s=j4 (λc=>B 0 (c+1)*y c) n:=⟨_,rfl⟩;have inv:=z0r _ b0;obtain ⟨z,z0,zs⟩:∃ z:Nat->Rat,z 0=-(s*(B 0 0)⁻¹)/\∀ c,z (c+1)=y c:=⟨λc=>if c=0 then -(s*(B 0 0)⁻¹) else y (c-1),rfl,λc=>rfl⟩;refine ⟨z,⟨i+1,⋯,by rw [zs];exact yi⟩,λr hr'=>?_⟩
   rw [am4,i4 (g:=λc=>B r (c+1)*y c) λc _=>by rw [zs],z0]
   generalize (B 0 0)⁻¹=v at *
   cases r with
   | zero=>rw [<- hs];grind
   | succ r =>
    have e:=k r ⋯;have e2:j4 (λc=>red B r c*y c) n=j4 (λc=>B (r+1) (c+1)*y c+(-(B (r+1) 0*(B 0 0)⁻¹))*(B 0 (c+1)*y c)) n:=i4 λc _=>by unfold red;grind
    rw [e2,<- K8,<- y3,<- hs] at e
    have:(B 0 0)⁻¹=v:=by
     have:=z0r _ b0;have h3:v*(B 0 0*(B 0 0)⁻¹)=v:=by rw [this,Rat.mul_one]
     grind
    grind
  by_cases z:∃ r,r<n+1/\Q r 0 ≠ 0
  ·obtain ⟨r,hr,q0⟩:=z
   by_cases r0:r=0
   ·subst r0;exact step Q q0 h
   ·obtain ⟨y,ny,k⟩:=step (swU Q 0 r) (by unfold swU;rw [if_pos rfl];exact q0) (by rw [aW2 ⋯ hr (Ne.symm r0),h];grind)
    refine ⟨y,ny,λi hi=>?_⟩
    by_cases a:i=0
    ·have:=k r hr
     rw [i4 (g:=λc=>Q 0 c*y c) λc _=>by unfold swU;rw [if_neg r0,if_pos rfl]] at this
     rw [a];exact this
    ·by_cases b:i=r
     ·have:=k 0 ⋯
      rw [i4 (g:=λc=>Q r c*y c) λc _=>by unfold swU;rw [if_pos rfl]] at this
      rw [b];exact this
     ·have:=k i hi
      rw [i4 (g:=λc=>Q i c*y c) λc _=>by unfold swU;rw [if_neg a,if_neg b]] at this
      exact this
  ·refine ⟨λc=>dij c 0,⟨0,⋯,by show (if (0:Nat)=0 then (1:Rat) else 0) ≠ 0;rw [if_pos rfl];decide⟩,λr hr=>?_⟩
   rw [aG8 (λc=>Q r c) ⋯];exact Classical.byContradiction λx=>z ⟨r,hr,x⟩
theorem aj7 (f:Nat->Rat) {n c:Nat} (hc:c<n):j4 (λt=>dij c t*f t) n=f c:=by
 rw [i4 (g:=λt=>f t*dij t c) λt _=>by unfold dij;split <;> split <;> grind]
 exact aG8 f hc
def mm (n:Nat) (A B:Mt):Mt:=λi j=>j4 (λt=>A i t*B t j) n
theorem aF2 (n:Nat) (A B C:Mt) (i j:Nat):mm n (mm n A B) C i j=mm n A (mm n B C) i j:=by
 unfold mm
 rw [i4 (g:=λt=>j4 (λu=>A i u*(B u t*C t j)) n) λt _=>by
  rw [g0t,y3];exact i4 λu _=>by grind]
 rw [ag2 (λt u=>A i u*(B u t*C t j)) n n];exact i4 λu _=>by rw [y3]
theorem ar3 {n:Nat} {A B C D:Mt} {i j:Nat} (h:∀ t,t<n->A i t=C i t) (k:∀ t,t<n->B t j=D t j):mm n A B i j=mm n C D i j:=i4 λt ht=>by rw [h t ht,k t ht]
theorem ai9 {L:List Rat} {n:Nat} (h:L.length=n):L=(z0e n).map (aQ L):=by
 refine List.ext_getElem? λi=>?_
 by_cases hi:i<n
 ·rw [q0f,z0m hi,q0c ⋯]
  show _=some ((L[i]?).getD 0);rw [q0c ⋯];rfl
 ·rw [j0d ⋯,j0d (by rw [q0b,z0j];omega)]
structure E7 (n:Nat) (M:List (List Rat)) (f:Mt):Prop where
 len:M.length=n
 row:∀ L ∈ M,L.length=n
 at':∀ i j,i<n->j<n->qq M i j=f i j
theorem E7.of {n:Nat} {M:List (List Rat)} (l:M.length=n) (r:∀ L ∈ M,L.length=n):E7 n M (qq M):=⟨l,r,λ_ _ _ _=>rfl⟩
theorem E7.to {n:Nat} {M:List (List Rat)} {f g:Mt} (h:E7 n M f) (e:∀ i j,i<n->j<n->f i j=g i j):E7 n M g:=⟨h.len,h.row,λi j hi hj=>by rw [h.at' i j hi hj,e i j hi hj]⟩
theorem E7.eq {n:Nat} {M N:List (List Rat)} {f:Mt} (h:E7 n M f) (k:E7 n N f):M=N:=by
 have lM:=h.len;have lN:=k.len;refine List.ext_getElem? λi=>?_
 by_cases hi:i<n
 ·have e1:=q0c (l:=M) (i:=i) ⋯
  have e2:=q0c (l:=N) (i:=i) ⋯;rw [e1,e2]
  congr 1
  rw [ai9 (h.row _ (q0j e1)),ai9 (k.row _ (q0j e2))];refine List.map_congr_left λj hj=>?_;have:=(h.at' i j hi (v0x.mp hj)).trans (k.at' i j hi (v0x.mp hj)).symm;unfold qq at this;rw [e1,e2] at this;exact this
 ·rw [j0d ⋯,j0d ⋯]
theorem E7.prod {n:Nat} {A B:List (List Rat)} {f g:Mt} (h:E7 n A f) (k:E7 n B g):E7 n (aa6 A B) (mm n f g):=by
 have lA:=h.len;have lB:=k.len;refine ⟨by rw [ac0,lA],λL hL=>?_,λi j hi hj=>?_⟩
 ·obtain ⟨L0,_,rfl⟩:=z0w.mp hL
  rw [q0b];unfold w4;rw [q0b,z0j,lB]
 ·have e1:=q0c (l:=A) (i:=i) ⋯
  have rl:=h.row _ (q0j e1);have cl:(ah3 B j).length=n:=by rw [Z9,lB]
  unfold qq;rw [aE0 e1]
  show ((((w4 B B.length).map (M4 A[i]))[j]?).getD 0)=_;unfold w4;rw [lB,m0y,q0f,z0m hj]
  show M4 _ (ah3 B j)=_;rw [ai9 rl,ai9 cl,ax7];refine i4 λt ht=>?_;have a1:=h.at' i t hi ht;have a2:=k.at' t j ht hj;unfold qq at a1 a2;rw [e1] at a1;have e2:=q0c (l:=B) (i:=t) ⋯;rw [e2] at a2;rw [<- a1,<- a2]
  congr 1
  unfold aQ ah3;rw [q0f,e2];rfl
theorem E7.unit (n:Nat):E7 n (aa8 n) dij:=by
 refine ⟨by unfold aa8;rw [q0b,z0j],λL hL=>?_,λi j hi hj=>?_⟩
 ·obtain ⟨i,_,rfl⟩:=z0w.mp hL
  rw [q0b,z0j]
 ·unfold qq aa8
  rw [q0f,z0m hi]
  show ((((z0e n).map λj=>if i=j then (1:Rat) else 0)[j]?).getD 0)=_;rw [q0f,z0m hj];rfl
theorem E7.det {n:Nat} {M:List (List Rat)} {f:Mt} (h:E7 n M f):dt n (qq M)=dt n f:=C2 λr hr c hc=>h.at' r c hr hc
theorem aZ5 {M:List (List Rat)} {n i j:Nat} (h:i<n):qq (w4 M n) i j=qq M j i:=by
 unfold qq w4 ah3;rw [q0f,z0m h]
 show aQ (M.map _) j=_;unfold aQ;rw [q0f]
 cases M[j]? with
 | none=>rfl
 | some L=>rfl
theorem aB4 {M:List (List Rat)} {n:Nat} {f:Mt} (h:E7 n M f):E7 n (w4 M n) λi j=>f j i:=by
 refine ⟨by unfold w4;rw [q0b,z0j],λL hL=>?_,λi j hi hj=>?_⟩
 ·obtain ⟨i,_,rfl⟩:=z0w.mp hL
  unfold ah3;rw [q0b];exact h.len
 ·rw [aZ5 hi,h.at' j i hj hi]
structure FmT (N:Nat) (M:List (List Rat)) (Bt W:Nat):Prop where
 tf:E7 N M (qq M)
 fm:Fm N (qq M) Bt W
theorem FmT.flip {N:Nat} {M:List (List Rat)} {Bt W:Nat} (h:FmT N M Bt W):w4 M M.length=M:=by
 rw [h.tf.len];exact (aB4 h.tf).eq (h.tf.to λi j hi hj=>h.fm.sy i hi j hj)
theorem FmT.row {N:Nat} {M:List (List Rat)} {Bt W:Nat} (h:FmT N M Bt W) {L:List Rat} {i:Nat} (g:M[i]? = some L):L.length=N/\(∀ c,c<N->aQ L c=qq M i c)/\∀ q ∈ L,OvB Bt W q:=by
 have hi:i<N:=by rw [<- h.tf.len];exact (q0h.mp g).1
 have l:=h.tf.row L (q0j g);have e:∀ c,aQ L c=qq M i c:=λc=>by unfold qq;rw [g];rfl
 refine ⟨l,λc _=>e c,λq hq=>?_⟩;obtain ⟨c,hc,rfl⟩:=v0p hq;have:=h.fm.ov i hi c ⋯;rw [<- e c] at this;unfold aQ at this;rw [q0c hc] at this;exact this
theorem aY5 {B W:Nat} {q:Rat} (h:OvB B W q) (hB:0<B):q.den ∣ B:=by
 obtain ⟨v,e,_⟩:=h;have h1:q0w q.num q.den=q0w v B:=by rw [z0p];exact e
 have h2:=(z0d (by have:=q.den_nz;omega) ⋯).mp h1
 have h3:q.den ∣ q.num.natAbs*B:=by
  have h4:(q.den:Int) ∣ q.num*B:=⟨v,by rw [h2];grind⟩
  have:=v0h.mpr h4;rw [q0r,z0a,q0r] at this;exact this
 exact m0z.dvd_of_dvd_mul_left (m0z.symm q.reduced) h3
theorem FmT.start {N:Nat} {M:List (List Rat)} {Bt W:Nat} {es:Nat->Vc} {ss:Nat->Int} (h:FmT N M Bt W):Sq N (qq M) Bt 0 0 es ss 1 (ah6 M) un:=by
 have lM:=h.tf.len;refine Sq.start h.fm (by unfold ah6;rw [List.length_mapIdx];exact lM) λi s row hi=>?_
 unfold ah6 at hi;rw [m0m] at hi
 cases hL:M[i]? with
 | none=>rw [hL] at hi;cases hi
 | some L =>
  rw [hL] at hi;have hi':aO2 M.length i L=(s,row):=Option.some.inj hi;obtain ⟨l,e,ov⟩:=h.row hL;have lp:=ad1 L;have lw:(z7 (t4 L) L).length=N:=by unfold z7;rw [q0b];exact l
  have es':s=((t4 L:Nat):Int):=(congrArg Prod.fst hi').symm;have er:row=z7 (t4 L) L ++ (z0e N).map λt=>if i=t then ((t4 L:Nat):Int) else 0:=by rw [<- lM];exact (congrArg Prod.snd hi').symm
  refine ⟨⋯,?_,?_,λc hc=>?_,λt ht=>?_⟩
  ·rw [es']
   exact j0s.mpr (ar6 λq hq=>aY5 (ov q hq) h.fm.b0)
  ·rw [er,j0g,lw,q0b,z0j]
  ·rw [<- e c hc,er,es']
   unfold aZ aQ;rw [j0f ⋯];unfold z7;rw [q0f,q0c ⋯]
   show ((L[c].num*((t4 L:Nat):Int).fdiv (L[c].den:Int):Int):Rat)=(((t4 L:Nat):Int):Rat)*L[c];have w:=aR3 lp (ae5 (g0m (by omega:c<L.length)))
   have bn:(((t4 L:Nat):Int):Rat) ≠ 0:=t7 ⋯;have bi:=z0r _ bn
   conv=>rhs;rw [w]
   rw [u0e,u0j];generalize (((t4 L:Nat):Int):Rat)⁻¹=y at *;generalize (((t4 L:Nat):Int):Rat)=z at *
   grind
  ·rw [er,es']
   unfold aZ;rw [j0k ⋯,lw,g0v,q0f,z0m ht]
   show (if i=t then _ else _)=if t=i then _ else _
   by_cases z:i=t
   ·rw [if_pos z,if_pos z.symm]
   ·rw [if_neg z,if_neg (Ne.symm z)]
def Inv (n:Nat) (T:Mt):Prop:=∃ Y:Mt,∀ i j,i<n->j<n->mm n T Y i j=dij i j
theorem Inv.congr {n:Nat} {T U:Mt} (h:Inv n T) (e:∀ i j,i<n->j<n->U i j=T i j):Inv n U:=by
 obtain ⟨Y,k⟩:=h;exact ⟨Y,λi j hi hj=>(ar3 (λt ht=>e i t hi ht) λ_ _=>rfl).trans (k i j hi hj)⟩
theorem Inv.unit (n:Nat):Inv n dij:=⟨dij,λi j hi hj=>aG8 (λt=>dij i t) hj⟩
theorem Inv.mul {n:Nat} {T R:Mt} (h:Inv n T) (k:Inv n R):Inv n (mm n T R):=by
 obtain ⟨Y,hY⟩:=h;obtain ⟨Z,hZ⟩:=k;refine ⟨mm n Z Y,λi j hi hj=>?_⟩;rw [aF2,ar3 (C:=T) (D:=Y) (λ_ _=>rfl) (λt ht=>?_),hY i j hi hj];rw [<- aF2,ar3 (C:=dij) (D:=Y) (λu hu=>hZ t u ht hu) λ_ _=>rfl];exact aj7 (λu=>Y u j) ht
theorem Inv.step {n:Nat} {T U E F:Mt} (h:Inv n T) (e:∀ i j,i<n->j<n->U i j=mm n E T i j) (f:∀ i j,i<n->j<n->mm n E F i j=dij i j):Inv n U:=(Inv.mul ⟨F,f⟩ h).congr e
theorem Inv.add {n:Nat} {T U:Mt} (h:Inv n T) {i j:Nat} (q:Rat) (hi:i<n) (hj:j<n) (ij:i ≠ j) (e:∀ r c,r<n->c<n->U r c=if r=i then T i c+q*T j c else T r c):Inv n U:=by
 have s:∀ (k:Rat) (f:Nat->Rat) (r:Nat),r<n->j4 (λt=>(dij r t+k*(dij r i*dij j t))*f t) n=f r+k*(dij r i*f j):=λk f r hr=>by
  rw [i4 (g:=λt=>dij r t*f t+(k*dij r i)*(dij j t*f t)) λt _=>by grind,<- K8,<- y3,aj7 f hr,aj7 f hj]
  grind
 refine h.step (E:=λr t=>dij r t+q*(dij r i*dij j t)) (F:=λr t=>dij r t + -q*(dij r i*dij j t)) (λr c hr hc=>?_) (λr c hr hc=>?_)
 ·unfold mm
  rw [s q (λt=>T t c) r hr,e r c hr hc];unfold dij
  by_cases z:r=i
  ·rw [if_pos z,if_pos z,z];grind
  ·rw [if_neg z,if_neg z];grind
 ·unfold mm
  rw [s q (λt=>dij t c + -q*(dij t i*dij j c)) r hr];have:dij j i=0:=if_neg (Ne.symm ij);rw [this];grind
theorem Inv.scale {n:Nat} {T U:Mt} (h:Inv n T) {i:Nat} {q:Rat} (q0:q ≠ 0) (hi:i<n) (e:∀ r c,r<n->c<n->U r c=if r=i then q*T i c else T r c):Inv n U:=by
 have s:∀ (k:Nat->Rat) (f:Nat->Rat) (r:Nat),r<n->j4 (λt=>(k r*dij r t)*f t) n=k r*f r:=λk f r hr=>by
  rw [i4 (g:=λt=>k r*(dij r t*f t)) λt _=>by grind,<- y3,aj7 f hr]
 refine h.step (E:=λr t=>(if r=i then q else 1)*dij r t) (F:=λr t=>(if r=i then q⁻¹ else 1)*dij r t) (λr c hr hc=>?_) (λr c hr hc=>?_)
 ·unfold mm
  rw [s (λr=>if r=i then q else 1) (λt=>T t c) r hr,e r c hr hc]
  by_cases z:r=i
  ·rw [if_pos z,if_pos z,z]
  ·rw [if_neg z,if_neg z];grind
 ·unfold mm
  rw [s (λr=>if r=i then q else 1) (λt=>(if t=i then q⁻¹ else 1)*dij t c) r hr];have:=z0r _ q0
  by_cases z:r=i
  ·rw [if_pos z,if_pos z];grind
  ·rw [if_neg z,if_neg z];grind
theorem Inv.swap {n:Nat} {T U:Mt} (h:Inv n T) {i j:Nat} (hi:i<n) (hj:j<n) (e:∀ r c,r<n->c<n->U r c=if r=j then T i c else if r=i then T j c else T r c):Inv n U:=by
 obtain ⟨s,hs⟩:∃ s:Nat->Nat,∀ r,s r=if r=j then i else if r=i then j else r:=⟨_,λ_=>rfl⟩;have sl:∀ r,r<n->s r<n:=λr hr=>by rw [hs];split <;> (try split) <;> omega
 have ss:∀ r,s (s r)=r:=λr=>by
  rw [hs,hs r]
  by_cases a:r=j
  ·rw [if_pos a]
   by_cases b:i=j
   ·rw [if_pos b];omega
   ·rw [if_neg b,if_pos rfl];omega
  ·rw [if_neg a]
   by_cases b:r=i
   ·rw [if_pos b,if_pos rfl];omega
   ·rw [if_neg b,if_neg a,if_neg b]
 refine h.step (E:=λr t=>dij (s r) t) (F:=λr t=>dij (s r) t) (λr c hr hc=>?_) (λr c hr hc=>?_)
 ·unfold mm
  rw [aj7 (λt=>T t c) (sl r hr),e r c hr hc,hs]
  split
  ·rfl
  ·split <;> rfl
 ·unfold mm
  rw [aj7 (λt=>dij (s t) c) (sl r hr),ss]
def fmd (n:Nat) (d:Vc) (T:Mt):Mt:=λi j=>j4 (λk=>d k*(T k i*T k j)) n
theorem be2 (n:Nat) (d:Vc) (T:Mt):Sy n (fmd n d T):=λi _ j _=>i4 λk _=>by grind
theorem aM2 {B C W s s':Nat} {a b q:Rat} (hB:0<B) (hC:0<C) (ha:OvB B W a) (hb:OvB B W b) (hq:OvB C s q) (h:C+2 ^ s<=2 ^ s'+1):OvB (B*C) (W+s') (a+q*b):=by
 obtain ⟨x,rfl,hx⟩:=ha;obtain ⟨y,rfl,hy⟩:=hb;obtain ⟨z,rfl,hz⟩:=hq;refine ⟨x*C+z*y,?_,?_⟩
 ·have nB:(B:Int) ≠ 0:=⋯
  have nC:(C:Int) ≠ 0:=⋯;rw [y0g,u0m _ _ nB (y0a nC nB),z0d (y0a nB (y0a nC nB)) (by rw [j0h];exact y0a nB nC),j0h]
  grind
 ·have t:=u0d (x*C) (z*y)
  rw [z0a,z0a,q0r] at t
  have h1:x.natAbs*C<=2 ^ W*C-C:=by
   rw [<- Nat.sub_one_mul];exact y0t _ ⋯
  have h2:z.natAbs*y.natAbs<=(2 ^ s-1)*2 ^ W:=j0u ⋯ ⋯;have h3:2 ^ W*(C+(2 ^ s-1))<=2 ^ W*2 ^ s':=y0y _ ⋯;rw [z0u];rw [Nat.mul_add] at h3;rw [Nat.mul_comm (2 ^ s-1)] at h2;have h4:C<=2 ^ W*C:=y0e _ (u0x _);omega
structure F4 (B W:Nat) (M:List (List Rat)):Prop where
 n7:M.length<=7
 B0:0<B
 BW:B<2 ^ W
 row:∀ L ∈ M,L.length=M.length/\∀ q ∈ L,OvB B W q
theorem F4.bd {B W:Nat} {M:List (List Rat)} (h:F4 B W M):∀ L ∈ M,L.length=M.length/\∀ x ∈ L,BdN W x:=λL hL=>⟨(h.row L hL).1,λx hx=>OvB.bdN h.B0 h.BW ((h.row L hL).2 x hx)⟩
theorem F4.tf {B W:Nat} {M:List (List Rat)} (h:F4 B W M):E7 M.length M (qq M):=E7.of rfl λL hL=>(h.row L hL).1
theorem F4.up {B W C c:Nat} {M:List (List Rat)} (h:F4 B W M) (hC:0<C) (hc:C<2 ^ c):F4 (B*C) (W+c) M:=⟨h.n7,v0n h.B0 hC,by rw [z0u];exact j0e h.BW hc,λL hL=>⟨(h.row L hL).1,λq hq=>((h.row L hL).2 q hq).up h.B0 hC hc⟩⟩
theorem F4.mono {B V' W:Nat} {M:List (List Rat)} (h:F4 B V' M) (l:V'<=W):F4 B W M:=⟨h.n7,h.B0,q0d h.BW (i5 l),λL hL=>⟨(h.row L hL).1,λq hq=>((h.row L hL).2 q hq).mono l⟩⟩
theorem F4.setR {B W:Nat} {M:List (List Rat)} (h:F4 B W M) {i:Nat} {L':List Rat} (l:L'.length=M.length) (r:∀ q ∈ L',OvB B W q):F4 B W (M.set i L'):=⟨by rw [z0k];exact h.n7,h.B0,h.BW,λL hL=>by
 rw [z0k];rcases z0y hL with z | rfl
 ·exact h.row L z
 ·exact ⟨l,r⟩⟩
theorem F4.unit {n:Nat} (n7:n<=7):F4 1 1 (aa8 n):=by
 have t:=E7.unit n;refine ⟨by rw [t.len];exact n7,by decide,by decide,λL hL=>⟨by rw [t.row L hL,t.len],λq hq=>?_⟩⟩
 obtain ⟨i,_,rfl⟩:=z0w.mp hL;obtain ⟨j,_,rfl⟩:=z0w.mp hq
 split
 ·exact ⟨1,rfl,by decide⟩
 ·exact OvB.zero _ _
theorem F4.at {B W:Nat} {M:List (List Rat)} (h:F4 B W M) (i j:Nat):OvB B W (qq M i j):=by
 unfold qq
 cases e:M[i]? with
 | none=>exact OvB.zero _ _
 | some L =>
  show OvB B W (aQ L j);unfold aQ
  cases f:L[j]? with
  | none=>exact OvB.zero _ _
  | some q=>exact (h.row L (q0j e)).2 q (q0j f)
theorem F4.flip {B W:Nat} {M:List (List Rat)} (h:F4 B W M):F4 B W (w4 M M.length):=by
 have l:(w4 M M.length).length=M.length:=by unfold w4;rw [q0b,z0j]
 refine ⟨by rw [l];exact h.n7,h.B0,h.BW,λL hL=>?_⟩
 obtain ⟨j,_,rfl⟩:=z0w.mp hL;refine ⟨by rw [l,Z9],λq hq=>?_⟩
 obtain ⟨L,hL,rfl⟩:=z0w.mp hq
 cases e:L[j]? with
 | none=>exact OvB.zero _ _
 | some q=>exact (h.row L hL).2 q (q0j e)
theorem F4.prod {B W C V':Nat} {M N:List (List Rat)} (h:F4 B W M) (k:F4 C V' N) (e:M.length=N.length):F4 (B*C) (W+V'+7) (aa6 M N):=by
 have l:=ac0 M N;have n7:=h.n7;refine ⟨by rw [l];exact n7,v0n h.B0 k.B0,q0d (by rw [z0u];exact j0e h.BW k.BW:B*C<2 ^ (W+V')) (i5 ⋯),λL hL=>?_⟩
 obtain ⟨L0,h0,rfl⟩:=z0w.mp hL;obtain ⟨r1,r2⟩:=h.row L0 h0;refine ⟨by rw [q0b,l];unfold w4;rw [q0b,z0j,e],λq hq=>?_⟩
 obtain ⟨C',hC',rfl⟩:=z0w.mp hq;exact (aM3 h.B0 k.B0 r2 (k.flip.row C' hC').2).mono ⋯
theorem O8 {L:List Rat} {k:Nat} (h:k<L.length):aQ L k ∈ L:=by
 have e:=q0c (l:=L) (i:=k) h;unfold aQ;rw [e];exact q0j e
theorem ao2 {L:List Rat} {k:Nat} (h:k<L.length):L[k]? = some (aQ L k):=by
 have e:=q0c (l:=L) (i:=k) h;unfold aQ;rw [e];rfl
theorem R5 {H:Hp} {p:Addr} (o:HO) (h:H p=none):∃ H',H'=upd H p o/\c5 H H'/\H' p=some o:=⟨_,rfl,c5.new h o,a9⟩
theorem RwsS.set {H:Hp}:∀ {ts:List Addr} {M:List (List Rat)} (k:Nat) {p:Addr} {xs:List V} {L:List Rat},Rws H ts M->H p=some (.lst xs)->C3 H xs L->Rws H (ts.set k p) (M.set k L)
 | _,_,_,_,_,_,.nil,_,_=>.nil
 | _,_,0,_,_,_,.cons _ _ t,e,f=>.cons e f t
 | _,_,k+1,_,_,_,.cons h n t,e,f=>.cons h n (RwsS.set k t e f)
structure M9 (u:Addr) (H:Hp) (l:Addr) (us:List Addr) (M:List (List Rat)) (H3:Hp):Prop where
 same:p9 u H H3
 urn:p8 H3 u
 fr:H l=none
 lu:l ≠ u
 at':H3 l=some (.lst (us.map V.ref))
 nl:l ∉ us
 nu:∀ t ∈ us,t ≠ u
 nf:∀ t ∈ us,H t=none
 rws:Rws H3 us M
theorem M9.x {u l:Addr} {H H3 H4:Hp} {us:List Addr} {M:List (List Rat)} (d:M9 u H l us M H3) (s:p9 u H3 H4) (hu:p8 H4 u):M9 u H l us M H4:=⟨d.same.trans s,hu,d.fr,d.lu,s _ _ d.at' d.lu,d.nl,d.nu,d.nf,d.rws.samex s d.urn d.nu⟩
theorem M9.s {u l:Addr} {H H3 H4:Hp} {us:List Addr} {M:List (List Rat)} (d:M9 u H l us M H3) (s:c5 H3 H4):M9 u H l us M H4:=d.x (c5.x s u) (c5.urn s d.urn)
theorem M9.put {u l:Addr} {H H3:Hp} {us:List Addr} {M:List (List Rat)} (d:M9 u H l us M H3) (i:Nat) {D:Addr} {zs:List V} {L':List Rat} (eD:H3 D=some (.lst zs)) (nD:C3 H3 zs L') (dl:D ≠ l) (du:D ≠ u) (df:H D=none):M9 u H l (us.set i D) (M.set i L') (upd H3 l (.lst ((us.map V.ref).set i (V.ref D)))):=by
 have nl:l ∉ us.set i D:=λz=>by
  rcases z0y z with z | z
  ·exact d.nl z
  ·exact dl z.symm
 refine ⟨λb o h n=>?_,d.urn.other d.lu,d.fr,d.lu,by rw [a9,List.map_set],nl,λt ht=>?_,λt ht=>?_,(RwsS.set i d.rws eD nD).over d.at' nl⟩
 ·rw [c8 (c7 h d.fr)]
  exact d.same _ _ h n
 ·rcases z0y ht with z | z
  ·exact d.nu t z
  ·rw [z];exact du
 ·rcases z0y ht with z | z
  ·exact d.nf t z
  ·rw [z];exact df
theorem M9.row {u l:Addr} {H H3:Hp} {us:List Addr} {M:List (List Rat)} (d:M9 u H l us M H3) {i:Nat} (hi:i<M.length):∃ p xs L,us[i]? = some p/\(us.map V.ref)[i]? = some (.ref p)/\M[i]? = some L/\H3 p=some (.lst xs)/\C3 H3 xs L:=by
 obtain ⟨p,hp⟩:∃ p,us[i]? = some p:=⟨_,q0c (by rw [d.rws.length];exact hi)⟩
 obtain ⟨xs,L,a,b,c⟩:=d.rws.get hp;exact ⟨p,xs,L,hp,by rw [q0f,hp];rfl,a,b,c⟩
theorem RwsS.inpl {H:Hp} {p:Addr} {old xs:List V} {L:List Rat} (hp:H p=some (.lst old)) (n:C3 H xs L):∀ {ts:List Addr} {M:List (List Rat)} (i:Nat),Rws H ts M->ts.Nodup->ts[i]? = some p->Rws (upd H p (.lst xs)) ts (M.set i L)
 | _,_,_,.nil,_,e=>by simp at e
 | _,_,0,.cons (p:=q) h n' t,nd,e=>by
  have:q=p:=by simpa using e
  subst this;exact .cons a9 (n.mono (W5.lst hp)) (t.over hp (j0z.mp nd).1)
 | _,_,i+1,.cons (p:=q) (ps:=ps) h n' t,nd,e=>by
  have e':ps[i]? = some p:=by simpa using e
  have qp:q ≠ p:=λz=>(j0z.mp nd).1 (z ▸ q0j e');exact .cons (by rw [c8 qp];exact h) (n'.mono (W5.lst hp)) (RwsS.inpl hp n i t (j0z.mp nd).2 e')
theorem M9.inpl {u l p:Addr} {H H3:Hp} {us:List Addr} {M:List (List Rat)} {old xs:List V} {L:List Rat} (d:M9 u H l us M H3) (nd:us.Nodup) {i:Nat} (g:us[i]? = some p) (hp:H3 p=some (.lst old)) (n:C3 H3 xs L):M9 u H l us (M.set i L) (upd H3 p (.lst xs)):=by
 have m:=q0j g;have pl:l ≠ p:=λz=>d.nl (z ▸ m);refine ⟨λb o h nb=>?_,d.urn.other (d.nu p m),d.fr,d.lu,by rw [c8 pl];exact d.at',d.nl,d.nu,d.nf,RwsS.inpl hp n i d.rws nd g⟩
 rw [c8 (c7 h (d.nf p m))];exact d.same _ _ h nb
theorem aJ7 {L:List Rat} {j:Nat} (h:j<L.length) (x:Rat) (c:Nat):aQ (L.set j x) c=if c=j then x else aQ L c:=by
 unfold aQ
 by_cases z:c=j
 ·rw [if_pos z,z,u0g h];rfl
 ·rw [if_neg z,u0s (Ne.symm z)]
theorem aW1 {n:Nat} {X:Mt} (h:∀ a:Nat->Rat,(∀ i,i<n->j4 (λt=>X i t*a t) n=0)->∀ t,t<n->a t=0):dt n (λr c=>X c r) ≠ 0:=λz=>by
 have dX:dt n X ≠ 0:=λy=>by
  obtain ⟨a,⟨i,hi,ai⟩,k⟩:=aA9 n X y;exact ai (h a k i hi)
 obtain ⟨y,⟨i,hi,yi⟩,k⟩:=aA9 n _ z;exact yi (bg4 dX (x:=y) (λc hc=>by rw [<- k c hc];exact i4 λj _=>g0t _ _) hi)
def x8 (N:Nat) (cols:List (List Int)):List (List Rat):=(z0e N).map λj=>cols.map λcol=>((aZ col j:Int):Rat)
theorem Y2 {N:Nat} {cols:List (List Int)} (l:cols.length=N):E7 N (x8 N cols) λr c=>vc ((cols[c]?).getD []) r:=by
 refine ⟨by unfold x8;rw [q0b,z0j],λL hL=>?_,λi j hi hj=>?_⟩
 ·obtain ⟨i,_,rfl⟩:=z0w.mp hL
  rw [q0b,l]
 ·unfold qq x8
  rw [q0f,z0m hi]
  show aQ (cols.map λcol=>((aZ col i:Int):Rat)) j=_;unfold aQ;rw [q0f,q0c ⋯];rfl
def wK (c:Nat):Nat:=if c<7 then 143*c+16 else 0
theorem bh8:∀ k:Fin 8,dS wK k<=5900:=by decide
theorem bh7:∀ k:Fin 6,dS wK k+dS wK (k+1)+dS wK k<=5900:=by decide
theorem bh6 (c:Nat):wK c<3000:=by unfold wK;split <;> omega
section
variable {N:Nat} {A:Mt} {Bt W:Nat} {cols:List (List Int)} {qs:List Rat}
theorem T4.dt (h:T4 N A Bt W cols qs):R.dt N (qq (x8 N cols)) ≠ 0:=by
 have tf:=Y2 (N:=N) h.lc;rw [tf.det];refine aW1 (X:=λc r=>vc ((cols[c]?).getD []) r) λa ha=>h.sp a λi hi=>?_;rw [<- ha i hi];exact i4 λt _=>g0t _ _
theorem T4.wc (h:T4 N A Bt W cols qs) (n7:N<=7) (hw:∀ c,c<7->cw Bt W c<=143*c+16):Wc wK (qq (x8 N cols)):=λr c=>by
 have l:=h.lc;rcases z0q r N with y | y
 ·rcases z0q c N with z | z
  ·refine ⟨aZ ((cols[c]?).getD []) r,(Y2 l).at' r c y z,q0p (h.bt c z r) (z0v (by decide) ?_)⟩
   unfold wK;rw [if_pos ⋯];exact hw c ⋯
  ·refine ⟨0,?_,z0f _⟩
   unfold qq x8;rw [q0f,z0m y]
   show aQ (cols.map λcol=>((aZ col r:Int):Rat)) c=0;unfold aQ;rw [j0d (by rw [q0b];omega)];rfl
 ·refine ⟨0,?_,z0f _⟩
  unfold qq x8;rw [j0d (by rw [q0b,z0j];omega)];rfl
theorem T4.led (h:T4 N A Bt W cols qs) {i j:Nat} (hi:i<N) (hj:j<N):mm N (λa b=>qq (x8 N cols) b a) (mm N A (qq (x8 N cols))) i j=if i=j then (qs[i]?).getD 0 else 0:=by
 rw [<- h.ho i hi j hj];have tf:=Y2 (N:=N) h.lc;unfold mm bl af lf;refine i4 λt ht=>?_
 show qq (x8 N cols) t i*j4 (λs=>A t s*qq (x8 N cols) s j) N=vc ((cols[i]?).getD []) t*j4 (λs=>A t s*vc ((cols[j]?).getD []) s) N;rw [tf.at' t i ht hi]
 congr 1
 exact i4 λs hs=>by rw [tf.at' s j hs hj]
theorem T4.tab (h:T4 N A Bt W cols qs) (n7:N<=7) (hw:∀ c,c<7->cw Bt W c<=143*c+16):F4 1 880 (x8 N cols):=by
 have tf:=Y2 (N:=N) h.lc;refine ⟨by rw [tf.len];exact n7,by decide,q0d (show 1<2 ^ 1 by decide) (z0v (by decide) (by decide)),λL hL=>⟨by rw [tf.row L hL,tf.len],λq hq=>?_⟩⟩
 obtain ⟨i,hi⟩:=y0h.mp hL;obtain ⟨j,hj⟩:=y0h.mp hq;obtain ⟨z,ez,bz⟩:=h.wc n7 hw i j
 have e:qq (x8 N cols) i j=q:=by
  unfold qq;rw [hi]
  show aQ L j=q;unfold aQ;rw [hj];rfl
 rw [e] at ez
 refine ⟨z,by
  have:=z0p (z:Rat);rw [v0r,v0s] at this;rw [ez];exact this.symm,q0m bz (z0h (by decide) ?_)⟩
 unfold wK
 split <;> omega
end
theorem aY8 (z:Int):A1 ((z:Int):Rat)=[.int z,.int 1]:=by
 unfold A1;rw [v0r,v0s];rfl
section
variable {P:Program} {w:World} {K:q0a} {mg:Str->Option Value} {base:Heap}
def ag3 (K:q0a) (C:Addr):Sp:=λvs H Q E => ∃ (a:Addr) (ts:List Addr) (M:List (List Rat)) (N Bt W:Nat),vs=[.ref a]/\H a=some (.lst (ts.map V.ref))/\Rws H ts M/\E7 N M (qq M)/\N<=7/\(w4 M N ≠ M->∀ H1,c5 H H1->E (.ref C) none H1)/\(w4 M N=M->FmT N M Bt W/\(W+19)*14<6000/\∀ r rr rq ts' zs cols qs H',c5 H H'->H r=none->(∀ t ∈ rr :: rq :: ts',H t=none)->(rr :: rq :: ts').Nodup->H' r=some (.tup [.ref rr,.ref rq])->H' rr=some (.lst (ts'.map V.ref))->Rws H' ts' (x8 N cols)->H' rq=some (.lst zs)->A0 K H' zs qs->T4 N (qq M) Bt W cols qs->Q (.ref r) H')
abbrev Q3:Stmt:=top 41
theorem ag5:j1 ["table","found","rows"] ["table"] (b9 Q3):=by and_intros
theorem aH9 {f f1 f2 f3 C:Addr} (d:Df K mg "squares" Q3 ["table"] f) (G_turned:Def P w K mg base CX0 1 "turned" f1 ["table"] (ab2 K)) (G_vectors_of:Def P w K mg base CX0 3 "vectors_of" f2 ["form"] (aR9 K)) (G_squared:Def P w K mg base CX0 4 "squared" f3 ["vectors"] (av8 K)) (x_NoForm:ExT K mg "NoForm" C) (n_range:mg "range" = none) (n_len:mg "len" = none):Def P w K mg base (CXR P w) 5 "squares" f ["table"] (ag3 K C):=by
 refine d.okR (N:=["table","found","rows"]) ag5 (by rintro vs H Q E ⟨_,_,_,_,_,_,h,_⟩;rw [h];rfl) (λcdv A' outer s H vs Q E hr h=>?_)
 obtain ⟨a,ts,M,N,Bt,W,rfl,ea,rw',tf,n7,k0,k1⟩:=h;have hu:=hr.units
 refine ⟨_,(b8 (z9 (l5 (aT6 hu) (pv 0) (d6 G_turned hr (a7 (pv 0) a8) j0) (j9 _)) (c4 (aS9 x_NoForm.ox PySem.F.excBase_ValueError rfl rfl x_NoForm.m aO9 (a7 V5 a8))) m8)
   (b8 (i8 (i:=1) ag5.nd rfl (z0z rfl) (d6 G_squared hr (a7 (d6 G_vectors_of hr (a7 (pv 0) a8) j0) a8) j0))
   (b8 (aD8 (i₀:=2) ag5.nd rfl (q0y rfl) (Nc:=["found","place"]) (caps:=[some 1,none]) rfl (ag1.of (osc:=b9 Q3) (N:=["table","found","rows"]) (ks:=["found"]) rfl rfl rfl rfl (j5 rfl l9) (by decide +kernel)) (o0 rfl n_range (a7 (h8 k8 rfl n_len (by decide +kernel) (a7 (pv 0) a8)) a8)) (λC s₂ H₂ fp pins=>(c6 (i:=1) (show z0t (["found","place"]:List Str) by decide +kernel) rfl (z0z rfl) (q0y rfl))) (λC s₂ H₂ fp pins=>(w8 (Nc:=["place","column","square"]) (caps:=[some 1,none,none]) rfl (J3.of (osc:=_) (N:=["found","place"]) (ks:=["place"]) rfl rfl rfl rfl (j5 rfl l9) (by kernel_rfl)) (show PI _ _ _ (aa7 K _) from by exact (x9 (pv 0))) (λC s₂ H₂ fp pins=>(show PG _ _ (E9 K 2 (k6 (k9 1) (k6 (k9 2) F2))) from by (refine w5 (n:=2) ?_ ?_ ?_ ?_;rfl;(refine d7 ?_ ?_ ?_;(exact (c6 (i:=1) (show z0t (["place","column","square"]:List Str) by decide +kernel) rfl (q0y rfl) (z0z rfl)));(refine d7 ?_ ?_ ?_;(exact (c6 (i:=2) (show z0t (["place","column","square"]:List Str) by decide +kernel) rfl (q0y rfl) (z0z rfl)));(exact p4);rfl);rfl);rfl;rfl))) (λC s₂ H₂ fp pins=>(m5 (a7 (d8 (by exact i6:IxR _ (Z3 K)) (pv 1) (pv 0) (λ_ _=>rfl)) (a7 b7 a8)))))))
   (c4 (i9 (m5 (a7 (pv 2) (a7 (w8 (Nc:=["column","square"]) (caps:=[none,none]) rfl (J3.of (osc:=b9 Q3) (N:=["table","found","rows"]) (ks:=[]) rfl rfl rfl rfl l9 (by decide +kernel)) (x9 (pv 1)) (λC s₂ H₂ fp pins=>(show PG _ _ (E9 K 2 (k6 (k9 0) (k6 (k9 1) F2))) from by (refine w5 (n:=2) ?_ ?_ ?_ ?_;rfl;(refine d7 ?_ ?_ ?_;(exact (c6 (i:=0) (show z0t (["column","square"]:List Str) by decide +kernel) rfl (q0y rfl) (z0z rfl)));(refine d7 ?_ ?_ ?_;(exact (c6 (i:=1) (show z0t (["column","square"]:List Str) by decide +kernel) rfl (q0y rfl) (z0z rfl)));(exact p4);rfl);rfl);rfl;rfl))) (λC s₂ H₂ fp pins=>(pv 1))) a8)))))))),?_⟩
 rw [show start ["table","found","rows"] [.ref a]=[some (.ref a),none,none] from rfl]
 have lts:=rw'.length;have lM:=tf.len;refine c9 (λσ H1=>σ=[some (.ref a),none,none]/\c5 H H1/\w4 M N=M) (λNn hN=>?_) ?_
 ·subst_eqs
  refine ⟨a,ts,M,rfl,ea,rw',λL hL=>by rw [lM];exact tf.row L hL,⋯,λr us H1 s1 f1 _ _ e1 r1=>?_⟩
  rw [lM] at r1;refine ⟨M6 M,M6 (w4 M N),rfl,.lst (SqL.of (s1 _ _ ea)) (rw'.same s1).isDs,.lst (SqL.of e1) r1.isDs,ak5 _ _,as4 _,?_⟩;rw [al4];refine ⟨_,rfl,A9 (λh=>?_) (λh=>hN _ _ ⟨rfl,s1,?_⟩)⟩
  ·have:w4 M N ≠ M:=λz=>by rw [z] at h;simp at h
   exact ⟨by decide,k0 this H1 s1⟩
  ·exact Classical.byContradiction λz=>h (by simpa using λy=>z y.symm)
 rintro σ H1 ⟨rfl,S1,sy⟩;obtain ⟨T,hW,k⟩:=k1 sy;refine c9 (λσ H2 => ∃ lf zs fs,σ=[some (.ref a),some (.ref lf),none]/\c5 H1 H2/\H2 lf=some (.lst zs)/\FdH K (λ_=>True) H2 zs fs/\T4 N (qq M) Bt W (fs.map (·.1)) (fs.map (·.2))) (λNn hN=>?_) ?_
 ·subst_eqs
  have W4:W<=409:=⋯;refine ⟨a,ts,M,rfl,S1 _ _ ea,rw'.same S1,⋯,λL hL=>?_,λr us H2 s2 f2 e2 v2=>?_⟩
  ·obtain ⟨i,hi,rfl⟩:=v0p hL
   obtain ⟨l,_,ov⟩:=T.row (q0c hi);exact ⟨⋯,aQ9 T.fm.b0 (q0d T.fm.bW (i5 ⋯)) λq hq=>(ov q hq).mono ⋯⟩
  ·exact ⟨r,us,_,_,N,qq M,Bt,W,λ_ _=>0,λ_=>0,un,rfl,e2,v2,T.fm,hW,T.start,λr3 rs fs H3 s3 f3 e3 fd R=>hN _ _ ⟨r3,rs,fs,rfl,s2.trans s3,e3,fd,R⟩⟩
 rintro σ H2 ⟨lf,zs,fs,rfl,S2,ef,fd,R⟩;have lzs:=fd.length;have lc:=R.lc;have ll:=R.ll;rw [q0b] at lc;obtain ⟨cs,hcs⟩:∃ cs,cs=fs.map (·.1):=⟨_,rfl⟩
 have lct:(x8 N cs).length=N:=by unfold x8;rw [q0b,z0j]
 refine c9 (λσ H3 => ∃ rr,σ=[some (.ref a),some (.ref lf),some (.ref rr)]/\H2 rr=none/\G1 H2 rr (x8 N cs) H3) (λNn hN=>?_) ?_
 ·subst_eqs
  have lt:(ts.map V.ref).length=N:=by rw [q0b];omega
  refine ⟨_,.inl (SqL.of ((S1.trans S2) _ _ ea)),by rw [lt];omega,by rw [lt];omega,λD hD=>?_⟩
  rw [lt,show ((N:Int)).toNat=N by omega]
  refine G0 (λj σ H3 => ∃ o,σ=[some (.ref lf),o]/\G1 H2 D ((x8 N cs).take j) H3) ⟨_,rfl,G1.start hD⟩ ?_ ?_
  ·rintro j σ H3 hj ⟨o,rfl,t3⟩
   have s3:=t3.same;obtain ⟨NR,hNR⟩:∃ NR,NR=cs.map λcol=>((aZ col j:Int):Rat):=⟨_,rfl⟩;have gj:(x8 N cs)[j]? = some NR:=by unfold x8;rw [q0f,z0m hj,hNR];rfl
   have lNR:NR.length=N:=by rw [hNR,hcs,q0b,q0b];omega
   subst_eqs
   refine ⟨⟨_,SqL.of (s3 _ _ ef)⟩,λD2 hD2=>?_⟩;refine B7 zs (λi σ H4 => ∃ o1 o2,σ=[some (.int (0+(j:Int))),o1,o2]/\G2 H3 D2 (NR.take i) H4) ⟨_,_,rfl,G2.start hD2⟩ (λi σ H4 _ ⟨_,_,_,r4⟩=>SqL.of (r4.same _ _ (s3 _ _ ef))) ?_ ?_
   ·rintro i x σ H4 hx ⟨o1,o2,rfl,r4⟩
    obtain ⟨p,l,y,col,q,rfl,g,ep,el,_,_⟩:=(fd.same (s3.trans r4.same)).get hx;have lcol:=ll col (z0w.mpr ⟨(col,q),q0j g,rfl⟩)
    have gc:(col.map V.int)[j]? = some (.int (aZ col j)):=by
     unfold aZ;rw [q0f,q0c ⋯];rfl
    have gi:NR[i]? = some ((aZ col j:Int):Rat):=by rw [hNR,hcs,q0f,q0f,g];rfl
    have hi:=(q0h.mp hx).1
    subst_eqs
    rw [show (0:Int)+(j:Int)=((j:Nat):Int) by omega]
    refine ⟨_,SqT.of ep,rfl,_,_,rfl,_,_,rfl,rfl,l,rfl,_,SqL.of el,_,j3 gc,u0,λp5 hp5=>?_⟩;obtain ⟨ys,eD,yl,R'⟩:=r4.add hD2 (q:=((aZ col j:Int):Rat)) (c5.new hp5 (.tup [.int (aZ col j),.int 1])) (by rw [a9,aY8])
    refine r6.mk hi eD (t5 (by rw [yl,q0x];omega)) ⟨_,_,rfl,?_⟩
    rw [d9 gi];exact R'
   ·rintro σ H4 ⟨o1,o2,rfl,r4⟩
    rw [t9 ⋯] at r4;obtain ⟨ys,eD,yl,T'⟩:=t3.add hD hD2 r4;refine r6.mk hj eD (t5 (by rw [yl,q0x];omega)) ⟨_,rfl,?_⟩
    rw [d9 gj];exact T'
  ·rintro σ H3 ⟨o,rfl,t3⟩
   rw [t9 ⋯] at t3;exact hN _ _ ⟨D,rfl,hD,t3⟩
 rintro σ H3 ⟨rr,rfl,fr,T3⟩;obtain ⟨S3,us3,e3,n3,nd3,R3⟩:=T3
 subst_eqs
 have fd3:=fd.same S3;refine ⟨⟨_,SqL.of (S3 _ _ ef)⟩,λD hD=>?_⟩;refine B7 zs (λi σ H4 => ∃ o1 o2 us,σ=[o1,o2]/\c5 H3 H4/\H4 D=some (.lst us)/\A0 K H4 us ((fs.map (·.2)).take i)) ⟨_,_,[],rfl,c5.new hD _,a9,.nil⟩ (λi σ H4 _ ⟨_,_,_,_,s4,_⟩=>SqL.of (s4 _ _ (S3 _ _ ef))) ?_ ?_
 ·rintro i x σ H4 hx ⟨o1,o2,us,rfl,s4,e4,nu⟩
  obtain ⟨p,l,y,col,q,rfl,g,ep,el,ny,_⟩:=(fd3.same s4).get hx;have hi:=(q0h.mp hx).1;have lu:=nu.length
  subst_eqs
  refine ⟨_,SqT.of ep,rfl,_,_,rfl,_,_,rfl,rfl,?_⟩;obtain ⟨ay,rfl,hy⟩:=ny;have gq:(fs.map (·.2))[i]? = some q:=by rw [q0f,g];rfl
  refine r6.mk hi e4 (t5 (by rw [lu,q0x,q0b];omega)) ⟨_,_,rfl,s4.over hD _,_,a9,?_⟩
  rw [d9 gq];exact (nu.append (.cons hy .nil)).mono (W5.lst e4)
 ·rintro σ H4 ⟨o1,o2,us,rfl,s4,e4,nu⟩
  rw [v0c (by rw [q0b];omega)] at nu
  refine ⟨u0,λp hp=>?_⟩;have X:=c5.new hp (.tup [.ref rr,.ref D]);have S:=S1.trans (S2.trans (S3.trans s4));have S12:=S1.trans S2;have Dr:D ≠ rr:=(c7 e3 hD).symm
  have Dn:D ∉ us3:=λz=>by
   obtain ⟨i,hi⟩:=y0h.mp z;obtain ⟨_,_,_,e,_⟩:=R3.get hi;rw [hD] at e;cases e
  refine k p rr D us3 us cs _ _ (S.trans X) (S.free hp) (λt ht=>?_) ?_ a9 (X _ _ (s4 _ _ e3)) ((R3.same s4).same X) (X _ _ e4) (nu.mono X.tups) (by rw [hcs];exact R)
  ·rcases z0n.mp ht with z | z
   ·rw [z];exact S12.free fr
   ·rcases z0n.mp z with z | z
    ·rw [z];exact (S12.trans S3).free hD
    ·exact S12.free (n3 t z).1
  ·refine j0z.mpr ⟨λz=>?_,j0z.mpr ⟨Dn,nd3⟩⟩
   rcases z0n.mp z with z | z
   ·exact Dr z.symm
   ·exact (n3 rr z).2 rfl
def sgz (z:Int):Int:=if z > 0 then 1 else if z<0 then -1 else 0
theorem al5 {α:Type} (d:α) (p:α->Bool):∀ L:List α,(z0e L.length).countP (λk=>p ((L[k]?).getD d))=L.countP p
 | []=>rfl
 | x :: r=>by
  have ih:=al5 d p r;rw [j0x,m0e,y0n,g0a,y0n,<- ih];rfl
theorem aU2 (q:Rat):0<q.num ↔ 0<q:=by
 rw [m0p]
 show _ ↔ (0:Int)*(q.den:Int)<q.num*((1:Nat):Int);rw [g0u];simp
theorem aU3 (q:Rat):q.num<0 ↔ q<0:=by
 rw [m0p]
 show _ ↔ q.num*((1:Nat):Int)<(0:Int)*(q.den:Int);rw [g0u];simp
theorem aL7 (q:Rat):(sgz q.num=1 ↔ 0<q)/\(sgz q.num=-1 ↔ q<0):=by
 have h1:=aU2 q;have h2:=aU3 q;unfold sgz;refine ⟨?_,?_⟩
 ·rw [<- h1];split <;> (try split) <;> omega
 ·rw [<- h2];split <;> (try split) <;> omega
theorem aO6 (qs:List Rat):(qs.map λq=>V.int (sgz q.num)).countP (λz=>eqV z (.int 1))=aH4 (λi=>(qs[i]?).getD 0) qs.length/\(qs.map λq=>V.int (sgz q.num)).countP (λz=>eqV z (.int (-1)))=aI4 (λi=>(qs[i]?).getD 0) qs.length/\(qs.map λq=>V.int (sgz q.num)).countP (λz=>eqV z (.int 0))+aH4 (λi=>(qs[i]?).getD 0) qs.length+aI4 (λi=>(qs[i]?).getD 0) qs.length=qs.length:=by
 have e1:aH4 (λi=>(qs[i]?).getD 0) qs.length=qs.countP λq=>decide (0<q):=al5 0 (λq=>decide (0<q)) qs;have e2:aI4 (λi=>(qs[i]?).getD 0) qs.length=qs.countP λq=>decide (q<0):=al5 0 (λq=>decide (q<0)) qs;rw [e1,e2,g0a,g0a,g0a]
 have f1:((λz=>eqV z (.int 1)) ∘ λq:Rat=>V.int (sgz q.num))=λq=>decide (0<q):=funext λq=>by
  show eqV (.int (sgz q.num)) (.int 1)=_;have:=(aL7 q).1;simp only [eqV]
  by_cases z:0<q
  ·rw [decide_eq_true z];simp [this.mpr z]
  ·rw [decide_eq_false z];simp;exact λy=>z (this.mp y)
 have f2:((λz=>eqV z (.int (-1))) ∘ λq:Rat=>V.int (sgz q.num))=λq=>decide (q<0):=funext λq=>by
  show eqV (.int (sgz q.num)) (.int (-1))=_;have:=(aL7 q).2;simp only [eqV]
  by_cases z:q<0
  ·rw [decide_eq_true z];simp [this.mpr z]
  ·rw [decide_eq_false z];simp;exact λy=>z (this.mp y)
 rw [f1,f2];refine ⟨rfl,rfl,?_⟩;clear e1 e2 f1 f2
 induction qs with
 | nil=>rfl
 | cons q qs ih =>
  rw [y0n,y0n,y0n,j0x];have h1:=(aL7 q).1;have h2:=(aL7 q).2
  have h3:((λz=>eqV z (.int 0)) ∘ λq:Rat=>V.int (sgz q.num)) q=decide (sgz q.num=0):=by
   show eqV (.int (sgz q.num)) (.int 0)=_;simp only [eqV]
   by_cases z:sgz q.num=0
   ·rw [decide_eq_true z];simp [z]
   ·rw [decide_eq_false z];simpa using z
  have h4:sgz q.num=1 \/ sgz q.num=-1 \/ sgz q.num=0:=by
   unfold sgz
   split
   ·exact .inl rfl
   ·split
    ·exact .inr (.inl rfl)
    ·exact .inr (.inr rfl)
  rw [h3];rcases h4 with y | y | y
  ·have a:=h1.mp y
   have b:¬ q<0:=λz=>by have:=h2.mpr z;omega
   rw [decide_eq_false (show ¬ sgz q.num=0 by omega),decide_eq_true a,decide_eq_false b]
   simp only [if_true,y0s,if_false];omega
  ·have a:=h2.mp y
   have b:¬ 0<q:=λz=>by have:=h1.mpr z;omega
   rw [decide_eq_false (show ¬ sgz q.num=0 by omega),decide_eq_true a,decide_eq_false b]
   simp only [if_true,y0s,if_false];omega
  ·have a:¬ q<0:=λz=>by have:=h2.mpr z;omega
   have b:¬ 0<q:=λz=>by have:=h1.mpr z;omega
   rw [decide_eq_true y,decide_eq_false a,decide_eq_false b];simp only [if_true,y0s,if_false];omega
def ay9:Sp:=λvs H Q _ => ∃ z:Int,vs=[.int z]/\Q (.int (sgz z)) H
abbrev K1:Stmt:=top 26
theorem ak0:j1 ["whole"] ["whole"] (b9 K1):=by and_intros
theorem ak2 {f:Addr} (d:Df K mg "sign_of_whole" K1 ["whole"] f):Def P w K mg base CX0 1 "sign_of_whole" f ["whole"] ay9:=by
 refine d.ok (N:=["whole"]) ak0 (λvs H Q E ⟨z,h,_⟩=>by rw [h];rfl) (λcdv A outer s H vs Q E hr h=>?_)
 obtain ⟨z,rfl,k⟩:=h
 refine ⟨_,(b8 (z9 (l5 ai5 (pv 0) b7 (j9 _)) (c4 (i9 b7)) m8)
   (c4 (i9 (aE2 (l5 aq6 (pv 0) b7 (j9 _)) (aE1 aq1 b7) b7)))),?_⟩
 rw [show start ["whole"] [.int z]=[some (.int z)] from rfl]
 subst_eqs
 unfold sgz at k;refine A9 (λh=>?_) (λh=>?_)
 ·rw [if_pos h] at k;exact k
 ·rw [if_neg h] at k
  refine A9 (λh2=>?_) (λh2=>?_)
  ·rw [if_pos h2] at k;exact k
  ·rw [if_neg h2] at k;exact k
def aK5 (K:q0a):Sp:=λvs H Q _ => ∃ (p:Addr) (q:Rat),vs=[.ref p]/\SqT K H p (A1 q)/\Q (.int (sgz q.num)) H
abbrev ae2:Stmt:=top 27
theorem aH2:j1 ["number"] ["number"] (b9 ae2):=by and_intros
theorem aI1 {f fw:Addr} (d:Df K mg "sign_of" ae2 ["number"] f) (G_sign_of_whole:Def P w K mg base CX0 1 "sign_of_whole" fw ["whole"] ay9):Def P w K mg base CX0 2 "sign_of" f ["number"] (aK5 K):=by
 refine d.ok (N:=["number"]) aH2 (λvs H Q E ⟨x,p,h,_⟩=>by rw [h];rfl) (λcdv A outer s H vs Q E hr h=>?_)
 obtain ⟨ap,p,rfl,hp,k⟩:=h;refine ⟨_,(c4 (i9 (d6 G_sign_of_whole hr (a7 (d8 j8 (pv 0) b7 (λ_ _=>rfl)) a8) j0))),?_⟩;rw [show start ["number"] [.ref ap]=[some (.ref ap)] from rfl]
 simp! [ay9]
 exact ⟨_,hp,_,at0 p,_,rfl,k⟩
def af7 (j i:Nat):List V:=[V.bl (decide (j=i)),V.bl (decide (j=i+1)),V.bl (decide (j=i+2)),V.bl (decide (j=i+3))]
abbrev P5:Stmt:=top 63
theorem E4:j1 ["_law_e","_law_told","_law_names"] ["_law_e"] (b9 P5):=by and_intros
theorem au6 {a:CAd} {f:Addr} (d:Df K mg "_law_which" P5 ["_law_e"] f) (X:XTx K mg a) (n_isinstance:mg "isinstance" = none) (n_ValueError:mg "ValueError" = none):aX6 P w K mg base 1 "_law_which" f ["_law_e"] (ah8 K a):=by
  obtain ⟨x_NoFraction,x_NoPolynomial,x_NoStretch,x_NoRow,x_NoPair,x_NoBack,x_NoForm,x_NoParts,x_NoDegree,x_NoSteps,x_NoBox,x_NoGain,x_NoText,x_NoLine,x_NoName,x_NoDeed⟩:=X;refine d.okX (N:=["_law_e","_law_told","_law_names"]) E4 (λvs H Q E ⟨u,q,j,h,_⟩=>by rw [h];rfl) (λcdv A outer s H vs Q E hr h=>?_)
  obtain ⟨e,C,j,rfl,kt,hj,he,k⟩:=h
  refine ⟨_, (b8 (i8 (i := 1) E4.nd rfl (Or.inl rfl) (F8 (a7 (h8 j6 rfl n_isinstance (by decide +kernel) (a7 (pv 0) (a7 (z8 (v := .ref _) rfl x_NoFraction.m rfl) a8))) (a7 (h8 j6 rfl n_isinstance (by decide +kernel) (a7 (pv 0) (a7 (z8 (v := .ref _) rfl x_NoPolynomial.m rfl) a8))) (a7 (h8 j6 rfl n_isinstance (by decide +kernel) (a7 (pv 0) (a7 (z8 (v := .ref _) rfl x_NoStretch.m rfl) a8))) (a7 (h8 j6 rfl n_isinstance (by decide +kernel) (a7 (pv 0) (a7 (z8 (v := .ref _) rfl x_NoRow.m rfl) a8))) a8))))))
      (b8 (i8 (i:=1) E4.nd rfl (Or.inl rfl) (i7 V6 (pv 1) (F8 (a7 (h8 j6 rfl n_isinstance (by decide +kernel) (a7 (pv 0) (a7 (z8 (v:=.ref _) rfl x_NoPair.m rfl) a8))) (a7 (h8 j6 rfl n_isinstance (by decide +kernel) (a7 (pv 0) (a7 (z8 (v:=.ref _) rfl x_NoBack.m rfl) a8))) (a7 (h8 j6 rfl n_isinstance (by decide +kernel) (a7 (pv 0) (a7 (z8 (v:=.ref _) rfl x_NoForm.m rfl) a8))) (a7 (h8 j6 rfl n_isinstance (by decide +kernel) (a7 (pv 0) (a7 (z8 (v:=.ref _) rfl x_NoParts.m rfl) a8))) a8)))))))
      (b8 (i8 (i:=1) E4.nd rfl (Or.inl rfl) (i7 V6 (pv 1) (F8 (a7 (h8 j6 rfl n_isinstance (by decide +kernel) (a7 (pv 0) (a7 (z8 (v:=.ref _) rfl x_NoDegree.m rfl) a8))) (a7 (h8 j6 rfl n_isinstance (by decide +kernel) (a7 (pv 0) (a7 (z8 (v:=.ref _) rfl x_NoSteps.m rfl) a8))) (a7 (h8 j6 rfl n_isinstance (by decide +kernel) (a7 (pv 0) (a7 (z8 (v:=.ref _) rfl x_NoBox.m rfl) a8))) (a7 (h8 j6 rfl n_isinstance (by decide +kernel) (a7 (pv 0) (a7 (z8 (v:=.ref _) rfl x_NoGain.m rfl) a8))) a8)))))))
      (b8 (i8 (i:=1) E4.nd rfl (Or.inl rfl) (i7 V6 (pv 1) (F8 (a7 (h8 j6 rfl n_isinstance (by decide +kernel) (a7 (pv 0) (a7 (z8 (v:=.ref _) rfl x_NoText.m rfl) a8))) (a7 (h8 j6 rfl n_isinstance (by decide +kernel) (a7 (pv 0) (a7 (z8 (v:=.ref _) rfl x_NoLine.m rfl) a8))) (a7 (h8 j6 rfl n_isinstance (by decide +kernel) (a7 (pv 0) (a7 (z8 (v:=.ref _) rfl x_NoName.m rfl) a8))) (a7 (h8 j6 rfl n_isinstance (by decide +kernel) (a7 (pv 0) (a7 (z8 (v:=.ref _) rfl x_NoDeed.m rfl) a8))) a8)))))))
      (b8 (i8 (i:=2) E4.nd rfl (Or.inl rfl) V5)
      (b8 (z9 (PW.pt (aa5 (l5 af9 (R4 PySem.F.plainAttrs_list PySem.F.slot_list_count PySem.F.type_list_count R9 (pv 1) (a7 X3 a8)) b7 (j9 _)) (ag7 (N3 (N2 (h8 j6 rfl n_isinstance (by decide +kernel) (a7 (pv 0) (a7 (V3 (v:=.ty "ValueError") rfl n_ValueError (by decide +kernel) rfl) a8)))))))) (c4 (i9 V5)) m8)
      (c4 (i9 (d8 i6 (R4 PySem.F.plainAttrs_str PySem.F.slot_str_split PySem.F.type_str_split aU4 (pv 2) (a7 V5 a8)) (R4 PySem.F.plainAttrs_list PySem.F.slot_list_index PySem.F.type_list_index aU5 (pv 1) (a7 X3 a8)) (λ_ _=>rfl)))))))))),?_⟩
  rw [show start ["_law_e","_law_told","_law_names"] [.ref e]=[some (.ref e),none,none] from rfl]
  have ty:∀ {H':Hp},c5 H H'->TyX K H' (.ref e) (.ref C):=λsm=>.exc (sm _ _ he) kt.ec;refine c9 (λσ H1 => ∃ l,σ=[some (.ref e),some (.ref l),none]/\c5 H H1/\H1 l=some (.lst (af7 j 0))) (λN hN=>?_) ?_
  · subst_eqs
    exact ⟨trivial,_,ty (c5.refl _),_,kt.k_NoFraction,trivial,_,ty (c5.refl _),_,kt.k_NoPolynomial,trivial,_,ty (c5.refl _),_,kt.k_NoStretch,trivial,_,ty (c5.refl _),_,kt.k_NoRow,by decide,λl h=>hN _ _ ⟨l,rfl,c5.new h _,a9⟩⟩
  rintro σ H1 ⟨l1,rfl,sA1,eA1⟩;refine c9 (λσ H2 => ∃ l,σ=[some (.ref e),some (.ref l),none]/\c5 H H2/\H2 l=some (.lst (af7 j 0 ++ af7 j 4))) (λN hN=>?_) ?_
  · subst_eqs
    exact ⟨trivial,_,ty sA1,_,kt.k_NoPair,trivial,_,ty sA1,_,kt.k_NoBack,trivial,_,ty sA1,_,kt.k_NoForm,trivial,_,ty sA1,_,kt.k_NoParts,by decide,λp hp=>⟨_,(c8 (c7 eA1 hp)).trans eA1,_,a9,(show (8:Nat)<=sizeLine from by decide),λl h=>hN _ _ ⟨l,rfl,(sA1.trans (c5.new hp _)).trans (c5.new h _),a9⟩⟩⟩
  rintro σ H2 ⟨l2,rfl,sA2,eA2⟩;refine c9 (λσ H2 => ∃ l,σ=[some (.ref e),some (.ref l),none]/\c5 H H2/\H2 l=some (.lst (af7 j 0 ++ af7 j 4 ++ af7 j 8))) (λN hN=>?_) ?_
  · subst_eqs
    exact ⟨trivial,_,ty sA2,_,kt.k_NoDegree,trivial,_,ty sA2,_,kt.k_NoSteps,trivial,_,ty sA2,_,kt.k_NoBox,trivial,_,ty sA2,_,kt.k_NoGain,by decide,λp hp=>⟨_,(c8 (c7 eA2 hp)).trans eA2,_,a9,(show (12:Nat)<=sizeLine from by decide),λl h=>hN _ _ ⟨l,rfl,(sA2.trans (c5.new hp _)).trans (c5.new h _),a9⟩⟩⟩
  rintro σ H3 ⟨l3,rfl,sA3,eA3⟩;refine c9 (λσ H2 => ∃ l,σ=[some (.ref e),some (.ref l),none]/\c5 H H2/\H2 l=some (.lst (af7 j 0 ++ af7 j 4 ++ af7 j 8 ++ af7 j 12))) (λN hN=>?_) ?_
  · subst_eqs
    exact ⟨trivial,_,ty sA3,_,kt.k_NoText,trivial,_,ty sA3,_,kt.k_NoLine,trivial,_,ty sA3,_,kt.k_NoName,trivial,_,ty sA3,_,kt.k_NoDeed,by decide,λp hp=>⟨_,(c8 (c7 eA3 hp)).trans eA3,_,a9,(show (16:Nat)<=sizeLine from by decide),λl h=>hN _ _ ⟨l,rfl,(sA3.trans (c5.new hp _)).trans (c5.new h _),a9⟩⟩⟩
  rintro σ H4 ⟨l4,rfl,sA4,eA4⟩;have eT:H4 l4=some (.lst (aR8 j)):=eA4;clear eA4
  subst_eqs
  refine ⟨.inl ⟨_,SqL.of eT⟩,_,eT,rfl,av7 j hj,rfl,?_⟩;rw [aG7 j hj];refine A9 (λhh=>absurd rfl hh) (λ_=>?_);refine ⟨trivial,_,ty sA4,_,kt.kV,?_⟩;refine A9 (λhh=>absurd hh (by decide)) (λ_=>?_)
  refine ⟨by decide +kernel,by decide +kernel,by decide +kernel,by decide +kernel,by rw [am7];decide,λl hl=>?_⟩
  have eT':(upd H4 l (.lst ((ae4 "fraction polynomial stretch row pair back form parts degree steps box gain text line name deed" " ").map V.str))) l4=some (.lst (aR8 j)):=(c8 (c7 eT hl)).trans eT
  refine ⟨.inl ⟨_,SqL.of eT'⟩,_,eT',rfl,av7 j hj,_,aR7 j hj,_,SqL.of a9,_,aZ0 hj,?_⟩;exact k _ (sA4.trans (c5.new hl _))
def aD3 (K:q0a) (C:Addr):Sp:=λvs H _ E => ∃ (a:Addr) (ts:List Addr) (M:List (List Rat)) (N:Nat),vs=[.ref a]/\H a=some (.lst (ts.map V.ref))/\Rws H ts M/\E7 N M (qq M)/\N<=7/\w4 M N ≠ M/\∀ H1,c5 H H1->E (.ref C) none H1
abbrev ai1:Stmt:=top 42
theorem aD4:j1 ["table","found"] ["table"] (b9 ai1):=by and_intros
theorem aT7 {f f1 f2 C:Addr} (d:Df K mg "signs" ai1 ["table"] f) (G_squares:Def P w K mg base (CXR P w) 5 "squares" f1 ["table"] (ag3 K C)) (G_sign_of:Def P w K mg base CX0 2 "sign_of" f2 ["number"] (aK5 K)):Def P w K mg base (CXR P w) 6 "signs" f ["table"] (aD3 K C):=by
  refine d.okR (N:=["table","found"]) aD4 (by rintro vs H Q E ⟨_,_,_,_,h,_⟩;rw [h];rfl) (λcdv A' outer s H vs Q E hr h=>?_)
  obtain ⟨a,ts,M,N,rfl,ea,rw',tf,n7,ns,k⟩:=h;have hu:=hr.units
  refine ⟨_, (b8 (Q9 (i₀ := 1) aD4.nd rfl (Or.inl rfl) (Nc := ["square"]) (caps := [none]) rfl (J3.of (osc := b9 ai1) (N := ["table", "found"]) (ks := []) rfl rfl rfl rfl l9 (by decide +kernel)) (x9 (d8 j8 (d6 G_squares hr (a7 (pv 0) a8) (aP2 fun _ _ h => h)) b7 (fun _ _ => rfl))) (fun C s₂ H₂ fp pins => (c6 (i := 0) (show List.Nodup (["square"] : List Str) by decide +kernel) rfl (Or.inl rfl) (Or.inr rfl))) (fun C s₂ H₂ fp pins => (d6 G_sign_of hr (a7 (pv 0) a8) j0)))
      (c4 (i9 (m5 (a7 (R4 PySem.F.plainAttrs_list PySem.F.slot_list_count PySem.F.type_list_count R9 (pv 1) (a7 b7 a8)) (a7 (R4 PySem.F.plainAttrs_list PySem.F.slot_list_count PySem.F.type_list_count R9 (pv 1) (a7 (aE1 aq1 b7) a8)) (a7 (R4 PySem.F.plainAttrs_list PySem.F.slot_list_count PySem.F.type_list_count R9 (pv 1) (a7 b7 a8)) a8))))))),?_⟩
  rw [show start ["table","found"] [.ref a]=[some (.ref a),none] from rfl]
  subst_eqs
  exact ⟨a,ts,M,N,0,0,rfl,ea,rw',tf,n7,λ_=>k,λy=>absurd y ns⟩
def av9 (K:q0a):Sp:=λvs H Q _ => ∃ (a:Addr) (ts:List Addr) (M:List (List Rat)) (N Bt W:Nat),vs=[.ref a]/\H a=some (.lst (ts.map V.ref))/\Rws H ts M/\E7 N M (qq M)/\N<=7/\(w4 M N ≠ M->∀ t H',c5 H H'->H' t=some (.tup [.str "refused",.str "form"])->Q (.ref t) H')/\(w4 M N=M->FmT N M Bt W/\(W+19)*14<6000/\∀ r rr rq ts' zs cols qs H',c5 H H'->H r=none->(∀ t ∈ rr :: rq :: ts',H t=none)->(rr :: rq :: ts').Nodup->H' r=some (.tup [.ref rr,.ref rq])->H' rr=some (.lst (ts'.map V.ref))->Rws H' ts' (x8 N cols)->H' rq=some (.lst zs)->A0 K H' zs qs->T4 N (qq M) Bt W cols qs->Q (.ref r) H')
abbrev B5:Stmt:=top 66
theorem O0:j1 ["_law_table","_law_e"] ["_law_table"] (b9 B5):=by and_intros
theorem ac5 {a:CAd} {f fw fg:Addr} (d:Df K mg "_law_squares_said" B5 ["_law_table"] f) (G_squares:Def P w K mg base (CXR P w) 5 "squares" fg ["table"] (ag3 K a.c_NoForm)) (G__law_which:aX6 P w K mg base 1 "_law_which" fw ["_law_e"] (ah8 K a)) (x_RestError:ExT K mg "RestError" a.c_RestError) (kt:ba7 K a a.c_NoForm 6):Def P w K mg base CX0 6 "_law_squares_said" f ["_law_table"] (av9 K):=by
 refine d.ok (N:=["_law_table","_law_e"]) O0 (by rintro vs H Q E ⟨_,_,_,_,_,_,h,_⟩;rw [h];rfl) (λcdv A outer s H vs Q E hr h=>?_)
 obtain ⟨a1,ts,M,N,Bt,W,rfl,ea,rw',tf,n7,k0,k1⟩:=h;refine ⟨_,(c4 (aS8 (i:=1) (C:=a.c_RestError) rfl rfl rfl O0.nd rfl rfl rfl x_RestError.m (λE xe pn hx=>(c4 (i9 (d6 G_squares hr (a7 (pv 0) a8) hx)))) (λb=>(c4 (i9 (m5 (a7 V5 (a7 (aM1 G__law_which (hr.toX.mark _) (a7 (pv 1) a8)) a8)))))))),?_⟩;rw [show start ["_law_table","_law_e"] [.ref a1]=[some (.ref a1),none] from rfl]
 simp! [bc1,ah8]
 exact ⟨a1,ts,M,N,Bt,W,rfl,ea,rw',tf,n7,λhn H1 s1=>⟨kt.ex,λe he=>⟨_,rfl,e,rfl,_,6,kt,by decide,a9,λH2 s2=>⟨u0,λp hp=>k0 hn p _ ((s1.trans ((c5.new he _).trans s2)).trans (c5.new hp _)) a9⟩⟩⟩,k1⟩
def aw0:Sp:=λvs H Q _ => ∃ (a:Addr) (ts:List Addr) (M:List (List Rat)) (N:Nat),vs=[.ref a]/\H a=some (.lst (ts.map V.ref))/\Rws H ts M/\E7 N M (qq M)/\N<=7/\w4 M N ≠ M/\∀ t H',c5 H H'->H' t=some (.tup [.str "refused",.str "form"])->Q (.ref t) H'
abbrev E8:Stmt:=top 67
theorem Q7:j1 ["_law_table","_law_e"] ["_law_table"] (b9 E8):=by and_intros
theorem ag8 {a:CAd} {f fw fg:Addr} (d:Df K mg "_law_signs_said" E8 ["_law_table"] f) (G_signs:Def P w K mg base (CXR P w) 6 "signs" fg ["table"] (aD3 K a.c_NoForm)) (G__law_which:aX6 P w K mg base 1 "_law_which" fw ["_law_e"] (ah8 K a)) (x_RestError:ExT K mg "RestError" a.c_RestError) (kt:ba7 K a a.c_NoForm 6):Def P w K mg base CX0 7 "_law_signs_said" f ["_law_table"] aw0:=by
 refine d.ok (N:=["_law_table","_law_e"]) Q7 (by rintro vs H Q E ⟨_,_,_,_,h,_⟩;rw [h];rfl) (λcdv A outer s H vs Q E hr h=>?_)
 obtain ⟨a1,ts,M,N,rfl,ea,rw',tf,n7,ns,k0⟩:=h;refine ⟨_,(c4 (aS8 (i:=1) (C:=a.c_RestError) rfl rfl rfl Q7.nd rfl rfl rfl x_RestError.m (λE xe pn hx=>(c4 (i9 (d6 G_signs hr (a7 (pv 0) a8) hx)))) (λb=>(c4 (i9 (m5 (a7 V5 (a7 (aM1 G__law_which (hr.toX.mark _) (a7 (pv 1) a8)) a8)))))))),?_⟩;rw [show start ["_law_table","_law_e"] [.ref a1]=[some (.ref a1),none] from rfl]
 simp! [bc1,ah8]
 exact ⟨a1,ts,M,N,rfl,ea,rw',tf,n7,ns,λH1 s1=>⟨kt.ex,λe he=>⟨_,rfl,e,rfl,_,6,kt,by decide,a9,λH2 s2=>⟨u0,λp hp=>k0 p _ ((s1.trans ((c5.new he _).trans s2)).trans (c5.new hp _)) a9⟩⟩⟩⟩
abbrev P7:Stmt:=top 53
theorem af8:j1 ["_law_urn_here","_law_kind","_law_found"] ["_law_urn_here","_law_kind"] (b9 P7):=by and_intros
def NK (kd:Int) (q:Rat):Prop:=if kd=2 then BdN 40 q else if kd=0 then OvB 60 10 q else OvB 1 4 q
theorem bg0 {t d:Int} (h1:1<=d) (h6:d<=6) (h:t.natAbs<=9):OvB 60 10 (q0w t d):=by
 have h0:d=1 \/ d=2 \/ d=3 \/ d=4 \/ d=5 \/ d=6:=⋯;rcases h0 with rfl | rfl | rfl | rfl | rfl | rfl
 ·exact ⟨t*60,(z0d (by decide) (by decide)).mpr ⋯,⋯⟩
 ·exact ⟨t*30,(z0d (by decide) (by decide)).mpr ⋯,⋯⟩
 ·exact ⟨t*20,(z0d (by decide) (by decide)).mpr ⋯,⋯⟩
 ·exact ⟨t*15,(z0d (by decide) (by decide)).mpr ⋯,⋯⟩
 ·exact ⟨t*12,(z0d (by decide) (by decide)).mpr ⋯,⋯⟩
 ·exact ⟨t*10,(z0d (by decide) (by decide)).mpr ⋯,⋯⟩
theorem ov1 {t:Int} (h:t.natAbs<=9):OvB 1 4 (q0w t 1):=⟨t,rfl,⋯⟩
theorem NK.ovb0 {q:Rat} (h:NK 0 q):OvB 60 10 q:=by unfold NK at h;rw [if_neg (by decide),if_pos rfl] at h;exact h
theorem NK.ovb1 {q:Rat} (h:NK 1 q):OvB 1 4 q:=by unfold NK at h;rw [if_neg (by decide),if_neg (by decide)] at h;exact h
theorem bh0 {t b:Int} (hb:b ≠ 0) (h1:t.natAbs<=9) (h2:b.natAbs<=7):BdN 4 (q0w t b):=by
 have:=Q5 (t:=t) hb;exact ⟨q0m this.1 ⋯,q0m this.2 ⋯⟩
def aj8:Sp:=λvs H Q _ => ∃ u kd,vs=[.ref u,.int kd]/\p8 H u/\∀ r q H',NK kd q->p9 u H H'->p8 H' u->H' r=some (.tup (A1 q))->Q (.ref r) H'
theorem ap1 {f fd fl:Addr} (d:Df K mg "_law_number" N8 ["_law_urn_here","_law_kind"] f) (G__law_draw:Def P w K mg base CX0 1 "_law_draw" fd ["_law_urn_here","_law_many"] y9) (G__law_low:Def P w K mg base CX0 1 "_law_low" fl ["_law_top","_law_bottom"] am5) (n_int:mg "int" = none):Def P w K mg base CX0 2 "_law_number" f ["_law_urn_here","_law_kind"] aj8:=by
 refine d.ok (N:=["_law_urn_here","_law_kind","_law_top"]) ab5 (λvs H Q E ⟨u,kd,h,_⟩=>by rw [h];rfl) (λcdv A outer s H vs Q E hr h=>?_)
 obtain ⟨u,kd,rfl,hu,k⟩:=h
 refine ⟨_,(b8 (z9 (l5 X4 (pv 1) b7 (j9 _)) (b8 (i8 (i:=2) ab5.nd rfl (q0y rfl) (i7 B4 (i7 q8 (d6 G__law_draw hr (a7 (pv 0) (a7 (i7 ac4 b7 b7) a8)) j0) (i7 ac4 b7 b7)) (d6 G__law_draw hr (a7 (pv 0) (a7 (i7 ac4 b7 b7) a8)) j0)))
   (c4 (i9 (d6 G__law_low hr (a7 (i7 q8 (pv 2) (d8 i6 (F8 (a7 b7 (a7 (aE1 aq1 b7) a8))) (d6 G__law_draw hr (a7 (pv 0) (a7 b7 a8)) j0) (λ_ _=>rfl))) (a7 (i7 B4 b7 (i7 q8 (d6 G__law_draw hr (a7 (pv 0) (a7 (i7 ac4 b7 b7) a8)) j0) (i7 ac4 b7 b7))) a8)) j0)))) m8)
   (c4 (i9 (d6 G__law_low hr (a7 (i7 ac3 (d6 G__law_draw hr (a7 (pv 0) (a7 b7 a8)) j0) b7) (a7 (i7 B4 b7 (i7 q8 (d6 G__law_draw hr (a7 (pv 0) (a7 b7 a8)) j0) (E5 N5 rfl n_int (by decide +kernel) (a7 (K3 X4 (pv 1) b7 (j9 _)) a8)))) a8)) j0)))),?_⟩
 rw [show start ["_law_urn_here","_law_kind","_law_top"] [.ref u,.int kd]=[some (.ref u),some (.int kd),none] from rfl]
 have e10:(10:Int) ^ u0p 6=1000000:=by decide
 simp! [y9,aH1]
 refine A9 (λhk2=>?_) (λhk2=>?_)
 ·refine ⟨⟨by decide,by decide,by decide⟩,hu,by decide,by decide,λr2 H2 a2 b2 s2 u2=>?_⟩
  refine ⟨⟨by decide,by decide,by decide⟩,aF1 (by decide),⟨by decide,by decide,by decide⟩,u2,by decide,by decide,λr3 H3 a3 b3 s3 u3=>?_⟩
  refine ⟨by decide,λl hl=>⟨T7 u3 hl,by decide,by decide,λr4 H4 a4 b4 s4 u4=>?_⟩⟩
  have e:=s4 l _ a9 (C4 u3 hl);have b2':r2<1000000:=b2;have b3':r3<1000000:=b3;have sx:p9 u H H4:=s2.trans (s3.trans (p9.trans (c5.x (c5.new hl _) u) s4))
  have fin:∀ sg:Int,sg=1 \/ sg=-1->(bf5 10 6/\p8 H4 u/\0<(10:Int) ^ u0p 6/\(10:Int) ^ u0p 6<2 ^ 40/\∀ (r:Int) (H':Hp),0<=r->r<10 ^ u0p 6->p9 u H4 H'->p8 H' u ->
    bf5 10 6/\IntMulOk r (10 ^ u0p 6)/\am5 [V.int ((r2*10 ^ u0p 6+r3)*sg),V.int (1+r*10 ^ u0p 6)] H' Q E0):=by
   intro sg hsg;refine ⟨⟨by decide,by decide,by decide⟩,u4,by decide,by decide,λr5 H5 a5 b5 s5 u5=>⟨⟨by decide,by decide,by decide⟩,aF1 (by decide),?_⟩⟩
   rw [e10] at b5 ⊢;refine ⟨_,_,rfl,⋯,q0d (show (1+r5*1000000).natAbs<2 ^ 64 by omega) (i5 (by decide)),λr H' sm hr'=>?_⟩
   refine k r _ H' (by unfold NK;rw [if_pos hk2];refine (bf7 ⋯ ?_ ⋯).bdN;rcases hsg with h | h <;> subst h <;> omega) (sx.trans (s5.trans (c5.x sm u))) (c5.urn sm u5) hr'
  have h3:r4=0 \/ r4=1:=⋯;rcases h3 with h | h <;> subst h
  ·exact ⟨_,SqL.of e,_,rfl,_,rfl,aF1 (by decide),fin 1 (.inl rfl)⟩
  ·exact ⟨_,SqL.of e,_,rfl,_,rfl,aF1 (by decide),fin (-1) (.inr rfl)⟩
 ·refine ⟨hu,by decide,by decide,λr2 H2 a2 b2 s2 u2=>⟨u2,by decide,by decide,λr3 H3 a3 b3 s3 u3=>⟨bd2 ⋯,?_⟩⟩⟩
  have hz:∃ z:Int,z=r3*(if kd=0 then 1 else 0)/\0<=z/\z<=5/\(kd ≠ 0->z=0):=by
   refine ⟨_,rfl,?_,?_,?_⟩
   ·split <;> omega
   ·split <;> omega
   ·intro h;rw [if_neg h,Int.mul_zero]
  obtain ⟨z,ez,z0,z6,zk⟩:=hz;rw [<- ez];refine ⟨_,_,rfl,⋯,q0d (show (1+z).natAbs<2 ^ 64 by omega) (i5 (by decide)),λr H' sm hr'=>?_⟩
  exact k r _ H' (by
   unfold NK;rw [if_neg hk2]
   by_cases h0:kd=0
   ·rw [if_pos h0];exact bg0 ⋯ ⋯ ⋯
   ·rw [if_neg h0,zk h0];exact ov1 ⋯) (s2.trans (s3.trans (c5.x sm u))) (c5.urn sm u3) hr'
def ab3:Sp:=λvs H Q _ => ∃ u kd,vs=[.ref u,.int kd]/\p8 H u/\∀ r q H',NK kd q->q ≠ 0->p9 u H H'->p8 H' u->H' r=some (.tup (A1 q))->Q (.ref r) H'
theorem ar0 {f fd fl:Addr} (d:Df K mg "_law_other" P7 ["_law_urn_here","_law_kind"] f) (G__law_draw:Def P w K mg base CX0 1 "_law_draw" fd ["_law_urn_here","_law_many"] y9) (GD__law_number:Def P w K mg base CX0 2 "_law_number" fl ["_law_urn_here","_law_kind"] aj8):Def P w K mg base CX0 3 "_law_other" f ["_law_urn_here","_law_kind"] ab3:=by
 refine d.ok (N:=["_law_urn_here","_law_kind","_law_found"]) af8 (λvs H Q E ⟨u,kd,h,_⟩=>by rw [h];rfl) (λcdv A outer s H vs Q E hr h=>?_)
 obtain ⟨u,kd,rfl,hu,k⟩:=h;have G__law_number:=GD__law_number
 refine ⟨_,(b8 (i8 (i:=2) af8.nd rfl (q0y rfl) (d6 G__law_number hr (a7 (pv 0) (a7 (pv 1) a8)) j0))
   (b8 (z9 (l5 X4 (d8 j8 (pv 2) b7 (λ_ _=>rfl)) b7 (j9 _)) (c4 (i9 (m5 (a7 (i7 B4 b7 (d6 G__law_draw hr (a7 (pv 0) (a7 b7 a8)) j0)) (a7 b7 a8))))) m8)
   (c4 (i9 (pv 2))))),?_⟩
 rw [show start ["_law_urn_here","_law_kind","_law_found"] [.ref u,.int kd]=[some (.ref u),some (.int kd),none] from rfl]
 simp! [y9]
 refine ⟨u,kd,rfl,hu,λr q H1 sm s1 u1 e1=>?_⟩;refine ⟨r,rfl,_,SqT.of e1,_,at0 q,rfl,A9 (λ_=>?_) (λhn=>?_)⟩
 ·refine ⟨u1,by decide,by decide,λr2 H2 a2 b2 s2 u2=>⟨u0,λl hl=>?_⟩⟩
  have hd:=ar1 (n:=1+r2) (d:=1) (by decide) (by simp)
  refine k l (q0w (1+r2) 1) _ (by
   unfold NK
   split
   ·exact (bh0 (by decide) ⋯ (by decide)).mono (by decide)
   ·split
    ·exact bg0 (by decide) (by decide) ⋯
    ·exact ov1 ⋯) ?_ (s1.trans (s2.trans (c5.x (c5.new hl _) u))) (T7 u2 hl) ?_
  ·intro z
   rw [z] at hd;have:(0:Rat).num=0:=rfl;omega
  ·rw [a9]
   unfold A1;rw [hd.1,hd.2]
 ·refine k r q H1 sm (λz=>hn ?_) s1 u1 e1
  rw [z];rfl
structure BtN (k:Nat) (q:Rat):Prop where
 n:q.num.natAbs<2 ^ 20000
 d:q.den<2 ^ k
theorem BtN.d' {n:Nat} {q:Rat} (b:BtN n q):(q.den:Int).natAbs<2 ^ n:=by rw [q0r];exact b.d
theorem BdN.t {n:Nat} {q:Rat} (b:BdN n q) (h:n<=20000):BtN n q:=⟨q0d b.n (i5 h),b.d⟩
theorem BdN.d' {n:Nat} {q:Rat} (b:BdN n q):(q.den:Int).natAbs<2 ^ n:=by rw [q0r];exact b.d
theorem C3.set {H:Hp}:∀ {vs:List V} {qs:List Rat} (k:Nat) {p:Addr} {q:Rat},C3 H vs qs->H p=some (.tup (A1 q))->C3 H (vs.set k (.ref p)) (qs.set k q)
 | _,_,_,_,_,.nil,_=>.nil
 | _,_,0,_,_,.cons _ t,h=>.cons h t
 | _,_,k+1,_,_,.cons h' t,h=>.cons h' (t.set k h)
def K5 (K:q0a) (op:Rat->Rat->Rat):Sp:=λvs H Q _ => ∃ (x y:V) (p q:Rat) (m n:Nat),vs=[x,y]/\Num K H x p/\Num K H y q/\BtN m p/\BtN n q/\m+n<=6000/\at3 H Q (op p q)
theorem be6 {p q:Rat} {m n:Nat} (bp:BtN m p) (bq:BtN n q) (h:m+n<=6000):((p.den:Int)*q.den).natAbs<2 ^ 6000:=by
 rw [z0a];have:=j0e bp.d' bq.d';rw [<- z0u] at this;exact q0d this (i5 h)
theorem ap9 (p q:Rat):(p.den:Int)*q.den ≠ 0:=m0x (q1a (v9 p) (v9 q))
abbrev U4:Stmt:=top 47
theorem az5:j1 ["_law_one","_law_other_here"] ["_law_one","_law_other_here"] (b9 U4):=by and_intros
theorem aA5 {f fl:Addr} (d:Df K mg "_law_plus" U4 ["_law_one","_law_other_here"] f) (G__law_low:Def P w K mg base CX0 1 "_law_low" fl ["_law_top","_law_bottom"] am5):Def P w K mg base CX0 2 "_law_plus" f ["_law_one","_law_other_here"] (K5 K (· + ·)):=by
 refine d.ok (N:=["_law_one","_law_other_here"]) az5 (by rintro vs H Q E ⟨x,y,p,q,m,n,h,_⟩;rw [h];rfl) (λcdv A outer s H vs Q E hr h=>?_)
 obtain ⟨x,y,p,q,m,n,rfl,⟨ap,rfl,hp⟩,⟨aq,rfl,hq⟩,bp,bq,hmn,k⟩:=h;refine ⟨_,(c4 (i9 (d6 G__law_low hr (a7 (i7 B4 (i7 q8 (d8 j8 (pv 0) b7 (λ_ _=>rfl)) (d8 j8 (pv 1) b7 (λ_ _=>rfl))) (i7 q8 (d8 j8 (pv 1) b7 (λ_ _=>rfl)) (d8 j8 (pv 0) b7 (λ_ _=>rfl)))) (a7 (i7 q8 (d8 j8 (pv 0) b7 (λ_ _=>rfl)) (d8 j8 (pv 1) b7 (λ_ _=>rfl))) a8)) j0))),?_⟩;rw [show start ["_law_one","_law_other_here"] [.ref ap,.ref aq]=[some (.ref ap),some (.ref aq)] from rfl]
 subst_eqs
 refine ⟨_,hp,_,at0 p,_,hq,_,at1 q,_,rfl,_,rfl,L6 bp.n bq.d' ⋯,_,hq,_,at0 q,_,hp,_,at1 p,_,rfl,_,rfl,L6 bq.n bp.d' ⋯,_,hp,_,at1 p,_,hq,_,at1 q,_,rfl,_,rfl,L6 bp.d' bq.d' ⋯,?_⟩;refine ⟨_,_,rfl,ap9 p q,be6 bp bq hmn,?_⟩;rw [<- aJ8];exact k
abbrev P6:Stmt:=top 49
theorem at9:j1 ["_law_one","_law_other_here"] ["_law_one","_law_other_here"] (b9 P6):=by and_intros
theorem au7 {f fl:Addr} (d:Df K mg "_law_times" P6 ["_law_one","_law_other_here"] f) (G__law_low:Def P w K mg base CX0 1 "_law_low" fl ["_law_top","_law_bottom"] am5):Def P w K mg base CX0 2 "_law_times" f ["_law_one","_law_other_here"] (K5 K (· * ·)):=by
 refine d.ok (N:=["_law_one","_law_other_here"]) at9 (by rintro vs H Q E ⟨x,y,p,q,m,n,h,_⟩;rw [h];rfl) (λcdv A outer s H vs Q E hr h=>?_)
 obtain ⟨x,y,p,q,m,n,rfl,⟨ap,rfl,hp⟩,⟨aq,rfl,hq⟩,bp,bq,hmn,k⟩:=h;refine ⟨_,(c4 (i9 (d6 G__law_low hr (a7 (i7 q8 (d8 j8 (pv 0) b7 (λ_ _=>rfl)) (d8 j8 (pv 1) b7 (λ_ _=>rfl))) (a7 (i7 q8 (d8 j8 (pv 0) b7 (λ_ _=>rfl)) (d8 j8 (pv 1) b7 (λ_ _=>rfl))) a8)) j0))),?_⟩;rw [show start ["_law_one","_law_other_here"] [.ref ap,.ref aq]=[some (.ref ap),some (.ref aq)] from rfl]
 subst_eqs
 refine ⟨_,hp,_,at0 p,_,hq,_,at0 q,_,rfl,_,rfl,L6 bp.n bq.n ⋯,_,hp,_,at1 p,_,hq,_,at1 q,_,rfl,_,rfl,L6 bp.d' bq.d' ⋯,?_⟩;refine ⟨_,_,rfl,ap9 p q,be6 bp bq hmn,?_⟩;rw [<- ar2];exact k
def tb (kd:Int):Nat:=if kd=0 then 11 else 4
def aL0:Sp:=λvs H Q _ => ∃ (u:Addr) (kd:Int) (n most:Nat),vs=[.ref u,.int kd,.int n,.int most]/\p8 H u/\(kd=0 \/ kd=1)/\1<=n/\n<=7/\most<=14/\∀ l us N B H',M9 u H l us N H'->N.length=n->F4 B (1+tb kd*most) N->Inv n (qq N)->(kd=1->B=1)->Q (.ref l) H'
theorem aV0 {kd:Int} (h:kd=0 \/ kd=1):∃ C s:Nat,0<C/\C<2 ^ tb kd/\C<2 ^ 10/\C+2 ^ s<=2 ^ tb kd+1/\s<=10/\tb kd<=11/\(∀ q,NK kd q->OvB C s q/\BdN 10 q)/\(kd=1->C=1/\s=4):=by
 rcases h with rfl | rfl
 ·exact ⟨60,10,by decide,by decide,by decide,by decide,by decide,by decide,λq h=>⟨h.ovb0,h.ovb0.bdN (by decide) (by decide)⟩,λh=>absurd h (by decide)⟩
 ·exact ⟨1,4,by decide,by decide,by decide,by decide,by decide,by decide,λq h=>⟨h.ovb1,(h.ovb1.mono (by decide)).bdN (by decide) (by decide)⟩,λ_=>⟨rfl,rfl⟩⟩
abbrev L5:Stmt:=top 58
theorem C5:j1 ["_law_urn_here","_law_kind","_law_n","_law_most","_law_rows","_law_step","_law_i","_law_j","_law_way","_law_often"] ["_law_urn_here","_law_kind","_law_n","_law_most"] (b9 L5):=by and_intros
theorem aA3 {f f1 f2 f3 f4 f5:Addr} (d:Df K mg "_law_turn" L5 ["_law_urn_here","_law_kind","_law_n","_law_most"] f) (G__law_draw:Def P w K mg base CX0 1 "_law_draw" f1 ["_law_urn_here","_law_many"] y9) (GD__law_other:Def P w K mg base CX0 3 "_law_other" f2 ["_law_urn_here","_law_kind"] ab3) (G__law_plus:Def P w K mg base CX0 2 "_law_plus" f3 ["_law_one","_law_other_here"] (K5 K (· + ·))) (G__law_times:Def P w K mg base CX0 2 "_law_times" f4 ["_law_one","_law_other_here"] (K5 K (· * ·))) (G__law_unit:Def P w K mg base CX0 1 "_law_unit" f5 ["_law_n"] aK4) (n_range:mg "range" = none) (n_max:mg "max" = none) (n_zip:mg "zip" = none):Def P w K mg base CX0 4 "_law_turn" f ["_law_urn_here","_law_kind","_law_n","_law_most"] aL0:=by
 refine d.ok (N:=["_law_urn_here","_law_kind","_law_n","_law_most","_law_rows","_law_step","_law_i","_law_j","_law_way","_law_often"]) C5 (by rintro vs H Q E ⟨_,_,_,_,h,_⟩;rw [h];rfl) (λcdv A outer s H vs Q E hr h=>?_)
 obtain ⟨u,kd,n,most,rfl,hU,hkd,n1,n7,m14,k⟩:=h;have G__law_other:=GD__law_other;obtain ⟨C,sb,C0,Ct,C10,Cs,s10,t11,up,kc⟩:=aV0 hkd;obtain ⟨t,ht⟩:∃ t,t=tb kd:=⟨_,rfl⟩;rw [<- ht] at Ct Cs t11
 refine ⟨_,(b8 (i8 (i:=4) C5.nd rfl (q0y rfl) (d6 G__law_unit hr (a7 (pv 2) a8) j0))
   (b8 (C6 PassesOwn.never rfl (o0 rfl n_range (a7 (d6 G__law_draw hr (a7 (pv 0) (a7 (i7 B4 (pv 3) b7) a8)) j0) a8)) (c6 (i:=5) C5.nd rfl (q0y rfl)) (b8 (i8 (i:=6) C5.nd rfl (q0y rfl) (d6 G__law_draw hr (a7 (pv 0) (a7 (pv 2) a8)) j0))
   (b8 (i8 (i:=7) C5.nd rfl (q0y rfl) (i7 M1 (i7 B4 (i7 B4 (pv 6) b7) (d6 G__law_draw hr (a7 (pv 0) (a7 (h8 (ax9 rfl) rfl n_max (by decide +kernel) (a7 b7 (a7 (i7 ac3 (pv 2) b7) a8))) a8)) j0)) (pv 2)))
   (b8 (i8 (i:=8) C5.nd rfl (q0y rfl) (d6 G__law_draw hr (a7 (pv 0) (a7 b7 a8)) j0))
   (b8 (i8 (i:=9) C5.nd rfl (z0z rfl) (d6 G__law_other hr (a7 (pv 0) (a7 (pv 1) a8)) j0))
   (c4 (z9 (PW.pt (aS7 (l5 aq6 (pv 8) b7 (j9 _)) (aL8 (l5 af9 (pv 6) (pv 7) (j9 _))))) (c4 (F7 (w8 (Nc:=["_law_often","_law_a","_law_b"]) (caps:=[some 9,none,none]) rfl (J3.of (osc:=b9 L5) (N:=["_law_urn_here","_law_kind","_law_n","_law_most","_law_rows","_law_step","_law_i","_law_j","_law_way","_law_often"]) (ks:=["_law_often"]) rfl rfl rfl rfl (j5 rfl l9) (by decide +kernel)) (aq5 rfl n_zip (a7 (d8 i6 (pv 4) (pv 6) (λ_ _=>rfl)) (a7 (d8 i6 (pv 4) (pv 7) (λ_ _=>rfl)) a8))) (λC s₂ H₂ fp pins=>(show PG _ _ (E9 K 2 (k6 (k9 1) (k6 (k9 2) F2))) from by (refine w5 (n:=2) ?_ ?_ ?_ ?_;rfl;(refine d7 ?_ ?_ ?_;(exact (c6 (i:=1) (show z0t (["_law_often","_law_a","_law_b"]:List Str) by decide +kernel) rfl (q0y rfl) (z0z rfl)));(refine d7 ?_ ?_ ?_;(exact (c6 (i:=2) (show z0t (["_law_often","_law_a","_law_b"]:List Str) by decide +kernel) rfl (q0y rfl) (z0z rfl)));(exact p4);rfl);rfl);rfl;rfl))) (λC s₂ H₂ fp pins=>(d6 G__law_plus hr (a7 (pv 1) (a7 (d6 G__law_times hr (a7 (pv 0) (a7 (pv 2) a8)) j0) a8)) j0))) (O7 (pv 4) (pv 6) C7))) (c4 (z9 (l5 X4 (pv 8) b7 (j9 _)) (c4 (F7 (m5 (a7 (d8 i6 (pv 4) (pv 7) (λ_ _=>rfl)) (a7 (d8 i6 (pv 4) (pv 6) (λ_ _=>rfl)) a8))) (show PG _ _ (E9 K 2 (k6 (ap3 _ _ aa4) (k6 (ap3 _ _ aa4) F2))) from by (refine w5 (n:=2) ?_ ?_ ?_ ?_;rfl;(refine d7 ?_ ?_ ?_;(exact (O7 (pv 4) (pv 6) C7));(refine d7 ?_ ?_ ?_;(exact (O7 (pv 4) (pv 7) C7));(exact p4);rfl);rfl);rfl;rfl)))) (c4 (F7 (w8 (Nc:=["_law_often","_law_a"]) (caps:=[some 9,none]) rfl (J3.of (osc:=b9 L5) (N:=["_law_urn_here","_law_kind","_law_n","_law_most","_law_rows","_law_step","_law_i","_law_j","_law_way","_law_often"]) (ks:=["_law_often"]) rfl rfl rfl rfl (j5 rfl l9) (by decide +kernel)) (x9 (d8 i6 (pv 4) (pv 6) (λ_ _=>rfl))) (λC s₂ H₂ fp pins=>(c6 (i:=1) (show z0t (["_law_often","_law_a"]:List Str) by decide +kernel) rfl (q0y rfl) (z0z rfl))) (λC s₂ H₂ fp pins=>(d6 G__law_times hr (a7 (pv 0) (a7 (pv 1) a8)) j0))) (O7 (pv 4) (pv 6) C7))))))))))))
   (c4 (i9 (pv 4))))),?_⟩
 rw [show start ["_law_urn_here","_law_kind","_law_n","_law_most","_law_rows","_law_step","_law_i","_law_j","_law_way","_law_often"] [.ref u,.int kd,.int n,.int most]=[some (.ref u),some (.int kd),some (.int n),some (.int most),none,none,none,none,none,none] from rfl]
 refine c9 (λσ H1 => ∃ (l:Addr) (us:List Addr),σ=[some (.ref u),some (.int kd),some (.int (n:Int)),some (.int (most:Int)),some (.ref l),none,none,none,none,none]/\M9 u H l us (aa8 n) H1) (λN hN=>?_) ?_
 ·subst_eqs
  refine ⟨n,rfl,⋯,λr ts H1 s1 fr ft nd e1 R1=>hN _ _ ⟨r,ts,rfl,c5.x s1 u,c5.urn s1 hU,fr,C4 hU fr,e1,λz=>(ft r z).2 rfl,λt ht=>C4 hU (ft t ht).1,λt ht=>(ft t ht).1,R1⟩⟩
 rintro σ H1 ⟨l,us,rfl,D1⟩;obtain ⟨I,hI⟩:∃ I:Nat->L2.St->Hp->Prop,∀ c σ H4,I c σ H4 ↔ ∃ (us:List Addr) (N:List (List Rat)) (B:Nat) (o5 o6 o7 o8 o9:Option V),σ=[some (.ref u),some (.int kd),some (.int (n:Int)),some (.int (most:Int)),some (.ref l),o5,o6,o7,o8,o9]/\M9 u H l us N H4/\N.length=n/\F4 B (1+t*c) N/\Inv n (qq N)/\(kd=1->B=1):=⟨_,λ_ _ _=>Iff.rfl⟩;have tU:=E7.unit n;refine c9 (λσ H4 => ∃ c,c<=most/\I c σ H4) (λN hN=>?_) ?_
 ·refine ⟨_,rfl,_,rfl,_,_,rfl,rfl,u,_,rfl,D1.urn,Int.lt_add_one_iff.mpr (Int.natCast_nonneg _),Int.lt_of_lt_of_le (show (most:Int)+1<16 by omega) (by decide),λr H4 r0 r9 s4 u4=>?_⟩
  replace r9:r<(most:Int)+1:=r9
  refine ⟨_,rfl,⋯,⋯,C1 I ((hI _ _ _).mpr ⟨us,aa8 n,1,_,_,_,_,_,rfl,D1.x s4 u4,tU.len,by rw [Nat.mul_zero];exact F4.unit n7,(Inv.unit n).congr tU.at',λ_=>rfl⟩) ?_ (λσ H5 h=>hN _ _ ⟨r.toNat,⋯,h⟩)⟩
  rintro c σ H5 hc h;obtain ⟨us,N,B,o5,o6,o7,o8,o9,rfl,D5,lN,oN,iN,iB⟩:=(hI _ _ _).mp h;refine c9 (λσ H6 => ∃ (i:Nat),σ=[some (.ref u),some (.int kd),some (.int (n:Int)),some (.int (most:Int)),some (.ref l),some (.int (0+(c:Int))),some (.int (i:Int)),o7,o8,o9]/\p9 u H5 H6/\p8 H6 u/\i<n) (λN hN=>?_) ?_
  ·simp! [y9]
   refine ⟨D5.urn,⋯,⋯,λr H6 r0 r1 s6 u6=>?_⟩;obtain ⟨i,rfl⟩:∃ i:Nat,r=(i:Int):=⟨r.toNat,⋯⟩;exact hN _ _ ⟨i,rfl,s6,u6,⋯⟩
  rintro σ H6 ⟨i,rfl,s6,u6,hi⟩;refine c9 (λσ H7 => ∃ (j:Nat),σ=[some (.ref u),some (.int kd),some (.int (n:Int)),some (.int (most:Int)),some (.ref l),some (.int (0+(c:Int))),some (.int (i:Int)),some (.int (j:Int)),o8,o9]/\p9 u H6 H7/\p8 H7 u/\j<n) (λN hN=>?_) ?_
  ·simp! [y9]
   refine ⟨u6,?_,?_,λr H7 r0 r1 s7 u7=>⟨⋯,?_⟩⟩
   ·split <;> omega
   ·split <;> omega
   ·have h1:=y0d ((i:Int)+1+r) (show (0:Int)<(n:Int) by omega)
    have h2:=y0r ((i:Int)+1+r) (show (0:Int)<(n:Int) by omega)
    generalize ((i:Int)+1+r).fmod (n:Int)=z at h1 h2 ⊢;obtain ⟨j,rfl⟩:∃ j:Nat,z=(j:Int):=⟨z.toNat,⋯⟩;exact hN _ _ ⟨j,rfl,s7,u7,⋯⟩
  rintro σ H7 ⟨j,rfl,s7,u7,hj⟩;refine c9 (λσ H8 => ∃ (wy:Int),σ=[some (.ref u),some (.int kd),some (.int (n:Int)),some (.int (most:Int)),some (.ref l),some (.int (0+(c:Int))),some (.int (i:Int)),some (.int (j:Int)),some (.int wy),o9]/\p9 u H7 H8/\p8 H8 u) (λN hN=>?_) ?_
  ·simp! [y9]
   exact ⟨u7,by decide,by decide,λr H8 r0 r1 s8 u8=>hN _ _ ⟨r,rfl,s8,u8⟩⟩
  rintro σ H8 ⟨wy,rfl,s8,u8⟩;refine c9 (λσ H9 => ∃ (po:Addr) (q:Rat),σ=[some (.ref u),some (.int kd),some (.int (n:Int)),some (.int (most:Int)),some (.ref l),some (.int (0+(c:Int))),some (.int (i:Int)),some (.int (j:Int)),some (.int wy),some (.ref po)]/\p9 u H8 H9/\p8 H9 u/\H9 po=some (.tup (A1 q))/\q ≠ 0/\OvB C sb q/\BdN 10 q) (λN hN=>?_) ?_
  ·simp! [ab3]
   exact ⟨u8,λr q H9 nk q0 s9 u9 e9=>hN _ _ ⟨r,q,rfl,s9,u9,e9,q0,up q nk⟩⟩
  rintro σ H9 ⟨po,q,rfl,s9,u9,epo,q0,oq,bq⟩;have S59:=((s6.trans s7).trans s8).trans s9;have D9:=D5.x S59 u9;have bC:kd=1->B*C=1:=λh=>by rw [iB h,(kc h).1]
  have tc:t*c<=11*14:=j0u t11 ⋯;have lus:us.length=n:=by rw [D9.rws.length,lN]
  have lmap:(us.map V.ref).length=n:=by rw [q0b,lus]
  have oU:F4 (B*C) (1+t*(c+1)) N:=(oN.up C0 Ct).mono (by rw [u0y];omega)
  have pol:po ≠ l:=λz=>by rw [z,D9.at'] at epo;cases epo
  obtain ⟨pI,xI,LI,uI,gI,mI,eI,nI⟩:=D9.row (i:=i) ⋯;obtain ⟨pJ,xJ,LJ,uJ,gJ,mJ,eJ,nJ⟩:=D9.row (i:=j) ⋯;have bI:=oN.bd _ (q0j mI);have bJ:=oN.bd _ (q0j mJ);have rowI:=oN.row _ (q0j mI);have rowJ:=oN.row _ (q0j mJ);have lI:LI.length=n:=by rw [rowI.1,lN]
  have lJ:LJ.length=n:=by rw [rowJ.1,lN]
  have lxI:xI.length=n:=by rw [nI.length,lI]
  have lxJ:xJ.length=n:=by rw [nJ.length,lJ]
  have qI:∀ y,qq N i y=aQ LI y:=λy=>by unfold qq;rw [mI];rfl
  have qJ:∀ y,qq N j y=aQ LJ y:=λy=>by unfold qq;rw [mJ];rfl
  have scale:∃ x,SqL K H9 l x/\∃ x_1,atI x (i:Int)=some x_1/\∃ a_1,x_1=V.ref a_1/\(∃ xs,SqL K H9 a_1 xs)/\∀ D,H9 D=none->ao3 (Itl K a_1) D [some (.ref po),none] (upd H9 D (.lst [])) (k9 1) (at5 (K5 K λx1 x2=>x1*x2) E0 (T9 (Y5 0) (T9 (Y5 1) ao5))) λx H1 => ∃ x_2,H1 l=some (.lst x_2)/\∃ x_3,ixN x_2.length (i:Int)=some x_3/\I (c+1) [some (.ref u),some (.int kd),some (.int (n:Int)),some (.int (most:Int)),some (.ref l),some (.int (0+(c:Int))),some (.int (i:Int)),some (.int (j:Int)),some (.int wy),some (.ref po)] (upd H1 l (.lst (x_2.set x_3 x))):=by
   obtain ⟨NR,hNR⟩:∃ NR,NR=(z0e n).map λy=>q*aQ LI y:=⟨_,rfl⟩;have nl:NR.length=n:=by rw [hNR,q0b,z0j]
   have nv:∀ y,y<n->NR[y]? = some (q*aQ LI y):=λy hy=>by rw [hNR,q0f,z0m hy];rfl
   refine ⟨_,SqL.of D9.at',_,j3 gI,pI,rfl,⟨_,SqL.of eI⟩,λD hD=>?_⟩;obtain ⟨Pv,hPv⟩:∃ Pv:Nat->L2.St->Hp->Prop,∀ y σ H10,Pv y σ H10 ↔ ∃ (o1:Option V),σ=[some (.ref po),o1]/\G2 H9 D (NR.take y) H10:=⟨_,λ_ _ _=>Iff.rfl⟩;refine B7 xI Pv ((hPv _ _ _).mpr ⟨_,rfl,G2.start hD⟩) (λy σ H10 _ h=>?_) ?_ ?_
   ·obtain ⟨_,_,R⟩:=(hPv _ _ _).mp h
    exact SqL.of (R.same _ _ eI)
   ·rintro y vx σ H10 hx h
    obtain ⟨o1,rfl,R⟩:=(hPv _ _ _).mp h;have yn:y<n:=by have:=(q0h.mp hx).1;omega
    obtain ⟨pa,ga,ha⟩:=nI.get (ao2 (L:=LI) (k:=y) ⋯);rw [ga] at hx
    cases hx
    have ba:=bI.2 _ (O8 (L:=LI) (k:=y) ⋯)
    subst_eqs
    refine ⟨_,_,q,_,10,_,rfl,⟨_,rfl,SqT.of (R.same _ _ epo)⟩,⟨_,rfl,SqT.of (R.same _ _ ha)⟩,bq.t ⋯,ba.t ⋯,⋯,λr1 H12 s12 e12=>?_⟩;obtain ⟨ys,eD,yl,R'⟩:=R.add hD s12 e12;refine r6.mk ⋯ eD (t5 (by rw [yl,q0x];omega)) ((hPv _ _ _).mpr ⟨_,rfl,?_⟩)
    rw [d9 (nv y yn)];exact R'
   ·intro σ H10 h
    obtain ⟨o1,rfl,R⟩:=(hPv _ _ _).mp h;rw [t9 ⋯] at R;obtain ⟨s10,ys,eD,nD⟩:=R;have D10:=D9.s s10;refine ⟨_,D10.at',i,V9 (by rw [lmap];exact hi),(hI _ _ _).mpr ⟨us.set i D,N.set i NR,B*C,_,_,_,_,_,rfl,D10.put i eD nD (c7 D9.at' hD).symm (C4 D9.urn hD) (D9.same.free D9.urn hD),by rw [z0k,lN],oU.setR (by rw [nl,lN]) (λx hx=>?_),iN.scale q0 hi (λr c _ hc=>?_),bC⟩⟩
    ·rw [hNR] at hx
     obtain ⟨y,hy,rfl⟩:=z0w.mp hx;have:=aM2 oN.B0 C0 (OvB.zero B (1+t*c)) (rowI.2 _ (O8 (L:=LI) (k:=y) (by have:=v0x.mp hy;omega))) oq Cs
     rw [Rat.zero_add] at this;exact this.mono (by rw [u0y];omega)
    ·rw [K7 ⋯]
     by_cases z:r=i
     ·rw [if_pos z,if_pos z,qI]
      unfold aQ;rw [nv c hc];rfl
     ·rw [if_neg z,if_neg z]
  subst_eqs
  have swp:∃ x,SqL K H9 l x/\∃ x_1,atI x (j:Int)=some x_1/\∃ x,SqL K H9 l x/\∃ x_2,atI x (i:Int)=some x_2/\0+1+1<=sizeLine/\∀ (p:Addr),H9 p=none->∃ x,SqT K (upd H9 p (HO.tup [x_1,x_2])) p x/\x.length=2/\∃ v r,x=v :: r/\∃ x,upd H9 p (HO.tup [x_1,x_2]) l=some (HO.lst x)/\∃ x_3,ixN x.length (i:Int)=some x_3/\∃ v_1 r_1,r=v_1 :: r_1/\∃ x_4,upd (upd H9 p (HO.tup [x_1,x_2])) l (HO.lst (x.set x_3 v)) l=some (HO.lst x_4)/\∃ x_5,ixN x_4.length (j:Int)=some x_5/\r_1=[]/\I (c+1) [some (V.ref u),some (V.int kd),some (V.int (n:Int)),some (V.int (most:Int)),some (V.ref l),some (V.int (0+(c:Int))),some (V.int (i:Int)),some (V.int (j:Int)),some (V.int wy),some (V.ref po)] (upd (upd (upd H9 p (HO.tup [x_1,x_2])) l (HO.lst (x.set x_3 v))) l (HO.lst (x_4.set x_5 v_1))):=by
   refine ⟨_,SqL.of D9.at',_,j3 gJ,_,SqL.of D9.at',_,j3 gI,by decide,λp hp=>?_⟩
   obtain ⟨H10,y10,X10,g10⟩:=R5 (.tup [V.ref pJ,V.ref pI]) hp;rw [<- y10];have D10:=D9.s X10;have mI':=q0j uI;have mJ':=q0j uJ;have DP1:=D10.put i (X10 _ _ eJ) (nJ.mono X10.tups) (λz=>D9.nl (z ▸ mJ')) (D9.nu _ mJ') (D9.nf _ mJ');have lI':pI ≠ l:=λz=>D9.nl (z ▸ mI');have S11:W5 H10 (upd H10 l (.lst ((us.map V.ref).set i (V.ref pJ)))):=W5.lst D10.at';have DP:=DP1.put j (D:=pI) (zs:=xI) (L':=LI) (by rw [c8 lI'];exact X10 _ _ eI) ((nI.mono X10.tups).mono S11) lI' (D9.nu _ mI') (D9.nf _ mI')
   have oP:=(oU.setR (i:=i) (L':=LJ) rowJ.1 (oU.row _ (q0j mJ)).2).setR (i:=j) (L':=LI) (by rw [z0k];exact rowI.1) (oU.row _ (q0j mI)).2
   rw [List.map_set] at DP;refine ⟨_,SqT.of g10,rfl,_,_,rfl,_,D10.at',i,V9 (by rw [lmap];exact hi),_,_,rfl,_,a9,j,V9 (by rw [z0k,lmap];exact hj),rfl,(hI _ _ _).mpr ⟨_,_,B*C,_,_,_,_,_,rfl,DP,by rw [z0k,z0k,lN],oP,iN.swap hi hj (λr c _ _=>?_),bC⟩⟩
   rw [K7 (by rw [z0k];omega),K7 ⋯,qI,qJ]
  refine A9 (λh1=>⟨rfl,A9 (λh2=>?_) (λh2=>⟨rfl,A9 (λ_=>swp) (λ_=>scale)⟩)⟩) (λh1=>⟨rfl,A9 (λ_=>swp) (λ_=>scale)⟩);have ij:i ≠ j:=λz=>h2 (by rw [z])
  obtain ⟨NR,hNR⟩:∃ NR,NR=(z0e n).map λy=>aQ LI y+q*aQ LJ y:=⟨_,rfl⟩;have nl:NR.length=n:=by rw [hNR,q0b,z0j]
  have nv:∀ y,y<n->NR[y]? = some (aQ LI y+q*aQ LJ y):=λy hy=>by rw [hNR,q0f,z0m hy];rfl
  refine ⟨_,SqL.of D9.at',_,j3 gI,_,SqL.of D9.at',_,j3 gJ,_,rfl,_,rfl,⟨_,SqL.of eI⟩,⟨_,SqL.of eJ⟩,λD hD=>?_⟩;have mn:min xI.length xJ.length=n:=⋯;obtain ⟨Pv,hPv⟩:∃ Pv:Nat->L2.St->Hp->Prop,∀ y σ H10,Pv y σ H10 ↔ ∃ (o1 o2:Option V),σ=[some (.ref po),o1,o2]/\G2 H9 D (NR.take y) H10:=⟨_,λ_ _ _=>Iff.rfl⟩;refine aC0 xI xJ Pv ((hPv _ _ _).mpr ⟨_,_,rfl,G2.start hD⟩) (λy σ H10 h=>?_) ?_ ?_
  ·obtain ⟨_,_,_,R⟩:=(hPv _ _ _).mp h
   exact ⟨SqL.of (R.same _ _ eI),SqL.of (R.same _ _ eJ)⟩
  ·rintro y vx vy σ H10 pp hx hy h hpp
   obtain ⟨o1,o2,rfl,R⟩:=(hPv _ _ _).mp h;have yn:y<n:=by have:=(q0h.mp hx).1;omega
   obtain ⟨pa,ga,ha⟩:=nI.get (ao2 (L:=LI) (k:=y) ⋯);obtain ⟨pb,gb,hb⟩:=nJ.get (ao2 (L:=LJ) (k:=y) ⋯);rw [ga] at hx;rw [gb] at hy
   cases hx
   cases hy
   obtain ⟨H11,y11,X11,g11⟩:=R5 (.tup [V.ref pa,V.ref pb]) hpp;rw [<- y11];have S:=R.same.trans X11;have ba:=bI.2 _ (O8 (L:=LI) (k:=y) ⋯);have bj:=bJ.2 _ (O8 (L:=LJ) (k:=y) ⋯)
   subst_eqs
   refine ⟨_,SqT.of g11,rfl,_,_,rfl,_,_,rfl,rfl,?_⟩;refine ⟨_,_,q,_,10,_,rfl,⟨_,rfl,SqT.of (S _ _ epo)⟩,⟨_,rfl,SqT.of (S _ _ hb)⟩,bq.t ⋯,bj.t ⋯,⋯,λr1 H12 s12 e12=>?_⟩;refine ⟨_,_,_,_,_,_,rfl,⟨_,rfl,SqT.of (s12 _ _ (S _ _ ha))⟩,⟨_,rfl,SqT.of e12⟩,ba.t ⋯,(bq.mul bj).t ⋯,⋯,λr2 H13 s13 e13=>?_⟩;obtain ⟨ys,eD,yl,R'⟩:=R.add hD ((X11.trans s12).trans s13) e13;refine r6.mk (by rw [mn];exact yn) eD (t5 (by rw [yl,q0x];omega)) ((hPv _ _ _).mpr ⟨_,_,rfl,?_⟩)
   rw [d9 (nv y yn)];exact R'
  ·intro σ H10 h
   obtain ⟨o1,o2,rfl,R⟩:=(hPv _ _ _).mp h;rw [t9 (by rw [mn,nl];exact q0k _)] at R
   obtain ⟨s10,ys,eD,nD⟩:=R;have D10:=D9.s s10;refine ⟨_,D10.at',i,V9 (by rw [lmap];exact hi),(hI _ _ _).mpr ⟨us.set i D,N.set i NR,B*C,_,_,_,_,_,rfl,D10.put i eD nD (c7 D9.at' hD).symm (C4 D9.urn hD) (D9.same.free D9.urn hD),by rw [z0k,lN],oU.setR (by rw [nl,lN]) (λx hx=>?_),iN.add q hi hj ij (λr c _ hc=>?_),bC⟩⟩
   ·rw [hNR] at hx
    obtain ⟨y,hy,rfl⟩:=z0w.mp hx;have hy:=v0x.mp hy;exact (aM2 oN.B0 C0 (rowI.2 _ (O8 (L:=LI) (k:=y) ⋯)) (rowJ.2 _ (O8 (L:=LJ) (k:=y) ⋯)) oq Cs).mono (by rw [u0y];omega)
   ·rw [K7 ⋯]
    by_cases z:r=i
    ·rw [if_pos z,if_pos z,qI,qJ]
     unfold aQ;rw [nv c hc];rfl
    ·rw [if_neg z,if_neg z]
 rintro σ H4 ⟨c,hc,h⟩;obtain ⟨us,N,B,o5,o6,o7,o8,o9,rfl,D4,lN,oN,iN,iB⟩:=(hI _ _ _).mp h
 subst_eqs
 exact k l us N B H4 D4 lN (oN.mono (by rw [<- ht];have:=y0y t hc;omega)) iN iB
theorem aM5 {kd:Int}:NK kd 0:=by
 unfold NK
 split
 ·exact BdN.zero (by decide)
 ·split <;> exact OvB.zero _ _
def aL3:Sp:=λvs H Q _ => ∃ (u:Addr) (kd n:Int),vs=[.ref u,.int kd,.int n]/\p8 H u/\0<=n/\n<=100/\∀ r ts M H',M9 u H r ts M H'->ts.Nodup->(M.length:Int)=n->(∀ L ∈ M,(L.length:Int)=n/\∀ q ∈ L,NK kd q)->Q (.ref r) H'
abbrev A4:Stmt:=top 64
theorem af2:j1 ["_law_urn_here","_law_kind","_law_n"] ["_law_urn_here","_law_kind","_law_n"] (b9 A4):=by and_intros
theorem af4 {f f1 f2:Addr} (d:Df K mg "_law_drawn_table" A4 ["_law_urn_here","_law_kind","_law_n"] f) (G__law_draw:Def P w K mg base CX0 1 "_law_draw" f1 ["_law_urn_here","_law_many"] y9) (GD__law_number:Def P w K mg base CX0 2 "_law_number" f2 ["_law_urn_here","_law_kind"] aj8) (n_range:mg "range" = none) (n_int:mg "int" = none):Def P w K mg base CX0 3 "_law_drawn_table" f ["_law_urn_here","_law_kind","_law_n"] aL3:=by
 refine d.ok (N:=["_law_urn_here","_law_kind","_law_n"]) af2 (by rintro vs H Q E ⟨_,_,_,h,_⟩;rw [h];rfl) (λcdv A outer s H vs Q E hr h=>?_)
 obtain ⟨u,kd,n,rfl,hu,n0,n9,k⟩:=h;have G__law_number:=GD__law_number;refine ⟨_,(c4 (i9 (w8 (Nc:=["_law_urn_here","_law_n","_law_kind","_law_i"]) (caps:=[some 0,some 2,some 1,none]) rfl (J3.of (osc:=b9 A4) (N:=["_law_urn_here","_law_kind","_law_n"]) (ks:=["_law_urn_here","_law_n","_law_kind"]) rfl rfl rfl rfl (j5 rfl (j5 rfl (j5 rfl l9))) (by decide +kernel)) (o0 rfl n_range (a7 (pv 2) a8)) (λC s₂ H₂ fp pins=>(c6 (i:=3) (show z0t (["_law_urn_here","_law_n","_law_kind","_law_i"]:List Str) by decide +kernel) rfl (q0y rfl) (z0z rfl))) (λC s₂ H₂ fp pins=>(w8 (Nc:=["_law_urn_here","_law_kind","_law_j"]) (caps:=[some 0,some 2,none]) rfl (J3.of (osc:=_) (N:=["_law_urn_here","_law_n","_law_kind","_law_i"]) (ks:=["_law_urn_here","_law_kind"]) rfl rfl rfl rfl (j5 rfl (j5 rfl l9)) (by kernel_rfl)) (o0 rfl n_range (a7 (pv 1) a8)) (λC s₂ H₂ fp pins=>(c6 (i:=2) (show z0t (["_law_urn_here","_law_kind","_law_j"]:List Str) by decide +kernel) rfl (q0y rfl) (z0z rfl))) (λC s₂ H₂ fp pins=>(d8 (by exact i6:IxR _ (Z3 K)) (F8 (a7 (m5 (a7 b7 (a7 b7 a8))) (a7 (d6 G__law_number hr (a7 (pv 0) (a7 (pv 1) a8)) j0) a8))) (E5 N5 rfl n_int (by decide +kernel) (a7 (K3 ai5 (d6 G__law_draw hr (a7 (pv 0) (a7 b7 a8)) j0) b7 (j9 _)) a8)) (λ_ _=>rfl)))))))),?_⟩
 rw [show start ["_law_urn_here","_law_kind","_law_n"] [.ref u,.int kd,.int n]=[some (.ref u),some (.int kd),some (.int n)] from rfl]
 simp! [y9]
 refine ⟨⋯,⋯,λD hD=>?_⟩;have hDu:D ≠ u:=C4 hu hD
 refine G0 (λi σ H2 => ∃ o,σ=[some (.ref u),some (.int n),some (.int kd),o]/\p9 u H H2/\p8 H2 u/\∃ ts M,H2 D=some (.lst (ts.map V.ref))/\(∀ t ∈ ts,H t=none/\t ≠ u/\t ≠ D)/\ts.Nodup/\Rws H2 ts M/\M.length=i/\∀ L ∈ M,(L.length:Int)=n/\∀ q ∈ L,NK kd q)
  ⟨_,rfl,c5.x (c5.new hD _) u,T7 hu hD,[],[],a9,by simp,.nil,.nil,rfl,by simp⟩ ?_ ?_
 ·rintro i σ H2 hi ⟨o,rfl,s2,u2,ts,M,eD,hts,nd,hR,hM,hL⟩
  simp! [y9]
  refine ⟨⋯,⋯,λD2 hD2=>?_⟩;have hD2u:D2 ≠ u:=C4 u2 hD2;have hD2D:D2 ≠ D:=(c7 eD hD2).symm;have sN:=c5.new hD2 (.lst [])
  refine G0 (λj σ H3 => ∃ o,σ=[some (.ref u),some (.int kd),o]/\p9 u H2 H3/\p8 H3 u/\∃ xs qs,H3 D2=some (.lst xs)/\C3 H3 xs qs/\qs.length=j/\∀ q ∈ qs,NK kd q)
   ⟨_,rfl,c5.x sN u,T7 u2 hD2,[],[],a9,.nil,rfl,by simp⟩ ?_ ?_
  ·rintro j σ H3 hj ⟨o,rfl,s3,u3,xs,qs,e3,n3,hl,hs⟩
   simp! [y9]
   refine ⟨u0,λp hp=>?_⟩;have S1:=c5.new hp (.tup [.int 0,.int 1]);have pu:p ≠ u:=C4 u3 hp;refine ⟨u,kd,rfl,c5.urn S1 u3,λrn q H4 sq s4 u4 e4=>⟨u0,λp2 hp2=>?_⟩⟩;have ep:H4 p=some (.tup (A1 0)):=s4 p _ a9 pu;have S2:=c5.new hp2 (.lst [.ref p,.ref rn]);have p2u:p2 ≠ u:=C4 u4 hp2;refine ⟨c5.urn S2 u4,by decide,by decide,λr5 H5 a5 b5 s5 u5=>?_⟩
   have e5:=s5 p2 _ a9 p2u;have sx:p9 u H3 H5:=(c5.x S1 u).trans (s4.trans ((c5.x S2 u).trans s5));have eD2:=sx _ _ e3 hD2u;have hz:H5 p=some (.tup (A1 0)):=s5.tups (c5.urn S2 u4) _ _ (S2 _ _ ep);have hq:H5 rn=some (.tup (A1 q)):=s5.tups (c5.urn S2 u4) _ _ (S2 _ _ e4)
   by_cases h5:0<r5
   ·rw [if_pos h5]
    refine ⟨_,SqL.of e5,_,rfl,r6.mk hj eD2 (by rw [n3.length,hl];exact q0d (show j<1000 by omega) (by decide)) ?_⟩
    refine ⟨_,rfl,(s3.trans sx).over hD2 _,u5.other hD2u,_,a9,qs ++ [q],((n3.mono (sx.tups u3)).append (.cons hq .nil)).mono (W5.lst eD2),by simp [hl],λx hx=>?_⟩
    rcases j0p.mp hx with z | z
    ·exact hs x z
    ·rw [z0c.mp z];exact sq
   ·rw [if_neg h5]
    refine ⟨_,SqL.of e5,_,rfl,r6.mk hj eD2 (by rw [n3.length,hl];exact q0d (show j<1000 by omega) (by decide)) ?_⟩
    refine ⟨_,rfl,(s3.trans sx).over hD2 _,u5.other hD2u,_,a9,qs ++ [0],((n3.mono (sx.tups u3)).append (.cons hz .nil)).mono (W5.lst eD2),by simp [hl],λx hx=>?_⟩
    rcases j0p.mp hx with z | z
    ·exact hs x z
    ·rw [z0c.mp z];exact aM5
  ·rintro σ H3 ⟨o,rfl,s3,u3,xs,qs,e3,n3,hl,hs⟩
   have eD3:=s3 _ _ eD hDu;have hts3:Rws H3 ts M:=hR.samex s3 u2 λt ht=>(hts t ht).2.1;refine r6.mk hi eD3 (by rw [q0b,hR.length,hM];exact q0d (show i<1000 by omega) (by decide)) ?_
   refine ⟨_,rfl,(s2.trans s3).over hD _,u3.other hDu,ts ++ [D2],?_,?_,?_,M ++ [qs],?_,by simp [hM],?_⟩
   ·rw [a9,j0v];rfl
   ·intro t ht
    rcases j0p.mp ht with z | z
    ·exact hts t z
    ·rw [z0c.mp z];exact ⟨s2.free u2 hD2,hD2u,hD2D⟩
   ·rw [g0f]
    refine ⟨nd,by simp,λx hx y hy=>?_⟩
    rw [z0c.mp hy];rintro rfl;obtain ⟨i,hi⟩:=y0h.mp hx;obtain ⟨_,_,_,e,_⟩:=hR.get hi;rw [hD2] at e;cases e
   ·have hn:D ∉ ts ++ [D2]:=λz=>by
     rcases j0p.mp z with z | z
     ·exact (hts D z).2.2 rfl
     ·exact hD2D (z0c.mp z).symm
    exact (hts3.append (.cons e3 n3 .nil)).over eD3 hn
   ·intro L hL'
    rcases j0p.mp hL' with z | z
    ·exact hL L z
    ·rw [z0c.mp z];exact ⟨⋯,hs⟩
 ·rintro σ H2 ⟨o,rfl,s2,u2,ts,M,eD,hts,nd,hR,hM,hL⟩
  exact k D ts M H2 ⟨s2,u2,hD,hDu,eD,λz=>(hts D z).2.2 rfl,λt ht=>(hts t ht).2.1,λt ht=>(hts t ht).1,hR⟩ nd ⋯ hL
def anF (b:Bool) (M:Mt):Mt:=λr c=>if c<r then M c r else if c=r/\b=true then 0 else M r c
theorem aW9 (n:Nat) (b:Bool) (M:Mt):Sy n (anF b M):=λi _ j _=>by
 unfold anF;rcases Nat.lt_trichotomy i j with h | h | h
 ·rw [if_neg ⋯,if_neg ⋯,if_pos h]
 ·rw [h]
 ·rw [if_pos h,if_neg ⋯,if_neg ⋯]
def aS1:Sp:=λvs H Q _ => ∃ (u:Addr) (kd:Int) (n:Nat),vs=[.ref u,.int kd,.int n]/\p8 H u/\1<=n/\n<=7/\∀ l us N H',M9 u H l us N H'->us.Nodup->N.length=n->(∀ L ∈ N,L.length=n/\∀ q ∈ L,NK kd q)->Sy n (qq N)->Q (.ref l) H'
abbrev K2:Stmt:=top 68
theorem B8:j1 ["_law_urn_here","_law_kind","_law_n","_law_bare","_law_found","_law_i","_law_j"] ["_law_urn_here","_law_kind","_law_n"] (b9 K2):=by and_intros
theorem ak4 {f f1 f2:Addr} (d:Df K mg "_law_any_form" K2 ["_law_urn_here","_law_kind","_law_n"] f) (G__law_draw:Def P w K mg base CX0 1 "_law_draw" f1 ["_law_urn_here","_law_many"] y9) (G__law_drawn_table:Def P w K mg base CX0 3 "_law_drawn_table" f2 ["_law_urn_here","_law_kind","_law_n"] aL3) (n_range:mg "range" = none):Def P w K mg base CX0 4 "_law_any_form" f ["_law_urn_here","_law_kind","_law_n"] aS1:=by
 refine d.ok (N:=["_law_urn_here","_law_kind","_law_n","_law_bare","_law_found","_law_i","_law_j"]) B8 (by rintro vs H Q E ⟨_,_,_,h,_⟩;rw [h];rfl) (λcdv A outer s H vs Q E hr h=>?_)
 obtain ⟨u,kd,n,rfl,hU,n1,n7,k⟩:=h
 refine ⟨_,(b8 (i8 (i:=3) B8.nd rfl (q0y rfl) (d6 G__law_draw hr (a7 (pv 0) (a7 b7 a8)) j0))
   (b8 (i8 (i:=4) B8.nd rfl (q0y rfl) (d6 G__law_drawn_table hr (a7 (pv 0) (a7 (pv 1) (a7 (pv 2) a8))) j0))
   (b8 (C6 PassesOwn.never rfl (o0 rfl n_range (a7 (pv 2) a8)) (c6 (i:=5) B8.nd rfl (q0y rfl)) (b8 (z9 (l5 X4 (pv 3) b7 (j9 _)) (c4 (F7 (m5 (a7 b7 (a7 b7 a8))) (O7 (d8 i6 (pv 4) (pv 5) (λ_ _=>rfl)) (pv 5) C7))) m8)
   (c4 (C6 PassesOwn.never rfl (o0 rfl n_range (a7 (pv 5) a8)) (c6 (i:=6) B8.nd rfl (q0y rfl)) (c4 (F7 (d8 i6 (d8 i6 (pv 4) (pv 6) (λ_ _=>rfl)) (pv 5) (λ_ _=>rfl)) (O7 (d8 i6 (pv 4) (pv 5) (λ_ _=>rfl)) (pv 6) C7)))))))
   (c4 (i9 (pv 4)))))),?_⟩
 rw [show start ["_law_urn_here","_law_kind","_law_n","_law_bare","_law_found","_law_i","_law_j"] [.ref u,.int kd,.int n]=[some (.ref u),some (.int kd),some (.int n),none,none,none,none] from rfl]
 refine c9 (λσ H1 => ∃ z:Int,σ=[some (.ref u),some (.int kd),some (.int (n:Int)),some (.int z),none,none,none]/\p9 u H H1/\p8 H1 u) (λN hN=>?_) ?_
 ·simp! [y9]
  exact ⟨hU,by decide,by decide,λr H1 r0 r1 s1 u1=>hN _ _ ⟨r,rfl,s1,u1⟩⟩
 rintro σ H1 ⟨z,rfl,s1,u1⟩
 have fH:∀ p,H1 p=none->H p=none:=λp hp=>by
  cases e:H p with
  | none=>rfl
  | some o =>
   have:=s1 p o e (C4 u1 hp);rw [hp] at this;cases this
 obtain ⟨b,hb⟩:∃ b:Bool,b=decide (z=1):=⟨_,rfl⟩;refine c9 (λσ H2 => ∃ l us M,σ=[some (.ref u),some (.int kd),some (.int (n:Int)),some (.int z),some (.ref l),none,none]/\M9 u H1 l us M H2/\us.Nodup/\M.length=n/\∀ L ∈ M,L.length=n/\∀ q ∈ L,NK kd q) (λN hN=>?_) ?_
 ·subst_eqs
  exact ⟨u,kd,n,rfl,u1,⋯,⋯,λr ts M H2 d2 nd lM hM=>hN _ _ ⟨r,ts,M,rfl,d2,nd,⋯,λL hL=>⟨by have:=(hM L hL).1;omega,(hM L hL).2⟩⟩⟩
 rintro σ H2 ⟨l,us,M,rfl,d2,nd,lM,hM⟩;obtain ⟨I,hI⟩:∃ I:Nat->L2.St->Hp->Prop,∀ i σ H4,I i σ H4 ↔ ∃ (N:List (List Rat)) (o5 o6:Option V),σ=[some (.ref u),some (.int kd),some (.int (n:Int)),some (.int z),some (.ref l),o5,o6]/\M9 u H1 l us N H4/\N.length=n/\(∀ L ∈ N,L.length=n/\∀ q ∈ L,NK kd q)/\∀ r c,r<n->c<n->(r<i->qq N r c=anF b (qq M) r c)/\(i<=r->qq N r c=qq M r c):=⟨_,λ_ _ _=>Iff.rfl⟩;refine c9 (λσ H4=>I n σ H4) (λN hN=>?_) ?_
 ·refine ⟨_,rfl,_,rfl,⋯,⋯,C1 I ((hI _ _ _).mpr ⟨M,_,_,rfl,d2,lM,hM,λr c _ _=>⟨λh=>⋯,λ_=>rfl⟩⟩) ?_ (λσ H5 h=>hN _ _ (by simpa using h))⟩
  rintro i σ H5 hi h;obtain ⟨N,o5,o6,rfl,D5,lN,hNN,fN⟩:=(hI _ _ _).mp h;have hi:i<n:=⋯;have lus:=D5.rws.length;refine c9 (λσ H6 => ∃ N',σ=[some (.ref u),some (.int kd),some (.int (n:Int)),some (.int z),some (.ref l),some (.int (0+(i:Int))),o6]/\M9 u H1 l us N' H6/\N'.length=n/\(∀ L ∈ N',L.length=n/\∀ q ∈ L,NK kd q)/\∀ r c,r<n->c<n->(r<i->qq N' r c=anF b (qq M) r c)/\(i<r->qq N' r c=qq M r c)/\(r=i->i<=c->qq N' i c=anF b (qq M) i c)) (λNn hN'=>?_) ?_
  ·subst_eqs
   refine ⟨rfl,A9 (λz1=>⟨by decide,λp fp=>?_⟩) (λz1=>hN' _ _ ⟨N,rfl,D5,lN,hNN,λr c hr hc=>⟨(fN r c hr hc).1,λh=>(fN r c hr hc).2 ⋯,λh h2=>?_⟩⟩)⟩
   ·have bt:b=true:=by rw [hb,decide_eq_true z1]
    have sp:=c5.new fp (.tup [V.int 0,V.int 1]);have D6:=D5.s sp;have ep:(upd H5 p (.tup [V.int 0,V.int 1])) p=some (.tup (A1 0)):=a9;obtain ⟨pI,xI,LI,uI,gI,mI,eI,nI⟩:=D6.row (i:=i) ⋯;have rI':=hNN _ (q0j mI);have qI:∀ y,qq N i y=aQ LI y:=λy=>by unfold qq;rw [mI];rfl
    have lx:=nI.length;refine ⟨_,SqL.of D6.at',_,by rw [y0w];exact j3 gI,pI,rfl,xI,eI,i,by rw [y0w];exact V9 ⋯,?_⟩
    have D7:=D6.inpl nd uI eI (nI.set i ep);refine hN' _ _ ⟨_,rfl,D7,by rw [z0k,lN],λL hL=>?_,λr c hr hc=>⟨λh=>?_,λh=>?_,λh h2=>?_⟩⟩
    ·rcases z0y hL with y | y
     ·exact hNN L y
     ·rw [y]
      refine ⟨by rw [z0k];exact rI'.1,λq hq=>?_⟩
      rcases z0y hq with x | x
      ·exact rI'.2 q x
      ·rw [x];exact aM5
    ·rw [K7 ⋯,if_neg ⋯];exact (fN r c hr hc).1 h
    ·rw [K7 ⋯,if_neg ⋯];exact (fN r c hr hc).2 ⋯
    ·rw [K7 ⋯,if_pos rfl,aJ7 ⋯]
     unfold anF
     by_cases y:c=i
     ·rw [if_pos y,if_neg ⋯,if_pos ⟨y,bt⟩]
     ·rw [if_neg y,if_neg ⋯,if_neg (λw=>y w.1),<- qI];exact (fN i c hi hc).2 ⋯
   ·have bf:b=false:=by rw [hb,decide_eq_false z1]
    unfold anF;rw [if_neg ⋯,if_neg (λw=>by rw [bf] at w;cases w.2)]
    exact (fN i c hi hc).2 ⋯
  rintro σ H6 ⟨N',rfl,D6,lN',hN',fN'⟩;obtain ⟨J,hJ⟩:∃ J:Nat->L2.St->Hp->Prop,∀ j σ H4,J j σ H4 ↔ ∃ (N:List (List Rat)) (o6:Option V),σ=[some (.ref u),some (.int kd),some (.int (n:Int)),some (.int z),some (.ref l),some (.int (0+(i:Int))),o6]/\M9 u H1 l us N H4/\N.length=n/\(∀ L ∈ N,L.length=n/\∀ q ∈ L,NK kd q)/\∀ r c,r<n->c<n->(r<i->qq N r c=anF b (qq M) r c)/\(i<r->qq N r c=qq M r c)/\(r=i->c<j \/ i<=c->qq N i c=anF b (qq M) i c):=⟨_,λ_ _ _=>Iff.rfl⟩;refine ⟨_,rfl,_,rfl,⋯,⋯,C1 J ((hJ _ _ _).mpr ⟨N',_,rfl,D6,lN',hN',λr c hr hc=>⟨(fN' r c hr hc).1,(fN' r c hr hc).2.1,λh h2=>(fN' r c hr hc).2.2 h ⋯⟩⟩) ?_ ?_⟩
  ·rintro j σ H7 hj h
   obtain ⟨N,o6,rfl,D7,lN,hNN,fN⟩:=(hJ _ _ _).mp h;have hj:j<i:=⋯;obtain ⟨pI,xI,LI,uI,gI,mI,eI,nI⟩:=D7.row (i:=i) ⋯;obtain ⟨pJ,xJ,LJ,uJ,gJ,mJ,eJ,nJ⟩:=D7.row (i:=j) ⋯;have rI':=hNN _ (q0j mI);have rJ':=hNN _ (q0j mJ);have qI:∀ y,qq N i y=aQ LI y:=λy=>by unfold qq;rw [mI];rfl
   have qJ:∀ y,qq N j y=aQ LJ y:=λy=>by unfold qq;rw [mJ];rfl
   have lx:=nI.length;obtain ⟨py,gy,hy⟩:=nJ.get (ao2 (L:=LJ) (k:=i) ⋯)
   subst_eqs
   refine ⟨_,SqL.of D7.at',_,by rw [y0w];exact j3 gJ,pJ,rfl,xJ,SqL.of eJ,_,by rw [y0w];exact j3 gy,_,SqL.of D7.at',_,by rw [y0w];exact j3 gI,pI,rfl,xI,eI,j,by rw [y0w];exact V9 ⋯,?_⟩
   have D8:=D7.inpl nd uI eI (nI.set j hy);refine (hJ _ _ _).mpr ⟨_,_,rfl,D8,by rw [z0k,lN],λL hL=>?_,λr c hr hc=>⟨λh=>?_,λh=>?_,λh h2=>?_⟩⟩
   ·rcases z0y hL with y | y
    ·exact hNN L y
    ·rw [y]
     refine ⟨by rw [z0k];exact rI'.1,λq hq=>?_⟩
     rcases z0y hq with x | x
     ·exact rI'.2 q x
     ·rw [x];exact rJ'.2 _ (O8 ⋯)
   ·rw [K7 ⋯,if_neg ⋯];exact (fN r c hr hc).1 h
   ·rw [K7 ⋯,if_neg ⋯];exact (fN r c hr hc).2.1 h
   ·rw [K7 ⋯,if_pos rfl,aJ7 ⋯]
    by_cases y:c=j
    ·rw [if_pos y,<- qJ,(fN j i ⋯ hi).1 hj,y]
     exact aW9 n b _ j ⋯ i hi
    ·rw [if_neg y,<- qI];exact (fN i c hi hc).2.2 rfl ⋯
  ·intro σ H7 h
   obtain ⟨N,o6,rfl,D7,lN,hNN,fN⟩:=(hJ _ _ _).mp h;refine (hI _ _ _).mpr ⟨N,_,_,rfl,D7,lN,hNN,λr c hr hc=>⟨λh=>?_,λh=>(fN r c hr hc).2.1 ⋯⟩⟩;rcases z0q r i with y | y
   ·exact (fN r c hr hc).1 y
   ·rw [show r=i by omega];exact (fN i c hi hc).2.2 rfl ⋯
 rintro σ H4 h;obtain ⟨N,o5,o6,rfl,D4,lN,hN,fN⟩:=(hI _ _ _).mp h
 subst_eqs
 refine k l us N H4 ⟨s1.trans D4.same,D4.urn,?_,D4.lu,D4.at',D4.nl,D4.nu,λt ht=>?_,D4.rws⟩ nd lN hN λi hi j hj=>?_
 ·exact fH l D4.fr
 ·exact fH t (D4.nf t ht)
 ·rw [(fN i j hi hj).1 hi,(fN j i hj hi).1 hj];exact aW9 n b _ i hi j hj
abbrev U6:Stmt:=top 48
theorem az7:j1 ["_law_one","_law_other_here"] ["_law_one","_law_other_here"] (b9 U6):=by and_intros
theorem aA7 {f fl:Addr} (d:Df K mg "_law_less" U6 ["_law_one","_law_other_here"] f) (G__law_low:Def P w K mg base CX0 1 "_law_low" fl ["_law_top","_law_bottom"] am5):Def P w K mg base CX0 2 "_law_less" f ["_law_one","_law_other_here"] (K5 K (· - ·)):=by
 refine d.ok (N:=["_law_one","_law_other_here"]) az7 (by rintro vs H Q E ⟨x,y,p,q,m,n,h,_⟩;rw [h];rfl) (λcdv A outer s H vs Q E hr h=>?_)
 obtain ⟨x,y,p,q,m,n,rfl,⟨ap,rfl,hp⟩,⟨aq,rfl,hq⟩,bp,bq,hmn,k⟩:=h;refine ⟨_,(c4 (i9 (d6 G__law_low hr (a7 (i7 ac3 (i7 q8 (d8 j8 (pv 0) b7 (λ_ _=>rfl)) (d8 j8 (pv 1) b7 (λ_ _=>rfl))) (i7 q8 (d8 j8 (pv 1) b7 (λ_ _=>rfl)) (d8 j8 (pv 0) b7 (λ_ _=>rfl)))) (a7 (i7 q8 (d8 j8 (pv 0) b7 (λ_ _=>rfl)) (d8 j8 (pv 1) b7 (λ_ _=>rfl))) a8)) j0))),?_⟩;rw [show start ["_law_one","_law_other_here"] [.ref ap,.ref aq]=[some (.ref ap),some (.ref aq)] from rfl]
 subst_eqs
 refine ⟨_,hp,_,at0 p,_,hq,_,at1 q,_,rfl,_,rfl,L6 bp.n bq.d' ⋯,_,hq,_,at0 q,_,hp,_,at1 p,_,rfl,_,rfl,L6 bq.n bp.d' ⋯,_,hp,_,at1 p,_,hq,_,at1 q,_,rfl,_,rfl,L6 bp.d' bq.d' ⋯,?_⟩;refine ⟨_,_,rfl,ap9 p q,be6 bp bq hmn,?_⟩;rw [<- aG9];exact k
def az0 (K:q0a):Sp:=λvs H Q _ => ∃ (x y:V) (p q:Rat) (m n:Nat),vs=[x,y]/\Num K H x p/\Num K H y q/\BtN m p/\q ≠ 0/\q.num.natAbs<2 ^ n/\q.den<2 ^ 20000/\m+n<=6000/\at3 H Q (p / q)
abbrev U5:Stmt:=top 50
theorem az6:j1 ["_law_one","_law_other_here"] ["_law_one","_law_other_here"] (b9 U5):=by and_intros
theorem aA6 {f fl:Addr} (d:Df K mg "_law_over" U5 ["_law_one","_law_other_here"] f) (G__law_low:Def P w K mg base CX0 1 "_law_low" fl ["_law_top","_law_bottom"] am5):Def P w K mg base CX0 2 "_law_over" f ["_law_one","_law_other_here"] (az0 K):=by
 refine d.ok (N:=["_law_one","_law_other_here"]) az6 (by rintro vs H Q E ⟨x,y,p,q,m,n,h,_⟩;rw [h];rfl) (λcdv A outer s H vs Q E hr h=>?_)
 obtain ⟨x,y,p,q,m,n,rfl,⟨ap,rfl,hp⟩,⟨aq,rfl,hq⟩,bp,q0,bq,bd,hmn,k⟩:=h;refine ⟨_,(c4 (i9 (d6 G__law_low hr (a7 (i7 q8 (d8 j8 (pv 0) b7 (λ_ _=>rfl)) (d8 j8 (pv 1) b7 (λ_ _=>rfl))) (a7 (i7 q8 (d8 j8 (pv 0) b7 (λ_ _=>rfl)) (d8 j8 (pv 1) b7 (λ_ _=>rfl))) a8)) j0))),?_⟩;rw [show start ["_law_one","_law_other_here"] [.ref ap,.ref aq]=[some (.ref ap),some (.ref aq)] from rfl]
 have bd':(q.den:Int).natAbs<2 ^ 20000:=by rw [q0r];exact bd
 subst_eqs
 refine ⟨_,hp,_,at0 p,_,hq,_,at1 q,_,rfl,_,rfl,L6 bp.n bd' ⋯,_,hp,_,at1 p,_,hq,_,at0 q,_,rfl,_,rfl,L6 bp.d' bq ⋯,?_⟩;refine ⟨_,_,rfl,y0a (m0x (v9 p)) (λz=>q0 (aE8.mp z)),?_,?_⟩
 ·rw [z0a]
  have:=j0e bp.d' bq;rw [<- z0u] at this;exact q0d this (i5 hmn)
 ·rw [<- aJ4]
  exact k
theorem ba2 {m n:Nat} {p q:Rat} (a:BtN m p) (b:BtN n q) (x:p.num.natAbs<2 ^ 9000) (y:q.num.natAbs<2 ^ 9000):BtN (m+n) (p*q):=by
 have e:p*q=q0w (p.num*q.num) (p.den*q.den):=by
  conv=>lhs;rw [<- z0p p,<- z0p q,y0g]
 have h:=Q5 (t:=p.num*q.num) (b:=(p.den:Int)*(q.den:Int)) (ap9 p q);rw [<- e,z0a,z0a,q0r,q0r] at h;refine ⟨q0m h.1 (q0d (j0e x y) ?_),q0m h.2 ?_⟩
 ·rw [<- z0u];exact i5 (by decide)
 ·rw [z0u];exact j0e a.d b.d
theorem Ld.oft {W n:Nat} {A B:Mt} {sg fd:Rat} {k:Nat} {M:List (List Rat)} {w:Nat->Nat} (E:Ld W n A B sg k M fd) (c:Wc w B) (n8:n<=8) (hk:k<n) {i:Nat} (h1:k<=i) (h2:i<n) (q0:qq M k k ≠ 0) (h:dS w (k+1)<=5900):(qq M k k).num.natAbs<2 ^ (dS w (k+1)+1)/\BtN (dS w (k+1)+1) (qq M i k / qq M k k)/\(qq M i k / qq M k k).num.natAbs<2 ^ 9000:=by
 obtain ⟨a,b,d⟩:=E.often c n8 hk h1 h2;have n9:=q0m b (z0h (show 1<2 by decide) (show dS w (k+1)<9000 by omega))
 exact ⟨q0m a (z0h (by decide) (j0j _)),⟨Nat.lt_trans n9 (z0h (by decide) (by decide)),q0m (d q0) (z0h (by decide) (j0j _))⟩,n9⟩
def aL1 (K:q0a):Sp:=λvs H Q _ => ∃ (a:Addr) (ts:List Addr) (M:List (List Rat)) (n:Nat) (w:Nat->Nat),vs=[.ref a]/\SqL K H a (ts.map V.ref)/\L7 K H ts M/\M.length=n/\(∀ L ∈ M,L.length=n)/\Wc w (qq M)/\n<=7/\(∀ c,w c<3000)/\(∀ k,k<n->dS w k<=5900)/\(∀ k,k+1<n->dS w k+dS w (k+1)+dS w k<=5900) /\
 ∀ r H',c5 H H'->H' r=some (.tup (A1 (dt n (qq M))))->Q (.ref r) H'
theorem ax0 {H:Hp}:∀ ks:List Nat,Y3 K H (ks.map λ(k:Nat)=>V.int (k:Int)) (ks.map λ(k:Nat)=>D.v (.int (k:Int)))
 | []=>.nil
 | _ :: ks=>.cons (.v rfl) (ax0 ks)
theorem aT9 (ks:List Nat):okD (.lst (ks.map λ(k:Nat)=>D.v (.int (k:Int)))) (.lst [])=true:=by
 cases ks <;> simp [okD,X8]
theorem aV9 (ks:List Nat):eqD (.lst (ks.map λ(k:Nat)=>D.v (.int (k:Int)))) (.lst [])=ks.isEmpty:=by
 cases ks <;> simp [eqD,F9]
theorem ax6:∀ ks:List Nat,ad3 (ks.map λ(k:Nat)=>D.v (.int (k:Int)))<=1
 | []=>by simp [ad3]
 | k :: ks=>by
  have:=ax6 ks;rw [j0a,ad3,dpD];omega
theorem ba0 (ks:List Nat):dpD (.lst (ks.map λ(k:Nat)=>D.v (.int (k:Int))))<=60:=by
 rw [dpD];have:=ax6 ks;omega
structure ay4 (K:q0a) (H:Hp) (l:Addr) (ts:List Addr) (M:List (List Rat)) (H3:Hp):Prop where
 same:c5 H H3
 fr:H l=none
 at':H3 l=some (.lst (ts.map V.ref))
 nl:l ∉ ts
 rws:L7 K H3 ts M
theorem ay4.next {H H3 H4:Hp} {l:Addr} {ts:List Addr} {M:List (List Rat)} (d:ay4 K H l ts M H3) (s:c5 H3 H4):ay4 K H l ts M H4:=⟨d.same.trans s,d.fr,s _ _ d.at',d.nl,d.rws.same s⟩
theorem bg7 {qa D:Addr} {ts:List Addr} {M:List (List Rat)} {H1:Hp} {Q:VK} (hA:SqL K H1 qa (ts.map V.ref)) (R:L7 K H1 ts M) (hD:H1 D=none) (hl:M.length<=50) (k:∀ H2,av3 K H1 D M H2->Q (.ref D) H2):ao3 (Itl K qa) D [none] (upd H1 D (.lst [])) (k9 0) (tCB (au0 K) (T9 (Y5 0) ao5)) Q:=by
 refine B7 (ts.map V.ref) (λj σ H3 => ∃ o,σ=[o]/\av3 K H1 D (M.take j) H3) ⟨_,rfl,av3.start hD⟩ (λj σ H3 _ ⟨o,_,T⟩=>T.same.seq hA) ?_ ?_
 ·rintro j x σ H3 hx ⟨o,rfl,T⟩
  have hj:=(q0h.mp hx).1;obtain ⟨pr,hpr,rfl⟩:=Q8 hx;obtain ⟨ys,Lr,hLr,er,nr⟩:=R.get hpr
  subst_eqs
  refine ⟨ys,.inl (SqL.of (T.same _ _ er)),λl hl'=>?_⟩;obtain ⟨ys',eD,yl,T'⟩:=T.add hD hl' ⟨c5.new hl' (.lst ys),ys,a9,(nr.mono T.same.tups).mono (c5.new hl' _).tups⟩;refine r6.mk hj eD (t5 (by rw [yl,q0x];omega)) ⟨_,rfl,?_⟩
  rw [d9 hLr];exact T'
 ·rintro σ H3 ⟨o,rfl,T⟩
  rw [t9 (by rw [q0b,R.length];exact q0k _)] at T
  exact k H3 T
abbrev K6:Stmt:=top 59
theorem A6:j1 ["_law_table","_law_rows","_law_found","_law_i","_law_some","_law_k","_law_often"] ["_law_table"] (b9 K6):=by and_intros
theorem aE7 {f f1 f2 f3:Addr} (d:Df K mg "_law_det" K6 ["_law_table"] f) (G__law_times:Def P w K mg base CX0 2 "_law_times" f1 ["_law_one","_law_other_here"] (K5 K (· * ·))) (G__law_less:Def P w K mg base CX0 2 "_law_less" f2 ["_law_one","_law_other_here"] (K5 K (· - ·))) (G__law_over:Def P w K mg base CX0 2 "_law_over" f3 ["_law_one","_law_other_here"] (az0 K)) (n_len:mg "len" = none) (n_range:mg "range" = none) (n_list:mg "list" = none) (n_zip:mg "zip" = none):Def P w K mg base CX0 3 "_law_det" f ["_law_table"] (aL1 K):=by
  refine d.ok (N:=["_law_table","_law_rows","_law_found","_law_i","_law_some","_law_k","_law_often"]) A6 (by rintro vs H Q E ⟨_,_,_,_,_,h,_⟩;rw [h];rfl) (λcdv A outer s H vs Q E hr h=>?_)
  obtain ⟨a,ts,M,n,w,rfl,hA,hR,ln,lm1,hw,n7,hw3,hs1,hs2,kk⟩:=h;have hu:=hr.units
  refine ⟨_, (b8 (i8 (i := 1) A6.nd rfl (Or.inr rfl) (w8 (Nc := ["_law_row"]) (caps := [none]) rfl (J3.of (osc := b9 K6) (N := ["_law_table", "_law_rows", "_law_found", "_law_i", "_law_some", "_law_k", "_law_often"]) (ks := []) rfl rfl rfl rfl l9 (by decide +kernel)) (x9 (pv 0)) (fun C s₂ H₂ fp pins => (c6 (i := 0) (show List.Nodup (["_law_row"] : List Str) by decide +kernel) rfl (Or.inl rfl) (Or.inr rfl))) (fun C s₂ H₂ fp pins => (E5 (by exact aa1 : Y4 _ (.type "list") (au0 K)) rfl n_list (by decide +kernel) (a7 (pv 0) a8)))))
      (b8 (i8 (i:=2) A6.nd rfl (Or.inl rfl) (m5 (a7 b7 (a7 b7 a8))))
      (b8 (C6 PassesOwn.never rfl (o0 rfl n_range (a7 (h8 k8 rfl n_len (by decide +kernel) (a7 (pv 1) a8)) a8)) (c6 (i:=3) A6.nd rfl (Or.inr rfl)) (b8 (az9 (i₀:=4) A6.nd rfl (Or.inl rfl) (Nc:=["_law_rows","_law_i","_law_k"]) (caps:=[some 1,some 3,none]) rfl (J3.of (osc:=b9 K6) (N:=["_law_table","_law_rows","_law_found","_law_i","_law_some","_law_k","_law_often"]) (ks:=["_law_rows","_law_i"]) rfl rfl rfl rfl (j5 rfl (j5 rfl l9)) (by decide +kernel)) (ak1 rfl n_range (a7 (pv 3) (a7 (h8 k8 rfl n_len (by decide +kernel) (a7 (pv 1) a8)) a8))) (λC s₂ H₂ fp pins=>(c6 (i:=2) (show List.Nodup (["_law_rows","_law_i","_law_k"]:List Str) by decide +kernel) rfl (Or.inl rfl) (Or.inr rfl))) (λC s₂ H₂ fp pins=>(l5 af9 (d8 (by exact j8:IxR _ (au1 K)) (d8 (by exact i6:IxR _ (Z3 K)) (d8 (by exact i6:IxR _ (Z3 K)) (pv 0) (pv 2) (λ_ _=>rfl)) (pv 1) (λ_ _=>rfl)) b7 (λ_ _=>rfl)) b7 (j9 _))) (λC s₂ H₂ fp pins=>(pv 2)))
      (b8 (z9 (l5 (aq7 hu) (pv 4) (F8 a8) (j9 _)) (c4 (i9 (m5 (a7 b7 (a7 b7 a8))))) m8)
      (b8 (z9 (l5 af9 (d8 i6 (pv 4) b7 (λ_ _=>rfl)) (pv 3) (j9 _)) (b8 (F7 (m5 (a7 (d8 i6 (pv 1) (d8 i6 (pv 4) b7 (λ_ _=>rfl)) (λ_ _=>rfl)) (a7 (d8 i6 (pv 1) (pv 3) (λ_ _=>rfl)) a8))) (show PG _ _ (E9 K 2 (k6 (ap3 _ _ aa4) (k6 (ap3 _ _ aa4) F2))) from by (refine w5 (n:=2) ?_ ?_ ?_ ?_;rfl;(refine d7 ?_ ?_ ?_;(exact (O7 (pv 1) (pv 3) C7));(refine d7 ?_ ?_ ?_;(exact (O7 (pv 1) (d8 i6 (pv 4) b7 (λ_ _=>rfl)) C7));(exact p4);rfl);rfl);rfl;rfl)))
      (c4 (i8 (i:=2) A6.nd rfl (Or.inl rfl) (m5 (a7 (i7 ac3 b7 (d8 j8 (pv 2) b7 (λ_ _=>rfl))) (a7 (d8 j8 (pv 2) b7 (λ_ _=>rfl)) a8)))))) m8)
      (b8 (i8 (i:=2) A6.nd rfl (Or.inl rfl) (d6 G__law_times hr (a7 (pv 2) (a7 (d8 i6 (d8 i6 (pv 1) (pv 3) (λ_ _=>rfl)) (pv 3) (λ_ _=>rfl)) a8)) j0))
      (c4 (C6 PassesOwn.never rfl (ak1 rfl n_range (a7 (i7 B4 (pv 3) b7) (a7 (h8 k8 rfl n_len (by decide +kernel) (a7 (pv 1) a8)) a8))) (c6 (i:=5) A6.nd rfl (Or.inl rfl)) (b8 (i8 (i:=6) A6.nd rfl (Or.inr rfl) (d6 G__law_over hr (a7 (d8 i6 (d8 i6 (pv 1) (pv 5) (λ_ _=>rfl)) (pv 3) (λ_ _=>rfl)) (a7 (d8 i6 (d8 i6 (pv 1) (pv 3) (λ_ _=>rfl)) (pv 3) (λ_ _=>rfl)) a8)) j0))
      (c4 (F7 (w8 (Nc:=["_law_often","_law_a","_law_b"]) (caps:=[some 6,none,none]) rfl (J3.of (osc:=b9 K6) (N:=["_law_table","_law_rows","_law_found","_law_i","_law_some","_law_k","_law_often"]) (ks:=["_law_often"]) rfl rfl rfl rfl (j5 rfl l9) (by decide +kernel)) (aq5 rfl n_zip (a7 (d8 i6 (pv 1) (pv 5) (λ_ _=>rfl)) (a7 (d8 i6 (pv 1) (pv 3) (λ_ _=>rfl)) a8))) (λC s₂ H₂ fp pins=>(show PG _ _ (E9 K 2 (k6 (k9 1) (k6 (k9 2) F2))) from by (refine w5 (n:=2) ?_ ?_ ?_ ?_;rfl;(refine d7 ?_ ?_ ?_;(exact (c6 (i:=1) (show List.Nodup (["_law_often","_law_a","_law_b"]:List Str) by decide +kernel) rfl (Or.inl rfl) (Or.inr rfl)));(refine d7 ?_ ?_ ?_;(exact (c6 (i:=2) (show List.Nodup (["_law_often","_law_a","_law_b"]:List Str) by decide +kernel) rfl (Or.inl rfl) (Or.inr rfl)));(exact p4);rfl);rfl);rfl;rfl))) (λC s₂ H₂ fp pins=>(d6 G__law_less hr (a7 (pv 1) (a7 (d6 G__law_times hr (a7 (pv 0) (a7 (pv 2) a8)) j0) a8)) j0))) (O7 (pv 1) (pv 5) C7)))))))))))
      (c4 (i9 (pv 2)))))),?_⟩
  rw [show start ["_law_table","_law_rows","_law_found","_law_i","_law_some","_law_k","_law_often"] [.ref a]=[some (.ref a),none,none,none,none,none,none] from rfl]
  subst_eqs
  have sc:Sc 3000 (qq M):=hw.sc hw3;refine ⟨⟨_,hA⟩,λl hl=>bg7 hA hR hl ⋯ λH1 T=>⟨by decide,λp hp=>?_⟩⟩
  obtain ⟨S1,ts1,el1,n1,_,R1⟩:=T;obtain ⟨H2,y2,X2,g2⟩:=R5 (.tup [.int 1,.int 1]) hp;rw [<- y2];obtain ⟨I,hI⟩:∃ I:Nat->L2.St->Hp->Prop,∀ i σ H3,I i σ H3 ↔ ∃ (ts':List Addr) (M':List (List Rat)) (B':Mt) (sg fd:Rat) (pf:Addr) (o3 o4 o5 o6:Option V),σ=[some (.ref a),some (.ref l),some (.ref pf),o3,o4,o5,o6]/\ay4 K H l ts' M' H3/\Ld 3000 n (qq M) B' sg i M' fd/\Wc w B'/\H3 pf=some (.tup (A1 fd)):=⟨_,λ_ _ _=>Iff.rfl⟩;have lt1:ts1.length=n:=by rw [R1.length,ln]
  refine ⟨_,rfl,l,rfl,_,.inl (SqL.of (X2 _ _ el1)),_,rfl,?_,?_,C1 I ((hI _ _ _).mpr ⟨ts1,M,qq M,1,1,p,_,_,_,_,rfl,⟨S1.trans X2,hl,X2 _ _ el1,λz=>(n1 l z).2 rfl,R1.same X2⟩,Ld.start ln lm1 sc,hw,g2⟩) ?_ ?_⟩
  · omega
  · rw [List.length_map,lt1];omega
  · rintro i σ H3 hi h
    obtain ⟨ts',M',B',sg,fd,pf,o3,o4,o5,o6,rfl,D3,E3,w3,ef⟩:=(hI _ _ _).mp h;rw [List.length_map,lt1] at hi;rw [Int.zero_add]
    have bit:∀ {N:List (List Rat)} {B2:Mt} {s2 f2:Rat},Ld 3000 n (qq M) B2 s2 i N f2->Wc w B2->∀ x y,i<=x->x<n->y<n->BtN (dS w i+1) (qq N x y)/\(qq N x y).num.natAbs<2 ^ 9000:=λE cw x y h1 h2 h3=>by
      have b:=E.wbits cw ⋯ h1 h2 h3;have t1:=hs1 i hi;have t2:=hw3 y;have le:2 ^ mW w i y<2 ^ 9000:=Nat.pow_lt_pow_right (by decide) (by unfold mW;unfold dS at t1;omega)
      have n9:=Nat.lt_of_le_of_lt b.1 le;exact ⟨⟨Nat.lt_trans n9 (Nat.pow_lt_pow_right (by decide) (by decide)),Nat.lt_of_le_of_lt b.2 (Nat.pow_lt_pow_right (by decide) (Nat.lt_succ_self _))⟩,n9⟩
    refine c9 (λσ H4=>c5 H3 H4/\∃ (c:Addr) (ks:List Nat),σ=[some (.ref a),some (.ref l),some (.ref pf),some (.int i),some (.ref c),o5,o6]/\H4 c=some (.lst (ks.map λ(k:Nat)=>V.int (k:Int)))/\(∀ k ∈ ks,i<=k/\k<n/\qq M' k i ≠ 0)/\(ks=[]->∀ x,i<=x->x<n->qq M' x i=0)/\l ≠ c) (λN hN=>?_) ?_
    · subst_eqs
      have lts:=D3.rws.length;refine ⟨_,.inl (SqL.of D3.at'),⋯,⋯,⋯,by rw [List.length_map,lts,E3.len];omega,λD hD=>?_⟩
      rw [List.length_map,lts,E3.len,show ((n:Int)-(i:Int)).toNat=n-i by omega]
      obtain ⟨Pv,hPv⟩:∃ Pv:Nat->L2.St->Hp->Prop,∀ j σ H4,Pv j σ H4 ↔ c5 H3 H4/\∃ (o:Option V) (ks:List Nat),σ=[some (.ref l),some (.int i),o]/\H4 D=some (.lst (ks.map λ(k:Nat)=>V.int (k:Int)))/\(∀ k ∈ ks,i<=k/\k<n/\qq M' k i ≠ 0)/\ks.length<=j/\(ks=[]->∀ x,i<=x->x<i+j->qq M' x i=0):=⟨_,λ_ _ _=>Iff.rfl⟩;refine aJ5 Pv ((hPv _ _ _).mpr ⟨c5.new hD _,_,[],rfl,a9,by simp,Nat.le_refl _,λ_ x h1 h2=>⋯⟩) ?_ ?_
      · rintro j σ H4 hj h
        obtain ⟨s4,o,ks,rfl,e4,k4,lk,z4⟩:=(hPv _ _ _).mp h;obtain ⟨q,xs,L,f1,f2,f3,f4,f5,f6,f7⟩:=D3.rws.at E3.len E3.row (i:=i+j) ⋯;have ei:=List.getElem?_eq_getElem (l:=L) (i:=i) ⋯;obtain ⟨pq,g1,g2⟩:=f5.get ei;have vq:qq M' (i+j) i=L[i]'⋯:=by rw [f7];unfold aQ;rw [ei];rfl
        rw [<- vq] at g2;have ij:(i:Int)+(j:Int)=((i+j:Nat):Int):=⋯
        subst_eqs
        refine ⟨_,s4.seq (SqL.of D3.at'),_,by rw [ij];exact j3 f1,q,rfl,xs,SqL.of (s4 _ _ f4),_,j3 g1,pq,rfl,_,(g2.mono s4.tups).sqt,_,at0 _,rfl,?_⟩
        rw [ij];refine A9 (λh1=>?_) (λh1=>?_)
        · have h0:qq M' (i+j) i ≠ 0:=λz=>h1 (by rw [z];rfl)
          refine r6.mk hj e4 (by rw [List.length_map];exact Nat.lt_of_lt_of_le (show _<100 by omega) (by decide)) ((hPv _ _ _).mpr ⟨s4.over hD _,_,ks ++ [i+j],rfl,by rw [a9,List.map_append];rfl,?_,by rw [List.length_append];show _+1<=_;omega,λz=>absurd z (by simp)⟩)
          intro k hk;rcases List.mem_append.mp hk with z | z
          · exact k4 k z
          · rw [List.mem_singleton.mp z];exact ⟨⋯,⋯,h0⟩
        · have h0:qq M' (i+j) i=0:=Classical.byContradiction λz=>h1 λy=>z (Rat.num_eq_zero.mp (V.int.inj y))
          refine aO1.mk hj ((hPv _ _ _).mpr ⟨s4,_,ks,rfl,e4,k4,⋯,λz x h2 h3=>?_⟩)
          by_cases y:x=i+j
          · rw [y];exact h0
          · exact z4 z x h2 ⋯
      · rintro σ H4 h
        obtain ⟨s4,o,ks,rfl,e4,k4,lk,z4⟩:=(hPv _ _ _).mp h;exact hN _ _ ⟨s4,D,ks,rfl,e4,k4,λz x h1 h2=>z4 z x h1 ⋯,c7 D3.at' hD⟩
    rintro σ H4 ⟨s4,c,ks,rfl,ec,k4,z4,lc⟩;have D4:=D3.next s4;have ef4:=s4 _ _ ef;refine c9 (λσ H5=>c5 H4 H5/\σ=[some (.ref a),some (.ref l),some (.ref pf),some (.int i),some (.ref c),o5,o6]/\ks ≠ []) (λN hN=>?_) ?_
    · subst_eqs
      refine ⟨Nat.zero_le _,λq hq=>?_⟩;obtain ⟨H5,y5,X5,g5⟩:=R5 (.lst []) hq;rw [<- y5];refine ⟨.lst (ks.map λ(k:Nat)=>.v (.int (k:Int))),.lst [],rfl,.lst (SqL.of (X5 _ _ ec)) (ax0 ks),.lst (SqL.of g5) .nil,aT9 ks,ba0 ks,_,rfl,?_⟩;rw [aV9];refine A9 (λh1=>⟨by decide,λr hr=>?_⟩) (λh1=>hN _ _ ⟨X5,rfl,λz=>h1 (by rw [z];rfl)⟩)
      have z0:dt n (qq M)=0:=E3.stuck hi (z4 (List.isEmpty_iff.mp h1));refine kk r _ ((D4.same.trans X5).trans (c5.new hr _)) ?_;rw [a9,z0];rfl
    rintro σ H5 ⟨s5,rfl,kn⟩
    obtain ⟨s,ks',rfl⟩:∃ s ks',ks=s :: ks':=by
      cases ks with
      | nil=>exact absurd rfl kn
      | cons s ks'=>exact ⟨s,ks',rfl⟩
    obtain ⟨is,sn,q0⟩:=k4 s List.mem_cons_self;have D5:=D4.next s5;have ec5:=s5 _ _ ec;have ef5:=s5 _ _ ef4;have lts:=D3.rws.length;have a0:atI ((s :: ks').map λ(k:Nat)=>V.int (k:Int)) 0=some (.int (s:Int)):=j3 (j:=0) rfl;refine c9 (λσ H6 => ∃ (ts2:List Addr) (M2:List (List Rat)) (B2:Mt) (sg2 fd2:Rat) (pf2:Addr),σ=[some (.ref a),some (.ref l),some (.ref pf2),some (.int i),some (.ref c),o5,o6]/\ay4 K H l ts2 M2 H6/\Ld 3000 n (qq M) B2 sg2 i M2 fd2/\Wc w B2/\H6 pf2=some (.tup (A1 fd2))/\qq M2 i i ≠ 0) (λN hN=>?_) ?_
    · subst_eqs
      obtain ⟨q,xs,L,f1,f2,f3,f4,f5,f6,f7⟩:=D5.rws.at E3.len E3.row (i:=i) hi;obtain ⟨q',xs',L',f1',f2',f3',f4',f5',f6',f7'⟩:=D5.rws.at E3.len E3.row (i:=s) sn;refine ⟨_,SqL.of ec5,.int (s:Int),a0,rfl,?_⟩;refine A9 (λh1=>?_) (λh1=>?_)
      · have si:i ≠ s:=λz=>h1 (by rw [z])
        refine ⟨_,SqL.of ec5,.int (s:Int),a0,_,_,rfl,SqL.of D5.at',_,j3 f1',_,SqL.of D5.at',_,j3 f1,by decide,λr hr=>?_⟩
        obtain ⟨H6,y6,X6,g6⟩:=R5 (.tup [V.ref q',V.ref q]) hr;rw [<- y6];have e6:=X6 _ _ D5.at';have lt':(ts'.map V.ref).length=n:=by rw [List.length_map,lts,E3.len]
        have fl:pf ≠ l:=λz=>by rw [z,D5.at'] at ef5;cases ef5
        have si':i<s:=⋯
        have nl2:l ∉ (ts'.set i q').set s q:=λz=>by
          rcases List.mem_or_eq_of_mem_set z with z | z
          · rcases List.mem_or_eq_of_mem_set z with z | z
            · exact D5.nl z
            · exact D5.nl (z ▸ List.mem_of_getElem? f2')
          · exact D5.nl (z ▸ List.mem_of_getElem? f2)
        have ml:(M'.set i L').length=n:=by rw [List.length_set,E3.len]
        have qe:∀ x y,qq ((M'.set i L').set s L) x y=if x=i then qq M' s y else if x=s then qq M' i y else qq M' x y:=λx y=>by
          rw [K7 (by rw [ml];exact sn),K7 (by rw [E3.len];exact hi),f7,f7']
          by_cases z:x=s
          · rw [if_pos z,if_neg ⋯,if_pos z]
          · rw [if_neg z,if_neg z]
        have rl:∀ N ∈ (M'.set i L').set s L,N.length=n:=λN hN=>by
          rcases List.mem_or_eq_of_mem_set hN with z | z
          · rcases List.mem_or_eq_of_mem_set z with z | z
            · exact E3.row N z
            · rw [z];exact f6'
          · rw [z];exact f6
        have pf8:∀ o1 o2,upd (upd H6 l o1) l o2 pf=some (.tup (A1 fd)):=λo1 o2=>by rw [c8 fl,c8 fl];exact X6 _ _ ef5
        refine ⟨_,SqT.of g6,rfl,_,_,rfl,_,e6,i,V9 (by rw [lt'];exact hi),_,_,rfl,_,SqL.of (show _=some (HO.lst ((s :: ks').map λ(k:Nat)=>V.int (k:Int))) by rw [c8 (Ne.symm lc)];exact X6 _ _ ec5),_,a0,_,_,rfl,a9,s,V9 (by rw [List.length_set,lt'];exact sn),rfl,_,SqT.of (pf8 _ _),_,at0 _,_,rfl,_,SqT.of (pf8 _ _),_,at1 _,by decide,λr2 hr2=>?_⟩
        have S8:c5 H _:=((D5.same.trans X6).over D5.fr (.lst ((ts'.map V.ref).set i (V.ref q')))).over D5.fr (.lst (((ts'.map V.ref).set i (V.ref q')).set s (V.ref q)));have em:((ts'.map V.ref).set i (V.ref q')).set s (V.ref q)=((ts'.set i q').set s q).map V.ref:=by rw [List.map_set,List.map_set]
        have R8:=((((D5.rws.same X6).set i (X6 _ _ f4') (f5'.mono X6.tups)).set s (X6 _ _ f4) (f5.mono X6.tups)).over (o:=.lst ((ts'.map V.ref).set i (V.ref q'))) e6 nl2).over (o:=.lst (((ts'.map V.ref).set i (V.ref q')).set s (V.ref q))) a9 nl2;have X9:=c5.new hr2 (.tup [V.int (0-fd.num),V.int (fd.den:Int)]);refine hN _ _ ⟨_,(M'.set i L').set s L,_,_,-fd,r2,rfl,⟨S8.trans X9,D5.fr,?_,nl2,R8.same X9⟩,E3.swap si' sn (by rw [List.length_set,ml]) rl qe,w3.swU,?_,?_⟩
        · refine X9 _ _ ?_
          rw [a9,em]
        · rw [a9]
          unfold A1;rw [Rat.neg_num,Rat.neg_den,Int.zero_sub]
        · rw [qe,if_pos rfl];exact q0
      · have si:s=i:=Classical.byContradiction λz=>h1 λy=>z (by have:=V.int.inj y;omega)
        rw [si] at q0;exact hN _ _ ⟨ts',M',B',sg,fd,pf,rfl,D5,E3,w3,ef5,q0⟩
    rintro σ H6 ⟨ts2,M2,B2,sg2,fd2,pf2,rfl,D6,E6,w6,ef6,q2⟩
    simp! [K5]
    obtain ⟨q,xs,L,f1,f2,f3,f4,f5,f6,f7⟩:=D6.rws.at E6.len E6.row (i:=i) hi;have ei:=List.getElem?_eq_getElem (l:=L) (i:=i) ⋯;obtain ⟨pq,g1,gq⟩:=f5.get ei;have vq:qq M2 i i=L[i]'⋯:=by rw [f7];unfold aQ;rw [ei];rfl
    rw [<- vq] at gq
    have bf:BtN 1 fd2:=by
      have b:=E6.wfbits w6 ⋯ ⋯;have t1:=hs1 i hi;exact ⟨Nat.lt_of_le_of_lt b.1 (Nat.pow_lt_pow_right (by decide) (by unfold dS at t1;omega)),by rw [b.2];decide⟩
    have d1:=hs1 i hi;have bii:=(bit E6 w6 i i (Nat.le_refl _) hi hi).1;refine ⟨_,SqL.of D6.at',_,j3 f1,q,rfl,xs,SqL.of f4,_,j3 g1,fd2,⟨_,rfl,SqT.of ef6⟩,qq M2 i i,⟨_,rfl,gq.sqt⟩,1,bf,_,bii,⋯,λr H7 s7 er=>?_⟩;have D7:=D6.next s7;have lt2:(ts2.map V.ref).length=n:=by rw [List.length_map,D6.rws.length,E6.len]
    obtain ⟨J,hJ⟩:∃ J:Nat->L2.St->Hp->Prop,∀ j σ H8,J j σ H8 ↔ ∃ (ts3:List Addr) (M3:List (List Rat)) (o5 o6:Option V),σ=[some (.ref a),some (.ref l),some (.ref r),some (.int i),some (.ref c),o5,o6]/\ay4 K H l ts3 M3 H8/\M3.length=n/\(∀ N ∈ M3,N.length=n)/\H8 r=some (.tup (A1 (fd2*qq M2 i i)))/\∀ x y,y<n->qq M3 x y=if i<x/\x<i+1+j then qq M2 x y-qq M2 x i*(qq M2 i i)⁻¹*qq M2 i y else qq M2 x y:=⟨_,λ_ _ _=>Iff.rfl⟩;refine ⟨_,rfl,_,_,rfl,rfl,_,rfl,l,rfl,_,.inl (SqL.of D7.at'),_,_,rfl,⟨⋯,⋯,⋯,by rw [lt2];omega⟩,C1 J ((hJ _ _ _).mpr ⟨ts2,M2,_,_,rfl,D7,E6.len,E6.row,er,λx y _=>by rw [if_neg ⋯]⟩) ?_ ?_⟩
    · rintro j σ H8 hj h
      obtain ⟨ts3,M3,o5',o6',rfl,D8,l8,r8,er8,v8⟩:=(hJ _ _ _).mp h;rw [lt2] at hj;have hk:i+1+j<n:=⋯;have ek:(i:Int)+1+(j:Int)=((i+1+j:Nat):Int):=⋯;rw [ek];obtain ⟨k,hkk⟩:∃ k,k=i+1+j:=⟨_,rfl⟩;rw [<- hkk];have lt3:(ts3.map V.ref).length=n:=by rw [List.length_map,D8.rws.length,l8]
      obtain ⟨q,xs,L,f1,f2,f3,f4,f5,f6,f7⟩:=D8.rws.at l8 r8 (i:=i) hi;obtain ⟨q',xs',L',f1',f2',f3',f4',f5',f6',f7'⟩:=D8.rws.at l8 r8 (i:=k) ⋯;have vL:∀ y,y<n->aQ L y=qq M2 i y:=λy hy=>by rw [<- f7,v8 i y hy,if_neg ⋯]
      have vL':∀ y,y<n->aQ L' y=qq M2 k y:=λy hy=>by rw [<- f7',v8 k y hy,if_neg ⋯]
      have at2:∀ {xs:List V} {L:List Rat},A0 K H8 xs L->L.length=n->∀ y,y<n->∃ py,xs[y]? = some (.ref py)/\NmC K H8 py (aQ L y):=λhN hl y hy=>by
        rename_i xs L
        have ey:=List.getElem?_eq_getElem (l:=L) (i:=y) ⋯;obtain ⟨py,g1,g2⟩:=hN.get ey;exact ⟨py,g1,by unfold aQ;rw [ey];exact g2⟩
      obtain ⟨p1,g1,h1⟩:=at2 f5' f6' i hi;obtain ⟨p2,g2,h2⟩:=at2 f5 f6 i hi;rw [vL' i hi] at h1;rw [vL i hi] at h2;have bki:=(bit E6 w6 k i ⋯ ⋯ hi).1;have d2:=hs2 i ⋯;have oft:=E6.oft w6 ⋯ hi (i:=k) ⋯ ⋯ q2 ⋯
      simp! [az0]
      refine ⟨_,SqL.of D8.at',_,j3 f1',q',rfl,_,SqL.of f4',_,j3 g1,_,SqL.of D8.at',_,j3 f1,q,rfl,_,SqL.of f4,_,j3 g2,_,⟨_,rfl,h1.sqt⟩,_,⟨_,rfl,h2.sqt⟩,_,bki,q2,dS w (i+1)+1,oft.1,Nat.lt_of_lt_of_le bii.d (i5 ⋯),⋯,λro H9 s9 eo=>?_⟩;obtain ⟨tt,htt⟩:∃ tt,tt=qq M2 k i / qq M2 i i:=⟨_,rfl⟩;rw [<- htt] at eo;have bt:BtN (dS w (i+1)+1) tt/\tt.num.natAbs<2 ^ 9000:=by rw [htt];exact oft.2
      obtain ⟨NR,hNR⟩:∃ NR,NR=(List.range n).map λy=>qq M2 k y-tt*qq M2 i y:=⟨_,rfl⟩;have nl:NR.length=n:=by rw [hNR,List.length_map,List.length_range]
      have nv:∀ y,y<n->NR[y]? = some (qq M2 k y-tt*qq M2 i y):=λy hy=>by rw [hNR,List.getElem?_map,List.getElem?_range hy];rfl
      have lx':xs'.length=n:=by rw [f5'.length,f6']
      have lx:xs.length=n:=by rw [f5.length,f6]
      refine ⟨_,SqL.of (s9 _ _ D8.at'),_,j3 f1',_,SqL.of (s9 _ _ D8.at'),_,j3 f1,q',rfl,q,rfl,⟨_,SqL.of (s9 _ _ f4')⟩,⟨_,SqL.of (s9 _ _ f4)⟩,λD hD=>?_⟩;have mn:min xs'.length xs.length=n:=⋯;obtain ⟨Pv,hPv⟩:∃ Pv:Nat->L2.St->Hp->Prop,∀ y σ H10,Pv y σ H10 ↔ ∃ (o1 o2:Option V),σ=[some (.ref ro),o1,o2]/\av4 K H9 D (NR.take y) H10:=⟨_,λ_ _ _=>Iff.rfl⟩;refine aC0 xs' xs Pv ((hPv _ _ _).mpr ⟨_,_,rfl,av4.start hD⟩) (λy σ H10 h=>?_) ?_ ?_
      · obtain ⟨_,_,_,R⟩:=(hPv _ _ _).mp h
        exact ⟨SqL.of (R.same _ _ (s9 _ _ f4')),SqL.of (R.same _ _ (s9 _ _ f4))⟩
      · rintro y vx vy σ H10 pp hx hy h hpp
        obtain ⟨o1,o2,rfl,R⟩:=(hPv _ _ _).mp h;have yn:y<n:=by have:=(List.getElem?_eq_some_iff.mp hx).1;omega
        obtain ⟨pa,ga,ha⟩:=at2 f5' f6' y yn;obtain ⟨pb,gb,hb⟩:=at2 f5 f6 y yn;rw [vL' y yn] at ha;rw [vL y yn] at hb;rw [ga] at hx;rw [gb] at hy
        cases hx
        cases hy
        obtain ⟨H11,y11,X11,g11⟩:=R5 (.tup [V.ref pa,V.ref pb]) hpp;rw [<- y11];have S:=(s9.trans R.same).trans X11;have bky:=(bit E6 w6 k y ⋯ ⋯ yn).1;have biy:=bit E6 w6 i y (Nat.le_refl _) hi yn
        simp! [K5]
        refine ⟨_,SqT.of g11,rfl,_,_,rfl,_,_,rfl,rfl,?_⟩;refine ⟨tt,⟨_,rfl,SqT.of ((R.same.trans X11) _ _ eo)⟩,_,⟨_,rfl,(hb.mono S.tups).sqt⟩,_,bt.1,_,biy.1,⋯,λr1 H12 s12 e12=>?_⟩;refine ⟨_,⟨_,rfl,((ha.mono S.tups).mono s12.tups).sqt⟩,_,⟨_,rfl,SqT.of e12⟩,_,bky,_,ba2 bt.1 biy.1 bt.2 biy.2,⋯,λr2 H13 s13 e13=>?_⟩;obtain ⟨ys,eD,yl,R'⟩:=R.add hD ((X11.trans s12).trans s13) (Or.inl e13);refine r6.mk (by rw [mn];exact yn) eD (t5 (by rw [yl,List.length_take];omega)) ((hPv _ _ _).mpr ⟨_,_,rfl,?_⟩)
        rw [d9 (nv y yn)];exact R'
      · intro σ H10 h
        obtain ⟨o1,o2,rfl,R⟩:=(hPv _ _ _).mp h;rw [t9 (by rw [mn,nl];exact Nat.le_refl _)] at R
        obtain ⟨s10,ys,eD,nD⟩:=R;have S10:=s9.trans s10;have D10:=D8.next S10;have lD:l ≠ D:=c7 (s9 _ _ D8.at') hD;have rl:r ≠ l:=λz=>by rw [z,D8.at'] at er8;cases er8
        have nl2:l ∉ ts3.set k D:=λz=>by
          rcases List.mem_or_eq_of_mem_set z with z | z
          · exact D8.nl z
          · exact lD z
        refine ⟨_,D10.at',k,V9 (by rw [lt3];omega),(hJ _ _ _).mpr ⟨ts3.set k D,M3.set k NR,_,_,rfl,⟨D10.same.over D10.fr _,D10.fr,by rw [a9,List.map_set],nl2,((D10.rws.set k eD nD).over D10.at' nl2)⟩,by rw [List.length_set,l8],λN hN=>?_,by rw [c8 rl];exact S10 _ _ er8,λx y hy=>?_⟩⟩
        · rcases List.mem_or_eq_of_mem_set hN with z | z
          · exact r8 N z
          · rw [z];exact nl
        · rw [K7 (by rw [l8];omega)]
          by_cases z:x=k
          · rw [if_pos z,z,if_pos ⋯]
            unfold aQ;rw [nv y hy,htt,Rat.div_def];rfl
          · rw [if_neg z,v8 x y hy]
            by_cases w:i<x/\x<i+1+j
            · rw [if_pos w,if_pos ⋯]
            · rw [if_neg w,if_neg ⋯]
    · intro σ H8 h
      obtain ⟨ts3,M3,o5',o6',rfl,D8,l8,r8,er8,v8⟩:=(hJ _ _ _).mp h;rw [lt2] at v8;refine (hI _ _ _).mpr ⟨ts3,M3,B2,sg2,_,r,_,_,_,_,rfl,D8,E6.step hi q2 l8 r8 λx y h1 h2 h3=>?_,w6,er8⟩;rw [v8 x y h3,if_pos ⋯]
  · intro σ H3 h
    obtain ⟨ts',M',B',sg,fd,pf,o3,o4,o5,o6,rfl,D3,E3,w3,ef⟩:=(hI _ _ _).mp h;rw [List.length_map,lt1] at E3
    subst_eqs
    refine kk pf H3 D3.same ?_;rw [ef,E3.done]
def aL2 (K:q0a):Sp:=λvs H Q _ => ∃ (a:Addr) (ts:List Addr) (M:List (List Rat)),vs=[.ref a,.int M.length]/\H a=some (.lst (ts.map V.ref))/\L7 K H ts M/\M.length<=7/\(∀ L ∈ M,L.length=M.length/\∀ q ∈ L,BdN 6000 q)/\∀ H',c5 H H'->Q (.bl true) H'
abbrev C8:Stmt:=top 62
theorem W7:j1 ["_law_thing","_law_n","_law_row"] ["_law_thing","_law_n"] (b9 C8):=by and_intros
theorem ak3 {f fd:Addr} (d:Df K mg "_law_is_table" C8 ["_law_thing","_law_n"] f) (G__law_is_number:Def P w K mg base CX0 2 "_law_is_number" fd ["_law_thing"] (az1 K)) (n_isinstance:mg "isinstance" = none) (n_list:mg "list" = none) (n_len:mg "len" = none) (n_all:mg "all" = none):Def P w K mg base CX0 3 "_law_is_table" f ["_law_thing","_law_n"] (aL2 K):=by
  refine d.ok (N:=["_law_thing","_law_n","_law_row"]) W7 (by rintro vs H Q E ⟨_,_,_,h,_⟩;rw [h];rfl) (λcdv A outer s H vs Q E hr h=>?_)
  obtain ⟨a,ts,M,rfl,ha,hR,hM,hL,k⟩:=h;have hu:=hr.units
  refine ⟨_, (b8 (z9 (PW.pt (aa5 (N3 (N2 (h8 j6 rfl n_isinstance (by decide +kernel) (a7 (pv 0) (a7 (V3 (v := .ty "list") rfl n_list (by decide +kernel) rfl) a8))))) (ag7 (l5 af9 (h8 k8 rfl n_len (by decide +kernel) (a7 (pv 0) a8)) (pv 1) (j9 _))))) (c4 (i9 X3)) m8)
      (b8 (C6 PassesOwn.never rfl (x9 (pv 0)) (c6 (i:=2) W7.nd rfl (Or.inl rfl)) (c4 (z9 (PW.pt (aa5 (N3 (N2 (h8 j6 rfl n_isinstance (by decide +kernel) (a7 (pv 2) (a7 (V3 (v:=.ty "list") rfl n_list (by decide +kernel) rfl) a8))))) (aa5 (l5 af9 (h8 k8 rfl n_len (by decide +kernel) (a7 (pv 2) a8)) (pv 1) (j9 _)) (ag7 (N3 (N2 (h8 (aG5 rfl) rfl n_all (by decide +kernel) (a7 (w8 (Nc:=["_law_one"]) (caps:=[none]) rfl (J3.of (osc:=b9 C8) (N:=["_law_thing","_law_n","_law_row"]) (ks:=[]) rfl rfl rfl rfl l9 (by decide +kernel)) (x9 (pv 2)) (λC s₂ H₂ fp pins=>(c6 (i:=0) (show List.Nodup (["_law_one"]:List Str) by decide +kernel) rfl (Or.inl rfl) (Or.inr rfl))) (λC s₂ H₂ fp pins=>(d6 G__law_is_number hr (a7 (pv 0) a8) j0))) a8)))))))) (c4 (i9 X3)) m8)))
      (c4 (i9 X3)))),?_⟩
  rw [show start ["_law_thing","_law_n","_law_row"] [.ref a,.int M.length]=[some (.ref a),some (.int M.length),none] from rfl]
  subst_eqs
  have hRl:=hR.length;refine ⟨trivial,_,.of (.lst ha),_,V8,A9 (λz=>by cases z) (λ_=>?_)⟩
  refine ⟨_,.inl (SqL.of ha),rfl,A9 (λz=>absurd (by rw [List.length_map,hRl]) z) (λ_=>?_)⟩
  refine ⟨_,rfl,a,rfl,⟨_,SqL.of ha⟩,ar9 (xs:=ts.map V.ref) (λi σ H2 => ∃ o,σ=[some (.ref a),some (.int M.length),o]/\c5 H H2) ⟨_,rfl,c5.refl _⟩ (λi σ H2 _ ⟨_,_,s2⟩=>SqL.of (s2 _ _ ha)) ?_ ?_⟩
  · rintro i x σ H2 hx ⟨o,rfl,s2⟩
    obtain ⟨t,ht,rfl⟩:=Q8 hx;obtain ⟨xs,L,hL',et,nt⟩:=hR.get ht;have hLm:=hL L (List.mem_of_getElem? hL');have lx:=nt.length;have l7:=hLm.1;have et2:=s2 _ _ et
    subst_eqs
    refine ⟨trivial,_,.of (.lst et2),_,V8,A9 (λz=>by cases z) (λ_=>?_)⟩
    refine ⟨_,.inl (SqL.of et2),rfl,A9 (λz=>absurd (by rw [lx,l7]) z) (λ_=>?_)⟩
    refine ⟨⟨_,SqL.of et2⟩,λD hD=>?_⟩;refine B7 xs (λj σ H3 => ∃ o,σ=[o]/\c5 H2 H3/\H3 D=some (.lst ((List.replicate j true).map V.bl))) ⟨_,rfl,c5.new hD _,a9⟩ (λj σ H3 _ ⟨o,_,s3,_⟩=>SqL.of (s3 _ _ et2)) ?_ ?_
    · rintro j x σ H3 hx2 ⟨o,rfl,s3,e3⟩
      have hj:j<xs.length:=(List.getElem?_eq_some_iff.mp hx2).1;obtain ⟨p,q,rfl,hq,hp⟩:=nt.getV hx2
      subst_eqs
      have sq:=(hLm.2 q (List.mem_of_getElem? hq)).bd6 (by decide)
      refine ⟨_,q,rfl,⟨p,rfl,(hp.mono (s2.trans s3).tups).sqt⟩,?_,λH4 s4=>?_⟩
      · rw [Int.natAbs_natCast]
        exact sq.d
      · refine r6.mk hj (s4 _ _ e3) (by simp;exact Nat.lt_of_lt_of_le (show j<1000 by omega) (by decide)) ⟨_,rfl,(s3.trans s4).over hD _,?_⟩
        rw [a9,List.replicate_succ',List.map_append];rfl
    · rintro σ H3 ⟨o,rfl,s3,e3⟩
      refine ⟨D,rfl,_,SqL.of e3,A9 (λz=>by simp at z) (λ_=>s2.trans s3)⟩
  · rintro σ H2 ⟨o,rfl,s2⟩
    subst_eqs
    exact k H2 s2
def aS0 (K:q0a):Sp:=λvs H Q _ => ∃ (a b:Addr) (xs ys:List V) (p q:List Rat) (m n W:Nat),vs=[.ref a,.ref b]/\SqL K H a xs/\SqL K H b ys/\C3 H xs p/\C3 H ys q/\(∀ x ∈ p,BdN m x)/\(∀ x ∈ q,BdN n x)/\(∀ i,BdN W (M4 (p.take i) (q.take i)))/\m+n+W<=6000/\p.length=q.length/\at3 H Q (M4 p q)
abbrev Z2:Stmt:=top 56
theorem O2:j1 ["_law_row","_law_column","_law_found","_law_one","_law_other_here"] ["_law_row","_law_column"] (b9 Z2):=by and_intros
theorem aE6 {f f1 f2:Addr} (d:Df K mg "_law_dot" Z2 ["_law_row","_law_column"] f) (G__law_plus:Def P w K mg base CX0 2 "_law_plus" f1 ["_law_one","_law_other_here"] (K5 K (· + ·))) (G__law_times:Def P w K mg base CX0 2 "_law_times" f2 ["_law_one","_law_other_here"] (K5 K (· * ·))) (n_zip:mg "zip" = none):Def P w K mg base CX0 3 "_law_dot" f ["_law_row","_law_column"] (aS0 K):=by
 refine d.ok (N:=["_law_row","_law_column","_law_found","_law_one","_law_other_here"]) O2 (by rintro vs H Q E ⟨_,_,_,_,_,_,_,_,_,h,_⟩;rw [h];rfl) (λcdv A outer s H vs Q E hr h=>?_)
 obtain ⟨a,b,xs,ys,p,q,m,n,W,rfl,hS,hS',hN,hN',hp,hq,hB,hm,hlq,k⟩:=h
 refine ⟨_,(b8 (i8 (i:=2) O2.nd rfl (q0y rfl) (m5 (a7 b7 (a7 b7 a8))))
   (b8 (C6 PassesOwn.never rfl (aq5 rfl n_zip (a7 (pv 0) (a7 (pv 1) a8))) (show PG _ _ (E9 K 2 (k6 (k9 3) (k6 (k9 4) F2))) from by (refine w5 (n:=2) ?_ ?_ ?_ ?_;rfl;(refine d7 ?_ ?_ ?_;(exact (c6 (i:=3) O2.nd rfl (q0y rfl)));(refine d7 ?_ ?_ ?_;(exact (c6 (i:=4) O2.nd rfl (q0y rfl)));(exact p4);rfl);rfl);rfl;rfl)) (c4 (i8 (i:=2) O2.nd rfl (q0y rfl) (d6 G__law_plus hr (a7 (pv 2) (a7 (d6 G__law_times hr (a7 (pv 3) (a7 (pv 4) a8)) j0) a8)) j0))))
   (c4 (i9 (pv 2))))),?_⟩
 rw [show start ["_law_row","_law_column","_law_found","_law_one","_law_other_here"] [.ref a,.ref b]=[some (.ref a),some (.ref b),none,none,none] from rfl]
 subst_eqs
 have lx:=hN.length;have ly:=hN'.length;refine ⟨u0,λz hz=>?_⟩;have Sz:=c5.new hz (.tup [.int 0,.int 1]);refine ⟨_,rfl,_,rfl,a,b,rfl,⟨_,Sz.seq hS⟩,⟨_,Sz.seq hS'⟩,aZ4 xs ys (λi σ H2 => ∃ pf o1 o2,σ=[some (.ref a),some (.ref b),some (.ref pf),o1,o2]/\c5 H H2/\H2 pf=some (.tup (A1 (M4 (p.take i) (q.take i))))) ⟨z,_,_,rfl,Sz,a9⟩ (by rintro i σ H2 ⟨_,_,_,_,s2,_⟩;exact ⟨s2.seq hS,s2.seq hS'⟩) ?_ ?_⟩
 ·rintro i x y σ H2 pt hx hy ⟨pf,o1,o2,rfl,s2,ef⟩ hpt
  obtain ⟨px,q1,rfl,hq1,hpx⟩:=hN.getV hx;obtain ⟨py,q2,rfl,hq2,hpy⟩:=hN'.getV hy;have st:=c5.new hpt (.tup [.ref px,.ref py]);have S2:=s2.trans st;have b1:=hp q1 (q0j hq1);have b2:=hq q2 (q0j hq2);have bi:=hB i;have hd:=aQ5 i hq1 hq2
  subst_eqs
  refine ⟨_,SqT.of a9,rfl,_,_,rfl,_,_,rfl,rfl,?_⟩;refine ⟨_,_,q1,q2,m,n,rfl,⟨px,rfl,SqT.of (S2 _ _ hpx)⟩,⟨py,rfl,SqT.of (S2 _ _ hpy)⟩,b1.t ⋯,b2.t ⋯,⋯,λp5 H5 s5 e5=>?_⟩;refine ⟨_,_,_,_,W,m+n,rfl,⟨pf,rfl,SqT.of (s5 _ _ (st _ _ ef))⟩,⟨p5,rfl,SqT.of e5⟩,bi.t ⋯,(b1.mul b2).t ⋯,?_,λp6 H6 s6 e6=>?_⟩
  ·omega
  ·exact ⟨p6,rfl,S2.trans (s5.trans s6),by rw [hd];exact e6⟩
 ·rintro σ H2 ⟨pf,o1,o2,rfl,s2,ef⟩
  have ml:min xs.length ys.length=p.length:=⋯;rw [ml,y0p,hlq,y0p] at ef;exact ⟨_,rfl,k pf H2 s2 ef⟩
theorem aT5 {B C V U:Nat} (hB:0<B) (hC:0<C):∀ (p q:List Rat),(∀ x ∈ p,OvB B V x)->(∀ x ∈ q,OvB C U x)->OvB (B*C) (V+U+p.length) (M4 p q)
 | [],q,_,_=>by unfold M4;exact OvB.zero _ _
 | a :: p,[],_,_=>by unfold M4;exact OvB.zero _ _
 | a :: p,b :: q,hp,hq=>by
  have ih:=aT5 hB hC p q (λx hx=>hp x (q0z _ hx)) (λx hx=>hq x (q0z _ hx))
  have e:M4 (a :: p) (b :: q)=a*b+M4 p q:=by
   unfold M4;rw [m0f,v0q,ax2];grind
  rw [e];have m:=(hp a z0g).mul (hq b z0g);exact ((m.mono (show V+U<=V+U+p.length by omega)).add (v0n hB hC) ih).mono (by rw [j0x];omega)
theorem aZ6 {N:List (List Rat)} {n C U:Nat} (h:∀ L ∈ N,L.length=n/\∀ q ∈ L,OvB C U q) {L:List Rat} (hL:L ∈ w4 N N.length):L.length=N.length/\∀ q ∈ L,OvB C U q:=by
 obtain ⟨i,_,rfl⟩:=z0w.mp hL;refine ⟨Z9 ..,λq hq=>?_⟩;obtain ⟨L',hL',rfl⟩:=z0w.mp hq
 cases e:L'[i]? with
 | none=>exact OvB.zero _ _
 | some x=>exact (h L' hL').2 x (q0j e)
def bb2 (K:q0a):Sp:=λvs H Q E => ∃ (a b:Addr) (ts us:List Addr) (M N:List (List Rat)) (n B V' C U:Nat),vs=[.ref a,.ref b]/\H a=some (.lst (ts.map V.ref))/\Rws H ts M/\H b=some (.lst (us.map V.ref))/\Rws H us N/\M.length=n/\N.length=n/\n<=8/\(∀ L ∈ M,L.length=n/\∀ q ∈ L,OvB B V' q)/\(∀ L ∈ N,L.length=n/\∀ q ∈ L,OvB C U q)/\0<B/\0<C/\B<2 ^ V'/\C<2 ^ U/\V'+U+(V'+U+8)<=6000/\ah4 H Q (aa6 M N)
abbrev A3:Stmt:=top 57
theorem O9:j1 ["_law_one","_law_other_here","_law_columns"] ["_law_one","_law_other_here"] (b9 A3):=by and_intros
theorem af3 {f f1 f2:Addr} (d:Df K mg "_law_table_times" A3 ["_law_one","_law_other_here"] f) (G__law_flipped:Def P w K mg base CX0 1 "_law_flipped" f1 ["_law_table"] (ab2 K)) (G__law_dot:Def P w K mg base CX0 3 "_law_dot" f2 ["_law_row","_law_column"] (aS0 K)):Def P w K mg base CX0 4 "_law_table_times" f ["_law_one","_law_other_here"] (bb2 K):=by
 refine d.ok (N:=["_law_one","_law_other_here","_law_columns"]) O9 (by rintro vs H Q E ⟨_,_,_,_,_,_,_,_,_,_,_,h,_⟩;rw [h];rfl) (λcdv A outer s H vs Q E hr h=>?_)
 obtain ⟨a,b,ts,us,M,N,n,B,V',C,U,rfl,ha,hR,hb,hS,lM,lN,n8,hM,hN,B0,C0,hBV,hCU,hz,k1⟩:=h;have hl:M.length=N.length:=⋯
 refine ⟨_,(b8 (i8 (i:=2) O9.nd rfl (z0z rfl) (d6 G__law_flipped hr (a7 (pv 1) a8) j0))
   (c4 (i9 (ac2 (Nc:=["_law_columns","_law_row"]) (caps:=[some 2,none]) rfl (ag1.of (osc:=b9 A3) (N:=["_law_one","_law_other_here","_law_columns"]) (ks:=["_law_columns"]) rfl rfl rfl rfl (j5 rfl l9) (by decide +kernel)) (x9 (pv 0)) (λC s₂ H₂ fp pins=>(c6 (i:=1) (show z0t (["_law_columns","_law_row"]:List Str) by decide +kernel) rfl (z0z rfl) (q0y rfl))) (λC s₂ H₂ fp pins=>(w8 (Nc:=["_law_row","_law_column"]) (caps:=[some 1,none]) rfl (J3.of (osc:=_) (N:=["_law_columns","_law_row"]) (ks:=["_law_row"]) rfl rfl rfl rfl (j5 rfl l9) (by kernel_rfl)) (show PI _ _ _ (aa7 K _) from by exact (x9 (pv 0))) (λC s₂ H₂ fp pins=>(c6 (i:=1) (show z0t (["_law_row","_law_column"]:List Str) by decide +kernel) rfl (q0y rfl) (z0z rfl))) (λC s₂ H₂ fp pins=>(d6 G__law_dot hr (a7 (pv 0) (a7 (pv 1) a8)) j0)))))))),?_⟩
 rw [show start ["_law_one","_law_other_here","_law_columns"] [.ref a,.ref b]=[some (.ref a),some (.ref b),none] from rfl]
 subst_eqs
 refine ⟨b,us,N,rfl,hb,hS,λL hL=>by rw [lN];exact (hN L hL).1,⋯,λc cs H1 s1 fc fcs ndc ec hC=>?_⟩
 have lC:=hC.length;rw [T0] at lC;have hRl:=hR.length;refine ⟨⟨_,SqL.of (s1 _ _ ha)⟩,λD hD=>?_⟩;refine B7 (ts.map V.ref) (λi σ H2 => ∃ o,σ=[some (.ref c),o]/\G1 H1 D ((aa6 M N).take i) H2) ⟨_,rfl,G1.start hD⟩ (λi σ H2 _ ⟨_,_,T⟩=>SqL.of (T.same _ _ (s1 _ _ ha))) ?_ ?_
 ·rintro i x σ H2 hx ⟨o,rfl,T⟩
  have hi:=(q0h.mp hx).1;obtain ⟨t,ht,rfl⟩:=Q8 hx;obtain ⟨xs,L,hL,et,nt⟩:=hR.get ht;have hLm:=hM L (q0j hL);have S2:=s1.trans T.same
  subst_eqs
  refine ⟨⟨_,SqL.of (T.same _ _ ec)⟩,λD2 hD2=>?_⟩;refine B7 (cs.map V.ref) (λj σ H3 => ∃ o,σ=[some (.ref t),o]/\G2 H2 D2 (((w4 N N.length).map (M4 L)).take j) H3) ⟨_,rfl,G2.start hD2⟩ (λj σ H3 _ ⟨_,_,R⟩=>SqL.of (R.same _ _ (T.same _ _ ec))) ?_ ?_
  ·rintro j y σ H3 hy ⟨o,rfl,R⟩
   have hj:=(q0h.mp hy).1;obtain ⟨u,hu,rfl⟩:=Q8 hy;obtain ⟨ys,C',hC',eu,nu⟩:=hC.get hu;have hCm:=aZ6 hN (q0j hC')
   subst_eqs
   have S3:=S2.trans R.same;have S3':=T.same.trans R.same;have l7:=hLm.1;have l8:=hCm.1;refine ⟨t,u,xs,ys,L,C',V',U,V'+U+8,rfl,SqL.of (S3 _ _ et),SqL.of (S3' _ _ eu),nt.mono S3.tups,nu.mono S3'.tups,λx hx=>(hLm.2 x hx).bdN B0 hBV,λx hx=>(hCm.2 x hx).bdN C0 hCU,λi=>?_,⋯,by rw [hLm.1,hCm.1,lN],λp5 H5 s5 e5=>?_⟩
   ·have o:=aT5 B0 C0 (L.take i) (C'.take i) (λx hx=>hLm.2 x (u0w hx)) (λx hx=>hCm.2 x (u0w hx))
    refine OvB.bdN (v0n B0 C0) (q0d (j0e hBV hCU) ?_) (o.mono ?_)
    ·rw [<- z0u];exact i5 ⋯
    ·rw [q0x];omega
   obtain ⟨zs,eD,yl,R'⟩:=R.add hD2 s5 e5;refine r6.mk hj eD (t5 (by rw [yl,q0x,q0b,T0];omega)) ⟨_,rfl,?_⟩
   rw [d9 (l:=(w4 N N.length).map (M4 L)) (x:=M4 L C') (by rw [q0f,hC'];rfl)]
   exact R'
  ·rintro σ H3 ⟨o,rfl,R⟩
   rw [t9 (by rw [q0b,q0b,T0];omega)] at R
   obtain ⟨zs,eD,yl,T'⟩:=T.add hD hD2 R;refine r6.mk hi eD (t5 (by rw [yl,q0x,ac0];omega)) ⟨_,rfl,?_⟩
   rw [d9 (aE0 hL)];exact T'
 ·rintro σ H2 ⟨o,rfl,T⟩
  rw [t9 (by rw [ac0,q0b];omega)] at T
  exact T.res (k1.from s1) hD
def aL6 (K:q0a):Sp:=λvs H Q _ => ∃ (a r rr rq:Addr) (ts us:List Addr) (zs:List V) (M:List (List Rat)) (N Bt W:Nat) (cols:List (List Int)) (qs:List Rat),vs=[.ref a,.ref r]/\H a=some (.lst (ts.map V.ref))/\Rws H ts M/\FmT N M Bt W/\1<=N/\W<=125/\Bt.log2<=5/\H r=some (.tup [.ref rr,.ref rq])/\H rr=some (.lst (us.map V.ref))/\Rws H us (x8 N cols)/\H rq=some (.lst zs)/\A0 K H zs qs/\T4 N (qq M) Bt W cols qs/\∀ H',c5 H H'->Q (.bl true) H'
abbrev w9:Stmt:=top 69
theorem J1:j1 ["_law_form","_law_told","_law_n","_law_led"] ["_law_form","_law_told"] (b9 w9):=by and_intros
theorem af5 {f f1 f2 f3 f4 f5:Addr} (d:Df K mg "_law_are_squares" w9 ["_law_form","_law_told"] f) (G__law_is_table:Def P w K mg base CX0 3 "_law_is_table" f1 ["_law_thing","_law_n"] (aL2 K)) (G__law_is_number:Def P w K mg base CX0 2 "_law_is_number" f2 ["_law_thing"] (az1 K)) (G__law_det:Def P w K mg base CX0 3 "_law_det" f3 ["_law_table"] (aL1 K)) (G__law_table_times:Def P w K mg base CX0 4 "_law_table_times" f4 ["_law_one","_law_other_here"] (bb2 K)) (G__law_flipped:Def P w K mg base CX0 1 "_law_flipped" f5 ["_law_table"] (ab2 K)) (n_isinstance:mg "isinstance" = none) (n_tuple:mg "tuple" = none) (n_list:mg "list" = none) (n_len:mg "len" = none) (n_all:mg "all" = none) (n_range:mg "range" = none) (n_int:mg "int" = none):Def P w K mg base CX0 5 "_law_are_squares" f ["_law_form","_law_told"] (aL6 K):=by
  refine d.ok (N:=["_law_form","_law_told","_law_n","_law_led"]) J1 (by rintro vs H Q E ⟨_,_,_,_,_,_,_,_,_,_,_,_,_,h,_⟩;rw [h];rfl) (λcdv A outer s H vs Q E hr h=>?_)
  obtain ⟨a,r,rr,rq,ts,us,zs,M,N,Bt,W,cols,qs,rfl,ea,RM,fm,N1,hW,hB,er,err,RT,erq,nq,R0,k⟩:=h;have hu:=hr.units
  refine ⟨_, (b8 (i8 (i := 2) J1.nd rfl (Or.inr rfl) (h8 k8 rfl n_len (by decide +kernel) (a7 (pv 0) a8)))
      (b8 (z9 (PW.pt (aa5 (N3 (N2 (h8 j6 rfl n_isinstance (by decide +kernel) (a7 (pv 1) (a7 (V3 (v:=.ty "tuple") rfl n_tuple (by decide +kernel) rfl) a8))))) (aa5 (l5 af9 (h8 k8 rfl n_len (by decide +kernel) (a7 (pv 1) a8)) b7 (j9 _)) (ag7 (N3 (N2 (d6 G__law_is_table hr (a7 (d8 j8 (pv 1) b7 (λ_ _=>rfl)) (a7 (pv 2) a8)) j0))))))) (c4 (i9 X3)) m8)
      (b8 (z9 (PW.pt (aa5 (N3 (N2 (h8 j6 rfl n_isinstance (by decide +kernel) (a7 (d8 j8 (pv 1) b7 (λ_ _=>rfl)) (a7 (V3 (v:=.ty "list") rfl n_list (by decide +kernel) rfl) a8))))) (aa5 (l5 af9 (h8 k8 rfl n_len (by decide +kernel) (a7 (d8 j8 (pv 1) b7 (λ_ _=>rfl)) a8)) (pv 2) (j9 _)) (ag7 (N3 (N2 (h8 (aG5 rfl) rfl n_all (by decide +kernel) (a7 (w8 (Nc:=["_law_one"]) (caps:=[none]) rfl (J3.of (osc:=b9 w9) (N:=["_law_form","_law_told","_law_n","_law_led"]) (ks:=[]) rfl rfl rfl rfl l9 (by decide +kernel)) (x9 (d8 j8 (pv 1) b7 (λ_ _=>rfl))) (λC s₂ H₂ fp pins=>(c6 (i:=0) (show List.Nodup (["_law_one"]:List Str) by decide +kernel) rfl (Or.inl rfl) (Or.inr rfl))) (λC s₂ H₂ fp pins=>(d6 G__law_is_number hr (a7 (pv 0) a8) j0))) a8)))))))) (c4 (i9 X3)) m8)
      (b8 (z9 (l5 X4 (d8 j8 (d6 G__law_det hr (a7 (d8 j8 (pv 1) b7 (λ_ _=>rfl)) a8) j0) b7 (λ_ _=>rfl)) b7 (j9 _)) (c4 (i9 X3)) m8)
      (b8 (i8 (i:=3) J1.nd rfl (Or.inl rfl) (d6 G__law_table_times hr (a7 (d6 G__law_flipped hr (a7 (d8 j8 (pv 1) b7 (λ_ _=>rfl)) a8) j0) (a7 (d6 G__law_table_times hr (a7 (pv 0) (a7 (d8 j8 (pv 1) b7 (λ_ _=>rfl)) a8)) j0) a8)) j0))
      (c4 (i9 (K3 (aq7 hu) (pv 3) (ac2 (Nc:=["_law_told","_law_n","_law_i"]) (caps:=[some 1,some 2,none]) rfl (ag1.of (osc:=b9 w9) (N:=["_law_form","_law_told","_law_n","_law_led"]) (ks:=["_law_told","_law_n"]) rfl rfl rfl rfl (j5 rfl (j5 rfl l9)) (by decide +kernel)) (o0 rfl n_range (a7 (pv 2) a8)) (λC s₂ H₂ fp pins=>(c6 (i:=2) (show List.Nodup (["_law_told","_law_n","_law_i"]:List Str) by decide +kernel) rfl (Or.inr rfl) (Or.inl rfl))) (λC s₂ H₂ fp pins=>(w8 (Nc:=["_law_told","_law_i","_law_j"]) (caps:=[some 0,some 2,none]) rfl (J3.of (osc:=_) (N:=["_law_told","_law_n","_law_i"]) (ks:=["_law_told","_law_i"]) rfl rfl rfl rfl (j5 rfl (j5 rfl l9)) (by kernel_rfl)) (o0 rfl n_range (a7 (pv 1) a8)) (λC s₂ H₂ fp pins=>(c6 (i:=2) (show List.Nodup (["_law_told","_law_i","_law_j"]:List Str) by decide +kernel) rfl (Or.inl rfl) (Or.inr rfl))) (λC s₂ H₂ fp pins=>(d8 (by exact i6:IxR _ (Z3 K)) (F8 (a7 (m5 (a7 b7 (a7 b7 a8))) (a7 (d8 (by exact i6:IxR _ (Z3 K)) (d8 (by exact j8:IxR _ (au1 K)) (pv 0) b7 (λ_ _=>rfl)) (pv 1) (λ_ _=>rfl)) a8))) (E5 N5 rfl n_int (by decide +kernel) (a7 (K3 X4 (pv 1) (pv 2) (j9 _)) a8)) (λ_ _=>rfl)))))) (j9 _))))))))),?_⟩
  rw [show start ["_law_form","_law_told","_law_n","_law_led"] [.ref a,.ref r]=[some (.ref a),some (.ref r),none,none] from rfl]
  have lts:=RM.length;have lM:=fm.tf.len;have n7:=fm.fm.n7;have tr:=SqT.of (K:=K) er
  have hw:∀ c,c<7->cw Bt W c<=143*c+16:=λc _=>by
    unfold cw;have:=Nat.mul_le_mul_right c (show W+18<=143 by omega)
    omega
  have tT:=R0.tab n7 hw;have lT:=(Y2 (N:=N) R0.lc).len;have lus:=RT.length;have lzs:=nq.length
  have oM:F4 Bt W M:=⟨⋯,fm.fm.b0,fm.fm.bW,λL hL=>by
    obtain ⟨i,hi,rfl⟩:=List.getElem_of_mem hL;obtain ⟨l,_,ov⟩:=fm.row (List.getElem?_eq_getElem hi);exact ⟨by rw [l,lM],ov⟩⟩
  have tTf:=tT.flip;have lTf:(w4 (x8 N cols) N).length=N:=by unfold w4;rw [List.length_map,List.length_range]
  rw [lT] at tTf;have oP:=oM.prod tT ⋯;have lP:(aa6 M (x8 N cols)).length=N:=by rw [ac0,lM]
  have oA:=tTf.prod oP ⋯;have tfT:E7 N (x8 N cols) (qq (x8 N cols)):=by have:=tT.tf;rw [lT] at this;exact this
  have fA:E7 N (aa6 (w4 (x8 N cols) N) (aa6 M (x8 N cols))) λi j=>if i=j then (qs[i]?).getD 0 else 0:=((aB4 tfT).prod (fm.tf.prod tfT)).to λi j hi hj=>R0.led hi hj
  have bq:∀ i,i<N->BdN 1899 ((qs[i]?).getD 0):=λi hi=>by
    have h1:=fA.at' i i hi hi;rw [if_pos rfl] at h1;rw [<- h1];exact OvB.bdN oA.B0 (Nat.lt_of_lt_of_le oA.BW (i5 ⋯)) ((oA.at i i).mono ⋯)
  refine c9 (λσ H1=>H1=H/\σ=[some (.ref a),some (.ref r),some (.int (N:Int)),none]) (λNn hN=>?_) ?_
  · subst_eqs
    exact ⟨_,.inl (SqL.of ea),hN _ _ ⟨rfl,by rw [List.length_map,lts,lM]⟩⟩
  rintro σ H1 ⟨rfl,rfl⟩;refine c9 (λσ H2=>c5 H1 H2/\σ=[some (.ref a),some (.ref r),some (.int (N:Int)),none]) (λNn hN=>?_) ?_
  · subst_eqs
    refine ⟨trivial,_,.sqt tr,_,an0,A9 (λz=>by cases z) (λ_=>?_)⟩
    refine ⟨_,.inr tr,rfl,A9 (λz=>absurd rfl z) (λ_=>?_)⟩;refine ⟨_,tr,_,rfl,rr,us,x8 N cols,by rw [lT],err,RT.toC,⋯,λL hL=>⟨(tT.row L hL).1,λq hq=>((tT.bd L hL).2 q hq).mono (by decide)⟩,λH2 s2=>⟨true,rfl,A9 (λz=>by cases z) (λ_=>hN _ _ ⟨s2,rfl⟩)⟩⟩
  rintro σ H2 ⟨s2,rfl⟩;refine c9 (λσ H3=>c5 H1 H3/\σ=[some (.ref a),some (.ref r),some (.int (N:Int)),none]) (λNn hN=>?_) ?_
  · subst_eqs
    have er2:=SqT.of (K:=K) (s2 _ _ er);have eq2:=s2 _ _ erq;refine ⟨_,er2,_,rfl,trivial,_,.of (.lst eq2),_,V8,A9 (λz=>by cases z) (λ_=>⟨_,er2,_,rfl,rq,rfl,zs,.inl (SqL.of eq2),rfl,A9 (λz=>absurd (by rw [lzs,R0.lq]) z) (λ_=>⟨_,er2,_,rfl,rq,rfl,⟨_,SqL.of eq2⟩,λD hD=>?_⟩)⟩)⟩
    refine B7 zs (λj σ H3 => ∃ o,σ=[o]/\c5 H2 H3/\H3 D=some (.lst ((List.replicate j true).map V.bl))) ⟨_,rfl,c5.new hD _,a9⟩ (λj σ H3 _ ⟨o,_,s3,_⟩=>SqL.of (s3 _ _ eq2)) ?_ ?_
    · rintro j x σ H3 hx ⟨o,rfl,s3,e3⟩
      obtain ⟨p,q,rfl,gq,hp⟩:=((nq.mono s2.tups).mono s3.tups).getV hx;have hj:=(List.getElem?_eq_some_iff.mp hx).1;have lq:=R0.lq;have b:=bq j ⋯;rw [gq] at b
      subst_eqs
      refine ⟨.ref p,q,rfl,⟨p,rfl,hp.sqt⟩,Nat.lt_of_lt_of_le b.d' (i5 (by decide)),λH4 s4=>?_⟩
      have e4:=s4 _ _ e3;refine r6.mk hj e4 (t5 (by rw [List.length_map,List.length_replicate];omega)) ⟨_,rfl,(s3.trans s4).over hD _,?_⟩
      rw [a9,List.replicate_succ',List.map_append];rfl
    · rintro σ H3 ⟨o,rfl,s3,e3⟩
      refine ⟨D,rfl,_,SqL.of e3,A9 (λz=>?_) (λ_=>hN _ _ ⟨s2.trans s3,rfl⟩)⟩;rw [List.all_replicate] at z
      simp at z
  rintro σ H3 ⟨s3,rfl⟩;refine c9 (λσ H4=>c5 H1 H4/\σ=[some (.ref a),some (.ref r),some (.int (N:Int)),none]) (λNn hN=>?_) ?_
  · subst_eqs
    refine ⟨_,SqT.of (s3 _ _ er),_,rfl,rr,us,x8 N cols,N,wK,rfl,SqL.of (s3 _ _ err),(RT.same s3).toC,lT,λL hL=>by rw [(tT.row L hL).1,lT],R0.wc n7 hw,n7,bh6,λk hk=>bh8 ⟨k,⋯⟩,λk hk=>bh7 ⟨k,⋯⟩,λp H4 s4 e4=>⟨p,rfl,_,SqT.of e4,_,at0 _,rfl,A9 (λz=>absurd (aE8.mp (V.int.inj z)) R0.dt) (λ_=>hN _ _ ⟨s3.trans s4,rfl⟩)⟩⟩
  rintro σ H4 ⟨s4,rfl⟩;refine c9 (λσ H5=>c5 H1 H5/\∃ d ds L,σ=[some (.ref a),some (.ref r),some (.int (N:Int)),some (.ref d)]/\H5 d=some (.lst (ds.map V.ref))/\Rws H5 ds L/\E7 N L λi j=>if i=j then (qs[i]?).getD 0 else 0) (λNn hN=>?_) ?_
  · subst_eqs
    have RT4:=RT.same s4;have err4:=s4 _ _ err;refine ⟨_,SqT.of (s4 _ _ er),_,rfl,rr,us,x8 N cols,rfl,err4,RT4,λL hL=>(tT.row L hL).1,⋯,λr1 t1 H5 s5 f1 g1 nd1 e1 R1=>?_⟩;rw [lT] at R1;refine ⟨_,SqT.of (s5 _ _ (s4 _ _ er)),_,rfl,a,rr,ts,us,M,x8 N cols,N,Bt,W,1,880,rfl,s5 _ _ (s4 _ _ ea),(RM.same s4).same s5,s5 _ _ err4,RT4.same s5,lM,lT,⋯,λL hL=>⟨by rw [(oM.row L hL).1,lM],(oM.row L hL).2⟩,λL hL=>⟨by rw [(tT.row L hL).1,lT],(tT.row L hL).2⟩,oM.B0,tT.B0,oM.BW,tT.BW,⋯,λr2 t2 H6 s6 f2 g2 nd2 e2 R2=>?_⟩
    refine ⟨r1,r2,t1,t2,w4 (x8 N cols) N,aa6 M (x8 N cols),N,1,880,Bt*1,W+880+7,rfl,s6 _ _ e1,R1.same s6,e2,R2,lTf,lP,⋯,λL hL=>⟨by rw [(tTf.row L hL).1,lTf],(tTf.row L hL).2⟩,λL hL=>⟨by rw [(oP.row L hL).1,lP],(oP.row L hL).2⟩,tTf.B0,oP.B0,tTf.BW,oP.BW,⋯,λr3 t3 H7 s7 f3 g3 nd3 e3 R3=>hN _ _ ⟨s4.trans (s5.trans (s6.trans s7)),r3,t3,_,rfl,e3,R3,fA⟩⟩
  rintro σ H5 ⟨s5,d,ds,L,rfl,ed,RL,fL⟩
  subst_eqs
  have lq:=R0.lq;obtain ⟨L2',hL2⟩:∃ L2':List (List Rat),L2'=(List.range N).map λi=>(List.range N).map λj=>if i=j then (qs[i]?).getD 0 else 0:=⟨_,rfl⟩
  have f2:E7 N L2' λi j=>if i=j then (qs[i]?).getD 0 else 0:=by
    refine ⟨by rw [hL2,List.length_map,List.length_range],λX hX=>?_,λi j hi hj=>?_⟩
    · rw [hL2] at hX
      obtain ⟨i,_,rfl⟩:=List.mem_map.mp hX;rw [List.length_map,List.length_range]
    · rw [hL2]
      unfold qq;rw [List.getElem?_map,List.getElem?_range hi]
      show aQ ((List.range N).map λj=>if i=j then (qs[i]?).getD 0 else 0) j=_;unfold aQ;rw [List.getElem?_map,List.getElem?_range hj];rfl
  have eL:L=L2':=fL.eq f2;have l2:=f2.len;refine ⟨⋯,⋯,λD hD=>?_⟩;refine G0 (λi σ H6 => ∃ o,σ=[some (.ref r),some (.int N),o]/\av3 K H5 D (L2'.take i) H6) ⟨_,rfl,av3.start hD⟩ ?_ ?_
  · rintro i σ H6 hi ⟨o,rfl,T6⟩
    have hi:i<N:=⋯;obtain ⟨NR,hNR⟩:∃ NR:List Rat,NR=(List.range N).map λj=>if i=j then (qs[i]?).getD 0 else 0:=⟨_,rfl⟩;have nl:NR.length=N:=by rw [hNR,List.length_map,List.length_range]
    have gi:L2'[i]? = some NR:=by rw [hL2,List.getElem?_map,List.getElem?_range hi,hNR];rfl
    subst_eqs
    refine ⟨⋯,⋯,λD2 hD2=>?_⟩;refine G0 (λj σ H7 => ∃ o,σ=[some (.ref r),some (.int (0+(i:Int))),o]/\av4 K H6 D2 (NR.take j) H7) ⟨_,rfl,av4.start hD2⟩ ?_ ?_
    · rintro j σ H7 hj ⟨o,rfl,R7⟩
      have hj:j<N:=⋯;have gj:NR[j]? = some (if i=j then (qs[i]?).getD 0 else 0):=by rw [hNR,List.getElem?_map,List.getElem?_range hj];rfl
      have s7:=s5.trans (T6.same.trans R7.same);obtain ⟨pq,gq,hq⟩:=nq.get (List.getElem?_eq_getElem (l:=qs) (i:=i) ⋯)
      subst_eqs
      refine ⟨by decide,λp fp=>?_⟩
      have sp:=c5.new fp (.tup [V.int 0,V.int 1]);have s8:=s7.trans sp;refine ⟨_,SqT.of (s8 _ _ er),_,rfl,rq,rfl,zs,SqL.of (s8 _ _ erq),_,by rw [Int.zero_add];exact j3 gq,by decide,λp2 fp2=>⟨rfl,_,SqL.of a9,?_⟩⟩
      have sp2:=c5.new fp2 (.lst [V.ref p,V.ref pq])
      by_cases z:i=j
      · rw [if_pos z] at gj
        rw [if_pos ⋯];refine ⟨_,rfl,?_⟩;rw [List.getElem?_eq_getElem (l:=qs) (i:=i) ⋯] at gj;obtain ⟨ys,eD,yl,R'⟩:=R7.add hD2 (sp.trans sp2) ((hq.mono s8.tups).mono sp2.tups);refine r6.mk ⋯ eD (t5 (by rw [yl,List.length_take];omega)) ⟨_,rfl,?_⟩
        rw [d9 gj];exact R'
      · rw [if_neg z] at gj
        rw [if_neg ⋯];refine ⟨_,rfl,?_⟩;obtain ⟨ys,eD,yl,R'⟩:=R7.add hD2 (sp.trans sp2) (q:=0) (.inl (sp2 _ _ a9));refine r6.mk ⋯ eD (t5 (by rw [yl,List.length_take];omega)) ⟨_,rfl,?_⟩
        rw [d9 gj];exact R'
    · rintro σ H7 ⟨o,rfl,R7⟩
      rw [t9 ⋯] at R7;obtain ⟨ys,eD,yl,T'⟩:=T6.add hD hD2 R7;refine r6.mk ⋯ eD (t5 (by rw [yl,List.length_take];omega)) ⟨_,rfl,?_⟩
      rw [d9 gi];exact T'
  · rintro σ H6 ⟨o,rfl,T6⟩
    rw [t9 ⋯] at T6;obtain ⟨s6,ts6,e6,_,_,R6⟩:=T6;refine ⟨M6 L,M6 L2',rfl,.lst (SqL.of (s6 _ _ ed)) (RL.same s6).isDs,.lst (SqL.of e6) R6.isDs,ak5 _ _,as4 _,?_⟩;rw [al4,eL,decide_eq_true rfl];exact k H6 (s5.trans s6)
def sgQ (q:Rat):Int:=if 0<q then 1 else if q<0 then -1 else 0
theorem aS4 (q:Rat):(if q.num > 0 then (1:Int) else 0)-(if q.num<0 then 1 else 0)=sgQ q:=by
 unfold sgQ
 have h1:(0<q) ↔ q.num > 0:=by
  rw [m0p]
  show (0:Int)*(q.den:Int)<q.num*((1:Nat):Int) ↔ _;rw [g0u];simp
 have h2:(q<0) ↔ q.num<0:=by
  rw [m0p]
  show q.num*((1:Nat):Int)<(0:Int)*(q.den:Int) ↔ _;rw [g0u];simp
 by_cases a:q.num > 0
 ·rw [if_pos a,if_neg ⋯,if_pos (h1.mpr a)];rfl
 ·rw [if_neg a,if_neg (λz=>a (h1.mp z))]
  by_cases b:q.num<0
  ·rw [if_pos b,if_pos (h2.mpr b)];rfl
  ·rw [if_neg b,if_neg (λz=>b (h2.mp z))];rfl
def bb1 (K:q0a):Sp:=λvs H Q _ => ∃ x q,vs=[x]/\Num K H x q/\Q (.int (sgQ q)) H
abbrev U3:Stmt:=top 51
theorem az4:j1 ["_law_number_here"] ["_law_number_here"] (b9 U3):=by and_intros
theorem aA4 {f:Addr} (d:Df K mg "_law_sign" U3 ["_law_number_here"] f) (n_int:mg "int" = none):Def P w K mg base CX0 1 "_law_sign" f ["_law_number_here"] (bb1 K):=by
 refine d.ok (N:=["_law_number_here"]) az4 (by rintro vs H Q E ⟨_,_,h,_⟩;rw [h];rfl) (λcdv A outer s H vs Q E hr h=>?_)
 obtain ⟨x,q,rfl,⟨a,rfl,ha⟩,k⟩:=h;refine ⟨_,(c4 (i9 (i7 ac3 (E5 N5 rfl n_int (by decide +kernel) (a7 (K3 ai5 (d8 j8 (pv 0) b7 (λ_ _=>rfl)) b7 (j9 _)) a8)) (E5 N5 rfl n_int (by decide +kernel) (a7 (K3 aq6 (d8 j8 (pv 0) b7 (λ_ _=>rfl)) b7 (j9 _)) a8))))),?_⟩
 rw [show start ["_law_number_here"] [.ref a]=[some (.ref a)] from rfl]
 subst_eqs
 refine ⟨_,ha,_,at0 q,_,rfl,_,ha,_,at0 q,_,rfl,?_⟩;rw [<- aS4] at k;exact k
theorem aH8 {B W:Nat} (hB:0<B) {f:Nat->Rat}:∀ n,(∀ m,m<n->OvB B W (f m))->OvB B (W+n) (j4 f n)
 | 0,_=>OvB.zero _ _
 | n+1,h=>(OvB.add hB (aH8 hB n λm hm=>h m ⋯) ((h n ⋯).mono ⋯)).mono ⋯
def fmL (n:Nat) (d:Vc) (T:Mt):List (List Rat):=(z0e n).map λi=>(z0e n).map λj=>fmd n d T i j
theorem aV5 (n:Nat) (d:Vc) (T:Mt):E7 n (fmL n d T) (fmd n d T):=by
 refine ⟨by unfold fmL;rw [q0b,z0j],λL hL=>?_,λi j hi hj=>?_⟩
 ·obtain ⟨i,_,rfl⟩:=z0w.mp hL
  rw [q0b,z0j]
 ·unfold qq fmL
  rw [q0f,z0m hi]
  show aQ ((z0e n).map λj=>fmd n d T i j) j=_;unfold aQ;rw [q0f,z0m hj];rfl
theorem aV6 {n C B W s:Nat} {d:Vc} {T:Mt} (hC:0<C) (hB:0<B) (hd:∀ k,k<n->OvB C s (d k)) (hT:∀ i j,OvB B W (T i j)) (i j:Nat):OvB (C*(B*B)) (s+(W+W)+n) (fmd n d T i j):=aH8 (v0n hC (v0n hB hB)) n λm hm=>(hd m hm).mul ((hT m i).mul (hT m j))
theorem bi0 (q:Rat):sgQ q=sgz q.num:=by
 rw [<- aS4];unfold sgz
 split <;> split <;> (try omega) <;> rfl
def bi4 (d:Vc) (n:Nat):List V:=[.int (aH4 d n:Nat),.int (aI4 d n:Nat),.int (n-aH4 d n-aI4 d n:Nat)]
def aL4:Sp:=λvs H Q _ => ∃ (u:Addr) (kd:Int) (n:Nat),vs=[.ref u,.int kd,.int n]/\p8 H u/\(kd=0 \/ kd=1)/\1<=n/\n<=7/\∀ r l pd us F d T B H',M9 u H l us F H'->H' r=some (.tup [.ref l,.ref pd])->H' pd=some (.tup (bi4 d n))->aH4 d n+aI4 d n<=n->F.length=n->F4 B 327 F->E7 n F (fmd n d T)->Inv n T->(kd=1->F4 1 125 F)->Q (.ref r) H'
abbrev y4:Stmt:=top 65
theorem k7:j1 ["_law_urn_here","_law_kind","_law_n","_law_numbers","_law_rows","_law_found","_law_i","_law_counted","_law_line","_law_j","_law_total","_law_k"] ["_law_urn_here","_law_kind","_law_n"] (b9 y4):=by and_intros
theorem ag9 {f f1 f2 f3 f4 f5 f6:Addr} (d:Df K mg "_law_drawn_form" y4 ["_law_urn_here","_law_kind","_law_n"] f) (G__law_draw:Def P w K mg base CX0 1 "_law_draw" f1 ["_law_urn_here","_law_many"] y9) (GD__law_other:Def P w K mg base CX0 3 "_law_other" f2 ["_law_urn_here","_law_kind"] ab3) (G__law_plus:Def P w K mg base CX0 2 "_law_plus" f3 ["_law_one","_law_other_here"] (K5 K (· + ·))) (G__law_times:Def P w K mg base CX0 2 "_law_times" f4 ["_law_one","_law_other_here"] (K5 K (· * ·))) (G__law_turn:Def P w K mg base CX0 4 "_law_turn" f5 ["_law_urn_here","_law_kind","_law_n","_law_most"] aL0) (G__law_sign:Def P w K mg base CX0 1 "_law_sign" f6 ["_law_number_here"] (bb1 K)) (n_range:mg "range" = none) (n_int:mg "int" = none):Def P w K mg base CX0 5 "_law_drawn_form" f ["_law_urn_here","_law_kind","_law_n"] aL4:=by
  refine d.ok (N:=["_law_urn_here","_law_kind","_law_n","_law_numbers","_law_rows","_law_found","_law_i","_law_counted","_law_line","_law_j","_law_total","_law_k"]) k7 (by rintro vs H Q E ⟨_,_,_,h,_⟩;rw [h];rfl) (λcdv A outer s H vs Q E hr h=>?_)
  obtain ⟨u,kd,n,rfl,hU,hkd,n1,n7,k⟩:=h;have G__law_other:=GD__law_other;obtain ⟨C,sb,C0,Ct,C10,Cs,s10,t11,up,kc⟩:=aV0 hkd
  refine ⟨_, (b8 (Q9 (i₀ := 3) k7.nd rfl (Or.inl rfl) (Nc := ["_law_urn_here", "_law_kind", "_law_i"]) (caps := [some 0, some 1, none]) rfl (J3.of (osc := b9 y4) (N := ["_law_urn_here", "_law_kind", "_law_n", "_law_numbers", "_law_rows", "_law_found", "_law_i", "_law_counted", "_law_line", "_law_j", "_law_total", "_law_k"]) (ks := ["_law_urn_here", "_law_kind"]) rfl rfl rfl rfl (j5 rfl (j5 rfl l9)) (by decide +kernel)) (o0 rfl n_range (a7 (pv 2) a8)) (fun C s₂ H₂ fp pins => (c6 (i := 2) (show List.Nodup (["_law_urn_here", "_law_kind", "_law_i"] : List Str) by decide +kernel) rfl (Or.inl rfl) (Or.inr rfl))) (fun C s₂ H₂ fp pins => (d8 (by exact i6 : IxR _ (Z3 K)) (F8 (a7 (m5 (a7 b7 (a7 b7 a8))) (a7 (d6 G__law_other hr (a7 (pv 0) (a7 (pv 1) a8)) j0) a8))) (E5 N5 rfl n_int (by decide +kernel) (a7 (K3 ai5 (d6 G__law_draw hr (a7 (pv 0) (a7 b7 a8)) j0) b7 (j9 _)) a8)) (fun _ _ => rfl))))
      (b8 (i8 (i:=4) k7.nd rfl (Or.inl rfl) (d6 G__law_turn hr (a7 (pv 0) (a7 (pv 1) (a7 (pv 2) (a7 (i7 q8 b7 (pv 2)) a8)))) j0))
      (b8 (i8 (i:=5) k7.nd rfl (Or.inl rfl) (F8 a8))
      (b8 (C6 PassesOwn.never rfl (o0 rfl n_range (a7 (pv 2) a8)) (c6 (i:=6) k7.nd rfl (Or.inl rfl)) (b8 (i8 (i:=8) k7.nd rfl (Or.inl rfl) (F8 a8))
      (b8 (C6 PassesOwn.never rfl (o0 rfl n_range (a7 (pv 2) a8)) (c6 (i:=9) k7.nd rfl (Or.inl rfl)) (b8 (i8 (i:=10) k7.nd rfl (Or.inl rfl) (m5 (a7 b7 (a7 b7 a8))))
      (b8 (C6 PassesOwn.never rfl (o0 rfl n_range (a7 (pv 2) a8)) (c6 (i:=11) k7.nd rfl (Or.inl rfl)) (c4 (i8 (i:=10) k7.nd rfl (Or.inl rfl) (d6 G__law_plus hr (a7 (pv 10) (a7 (d6 G__law_times hr (a7 (d8 i6 (pv 3) (pv 11) (λ_ _=>rfl)) (a7 (d6 G__law_times hr (a7 (d8 i6 (d8 i6 (pv 4) (pv 11) (λ_ _=>rfl)) (pv 6) (λ_ _=>rfl)) (a7 (d8 i6 (d8 i6 (pv 4) (pv 11) (λ_ _=>rfl)) (pv 9) (λ_ _=>rfl)) a8)) j0) a8)) j0) a8)) j0))))
      (c4 (Z4 (R4 PySem.F.plainAttrs_list PySem.F.slot_list_append PySem.F.type_list_append B9 (pv 8) (a7 (pv 10) a8)))))))
      (c4 (Z4 (R4 PySem.F.plainAttrs_list PySem.F.slot_list_append PySem.F.type_list_append B9 (pv 5) (a7 (pv 8) a8)))))))
      (b8 (Q9 (i₀:=7) k7.nd rfl (Or.inl rfl) (Nc:=["_law_one"]) (caps:=[none]) rfl (J3.of (osc:=b9 y4) (N:=["_law_urn_here","_law_kind","_law_n","_law_numbers","_law_rows","_law_found","_law_i","_law_counted","_law_line","_law_j","_law_total","_law_k"]) (ks:=[]) rfl rfl rfl rfl l9 (by decide +kernel)) (x9 (pv 3)) (λC s₂ H₂ fp pins=>(c6 (i:=0) (show List.Nodup (["_law_one"]:List Str) by decide +kernel) rfl (Or.inl rfl) (Or.inr rfl))) (λC s₂ H₂ fp pins=>(d6 G__law_sign hr (a7 (pv 0) a8) j0)))
      (c4 (i9 (m5 (a7 (pv 5) (a7 (m5 (a7 (R4 PySem.F.plainAttrs_list PySem.F.slot_list_count PySem.F.type_list_count R9 (pv 7) (a7 b7 a8)) (a7 (R4 PySem.F.plainAttrs_list PySem.F.slot_list_count PySem.F.type_list_count R9 (pv 7) (a7 (aE1 aq1 b7) a8)) (a7 (R4 PySem.F.plainAttrs_list PySem.F.slot_list_count PySem.F.type_list_count R9 (pv 7) (a7 b7 a8)) a8)))) a8)))))))))),?_⟩
  rw [show start ["_law_urn_here","_law_kind","_law_n","_law_numbers","_law_rows","_law_found","_law_i","_law_counted","_law_line","_law_j","_law_total","_law_k"] [.ref u,.int kd,.int n]=[some (.ref u),some (.int kd),some (.int n),none,none,none,none,none,none,none,none,none] from rfl]
  refine c9 (λσ H1 => ∃ c xs qs,σ=[some (.ref u),some (.int kd),some (.int (n:Int)),some (.ref c),none,none,none,none,none,none,none,none]/\p9 u H H1/\p8 H1 u/\LsX u H1 c xs qs/\qs.length=n/\∀ q ∈ qs,OvB C sb q/\BdN 10 q) (λN hN=>?_) ?_
  · simp! [y9]
    refine ⟨⋯,⋯,λD fD=>?_⟩;have Du:D ≠ u:=C4 hU fD;obtain ⟨Pv,hPv⟩:∃ Pv:Nat->L2.St->Hp->Prop,∀ j σ H6,Pv j σ H6 ↔ ∃ (o:Option V) (xs:List V) (qs:List Rat),σ=[some (.ref u),some (.int kd),o]/\p9 u H H6/\p8 H6 u/\H6 D=some (.lst xs)/\C3 H6 xs qs/\qs.length=j/\∀ q ∈ qs,OvB C sb q/\BdN 10 q:=⟨_,λ_ _ _=>Iff.rfl⟩;refine G0 Pv ((hPv _ _ _).mpr ⟨_,[],[],rfl,c5.x (c5.new fD _) u,T7 hU fD,a9,.nil,rfl,by simp⟩) ?_ ?_
    · rintro j σ H6 hj h
      obtain ⟨o,xs,qs,rfl,s6,u6,e6,n6,l6,b6⟩:=(hPv _ _ _).mp h
      simp! [y9]
      refine ⟨by decide,λp fp=>?_⟩
      obtain ⟨H7,y7,X7,g7⟩:=R5 (.tup [V.int 0,V.int 1]) fp;rw [<- y7];refine ⟨u,kd,rfl,c5.urn X7 u6,λr q H8 nk q0 s8 u8 e8=>⟨by decide,λp1 fp1=>⟨T7 u8 fp1,by decide,by decide,λrr H9 r0 r4 s9 u9=>?_⟩⟩⟩
      have pu:p ≠ u:=C4 u6 fp;have S8:=s8.trans (c5.x (c5.new fp1 (.lst [V.ref p,V.ref r])) u);have S9:=(c5.x X7 u).trans (S8.trans s9);have e9:=S9 _ _ e6 Du;have g9:=(S8.trans s9).tups (c5.urn X7 u6) _ _ g7;have h9:=s9.tups (T7 u8 fp1) _ _ ((c5.new fp1 (.lst [V.ref p,V.ref r])).tups _ _ e8);have L9:=s9 p1 _ a9 (C4 u8 fp1)
      have fin:∀ (pz:Addr) (z:Rat),H9 pz=some (.tup (A1 z))->OvB C sb z/\BdN 10 z->r6 D (n:Int).toNat Pv j [some (.ref u),some (.int kd),some (.int (0+(j:Int)))] (.ref pz) H9:=λpz z ez bz=>by
        refine r6.mk hj e9 (t5 (by rw [n6.length,l6];omega)) ((hPv _ _ _).mpr ⟨_,_,qs ++ [z],rfl,(s6.trans S9).over fD _,u9.other Du,a9,((n6.mono (S9.tups u6)).append (.cons ez .nil)).mono (W5.lst e9),by simp [l6],λx hx=>?_⟩)
        rcases List.mem_append.mp hx with y | y
        · exact b6 x y
        · rw [List.mem_singleton.mp y];exact bz
      refine ⟨_,SqL.of L9,?_⟩
      by_cases z:0<rr
      · rw [if_pos z]
        exact ⟨_,rfl,fin r q h9 (up q nk)⟩
      · rw [if_neg z]
        exact ⟨_,rfl,fin p 0 g9 ⟨OvB.zero _ _,⟨by decide,by decide⟩⟩⟩
    · intro σ H6 h
      obtain ⟨o,xs,qs,rfl,s6,u6,e6,n6,l6,b6⟩:=(hPv _ _ _).mp h;exact hN _ _ ⟨D,xs,qs,rfl,s6,u6,⟨Du,e6,n6⟩,⋯,b6⟩
  rintro σ H1 ⟨c,xs,qs,rfl,s1,u1,L1,lq,bq⟩;refine c9 (λσ H2 => ∃ l us T B,σ=[some (.ref u),some (.int kd),some (.int (n:Int)),some (.ref c),some (.ref l),none,none,none,none,none,none,none]/\M9 u H1 l us T H2/\T.length=n/\F4 B 155 T/\Inv n (qq T)/\(kd=1->F4 1 57 T)) (λN hN=>?_) ?_
  · subst_eqs
    refine ⟨bd2 ⋯,u,kd,n,2*n,rfl,u1,hkd,n1,n7,⋯,λl us N B H2 d2 lN oN iN iB=>hN _ _ ⟨l,us,N,B,rfl,d2,lN,oN.mono ?_,iN,λh=>?_⟩⟩
    rotate_left
    · have e:=iB h
      subst h;rw [e] at oN;exact oN.mono (show 1+4*(2*n)<=57 by omega)
    have:=Nat.mul_le_mul t11 (show 2*n<=14 by omega)
    omega
  rintro σ H2 ⟨l,us,T,B,rfl,d2,lT,oT,iT,o1⟩;have L2':=L1.samex d2.same u1;have S2:=s1.trans d2.same;have u2:=d2.urn;have cD:∀ k,k<n->OvB C sb (aQ qs k):=λk hk=>(bq _ (O8 ⋯)).1
  have CB:C*(B*B)<2 ^ 327:=by
    have h1:=Nat.mul_lt_mul'' C10 (Nat.mul_lt_mul'' oT.BW oT.BW);rw [<- Nat.pow_add,<- Nat.pow_add] at h1;exact Nat.lt_of_lt_of_le h1 (i5 (by decide))
  refine c9 (λσ H3 => ∃ D,σ=[some (.ref u),some (.int kd),some (.int (n:Int)),some (.ref c),some (.ref l),some (.ref D),none,none,none,none,none,none]/\H2 D=none/\H3=upd H2 D (.lst [])) (λN hN=>?_) ?_
  · subst_eqs
    exact ⟨by decide,λD hD=>hN _ _ ⟨D,rfl,hD,rfl⟩⟩
  rintro σ H3 ⟨D,rfl,hD,rfl⟩;refine c9 (λσ H4 => ∃ o6 o8 o9 o10 o11,σ=[some (.ref u),some (.int kd),some (.int (n:Int)),some (.ref c),some (.ref l),some (.ref D),o6,none,o8,o9,o10,o11]/\G1 H2 D (fmL n (aQ qs) (qq T)) H4) (λN hN=>?_) ?_
  · obtain ⟨I,hI⟩:∃ I:Nat->L2.St->Hp->Prop,∀ i σ H4,I i σ H4 ↔ ∃ o6 o8 o9 o10 o11,σ=[some (.ref u),some (.int kd),some (.int (n:Int)),some (.ref c),some (.ref l),some (.ref D),o6,none,o8,o9,o10,o11]/\G1 H2 D ((fmL n (aQ qs) (qq T)).take i) H4:=⟨_,λ_ _ _=>Iff.rfl⟩
    have lF:=(aV5 n (aQ qs) (qq T)).len;refine ⟨_,rfl,_,rfl,⋯,⋯,C1 I ((hI _ _ _).mpr ⟨_,_,_,_,_,rfl,G1.start hD⟩) ?_ ?_⟩
    · rintro i σ H5 hi h
      obtain ⟨o6,o8,o9,o10,o11,rfl,TF⟩:=(hI _ _ _).mp h;have hi:i<n:=⋯;refine c9 (λσ H6 => ∃ D2,σ=[some (.ref u),some (.int kd),some (.int (n:Int)),some (.ref c),some (.ref l),some (.ref D),some (.int (0+(i:Int))),none,some (.ref D2),o9,o10,o11]/\H5 D2=none/\H6=upd H5 D2 (.lst [])) (λN hN=>?_) ?_
      · subst_eqs
        exact ⟨by decide,λD hD=>hN _ _ ⟨D,rfl,hD,rfl⟩⟩
      rintro σ H6 ⟨D2,rfl,hD2,rfl⟩;obtain ⟨NR,hNR⟩:∃ NR,NR=(List.range n).map λj=>fmd n (aQ qs) (qq T) i j:=⟨_,rfl⟩;have nl:NR.length=n:=by rw [hNR,List.length_map,List.length_range]
      have nv:∀ y,y<n->NR[y]? = some (fmd n (aQ qs) (qq T) i y):=λy hy=>by rw [hNR,List.getElem?_map,List.getElem?_range hy];rfl
      have gF:(fmL n (aQ qs) (qq T))[i]? = some NR:=by unfold fmL;rw [List.getElem?_map,List.getElem?_range hi,hNR];rfl
      refine c9 (λσ H7 => ∃ o9 o10 o11,σ=[some (.ref u),some (.int kd),some (.int (n:Int)),some (.ref c),some (.ref l),some (.ref D),some (.int (0+(i:Int))),none,some (.ref D2),o9,o10,o11]/\G2 H5 D2 NR H7) (λN hN=>?_) ?_
      · obtain ⟨J,hJ⟩:∃ J:Nat->L2.St->Hp->Prop,∀ j σ H7,J j σ H7 ↔ ∃ o9 o10 o11,σ=[some (.ref u),some (.int kd),some (.int (n:Int)),some (.ref c),some (.ref l),some (.ref D),some (.int (0+(i:Int))),none,some (.ref D2),o9,o10,o11]/\G2 H5 D2 (NR.take j) H7:=⟨_,λ_ _ _=>Iff.rfl⟩
        refine ⟨_,rfl,_,rfl,⋯,⋯,C1 J ((hJ _ _ _).mpr ⟨_,_,_,rfl,G2.start hD2⟩) ?_ ?_⟩
        · rintro j σ H7 hj h
          obtain ⟨o9,o10,o11,rfl,TR⟩:=(hJ _ _ _).mp h;have hj:j<n:=⋯;refine c9 (λσ H8 => ∃ pt,σ=[some (.ref u),some (.int kd),some (.int (n:Int)),some (.ref c),some (.ref l),some (.ref D),some (.int (0+(i:Int))),none,some (.ref D2),some (.int (0+(j:Int))),some (.ref pt),o11]/\c5 H7 H8/\H8 pt=some (.tup (A1 0))) (λN hN=>?_) ?_
          · subst_eqs
            exact ⟨by decide,λp hp=>hN _ _ ⟨p,rfl,c5.new hp _,a9⟩⟩
          rintro σ H8 ⟨pt,rfl,s8,e8⟩;refine c9 (λσ H9 => ∃ pt o11,σ=[some (.ref u),some (.int kd),some (.int (n:Int)),some (.ref c),some (.ref l),some (.ref D),some (.int (0+(i:Int))),none,some (.ref D2),some (.int (0+(j:Int))),some (.ref pt),o11]/\c5 H7 H9/\H9 pt=some (.tup (A1 (fmd n (aQ qs) (qq T) i j)))) (λN hN=>?_) ?_
          · obtain ⟨Z,hZ⟩:∃ Z:Nat->L2.St->Hp->Prop,∀ k σ H9,Z k σ H9 ↔ ∃ pt o11,σ=[some (.ref u),some (.int kd),some (.int (n:Int)),some (.ref c),some (.ref l),some (.ref D),some (.int (0+(i:Int))),none,some (.ref D2),some (.int (0+(j:Int))),some (.ref pt),o11]/\c5 H7 H9/\H9 pt=some (.tup (A1 (j4 (λk=>aQ qs k*(qq T k i*qq T k j)) k))):=⟨_,λ_ _ _=>Iff.rfl⟩
            refine ⟨_,rfl,_,rfl,⋯,⋯,C1 Z ((hZ _ _ _).mpr ⟨_,_,rfl,s8,e8⟩) ?_ ?_⟩
            · rintro m σ H9 hm h
              obtain ⟨pt,o11,rfl,s9,e9⟩:=(hZ _ _ _).mp h;have hm:m<n:=⋯
              subst_eqs
              have S:=(TF.same.trans TR.same).trans s9;obtain ⟨pM,xM,LM,_,gM,mM,eM,nM⟩:=d2.row (i:=m) ⋯;have rowM:=oT.bd _ (List.mem_of_getElem? mM);have lM:LM.length=n:=by rw [rowM.1,lT]
              obtain ⟨pd,gd,hd⟩:=L2'.nums.get (ao2 (L:=qs) (k:=m) ⋯);obtain ⟨pi,gi,hpi⟩:=nM.get (ao2 (L:=LM) (k:=i) ⋯);obtain ⟨pj,gj,hpj⟩:=nM.get (ao2 (L:=LM) (k:=j) ⋯);have qM:∀ y,qq T m y=aQ LM y:=λy=>by unfold qq;rw [mM];rfl
              have bd:=(bq _ (O8 (L:=qs) (k:=m) ⋯)).2;have bi:=rowM.2 _ (O8 (L:=LM) (k:=i) ⋯);have bj:=rowM.2 _ (O8 (L:=LM) (k:=j) ⋯);have bm:=(bi.mul bj);refine ⟨_,SqL.of (S _ _ L2'.at'),_,by rw [Int.zero_add];exact j3 gd,_,SqL.of (S _ _ d2.at'),_,by rw [Int.zero_add];exact j3 gM,pM,rfl,_,SqL.of (S _ _ eM),_,by rw [Int.zero_add];exact j3 gi,_,SqL.of (S _ _ d2.at'),_,by rw [Int.zero_add];exact j3 gM,pM,rfl,_,SqL.of (S _ _ eM),_,by rw [Int.zero_add];exact j3 gj,?_⟩
              refine ⟨_,_,_,_,_,_,rfl,⟨_,rfl,SqT.of (S _ _ hpi)⟩,⟨_,rfl,SqT.of (S _ _ hpj)⟩,bi.t (by decide),bj.t (by decide),by decide,λr1 H10 s10 e10=>?_⟩
              refine ⟨_,_,_,_,_,_,rfl,⟨_,rfl,SqT.of (s10 _ _ (S _ _ hd))⟩,⟨_,rfl,SqT.of e10⟩,bd.t (by decide),bm.t (by decide),by decide,λr2 H11 s11 e11=>?_⟩
              have oS:=aH8 (Nat.mul_pos C0 (Nat.mul_pos oT.B0 oT.B0)) (f:=λk=>aQ qs k*(qq T k i*qq T k j)) m λk hk=>(cD k ⋯).mul ((oT.at k i).mul (oT.at k j));have bS:BdN 327 (j4 (λk=>aQ qs k*(qq T k i*qq T k j)) m):=OvB.bdN (Nat.mul_pos C0 (Nat.mul_pos oT.B0 oT.B0)) CB (oS.mono ⋯);refine ⟨_,_,_,_,_,_,rfl,⟨_,rfl,SqT.of (s11 _ _ (s10 _ _ e9))⟩,⟨_,rfl,SqT.of e11⟩,bS.t (by decide),(bd.mul bm).t (by decide),by decide,λr3 H12 s12 e12=>(hZ _ _ _).mpr ⟨r3,_,rfl,s9.trans (s10.trans (s11.trans s12)),?_⟩⟩
              rw [e12,qM i |>.symm,qM j |>.symm];rfl
            · intro σ H9 h
              obtain ⟨pt,o11,rfl,s9,e9⟩:=(hZ _ _ _).mp h;exact hN _ _ ⟨pt,o11,rfl,s9,e9⟩
          rintro σ H9 ⟨pt,o11,rfl,s9,e9⟩
          subst_eqs
          obtain ⟨ys,eD,yl,R'⟩:=TR.add hD2 s9 e9;refine ⟨.inl ⟨_,SqL.of eD⟩,ys,eD,t5 (by rw [yl,List.length_take];omega),(hJ _ _ _).mpr ⟨_,_,_,rfl,?_⟩⟩
          rw [d9 (nv j hj)];exact R'
        · intro σ H7 h
          obtain ⟨o9,o10,o11,rfl,TR⟩:=(hJ _ _ _).mp h;rw [t9 ⋯] at TR;exact hN _ _ ⟨_,_,_,rfl,TR⟩
      rintro σ H7 ⟨o9,o10,o11,rfl,TR⟩
      subst_eqs
      obtain ⟨ys,eD,yl,T'⟩:=TF.add hD hD2 TR;refine ⟨.inl ⟨_,SqL.of eD⟩,ys,eD,t5 (by rw [yl,List.length_take];omega),(hI _ _ _).mpr ⟨_,_,_,_,_,rfl,?_⟩⟩
      rw [d9 gF];exact T'
    · intro σ H5 h
      obtain ⟨o6,o8,o9,o10,o11,rfl,TF⟩:=(hI _ _ _).mp h;rw [t9 ⋯] at TF;exact hN _ _ ⟨_,_,_,_,_,rfl,TF⟩
  rintro σ H4 ⟨o6,o8,o9,o10,o11,rfl,TF⟩;have L4:=L2'.same TF.same;refine c9 (λσ H5 => ∃ g,σ=[some (.ref u),some (.int kd),some (.int (n:Int)),some (.ref c),some (.ref l),some (.ref D),o6,some (.ref g),o8,o9,o10,o11]/\c5 H4 H5/\H5 g=some (.lst (qs.map λq=>V.int (sgz q.num)))) (λN hN=>?_) ?_
  · subst_eqs
    refine ⟨⟨_,SqL.of L4.at'⟩,λD2 hD2=>?_⟩;have lz:=L4.nums.length;refine B7 xs (λi σ H5 => ∃ o,σ=[o]/\c5 H4 H5/\H5 D2=some (.lst ((qs.take i).map λq=>V.int (sgz q.num)))) ⟨_,rfl,c5.new hD2 _,a9⟩ (λi σ H5 _ ⟨_,_,s5,_⟩=>SqL.of (s5 _ _ L4.at')) ?_ ?_
    · rintro i x σ H5 hx ⟨o,rfl,s5,e5⟩
      obtain ⟨p,q,rfl,hq,hp⟩:=(L4.nums.mono s5.tups).getV hx;have hi:=(List.getElem?_eq_some_iff.mp hx).1
      subst_eqs
      refine ⟨.ref p,q,rfl,⟨p,rfl,SqT.of hp⟩,?_⟩;refine r6.mk hi e5 (t5 (by rw [List.length_map,List.length_take];omega)) ⟨_,rfl,s5.over hD2 _,?_⟩
      rw [a9,d9 hq,List.map_append,bi0];rfl
    · rintro σ H5 ⟨o,rfl,s5,e5⟩
      rw [lz,List.take_length] at e5;exact hN _ _ ⟨D2,rfl,s5,e5⟩
  rintro σ H5 ⟨g,rfl,s5,e5⟩
  subst_eqs
  obtain ⟨c1,c2,c3⟩:=aO6 qs
  have fl:(qs.map λq=>V.int (sgz q.num)).all T2=true:=by
    rw [List.all_map,List.all_eq_true];intro q _;rfl
  refine ⟨.inl ⟨_,SqL.of e5⟩,_,e5,rfl,fl,.inl ⟨_,SqL.of e5⟩,_,e5,rfl,fl,.inl ⟨_,SqL.of e5⟩,_,e5,rfl,fl,?_⟩;have lt:=aV5 n (aQ qs) (qq T)
  have oF:F4 (C*(B*B)) 327 (fmL n (aQ qs) (qq T)):=by
    refine ⟨by rw [lt.len];exact n7,Nat.mul_pos C0 (Nat.mul_pos oT.B0 oT.B0),?_,λL hL=>?_⟩
    · exact CB
    · obtain ⟨i,_,rfl⟩:=List.mem_map.mp hL
      refine ⟨by rw [List.length_map,List.length_range,lt.len],λq hq=>?_⟩
      obtain ⟨j,_,rfl⟩:=List.mem_map.mp hq;exact (aV6 C0 oT.B0 cD oT.at i j).mono ⋯
  refine ⟨by decide,λp fp=>⟨by decide,λp1 fp1=>?_⟩⟩
  have X1:=c5.new fp (.tup [V.int ↑(List.countP (λz=>eqV z (V.int 1)) (List.map (λq=>V.int (sgz q.num)) qs)),V.int ↑(List.countP (λz=>eqV z (V.int (-1))) (List.map (λq=>V.int (sgz q.num)) qs)),V.int ↑(List.countP (λz=>eqV z (V.int 0)) (List.map (λq=>V.int (sgz q.num)) qs))]);have X2:=c5.new fp1 (.tup [V.ref D,V.ref p]);obtain ⟨sF,ts,eT,fr,nd,RT⟩:=TF
  have fH:∀ p,H2 p=none->H p=none:=λp hp=>by
    cases e:H p with
    | none=>rfl
    | some o =>
      have:=S2 p o e (C4 u2 hp);rw [hp] at this;cases this
  have dF:M9 u H D ts (fmL n (aQ qs) (qq T)) H4:=⟨S2.trans (c5.x sF u),c5.urn sF u2,fH D hD,C4 u2 hD,eT,λz=>(fr D z).2 rfl,λt ht=>C4 u2 (fr t ht).1,λt ht=>fH t (fr t ht).1,RT⟩
  have ez:(qs.map λq=>V.int (sgz q.num)).countP (λz=>eqV z (.int 0))=n-aH4 (λi=>(qs[i]?).getD 0) n-aI4 (λi=>(qs[i]?).getD 0) n:=by
    rw [lq] at c3;omega
  rw [lq] at c1 c2 c3;refine k p1 D p ts _ (aQ qs) (qq T) (C*(B*B)) _ (((dF.s s5).s X1).s X2) a9 ?_ (by have:(aQ qs)=λi=>(qs[i]?).getD 0:=rfl;rw [this];omega) lt.len oF lt iT λh=>?_
  · rw [c8 (c7 a9 fp1),a9,c1,c2,ez]
    rfl
  · have o1:=o1 h
    refine ⟨by rw [lt.len];exact n7,by decide,Nat.lt_of_lt_of_le (show 1<2 ^ 1 by decide) (Nat.pow_le_pow_right (by decide) (by decide)),λL hL=>?_⟩
    obtain ⟨i,_,rfl⟩:=List.mem_map.mp hL;refine ⟨by rw [List.length_map,List.length_range,lt.len],λq hq=>?_⟩
    obtain ⟨j,_,rfl⟩:=List.mem_map.mp hq;have h1:=aV6 (n:=n) (C:=1) (B:=1) (W:=57) (s:=4) (d:=aQ qs) (T:=qq T) (by decide) (by decide) (λk hk=>by have:=cD k hk;rw [(kc h).1,(kc h).2] at this;exact this) o1.at i j
    exact h1.mono ⋯
def ao1:D:=.tup [.v (.str "refused"),.v (.str "form")]
theorem aF5 {K:q0a} {H:Hp} {r:Addr} (h:H r=some (.tup [.str "refused",.str "form"])):IsD K H (.ref r) ao1:=.tup (SqT.of h) (.cons (.v rfl) (.cons (.v rfl) .nil))
theorem aM9 {K:q0a} {H:Hp} {r p:Addr} {Q:VK} (hr:H r=some (.tup [.str "refused",.str "form"])) (hp:H p=some (.tup [.str "refused",.str "form"])) (q:Q (.bl true) H):bf8 K (.ref r) (.ref p) H Q :=
 ⟨ao1,ao1,rfl,aF5 hr,aF5 hp,by simp [ao1,okD,X8],by simp [ao1,dpD,ad3],by rw [show eqD ao1 ao1=true by simp [ao1,eqD,F9,eqV]];exact q⟩
theorem aZ7 {n i j:Nat} {F:List (List Rat)} {L:List Rat} {x:Rat} (tf:E7 n F (qq F)) (sy:Sy n (qq F)) (hi:i<n) (hj:j<n) (ij:i ≠ j) (g:F[i]? = some L) (hx:x ≠ aQ L j):E7 n (F.set i (L.set j x)) (qq (F.set i (L.set j x)))/\w4 (F.set i (L.set j x)) n ≠ F.set i (L.set j x):=by
 have lF:=tf.len;have lL:=tf.row L (q0j g)
 have t2:E7 n (F.set i (L.set j x)) (qq (F.set i (L.set j x))):=.of (by rw [z0k,lF]) λM hM=>by
  rcases z0y hM with y | y
  ·exact tf.row M y
  ·rw [y,z0k];exact lL
 refine ⟨t2,λz=>hx ?_⟩;have e:=(aB4 t2).at' i j hi hj;rw [z,K7 ⋯,if_pos rfl,aJ7 ⋯,if_pos rfl,K7 ⋯,if_neg (Ne.symm ij)] at e;rw [e,sy j hj i hi];unfold qq;rw [g];rfl
def aK6 (K:q0a):Sp:=λvs H Q _ => ∃ u,vs=[.ref u]/\p8 H u/\∀ H',p9 u H H'->p8 H' u->Q (.bl true) H'
abbrev M0:Stmt:=top 70
theorem t8:j1 ["_law_urn_here","_law_kind","_law_n","_law_form","_law_handed","_law_turn_here","_law_i","_law_j","_law_told"] ["_law_urn_here"] (b9 M0):=by and_intros
theorem au8 {f g1 g2 g3 g4 g5 g6 g7 g8 : Addr} (d : Df K mg "_law_right" M0 ["_law_urn_here"] f) (G__law_draw : Def P w K mg base CX0 1 "_law_draw" g1 ["_law_urn_here", "_law_many"] y9) (G__law_any_form : Def P w K mg base CX0 4 "_law_any_form" g2 ["_law_urn_here", "_law_kind", "_law_n"] aS1) (G__law_drawn_form : Def P w K mg base CX0 5 "_law_drawn_form" g3 ["_law_urn_here", "_law_kind", "_law_n"] aL4) (G__law_squares_said : Def P w K mg base CX0 6 "_law_squares_said" g4 ["_law_table"] (av9 K)) (G__law_are_squares : Def P w K mg base CX0 5 "_law_are_squares" g5 ["_law_form", "_law_told"] (aL6 K)) (G__law_plus : Def P w K mg base CX0 2 "_law_plus" g6 ["_law_one", "_law_other_here"] (K5 K (· + ·))) (GD__law_other : Def P w K mg base CX0 3 "_law_other" g7 ["_law_urn_here", "_law_kind"] ab3) (G__law_signs_said : Def P w K mg base CX0 7 "_law_signs_said" g8 ["_law_table"] aw0)
    (n_range:mg "range" = none) (n_list:mg "list" = none):Def P w K mg base CX0 8 "_law_right" f ["_law_urn_here"] (aK6 K):=by
  refine d.ok (N:=["_law_urn_here","_law_kind","_law_n","_law_form","_law_handed","_law_turn_here","_law_i","_law_j","_law_told"]) t8 (by rintro vs H Q E ⟨_,h,_⟩;rw [h];rfl) (λcdv A outer s H vs Q E hr h=>?_)
  obtain ⟨u,rfl,hU,k⟩:=h;have hu:=hr.units;have G__law_other:=GD__law_other
  refine ⟨_, (b8 (i8 (i := 1) t8.nd rfl (Or.inl rfl) (d6 G__law_draw hr (a7 (pv 0) (a7 b7 a8)) j0))
      (b8 (i8 (i:=2) t8.nd rfl (Or.inl rfl) (i7 B4 b7 (d6 G__law_draw hr (a7 (pv 0) (a7 b7 a8)) j0)))
      (b8 (i8 (i:=3) t8.nd rfl (Or.inl rfl) (d6 G__law_any_form hr (a7 (pv 0) (a7 (pv 1) (a7 (pv 2) a8))) j0))
      (b8 (z9 (l5 X4 (d6 G__law_draw hr (a7 (pv 0) (a7 b7 a8)) j0) b7 (j9 _)) (c4 (i8 (i:=3) t8.nd rfl (Or.inl rfl) (d8 j8 (d6 G__law_drawn_form hr (a7 (pv 0) (a7 b7 (a7 (pv 2) a8))) j0) b7 (λ_ _=>rfl)))) m8)
      (b8 (Q9 (i₀:=4) t8.nd rfl (Or.inl rfl) (Nc:=["_law_row"]) (caps:=[none]) rfl (J3.of (osc:=b9 M0) (N:=["_law_urn_here","_law_kind","_law_n","_law_form","_law_handed","_law_turn_here","_law_i","_law_j","_law_told"]) (ks:=[]) rfl rfl rfl rfl l9 (by decide +kernel)) (x9 (pv 3)) (λC s₂ H₂ fp pins=>(c6 (i:=0) (show List.Nodup (["_law_row"]:List Str) by decide +kernel) rfl (Or.inl rfl) (Or.inr rfl))) (λC s₂ H₂ fp pins=>(E5 (by exact aa1:Y4 _ (.type "list") (au0 K)) rfl n_list (by decide +kernel) (a7 (pv 0) a8))))
      (b8 (C6 PassesOwn.never rfl (o0 rfl n_range (a7 b7 a8)) (c6 (i:=5) t8.nd rfl (Or.inl rfl)) (b8 (i8 (i:=8) t8.nd rfl (Or.inl rfl) (d6 G__law_squares_said hr (a7 (pv 4) a8) j0))
      (b8 (z9 (PW.pt (aa5 (N3 (N2 (d6 G__law_are_squares hr (a7 (pv 3) (a7 (pv 8) a8)) j0))) (ag7 (l5 (aT6 hu) (pv 4) (pv 3) (j9 _))))) (c4 (i9 X3)) m8)
      (b8 (Z4 (aH6 PySem.F.plainAttrs_list PySem.F.slot_list_clear PySem.F.type_list_clear aU6 (d8 i6 (d8 j8 (pv 8) b7 (λ_ _=>rfl)) (d6 G__law_draw hr (a7 (pv 0) (a7 (pv 2) a8)) j0) (λ_ _=>rfl))))
      (c4 (Z4 (R4 PySem.F.plainAttrs_list PySem.F.slot_list_append PySem.F.type_list_append B9 (d8 j8 (pv 8) b7 (λ_ _=>rfl)) (a7 (m5 (a7 b7 (a7 b7 a8))) a8))))))))
      (b8 (z9 (l5 X4 (pv 2) b7 (j9 _)) (c4 (i9 X3)) m8)
      (b8 (i8 (i:=6) t8.nd rfl (Or.inl rfl) (d6 G__law_draw hr (a7 (pv 0) (a7 (pv 2) a8)) j0))
      (b8 (i8 (i:=7) t8.nd rfl (Or.inl rfl) (i7 M1 (i7 B4 (i7 B4 (pv 6) b7) (d6 G__law_draw hr (a7 (pv 0) (a7 (i7 ac3 (pv 2) b7) a8)) j0)) (pv 2)))
      (b8 (F7 (d6 G__law_plus hr (a7 (d8 i6 (d8 i6 (pv 4) (pv 6) (λ_ _=>rfl)) (pv 7) (λ_ _=>rfl)) (a7 (d6 G__law_other hr (a7 (pv 0) (a7 (pv 1) a8)) j0) a8)) j0) (O7 (d8 i6 (pv 4) (pv 6) (λ_ _=>rfl)) (pv 7) C7))
      (c4 (i9 (aH7 (K3 (aq7 hu) (d6 G__law_squares_said hr (a7 (pv 4) a8) j0) (m5 (a7 V5 (a7 V5 a8))) (j9 _)) (aH5 (K3 (aq7 hu) (d6 G__law_signs_said hr (a7 (pv 4) a8) j0) (m5 (a7 V5 (a7 V5 a8))) (j9 _)))))))))))))))),?_⟩
  rw [show start ["_law_urn_here","_law_kind","_law_n","_law_form","_law_handed","_law_turn_here","_law_i","_law_j","_law_told"] [.ref u]=[some (.ref u),none,none,none,none,none,none,none,none] from rfl]
  refine c9 (λσ H1 => ∃ kd,σ=[some (.ref u),some (.int kd),none,none,none,none,none,none,none]/\p9 u H H1/\p8 H1 u/\(kd=0 \/ kd=1)) (λN hN=>?_) ?_
  · simp! [y9]
    exact ⟨hU,by decide,by decide,λr H1 r0 r1 s1 u1=>hN _ _ ⟨r,rfl,s1,u1,⋯⟩⟩
  rintro σ H1 ⟨kd,rfl,s1,u1,hk⟩;refine c9 (λσ H2 => ∃ n:Nat,σ=[some (.ref u),some (.int kd),some (.int (n:Int)),none,none,none,none,none,none]/\p9 u H H2/\p8 H2 u/\1<=n/\n<=7) (λN hN=>?_) ?_
  · simp! [y9]
    refine ⟨u1,by decide,by decide,λr H2 r0 r1 s2 u2=>hN _ _ ⟨1+r.toNat,?_,s1.trans s2,u2,⋯,⋯⟩⟩
    rw [show ((1+r.toNat:Nat):Int)=1+r by omega]
  clear s1 u1;rintro σ H2 ⟨n,rfl,s2,u2,n1,n7⟩;have fm:∀ {M:List (List Rat)} {C W:Nat},F4 C W M->M.length=n->Sy n (qq M)->FmT n M C W:=λo l s=>⟨by rw [<- l];exact o.tf,⟨s,o.B0,o.BW,λi _ j _=>o.at i j,n7⟩⟩
  refine c9 (λσ H3 => ∃ l us F Bt W,σ=[some (.ref u),some (.int kd),some (.int (n:Int)),some (.ref l),none,none,none,none,none]/\M9 u H2 l us F H3/\FmT n F Bt W/\W<=125/\Bt.log2<=5) (λN hN=>?_) ?_
  · subst_eqs
    refine ⟨u,kd,n,rfl,u2,n1,n7,λl us F H3 d3 nd lF hF sy=>?_⟩;rcases hk with rfl | rfl
    · exact hN _ _ ⟨l,us,F,60,10,rfl,d3,fm ⟨⋯,by decide,by decide,λL hL=>⟨by rw [(hF L hL).1,lF],(hF L hL).2⟩⟩ lF sy,by decide,by decide⟩
    · exact hN _ _ ⟨l,us,F,1,4,rfl,d3,fm ⟨⋯,by decide,by decide,λL hL=>⟨by rw [(hF L hL).1,lF],(hF L hL).2⟩⟩ lF sy,by decide,by decide⟩
  rintro σ H3 ⟨l0,us0,F0,Bt0,W0,rfl,d3,f3,hW0,hB0⟩;refine c9 (λσ H4 => ∃ l us F Bt W,σ=[some (.ref u),some (.int kd),some (.int (n:Int)),some (.ref l),none,none,none,none,none]/\M9 u H2 l us F H4/\FmT n F Bt W/\W<=125/\Bt.log2<=5) (λN hN=>?_) ?_
  · simp! [y9]
    refine ⟨d3.urn,by decide,by decide,λr H4 r0 r1 s4 u4=>⟨rfl,A9 (λ_=>?_) (λ_=>hN _ _ ⟨l0,us0,F0,Bt0,W0,rfl,d3.x s4 u4,f3,hW0,hB0⟩)⟩⟩
    have d4:=d3.x s4 u4;refine ⟨u,1,n,rfl,u4,.inr rfl,n1,n7,λr1 l1 pd us1 F1 d1 T1 B1 H5 d5 er ed hs lF oF tf iT k1=>?_⟩;refine ⟨r1,rfl,_,SqT.of er,_,rfl,hN _ _ ⟨l1,us1,F1,1,125,rfl,?_,fm (k1 rfl) lF ?_,by decide,by decide⟩⟩
    · exact ⟨d4.same.trans d5.same,d5.urn,(d4.same.free d4.urn d5.fr),d5.lu,d5.at',d5.nl,d5.nu,λt ht=>d4.same.free d4.urn (d5.nf t ht),d5.rws⟩
    · exact λi hi j hj=>by rw [tf.at' i j hi hj,tf.at' j i hj hi];exact be2 n d1 T1 i hi j hj
  rintro σ H4 ⟨l,us,F,Bt,W,rfl,d4,fF,hW,hB⟩;have lF:=fF.tf.len;have lus:=d4.rws.length;refine c9 (λσ H5 => ∃ g ts,σ=[some (.ref u),some (.int kd),some (.int (n:Int)),some (.ref l),some (.ref g),none,none,none,none]/\M9 u H4 g ts F H5/\ts.Nodup) (λN hN=>?_) ?_
  · subst_eqs
    refine ⟨⟨_,SqL.of d4.at'⟩,λD hD=>?_⟩;refine B7 (us.map V.ref) (λy σ H5 => ∃ o,σ=[o]/\G1 H4 D (F.take y) H5) ⟨_,rfl,G1.start hD⟩ (λj σ H5 _ ⟨o,_,T⟩=>SqL.of (T.same _ _ d4.at')) ?_ ?_
    · rintro y x σ H5 hx ⟨o,rfl,T⟩
      have hy:=(List.getElem?_eq_some_iff.mp hx).1;obtain ⟨t,ht,rfl⟩:=Q8 hx;obtain ⟨xs,L,hL,et,nt⟩:=d4.rws.get ht
      subst_eqs
      refine ⟨xs,.inl (SqL.of (T.same _ _ et)),λp fp=>?_⟩;obtain ⟨ys,eD,yl,T'⟩:=T.add hD fp ⟨c5.new fp (.lst xs),xs,a9,(nt.mono T.same.tups).mono (c5.new fp _).tups⟩;refine r6.mk hy eD (t5 (by rw [yl,List.length_take];omega)) ⟨_,rfl,?_⟩
      rw [d9 hL];exact T'
    · rintro σ H5 ⟨o,rfl,T⟩
      rw [t9 (by rw [List.length_map];omega)] at T
      obtain ⟨sT,ts,e,fr,nd,R⟩:=T;exact hN _ _ ⟨D,ts,rfl,⟨c5.x sT u,c5.urn sT d4.urn,hD,C4 d4.urn hD,e,λz=>(fr D z).2 rfl,λt ht=>C4 d4.urn (fr t ht).1,λt ht=>(fr t ht).1,R⟩,nd⟩
  rintro σ H5 ⟨g,ts,rfl,g5,nd5⟩;have d5:=d4.x g5.same g5.urn;have lts:=g5.rws.length;refine c9 (λσ H6 => ∃ o5 o8,σ=[some (.ref u),some (.int kd),some (.int (n:Int)),some (.ref l),some (.ref g),o5,none,none,o8]/\p9 u H5 H6/\p8 H6 u) (λN hN=>?_) ?_
  · refine ⟨_,rfl,by decide,by decide,C1 (λ_ σ H6 => ∃ o5 o8,σ=[some (.ref u),some (.int kd),some (.int (n:Int)),some (.ref l),some (.ref g),o5,none,none,o8]/\p9 u H5 H6/\p8 H6 u) ⟨_,_,rfl,λ_ _ h _=>h,d5.urn⟩ ?_ (λσ H5 h=>hN _ _ h)⟩
    rintro i σ H6 hi ⟨o5,o8,rfl,s6,u6⟩;have D6:=d5.x s6 u6;have G6:=g5.x s6 u6;refine c9 (λσ H7 => ∃ r rr rq ts' zs cols qs,σ=[some (.ref u),some (.int kd),some (.int (n:Int)),some (.ref l),some (.ref g),some (.int (0+(i:Int))),none,none,some (.ref r)]/\c5 H6 H7/\(∀ t ∈ rr :: rq :: ts',H6 t=none)/\(rr :: rq :: ts').Nodup/\H7 r=some (.tup [.ref rr,.ref rq])/\H7 rr=some (.lst (ts'.map V.ref))/\Rws H7 ts' (x8 n cols)/\H7 rq=some (.lst zs)/\A0 K H7 zs qs/\T4 n (qq F) Bt W cols qs) (λNn hN'=>?_) ?_
    · subst_eqs
      refine ⟨g,ts,F,n,Bt,W,rfl,G6.at',G6.rws,fF.tf,n7,λy=>absurd (by have:=fF.flip;rw [lF] at this;exact this) y,λ_=>⟨fF,⋯,λr rr rq ts' zs cols qs H7 s7 fr ft nd er err RT erq nq R0=>hN' _ _ ⟨r,rr,rq,ts',zs,cols,qs,rfl,s7,ft,nd,er,err,RT,erq,nq,R0⟩⟩⟩
    rintro σ H7 ⟨r,rr,rq,ts',zs,cols,qs,rfl,s7,ft,nd,er,err,RT,erq,nq,R0⟩;have D7:=D6.s s7;have G7:=G6.s s7;refine c9 (λσ H8=>σ=[some (.ref u),some (.int kd),some (.int (n:Int)),some (.ref l),some (.ref g),some (.int (0+(i:Int))),none,none,some (.ref r)]/\c5 H7 H8) (λNn hN'=>?_) ?_
    · subst_eqs
      refine ⟨l,r,rr,rq,us,ts',zs,F,n,Bt,W,cols,qs,rfl,D7.at',D7.rws,fF,n1,hW,hB,er,err,RT,erq,nq,R0,λH8 s8=>?_⟩;have D8:=D7.s s8;have G8:=G7.s s8;refine ⟨true,rfl,A9 (λz=>by cases z) (λ_=>⟨M6 F,M6 F,rfl,.lst (SqL.of G8.at') G8.rws.isDs,.lst (SqL.of D8.at') D8.rws.isDs,ak5 _ _,as4 _,?_⟩)⟩
      rw [al4,decide_eq_true rfl];exact ⟨_,rfl,A9 (λz=>by cases z) (λ_=>hN' _ _ ⟨rfl,s8⟩)⟩
    rintro σ H8 ⟨rfl,s8⟩;have D8:=D7.s s8;have RT8:=RT.same s8;have lct:=(Y2 (N:=n) R0.lc).len;have lts':=RT.length;have er8:=s8 _ _ er;have err8:=s8 _ _ err;have erq8:=s8 _ _ erq;have fru:∀ t ∈ rr :: rq :: ts',t ≠ u:=λt ht=>C4 u6 (ft t ht)
    simp! [y9]
    refine ⟨_,SqT.of er8,_,rfl,D8.urn,⋯,⋯,λr9 H9 r0 r1 s9 u9=>?_⟩;have er9:=s9.tups D8.urn _ _ er8;have err9:=s9 _ _ err8 (fru rr (by simp))
    have erq9:=s9 _ _ erq8 (fru rq (by simp))
    have RT9:=RT8.samex s9 D8.urn λt ht=>fru t (by simp [ht])
    obtain ⟨c,rfl⟩:∃ c:Nat,r9=(c:Int):=⟨r9.toNat,⋯⟩
    obtain ⟨t,xs,L,gt,gL,et,nt⟩:∃ t xs L,ts'[c]? = some t/\(x8 n cols)[c]? = some L/\H9 t=some (.lst xs)/\C3 H9 xs L:=by
      have gc:ts'[c]? = some ts'[c]:=List.getElem?_eq_getElem ⋯;obtain ⟨xs,L,gL,et,nt⟩:=RT9.get gc;exact ⟨_,xs,L,gc,gL,et,nt⟩
    have mt:=List.mem_of_getElem? gt;have zc:(ts'.map V.ref)[c]? = some (.ref t):=by rw [List.getElem?_map,gt];rfl
    refine ⟨rr,rfl,_,SqL.of err9,.ref t,j3 zc,?_,?_⟩
    · exact Or.inl ⟨_,SqL.of et⟩
    have fD:∀ x ∈ ts',H6 x=none/\x ≠ u/\rq ≠ x:=λx hx=>⟨ft x (by simp [hx]),fru x (by simp [hx]),λz=>(List.nodup_cons.mp (List.nodup_cons.mp nd).2).1 (z ▸ hx)⟩
    have er':=W5.lst (o:=.lst []) et _ _ er9;have erq':(upd H9 t (.lst [])) rq=some (.lst zs):=by rw [c8 (fD t mt).2.2];exact erq9
    refine ⟨t,_,rfl,rfl,et,_,SqT.of er',.ref rq,rfl,?_,u0,λp fp=>⟨rq,rfl,zs,c5.new fp _ _ _ erq',t5 (by have:=nq.length;have:=R0.lq;omega),?_,?_⟩⟩
    · exact Or.inl ⟨_,SqL.of erq'⟩
    · exact s6.trans ((((c5.x (s7.trans s8) u).trans s9).over (fD t mt).1 _).trans (c5.x (c5.new fp _) u) |>.over (ft rq (by simp)) _)
    · exact (T7 (u9.other (fD t mt).2.1) fp).other (fru rq (by simp))
  rintro σ H6 ⟨o5,o8,rfl,s6,u6⟩;have G6:=g5.x s6 u6;have S6:=(s2.trans d4.same).trans (g5.same.trans s6);clear d3 f3;refine c9 (λσ H7=>σ=[some (.ref u),some (.int kd),some (.int (n:Int)),some (.ref l),some (.ref g),o5,none,none,o8]/\H7=H6/\n ≠ 1) (λN hN=>?_) ?_
  · subst_eqs
    exact ⟨rfl,A9 (λ_=>k _ S6 u6) (λz=>hN _ _ ⟨rfl,rfl,⋯⟩)⟩
  rintro σ H6' ⟨rfl,rfl,ne1⟩;refine c9 (λσ H7 => ∃ a:Nat,σ=[some (.ref u),some (.int kd),some (.int (n:Int)),some (.ref l),some (.ref g),o5,some (.int (a:Int)),none,o8]/\p9 u H6' H7/\p8 H7 u/\a<n) (λN hN=>?_) ?_
  · simp! [y9]
    refine ⟨u6,⋯,⋯,λr H7 r0 r1 s7 u7=>hN _ _ ⟨r.toNat,?_,s7,u7,⋯⟩⟩;rw [show ((r.toNat:Nat):Int)=r by omega]
  rintro σ H7 ⟨a,rfl,s7,u7,ha⟩;refine c9 (λσ H8 => ∃ b:Nat,σ=[some (.ref u),some (.int kd),some (.int (n:Int)),some (.ref l),some (.ref g),o5,some (.int (a:Int)),some (.int (b:Int)),o8]/\p9 u H7 H8/\p8 H8 u/\b<n/\a ≠ b) (λN hN=>?_) ?_
  · simp! [y9]
    refine ⟨u7,⋯,⋯,λr H8 r0 r1 s8 u8=>⟨⋯,?_⟩⟩;have h1:=Int.fmod_nonneg_of_pos ((a:Int)+1+r) (show (0:Int)<(n:Int) by omega)
    have h2:=Int.fmod_lt_of_pos ((a:Int)+1+r) (show (0:Int)<(n:Int) by omega)
    have h3:((a:Int)+1+r).fmod (n:Int) ≠ a:=λz=>by
      have e:=Int.mul_fdiv_add_fmod ((a:Int)+1+r) (n:Int);rw [z] at e;have e2:(n:Int)*((a:Int)+1+r).fdiv n=1+r:=⋯;rcases (show ((a:Int)+1+r).fdiv n<=0 \/ 1<=((a:Int)+1+r).fdiv n by omega) with y | y
      · have:=Int.mul_le_mul_of_nonneg_left y (show (0:Int)<=n by omega)
        omega
      · have:=Int.mul_le_mul_of_nonneg_left y (show (0:Int)<=n by omega)
        omega
    generalize ((a:Int)+1+r).fmod (n:Int)=z at h1 h2 h3 ⊢;refine hN _ _ ⟨z.toNat,?_,s8,u8,⋯,⋯⟩;rw [show ((z.toNat:Nat):Int)=z by omega]
  rintro σ H8 ⟨b,rfl,s8,u8,hb,ab⟩;have G8:=(G6.x s7 u7).x s8 u8
  subst_eqs
  obtain ⟨pA,xA,LA,uA,gA,mA,eA,nA⟩:=G8.row (i:=a) ⋯;have lLA:=fF.tf.row LA (List.mem_of_getElem? mA);obtain ⟨py,gy,hy⟩:=nA.get (ao2 (L:=LA) (k:=b) ⋯);refine ⟨_,SqL.of G8.at',_,j3 gA,pA,rfl,xA,SqL.of eA,_,j3 gy,u,kd,rfl,u8,λro qo H9 bo ne s9 u9 e9=>?_⟩;have pu:=G8.nu pA (List.mem_of_getElem? uA);have bA:=OvB.bdN fF.fm.b0 fF.fm.bW ((fF.row mA).2.2 _ (O8 (L:=LA) (k:=b) ⋯))
  have bO:BdN 10 qo:=by
    unfold NK at bo;rw [if_neg ⋯] at bo
    split at bo
    · exact OvB.bdN (by decide) (by decide) bo
    · exact (OvB.bdN (by decide) (show 1<2 ^ 4 by decide) bo).mono (by decide)
  refine ⟨.ref py,.ref ro,aQ LA b,qo,W,10,rfl,⟨py,rfl,SqT.of (s9.tups u8 _ _ hy)⟩,⟨ro,rfl,SqT.of e9⟩,bA.t ⋯,bO.t (by decide),⋯,λrp H10 s10 e10=>?_⟩
  have G10:=(G8.x s9 u9).s s10;have eA10:=s10 _ _ (s9 _ _ eA pu);have nA10:=(nA.mono (s9.tups u8)).mono s10.tups;have lxA:=nA.length;have G11:=G10.inpl nd5 uA eA10 (nA10.set b e10);obtain ⟨tf2,fn⟩:=aZ7 (x:=aQ LA b+qo) fF.tf fF.fm.sy ha hb ab mA (λz=>ne (by grind))
  refine ⟨_,SqL.of G10.at',_,j3 gA,pA,rfl,xA,eA10,b,V9 ⋯,?_⟩;refine ⟨g,ts,_,n,0,0,rfl,G11.at',G11.rws,tf2,n7,λ_ t1 H12 s12 e12=>⟨u0,λp fp=>aM9 (c5.new fp _ _ _ e12) a9 ⟨_,rfl,A9 (λ_=>?_) (λz=>absurd rfl z)⟩⟩,λy=>absurd y fn⟩;have G13:=(G11.s s12).s (c5.new fp (.tup [.str "refused",.str "form"]))
  refine ⟨g,ts,_,n,rfl,G13.at',G13.rws,tf2,n7,fn,λt2 H14 s14 e14=>⟨u0,λp2 fp2=>aM9 (c5.new fp2 _ _ _ e14) a9 ?_⟩⟩;have G15:=(G13.s s14).s (c5.new fp2 (.tup [.str "refused",.str "form"]))
  exact k _ ((s2.trans d4.same).trans G15.same) G15.urn
abbrev aw2:Stmt:=top 71
theorem aS5:j1 ["_law_script","_law_at"] ["_law_script"] (b9 aw2):=by and_intros
theorem bc9 {f g1 g2 : Addr} {fd : FuncData} (F : Fun K "law" "law" aw2 f fd) (G__law_urn : Def P w K mg base CX0 1 "_law_urn" g1 ["_law_script", "_law_at"] (bb0 K)) (G__law_right : Def P w K mg base CX0 8 "_law_right" g2 ["_law_urn_here"] (aK6 K))
    (n_range:mg "range" = none) (n_max:mg "max" = none) (n_min:mg "min" = none) (n_len:mg "len" = none):aj5 P w K mg base CX0 (8+1) f fd ["_law_script"] (aK9 K):=by
  refine F.ok (N:=["_law_script","_law_at"]) aS5 (λvs H Q E ⟨x,y,h,_⟩=>by rw [h];rfl) (λcdv A outer s H vs Q E hr h=>?_)
  obtain ⟨as,ns,rfl,hS,h63,k⟩:=h
  refine ⟨_, (b8 (C6 PassesOwn.never rfl (o0 rfl n_range (a7 (h8 (ax9 rfl) rfl n_max (by decide +kernel) (a7 b7 (a7 (h8 (aR0 rfl) rfl n_min (by decide +kernel) (a7 b7 (a7 (h8 k8 rfl n_len (by decide +kernel) (a7 (pv 0) a8)) a8))) a8))) a8)) (c6 (i := 1) aS5.nd rfl (Or.inl rfl)) (c4 (z9 (N3 (N2 (d6 G__law_right hr (a7 (d6 G__law_urn hr (a7 (pv 0) (a7 (pv 1) a8)) j0) a8) j0))) (c4 (i9 X3)) m8)))
      (c4 (i9 X3))),?_⟩
  rw [show start ["_law_script","_law_at"] [.ref as]=[some (.ref as),none] from rfl]
  have hlen:(((ns.map V.int).length:Nat):Int)=(ns.length:Int):=by rw [List.length_map]
  refine ⟨_,rfl,as,_,rfl,.inl hS,3,_,rfl,1,_,rfl,_,rfl,?_,?_,C1 (λi σ H1 => ∃ o1:Option V,σ=[some (.ref as),o1]/\SqL K H1 as (ns.map V.int)) ⟨_,rfl,hS⟩ ?_ ?_⟩
  · rw [hlen];split <;> split <;> omega
  · rw [hlen];split <;> split <;> omega
  · rintro i σ H1 hi ⟨o1,rfl,hS1⟩
    rw [hlen] at hi
    have hi4:i<4:=by
      revert hi
      split <;> split <;> omega
    subst_eqs
    refine ⟨as,ns,_,rfl,hS1,⋯,⋯,λu H2 s2 hu0 hu2=>?_⟩;refine ⟨u,rfl,hu2,λH3 s3 hu3=>?_⟩;exact ⟨true,rfl,A9 (λh=>absurd h (by decide)) (λ_=>((c5.x s2 u).trans s3).seq hu0 hS1)⟩
  · rintro σ H1 ⟨o1,rfl,hS1⟩
    exact k H1
end
end R
set_option maxRecDepth 100000
namespace PySem.W.Fast
def tw10728261937147058943:=0
def tw188007179469499848:=0
def tw7957166364949421427:=0
def tw17817039666240397948:=0
def tw15563996555798123687:=0
def tw13694793521021094157:=0
def tw3741498671934636341:=0
def tw12538035616570626717:=0
def tw8729988178776898404:=0
def tw3656700799236545974:=0
def tw1219820457995287285:=0
def tw8157189364839759456:=0
def tw11806302420950622805:=0
def tw6266134212470823591:=0
def tw2727820391465385008:=0
def tw10957659145506457610:=0
def tw16193606120565379288:=0
def tw4727647112769094978:=0
def tw3430186170367594962:=0
def tw4588361241759360180:=0
def tw16197350549531110419:=0
def tw5739231052409793890:=0
def tw10839758504290225522:=0
def tw6810426771001526466:=0
def tw18041933434066008038:=0
def tw5051167949443376771:=0
def tw13815701002175364988:=0
def tw9545678464137439036:=0
def tw4347396295581883958:=0
def tw7043185441869875126:=0
def tw11637250432178578386:=0
def tw5738361943603685549:=0
def tw8604432828198373647:=0
def tw11688032852364545480:=0
def tw8289166158592160627:=0
def tw4042113319111588398:=0
def tw10617234969761200968:=0
def tw2955951428941454965:=0
def tw8102688246522221125:=0
def tw6951274302430714532:=0
def tw4000848881903131066:=0
def tw3746960109479618949:=0
def tw2351843363226864653:=0
def tw2870278353400931739:=0
def tw16597146088088952106:=0
def tw313177277955284192:=0
def tw16952856442859657704:=0
def tw9169819412919536112:=0
def tw11082061856968639398:=0
def tw4363621402536935379:=0
def tw14841029497534248175:=0
def tw2478404616761213725:=0
def tw18156381861166329194:=0
def tw16235865074952430137:=0
def tw3071636789029502056:=0
def tw17878951857997324028:=0
def tw3307777412923004962:=0
def tw14949455040620595800:=0
def tw2134064483183339404:=0
def tw13871546409420231145:=0
def tw6700109828508967675:=0
def tw9146017987434586379:=0
def tw17937126718851271035:=0
def tw12567911231464401660:=0
def tw14029951670362944299:=0
def tw9626513733563591703:=0
def tw17081887611414677184:=0
def tw9898894408765747183:=0
def tw2364429137964324551:=0
def tw5952512201927741675:=0
def tw14265475366186032706:=0
def tw15165892241565037873:=0
def tw12661771831202580117:=0
def tw8916554209320836117:=0
def tw13600168622663689813:=0
def tw13401932443642733231:=0
def tw10553758088402211958:=0
def tw12945446748571779677:=0
def tw2141259228735792211:=0
def tw7255572333608014986:=0
def tw11040045611570384605:=0
def tw2227677636340246250:=0
def tw5408389054122546141:=0
def tw8158522164958250766:=0
def tw3671776537125847598:=0
def tw5195704429261989637:=0
def tw18423363924991282445:=0
def tw10751542482972852432:=0
def tw8648144809366874867:=0
def tw15161647291320258876:=0
def tw5814212334321074735:=0
def tw6747000700371802124:=0
def tw5481039349846483047:=0
def tw2873828539930916584:=0
def tw5698306772962412289:=0
def tw9830507400702850845:=0
def tw13691592812865818865:=0
def tw15298069098492750133:=0
def tw11812403115602516703:=0
def tw7732768696671808334:=0
def tw3735391980189494567:=0
def tw3268108540492053579:=0
def tw17839071735630316618:=0
def tw15357086908027764812:=0
def tw18211424427500816492:=0
def tw9994599478445481733:=0
def tw13120612186775626091:=0
def tw8554762090028429896:=0
def tw14441238181304437859:=0
def tw665610630301825077:=0
def tw11303162560185381459:=0
def tw7687789775730188632:=0
def tw10328739877185320586:=0
def tw6482822111455311403:=0
def tw12192646876291343411:=0
def tw6229656846814671339:=0
def tw1000994061442682264:=0
def tw7113216763875805245:=0
def tw15207266936545045606:=0
def tw313814905441113068:=0
def tw8344078386133686016:=0
def tw16520116879090967522:=0
def tw5949716592687990734:=0
def tw16721709249046309610:=0
def tw9771798940309050562:=0
def tw8092816178116536197:=0
def tw5330191954052114357:=0
def tw7207315408315854073:=0
def tw6850743311639277819:=0
def tw2233622050349451373:=0
def tw9871674223566294711:=0
def tw8004174839955972328:=0
def tw10593732591205398939:=0
def tw6359491244489959216:=0
def tw1394467917764478279:=0
def tw3261738356731111468:=0
def tw13032738723510676776:=0
def tw14363077890145466221:=0
def tw1856658994586802033:=0
def tw14513269304219553391:=0
def tw1836162126047779108:=0
def tw8249807706471621912:=0
def tw16977090024230099168:=0
def tw2784091504594360437:=0
def tw12520354821220439736:=0
def tw489244593302140859:=0
def tw5866126508671134254:=0
def tw766541360324881564:=0
def tw1324442510577168994:=0
def tw15460160748044015071:=0
def tw17146146747080666063:=0
def tw6069816781375212891:=0
def tw13136753841051600893:=0
def tw17387488731963578886:=0
def tw16614072477948474754:=0
def tw6073850111302288677:=0
def tw4377228368218363966:=0
def tw2500989098300606359:=0
def tw4501632267109378252:=0
def tw10245562861557706699:=0
def tw14948007748734321674:=0
def tw1791684569389367577:=0
def tw12718839504468201855:=0
def tw10097196353568907837:=0
def tw10020624086610053268:=0
def tw2950099630629949158:=0
def tw4475185734789388722:=0
def tw7587955044960069637:=0
def tw1896076663166095538:=0
def tw11867464571510357467:=0
def tw7181456229783429803:=0
def tw6947537669701290236:=0
def tw327136243509374653:=0
def tw16112385996494648052:=0
def tw5501159377749225813:=0
def tw4221981594121393570:=0
def tw17963189845544992875:=0
def tw17080611687441351522:=0
def tw14993369778071747511:=0
def tw6148878073026762706:=0
def tw16175958843511682763:=0
def tw12724722001880647674:=0
def tw8815701999696309812:=0
def tw7066534362817886584:=0
def tw9776394223534744506:=0
def tw9397964724005629949:=0
def tw10793130369384864347:=0
def tw16082152779408980325:=0
def tw2276359414301155031:=0
def tw2763036106895676267:=0
def tw13231877582868891044:=0
def tw10787038225533717542:=0
def tw16165564006448297012:=0
def tw2081742729934737921:=0
def tw3499566032266058377:=0
def tw1868135242692991997:=0
def tw8949357565174089388:=0
def tw11299026181579398552:=0
def tw154392485464043161:=0
def tw14880940050845314270:=0
def tw7631527725964826408:=0
def tw830591098920788141:=0
def tw10108664812363410491:=0
def tw9212157444262983848:=0
def tw12351152822284151716:=0
def tw13755850285691101437:=0
def tw2675537133576949835:=0
def tw8517128360214498573:=0
def tw2315310118449275163:=0
def tw12480029757786483319:=0
def tw2395533011647485663:=0
def tw14761543412226691277:=0
def tw4427678310209081021:=0
def tw4155903205592356337:=0
def tw11296343468189902440:=0
def tw14249489647242027348:=0
def tw10283897167614103368:=0
def tw6929187536579258033:=0
def tw2511462719901026954:=0
def tw7392267090880990125:=0
def tw1044876321615499087:=0
def tw3642619458430331307:=0
def tw3035966935700595285:=0
def tw16449932584825568665:=0
def tw4597995530472282704:=0
def tw3420036704678955144:=0
def tw305153840119093397:=0
def tw573291278759736253:=0
def tw5908997520140668574:=0
def tw15034374903636796590:=0
def tw16838977949796926310:=0
def tw12029665417292368310:=0
def tw1009653966251484895:=0
def tw5110131038734628189:=0
def tw10642544256879680572:=0
def tw4805991698449363330:=0
def tw1207056052504499310:=0
def tw6662541448922670840:=0
def tw8817692096984426353:=0
def tw14093045534526113838:=0
def tw8847805895184798570:=0
def tw6735859761946586180:=0
def tw9963691293519587949:=0
def tw12131818268420306207:=0
def tw7762893367080929948:=0
def tw8818308634958178313:=0
def tw9707208202976966274:=0
def tw12163043100715759222:=0
def tw1579614791234146426:=0
def tw9137734438285317637:=0
def tw10356927821703626225:=0
def tw5119026876943785806:=0
def tw2003765072442484527:=0
def tw17079728584119135581:=0
def tw13579733753742338191:=0
def tw2834736836101285436:=0
def tw6563786755035056768:=0
def tw2752866265456749381:=0
def tw8806042027974703967:=0
def tw13054738608537014053:=0
def tw10269162586063521344:=0
def tw5475143935003411868:=0
def tw2705420845477055060:=0
def tw3785710022835125795:=0
def tw9004612124321830162:=0
def tw16953762274932390415:=0
def tw17291535740171660773:=0
def tw8743930875807019014:=0
def tw15212509808775998463:=0
def tw3464283546315738639:=0
def tw3980906714548338470:=0
def tw5915698366569009424:=0
def tw16649590035864525816:=0
def tw541441567980121070:=0
def tw4652165829763680719:=0
def tw5578233778803795898:=0
def tw1028162217555164417:=0
def tw4401977334265114939:=0
def tw15324271304296642384:=0
def tw16724398735594053144:=0
def tw16547680057470874069:=0
def tw6289522742608019390:=0
def tw14737384155540302705:=0
def tw9158965358224122148:=0
def tw1504239912114615362:=0
def tw16453942307199151630:=0
def tw16049313692010669927:=0
def tw14706956231457273701:=0
def tw16439890254776564459:=0
def tw12008194109532475123:=0
def tw10867958824368420920:=0
def tw5559337298662056197:=0
def tw13727766657635907531:=0
def tw17377066240525668377:=0
def tw10552384383814049200:=0
def tw1822821286394842812:=0
def tw1009128104249946124:=0
def tw18177594680751120171:=0
def tw11683864152525182834:=0
def tw189996333037392189:=0
def tw1501752532501678251:=0
def tw3464589606246881778:=0
def tw15579580011215649991:=0
def tw11805155954240176191:=0
def tw1992912657991528773:=0
def tw4005731686010379945:=0
def tw11227135424618348396:=0
def tw3532124559846439782:=0
def tw7098065696971984707:=0
def tw8616703237021280348:=0
def tw8588865415053728193:=0
def tw386996686355922409:=0
def tw10834980420294162058:=0
def tw15692278837309022067:=0
def tw1656443085393328578:=0
def tw13010637757080559006:=0
def tw15130745412014588502:=0
def tw14550031153069654082:=0
def tw8344397927130165469:=0
def tw10359369442459036356:=0
def tw18444300056468649010:=0
def tw13526990724522244395:=0
def tw4333257337813792643:=0
def tw15049208190135031136:=0
def tw5913471127855765189:=0
def tw17621149070044407814:=0
def tw1432938024429038493:=0
def tw16914229457411418963:=0
def tw8418985360793058915:=0
def tw713788200865003912:=0
def tw1132923076193362332:=0
end PySem.W.Fast
namespace R
open PySem L2 PyProof.Rows
section
variable {l:g0y} {w:World} {K:q0a} {h:Heap} {mg:Str->Option Value}
structure Gd (K:q0a) (nm:Str) (st:Stmt) (f:Addr):Prop where
 a:j0b K mainGlobals nm=some (some (.ref f))
 F:∃ fd,Fun K nm nm st f fd
theorem Gd.df {nm:Str} {st:Stmt} {f:Addr} {ps:List Str} (X:K.In h) (G:h.Ns mainGlobals mg) (g:Gd K nm st f) (hb:∀ (kV doc pm:Value) (an:Option Addr) (cdv ct:Value) (us:List Value),us.length=ps.length->bindArgs (y0u nm nm (ae6 st) (M5 st) (b9 st) .none kV doc pm an cdv ct) ⟨us,[]⟩=pure (ps.zip us)):Df K mg nm st ps f:=by
 obtain ⟨a,_,F⟩:=g;exact ⟨⟨_,F,F.binds hb⟩,v0k X G a⟩
structure Gx (K:q0a) (nm:Str) (C:Addr):Prop where
 m:j0b K mainGlobals nm=some (some (.ref C))
 x:m0q K C [.type "ValueError",.type "Exception",.type "BaseException",.type "object"] "ValueError.__new__" = true
 e:at4 K C
theorem Gx.t {nm:Str} {C:Addr} (X:K.In h) (G:h.Ns mainGlobals mg) (g:Gx K nm C):ExT K mg nm C:=⟨v0k X G g.m,⟨g.x⟩,g.e⟩
theorem aZ1 {us:List Value} {n:Nat} (h:us.length=n+1):∃ a r,us=a :: r/\r.length=n:=by
 cases us with
 | nil=>cases h
 | cons a r=>exact ⟨a,r,rfl,Nat.succ.inj h⟩
theorem bg3 {us:List Value} (h:us.length=0):us=[]:=List.eq_nil_of_length_eq_zero h
theorem G9 {us:List Value} (h:us.length=1):∃ a0,us=[a0]:=by
 obtain ⟨_,_,rfl,g⟩:=aZ1 h;obtain ⟨rfl⟩:=bg3 g;exact ⟨_,rfl⟩
theorem P1 {us:List Value} (h:us.length=2):∃ a0,∃ a1,us=[a0,a1]:=by
 obtain ⟨_,_,rfl,g⟩:=aZ1 h;obtain ⟨_,rfl⟩:=G9 g;exact ⟨_,_,rfl⟩
theorem aw9 {us:List Value} (h:us.length=3):∃ a0,∃ a1,∃ a2,us=[a0,a1,a2]:=by
 obtain ⟨_,_,rfl,g⟩:=aZ1 h;obtain ⟨_,_,rfl⟩:=P1 g;exact ⟨_,_,_,rfl⟩
theorem bb4 {us:List Value} (h:us.length=4):∃ a0,∃ a1,∃ a2,∃ a3,us=[a0,a1,a2,a3]:=by
 obtain ⟨_,_,rfl,g⟩:=aZ1 h;obtain ⟨_,_,_,rfl⟩:=aw9 g;exact ⟨_,_,_,_,rfl⟩
theorem be8 {fa f_common_divisor f_fraction f_content_of f_cleared f__law_low f__law_urn f__law_draw f__law_number f__law_whole f__law_is_number f_vectors_of f_cleaned f_upright_to f_mixed f_with_square f_over_content f_squared f_turned f__law_flipped f__law_unit f_squares f_sign_of_whole f_sign_of f__law_which f_signs f__law_squares_said f__law_signs_said f__law_other f__law_plus f__law_times f__law_turn f__law_drawn_table f__law_any_form f__law_less f__law_over f__law_det f__law_is_table f__law_dot f__law_table_times f__law_are_squares f__law_sign f__law_drawn_form f__law_right f_law:Addr} {C_NoFraction C_NoPolynomial C_NoStretch C_NoRow C_NoPair C_NoBack C_NoForm C_NoParts C_NoDegree C_NoSteps C_NoBox C_NoGain C_NoText C_NoLine C_NoName C_NoDeed C_RestError:Addr} {t_SHORT:Tok} {A_NOUGHT:Addr} {td_NOUGHT:Option Addr} {ts_NOUGHT:Array (Option Value)} {tn_NOUGHT:Nat} {tt0_NOUGHT tt1_NOUGHT:Tok}
  (X:K.In h) (G:h.Ns mainGlobals mg) (hfa:mg "law" = some (.ref fa))
  (g_common_divisor:Gd K "common_divisor" G4 f_common_divisor)
  (g_fraction:Gd K "fraction" Y9 f_fraction)
  (g_content_of:Gd K "content_of" P3 f_content_of)
  (g_cleared:Gd K "cleared" W9 f_cleared)
  (g__law_low:Gd K "_law_low" Z1 f__law_low)
  (g__law_urn:Gd K "_law_urn" Z0 f__law_urn)
  (g__law_draw:Gd K "_law_draw" U7 f__law_draw)
  (g__law_number:Gd K "_law_number" N8 f__law_number)
  (g__law_whole:Gd K "_law_whole" P4 f__law_whole)
  (g__law_is_number:Gd K "_law_is_number" G5 f__law_is_number)
  (g_vectors_of:Gd K "vectors_of" L8 f_vectors_of)
  (g_cleaned:Gd K "cleaned" X0 f_cleaned)
  (g_upright_to:Gd K "upright_to" P2 f_upright_to)
  (g_mixed:Gd K "mixed" ae3 f_mixed)
  (g_with_square:Gd K "with_square" N7 f_with_square)
  (g_over_content:Gd K "over_content" F5 f_over_content)
  (g_squared:Gd K "squared" Q4 f_squared)
  (g_turned:Gd K "turned" ab6 f_turned)
  (g__law_flipped:Gd K "_law_flipped" F6 f__law_flipped)
  (g__law_unit:Gd K "_law_unit" O3 f__law_unit)
  (g_squares:Gd K "squares" Q3 f_squares)
  (g_sign_of_whole:Gd K "sign_of_whole" K1 f_sign_of_whole)
  (g_sign_of:Gd K "sign_of" ae2 f_sign_of)
  (g__law_which:Gd K "_law_which" P5 f__law_which)
  (g_signs:Gd K "signs" ai1 f_signs)
  (g__law_squares_said:Gd K "_law_squares_said" B5 f__law_squares_said)
  (g__law_signs_said:Gd K "_law_signs_said" E8 f__law_signs_said)
  (g__law_other:Gd K "_law_other" P7 f__law_other)
  (g__law_plus:Gd K "_law_plus" U4 f__law_plus)
  (g__law_times:Gd K "_law_times" P6 f__law_times)
  (g__law_turn:Gd K "_law_turn" L5 f__law_turn)
  (g__law_drawn_table:Gd K "_law_drawn_table" A4 f__law_drawn_table)
  (g__law_any_form:Gd K "_law_any_form" K2 f__law_any_form)
  (g__law_less:Gd K "_law_less" U6 f__law_less)
  (g__law_over:Gd K "_law_over" U5 f__law_over)
  (g__law_det:Gd K "_law_det" K6 f__law_det)
  (g__law_is_table:Gd K "_law_is_table" C8 f__law_is_table)
  (g__law_dot:Gd K "_law_dot" Z2 f__law_dot)
  (g__law_table_times:Gd K "_law_table_times" A3 f__law_table_times)
  (g__law_are_squares:Gd K "_law_are_squares" w9 f__law_are_squares)
  (g__law_sign:Gd K "_law_sign" U3 f__law_sign)
  (g__law_drawn_form:Gd K "_law_drawn_form" y4 f__law_drawn_form)
  (g__law_right:Gd K "_law_right" M0 f__law_right)
  (g_law:Gd K "law" aw2 f_law)
  (z_ValueError:j0b K mainGlobals "ValueError" = some none)
  (z_abs:j0b K mainGlobals "abs" = some none)
  (z_all:j0b K mainGlobals "all" = some none)
  (z_bool:j0b K mainGlobals "bool" = some none)
  (z_enumerate:j0b K mainGlobals "enumerate" = some none)
  (z_int:j0b K mainGlobals "int" = some none)
  (z_isinstance:j0b K mainGlobals "isinstance" = some none)
  (z_len:j0b K mainGlobals "len" = some none)
  (z_list:j0b K mainGlobals "list" = some none)
  (z_max:j0b K mainGlobals "max" = some none)
  (z_min:j0b K mainGlobals "min" = some none)
  (z_range:j0b K mainGlobals "range" = some none)
  (z_tuple:j0b K mainGlobals "tuple" = some none)
  (z_zip:j0b K mainGlobals "zip" = some none)
  (y_SHORT:j0b K mainGlobals "SHORT" = some (some (.int 6000 t_SHORT)))
  (y_NOUGHT:j0b K mainGlobals "NOUGHT" = some (some (.ref A_NOUGHT)))
  (u_NOUGHT:K.lookup A_NOUGHT=some ⟨.type "tuple",td_NOUGHT,.seq #[.int 0 tt0_NOUGHT,.int 1 tt1_NOUGHT] tn_NOUGHT,ts_NOUGHT⟩)
  (h_NoFraction:Gx K "NoFraction" C_NoFraction)
  (h_NoPolynomial:Gx K "NoPolynomial" C_NoPolynomial)
  (h_NoStretch:Gx K "NoStretch" C_NoStretch)
  (h_NoRow:Gx K "NoRow" C_NoRow)
  (h_NoPair:Gx K "NoPair" C_NoPair)
  (h_NoBack:Gx K "NoBack" C_NoBack)
  (h_NoForm:Gx K "NoForm" C_NoForm)
  (h_NoParts:Gx K "NoParts" C_NoParts)
  (h_NoDegree:Gx K "NoDegree" C_NoDegree)
  (h_NoSteps:Gx K "NoSteps" C_NoSteps)
  (h_NoBox:Gx K "NoBox" C_NoBox)
  (h_NoGain:Gx K "NoGain" C_NoGain)
  (h_NoText:Gx K "NoText" C_NoText)
  (h_NoLine:Gx K "NoLine" C_NoLine)
  (h_NoName:Gx K "NoName" C_NoName)
  (h_NoDeed:Gx K "NoDeed" C_NoDeed)
  (h_RestError:Gx K "RestError" C_RestError)
  (kt_NoForm:ba7 K (⟨C_NoFraction,C_NoPolynomial,C_NoStretch,C_NoRow,C_NoPair,C_NoBack,C_NoForm,C_NoParts,C_NoDegree,C_NoSteps,C_NoBox,C_NoGain,C_NoText,C_NoLine,C_NoName,C_NoDeed,C_RestError⟩:CAd) C_NoForm 6) :
  ∃ fd:FuncData,(∀ (s:Shared) (v:Value),BindsTo s fd ⟨[v],[]⟩ [("_law_script",v)])/\∀ base:Heap,K.In base->base.Ns mainGlobals mg->aj5 l.prog w K mg base CX0 (8+1) fa fd ["_law_script"] (aK9 K):=by
 have e:=hfa.symm.trans (v0k X G g_law.a)
 cases e
 obtain ⟨_,F_law⟩:=g_law.F;obtain ⟨oc,od,kV,doc,pm,an,cdv,ct,osl,rfl,_,_⟩:=F_law.ex;have d_common_divisor:Df K mg "common_divisor" G4 ["one","other"] f_common_divisor:=g_common_divisor.df X G λ_ _ _ _ _ _ us hl=>by obtain ⟨_,_,rfl⟩:=P1 hl;rfl
 have d_fraction:Df K mg "fraction" Y9 ["top","bottom"] f_fraction:=g_fraction.df X G λ_ _ _ _ _ _ us hl=>by obtain ⟨_,_,rfl⟩:=P1 hl;rfl
 have d_content_of:Df K mg "content_of" P3 ["wholes"] f_content_of:=g_content_of.df X G λ_ _ _ _ _ _ us hl=>by obtain ⟨_,rfl⟩:=G9 hl;rfl
 have d_cleared:Df K mg "cleared" W9 ["numbers"] f_cleared:=g_cleared.df X G λ_ _ _ _ _ _ us hl=>by obtain ⟨_,rfl⟩:=G9 hl;rfl
 have d__law_low:Df K mg "_law_low" Z1 ["_law_top","_law_bottom"] f__law_low:=g__law_low.df X G λ_ _ _ _ _ _ us hl=>by obtain ⟨_,_,rfl⟩:=P1 hl;rfl
 have d__law_urn:Df K mg "_law_urn" Z0 ["_law_script","_law_at"] f__law_urn:=g__law_urn.df X G λ_ _ _ _ _ _ us hl=>by obtain ⟨_,_,rfl⟩:=P1 hl;rfl
 have d__law_draw:Df K mg "_law_draw" U7 ["_law_urn_here","_law_many"] f__law_draw:=g__law_draw.df X G λ_ _ _ _ _ _ us hl=>by obtain ⟨_,_,rfl⟩:=P1 hl;rfl
 have d__law_number:Df K mg "_law_number" N8 ["_law_urn_here","_law_kind"] f__law_number:=g__law_number.df X G λ_ _ _ _ _ _ us hl=>by obtain ⟨_,_,rfl⟩:=P1 hl;rfl
 have d__law_whole:Df K mg "_law_whole" P4 ["_law_thing"] f__law_whole:=g__law_whole.df X G λ_ _ _ _ _ _ us hl=>by obtain ⟨_,rfl⟩:=G9 hl;rfl
 have d__law_is_number:Df K mg "_law_is_number" G5 ["_law_thing"] f__law_is_number:=g__law_is_number.df X G λ_ _ _ _ _ _ us hl=>by obtain ⟨_,rfl⟩:=G9 hl;rfl
 have d_vectors_of:Df K mg "vectors_of" L8 ["form"] f_vectors_of:=g_vectors_of.df X G λ_ _ _ _ _ _ us hl=>by obtain ⟨_,rfl⟩:=G9 hl;rfl
 have d_cleaned:Df K mg "cleaned" X0 ["row","chosen","at","before"] f_cleaned:=g_cleaned.df X G λ_ _ _ _ _ _ us hl=>by obtain ⟨_,_,_,_,rfl⟩:=bb4 hl;rfl
 have d_upright_to:Df K mg "upright_to" P2 ["vectors","at","before"] f_upright_to:=g_upright_to.df X G λ_ _ _ _ _ _ us hl=>by obtain ⟨_,_,_,rfl⟩:=aw9 hl;rfl
 have d_mixed:Df K mg "mixed" ae3 ["vectors","one","other"] f_mixed:=g_mixed.df X G λ_ _ _ _ _ _ us hl=>by obtain ⟨_,_,_,rfl⟩:=aw9 hl;rfl
 have d_with_square:Df K mg "with_square" N7 ["vectors"] f_with_square:=g_with_square.df X G λ_ _ _ _ _ _ us hl=>by obtain ⟨_,rfl⟩:=G9 hl;rfl
 have d_over_content:Df K mg "over_content" F5 ["wholes"] f_over_content:=g_over_content.df X G λ_ _ _ _ _ _ us hl=>by obtain ⟨_,rfl⟩:=G9 hl;rfl
 have d_squared:Df K mg "squared" Q4 ["vectors"] f_squared:=g_squared.df X G λ_ _ _ _ _ _ us hl=>by obtain ⟨_,rfl⟩:=G9 hl;rfl
 have d_turned:Df K mg "turned" ab6 ["table"] f_turned:=g_turned.df X G λ_ _ _ _ _ _ us hl=>by obtain ⟨_,rfl⟩:=G9 hl;rfl
 have d__law_flipped:Df K mg "_law_flipped" F6 ["_law_table"] f__law_flipped:=g__law_flipped.df X G λ_ _ _ _ _ _ us hl=>by obtain ⟨_,rfl⟩:=G9 hl;rfl
 have d__law_unit:Df K mg "_law_unit" O3 ["_law_n"] f__law_unit:=g__law_unit.df X G λ_ _ _ _ _ _ us hl=>by obtain ⟨_,rfl⟩:=G9 hl;rfl
 have d_squares:Df K mg "squares" Q3 ["table"] f_squares:=g_squares.df X G λ_ _ _ _ _ _ us hl=>by obtain ⟨_,rfl⟩:=G9 hl;rfl
 have d_sign_of_whole:Df K mg "sign_of_whole" K1 ["whole"] f_sign_of_whole:=g_sign_of_whole.df X G λ_ _ _ _ _ _ us hl=>by obtain ⟨_,rfl⟩:=G9 hl;rfl
 have d_sign_of:Df K mg "sign_of" ae2 ["number"] f_sign_of:=g_sign_of.df X G λ_ _ _ _ _ _ us hl=>by obtain ⟨_,rfl⟩:=G9 hl;rfl
 have d__law_which:Df K mg "_law_which" P5 ["_law_e"] f__law_which:=g__law_which.df X G λ_ _ _ _ _ _ us hl=>by obtain ⟨_,rfl⟩:=G9 hl;rfl
 have d_signs:Df K mg "signs" ai1 ["table"] f_signs:=g_signs.df X G λ_ _ _ _ _ _ us hl=>by obtain ⟨_,rfl⟩:=G9 hl;rfl
 have d__law_squares_said:Df K mg "_law_squares_said" B5 ["_law_table"] f__law_squares_said:=g__law_squares_said.df X G λ_ _ _ _ _ _ us hl=>by obtain ⟨_,rfl⟩:=G9 hl;rfl
 have d__law_signs_said:Df K mg "_law_signs_said" E8 ["_law_table"] f__law_signs_said:=g__law_signs_said.df X G λ_ _ _ _ _ _ us hl=>by obtain ⟨_,rfl⟩:=G9 hl;rfl
 have d__law_other:Df K mg "_law_other" P7 ["_law_urn_here","_law_kind"] f__law_other:=g__law_other.df X G λ_ _ _ _ _ _ us hl=>by obtain ⟨_,_,rfl⟩:=P1 hl;rfl
 have d__law_plus:Df K mg "_law_plus" U4 ["_law_one","_law_other_here"] f__law_plus:=g__law_plus.df X G λ_ _ _ _ _ _ us hl=>by obtain ⟨_,_,rfl⟩:=P1 hl;rfl
 have d__law_times:Df K mg "_law_times" P6 ["_law_one","_law_other_here"] f__law_times:=g__law_times.df X G λ_ _ _ _ _ _ us hl=>by obtain ⟨_,_,rfl⟩:=P1 hl;rfl
 have d__law_turn:Df K mg "_law_turn" L5 ["_law_urn_here","_law_kind","_law_n","_law_most"] f__law_turn:=g__law_turn.df X G λ_ _ _ _ _ _ us hl=>by obtain ⟨_,_,_,_,rfl⟩:=bb4 hl;rfl
 have d__law_drawn_table:Df K mg "_law_drawn_table" A4 ["_law_urn_here","_law_kind","_law_n"] f__law_drawn_table:=g__law_drawn_table.df X G λ_ _ _ _ _ _ us hl=>by obtain ⟨_,_,_,rfl⟩:=aw9 hl;rfl
 have d__law_any_form:Df K mg "_law_any_form" K2 ["_law_urn_here","_law_kind","_law_n"] f__law_any_form:=g__law_any_form.df X G λ_ _ _ _ _ _ us hl=>by obtain ⟨_,_,_,rfl⟩:=aw9 hl;rfl
 have d__law_less:Df K mg "_law_less" U6 ["_law_one","_law_other_here"] f__law_less:=g__law_less.df X G λ_ _ _ _ _ _ us hl=>by obtain ⟨_,_,rfl⟩:=P1 hl;rfl
 have d__law_over:Df K mg "_law_over" U5 ["_law_one","_law_other_here"] f__law_over:=g__law_over.df X G λ_ _ _ _ _ _ us hl=>by obtain ⟨_,_,rfl⟩:=P1 hl;rfl
 have d__law_det:Df K mg "_law_det" K6 ["_law_table"] f__law_det:=g__law_det.df X G λ_ _ _ _ _ _ us hl=>by obtain ⟨_,rfl⟩:=G9 hl;rfl
 have d__law_is_table:Df K mg "_law_is_table" C8 ["_law_thing","_law_n"] f__law_is_table:=g__law_is_table.df X G λ_ _ _ _ _ _ us hl=>by obtain ⟨_,_,rfl⟩:=P1 hl;rfl
 have d__law_dot:Df K mg "_law_dot" Z2 ["_law_row","_law_column"] f__law_dot:=g__law_dot.df X G λ_ _ _ _ _ _ us hl=>by obtain ⟨_,_,rfl⟩:=P1 hl;rfl
 have d__law_table_times:Df K mg "_law_table_times" A3 ["_law_one","_law_other_here"] f__law_table_times:=g__law_table_times.df X G λ_ _ _ _ _ _ us hl=>by obtain ⟨_,_,rfl⟩:=P1 hl;rfl
 have d__law_are_squares:Df K mg "_law_are_squares" w9 ["_law_form","_law_told"] f__law_are_squares:=g__law_are_squares.df X G λ_ _ _ _ _ _ us hl=>by obtain ⟨_,_,rfl⟩:=P1 hl;rfl
 have d__law_sign:Df K mg "_law_sign" U3 ["_law_number_here"] f__law_sign:=g__law_sign.df X G λ_ _ _ _ _ _ us hl=>by obtain ⟨_,rfl⟩:=G9 hl;rfl
 have d__law_drawn_form:Df K mg "_law_drawn_form" y4 ["_law_urn_here","_law_kind","_law_n"] f__law_drawn_form:=g__law_drawn_form.df X G λ_ _ _ _ _ _ us hl=>by obtain ⟨_,_,_,rfl⟩:=aw9 hl;rfl
 have d__law_right:Df K mg "_law_right" M0 ["_law_urn_here"] f__law_right:=g__law_right.df X G λ_ _ _ _ _ _ us hl=>by obtain ⟨_,rfl⟩:=G9 hl;rfl
 have n_ValueError:=z0s X G z_ValueError;have n_abs:=z0s X G z_abs;have n_all:=z0s X G z_all;have n_bool:=z0s X G z_bool;have n_enumerate:=z0s X G z_enumerate;have n_int:=z0s X G z_int;have n_isinstance:=z0s X G z_isinstance;have n_len:=z0s X G z_len;have n_list:=z0s X G z_list;have n_max:=z0s X G z_max;have n_min:=z0s X G z_min;have n_range:=z0s X G z_range;have n_tuple:=z0s X G z_tuple;have n_zip:=z0s X G z_zip;have c_SHORT:=v0k X G y_SHORT;have c_NOUGHT:=v0k X G y_NOUGHT;have t_NOUGHT:∀ H:Hp,SqT K H A_NOUGHT [.int 0,.int 1]:=λH=>.inr ⟨_,_,_,u_NOUGHT,rfl,rfl,(show 2<=sizeLine by decide),(.cons ⟨_,rfl⟩ (.cons ⟨_,rfl⟩ .nil))⟩
 have X_NoFraction:=h_NoFraction.t X G;have X_NoPolynomial:=h_NoPolynomial.t X G;have X_NoStretch:=h_NoStretch.t X G;have X_NoRow:=h_NoRow.t X G;have X_NoPair:=h_NoPair.t X G;have X_NoBack:=h_NoBack.t X G;have X_NoForm:=h_NoForm.t X G;have X_NoParts:=h_NoParts.t X G;have X_NoDegree:=h_NoDegree.t X G;have X_NoSteps:=h_NoSteps.t X G;have X_NoBox:=h_NoBox.t X G;have X_NoGain:=h_NoGain.t X G;have X_NoText:=h_NoText.t X G;have X_NoLine:=h_NoLine.t X G;have X_NoName:=h_NoName.t X G;have X_NoDeed:=h_NoDeed.t X G;have X_RestError:=h_RestError.t X G;have XX:XTx K mg (⟨C_NoFraction,C_NoPolynomial,C_NoStretch,C_NoRow,C_NoPair,C_NoBack,C_NoForm,C_NoParts,C_NoDegree,C_NoSteps,C_NoBox,C_NoGain,C_NoText,C_NoLine,C_NoName,C_NoDeed,C_RestError⟩:CAd):=⟨X_NoFraction,X_NoPolynomial,X_NoStretch,X_NoRow,X_NoPair,X_NoBack,X_NoForm,X_NoParts,X_NoDegree,X_NoSteps,X_NoBox,X_NoGain,X_NoText,X_NoLine,X_NoName,X_NoDeed⟩;refine ⟨y0u "law" "law" (ae6 aw2) (M5 aw2) (b9 aw2) .none kV doc pm an cdv ct,λs v=>.of_eq rfl,λbase _ _=>?_⟩
 have G_common_divisor:=ai6 (P:=l.prog) (w:=w) (base:=base) d_common_divisor ⟨_,c_SHORT⟩ n_abs;have G_fraction:=aE3 (P:=l.prog) (w:=w) (base:=base) d_fraction G_common_divisor;have G_content_of:=au4 (P:=l.prog) (w:=w) (base:=base) d_content_of G_common_divisor;have G_cleared:=aI2 (P:=l.prog) (w:=w) (base:=base) d_cleared G_common_divisor;have G__law_low:=aE5 (P:=l.prog) (w:=w) (base:=base) d__law_low n_abs;have G__law_urn:=aE4 (P:=l.prog) (w:=w) (base:=base) d__law_urn n_len n_abs;have G__law_draw:=aA8 (P:=l.prog) (w:=w) (base:=base) d__law_draw;have G__law_whole:=au5 (P:=l.prog) (w:=w) (base:=base) d__law_whole n_isinstance n_int n_bool;have G__law_is_number:=ai7 (P:=l.prog) (w:=w) (base:=base) d__law_is_number G__law_whole G__law_low n_isinstance n_tuple n_len;have G_vectors_of:=au2 (P:=l.prog) (w:=w) (base:=base) d_vectors_of G_cleared n_enumerate n_range n_len;have G_cleaned:=aI3 (P:=l.prog) (w:=w) (base:=base) d_cleaned n_zip;have G_upright_to:=au3 (P:=l.prog) (w:=w) (base:=base) d_upright_to G_cleaned n_enumerate;have G_mixed:=aT8 (P:=l.prog) (w:=w) (base:=base) d_mixed G_common_divisor n_zip;have G_with_square:=aq9 (P:=l.prog) (w:=w) (base:=base) d_with_square G_mixed n_enumerate n_range n_len;have G_over_content:=ao9 (P:=l.prog) (w:=w) (base:=base) d_over_content G_content_of n_list;have G_squared:=aI0 (P:=l.prog) (w:=w) (base:=base) d_squared G_with_square G_content_of G_fraction G_upright_to G_over_content c_NOUGHT t_NOUGHT n_len;have G_turned:=aP4 (P:=l.prog) (w:=w) (base:=base) d_turned n_range n_len;have G__law_flipped:=ap0 (P:=l.prog) (w:=w) (base:=base) d__law_flipped n_range n_len;have G__law_unit:=aA2 (P:=l.prog) (w:=w) (base:=base) d__law_unit n_range n_int;have G_squares:=aH9 (P:=l.prog) (w:=w) (base:=base) d_squares G_turned G_vectors_of G_squared X_NoForm n_range n_len;have G_sign_of_whole:=ak2 (P:=l.prog) (w:=w) (base:=base) d_sign_of_whole;have G_sign_of:=aI1 (P:=l.prog) (w:=w) (base:=base) d_sign_of G_sign_of_whole;have G__law_which:=au6 (P:=l.prog) (w:=w) (base:=base) d__law_which XX n_isinstance n_ValueError;have G_signs:=aT7 (P:=l.prog) (w:=w) (base:=base) d_signs G_squares G_sign_of;have G__law_squares_said:=ac5 (P:=l.prog) (w:=w) (base:=base) d__law_squares_said G_squares G__law_which X_RestError kt_NoForm;have G__law_signs_said:=ag8 (P:=l.prog) (w:=w) (base:=base) d__law_signs_said G_signs G__law_which X_RestError kt_NoForm;have GD__law_number:=ap1 (P:=l.prog) (w:=w) (base:=base) d__law_number G__law_draw G__law_low n_int;have GD__law_other:=ar0 (P:=l.prog) (w:=w) (base:=base) d__law_other G__law_draw GD__law_number;have G__law_plus:=aA5 (P:=l.prog) (w:=w) (base:=base) d__law_plus G__law_low;have G__law_times:=au7 (P:=l.prog) (w:=w) (base:=base) d__law_times G__law_low;have G__law_turn:=aA3 (P:=l.prog) (w:=w) (base:=base) d__law_turn G__law_draw GD__law_other G__law_plus G__law_times G__law_unit n_range n_max n_zip;have G__law_drawn_table:=af4 (P:=l.prog) (w:=w) (base:=base) d__law_drawn_table G__law_draw GD__law_number n_range n_int
 have G__law_any_form:=ak4 (P:=l.prog) (w:=w) (base:=base) d__law_any_form G__law_draw G__law_drawn_table n_range;have G__law_less:=aA7 (P:=l.prog) (w:=w) (base:=base) d__law_less G__law_low;have G__law_over:=aA6 (P:=l.prog) (w:=w) (base:=base) d__law_over G__law_low;have G__law_det:=aE7 (P:=l.prog) (w:=w) (base:=base) d__law_det G__law_times G__law_less G__law_over n_len n_range n_list n_zip;have G__law_is_table:=ak3 (P:=l.prog) (w:=w) (base:=base) d__law_is_table G__law_is_number n_isinstance n_list n_len n_all;have G__law_dot:=aE6 (P:=l.prog) (w:=w) (base:=base) d__law_dot G__law_plus G__law_times n_zip;have G__law_table_times:=af3 (P:=l.prog) (w:=w) (base:=base) d__law_table_times G__law_flipped G__law_dot;have G__law_are_squares:=af5 (P:=l.prog) (w:=w) (base:=base) d__law_are_squares G__law_is_table G__law_is_number G__law_det G__law_table_times G__law_flipped n_isinstance n_tuple n_list n_len n_all n_range n_int;have G__law_sign:=aA4 (P:=l.prog) (w:=w) (base:=base) d__law_sign n_int;have G__law_drawn_form:=ag9 (P:=l.prog) (w:=w) (base:=base) d__law_drawn_form G__law_draw GD__law_other G__law_plus G__law_times G__law_turn G__law_sign n_range n_int;have G__law_right:=au8 (P:=l.prog) (w:=w) (base:=base) d__law_right G__law_draw G__law_any_form G__law_drawn_form G__law_squares_said G__law_are_squares G__law_plus GD__law_other G__law_signs_said n_range n_list;exact bc9 (P:=l.prog) (w:=w) (base:=base) F_law G__law_urn G__law_right n_range n_max n_min n_len
end
theorem bh5 {l:g0y} {q:Program} {loose:List Str} {XP:(Str->Option Value)->Heap->Prop} {YP:World->Heap->Prop} {d:DefRec} {K:Params->q0a} (hn:l.most=some 63) (hdf:d.params.defaults=[])
  (hY:∀ (w:World) (h:Heap),YP w h->(K w.params).In h)
  (F:∀ (w:World) (mg:Str->Option Value) (fa:Addr) (h:Heap),(K w.params).In h->h.Ns mainGlobals mg->mg d.name=some (.ref fa) ->
   ∃ fd:FuncData,(∀ (s:Shared) (u:Value),BindsTo s fd ⟨[u],[]⟩ [("_law_script",u)])/\∀ base:Heap,(K w.params).In base->base.Ns mainGlobals mg->aj5 l.prog w (K w.params) mg base CX0 (8+1) fa fd ["_law_script"] (aK9 (K w.params))) :
  PySem.W.WalkO q loose XP YP l.row.toRowW d [] (λf vs=>PySem.call f vs) :=
 L2.aK1 (n:=63) (k:=(8+1)) (x := "_law_script") (CX:=λ_=>CX0) (sp:=λw=>aK9 (K w.params)) hn (by decide) hdf ⟨rfl,by decide,by decide⟩ hY F (λ_ _ a ns hl _ hS=>⟨a,ns,rfl,hS,hl,λ_=>rfl⟩) λ_ _ _ _ _ z=>z
end R
local macro_rules | `(tactic|left) => `(tactic|exact ⟨by k_is, _, L2.be1 (by k_is) (by k_is) (by k_is)⟩)
local macro_rules | `(tactic|right) => `(tactic|exact ⟨by k_is, by k_exc, by (refine ⟨?_, ?_, ?_, ?_, ?_, ?_⟩ <;> first | k_is | kernel_rfl)⟩)
open PySem PySem.W PyProof.Rows
set_option maxRecDepth 100000 in
theorem PySem.Challenge.cw_restward_k22_forms_led_to_squares_holds : PySem.Challenge.rw_restward_k22_forms_led_to_squares.Holds := by
  w_on;o_law;k_head;(case hw=>w_witness2)
  k_fill
  refine R.bh5 (l:=PySem.Challenge.rw_restward_k22_forms_led_to_squares) rfl rfl (λw h Y=>PySem.W.kIn_of Y) ?F
  case F =>
    intro w mg fa h KX G hmg
    refine' R.be8 KX G hmg ?g_common_divisor ?g_fraction ?g_content_of ?g_cleared ?g__law_low ?g__law_urn ?g__law_draw ?g__law_number ?g__law_whole ?g__law_is_number ?g_vectors_of ?g_cleaned ?g_upright_to ?g_mixed ?g_with_square ?g_over_content ?g_squared ?g_turned ?g__law_flipped ?g__law_unit ?g_squares ?g_sign_of_whole ?g_sign_of ?g__law_which ?g_signs ?g__law_squares_said ?g__law_signs_said ?g__law_other ?g__law_plus ?g__law_times ?g__law_turn ?g__law_drawn_table ?g__law_any_form ?g__law_less ?g__law_over ?g__law_det ?g__law_is_table ?g__law_dot ?g__law_table_times ?g__law_are_squares ?g__law_sign ?g__law_drawn_form ?g__law_right ?g_law ?z_ValueError ?z_abs ?z_all ?z_bool ?z_enumerate ?z_int ?z_isinstance ?z_len ?z_list ?z_max ?z_min ?z_range ?z_tuple ?z_zip ?y_SHORT ?y_NOUGHT ?u_NOUGHT ?h_NoFraction ?h_NoPolynomial ?h_NoStretch ?h_NoRow ?h_NoPair ?h_NoBack ?h_NoForm ?h_NoParts ?h_NoDegree ?h_NoSteps ?h_NoBox ?h_NoGain ?h_NoText ?h_NoLine ?h_NoName ?h_NoDeed ?h_RestError ?kt_NoForm
    (case g_common_divisor=>left)
    (case g_fraction=>left)
    (case g_content_of=>left)
    (case g_cleared=>left)
    (case g__law_low=>left)
    (case g__law_urn=>left)
    (case g__law_draw=>left)
    (case g__law_number=>left)
    (case g__law_whole=>left)
    (case g__law_is_number=>left)
    (case g_vectors_of=>left)
    (case g_cleaned=>left)
    (case g_upright_to=>left)
    (case g_mixed=>left)
    (case g_with_square=>left)
    (case g_over_content=>left)
    (case g_squared=>left)
    (case g_turned=>left)
    (case g__law_flipped=>left)
    (case g__law_unit=>left)
    (case g_squares=>left)
    (case g_sign_of_whole=>left)
    (case g_sign_of=>left)
    (case g__law_which=>left)
    (case g_signs=>left)
    (case g__law_squares_said=>left)
    (case g__law_signs_said=>left)
    (case g__law_other=>left)
    (case g__law_plus=>left)
    (case g__law_times=>left)
    (case g__law_turn=>left)
    (case g__law_drawn_table=>left)
    (case g__law_any_form=>left)
    (case g__law_less=>left)
    (case g__law_over=>left)
    (case g__law_det=>left)
    (case g__law_is_table=>left)
    (case g__law_dot=>left)
    (case g__law_table_times=>left)
    (case g__law_are_squares=>left)
    (case g__law_sign=>left)
    (case g__law_drawn_form=>left)
    (case g__law_right=>left)
    (case g_law=>left)
    (case z_ValueError=>k_is)
    (case z_abs=>k_is)
    (case z_all=>k_is)
    (case z_bool=>k_is)
    (case z_enumerate=>k_is)
    (case z_int=>k_is)
    (case z_isinstance=>k_is)
    (case z_len=>k_is)
    (case z_list=>k_is)
    (case z_max=>k_is)
    (case z_min=>k_is)
    (case z_range=>k_is)
    (case z_tuple=>k_is)
    (case z_zip=>k_is)
    (case y_SHORT=>k_is)
    (case y_NOUGHT=>k_is);(case u_NOUGHT=>k_is)
    (case h_NoFraction=>right)
    (case h_NoPolynomial=>right)
    (case h_NoStretch=>right)
    (case h_NoRow=>right)
    (case h_NoPair=>right)
    (case h_NoBack=>right)
    (case h_NoForm=>right)
    (case h_NoParts=>right)
    (case h_NoDegree=>right)
    (case h_NoSteps=>right)
    (case h_NoBox=>right)
    (case h_NoGain=>right)
    (case h_NoText=>right)
    (case h_NoLine=>right)
    (case h_NoName=>right)
    (case h_NoDeed=>right)
    (case h_RestError=>right)
    (case kt_NoForm=>(refine ⟨?_,?_,?_,?_,?_,?_,?_,?_,?_,?_,?_,?_,?_,?_,?_,?_,?_,?_,?_⟩ <;> first | kernel_rfl | (refine ⟨?_,?_,?_,?_,?_,?_⟩ <;> first | k_is | kernel_rfl)))
